/- The laws' walks: how much room a log has. -/
import Derived.Test.YtabknmlnlhflmaaDoorVL3
namespace Go.Proofs.YtabknmlnlhflmaaDoor
open Go.ChangeShapes Go.WideShapes Go.ChangeAt Go.RowKit Go.Joins Dm Fr Vl

theorem append_n (P D n : Nat) (lg : Lg) (m : Dk) (K F : Nat → Prop) (Ab : Option Addr) (cb : Nat) (b : List UInt8) (hn : b.length = n) (KS : Nat → Prop) (hG : Vl.Good lg m) (hb : n ≤ cb) (hcb : cb ≤ maxLen) (hz : Ab = none → cb = 0) (w0 w : World) (hU : Up w0 w P D lg m K F) (hB : BIn KS w Ab b) (hKS : ∀ k, KS k → ¬ F k) (hH : Halves w0) :
    Calls Tryd.prog 9 #[.pointer (some ⟨P, 0, none⟩), .slice Ab n cb] w fun e w' => e = .returned (.int .i64 (appendM lg m b).1) ∧ ∃ K' F', Up w0 w' P D (appendM lg m b).2.1 (appendM lg m b).2.2 K' F' := by
  subst hn
  exact (append_any P D lg m K F KS Ab cb b hG.gen hb hcb hz (by rw [hG.quiet.waits]; simp) w hU.log hU.disk hU.apart hB hKS (hH.up hU)).mono fun e w' ⟨h1, h2⟩ => ⟨h1, hU.to h2⟩
theorem compact_n (P D n : Nat) (lg : Lg) (m : Dk) (K F : Nat → Prop) (Ab : Option Addr) (cb : Nat) (b : List UInt8) (hn : b.length = n) (KS : Nat → Prop) (hG : Vl.Good lg m) (hb : n ≤ cb) (hcb : cb ≤ maxLen) (hz : Ab = none → cb = 0) (w0 w : World) (hU : Up w0 w P D lg m K F) (hB : BIn KS w Ab b) (hKS : ∀ k, KS k → ¬ F k) (hH : Halves w0) :
    Calls Tryd.prog 10 #[.pointer (some ⟨P, 0, none⟩), .slice Ab n cb] w fun e w' => e = .returned (.int .i64 (compactM lg m b).1) ∧ ∃ K' F', Up w0 w' P D (compactM lg m b).2.1 (compactM lg m b).2.2 K' F' := by
  subst hn
  exact (compact_any P D lg m K F KS Ab cb b hb hcb hz (by rw [hG.quiet.waits]; simp) w hU.log hU.disk hU.apart hB hKS (hH.up hU)).mono fun e w' ⟨h1, h2⟩ => ⟨h1, hU.to h2⟩
/-- Bytes 0 that are made right ahead of a call. -/
theorem made_in {w : World} {cs : Array Value} {n : Nat} {t : TypeId} (h : BAt (w.alloc (.cells cs t)) (some ⟨w.heap.size, 0, none⟩) (zeros n)) : BIn (fun k => k = w.heap.size) (w.alloc (.cells cs t)) (some ⟨w.heap.size, 0, none⟩) (zeros n) :=
  ⟨h, fun _ a ha => by obtain rfl := Option.some.inj ha; rfl⟩
theorem make_noughts8 (n : Nat) (hn : n ≤ 255) : ∃ cs : Array Value, (∀ w' : World, (Instr.makeSlice 23 (.int .u8 n) (.int .u8 n)).run Tryd.prog w' = .ok (.slice (some ⟨w'.heap.size, 0, none⟩) n n) (w'.alloc (.cells cs 5))) ∧
    ∀ w' : World, BAt (w'.alloc (.cells cs 5)) (some ⟨w'.heap.size, 0, none⟩) (zeros n) := by
  obtain ⟨i0, hi0, hq0, hq1, hq2⟩ := info_parts u8_info
  refine ⟨(bl (zeros n)).toArray, fun w' => ?_, fun w' => BAt.new w' (zeros n) 5 (0, 0)⟩
  have hm := run_make (P := Tryd.prog) w' 23 5 i0 _ Tryd.underlying23 hi0 hq0 .u8 .u8 n n (by omega) (Int.le_refl _) (by rw [hq2]; omega) (by omega)
  simp only [hq1, Int.toNat_natCast, Nat.mul_one, Value.cells, madeBytes] at hm
  exact hm
theorem tail_compact {lg : Lg} {m : Dk} (h : Vl.Good lg m) (hg : lg.gen = 1) (h16 : 16 ≤ lg.half) {s : List UInt8} (hs : s.length = lg.half - 16) (hx : lg.half ≤ 1000000 := by omega) :
    ∃ lg' m', compactM lg m s = (0, lg', m') ∧ (lg'.gen : Int) = 2 ∧ roomI lg'.half lg'.end_ = -1 := by
  refine ⟨_, _, by rw [compactM_good h (by unfold roomI; omega) (by omega)]; exact beginM_good h.quiet h.half _ (by omega) (by omega) (by omega), by show ((lg.gen + 1 : Nat) : Int) = 2; omega, by show roomI lg.half ((16 + s.length : Nat) : Int) = -1; unfold roomI; omega⟩
theorem roomI_small {half e : Nat} (h : half ≤ 1000000) (he : e ≤ half) : roomI half e = max ((half : Int) - e - 16) (-1) := by unfold roomI; omega

set_option maxRecDepth 100000 in
set_option maxHeartbeats 4000000 in
theorem walRoom_walk (sz : Nat) (hsz : sz < 65536) (l : List UInt8) (A : Option Addr) (c : Nat) (hlc : l.length ≤ 9223372036854775807) (w : World) (hB : BAt w A l) (hH : Halves w) :
    Calls Tryd.prog 3 #[.int .u16 sz, .slice A l.length c] w fun e w' => e = .returned (.bool true) ∧ Below w.heap.size w w' := by
  have HH := Lib.hid hH
  have HBl := Lib.hid hB
  obtain ⟨n, hn⟩ : ∃ n, sz % 2001 = n := ⟨_, rfl⟩
  have hw0 : IntKind.i64.wrap (sz : Int) = sz := by rw [IntKind.wrap_i64]; omega
  have hw1 : (sz : Int) % 2001 = n := by omega
  have hw2 : (sz : Int).tmod 2001 = n := by rw [Int.tmod_eq_emod_of_nonneg (by omega)]; exact hw1
  have hn2 : n ≤ 2000 := by omega
  have HN := Lib.hid (disk_new_any n (by omega) w)
  rw [show (min (max (n : Int) 0) 4194304).toNat = n by omega] at HN
  have HF0 := Lib.hid (fixed7_any w HH.out)
  obtain ⟨half, hhf⟩ : ∃ half, n / 2 = half := ⟨_, rfl⟩
  have hw3 : (n : Int) / 2 = half := by omega
  have hw4 : (n : Int).tdiv 2 = half := by rw [Int.tdiv_eq_ediv_of_nonneg (by omega)]; exact hw3
  have hh2 : half ≤ 1000 := by omega
  have hw5 : IntKind.i64.wrap (half : Int) = half := by rw [IntKind.wrap_i64]; omega
  clear hH hB hn
  by_cases h100 : 100 < l.length
  · have hz : (100 : Int) < l.length := by omega
    clear hhf
    go_enter Tryd.func3, Tryd.ntmps3
    go_wp2_with fail
    go_at_call 5
    refine HF0.out.mono ?_
    rintro e w' ⟨rfl, hb⟩
    go_wp2_with fail
    go_ret
    exact ⟨rfl, hb⟩
  have hz100 : ¬ (100 : Int) < l.length := by omega
  by_cases h64 : half < 64
  · have hz64 : (half : Int) < 64 := by omega
    have HHF := Lib.hid hhf
    clear hhf
    go_enter Tryd.func3, Tryd.ntmps3
    go_wp2_with fail
    go_at_call 6
    refine HN.out.mono ?_
    rintro e w1 ⟨D, F, rfl, h1, b1, f1⟩
    have HO := Lib.hid (open_small D (Dk.new n) F (by simp [Dk.new]; rw [HHF.out]; exact h64) w1 h1 rfl)
    have B1 := Lib.hid b1
    clear h1 b1 f1
    go_wp2_with fail
    go_at_call 7
    refine HO.out.mono ?_
    rintro e w2 ⟨rfl, b2⟩
    have B2 := Lib.hid (B1.out.trans (b2.mono B1.out.size))
    have HF2 := Lib.hid (fixed7_any w2 (HH.out.below B2.out))
    clear b2
    go_wp2_with fail
    go_at_call 5
    refine HF2.out.mono ?_
    rintro e w3 ⟨rfl, hb⟩
    go_wp2_with fail
    go_ret
    exact ⟨rfl, B2.out.trans (hb.mono B2.out.size)⟩
  have hz64 : ¬ (half : Int) < 64 := by omega
  have HHF := Lib.hid hhf
  have hw6 : IntKind.i64.wrap ((half : Int) - 32) = half - 32 := by rw [IntKind.wrap_i64]; omega
  clear hhf
  go_enter Tryd.func3, Tryd.ntmps3
  go_wp2_with fail
  go_at_call 6
  refine HN.out.mono ?_
  rintro e w1 ⟨D, F, rfl, h1, b1, f1⟩
  have HO := Lib.hid (open_new n D F (by omega) (by rw [HHF.out]; omega) w1 h1 (HH.out.below b1))
  have HU : Hid (∀ w2 P, OpenTo w1 w2 P D (newL n) (newD n) F → ∃ K F', Up w w2 P D (newL n) (newD n) K F') := fun w2 P h => new_up n (by omega) (by rw [HHF.out]; omega) w HH.out w1 w2 D P F h1 b1 f1 h
  clear h1 b1 f1
  go_wp2_with fail
  go_at_call 7
  refine HO.out.mono ?_
  rintro e w2 ⟨P, rfl, hO⟩
  have HU2 := Lib.hid (HU.out w2 P hO)
  have HG0 := Lib.hid (new_good (n := n) (by omega) (by rw [HHF.out]; omega))
  clear hO
  go_wp2_with fail
  go_loopw [9, 44] (fun s9 s44 wr => ∃ (i : Nat) (left : Int) (lg : Lg) (m : Dk), i ≤ l.length ∧ s44 = .int .i64 i ∧ s9 = .int .i64 left ∧ -16 ≤ left ∧ left ≤ 1000 ∧ Hid (left = (half : Int) - lg.end_ - 16) ∧ Hid (∃ K F', Up w wr P D lg m K F') ∧ Hid (Vl.Good lg m) ∧ Hid (lg.half = half) ∧ Hid (lg.gen = 1)) (fun _ s44 _ => l.length - (intOf s44).toNat)
  case atStart => exact ⟨0, (half : Int) - 32, newL n, newD n, Nat.zero_le _, rfl, rfl, by omega, by omega, by show _ = (half : Int) - (16 : Nat) - 16; omega, HU2.out, HG0.out, HHF.out, rfl⟩
  case round =>
    obtain ⟨i, left, lg, m, hi, rfl, rfl, hl1, hl2, HL, HUp, HG, HHf, HGn⟩ := hrel
    obtain ⟨K, F', hU⟩ := HUp.out
    have HUw := Lib.hid hU
    have hend : lg.end_ ≤ half := by rw [← HHf.out]; exact HG.out.ok.end_
    have hroom : roomI lg.half lg.end_ = max left (-1) := by rw [roomI_small (by rw [HHf.out]; omega) HG.out.ok.end_, HL.out, HHf.out]
    obtain ⟨r, hr⟩ : ∃ r, max left (-1) = r := ⟨_, rfl⟩
    have hq : (if left < -1 then -1 else left) = r := by split <;> omega
    have HRo := Lib.hid (Room_any P D lg K wr hU.log)
    rw [hroom, hr] at HRo
    have HR := Lib.hid (hroom.trans hr)
    have hways : (-1 ≤ left ∧ left = r) ∨ (left < -1 ∧ r = -1) := by omega
    clear hU HUp hroom hr
    by_cases hlt : i < l.length
    · have hiz : (i : Int) < l.length := by omega
      have hw9 : IntKind.i64.wrap ((i : Int) + 1) = i + 1 := by rw [IntKind.wrap_i64]; omega
      obtain ⟨b, off, e0, hbl, hcl⟩ := HBl.out.at_ hlt
      have hc2 := cell_old hcl HUw.out.below
      obtain ⟨k, hk⟩ : ∃ k, l[i].toNat = k := ⟨_, rfl⟩
      have hk8 : k < 256 := by rw [← hk]; exact l[i].toNat_lt
      rw [hk] at hc2
      obtain ⟨cs, hmk, hcs⟩ := make_noughts8 k (by omega)
      have HAP := Lib.hid (append_n P D k lg m K F' (some ⟨wr.heap.size, 0, none⟩) k (zeros k) (zeros_len _) (fun j => j = wr.heap.size) HG.out (Nat.le_refl _) (by unfold maxLen; omega) (fun h => by cases h) w (wr.alloc (.cells cs 5)) (HUw.out.grow ((Below.refl _ wr).alloc (Nat.le_refl _) _)) (made_in (hcs wr)) (fun j hj hF => by have := HUw.out.disk.lt j hF; omega) HH.out)
      have hw10 : IntKind.i64.wrap (k : Int) = k := by rw [IntKind.wrap_i64]; omega
      have hw11 : IntKind.i64.wrap (16 + (k : Int)) = 16 + k := by rw [IntKind.wrap_i64]; omega
      have hw12 : IntKind.i64.wrap (left - (16 + (k : Int))) = left - (16 + k) := by rw [IntKind.wrap_i64]; omega
      subst e0
      clear hcl hk hcs
      go_wp2_with fail
      go_at_call 8
      refine HRo.out.mono ?_
      rintro e w' ⟨rfl, rfl⟩
      rcases hways with ⟨hq1, rfl⟩ | ⟨hq1, rfl⟩
      · by_cases hfull : left < k
        · have hAF := appendM_full HG.out (b := zeros k) (by rw [HR.out, zeros_len]; exact hfull)
          rw [hAF] at HAP
          go_wp2_with fail
          go_at_call 9
          refine HAP.out.mono ?_
          rintro e w' ⟨rfl, hU⟩
          have HU3 := Lib.hid hU
          go_wp2_with fail
          go_roundw
          case rel => exact ⟨i + 1, left, lg, m, hlt, by go_num, rfl, hl1, hl2, HL.out, HU3.out, HG.out, HHf.out, HGn.out⟩
          case measure => simp [intOf]; omega
        · have hnf : ¬ roomI lg.half lg.end_ < (zeros k).length := by rw [HR.out, zeros_len]; exact hfull
          have hAG := appendM_good HG.out hnf
          rw [hAG] at HAP
          have HG2 := Lib.hid (HG.out.append hnf)
          have HZ := Lib.hid (zeros_len k)
          go_wp2_with fail
          go_at_call 9
          refine HAP.out.mono ?_
          rintro e w' ⟨rfl, hU⟩
          have HU3 := Lib.hid hU
          go_wp2_with fail
          go_roundw
          case rel => exact ⟨i + 1, left - (16 + k), _, _, hlt, by go_num, rfl, by omega, by omega, by show _ = (half : Int) - ((lg.end_ + (16 + (zeros k).length) : Nat) : Int) - 16; rw [HZ.out, HL.out]; omega, HU3.out, HG2.out, HHf.out, HGn.out⟩
          case measure => simp [intOf]; omega
      · have hfull : left < k := by omega
        have hAF := appendM_full HG.out (b := zeros k) (by rw [HR.out, zeros_len]; omega)
        rw [hAF] at HAP
        go_wp2_with fail
        go_at_call 9
        refine HAP.out.mono ?_
        rintro e w' ⟨rfl, hU⟩
        have HU3 := Lib.hid hU
        go_wp2_with fail
        go_roundw
        case rel => exact ⟨i + 1, left, lg, m, hlt, by go_num, rfl, hl1, hl2, HL.out, HU3.out, HG.out, HHf.out, HGn.out⟩
        case measure => simp [intOf]; omega
    · have hiz : ¬ (i : Int) < l.length := by omega
      obtain rfl : i = l.length := by omega
      have h16 : (half : Int) - 16 < 4294967296 := by omega
      go_upto_region 22 with fail
      go_cut [87] from 88 (fun s87 wx => s87 = .bool false ∧ Hid (∃ K F', Up w wx P D lg m K F'))
      case first =>
        go_wp2_with fail
        go_at_call 8
        refine HRo.out.mono ?_
        rintro e w' ⟨rfl, rfl⟩
        rcases hways with ⟨hq1, rfl⟩ | ⟨hq1, rfl⟩
        · by_cases hneg : left = -1
          · subst hneg
            go_wp2_with fail
            go_meet
            case rel => exact ⟨rfl, K, F', HUw.out⟩
          · obtain ⟨a, rfl⟩ : ∃ a : Nat, left = a := ⟨left.toNat, by omega⟩
            obtain ⟨a1, ha1⟩ : ∃ a1, a + 1 = a1 := ⟨_, rfl⟩
            obtain ⟨cs1, hmk1, hcs1⟩ := make_noughts a1 (by omega)
            have HAP := Lib.hid (append_n P D a1 lg m K F' (some ⟨wr.heap.size, 0, none⟩) a1 (zeros a1) (zeros_len _) (fun j => j = wr.heap.size) HG.out (Nat.le_refl _) (by unfold maxLen; omega) (fun h => by cases h) w (wr.alloc (.cells cs1 5)) (HUw.out.grow ((Below.refl _ wr).alloc (Nat.le_refl _) _)) (made_in (hcs1 wr)) (fun j hj hF => by have := HUw.out.disk.lt j hF; omega) HH.out)
            rw [appendM_full HG.out (b := zeros a1) (by rw [HR.out, zeros_len]; omega)] at HAP
            have hw9 : IntKind.i64.wrap ((a : Int) + 1) = (a1 : Int) := by rw [IntKind.wrap_i64]; omega
            clear ha1
            go_wp2_with fail
            go_at_call 9
            refine HAP.out.mono ?_
            rintro e w' ⟨rfl, hU⟩
            have HU3 := Lib.hid hU
            go_wp2_with fail
            go_meet
            case rel => exact ⟨rfl, HU3.out⟩
        · have hneg : ¬ 0 ≤ left := by omega
          go_wp2_with fail
          go_meet
          case rel => exact ⟨rfl, K, F', HUw.out⟩
      case rest =>
        obtain ⟨rfl, hcut⟩ := hcut
        obtain ⟨K2, F2, hU2⟩ := hcut.out
        have HUa := Lib.hid hU2
        have HF3 := Lib.hid (fixed7_any wc (HH.out.up hU2))
        obtain ⟨a, ha⟩ : ∃ a, half - 15 = a := ⟨_, rfl⟩
        obtain ⟨b, hb⟩ : ∃ b, half - 16 = b := ⟨_, rfl⟩
        have hw15 : IntKind.i64.wrap ((half : Int) - 15) = (a : Int) := by rw [IntKind.wrap_i64]; omega
        have hw16 : IntKind.i64.wrap ((half : Int) - 16) = (b : Int) := by rw [IntKind.wrap_i64]; omega
        have hf1 : Hid (roomI lg.half 0 < (zeros a).length) := by show _ < _; rw [zeros_len, HHf.out]; unfold roomI; omega
        obtain ⟨lg', m', hcm, hgen', hroom'⟩ := tail_compact HG.out HGn.out (by rw [HHf.out]; omega) (s := zeros b) (by rw [zeros_len, HHf.out]; exact hb.symm) (by rw [HHf.out]; omega)
        have HCM := Lib.hid hcm
        have HGN := Lib.hid hgen'
        have HRM := Lib.hid hroom'
        obtain ⟨cs1, hmk1, hcs1⟩ := make_noughts a (by omega)
        obtain ⟨cs2, hmk2, hcs2⟩ := make_noughts b (by omega)
        have HCS1 := Lib.hid hcs1
        have HCS2 := Lib.hid hcs2
        have ha2 : (a : Int) ≤ 4194304 := by omega
        have hb2 : (b : Int) ≤ 4194304 := by omega
        clear hcut hU2 ha hb hcm hgen' hroom' hcs1 hcs2 hways
        go_wp2_with fail
        go_at_call 5
        refine HF3.out.mono ?_
        rintro e w3 ⟨rfl, hb3⟩
        have HU4 := Lib.hid (HUa.out.grow hb3)
        have HC1 := Lib.hid (compact_n P D a lg m K2 F2 (some ⟨w3.heap.size, 0, none⟩) a (zeros a) (zeros_len _) (fun j => j = w3.heap.size) HG.out (Nat.le_refl _) (by unfold maxLen; omega) (fun h => by cases h) w (w3.alloc (.cells cs1 5)) (HU4.out.grow ((Below.refl _ w3).alloc (Nat.le_refl _) _)) (made_in (HCS1.out w3)) (fun j hj hF => by have := HU4.out.disk.lt j hF; omega) HH.out)
        rw [compactM_full HG.out hf1.out] at HC1
        clear hb3
        go_wp2_with fail
        go_at_call 10
        refine HC1.out.mono ?_
        rintro e w4 ⟨rfl, K3, F3, hU5⟩
        have HU5 := Lib.hid hU5
        have HC2 := Lib.hid (compact_n P D b lg m K3 F3 (some ⟨w4.heap.size, 0, none⟩) b (zeros b) (zeros_len _) (fun j => j = w4.heap.size) HG.out (Nat.le_refl _) (by unfold maxLen; omega) (fun h => by cases h) w (w4.alloc (.cells cs2 5)) (HU5.out.grow ((Below.refl _ w4).alloc (Nat.le_refl _) _)) (made_in (HCS2.out w4)) (fun j hj hF => by have := HU5.out.disk.lt j hF; omega) HH.out)
        rw [HCM.out] at HC2
        clear hU5
        go_wp2_with fail
        go_at_call 10
        refine HC2.out.mono ?_
        rintro e w5 ⟨rfl, K4, F4, hU6⟩
        have HU6 := Lib.hid hU6
        have HGe := Lib.hid (Gen_any P D lg' K4 w5 hU6.log)
        have HRo2 := Lib.hid (Room_any P D lg' K4 w5 hU6.log)
        rw [HGN.out] at HGe
        rw [HRM.out] at HRo2
        clear hU6
        go_wp2_with fail
        go_at_call 11
        refine HGe.out.mono ?_
        rintro e w' ⟨rfl, rfl⟩
        go_wp2_with fail
        go_at_call 8
        refine HRo2.out.mono ?_
        rintro e w' ⟨rfl, rfl⟩
        go_wp2_with fail
        go_ret
        exact ⟨rfl, HU6.out.below⟩
end Go.Proofs.YtabknmlnlhflmaaDoor
