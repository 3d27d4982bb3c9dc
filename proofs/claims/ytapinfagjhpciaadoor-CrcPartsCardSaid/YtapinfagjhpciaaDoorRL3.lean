/- The laws' walks: parts. -/
import Derived.Test.YtapinfagjhpciaaDoorRL1
import Derived.Deep.RegionWith
import Derived.BigRegion
import Derived.Deep.RegionHeld3
namespace Go.Proofs.YtapinfagjhpciaaDoor
open Go.ChangeShapes Go.WideShapes Go.ChangeAt Go.RowKit Rc

theorem one_byte (x : Int) (h0 : 0 ≤ x) (h1 : x ≤ 255) : ∃ c : UInt8, (c.toNat : Int) = x := ⟨UInt8.ofNat x.toNat, by simp [UInt8.toNat_ofNat']; omega⟩
theorem more_one_any (r : Nat) (hr : r < 4294967296) (c : UInt8) (x : Int) (hx : (c.toNat : Int) = x) (b cap : Nat) (w : World) (hb : b < w.heap.size) (hc : w.cell? ⟨b, 0, none⟩ = some (.int .u8 x)) (hH : Halves w) :
    Calls Tryd.prog 9 #[.int .u32 r, .slice (some ⟨b, 0, none⟩) 1 cap] w fun e w' => e = .returned (.int .u32 (more r [c.toNat] : Nat)) ∧ w = w' := by
  refine more_any r hr [c] (some ⟨b, 0, none⟩) cap (by simp) w (fun _ => ⟨b, 0, rfl, hb, fun i d hi => ?_⟩) hH
  match i, hi with
  | 0, hi =>
    obtain rfl : c = d := by simpa using hi
    rw [hx]; exact hc
  | i + 1, hi => simp at hi

theorem sum_nil : Rc.sum (bn []) = 0 := by decide +kernel
theorem Halves.on {w w' : World} (h : Halves w) {B : Nat} (hb : Below B w w') (hB : w.heap.size ≤ B) : Halves w' := h.below (hb.mono hB)

set_option maxRecDepth 100000 in
set_option maxHeartbeats 4000000 in
theorem crcParts_walk (l : List UInt8) (A : Option Addr) (ca : Nat) (cut x y : Int) (w : World) (hl : l.length ≤ ca) (hca : ca ≤ 9223372036854775807) (hcut : 0 ≤ cut ∧ cut ≤ 65535) (hx : 0 ≤ x ∧ x ≤ 255) (hy : 0 ≤ y ∧ y ≤ 255) (hA : BAt w A l) (hH : Halves w) :
    Calls Tryd.prog 5 #[.slice A l.length ca, .int .u16 cut, .int .u8 x, .int .u8 y] w fun e w' => e = .returned (.bool true) ∧ Below w.heap.size w w' := by
  have HH := Lib.hid hH
  clear hH
  by_cases h1 : 3000 < l.length
  · have HF := Lib.hid (fixed4_any w HH.out)
    have hz : decide ((3000 : Int) < l.length) = true := decide_eq_true (by omega)
    clear h1
    go_enter Tryd.func5, Tryd.ntmps5
    go_wp2_with fail
    go_at_call 6
    refine HF.out.mono ?_
    rintro e w' ⟨rfl, hb⟩
    go_wp2_with fail
    go_ret
    exact ⟨rfl, hb⟩
  have hz1 : decide ((3000 : Int) < l.length) = false := decide_eq_false (by omega)
  have hs := sum_lt (bn l)
  have HF := Lib.hid (fun g : Gr w => fixed4_any g.val (HH.out.gr g))
  have HS := Lib.hid (fun g : Gr w => sum_any l A ca (by omega) g.val (hA.gr g) (HH.out.gr g))
  obtain ⟨k, hk⟩ : ∃ k : Nat, cut.tmod ((l.length : Int) + 1) = k := ⟨(cut % (l.length + 1)).toNat, by
    rw [Int.tmod_eq_emod_of_nonneg hcut.1]; have := Int.emod_nonneg cut (show (l.length : Int) + 1 ≠ 0 by omega); omega⟩
  have hkl : k ≤ l.length := by
    have := Int.emod_lt_of_pos cut (show (0 : Int) < l.length + 1 by omega)
    rw [Int.tmod_eq_emod_of_nonneg hcut.1] at hk; omega
  obtain ⟨c, hc⟩ := one_byte x hx.1 hx.2
  obtain ⟨d, hd⟩ := one_byte y hy.1 hy.2
  obtain ⟨A1, A2, hs1, hs2, hB1, hB2⟩ := hA.cut (P := Tryd.prog) (t := 22) hkl hl (by kernel_rfl) (fun w' => by kernel_rfl)
  have HA := Lib.hid hA
  have HT := Lib.hid (fun g : Gr w => sum_n (l.take k) k (by simp; omega) A1 ca (by omega) g.val (hB1.gr g) (HH.out.gr g))
  have hm : more (Rc.sum (bn (l.take k))) (bn (l.drop k)) = Rc.sum (bn l) := by
    rw [more_sum _ _ (bn_lt _)]; unfold bn; rw [← List.map_append, List.take_append_drop]
  have HD := Lib.hid (fun g : Gr w => more_n (Rc.sum (bn (l.take k))) (sum_lt _) (l.drop k) (l.length - k) (by simp) A2 (ca - k) (by omega) g.val (hB2.gr g) (HH.out.gr g))
  rw [hm] at HD
  have HX := Lib.hid (fun (b : Nat) (W : World) (hb : b < W.heap.size) (hc' : W.cell? ⟨b, 0, none⟩ = some (.int .u8 x)) (hH : Halves W) => more_one_any (Rc.sum (bn l)) hs c x hc b 1 W hb hc' hH)
  have HY := Lib.hid (fun (b : Nat) (W : World) (hb : b < W.heap.size) (hc' : W.cell? ⟨b, 0, none⟩ = some (.int .u8 y)) (hH : Halves W) => more_one_any (Rc.sum (bn l)) hs d y hd b 1 W hb hc' hH)
  have hxy : (((more (Rc.sum (bn l)) [c.toNat] : Nat) : Int) == ((more (Rc.sum (bn l)) [d.toNat] : Nat) : Int)) = (x == y) := by
    rw [Bool.eq_iff_iff]
    simp only [beq_iff_eq]
    constructor
    · intro h
      have := more_one hs c.toNat_lt d.toNat_lt (by omega)
      omega
    · intro h
      rw [show c.toNat = d.toNat by omega]
  generalize Rc.sum (bn (l.take k)) = sk at *
  have HXY := Lib.hid hxy
  clear hA hm hxy hB1 hB2 hc hd
  go_enter Tryd.func5, Tryd.ntmps5
  go_wp2_with fail
  have HK := Lib.hid hk
  clear hk
  go_loopw [10, 26] (fun s10 s26 wr => ∃ (i q : Nat) (g : Gr w), wr = g.val ∧ i ≤ l.length ∧ s10 = .int .u32 q ∧ s26 = .int .i64 i ∧ q < 4294967296 ∧ Hid (q = Rc.sum (bn (l.take i)))) (fun _ s26 _ => l.length - (intOf s26).toNat)
  case atStart => exact ⟨0, 0, ⟨w, Below.refl _ _⟩, rfl, Nat.zero_le _, rfl, rfl, by omega, sum_nil.symm⟩
  case round =>
    obtain ⟨i, q, g, rfl, hi, rfl, rfl, hq, HQ⟩ := hrel
    by_cases hlt : i < l.length
    · have hiz : (i : Int) < l.length := by omega
      obtain ⟨b, off, rfl, hbs, hcell⟩ := (HA.out.gr g).at_ hlt
      have HM := Lib.hid (more_one_any q hq l[i] _ rfl g.val.heap.size 1 (g.val.alloc (.cells #[.int .u8 (l[i].toNat : Int)] 5)) (by simp) (by simp [go_sem]) ((HH.out.gr g).below ((Below.refl _ _).alloc (Nat.le_refl _) _)))
      have HR : Hid (more q [l[i].toNat] = Rc.sum (bn (l.take (i + 1)))) := by
        show _ = _
        rw [bn_take l i hlt, HQ.out, more_sum _ _ (bn_lt _)]
      have b1 := l[i].toNat_lt
      have hq2 := more_lt q [l[i].toNat]
      generalize more q [l[i].toNat] = q2 at *
      generalize l[i].toNat = v at *
      go_wp2_with fail
      go_at_call 9
      refine HM.out.mono ?_
      rintro e w' ⟨rfl, rfl⟩
      go_wp2_with fail
      go_roundw
      case rel => 
        obtain ⟨g2, e2⟩ := g.up0 (o := .cells #[.int .u8 (v : Int)] 5)
        exact ⟨i + 1, q2, g2, e2, hlt, rfl, by go_num, hq2, HR⟩
      case measure => simp [intOf]; omega
    · obtain rfl : i = l.length := by omega
      obtain rfl : q = Rc.sum (bn l) := by rw [HQ.out, List.take_of_length_le (Nat.le_refl _)]
      clear HQ hq
      generalize Rc.sum (bn l) = S at *
      generalize more S [c.toNat] = mx at *
      generalize more S [d.toNat] = my at *
      go_wp2_with fail
      go_at_call 7
      refine (HS.out g).mono ?_
      rintro e w' ⟨rfl, rfl⟩
      go_wp2_with fail
      have HG := Lib.hid ((HH.out.gr g).below (drew_below g.val))
      go_region_held3 (fun _ => True) (trivial) (first
        | (go_at_call 6; refine (fixed4_any _ HG.out).mono ?_; rintro e w' ⟨rfl, hb⟩; obtain ⟨g, rfl⟩ := g.onD hb; clear hb)
        | (go_at_call 7; (with_reducible refine (HT.out _).mono ?_); rintro e w' ⟨rfl, rfl⟩)
        | (go_at_call_of 9 A2; (with_reducible refine (HD.out _).mono ?_); rintro e w' ⟨rfl, rfl⟩)
        | (go_at_call 9; (with_reducible refine (HX.out _ _ ?hb ?hc ?hh).mono ?_); (case hc => simp [go_sem]; done); (case hb => simp [go_sem]; done); (case hh => (repeat apply Halves.alloc); exact HH.out.gr _); rintro e w' ⟨rfl, rfl⟩)
        | (go_at_call 9; (with_reducible refine (HY.out _ _ ?hb ?hc ?hh).mono ?_); (case hc => simp [go_sem]; done); (case hb => simp [go_sem]; done); (case hh => (repeat apply Halves.alloc); exact HH.out.gr _); rintro e w' ⟨rfl, rfl⟩))
      all_goals go_wp2_with fail
      all_goals go_ret
      all_goals exact ⟨ret_bool (by rw [HXY.out]; simp), (g.ok.alloc g.ok.size _).alloc (Nat.le_trans g.ok.size (by simp)) _⟩
end Go.Proofs.YtapinfagjhpciaaDoor
