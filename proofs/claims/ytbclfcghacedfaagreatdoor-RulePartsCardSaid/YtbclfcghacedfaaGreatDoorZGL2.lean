import Derived.Test.YtbclfcghacedfaaGreatDoorZGL1
import Derived.Test.YtbclfcghacedfaaGreatDoorZQW8
import Derived.Test.YtbclfcghacedfaaGreatDoorZQW7
/- The laws' walks: texts that are read. -/
section
namespace Go.Proofs.YtbclfcghacedfaaGreatDoor
open Go.ChangeShapes Go.WideShapes Go.ChangeAt Go.RowKit Go.Joins Qr Ck Sp

def rZ : R := { freq := 0, iv := 0, count := 0, until_ := 0, bm := [], bd := [], bw := [], bs := [], start := 0 }
theorem rZ_at (w : World) : RAt w rZ none none none none 0 0 0 0 := ⟨Sl.none_ _, Sl.none_ _, Sl.none_ _, Sl.none_ _⟩

set_option maxRecDepth 100000 in
set_option maxHeartbeats 4000000 in
theorem ruleReads_walk (s : List UInt8) (w : World) (hs : s.length ≤ 9223372036854775807) (hE : Env9 w) : Calls Tryz.prog 4 #[.string ⟨s.toArray⟩] w fun e w' => e = .returned (.bool true) ∧ Below w.heap.size w w' := by
  have HFX := Lib.hid (fun w hE => fixed9_any w hE)
  have HE := Lib.hid hE
  by_cases hl : s.length ≤ 5000
  rotate_left
  · have hlz : ¬ (s.length : Int) ≤ 5000 := by omega
    have hlb : ((s.length : Int) > 5000) := by omega
    go_enter Tryz.func4, Tryz.ntmps4
    go_wp2_with fail
    go_at_call 8
    refine (HFX.out _ HE.out).mono ?_
    rintro e w1 ⟨rfl, hb⟩
    have B1 := Lib.hid hb
    go_wp2_with fail
    go_ret
    exact ⟨rfl, B1.out⟩
  have HR := Lib.hid (read_any s (by omega) w hE)
  cases hq : readF s with
  | none =>
    rw [hq] at HR
    have HSM := Lib.hid (fun w => rsame9_any rZ rZ none none none none 0 0 0 0 none none none none 0 0 0 0 w (rZ_at w) (rZ_at w))
    have hsm : sameB rZ rZ = true := by decide
    rw [hsm] at HSM
    unfold rcells rZ at HSM
    simp only [List.length_nil] at HSM
    have hlz : (s.length : Int) ≤ 5000 := by omega
    clear hE hq
    go_enter Tryz.func4, Tryz.ntmps4
    go_wp2_with fail
    go_at_call 12
    refine HR.out.mono ?_
    rintro e w1 ⟨rfl, hb⟩
    have B1 := Lib.hid hb
    have HE1 := Lib.hid (HE.out.below (hb.mono (Nat.le_refl _)))
    clear hb
    unfold zeroR
    go_wp2_with fail
    go_at_call 8
    refine (HFX.out _ (HE1.out.below ((Below.refl _ _).alloc (Nat.le_refl _) _))).mono ?_
    rintro e w2 ⟨rfl, hb⟩
    obtain ⟨g, rfl⟩ := Gr.of hb
    clear hb
    have u0 := box_at (k := 0) rfl g
    have u1 := box_at (k := 1) rfl g
    have u2 := box_at (k := 2) rfl g
    have u3 := box_at (k := 3) rfl g
    have u4 := box_at (k := 4) rfl g
    have u5 := box_at (k := 5) rfl g
    have u6 := box_at (k := 6) rfl g
    have u7 := box_at (k := 7) rfl g
    have u8 := box_at (k := 8) rfl g
    go_wp2_with fail
    go_at_call 14
    refine (HSM.out _).mono ?_
    rintro e w3 ⟨rfl, hb⟩
    obtain ⟨g, rfl⟩ := g.on hb
    clear hb
    go_wp2_with fail
    go_ret
    exact ⟨rfl, B1.out.trans (g.below1.mono B1.out.size)⟩
  | some r =>
    rw [hq] at HR
    obtain ⟨hm, ht⟩ := readF_some hq
    have hlen := may_lens hm
    have hmb : mayB r = true := decide_eq_true hm
    have hlz : (s.length : Int) ≤ 5000 := by omega
    have heq := toList_yes ht
    clear hE hq
    go_enter Tryz.func4, Tryz.ntmps4
    go_wp2_with fail
    go_at_call 12
    refine HR.out.mono ?_
    rintro e w1 ⟨A1, A2, A3, A4, c1, c2, c3, c4, rfl, hra, hb⟩
    have B1 := Lib.hid hb
    have HE1 := Lib.hid (HE.out.below (hb.mono (Nat.le_refl _)))
    have HMAY := Lib.hid (fun (w' : World) (h : RAt w' r A1 A2 A3 A4 c1 c2 c3 c4) => rmay9_any r A1 A2 A3 A4 c1 c2 c3 c4 w' h)
    have HTXT := Lib.hid (fun (w' : World) (h : RAt w' r A1 A2 A3 A4 c1 c2 c3 c4) => rtext_any r A1 A2 A3 A4 c1 c2 c3 c4 w' hm ⟨by omega, by omega, by omega, by omega⟩ h)
    rw [hmb] at HMAY
    rw [ht] at HTXT
    have HRA : Hid (∀ g : Gr (w1.alloc (.cells (rcells r A1 A2 A3 A4 c1 c2 c3 c4) 25)), RAt g.val r A1 A2 A3 A4 c1 c2 c3 c4) := fun g => hra.below g.below1 (Nat.le_refl _)
    clear hb hra hm ht hmb hlen
    unfold rcells at *
    go_wp2_with fail
    go_at_call 8
    refine (HFX.out _ (HE1.out.below ((Below.refl _ _).alloc (Nat.le_refl _) _))).mono ?_
    rintro e w2 ⟨rfl, hb⟩
    obtain ⟨g, rfl⟩ := Gr.of hb
    clear hb
    have u0 := box_at (k := 0) rfl g
    have u1 := box_at (k := 1) rfl g
    have u2 := box_at (k := 2) rfl g
    have u3 := box_at (k := 3) rfl g
    have u4 := box_at (k := 4) rfl g
    have u5 := box_at (k := 5) rfl g
    have u6 := box_at (k := 6) rfl g
    have u7 := box_at (k := 7) rfl g
    have u8 := box_at (k := 8) rfl g
    go_wp2_with fail
    go_at_call 11
    refine (HMAY.out _ (HRA.out g)).mono ?_
    rintro e w3 ⟨rfl, hb⟩
    obtain ⟨g, rfl⟩ := g.on hb
    clear hb
    clear u0 u1 u2 u3 u4 u5 u6 u7 u8
    have u0 := box_at (k := 0) rfl g
    have u1 := box_at (k := 1) rfl g
    have u2 := box_at (k := 2) rfl g
    have u3 := box_at (k := 3) rfl g
    have u4 := box_at (k := 4) rfl g
    have u5 := box_at (k := 5) rfl g
    have u6 := box_at (k := 6) rfl g
    have u7 := box_at (k := 7) rfl g
    have u8 := box_at (k := 8) rfl g
    go_wp2_with fail
    go_at_call 13
    refine (HTXT.out _ (HRA.out g)).mono ?_
    rintro e w3 ⟨rfl, hb⟩
    obtain ⟨g, rfl⟩ := g.on hb
    clear hb
    go_wp2_with fail
    go_ret
    exact ⟨rfl, B1.out.trans (g.below1.mono B1.out.size)⟩
theorem ruleReads_walkB (b : ByteArray) (w : World) (hs : b.size ≤ maxLen) (hE : Env9 w) : Calls Tryz.prog 4 #[.string b] w fun e w' => e = .returned (.bool true) ∧ Below w.heap.size w w' := by
  have hb : b.data.toList.length ≤ 9223372036854775807 := by
    rw [Array.length_toList]
    show b.size ≤ _
    exact Nat.le_trans hs (by unfold maxLen; decide)
  exact ruleReads_walk b.data.toList w hb hE
end Go.Proofs.YtbclfcghacedfaaGreatDoor
end
