import Derived.Test.YtdhinjbkfffpeaaZMD
import Derived.Deep.RegionHeld3
import Derived.BigQuiet
import Derived.Deep.QuietTactic
import Derived.Deep.Cut
import Derived.Deep.AppendLies
import Derived.Test.YtdhinjbkfffpeaaZOA
import Derived.Test.YtdhinjbkfffpeaaZJS1
import Derived.Test.YtdhinjbkfffpeaaZMB
/- Contracts of the document's rules: days; whether a rule may be. -/
section
namespace Go.Proofs.Ytdhinjbkfffpeaa
open Go.ChangeShapes Go.WideShapes Go.ChangeAt Go.RowKit Qr Ck
end Go.Proofs.Ytdhinjbkfffpeaa
end
section
namespace Go.Proofs.Ytdhinjbkfffpeaa
open Go.ChangeShapes Go.WideShapes Go.ChangeAt Go.RowKit Qr Ck
theorem q_no {q : Bool} {P : Prop} (h : q = true ↔ P) (hn : ¬ P) : q = false := by
  cases q with
  | false => rfl
  | true => exact absurd (h.1 rfl) hn
end Go.Proofs.Ytdhinjbkfffpeaa
end
section
namespace Go.Proofs.Ytdhinjbkfffpeaa
open Go.ChangeShapes Go.WideShapes Go.ChangeAt Go.RowKit Qr Ck
def sameP (a b : R) : Prop := a.freq = b.freq ∧ a.iv = b.iv ∧ a.count = b.count ∧ a.until_ = b.until_ ∧ a.start = b.start ∧ a.bw = b.bw ∧ a.bm = b.bm ∧ a.bd = b.bd ∧ a.bs = b.bs
instance (a b : R) : Decidable (sameP a b) := by unfold sameP; infer_instance
def sameB (a b : R) : Bool := decide (sameP a b)
theorem sameP_iff {a b : R} : sameP a b ↔ a = b := by
  obtain ⟨a1, a2, a3, a4, a5, a6, a7, a8, a9⟩ := a
  obtain ⟨b1, b2, b3, b4, b5, b6, b7, b8, b9⟩ := b
  unfold sameP
  simp only [R.mk.injEq]
  constructor
  · rintro ⟨h1, h2, h3, h4, h5, h6, h7, h8, h9⟩; exact ⟨h1, h2, h3, h4, h7, h8, h6, h9, h5⟩
  · rintro ⟨h1, h2, h3, h4, h7, h8, h6, h9, h5⟩; exact ⟨h1, h2, h3, h4, h5, h6, h7, h8, h9⟩
set_option maxRecDepth 100000 in
set_option maxHeartbeats 4000000 in
theorem rsame9_any (a b : R) (A1 A2 A3 A4 : Option Addr) (c1 c2 c3 c4 : Nat) (B1 B2 B3 B4 : Option Addr) (d1 d2 d3 d4 : Nat) (w : World) (ha : RAt w a A1 A2 A3 A4 c1 c2 c3 c4) (hb : RAt w b B1 B2 B3 B4 d1 d2 d3 d4) :
    Calls Try.prog 37 #[.agg (rcells a A1 A2 A3 A4 c1 c2 c3 c4), .agg (rcells b B1 B2 B3 B4 d1 d2 d3 d4)] w fun e w' => e = .returned (.bool (sameB a b)) ∧ Below w.heap.size w w' := by
  have hl3 : a.bw.length ≤ 9223372036854775807 := Nat.le_trans ha.s3.le ha.s3.cap
  have hm3 : b.bw.length ≤ 9223372036854775807 := Nat.le_trans hb.s3.le hb.s3.cap
  have HAb := fun (g : Gr ((w.alloc (.cells (rcells a A1 A2 A3 A4 c1 c2 c3 c4) 35)).alloc (.cells (rcells b B1 B2 B3 B4 d1 d2 d3 d4) 35))) (k : Nat) (v : Value) (h : (rcells a A1 A2 A3 A4 c1 c2 c3 c4)[k]? = some v) => (show g.val.cell? ⟨w.heap.size, k, none⟩ = some v from cell_old (box_at h ⟨_, (Below.refl _ (w.alloc (.cells (rcells a A1 A2 A3 A4 c1 c2 c3 c4) 35))).alloc (Nat.le_refl _) (.cells (rcells b B1 B2 B3 B4 d1 d2 d3 d4) 35)⟩) g.ok)
  have HBb := fun (g : Gr ((w.alloc (.cells (rcells a A1 A2 A3 A4 c1 c2 c3 c4) 35)).alloc (.cells (rcells b B1 B2 B3 B4 d1 d2 d3 d4) 35))) (k : Nat) (v : Value) (h : (rcells b B1 B2 B3 B4 d1 d2 d3 d4)[k]? = some v) => (show g.val.cell? ⟨w.heap.size + 1, k, none⟩ = some v from by have := box_at (w := w.alloc (.cells (rcells a A1 A2 A3 A4 c1 c2 c3 c4) 35)) h g; simpa using this)
  have HI1 := Lib.hid (fun g : Gr ((w.alloc (.cells (rcells a A1 A2 A3 A4 c1 c2 c3 c4) 35)).alloc (.cells (rcells b B1 B2 B3 B4 d1 d2 d3 d4) 35)) => rints_any a.bm b.bm A1 B1 c1 d1 g.val (((ha.s1.alloc _).alloc _).gr g) (((hb.s1.alloc _).alloc _).gr g))
  have HI2 := Lib.hid (fun g : Gr ((w.alloc (.cells (rcells a A1 A2 A3 A4 c1 c2 c3 c4) 35)).alloc (.cells (rcells b B1 B2 B3 B4 d1 d2 d3 d4) 35)) => rints_any a.bd b.bd A2 B2 c2 d2 g.val (((ha.s2.alloc _).alloc _).gr g) (((hb.s2.alloc _).alloc _).gr g))
  have HI4 := Lib.hid (fun g : Gr ((w.alloc (.cells (rcells a A1 A2 A3 A4 c1 c2 c3 c4) 35)).alloc (.cells (rcells b B1 B2 B3 B4 d1 d2 d3 d4) 35)) => rints_any a.bs b.bs A4 B4 c4 d4 g.val (((ha.s4.alloc _).alloc _).gr g) (((hb.s4.alloc _).alloc _).gr g))
  have HA := Lib.hid ((ha.s3.alloc (.cells (rcells a A1 A2 A3 A4 c1 c2 c3 c4) 35)).alloc (.cells (rcells b B1 B2 B3 B4 d1 d2 d3 d4) 35))
  have HB := Lib.hid ((hb.s3.alloc (.cells (rcells a A1 A2 A3 A4 c1 c2 c3 c4) 35)).alloc (.cells (rcells b B1 B2 B3 B4 d1 d2 d3 d4) 35))
  have hbel2 : ∀ g : Gr ((w.alloc (.cells (rcells a A1 A2 A3 A4 c1 c2 c3 c4) 35)).alloc (.cells (rcells b B1 B2 B3 B4 d1 d2 d3 d4) 35)), Below w.heap.size w g.val := fun g => ((Below.refl _ w).alloc (Nat.le_refl _) (.cells (rcells a A1 A2 A3 A4 c1 c2 c3 c4) 35)).trans (((Below.refl _ (w.alloc (.cells (rcells a A1 A2 A3 A4 c1 c2 c3 c4) 35))).alloc (Nat.le_refl _) (.cells (rcells b B1 B2 B3 B4 d1 d2 d3 d4) 35)).trans (g.ok.mono (by simp)) |>.mono (by simp))
  have HBEL := Lib.hid hbel2
  clear hbel2
  obtain ⟨q, hq⟩ : ∃ q, sameB a b = q := ⟨_, rfl⟩
  have HQ : Hid (q = true ↔ sameP a b) := by show _ ↔ _; rw [← hq]; unfold sameB; exact decide_eq_true_iff
  rw [hq]
  clear hq ha hb
  unfold sameP at HQ
  have a0' := fun g => HAb g 0 _ rfl
  have b0' := fun g => HBb g 0 _ rfl
  have a1' := fun g => HAb g 1 _ rfl
  have b1' := fun g => HBb g 1 _ rfl
  have a2' := fun g => HAb g 2 _ rfl
  have b2' := fun g => HBb g 2 _ rfl
  have a3' := fun g => HAb g 3 _ rfl
  have b3' := fun g => HBb g 3 _ rfl
  have a4' := fun g => HAb g 4 _ rfl
  have b4' := fun g => HBb g 4 _ rfl
  have a5' := fun g => HAb g 5 _ rfl
  have b5' := fun g => HBb g 5 _ rfl
  have a6' := fun g => HAb g 6 _ rfl
  have b6' := fun g => HBb g 6 _ rfl
  have a7' := fun g => HAb g 7 _ rfl
  have b7' := fun g => HBb g 7 _ rfl
  have a8' := fun g => HAb g 8 _ rfl
  have b8' := fun g => HBb g 8 _ rfl
  clear HAb HBb
  obtain ⟨f1, f2, f3, f4, bm, bd, bw, bs, f5⟩ := a
  obtain ⟨g1, g2, g3, g4, em, ed, ew, es, g5⟩ := b
  unfold rcells at *
  simp only at *
  by_cases k0 : f1 = g1
  rotate_left
  · have E : Hid (q = false) := q_no HQ.out (fun h => k0 h.1)
    have kb : (f1 != g1) = true := by simpa using k0
    go_enter Try.func37, Try.ntmps37
    go_wp2_with fail
    go_ret
    exact ⟨ret_bool E.out.symm, HBEL.out ⟨_, Below.refl _ _⟩⟩
  subst k0
  by_cases k1 : f2 = g2
  rotate_left
  · have E : Hid (q = false) := q_no HQ.out (fun h => k1 h.2.1)
    have kb : (f2 != g2) = true := by simpa using k1
    go_enter Try.func37, Try.ntmps37
    go_wp2_with fail
    go_ret
    exact ⟨ret_bool E.out.symm, HBEL.out ⟨_, Below.refl _ _⟩⟩
  subst k1
  by_cases k2 : f3 = g3
  rotate_left
  · have E : Hid (q = false) := q_no HQ.out (fun h => k2 h.2.2.1)
    have kb : (f3 != g3) = true := by simpa using k2
    go_enter Try.func37, Try.ntmps37
    go_wp2_with fail
    go_ret
    exact ⟨ret_bool E.out.symm, HBEL.out ⟨_, Below.refl _ _⟩⟩
  subst k2
  by_cases k3 : f4 = g4
  rotate_left
  · have E : Hid (q = false) := q_no HQ.out (fun h => k3 h.2.2.2.1)
    have kb : (f4 != g4) = true := by simpa using k3
    go_enter Try.func37, Try.ntmps37
    go_wp2_with fail
    go_ret
    exact ⟨ret_bool E.out.symm, HBEL.out ⟨_, Below.refl _ _⟩⟩
  subst k3
  by_cases k4 : f5 = g5
  rotate_left
  · have E : Hid (q = false) := q_no HQ.out (fun h => k4 h.2.2.2.2.1)
    have kb : (f5 != g5) = true := by simpa using k4
    go_enter Try.func37, Try.ntmps37
    go_wp2_with fail
    go_ret
    exact ⟨ret_bool E.out.symm, HBEL.out ⟨_, Below.refl _ _⟩⟩
  subst k4
  by_cases hl : bw.length = ew.length
  rotate_left
  · have E : Hid (q = false) := q_no HQ.out (fun h => hl (by rw [h.2.2.2.2.2.1]))
    have kb : ((bw.length : Int) != (ew.length : Int)) = true := by simp; omega
    generalize bw.length = n1 at *
    generalize ew.length = n2 at *
    have kc : ¬ (n1 : Int) = n2 := by omega
    go_enter Try.func37, Try.ntmps37
    go_wp2_with fail
    go_ret
    exact ⟨ret_bool E.out.symm, HBEL.out ⟨_, Below.refl _ _⟩⟩
  have hlb : ((bw.length : Int) != (ew.length : Int)) = false := by simp; omega
  have HL := Lib.hid hl
  have hlz : (bw.length : Int) = ew.length := by omega
  have HLZ := Lib.hid hlz
  clear hl hlz
  go_enter Try.func37, Try.ntmps37
  go_wp2_with fail
  go_loopw [51] (fun s51 wr => ∃ (i : Nat) (g : Gr ((w.alloc (.cells #[.int .i64 f1, .int .i64 f2, .int .i64 f3, .int .i64 f4, .slice A1 bm.length c1, .slice A2 bd.length c2, .slice A3 bw.length c3, .slice A4 bs.length c4, .int .i64 f5] 35)).alloc (.cells #[.int .i64 f1, .int .i64 f2, .int .i64 f3, .int .i64 f4, .slice B1 em.length d1, .slice B2 ed.length d2, .slice B3 ew.length d3, .slice B4 es.length d4, .int .i64 f5] 35))), wr = g.val ∧ i ≤ bw.length ∧ s51 = .int .i64 i ∧ Hid (bw = ew ↔ bw.drop i = ew.drop i)) (fun s51 _ => bw.length - (intOf s51).toNat)
  case atStart => exact ⟨0, ⟨_, Below.refl _ _⟩, rfl, Nat.zero_le _, rfl, Iff.rfl⟩
  case round =>
    obtain ⟨i, g, rfl, hi, rfl, HI⟩ := hrel
    have A6 := a6' g
    have B6 := b6' g
    by_cases hlt : i < bw.length
    · have hltb : i < ew.length := by have := HL.out; omega
      have hiz : (i : Int) < bw.length := by omega
      have hib : (i : Int) < ew.length := by omega
      obtain ⟨p, off, rfl, hp, hc⟩ := HA.out.spanG (List.getElem?_eq_getElem hlt)
      obtain ⟨p2, off2, rfl, hp2, hd⟩ := HB.out.spanG (List.getElem?_eq_getElem hltb)
      obtain ⟨x1, x2⟩ := hc g
      obtain ⟨y1, y2⟩ := hd g
      clear hc hd
      have HST : Hid (bw = ew ↔ (bw[i].1 = ew[i].1 ∧ bw[i].2 = ew[i].2) ∧ bw.drop (i + 1) = ew.drop (i + 1)) := by show _ ↔ _; rw [HI.out, drop_step hlt, drop_step hltb, same_cons]
      clear HI
      generalize bw[i] = s at *
      generalize ew[i] = t at *
      obtain ⟨x, y⟩ := s
      obtain ⟨u, v⟩ := t
      simp only at x1 x2 y1 y2 HST
      by_cases h1 : x = u
      · subst h1
        by_cases h2 : y = v
        · subst h2
          have E : Hid (bw = ew ↔ bw.drop (i + 1) = ew.drop (i + 1)) := by show _ ↔ _; rw [HST.out]; exact ⟨fun h => h.2, fun h => ⟨⟨rfl, rfl⟩, h⟩⟩
          clear HST
          go_wp2_with fail
          go_region
          go_wp2_with fail
          go_roundw
          case rel => exact ⟨i + 1, ⟨g.val.drew, g.ok.drew⟩, rfl, hlt, by go_num, E⟩
          case measure => simp [intOf]; omega
        · have E : Hid (q = false) := q_no HQ.out (fun h => h2 (HST.out.1 h.2.2.2.2.2.1).1.2)
          clear HST
          go_wp2_with fail
          go_region
          go_wp2_with fail
          go_ret
          exact ⟨ret_bool E.out.symm, HBEL.out ⟨g.val.drew, g.ok.drew⟩⟩
      · have E : Hid (q = false) := q_no HQ.out (fun h => h1 (HST.out.1 h.2.2.2.2.2.1).1.1)
        clear HST
        go_wp2_with fail
        go_region
        go_wp2_with fail
        go_ret
        exact ⟨ret_bool E.out.symm, HBEL.out ⟨g.val.drew, g.ok.drew⟩⟩
    · obtain rfl : i = bw.length := by omega
      have hbw : bw = ew := HI.out.2 (by rw [List.drop_of_length_le (Nat.le_refl _), List.drop_of_length_le (by have := HL.out; omega)])
      have HBW := Lib.hid hbw
      clear hbw
      by_cases e1 : bm = em
      rotate_left
      · have E : Hid (q = false) := q_no HQ.out (fun h => e1 h.2.2.2.2.2.2.1)
        have H1 := Lib.hid (HI1.out g)
        rw [decide_eq_false e1] at H1
        go_wp2_with fail
        go_at_call 84
        refine H1.out.mono ?_
        rintro e w' ⟨rfl, hb⟩
        obtain ⟨g, rfl⟩ := g.on hb
        clear hb
        go_wp2_with fail
        go_ret
        exact ⟨ret_bool E.out.symm, HBEL.out g⟩
      have H1 := Lib.hid (HI1.out g)
      rw [decide_eq_true e1] at H1
      have E1 := Lib.hid e1
      clear e1
      go_wp2_with fail
      go_at_call 84
      refine H1.out.mono ?_
      rintro e w' ⟨rfl, hb⟩
      obtain ⟨g, rfl⟩ := g.on hb
      clear hb
      have A5 := a5' g
      have B5 := b5' g
      by_cases e2 : bd = ed
      rotate_left
      · have E : Hid (q = false) := q_no HQ.out (fun h => e2 h.2.2.2.2.2.2.2.1)
        have H2 := Lib.hid (HI2.out g)
        rw [decide_eq_false e2] at H2
        go_wp2_with fail
        go_at_call 84
        refine H2.out.mono ?_
        rintro e w' ⟨rfl, hb⟩
        obtain ⟨g, rfl⟩ := g.on hb
        clear hb
        go_wp2_with fail
        go_ret
        exact ⟨ret_bool E.out.symm, HBEL.out g⟩
      have H2 := Lib.hid (HI2.out g)
      rw [decide_eq_true e2] at H2
      have E2 := Lib.hid e2
      clear e2
      go_wp2_with fail
      go_at_call 84
      refine H2.out.mono ?_
      rintro e w' ⟨rfl, hb⟩
      obtain ⟨g, rfl⟩ := g.on hb
      clear hb
      have H3 := Lib.hid (HI4.out g)
      have E : Hid (decide (bs = es) = q) := by
        show _ = _
        by_cases e3 : bs = es
        · rw [decide_eq_true e3, HQ.out.2 ⟨by simp, by simp, by simp, by simp, by simp, HBW.out, E1.out, E2.out, e3⟩]
        · rw [decide_eq_false e3, q_no HQ.out (fun h => e3 h.2.2.2.2.2.2.2.2)]
      generalize decide (bs = es) = X at *
      go_wp2_with fail
      go_at_call 84
      refine H3.out.mono ?_
      rintro e w' ⟨rfl, hb⟩
      obtain ⟨g, rfl⟩ := g.on hb
      clear hb
      go_wp2_with fail
      go_ret
      exact ⟨ret_bool E.out, HBEL.out g⟩
end Go.Proofs.Ytdhinjbkfffpeaa
end
section
namespace Go.Proofs.Ytdhinjbkfffpeaa
open Go.ChangeShapes Go.WideShapes Go.ChangeAt Go.RowKit Sp
def zeroR : Qr.R := ⟨0, 0, 0, 0, [], [], [], [], 0⟩
def plainP (e : Evt) : Prop := (e.again = true → e.world = false) ∧ (e.again = false → e.rule = zeroR ∧ e.ex.length = 0 ∧ e.plus.length = 0 ∧ e.ch.length = 0)
end Go.Proofs.Ytdhinjbkfffpeaa
end
