import Derived.Test.YtdhinjbkfffpeaaGreatYMD
import Derived.Deep.RegionHeld3
import Derived.BigQuiet
import Derived.Deep.QuietTactic
import Derived.Deep.Cut
import Derived.Deep.AppendLies
import Derived.Test.YtdhinjbkfffpeaaGreatYOA
import Derived.Test.YtdhinjbkfffpeaaGreatYJS1
import Derived.Test.YtdhinjbkfffpeaaGreatYMB
/- Contracts of the document's rules: days; whether a rule may be. -/
section
namespace Go.Proofs.YtdhinjbkfffpeaaGreat
open Go.ChangeShapes Go.WideShapes Go.ChangeAt Go.RowKit Qr Ck
end Go.Proofs.YtdhinjbkfffpeaaGreat
end
section
namespace Go.Proofs.YtdhinjbkfffpeaaGreat
open Go.ChangeShapes Go.WideShapes Go.ChangeAt Go.RowKit Qr Ck
theorem q_no {q : Bool} {P : Prop} (h : q = true ↔ P) (hn : ¬ P) : q = false := by
  cases q with
  | false => rfl
  | true => exact absurd (h.1 rfl) hn
end Go.Proofs.YtdhinjbkfffpeaaGreat
end
section
namespace Go.Proofs.YtdhinjbkfffpeaaGreat
open Go.ChangeShapes Go.WideShapes Go.ChangeAt Go.RowKit Qr Ck
def sameP (a b : R) : Prop := a.freq = b.freq ∧ a.iv = b.iv ∧ a.count = b.count ∧ a.until_ = b.until_ ∧ a.start = b.start ∧ a.bw = b.bw ∧ a.bm = b.bm ∧ a.bd = b.bd ∧ a.bs = b.bs
instance (a b : R) : Decidable (sameP a b) := by unfold sameP; infer_instance
def sameB (a b : R) : Bool := decide (sameP a b)
theorem sameP_iff {a b : R} : sameP a b ↔ a = b := by
  obtain ⟨a1, a2, a3, a4, a5, a6, a7, a8, a9⟩ := a
  obtain ⟨b1, b2, b3, b4, b5, b6, b7, b8, b9⟩ := b
  unfold sameP
  simp only [R.mk.injEq]
  constructor
  · rintro ⟨h1, h2, h3, h4, h5, h6, h7, h8, h9⟩; exact ⟨h1, h2, h3, h4, h7, h8, h6, h9, h5⟩
  · rintro ⟨h1, h2, h3, h4, h7, h8, h6, h9, h5⟩; exact ⟨h1, h2, h3, h4, h5, h6, h7, h8, h9⟩
set_option maxRecDepth 100000 in
set_option maxHeartbeats 4000000 in
theorem rsame9_any (a b : R) (A1 A2 A3 A4 : Option Addr) (c1 c2 c3 c4 : Nat) (B1 B2 B3 B4 : Option Addr) (d1 d2 d3 d4 : Nat) (w : World) (ha : RAt w a A1 A2 A3 A4 c1 c2 c3 c4) (hb : RAt w b B1 B2 B3 B4 d1 d2 d3 d4) :
    Calls Tryz.prog 88 #[.agg (rcells a A1 A2 A3 A4 c1 c2 c3 c4), .agg (rcells b B1 B2 B3 B4 d1 d2 d3 d4)] w fun e w' => e = .returned (.bool (sameB a b)) ∧ Below w.heap.size w w' := by
  have hl3 : a.bw.length ≤ 9223372036854775807 := Nat.le_trans ha.s3.le ha.s3.cap
  have hm3 : b.bw.length ≤ 9223372036854775807 := Nat.le_trans hb.s3.le hb.s3.cap
  have HAb := fun (g : Gr ((w.alloc (.cells (rcells a A1 A2 A3 A4 c1 c2 c3 c4) 60)).alloc (.cells (rcells b B1 B2 B3 B4 d1 d2 d3 d4) 60))) (k : Nat) (v : Value) (h : (rcells a A1 A2 A3 A4 c1 c2 c3 c4)[k]? = some v) => (show g.val.cell? ⟨w.heap.size, k, none⟩ = some v from cell_old (box_at h ⟨_, (Below.refl _ (w.alloc (.cells (rcells a A1 A2 A3 A4 c1 c2 c3 c4) 60))).alloc (Nat.le_refl _) (.cells (rcells b B1 B2 B3 B4 d1 d2 d3 d4) 60)⟩) g.ok)
  have HBb := fun (g : Gr ((w.alloc (.cells (rcells a A1 A2 A3 A4 c1 c2 c3 c4) 60)).alloc (.cells (rcells b B1 B2 B3 B4 d1 d2 d3 d4) 60))) (k : Nat) (v : Value) (h : (rcells b B1 B2 B3 B4 d1 d2 d3 d4)[k]? = some v) => (show g.val.cell? ⟨w.heap.size + 1, k, none⟩ = some v from by have := box_at (w := w.alloc (.cells (rcells a A1 A2 A3 A4 c1 c2 c3 c4) 60)) h g; simpa using this)
  have HI1 := Lib.hid (fun g : Gr ((w.alloc (.cells (rcells a A1 A2 A3 A4 c1 c2 c3 c4) 60)).alloc (.cells (rcells b B1 B2 B3 B4 d1 d2 d3 d4) 60)) => rints_any a.bm b.bm A1 B1 c1 d1 g.val (((ha.s1.alloc _).alloc _).gr g) (((hb.s1.alloc _).alloc _).gr g))
  have HI2 := Lib.hid (fun g : Gr ((w.alloc (.cells (rcells a A1 A2 A3 A4 c1 c2 c3 c4) 60)).alloc (.cells (rcells b B1 B2 B3 B4 d1 d2 d3 d4) 60)) => rints_any a.bd b.bd A2 B2 c2 d2 g.val (((ha.s2.alloc _).alloc _).gr g) (((hb.s2.alloc _).alloc _).gr g))
  have HI4 := Lib.hid (fun g : Gr ((w.alloc (.cells (rcells a A1 A2 A3 A4 c1 c2 c3 c4) 60)).alloc (.cells (rcells b B1 B2 B3 B4 d1 d2 d3 d4) 60)) => rints_any a.bs b.bs A4 B4 c4 d4 g.val (((ha.s4.alloc _).alloc _).gr g) (((hb.s4.alloc _).alloc _).gr g))
  have HA := Lib.hid ((ha.s3.alloc (.cells (rcells a A1 A2 A3 A4 c1 c2 c3 c4) 60)).alloc (.cells (rcells b B1 B2 B3 B4 d1 d2 d3 d4) 60))
  have HB := Lib.hid ((hb.s3.alloc (.cells (rcells a A1 A2 A3 A4 c1 c2 c3 c4) 60)).alloc (.cells (rcells b B1 B2 B3 B4 d1 d2 d3 d4) 60))
  have hbel2 : ∀ g : Gr ((w.alloc (.cells (rcells a A1 A2 A3 A4 c1 c2 c3 c4) 60)).alloc (.cells (rcells b B1 B2 B3 B4 d1 d2 d3 d4) 60)), Below w.heap.size w g.val := fun g => ((Below.refl _ w).alloc (Nat.le_refl _) (.cells (rcells a A1 A2 A3 A4 c1 c2 c3 c4) 60)).trans (((Below.refl _ (w.alloc (.cells (rcells a A1 A2 A3 A4 c1 c2 c3 c4) 60))).alloc (Nat.le_refl _) (.cells (rcells b B1 B2 B3 B4 d1 d2 d3 d4) 60)).trans (g.ok.mono (by simp)) |>.mono (by simp))
  have HBEL := Lib.hid hbel2
  clear hbel2
  obtain ⟨q, hq⟩ : ∃ q, sameB a b = q := ⟨_, rfl⟩
  have HQ : Hid (q = true ↔ sameP a b) := by show _ ↔ _; rw [← hq]; unfold sameB; exact decide_eq_true_iff
  rw [hq]
  clear hq ha hb
  unfold sameP at HQ
  have a0' := fun g => HAb g 0 _ rfl
  have b0' := fun g => HBb g 0 _ rfl
  have a1' := fun g => HAb g 1 _ rfl
  have b1' := fun g => HBb g 1 _ rfl
  have a2' := fun g => HAb g 2 _ rfl
  have b2' := fun g => HBb g 2 _ rfl
  have a3' := fun g => HAb g 3 _ rfl
  have b3' := fun g => HBb g 3 _ rfl
  have a4' := fun g => HAb g 4 _ rfl
  have b4' := fun g => HBb g 4 _ rfl
  have a5' := fun g => HAb g 5 _ rfl
  have b5' := fun g => HBb g 5 _ rfl
  have a6' := fun g => HAb g 6 _ rfl
  have b6' := fun g => HBb g 6 _ rfl
  have a7' := fun g => HAb g 7 _ rfl
  have b7' := fun g => HBb g 7 _ rfl
  have a8' := fun g => HAb g 8 _ rfl
  have b8' := fun g => HBb g 8 _ rfl
  clear HAb HBb
  obtain ⟨f1, f2, f3, f4, bm, bd, bw, bs, f5⟩ := a
  obtain ⟨g1, g2, g3, g4, em, ed, ew, es, g5⟩ := b
  unfold rcells at *
  simp only at *
  by_cases k0 : f1 = g1
  rotate_left
  · have E : Hid (q = false) := q_no HQ.out (fun h => k0 h.1)
    have kb : (f1 != g1) = true := by simpa using k0
    go_enter Tryz.func88, Tryz.ntmps88
    go_wp2_with fail
    go_ret
    exact ⟨ret_bool E.out.symm, HBEL.out ⟨_, Below.refl _ _⟩⟩
  subst k0
  by_cases k1 : f2 = g2
  rotate_left
  · have E : Hid (q = false) := q_no HQ.out (fun h => k1 h.2.1)
    have kb : (f2 != g2) = true := by simpa using k1
    go_enter Tryz.func88, Tryz.ntmps88
    go_wp2_with fail
    go_ret
    exact ⟨ret_bool E.out.symm, HBEL.out ⟨_, Below.refl _ _⟩⟩
  subst k1
  by_cases k2 : f3 = g3
  rotate_left
  · have E : Hid (q = false) := q_no HQ.out (fun h => k2 h.2.2.1)
    have kb : (f3 != g3) = true := by simpa using k2
    go_enter Tryz.func88, Tryz.ntmps88
    go_wp2_with fail
    go_ret
    exact ⟨ret_bool E.out.symm, HBEL.out ⟨_, Below.refl _ _⟩⟩
  subst k2
  by_cases k3 : f4 = g4
  rotate_left
  · have E : Hid (q = false) := q_no HQ.out (fun h => k3 h.2.2.2.1)
    have kb : (f4 != g4) = true := by simpa using k3
    go_enter Tryz.func88, Tryz.ntmps88
    go_wp2_with fail
    go_ret
    exact ⟨ret_bool E.out.symm, HBEL.out ⟨_, Below.refl _ _⟩⟩
  subst k3
  by_cases k4 : f5 = g5
  rotate_left
  · have E : Hid (q = false) := q_no HQ.out (fun h => k4 h.2.2.2.2.1)
    have kb : (f5 != g5) = true := by simpa using k4
    go_enter Tryz.func88, Tryz.ntmps88
    go_wp2_with fail
    go_ret
    exact ⟨ret_bool E.out.symm, HBEL.out ⟨_, Below.refl _ _⟩⟩
  subst k4
  by_cases hl : bw.length = ew.length
  rotate_left
  · have E : Hid (q = false) := q_no HQ.out (fun h => hl (by rw [h.2.2.2.2.2.1]))
    have kb : ((bw.length : Int) != (ew.length : Int)) = true := by simp; omega
    generalize bw.length = n1 at *
    generalize ew.length = n2 at *
    have kc : ¬ (n1 : Int) = n2 := by omega
    go_enter Tryz.func88, Tryz.ntmps88
    go_wp2_with fail
    go_ret
    exact ⟨ret_bool E.out.symm, HBEL.out ⟨_, Below.refl _ _⟩⟩
  have hlb : ((bw.length : Int) != (ew.length : Int)) = false := by simp; omega
  have HL := Lib.hid hl
  have hlz : (bw.length : Int) = ew.length := by omega
  have HLZ := Lib.hid hlz
  clear hl hlz
  go_enter Tryz.func88, Tryz.ntmps88
  go_wp2_with fail
  go_loopw [51] (fun s51 wr => ∃ (i : Nat) (g : Gr ((w.alloc (.cells #[.int .i64 f1, .int .i64 f2, .int .i64 f3, .int .i64 f4, .slice A1 bm.length c1, .slice A2 bd.length c2, .slice A3 bw.length c3, .slice A4 bs.length c4, .int .i64 f5] 60)).alloc (.cells #[.int .i64 f1, .int .i64 f2, .int .i64 f3, .int .i64 f4, .slice B1 em.length d1, .slice B2 ed.length d2, .slice B3 ew.length d3, .slice B4 es.length d4, .int .i64 f5] 60))), wr = g.val ∧ i ≤ bw.length ∧ s51 = .int .i64 i ∧ Hid (bw = ew ↔ bw.drop i = ew.drop i)) (fun s51 _ => bw.length - (intOf s51).toNat)
  case atStart => exact ⟨0, ⟨_, Below.refl _ _⟩, rfl, Nat.zero_le _, rfl, Iff.rfl⟩
  case round =>
    obtain ⟨i, g, rfl, hi, rfl, HI⟩ := hrel
    have A6 := a6' g
    have B6 := b6' g
    by_cases hlt : i < bw.length
    · have hltb : i < ew.length := by have := HL.out; omega
      have hiz : (i : Int) < bw.length := by omega
      have hib : (i : Int) < ew.length := by omega
      obtain ⟨p, off, rfl, hp, hc⟩ := HA.out.spanG (List.getElem?_eq_getElem hlt)
      obtain ⟨p2, off2, rfl, hp2, hd⟩ := HB.out.spanG (List.getElem?_eq_getElem hltb)
      obtain ⟨x1, x2⟩ := hc g
      obtain ⟨y1, y2⟩ := hd g
      clear hc hd
      have HST : Hid (bw = ew ↔ (bw[i].1 = ew[i].1 ∧ bw[i].2 = ew[i].2) ∧ bw.drop (i + 1) = ew.drop (i + 1)) := by show _ ↔ _; rw [HI.out, drop_step hlt, drop_step hltb, same_cons]
      clear HI
      generalize bw[i] = s at *
      generalize ew[i] = t at *
      obtain ⟨x, y⟩ := s
      obtain ⟨u, v⟩ := t
      simp only at x1 x2 y1 y2 HST
      by_cases h1 : x = u
      · subst h1
        by_cases h2 : y = v
        · subst h2
          have E : Hid (bw = ew ↔ bw.drop (i + 1) = ew.drop (i + 1)) := by show _ ↔ _; rw [HST.out]; exact ⟨fun h => h.2, fun h => ⟨⟨rfl, rfl⟩, h⟩⟩
          clear HST
          go_wp2_with fail
          go_region
          go_wp2_with fail
          go_roundw
          case rel => exact ⟨i + 1, ⟨g.val.drew, g.ok.drew⟩, rfl, hlt, by go_num, E⟩
          case measure => simp [intOf]; omega
        · have E : Hid (q = false) := q_no HQ.out (fun h => h2 (HST.out.1 h.2.2.2.2.2.1).1.2)
          clear HST
          go_wp2_with fail
          go_region
          go_wp2_with fail
          go_ret
          exact ⟨ret_bool E.out.symm, HBEL.out ⟨g.val.drew, g.ok.drew⟩⟩
      · have E : Hid (q = false) := q_no HQ.out (fun h => h1 (HST.out.1 h.2.2.2.2.2.1).1.1)
        clear HST
        go_wp2_with fail
        go_region
        go_wp2_with fail
        go_ret
        exact ⟨ret_bool E.out.symm, HBEL.out ⟨g.val.drew, g.ok.drew⟩⟩
    · obtain rfl : i = bw.length := by omega
      have hbw : bw = ew := HI.out.2 (by rw [List.drop_of_length_le (Nat.le_refl _), List.drop_of_length_le (by have := HL.out; omega)])
      have HBW := Lib.hid hbw
      clear hbw
      by_cases e1 : bm = em
      rotate_left
      · have E : Hid (q = false) := q_no HQ.out (fun h => e1 h.2.2.2.2.2.2.1)
        have H1 := Lib.hid (HI1.out g)
        rw [decide_eq_false e1] at H1
        go_wp2_with fail
        go_at_call 127
        refine H1.out.mono ?_
        rintro e w' ⟨rfl, hb⟩
        obtain ⟨g, rfl⟩ := g.on hb
        clear hb
        go_wp2_with fail
        go_ret
        exact ⟨ret_bool E.out.symm, HBEL.out g⟩
      have H1 := Lib.hid (HI1.out g)
      rw [decide_eq_true e1] at H1
      have E1 := Lib.hid e1
      clear e1
      go_wp2_with fail
      go_at_call 127
      refine H1.out.mono ?_
      rintro e w' ⟨rfl, hb⟩
      obtain ⟨g, rfl⟩ := g.on hb
      clear hb
      have A5 := a5' g
      have B5 := b5' g
      by_cases e2 : bd = ed
      rotate_left
      · have E : Hid (q = false) := q_no HQ.out (fun h => e2 h.2.2.2.2.2.2.2.1)
        have H2 := Lib.hid (HI2.out g)
        rw [decide_eq_false e2] at H2
        go_wp2_with fail
        go_at_call 127
        refine H2.out.mono ?_
        rintro e w' ⟨rfl, hb⟩
        obtain ⟨g, rfl⟩ := g.on hb
        clear hb
        go_wp2_with fail
        go_ret
        exact ⟨ret_bool E.out.symm, HBEL.out g⟩
      have H2 := Lib.hid (HI2.out g)
      rw [decide_eq_true e2] at H2
      have E2 := Lib.hid e2
      clear e2
      go_wp2_with fail
      go_at_call 127
      refine H2.out.mono ?_
      rintro e w' ⟨rfl, hb⟩
      obtain ⟨g, rfl⟩ := g.on hb
      clear hb
      have H3 := Lib.hid (HI4.out g)
      have E : Hid (decide (bs = es) = q) := by
        show _ = _
        by_cases e3 : bs = es
        · rw [decide_eq_true e3, HQ.out.2 ⟨by simp, by simp, by simp, by simp, by simp, HBW.out, E1.out, E2.out, e3⟩]
        · rw [decide_eq_false e3, q_no HQ.out (fun h => e3 h.2.2.2.2.2.2.2.2)]
      generalize decide (bs = es) = X at *
      go_wp2_with fail
      go_at_call 127
      refine H3.out.mono ?_
      rintro e w' ⟨rfl, hb⟩
      obtain ⟨g, rfl⟩ := g.on hb
      clear hb
      go_wp2_with fail
      go_ret
      exact ⟨ret_bool E.out, HBEL.out g⟩
end Go.Proofs.YtdhinjbkfffpeaaGreat
end
section
namespace Go.Proofs.YtdhinjbkfffpeaaGreat
open Go.ChangeShapes Go.WideShapes Go.ChangeAt Go.RowKit Sp
def zeroR : Qr.R := ⟨0, 0, 0, 0, [], [], [], [], 0⟩
def plainP (e : Evt) : Prop := (e.again = true → e.world = false) ∧ (e.again = false → e.rule = zeroR ∧ e.ex.length = 0 ∧ e.plus.length = 0 ∧ e.ch.length = 0)
set_option maxRecDepth 100000 in
set_option maxHeartbeats 4000000 in
theorem rplain_any (a : Evt) (p : EvP) (w : World) (ha : EvAt w a p) :
    Calls Tryz.prog 49 #[.agg (eCells a p).toArray] w fun e w' => ∃ r, e = .returned (.bool r) ∧ (r = true ↔ plainP a) ∧ Below w.heap.size w w' := by
  obtain ⟨r, hr⟩ : ∃ r : Bool, r = true ↔ plainP a := by classical exact ⟨decide (plainP a), by simp⟩
  suffices h : Calls Tryz.prog 49 #[.agg (eCells a p).toArray] w fun e w' => e = .returned (.bool r) ∧ Below w.heap.size w w' from h.mono fun e w' h => ⟨r, h.1, hr, h.2⟩
  obtain ⟨a0, b0, w0, g0, r0, x0, p0, k0⟩ := a
  obtain ⟨A1, A2, A3, A4, A5, A6, A7, c1, c2, c3, c4, c5, c6, c7⟩ := p
  obtain ⟨har, ha5, ha6, ha7⟩ := ha
  unfold plainP at hr
  unfold eCells
  simp only [List.toArray] at *
  have HR := Lib.hid hr
  have hl5 := len_le16 ha5
  have hl6 := len_le16 ha6
  have hl7 := len_le16 ha7
  obtain ⟨W, hW⟩ : ∃ W, w.alloc (.cells #[.int .i64 a0, .int .i64 b0, .bool w0, .bool g0, .int .i64 r0.freq, .int .i64 r0.iv, .int .i64 r0.count, .int .i64 r0.until_, .slice A1 r0.bm.length c1, .slice A2 r0.bd.length c2, .slice A3 r0.bw.length c3, .slice A4 r0.bs.length c4, .int .i64 r0.start, .slice A5 x0.length c5, .slice A6 p0.length c6, .slice A7 k0.length c7] 63) = W := ⟨_, rfl⟩
  have hBW : Below w.heap.size w W := by rw [← hW]; exact (Below.refl _ w).alloc (Nat.le_refl _) _
  have HG : Hid (∀ g : Gr W, Below w.heap.size w g.val) := fun g => hBW.trans (g.ok.mono hBW.size)
  have HA : Hid (∀ (g : Gr W) (k : Nat) (v : Value), (#[.int .i64 a0, .int .i64 b0, .bool w0, .bool g0, .int .i64 r0.freq, .int .i64 r0.iv, .int .i64 r0.count, .int .i64 r0.until_, .slice A1 r0.bm.length c1, .slice A2 r0.bd.length c2, .slice A3 r0.bw.length c3, .slice A4 r0.bs.length c4, .int .i64 r0.start, .slice A5 x0.length c5, .slice A6 p0.length c6, .slice A7 k0.length c7] : Array Value)[k]? = some v → g.val.cell? ⟨w.heap.size, k, none⟩ = some v) := fun g k v hv => cell_old (by rw [← hW]; exact blk_cell (cs := #[.int .i64 a0, .int .i64 b0, .bool w0, .bool g0, .int .i64 r0.freq, .int .i64 r0.iv, .int .i64 r0.count, .int .i64 r0.until_, .slice A1 r0.bm.length c1, .slice A2 r0.bd.length c2, .slice A3 r0.bw.length c3, .slice A4 r0.bs.length c4, .int .i64 r0.start, .slice A5 x0.length c5, .slice A6 p0.length c6, .slice A7 k0.length c7]) (t := 63) (heap_alloc_new _ _) hv) g.ok
  have HC : Hid (∀ g : Gr W, Calls Tryz.prog 88 #[.agg #[.int .i64 r0.freq, .int .i64 r0.iv, .int .i64 r0.count, .int .i64 r0.until_, .slice A1 r0.bm.length c1, .slice A2 r0.bd.length c2, .slice A3 r0.bw.length c3, .slice A4 r0.bs.length c4, .int .i64 r0.start], .agg #[.int .i64 0, .int .i64 0, .int .i64 0, .int .i64 0, .slice none 0 0, .slice none 0 0, .slice none 0 0, .slice none 0 0, .int .i64 0]] g.val fun e w' => e = .returned (.bool (sameB r0 zeroR)) ∧ Below g.val.heap.size g.val w') := fun g =>
    rsame9_any r0 zeroR A1 A2 A3 A4 c1 c2 c3 c4 none none none none 0 0 0 0 g.val (har.below (HG.out g) (Nat.le_refl _)) ⟨Sl.none_ _, Sl.none_ _, Sl.none_ _, Sl.none_ _⟩
  have HS : Hid (sameB r0 zeroR = true ↔ r0 = zeroR) := by show _ ↔ _; simp [sameB, sameP_iff]
  have E1 := Lib.hid hW
  clear hW hBW hr har ha5 ha6 ha7
  generalize sameB r0 zeroR = sb at *
  have fa0 := HA.out ⟨W, Below.refl _ _⟩ 0 (.int .i64 a0) rfl
  have fa1 := HA.out ⟨W, Below.refl _ _⟩ 1 (.int .i64 b0) rfl
  have fa2 := HA.out ⟨W, Below.refl _ _⟩ 2 (.bool w0) rfl
  have fa3 := HA.out ⟨W, Below.refl _ _⟩ 3 (.bool g0) rfl
  have fa4 := HA.out ⟨W, Below.refl _ _⟩ 4 (.int .i64 r0.freq) rfl
  have fa5 := HA.out ⟨W, Below.refl _ _⟩ 5 (.int .i64 r0.iv) rfl
  have fa6 := HA.out ⟨W, Below.refl _ _⟩ 6 (.int .i64 r0.count) rfl
  have fa7 := HA.out ⟨W, Below.refl _ _⟩ 7 (.int .i64 r0.until_) rfl
  have fa8 := HA.out ⟨W, Below.refl _ _⟩ 8 (.slice A1 r0.bm.length c1) rfl
  have fa9 := HA.out ⟨W, Below.refl _ _⟩ 9 (.slice A2 r0.bd.length c2) rfl
  have fa10 := HA.out ⟨W, Below.refl _ _⟩ 10 (.slice A3 r0.bw.length c3) rfl
  have fa11 := HA.out ⟨W, Below.refl _ _⟩ 11 (.slice A4 r0.bs.length c4) rfl
  have fa12 := HA.out ⟨W, Below.refl _ _⟩ 12 (.int .i64 r0.start) rfl
  have fa13 := HA.out ⟨W, Below.refl _ _⟩ 13 (.slice A5 x0.length c5) rfl
  have fa14 := HA.out ⟨W, Below.refl _ _⟩ 14 (.slice A6 p0.length c6) rfl
  have fa15 := HA.out ⟨W, Below.refl _ _⟩ 15 (.slice A7 k0.length c7) rfl
  try simp only at fa0 fa1 fa2 fa3 fa4 fa5 fa6 fa7 fa8 fa9 fa10 fa11 fa12 fa13 fa14 fa15
  cases g0 with
  | true =>
    have E : Hid (r = !w0) := by show _ = _; rw [Bool.eq_iff_iff, HR.out]; cases w0 <;> simp
    go_enter Tryz.func49, Tryz.ntmps49
    go_upto_region 1 with fail
    rw [E1.out]
    go_wp2_with fail
    go_ret
    exact ⟨ret_bool E.out.symm, HG.out ⟨W, Below.refl _ _⟩⟩
  | false =>
    go_enter Tryz.func49, Tryz.ntmps49
    go_upto_region 1 with fail
    rw [E1.out]
    go_wp2_with fail
    go_at_call 88
    refine (HC.out ⟨W, Below.refl _ _⟩).mono ?_
    rintro e w2 ⟨rfl, hb⟩
    obtain ⟨g, rfl⟩ := Gr.of hb
    clear hb fa0 fa1 fa2 fa3 fa4 fa5 fa6 fa7 fa8 fa9 fa10 fa11 fa12 fa13 fa14 fa15
    have fa13 := HA.out g 13 (.slice A5 x0.length c5) rfl
    have fa14 := HA.out g 14 (.slice A6 p0.length c6) rfl
    have fa15 := HA.out g 15 (.slice A7 k0.length c7) rfl
    try simp only at fa13 fa14 fa15
    cases sb with
    | false =>
      have E : Hid (r = false) := Bool.eq_false_iff.2 fun k => by have := HS.out.2 ((HR.out.1 k).2 (by trivial)).1; cases this
      go_wp2_with fail
      go_ret
      exact ⟨ret_bool E.out.symm, HG.out g⟩
    | true =>
      by_cases h0 : x0.length = 0
      rotate_left
      · have eb0 : ((x0.length : Int) == 0) = false := by simp; intro h; exact h0 (by rw [h]; rfl)
        have E : Hid (r = false) := Bool.eq_false_iff.2 fun k => h0 ((HR.out.1 k).2 (by trivial)).2.1
        have ec0 : ¬ ((x0.length : Int) = 0) := by omega
        go_wp2_with fail
        go_ret
        exact ⟨ret_bool E.out.symm, HG.out g⟩
      obtain rfl : x0 = [] := List.length_eq_zero_iff.1 h0
      by_cases h1 : p0.length = 0
      rotate_left
      · have eb1 : ((p0.length : Int) == 0) = false := by simp; intro h; exact h1 (by rw [h]; rfl)
        have E : Hid (r = false) := Bool.eq_false_iff.2 fun k => h1 ((HR.out.1 k).2 (by trivial)).2.2.1
        have ec1 : ¬ ((p0.length : Int) = 0) := by omega
        go_wp2_with fail
        go_ret
        exact ⟨ret_bool E.out.symm, HG.out g⟩
      obtain rfl : p0 = [] := List.length_eq_zero_iff.1 h1
      by_cases h2 : k0.length = 0
      rotate_left
      · have eb2 : ((k0.length : Int) == 0) = false := by simp; intro h; exact h2 (by rw [h]; rfl)
        have E : Hid (r = false) := Bool.eq_false_iff.2 fun k => h2 ((HR.out.1 k).2 (by trivial)).2.2.2
        have ec2 : ¬ ((k0.length : Int) = 0) := by omega
        go_wp2_with fail
        go_ret
        exact ⟨ret_bool E.out.symm, HG.out g⟩
      obtain rfl : k0 = [] := List.length_eq_zero_iff.1 h2
      have E : Hid (r = true) := HR.out.2 ⟨fun h => (by cases h), fun _ => ⟨HS.out.1 rfl, rfl, rfl, rfl⟩⟩
      go_wp2_with fail
      go_ret
      exact ⟨ret_bool E.out.symm, HG.out g⟩
end Go.Proofs.YtdhinjbkfffpeaaGreat
end
