/- Contracts of the program's log: the half that holds it is found. -/
import Derived.Test.YtabknmlnlhflmaaDoorVW4
import Derived.Deep.CutRange
namespace Go.Proofs.YtabknmlnlhflmaaDoor
open Go.ChangeShapes Go.WideShapes Go.ChangeAt Go.RowKit Go.Joins Dm Fr Vl

/-- What stands in memory once a half was looked at. -/
structure FindIn (w wr : World) (P D : Nat) (falls : Int) (half : Nat) (c : Cand) (sv hv : Value) : Prop where
  blk : wr.heap[P]? = some (.cells #[.pointer (some ⟨D, 0, none⟩), .int .i64 falls, .int .i64 half, .int .u32 c.gen, sv, .slice none 0 0, .int .i64 c.end_] 50 (0, 0))
  snap : ByV wr (fun k => w.heap.size ≤ k) sv c.snap
  held : ByV wr (fun k => w.heap.size ≤ k) hv c.held
  off : Off (fun k => k = P) w wr
  gen : c.gen < 4294967296
  end_ : c.end_ ≤ half
  len : c.gen ≠ 0 → c.held.length = half
theorem FindIn.below {w w1 w2 : World} {P D : Nat} {falls : Int} {half : Nat} {c : Cand} {sv hv : Value} (h : FindIn w w1 P D falls half c sv hv) (hP : P < w.heap.size) (hb : Below w1.heap.size w1 w2) : FindIn w w2 P D falls half c sv hv :=
  ⟨(Off.of_below (F := fun _ => False) hb).heap h.blk id, h.snap.off (F := fun _ => False) (.of_below hb) (fun _ _ h => h), h.held.off (F := fun _ => False) (.of_below hb) (fun _ _ h => h), h.off.trans' (Off.of_below hb), h.gen, h.end_, h.len⟩
theorem FindIn.cells {w wr : World} {P D : Nat} {falls : Int} {half : Nat} {c : Cand} {sv hv : Value} (h : FindIn w wr P D falls half c sv hv) : wr.cell? ⟨P, 0, none⟩ = some (.pointer (some ⟨D, 0, none⟩)) ∧ wr.cell? ⟨P, 2, none⟩ = some (.int .i64 half) ∧ wr.cell? ⟨P, 3, none⟩ = some (.int .u32 c.gen) ∧ wr.cell? ⟨P, 4, none⟩ = some sv ∧ wr.cell? ⟨P, 6, none⟩ = some (.int .i64 c.end_) ∧ ∀ i, wr.frozen? ⟨P, i, none⟩ = false := by
  have hb := h.blk
  refine ⟨?_, ?_, ?_, ?_, ?_, fun i => ?_⟩ <;> simp [World.cell?, World.frozen?, hb]
theorem FindIn.take {w w1 w2 : World} {P D : Nat} {falls : Int} {half : Nat} {c : Cand} {sv hv : Value} (h : FindIn w w1 P D falls half c sv hv) (hP : P < w.heap.size) {gen n : Nat} {snap held : List UInt8} {sv' hv' : Value} (hg : gen < 4294967296) (hn : n ≤ half) (hl : held.length = half)
    (hs : ByV w1 (fun k => w.heap.size ≤ k) sv' snap) (hh : ByV w1 (fun k => w.heap.size ≤ k) hv' held) (ho : Off (fun k => k = P) w1 w2)
    (hb : w2.heap[P]? = some (.cells #[.pointer (some ⟨D, 0, none⟩), .int .i64 falls, .int .i64 half, .int .u32 gen, sv', .slice none 0 0, .int .i64 n] 50 (0, 0))) : FindIn w w2 P D falls half ⟨gen, snap, n, held⟩ sv' hv' :=
  ⟨hb, hs.off ho fun k hk e => by omega, hh.off ho fun k hk e => by omega, h.off.trans' ho, hg, hn, fun _ => hl⟩

theorem halfB_len {half : Nat} {s : List UInt8} {p : Nat} (h : p * half + half ≤ s.length) : (halfB half s p).length = half := by unfold halfB; simp; omega

set_option maxRecDepth 100000 in
set_option maxHeartbeats 4000000 in
theorem find_any (P D : Nat) (falls : Int) (half : Nat) (m : Dk) (F : Nat → Prop) (w : World) (hhalf : half = m.laid.length / 2) (h64 : 64 ≤ half) (hblk : w.heap[P]? = some (.cells #[.pointer (some ⟨D, 0, none⟩), .int .i64 falls, .int .i64 half, .int .u32 0, .slice none 0 0, .slice none 0 0, .int .i64 0] 50 (0, 0)))
    (hd : DiskAt w D m F) (hP : ¬ F P) (hon : m.on = true) (hH : Halves w) (hPH : P ≠ 0) :
    Calls Tryd.prog 18 #[.pointer (some ⟨P, 0, none⟩)] w fun e w' => ∃ sv hv, e = .returned (.tuple #[hv, .int .i64 0]) ∧ FindIn w w' P D falls half (findC half m.seen 2) sv hv := by
  have hsz := hd.ok.size
  have hsl : m.seen.length = m.laid.length := seen_len _ _ hd.ok.fits
  have hh : half ≤ 2097152 := by omega
  have hPw := heap_lt hblk
  have HD := Lib.hid hd
  have HHv := Lib.hid hH
  have HNE := Lib.hid hPH
  have HBK := Lib.hid hblk
  have HSL := Lib.hid hsl
  have HHF := Lib.hid hhalf
  have HR : Hid (∀ (p : Nat) (w1 : World), p < 2 → DiskAt w1 D m F → Calls Tryd.prog 28 #[.pointer (some ⟨D, 0, none⟩), .int .i64 (p * half : Nat), .int .i64 half] w1 fun e w' => ∃ A c, e = .returned (.tuple #[.slice A half c, .int .i64 0]) ∧ Fresh w1 w' A half c (halfB half m.seen p)) :=
    fun p w1 hp h1 => disk_read_ok D m F (p * half) half w1 h1 hon (by have : p = 0 ∨ p = 1 := by omega
                                                                       rcases this with rfl | rfl <;> omega)
  have HLEN : Hid (∀ p, p < 2 → (halfB half m.seen p).length = half) := fun p hp => halfB_len (by rw [hsl]; have : p = 0 ∨ p = 1 := by omega
                                                                                                  rcases this with rfl | rfl <;> omega)
  clear hd hH hPH hblk hsl hsz hhalf
  go_enter Tryd.func18, Tryd.ntmps18
  go_wp2_with fail
  go_loopw [4, 12] (fun s4 s12 wr => ∃ (p : Nat), p ≤ 2 ∧ s12 = .int .u32 p ∧ Hid (∃ sv, FindIn w wr P D falls half (findC half m.seen p) sv s4)) (fun _ s12 _ => 2 - (intOf s12).toNat)
  case atStart => exact ⟨0, by omega, rfl, .slice none 0 0, HBK.out, ByV.nil _ _, ByV.nil _ _, .refl _ _, by show (0 : Nat) < _; omega, Nat.zero_le _, fun h => absurd rfl h⟩
  case round =>
    obtain ⟨p, hp, rfl, HI⟩ := hrel
    by_cases hlt : p < 2
    · have hpz : (p : Int) < 2 := by omega
      obtain ⟨sv, hI⟩ := HI.out
      have HST0 : Hid (findC half m.seen (p + 1) = cand p (halfB half m.seen p) (findC half m.seen p)) := rfl
      obtain ⟨st, hst⟩ : ∃ st, findC half m.seen p = st := ⟨_, rfl⟩
      rw [hst] at hI HST0
      obtain ⟨c0, c2, c3, c4, c6, hfr⟩ := hI.cells
      have HIN := Lib.hid hI
      have OP := Lib.hid hI.off
      have HDr := Lib.hid (HD.out.off hI.off fun k hk e => hP (e ▸ hk))
      have HS := Lib.hid (start_any P half p hh (by omega) wr.drew (cell_old c2 (drew_below wr)))
      rw [show p % 2 = p by omega] at HS
      have HRd := Lib.hid (HR.out p wr.drew hlt (HDr.out.below (drew_below wr)))
      have hbl := HLEN.out p hlt
      have hw1 : IntKind.u32.wrap ((p : Int) + 1) = ((p + 1 : Nat) : Int) := by rw [IntKind.wrap_u32]; omega
      have HHr : Hid (Halves wr) := fun i hi => OP.out.cell (HHv.out i hi) (fun e => HNE.out e.symm)
      have HST := Lib.hid HST0.out
      clear HST0 hst
      generalize halfB half m.seen p = b at *
      obtain ⟨q, hq⟩ : ∃ q, p * half = q := ⟨_, rfl⟩
      rw [hq] at HS HRd
      have HBL := Lib.hid hbl
      clear hI HI hq hbl HR HLEN
      go_upto_region 5 with fail
      go_cut [6, 7, 12] from 12 to 70 (fun s6 s7 s12 wx => s12 = .int .u32 p ∧ ∃ A1 k1, s6 = .slice A1 half k1 ∧ s7 = .int .i64 0 ∧ Hid (Fresh wr wx A1 half k1 b))
      case first =>
        go_region_with (first
          | (go_at_call 29; refine HS.out.mono ?_; rintro e w' ⟨rfl, rfl⟩)
          | (go_at_call 28; refine HRd.out.mono ?_; rintro e w2 ⟨A1, k1, rfl, hf⟩))
        all_goals
          have HF : Hid (Fresh wr w2 A1 half k1 b) := ⟨hf.len, hf.le, hf.cap, hf.nil, hf.at_, (drew_below wr).trans hf.below⟩
          clear hf
          go_wp2_with fail
          go_meet
          case rel => exact ⟨rfl, A1, k1, rfl, rfl, HF.out⟩
      case rest =>
      obtain ⟨rfl, A1, k1, rfl, rfl, HF⟩ := hcut
      obtain ⟨gn, hgn⟩ : ∃ gn, rd4 (b.drop 4) = gn := ⟨_, rfl⟩
      have hgl : gn < 4294967296 := by rw [← hgn]; exact rd4_lt _
      have hGn := gen_any b half A1 k1 HBL.out (by omega) (by omega) wc HF.out.at_.1
      rw [hgn] at hGn
      have HGN := Lib.hid hGn
      have HC : Hid (∀ t, getB gn 0 b = t → findC half m.seen (p + 1) = if t = true ∧ gn % 2 = p ∧ st.gen < gn then ⟨gn, getP b, 16 + rd4 b, b⟩ else st) := by rintro t rfl; rw [HST.out]; unfold cand; rw [hgn]
      have B2 := Lib.hid HF.out.below
      have HGT : Hid (∀ w1, Below wc.heap.size wc w1 → Calls Tryd.prog 31 #[.slice A1 half k1, .int .u32 gn, .int .u32 0] w1 (GetP gn 0 b w1)) := fun w1 h1 => get_any gn 0 half b A1 k1 hgl (by omega) HBL.out HF.out.le HF.out.cap w1 (HF.out.at_.1.below h1 (Nat.le_refl _)) ((HHr.out.below B2.out).below h1)
      have HHE : Hid (ByV wc (fun k => w.heap.size ≤ k) (.slice A1 half k1) b) := HF.out.byV.mono fun k _ hk => Nat.le_trans OP.out.size hk
      have HR16 : Hid (getB gn 0 b = true → 16 + rd4 b ≤ half) := fun h => by have := (getB_iff.1 h).2.2.2.1; rw [HBL.out] at this; omega
      clear hgn hGn HST HF HS HRd c0 c2 c3 c4 c6 hfr HDr HHr
      go_wp2_with fail
      go_at_call 30
      refine HGN.out.mono ?_
      rintro e w1 ⟨rfl, b1⟩
      have B1 := Lib.hid b1
      have HG1 := Lib.hid (HGT.out w1 b1)
      clear b1 HGT HGN
      go_wp2_with fail
      go_at_call 31
      refine HG1.out.mono ?_
      intro e w2 hret
      rcases hret with ⟨hno, rfl, b2⟩ | ⟨hyes, A2, k2, rfl, hf2⟩
      · have HE : Hid (findC half m.seen (p + 1) = st) := by show _ = _; rw [HC.out false hno, if_neg (by simp)]
        have HB : Hid (Below wr.heap.size wr w2) := (B2.out.trans (B1.out.mono B2.out.size)).trans (b2.mono (Nat.le_trans B2.out.size B1.out.size))
        clear hno b2 HG1
        go_wp2_with fail
        go_roundw
        case rel => exact ⟨p + 1, by omega, by go_num, sv, by rw [HE.out]; exact HIN.out.below hPw HB.out⟩
        case measure => simp [intOf]; omega
      · have HB : Hid (Below wr.heap.size wr w2) := (B2.out.trans (B1.out.mono B2.out.size)).trans (hf2.below.mono (Nat.le_trans B2.out.size B1.out.size))
        have HI2 := Lib.hid (HIN.out.below hPw HB.out)
        obtain ⟨c0, c2, c3, c4, c6, hfr⟩ := HI2.out.cells
        have h16 := HR16.out hyes
        have HC2 := Lib.hid (HC.out true hyes)
        have ht : (gn : Int).tmod 2 = ((gn % 2 : Nat) : Int) := by rw [Int.tmod_eq_emod_of_nonneg (by omega)]; omega
        by_cases hpar : gn % 2 = p
        case neg =>
          have HE : Hid (findC half m.seen (p + 1) = st) := by show _ = _; rw [HC2.out, if_neg (by simp [hpar])]
          have hz1 : ((gn : Int) % 2 == (p : Int)) = false := by simp; omega
          have hz2 : ((gn : Int).tmod 2 == (p : Int)) = false := by simp; omega
          clear hyes hf2 HG1 h16 hpar ht
          go_wp2_with fail
          go_roundw
          case rel => exact ⟨p + 1, by omega, by go_num, sv, by rw [HE.out]; exact HI2.out⟩
          case measure => simp [intOf]; omega
        have hz1 : ((gn : Int) % 2 == (p : Int)) = true := by simp; omega
        have hz2 : ((gn : Int).tmod 2 == (p : Int)) = true := by simp; omega
        by_cases hgr : st.gen < gn
        case neg =>
          have HE : Hid (findC half m.seen (p + 1) = st) := by show _ = _; rw [HC2.out, if_neg (by simp [hgr])]
          have hz3 : decide ((st.gen : Int) < gn) = false := decide_eq_false (by omega)
          have hz4 : decide (st.gen < gn) = false := decide_eq_false hgr
          clear hyes hf2 HG1 h16 hpar ht hgr
          go_wp2_with fail
          go_roundw
          case rel => exact ⟨p + 1, by omega, by go_num, sv, by rw [HE.out]; exact HI2.out⟩
          case measure => simp [intOf]; omega
        have HE : Hid (findC half m.seen (p + 1) = ⟨gn, getP b, 16 + rd4 b, b⟩) := by show _ = _; rw [HC2.out, if_pos ⟨rfl, hpar, hgr⟩]
        have hz3 : (st.gen : Int) < gn := by omega
        have hz4 : decide (st.gen < gn) = true := decide_eq_true hgr
        have HF2 := Lib.hid hf2
        have H16 := Lib.hid h16
        clear hyes hf2 HG1 h16 hpar ht
        go_wp2_with fail
        go_roundw
        case rel =>
          have o : Off (fun k => k = P) w2 (((w2.setCell ⟨P, 3, none⟩ (.int .u32 gn)).setCell ⟨P, 4, none⟩ (.slice A2 (rd4 b) k2)).setCell ⟨P, 6, none⟩ (.int .i64 (16 + (rd4 b : Int)))) :=
            (((Off.refl (fun k => k = P) w2).setCell (b := P) (.inl rfl) _).setCell (b := P) (.inl rfl) _).setCell (b := P) (.inl rfl) _
          have hsz : w.heap.size ≤ w1.heap.size := Nat.le_trans OP.out.size (Nat.le_trans B2.out.size B1.out.size)
          have hI3 := HI2.out.take hPw hgl H16.out HBL.out (HF2.out.byV.mono fun k _ hk => Nat.le_trans hsz hk) (HHE.out.off (F := fun _ => False) (.of_below (B1.out.trans (HF2.out.below.mono B1.out.size))) fun _ _ h => h) o (by
            rw [show ((16 + rd4 b : Nat) : Int) = 16 + (rd4 b : Int) by omega]
            exact block_setCell (block_setCell (block_setCell HI2.out.blk _) _) _)
          exact ⟨p + 1, by omega, by go_num, _, by rw [HE.out]; exact hI3⟩
        case measure => simp [intOf]; omega
    · obtain rfl : p = 2 := by omega
      obtain ⟨sv, hI⟩ := HI.out
      have HIN := Lib.hid hI
      clear hI HI
      go_wp2_with fail
      go_ret2
      exact ⟨sv, _, rfl, HIN.out⟩
end Go.Proofs.YtabknmlnlhflmaaDoor
