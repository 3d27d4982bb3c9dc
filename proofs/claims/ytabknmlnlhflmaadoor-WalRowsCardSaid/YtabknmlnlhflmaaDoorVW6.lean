/- Contracts of the program's log: the records are followed. -/
import Derived.Test.YtabknmlnlhflmaaDoorVW5
import Derived.Deep.LoopGhost
import Derived.Deep.CutRange
namespace Go.Proofs.YtabknmlnlhflmaaDoor
open Go.ChangeShapes Go.WideShapes Go.ChangeAt Go.RowKit Go.Joins Dm Fr Vl

theorem equal_any (a b : List UInt8) (A B : Option Addr) (ca cb n k : Nat) (hn : a.length = n) (hk : b.length = k) (w : World) (hA : BAt w A a) (hB : BAt w B b) :
    Calls Tryd.prog 32 #[.slice A n ca, .slice B k cb] w fun e w' => e = .returned (.bool (decide (a = b))) ∧ w = w' := by
  subst hn hk
  have h1 := hA.conv (P := Tryd.prog) ca (src := 23) (dst := 9) Tryd.underlying23 Tryd.underlying5 Tryd.underlying9
  have h2 := hB.conv (P := Tryd.prog) cb (src := 23) (dst := 9) Tryd.underlying23 Tryd.underlying5 Tryd.underlying9
  clear hA hB
  go_enter Tryd.func32, Tryd.ntmps32
  go_wp2
  go_ret
  refine ⟨ret_bool ?_, rfl⟩
  rw [Bool.eq_iff_iff]
  simp

theorem rd_no {gen k f : Nat} {l : List UInt8} (h : getB gen k l = false) : rd gen k f l = [] := by
  cases f with
  | zero => rfl
  | succ f => rw [rd_step, h]; rfl
theorem rd_yes {gen k f : Nat} {l : List UInt8} (h : getB gen k l = true) : rd gen k (f + 1) l = getP l :: rd gen (k + 1) f (l.drop (16 + rd4 l)) := by rw [rd_step, h]; rfl

theorem GetP.none_ {gen number : Nat} {l : List UInt8} {w w' : World} {e : Ending} (h : GetP gen number l w e w') (hn : getB gen number l = false) : e = .returned (.tuple #[.slice none 0 0, .int .i64 0, .bool false]) ∧ Below w.heap.size w w' := by
  rcases h with ⟨_, h2⟩ | ⟨h1, _⟩
  · exact h2
  · rw [hn] at h1; cases h1
theorem GetP.some_ {gen number : Nat} {l : List UInt8} {w w' : World} {e : Ending} (h : GetP gen number l w e w') (hn : getB gen number l = true) : ∃ A c, e = .returned (.tuple #[.slice A (rd4 l) c, .int .i64 ((16 : Int) + rd4 l), .bool true]) ∧ Fresh w w' A (rd4 l) c (getP l) := by
  rcases h with ⟨h1, _⟩ | ⟨_, h2⟩
  · rw [hn] at h1; cases h1
  · exact h2

theorem LogAt.cells0 {w w' : World} {P D : Nat} {lg : Lg} {K : Nat → Prop} (h : LogAt w P D lg K) (hb : Below w.heap.size w w') : w'.cell? ⟨P, 0, none⟩ = some (.pointer (some ⟨D, 0, none⟩)) ∧ w'.cell? ⟨P, 2, none⟩ = some (.int .i64 lg.half) := by
  obtain ⟨sv, rv, xs, h⟩ := h.below hb
  exact ⟨h.cells.1, h.cells.2.2.1⟩
/-- What stands in memory in a round. -/
def FolIn (w : World) (P D : Nat) (sv : Value) (lg : Lg) (K : Nat → Prop) (held : List UInt8) (k : Nat) (wr : World) : Prop :=
  ∃ done rv xs K', LogIn wr P D sv rv xs { lg with recs := done, end_ := lg.end_ + sizeT done } K' ∧ (∀ j, K' j → K j ∨ w.heap.size ≤ j) ∧ Off (fun j => j = P) w wr ∧
    rd lg.gen 1 (held.length + 1) (held.drop lg.end_) = done ++ rd lg.gen (done.length + 1) k (held.drop (lg.end_ + sizeT done)) ∧ (held.drop (lg.end_ + sizeT done)).length < k ∧ ∀ g, rv.ownBlock = some g → w.heap.size ≤ g

set_option maxRecDepth 100000 in
set_option maxHeartbeats 4000000 in
theorem follow_any (P D : Nat) (lg : Lg) (m : Dk) (K F KH : Nat → Prop) (Ah : Option Addr) (ch : Nat) (held : List UInt8) (hhl : held.length = lg.half) (hch : lg.half ≤ ch) (hcm : ch ≤ maxLen) (hr0 : lg.recs = []) (sv : Value) (hmany : m.waits.length < 4294967296) (w : World)
    (h : LogIn w P D sv (.slice none 0 0) [] lg K) (hd : DiskAt w D m F) (hK : ∀ k, K k → ¬ F k) (hB : BIn KH w Ah held) (hKH : ∀ k, KH k → k ≠ P) (hH : Halves w) (hPH : P ≠ 0) :
    Calls Tryd.prog 20 #[.pointer (some ⟨P, 0, none⟩), .slice Ah lg.half ch] w fun e w' => e = .returned (.int .i64 (followM lg m held).1) ∧ LogTo w w' P D (followM lg m held).2.1 (followM lg m held).2.2 K F := by
  have hl : LogAt w P D lg K := ⟨_, _, _, h⟩
  have hh := hl.ok.half
  have hg := hl.ok.gen
  have HLA := Lib.hid hl
  have HKL := Lib.hid hl.lt
  have HPK := Lib.hid hl.kP
  have HD := Lib.hid hd
  have HHv := Lib.hid hH
  have HNE := Lib.hid hPH
  have HB := Lib.hid hB
  have HKH := Lib.hid hKH
  have HK := Lib.hid hK
  have HHL := Lib.hid hhl
  have HPF : Hid (¬ F P) := hK P hl.kP
  obtain ⟨i0, hi0, hq0, hq1, hq2⟩ := info_parts rec_info
  have HST : Hid (FolIn w P D sv lg K held (held.length + 1) w) := by
    refine ⟨[], .slice none 0 0, [], K, ?_, fun j hj => .inl hj, .refl _ _, ?_, by simp; omega, fun g hg => by simp [Value.ownBlock] at hg⟩
    · have e : ({ lg with recs := [], end_ := lg.end_ + sizeT [] } : Lg) = lg := by
        obtain ⟨a, b, c, d, r, e⟩ := lg
        simp only at hr0
        subst hr0
        rfl
      rw [e]; exact h
    · simp [sizeT]
  have HFM : Hid (∀ rs, rd lg.gen 1 (held.length + 1) (held.drop lg.end_) = rs → followM lg m held = if held.drop (lg.end_ + sizeT rs) = zeros (lg.half - (lg.end_ + sizeT rs)) then (0, { lg with recs := rs, end_ := lg.end_ + sizeT rs }, m) else ((layM m ((lg.gen % 2 * lg.half : Nat) + (lg.end_ + sizeT rs : Nat)) (zeros (lg.half - (lg.end_ + sizeT rs)))).1, { lg with recs := rs, end_ := lg.end_ + sizeT rs }, (layM m ((lg.gen % 2 * lg.half : Nat) + (lg.end_ + sizeT rs : Nat)) (zeros (lg.half - (lg.end_ + sizeT rs)))).2)) := by
    rintro rs rfl; rfl
  generalize followM lg m held = R at *
  clear hd hH hPH hB hKH hK hhl h hl hr0
  go_enter Tryd.func20, Tryd.ntmps20
  go_wp2_with fail
  go_loopg [] (held.length + 1) (fun k wr => Hid (FolIn w P D sv lg K held k wr))
  case atStart => exact HST.out
  case round =>
    obtain ⟨done, rv, xs, K', h, iK, oP, hrd, hlt, hrv⟩ := hrel.out
    obtain ⟨k, rfl⟩ : ∃ k, gk = k + 1 := ⟨gk - 1, by omega⟩
    obtain ⟨c0, c1, c2, c3, c4, c5, c6⟩ := h.cells
    obtain ⟨ra, rc, rfl, _⟩ := Sl.of_own h.own
    have hE := h.ok.end_
    have hM := h.ok.many
    simp only at hE hM c1 c2 c3 c6
    have HKP := Lib.hid h.kP
    have HIN := Lib.hid h
    have HIK := Lib.hid iK
    have HOP := Lib.hid oP
    have HRD := Lib.hid hrd
    have HLT := Lib.hid hlt
    have HRV := Lib.hid hrv
    have HBr := Lib.hid (HB.out.off HOP.out fun j hj e => HKH.out j hj e)
    have HHr : Hid (Halves wr) := fun i hi => HOP.out.cell (HHv.out i hi) (fun e => HNE.out e.symm)
    obtain ⟨en, hen⟩ : ∃ en, lg.end_ + sizeT done = en := ⟨_, rfl⟩
    have HEN := Lib.hid hen
    have HNX := Lib.hid (next_any P D { lg with recs := done, end_ := lg.end_ + sizeT done } K' wr.drew ⟨_, _, _, h.below (drew_below wr)⟩)
    simp only at HNX
    rw [hen] at hE hM c6
    obtain ⟨_, A2, _, hslc, _, hB2⟩ := HBr.out.1.cut (P := Tryd.prog) (t := 23) (ca := ch) (k := en) (by rw [HHL.out]; exact hE) (by rw [HHL.out]; exact hch) (by kernel_rfl) (fun w' => by kernel_rfl)
    rw [HHL.out] at hslc
    have HB2 := Lib.hid hB2
    have hdl : (held.drop en).length = lg.half - en := by simp [HHL.out]
    have hchm : ch ≤ 9223372036854775807 := hcm
    have HG := Lib.hid (get_any lg.gen (done.length + 1) (lg.half - en) (held.drop en) A2 (ch - en) hg (by omega) hdl (by omega) (by omega) wr.drew (hB2.below (drew_below wr) (Nat.le_refl _)) (HHr.out.below (drew_below wr)))
    have HDL := Lib.hid hdl
    have HOWN : Hid (wr.ownsRow 0 23 1 (.slice ra done.length rc) done.length xs) := h.own
    clear h iK oP hrd hlt hrv hen hB2 hdl hrel
    obtain ⟨l, hl⟩ : ∃ l, held.drop en = l := ⟨_, rfl⟩
    have HLE := Lib.hid hl
    rw [hl] at HB2 HG HDL
    have HRD2 : Hid (rd lg.gen 1 (held.length + 1) (held.drop lg.end_) = done ++ rd lg.gen (done.length + 1) (k + 1) l) := by show _ = _; rw [HRD.out, HEN.out, hl]
    have HLT2 : Hid (l.length < k + 1) := by show _ < _; rw [← hl, ← HEN.out]; exact HLT.out
    have HS1 : Hid (∀ w2, Below wr.drew.heap.size wr.drew w2 → w2.cell? ⟨P, 6, none⟩ = some (.int .i64 en) ∧ w2.cell? ⟨P, 3, none⟩ = some (.int .u32 lg.gen)) := fun w2 h2 => ⟨cell_old c6 ((drew_below wr).trans h2), cell_old c3 ((drew_below wr).trans h2)⟩
    have HS0 := Lib.hid (HS1.out wr.drew (Below.refl _ _))
    clear hl HRD HLT
    cases hgb : getB lg.gen (done.length + 1) l with
    | true =>
      have HGB := Lib.hid hgb
      obtain ⟨n, hn⟩ : ∃ n, rd4 l = n := ⟨_, rfl⟩
      have HN := Lib.hid hn
      have hne : n + 16 ≤ lg.half - en := by have := (getB_iff.1 hgb).2.2.2.1; rw [HDL.out, hn] at this; exact this
      clear hgb hn
      go_upto_region 1 with fail
      go_cut [5, 6, 7] from 9 to 45 (fun s5 s6 s7 wx => ∃ A3 c3, s5 = .slice A3 n c3 ∧ s6 = .int .i64 ((16 : Int) + n) ∧ s7 = .bool true ∧ Hid (Fresh wr wx A3 n c3 (getP l)))
      case first =>
        go_region_held3 (fun w' => w'.cell? ⟨P, 6, none⟩ = some (.int .i64 en) ∧ w'.cell? ⟨P, 3, none⟩ = some (.int .u32 lg.gen)) (first | exact HS0.out | exact HS1.out _ hf.below) (first
          | (go_at_call 24; refine HNX.out.mono ?_; rintro e w' ⟨rfl, rfl⟩)
          | (go_at_call 31; refine HG.out.mono ?_; intro e w2 hret; obtain ⟨A3, k3, rfl, hf⟩ := hret.some_ HGB.out))
        all_goals
          have HF : Hid (Fresh wr w2 A3 n k3 (getP l)) := by have hn := HN.out; subst hn; exact ⟨hf.len, hf.le, hf.cap, hf.nil, hf.at_, (drew_below wr).trans hf.below⟩
          clear hf hret
          have hn2 := HN.out
          go_wp2_with fail
          go_meet
          case rel => exact ⟨A3, k3, by rw [HN.out], by rw [HN.out], rfl, HF.out⟩
      case rest =>
      obtain ⟨A3, k3, rfl, rfl, rfl, HF3⟩ := hcut
      have HI3 := Lib.hid (HIN.out.below HF3.out.below)
      obtain ⟨g0, g1, g2, g3, g4, g5, g6⟩ := HI3.out.cells
      simp only at g1 g2 g3 g6
      rw [HEN.out] at g6
      have hfr := HI3.out.free
      have HOF : Hid (∀ o, (wc.alloc o).ownsRow 0 23 1 (.slice ra done.length rc) done.length xs) := fun o => (own_off HOWN.out (F := fun _ => False) (Off.of_below HF3.out.below) (fun _ _ h => h)).alloc o
      have HDW : Hid (∀ o w3, (wc.alloc o).grownBy w3 (Value.slice ra done.length rc).ownBlock → Off (fun k => (Value.slice ra done.length rc).ownBlock = some k) wc w3) := fun o w3 h3 => ((Off.refl _ wc).alloc o).trans' (Off.of_grown h3 fun k hk => hk)
      have HDB : Hid (∀ o w3, (wc.alloc o).grownBy w3 (Value.slice ra done.length rc).ownBlock → w3.cell? ⟨P, 5, none⟩ = some (.slice ra done.length rc) ∧ w3.frozen? ⟨P, 5, none⟩ = false) := fun o w3 h3 => ⟨(HDW.out o w3 h3).cell g5 HI3.out.neP, unfrozen_of_block ((HDW.out o w3 h3).heap HI3.out.blk HI3.out.neP) 5⟩
      clear c0 c1 c2 c3 c4 c5 c6 HG HNX HS1 HS0
      go_upto_region 4 with (refine wpList_append_lies _ rfl _ _ _ (by rfl) 0 23 i0 _ 1 24 Tryd.underlying36 hi0 hq0 hq1 hq2 rfl (by decide) (.slice ra done.length rc) done.length xs (by rfl) (HOF.out _) ⟨wc.heap.size, 0, none⟩ 1 1 [.slice A3 n k3] (by rfl) (by rfl) (World.news_of_block (cs := #[.slice A3 n k3]) (t := 23) (fr := (0, 0)) (heap_alloc_new _ _)) (by simp [Value.oneCell']) (Nat.lt_succ_self 0) (by unfold maxLen; omega) (by omega) (Nat.zero_le _) _ rfl ?_; intro gg cap2 w3 hown3 hgr3 hat3 hlt3; obtain ⟨d3, d4⟩ := HDB.out _ w3 hgr3)
      have o5 := (HDW.out _ w3 hgr3)
      have b5 := block_setCell (i := 5) (o5.heap HI3.out.blk HI3.out.neP) (.slice (some ⟨gg, 0, none⟩) (done.length + 1) cap2)
      have oP5 : Off (fun k => k = P) w3 (w3.setCell ⟨P, 5, none⟩ (.slice (some ⟨gg, 0, none⟩) (done.length + 1) cap2)) := (Off.refl (fun k => k = P) w3).setCell (b := P) (.inl rfl) _
      generalize w3.setCell ⟨P, 5, none⟩ (.slice (some ⟨gg, 0, none⟩) (done.length + 1) cap2) = W4 at *
      have f6 : W4.cell? ⟨P, 6, none⟩ = some (.int .i64 en) := by simp [World.cell?, b5, HEN.out]
      have fr : W4.frozen? ⟨P, 6, none⟩ = false := by simp [World.frozen?, b5]
      have hw8 : IntKind.i64.wrap ((en : Int) + (16 + n)) = ((en + (16 + n) : Nat) : Int) := by rw [IntKind.wrap_i64]; omega
      have HAT : Hid (∀ g, (Value.slice (some ⟨gg, 0, none⟩) (done.length + 1) cap2).ownBlock = some g → (Value.slice ra done.length rc).ownBlock = some g ∨ wc.heap.size ≤ g) := fun g hg => by
        simp [Value.ownBlock] at hg
        rcases hat3 with e | e
        · exact .inl (by rw [e, hg])
        · right; simp at e; omega
      have O5 := Lib.hid o5
      have B5 := Lib.hid b5
      have OP5 := Lib.hid oP5
      have HOWN3 := Lib.hid hown3
      clear o5 b5 oP5 hown3 hgr3 hat3 hlt3 d3 d4 g0 g1 g2 g3 g4 g5 g6 hfr HDB HDW HOF
      go_wp2_with fail
      go_roundg k
      case measure => omega
      case rel =>
        have hpl : (getP l).length = n := by rw [getP_len HGB.out, HN.out]
        have o6 : Off (fun k => k = P) w3 (W4.setCell ⟨P, 6, none⟩ (.int .i64 (en + (16 + n) : Nat))) := OP5.out.setCell (b := P) (.inl rfl) _
        have hin := HIN.out.more HF3.out (by show lg.end_ + sizeT done + (16 + (getP l).length) ≤ lg.half; rw [HEN.out, hpl]; omega) O5.out HOWN3.out HAT.out o6 (by
          show _ = some (Obj.cells #[_, _, _, _, _, _, .int .i64 ((lg.end_ + sizeT done + (16 + (getP l).length) : Nat) : Int)] _ (0, 0))
          rw [HEN.out, hpl]; exact block_setCell B5.out _)
        have e6 : lg.end_ + sizeT (done ++ [getP l]) = lg.end_ + sizeT done + (16 + (getP l).length) := by rw [sizeT_app]; simp [sizeT]; omega
        have hsz := HOP.out.size
        refine ⟨done ++ [getP l], _, _, _, by rw [e6]; exact hin, ?_, ?_, ?_, ?_, ?_⟩
        · rintro j (hj | hj | hj)
          · exact HIK.out j hj
          · rcases HAT.out j hj with h | h
            · exact HIK.out j (HIN.out.kR j h)
            · right; have := HF3.out.below.size; omega
          · exact .inr (by omega)
        · exact ((HOP.out.trans' (Off.of_below HF3.out.below)).trans O5.out fun j hj => .inr (HRV.out j hj)).trans o6 fun k e => .inl e
        · rw [HRD2.out, rd_yes HGB.out, List.length_append, e6, HEN.out, hpl, ← HLE.out, List.drop_drop, HLE.out, HN.out]
          simp [Nat.add_assoc]
        · rw [e6, HEN.out, hpl, List.length_drop, HHL.out]
          have h1 : l.length < k + 1 := HLT2.out
          have h2 : l.length = lg.half - en := HDL.out
          clear hw8
          omega
        · intro g hg
          rcases HAT.out g hg with h | h
          · exact HRV.out g h
          · have := HF3.out.below.size; omega
    | false =>
      have HGB := Lib.hid hgb
      clear hgb
      go_upto_region 1 with fail
      go_cut [5, 6, 7] from 9 to 45 (fun s5 s6 s7 wx => s7 = .bool false ∧ Hid (Below wr.heap.size wr wx))
      case first =>
        go_region_held3 (fun w' => w'.cell? ⟨P, 6, none⟩ = some (.int .i64 en) ∧ w'.cell? ⟨P, 3, none⟩ = some (.int .u32 lg.gen)) (first | exact HS0.out | exact HS1.out _ hb) (first
          | (go_at_call 24; refine HNX.out.mono ?_; rintro e w' ⟨rfl, rfl⟩)
          | (go_at_call 31; refine HG.out.mono ?_; intro e w2 hret; obtain ⟨rfl, hb⟩ := hret.none_ HGB.out))
        all_goals
          have HB3 : Hid (Below wr.heap.size wr w2) := (drew_below wr).trans hb
          clear hb hret
          go_wp2_with fail
          go_meet
          case rel => exact ⟨rfl, HB3.out⟩
      case rest =>
      obtain ⟨rfl, HB3⟩ := hcut
      have HRS : Hid (rd lg.gen 1 (held.length + 1) (held.drop lg.end_) = done) := by show _ = _; rw [HRD2.out, rd_no HGB.out, List.append_nil]
      have HR := Lib.hid (HFM.out done HRS.out)
      have HI3 := Lib.hid (HIN.out.below HB3.out)
      obtain ⟨g0, g1, g2, g3, g4, g5, g6⟩ := HI3.out.cells
      simp only at g1 g2 g3 g6
      rw [HEN.out] at g6
      obtain ⟨cs, hmk, hcs⟩ := make_noughts (lg.half - en) (by omega)
      have HCS := Lib.hid hcs
      have hw1 : IntKind.i64.wrap ((lg.half : Int) - en) = ((lg.half - en : Nat) : Int) := by rw [IntKind.wrap_i64]; omega
      have HB2c := Lib.hid (HB2.out.below HB3.out (Nat.le_refl _))
      have HOPc := Lib.hid (HOP.out.trans' (Off.of_below HB3.out))
      have HDc := Lib.hid (HD.out.off HOPc.out fun j hj e => HPF.out (e ▸ hj))
      have HDISJ : Hid (∀ j, K' j → ¬ F j) := fun j hj hF => (HIK.out j hj).elim (fun h => HK.out j h hF) fun h => by have := HD.out.lt j hF; omega
      clear c0 c1 c2 c3 c4 c5 c6 HG HNX HS1 HS0 hcs
      go_wp2_with fail
      go_region
      obtain ⟨W5, hW5⟩ : ∃ W5, (wc.alloc (.cells cs 5)).drew = W5 := ⟨_, rfl⟩
      have B5 : Hid (Below wc.heap.size wc W5) := by show Below _ _ _; rw [← hW5]; exact ((Below.refl _ wc).alloc (Nat.le_refl _) _).drew
      have HZ : Hid (BAt W5 (some ⟨wc.heap.size, 0, none⟩) (zeros (lg.half - en))) := by show BAt _ _ _; rw [← hW5]; exact (HCS.out wc).below (drew_below _) (Nat.le_refl _)
      rw [hW5]
      have f6 := cell_old g6 B5.out
      have f3 := cell_old g3 B5.out
      have HEQ := Lib.hid (equal_any l (zeros (lg.half - en)) A2 (some ⟨wc.heap.size, 0, none⟩) (ch - en) (lg.half - en) (lg.half - en) (lg.half - en) HDL.out (zeros_len _) W5 (HB2c.out.below B5.out (Nat.le_refl _)) HZ.out)
      have HI5 := Lib.hid (HI3.out.below B5.out)
      have HD5 := Lib.hid (HDc.out.below B5.out)
      have HO5 := Lib.hid (HOPc.out.trans' (Off.of_below B5.out))
      have HR2 : Hid (R = if l = zeros (lg.half - en) then (0, { lg with recs := done, end_ := en }, m) else ((layM m ((lg.gen % 2 * lg.half : Nat) + (en : Nat)) (zeros (lg.half - en))).1, { lg with recs := done, end_ := en }, (layM m ((lg.gen % 2 * lg.half : Nat) + (en : Nat)) (zeros (lg.half - en))).2)) := by
        have := HR.out
        rw [HEN.out, HLE.out] at this
        exact this
      have HI6 : Hid (LogAt W5 P D { lg with recs := done, end_ := en } K') := by have := HI5.out; rw [HEN.out] at this; exact ⟨_, _, _, this⟩
      clear hW5 hmk HR HI5 g0 g1 g2 g3 g4 g5 g6
      by_cases heq : l = zeros (lg.half - en)
      · rw [show decide (l = zeros (lg.half - en)) = true by simpa using heq] at HEQ
        have HR3 := HR2.out
        rw [if_pos heq] at HR3
        clear heq
        subst HR3
        go_wp2_with fail
        go_at_call 32
        refine HEQ.out.mono ?_
        rintro e w' ⟨rfl, rfl⟩
        go_wp2_with fail
        go_ret
        exact ⟨rfl, K', F, HI6.out, HD5.out, HDISJ.out, HO5.out.mono fun j _ e => .inl (e ▸ HPK.out), HIK.out, fun _ h => .inl h⟩
      · rw [show decide (l = zeros (lg.half - en)) = false by simpa using heq] at HEQ
        have HR3 := HR2.out
        rw [if_neg heq] at HR3
        have HL := Lib.hid (lay_n P D lg.half lg.gen en (lg.half - en) m F (some ⟨wc.heap.size, 0, none⟩) (lg.half - en) (zeros (lg.half - en)) (zeros_len _) hh hg (by omega) (Nat.le_refl _) (by unfold maxLen; omega) (fun h => by cases h) hmany W5.drew
          (cell_old (HI6.out.cells0 (drew_below W5)).1 (Below.refl _ _)) (cell_old (HI6.out.cells0 (drew_below W5)).2 (Below.refl _ _)) HPF.out (HD5.out.below (drew_below W5)) (HZ.out.below (drew_below W5) (Nat.le_refl _)))
        generalize layM m ((lg.gen % 2 * lg.half : Nat) + (en : Nat)) (zeros (lg.half - en)) = r at *
        clear heq
        subst HR3
        go_wp2_with fail
        go_at_call 32
        refine HEQ.out.mono ?_
        rintro e w' ⟨rfl, rfl⟩
        go_wp2_with fail
        go_region_with (go_at_call 25; refine HL.out.mono ?_; rintro e w3 ⟨rfl, hT⟩)
        all_goals
          have HT := Lib.hid hT
          clear hT
          go_wp2_with fail
          go_ret
          have h1 := LogTo.disk (HI6.out.below (drew_below W5)) HDISJ.out (fun k hk => HI6.out.lt k hk) HT.out
          exact ⟨rfl, h1.step ((HO5.out.drew).mono fun j _ e => .inl (e ▸ HPK.out)) HIK.out fun _ h => .inl h⟩
end Go.Proofs.YtabknmlnlhflmaaDoor
