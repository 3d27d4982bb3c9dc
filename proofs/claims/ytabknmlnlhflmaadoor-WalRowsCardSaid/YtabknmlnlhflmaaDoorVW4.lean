/- Contracts of the program's log: a record is appended; it is laid down anew; what is asked. -/
import Derived.Test.YtabknmlnlhflmaaDoorVW3
import Derived.Deep.Cut
namespace Go.Proofs.YtabknmlnlhflmaaDoor
open Go.ChangeShapes Go.WideShapes Go.ChangeAt Go.RowKit Go.Joins Dm Fr Vl

theorem rec_info : (Tryd.prog.info? 23).map (fun i => (i.zero, i.size, i.bytes)) = some (some (.slice none 0 0), 1, 24) := by kernel_rfl

theorem Room_any (P D : Nat) (lg : Lg) (K : Nat → Prop) (w : World) (hl : LogAt w P D lg K) :
    Calls Tryd.prog 8 #[.pointer (some ⟨P, 0, none⟩)] w fun e w' => e = .returned (.int .i64 (roomI lg.half lg.end_)) ∧ w = w' := by
  have hE := hl.ok.end_
  have hH := hl.ok.half
  have HR := Lib.hid (room_any P D lg K lg.end_ (by omega) w hl)
  obtain ⟨sv, rv, xs, h⟩ := hl
  obtain ⟨c0, c1, c2, c3, c4, c5, c6⟩ := h.cells
  clear h
  go_enter Tryd.func8, Tryd.ntmps8
  go_wp2_with fail
  go_at_call 21
  refine HR.out.mono ?_
  rintro e w' ⟨rfl, rfl⟩
  go_wp2_with fail
  go_ret
  exact ⟨rfl, rfl⟩
theorem Gen_any (P D : Nat) (lg : Lg) (K : Nat → Prop) (w : World) (hl : LogAt w P D lg K) :
    Calls Tryd.prog 11 #[.pointer (some ⟨P, 0, none⟩)] w fun e w' => e = .returned (.int .u32 lg.gen) ∧ w = w' := by
  obtain ⟨sv, rv, xs, h⟩ := hl
  obtain ⟨c0, c1, c2, c3, c4, c5, c6⟩ := h.cells
  clear h
  go_enter Tryd.func11, Tryd.ntmps11
  go_wp2
  go_ret
  exact ⟨rfl, rfl⟩

/-- A record more, in memory. -/
theorem LogIn.more {w4 w5 w6 w' : World} {P D : Nat} {sv rv v' : Value} {xs : List Value} {lg : Lg} {K : Nat → Prop} {b : List UInt8} {A : Option Addr} {n c : Nat} (h : LogIn w4 P D sv rv xs lg K) (hf : Fresh w4 w5 A n c b) (hfit : lg.end_ + (16 + b.length) ≤ lg.half)
    (ho : Off (fun k => rv.ownBlock = some k) w5 w6) (hown : w6.ownsRow 0 23 1 v' (lg.recs.length + 1) (xs ++ [.slice A n c])) (hat : ∀ g, v'.ownBlock = some g → rv.ownBlock = some g ∨ w5.heap.size ≤ g)
    (ho2 : Off (fun k => k = P) w6 w') (hb : w'.heap[P]? = some (.cells #[.pointer (some ⟨D, 0, none⟩), .int .i64 lg.falls, .int .i64 lg.half, .int .u32 lg.gen, sv, v', .int .i64 (lg.end_ + (16 + b.length) : Nat)] 50 (0, 0))) :
    LogIn w' P D sv v' (xs ++ [.slice A n c]) { lg with recs := lg.recs ++ [b], end_ := lg.end_ + (16 + b.length) } (fun k => K k ∨ v'.ownBlock = some k ∨ (w4.heap.size ≤ k ∧ k < w5.heap.size)) := by
  have hP := h.lt P h.kP
  have hsz := hf.below.size
  have neP : v'.ownBlock ≠ some P := fun e => by
    rcases hat P e with e2 | e2
    · exact h.neP e2
    · omega
  have o1 : Off (fun k => rv.ownBlock = some k) w4 w6 := (Off.of_below hf.below).trans' ho
  have hrl : ∀ k, rv.ownBlock = some k → k < w4.heap.size := fun k hk => h.lt k (h.kR k hk)
  have hK : ∀ k, (K k ∧ k ≠ P ∧ rv.ownBlock ≠ some k) → (K k ∨ v'.ownBlock = some k ∨ (w4.heap.size ≤ k ∧ k < w5.heap.size)) ∧ k ≠ P ∧ v'.ownBlock ≠ some k := fun k hk => ⟨.inl hk.1, hk.2.1, fun e => by
    rcases hat k e with e2 | e2
    · exact hk.2.2 e2
    · have := h.lt k hk.1; omega⟩
  refine ⟨⟨h.ok.half, h.ok.gen, hfit, by have := h.ok.many; simp; omega⟩, hb, ?_, ?_, ?_, neP, .inl h.kP, fun k hk => .inr (.inl hk), fun k hk => ?_⟩
  · exact ((h.snap.off o1 fun k hk e => hk.2.2 e).off ho2 fun k hk e => hk.2.1 e).mono fun k _ hk => hK k hk
  · rw [show (lg.recs ++ [b]).length = lg.recs.length + 1 by simp]
    exact own_off hown ho2 fun k hk e => neP (by rw [hk, e])
  · refine Recs.snoc ?_ (((h.recs.off o1 fun k hk e => hk.2.2 e).off ho2 fun k hk e => hk.2.1 e).mono fun k _ hk => hK k hk)
    have g1 := hf.byV.mono (K' := fun k => w4.heap.size ≤ k ∧ k < w5.heap.size) fun k h1 h2 => ⟨h2, h1⟩
    have g2 := g1.off ho fun k hk e => by have := hrl k e; omega
    refine (g2.off ho2 fun k hk e => by omega).mono fun k _ hk => ⟨.inr (.inr hk), by omega, fun e => ?_⟩
    rcases hat k e with e2 | e2
    · have := hrl k e2; omega
    · omega
  · rcases hk with hk | hk | hk
    · exact Nat.lt_of_lt_of_le (h.lt k hk) (Nat.le_trans o1.size ho2.size)
    · exact Nat.lt_of_lt_of_le (hown.lt k hk).2 ho2.size
    · exact Nat.lt_of_lt_of_le hk.2 (Nat.le_trans ho.size ho2.size)

set_option maxRecDepth 100000 in
set_option maxHeartbeats 4000000 in
theorem append_any (P D : Nat) (lg : Lg) (m : Dk) (K F KS : Nat → Prop) (Ab : Option Addr) (cb : Nat) (b : List UInt8) (hg0 : lg.gen ≠ 0) (hb : b.length ≤ cb) (hcb : cb ≤ maxLen) (hz : Ab = none → cb = 0) (hmany : m.waits.length < 4294967296) (w : World)
    (hl : LogAt w P D lg K) (hd : DiskAt w D m F) (hK : ∀ k, K k → ¬ F k) (hB : BIn KS w Ab b) (hKS : ∀ k, KS k → ¬ F k) (hH : Halves w) :
    Calls Tryd.prog 9 #[.pointer (some ⟨P, 0, none⟩), .slice Ab b.length cb] w fun e w' => e = .returned (.int .i64 (appendM lg m b).1) ∧ LogTo w w' P D (appendM lg m b).2.1 (appendM lg m b).2.2 K F := by
  have HFL := Lib.hid (fell_any P D lg m K F w hl hd)
  have HSELF : Hid (∀ w1, Below w.heap.size w w1 → LogTo w w1 P D lg m K F) := fun w1 h1 => LogTo.disk hl hK hl.lt ⟨F, hd.below h1, Off.of_below h1, fun _ h => .inl h⟩
  have hM : appendM lg m b = appendM lg m b := rfl
  by_cases hfa : m.falls = lg.falls
  case neg =>
    rw [show appendM lg m b = (12, lg, m) by unfold appendM; rw [if_pos hfa]]
    rw [show (m.falls != lg.falls) = true by simpa using hfa] at HFL
    clear hl hd hB hM
    go_enter Tryd.func9, Tryd.ntmps9
    go_wp2_with fail
    go_at_call 22
    refine HFL.out.mono ?_
    rintro e w1 ⟨rfl, b1⟩
    go_wp2_with fail
    go_ret
    exact ⟨rfl, HSELF.out w1 b1⟩
  rw [show (m.falls != lg.falls) = false by simpa using hfa] at HFL
  have HRo : Hid (∀ w1, Below w.heap.size w w1 → Calls Tryd.prog 8 #[.pointer (some ⟨P, 0, none⟩)] w1 fun e w' => e = .returned (.int .i64 (roomI lg.half lg.end_)) ∧ w1 = w') := fun w1 h1 => Room_any P D lg K w1 (hl.below h1)
  by_cases hro : roomI lg.half lg.end_ < b.length
  case pos =>
    rw [show appendM lg m b = (7, lg, m) by unfold appendM; rw [if_neg (by simpa using hfa), if_pos hro]]
    generalize roomI lg.half lg.end_ = ro at *
    clear hl hd hB hM
    go_enter Tryd.func9, Tryd.ntmps9
    go_wp2_with fail
    go_at_call 22
    refine HFL.out.mono ?_
    rintro e w1 ⟨rfl, b1⟩
    have HRo1 := Lib.hid (HRo.out w1 b1)
    go_wp2_with fail
    go_at_call 8
    refine HRo1.out.mono ?_
    rintro e w' ⟨rfl, rfl⟩
    go_wp2_with fail
    go_ret
    exact ⟨rfl, HSELF.out w1 b1⟩
  have hE := hl.ok.end_
  have hHf := hl.ok.half
  have hfit : lg.end_ + (16 + b.length) ≤ lg.half ∧ b.length ≤ 1048576 := by unfold roomI at hro; omega
  have hmx := hfit.2
  have hn : lg.recs.length + 1 < 4294967296 := by have := hl.ok.many; omega
  have hg := hl.ok.gen
  have HFIT := Lib.hid hfit.1
  have HBM : Hid (∀ r, layM m ((lg.gen % 2 * lg.half : Nat) + lg.end_) (putT lg.gen (lg.recs.length + 1) b) = r → appendM lg m b = if r.1 ≠ 0 then (r.1, lg, r.2) else (0, { lg with recs := lg.recs ++ [b], end_ := lg.end_ + (16 + b.length) }, r.2)) := by
    rintro r rfl; unfold appendM; rw [if_neg (by simpa using hfa), if_neg hro]
  have HNX : Hid (∀ w1, Below w.heap.size w w1 → Calls Tryd.prog 24 #[.pointer (some ⟨P, 0, none⟩)] w1 fun e w' => e = .returned (.int .u32 (lg.recs.length + 1 : Nat)) ∧ w1 = w') := fun w1 h1 => next_any P D lg K w1 (hl.below h1)
  have HPT : Hid (∀ w1, Below w.heap.size w w1 → Calls Tryd.prog 23 #[.int .u32 lg.gen, .int .u32 (lg.recs.length + 1 : Nat), .slice Ab b.length cb] w1 fun e w' => ∃ A c, e = .returned (.tuple #[.slice A (16 + b.length) c, .int .i64 0]) ∧ Fresh w1 w' A (16 + b.length) c (putT lg.gen (lg.recs.length + 1) b)) :=
    fun w1 h1 => put_yes lg.gen (lg.recs.length + 1) b Ab cb hg0 hg hn hmx hb hcb hz w1 (hB.1.below h1 (Nat.le_refl _)) (hH.below h1)
  have hpl := putT_len (gen := lg.gen) (number := lg.recs.length + 1) (l := b) hg0 hmx
  obtain ⟨i0, hi0, hq0, hq1, hq2⟩ := info_parts rec_info
  have HLA := Lib.hid hl
  have HKL := Lib.hid hl.lt
  have HFLt := Lib.hid hd.lt
  have HPK := Lib.hid hl.kP
  obtain ⟨sv, rv, xs, h⟩ := hl
  obtain ⟨c0, c1, c2, c3, c4, c5, c6⟩ := h.cells
  obtain ⟨ra, rc, rfl, _⟩ := Sl.of_own h.own
  have H := Lib.hid h
  have HD := Lib.hid hd
  have HB := Lib.hid hB
  have HK := Lib.hid hK
  have HKS := Lib.hid hKS
  have HHv := Lib.hid hH
  generalize appendM lg m b = R at *
  generalize roomI lg.half lg.end_ = ro at *
  obtain ⟨n, hn1⟩ : ∃ n, 16 + b.length = n := ⟨_, rfl⟩
  have HN := Lib.hid hn1
  rw [hn1] at hpl HPT HFIT
  obtain ⟨nx, hnx⟩ : ∃ nx, lg.recs.length + 1 = nx := ⟨_, rfl⟩
  have HNXE := Lib.hid hnx
  rw [hnx] at hpl HPT HNX HBM
  have HPL := Lib.hid hpl
  have hrl : lg.recs.length ≤ 131072 := by have := H.out.ok.many; omega
  clear h hd hB hK hKS hM hH hn hnx hpl hn1 hfit hfa
  go_enter Tryd.func9, Tryd.ntmps9
  go_wp2_with fail
  go_at_call 22
  refine HFL.out.mono ?_
  rintro e w1 ⟨rfl, b1⟩
  have HRo1 := Lib.hid (HRo.out w1 b1)
  have HB1 := Lib.hid b1
  clear HRo HFL b1
  go_wp2_with fail
  go_at_call 8
  refine HRo1.out.mono ?_
  rintro e w' ⟨rfl, rfl⟩
  have HB1d : Hid (Below w.heap.size w w1.drew) := HB1.out.drew
  have f3 := cell_old c3 HB1.out
  have HNX1 := Lib.hid (HNX.out _ HB1d.out)
  have HPT1 := Lib.hid (HPT.out _ HB1d.out)
  go_upto_region 5 with fail
  go_cut [5, 6] from 15 (fun s5 s6 wx => ∃ A1 k1, s5 = .slice A1 n k1 ∧ s6 = .int .i64 0 ∧ Hid (Fresh w1.drew wx A1 n k1 (putT lg.gen nx b)))
  case first =>
    go_region_with (first
      | (go_at_call 24; refine HNX1.out.mono ?_; rintro e w' ⟨rfl, rfl⟩)
      | (go_at_call 23; refine HPT1.out.mono ?_; rintro e w2 ⟨A1, k1, rfl, hf⟩))
    all_goals
      have HF := Lib.hid hf
      clear hf
      go_wp2_with fail
      go_meet
      case rel => exact ⟨A1, k1, rfl, rfl, HF.out⟩
  case rest =>
  obtain ⟨A1, k1, rfl, rfl, HF1⟩ := hcut
  have HB2 : Hid (Below w.heap.size w wc) := HB1d.out.trans (HF1.out.below.mono HB1d.out.size)
  have HB2d : Hid (Below w.heap.size w wc.drew) := HB2.out.drew
  have hL1 := lay_n P D lg.half lg.gen lg.end_ n m F A1 k1 (putT lg.gen nx b) HPL.out hHf hg (by omega) HF1.out.le HF1.out.cap HF1.out.nil hmany wc.drew
    (cell_old c0 HB2d.out) (cell_old c2 HB2d.out) (HK.out P HPK.out) (HD.out.below HB2d.out) (HF1.out.at_.1.below (drew_below wc) (Nat.le_refl _))
  obtain ⟨r1, hr1⟩ : ∃ r1, layM m ((lg.gen % 2 * lg.half : Nat) + lg.end_) (putT lg.gen nx b) = r1 := ⟨_, rfl⟩
  have HR := Lib.hid (HBM.out r1 hr1)
  rw [hr1] at hL1
  have HL1 := Lib.hid hL1
  obtain ⟨e1, m1⟩ := r1
  have f3 := cell_old c3 HB2.out
  have f6 := cell_old c6 HB2.out
  clear hL1 hr1 HBM
  go_upto_region 8 with fail
  go_cut [7] from 29 (fun s7 wx => s7 = .int .i64 e1 ∧ Hid (DiskTo wc.drew wx D m1 F))
  case first =>
    go_region_with (go_at_call 25; refine HL1.out.mono ?_; rintro e w3 ⟨rfl, hT⟩)
    all_goals
      have HT := Lib.hid hT
      clear hT
      go_wp2_with fail
      go_meet
      case rel => exact ⟨rfl, HT.out⟩
  case rest =>
  obtain ⟨rfl, HT⟩ := hcut
  obtain ⟨F3, hd3, o3, i3⟩ := HT.out
  have O3 : Hid (Off F w wc) := (Off.of_below HB2d.out).trans' o3
  have I3 : Hid (∀ k, F3 k → F k ∨ w.heap.size ≤ k) := fun k hk => (i3 k hk).imp id fun h => Nat.le_trans HB2d.out.size h
  have HD3 := Lib.hid hd3
  clear hd3 o3 i3 HT f3 f6 HL1 HB2d HB2 HF1 HNX1 HPT1
  by_cases h1 : e1 = 0
  case neg =>
    have hne : (e1 != 0) = true := by simpa using h1
    rw [if_pos h1] at HR
    go_wp2_with fail
    go_ret
    rw [HR.out]
    exact ⟨rfl, LogTo.disk HLA.out HK.out HKL.out ⟨F3, HD3.out, O3.out, I3.out⟩⟩
  subst h1
  rw [if_neg (by simp)] at HR
  have H4 := Lib.hid (H.out.off O3.out HK.out)
  have HC := Lib.hid (clone_any Ab cb b hb hcb hz (by omega) wc.drew ((HB.out.off O3.out HKS.out).1.below (drew_below wc) (Nat.le_refl _)))
  obtain ⟨g0, g1, g2, g3, g4, g5, g6⟩ := H4.out.cells
  have HOF : Hid (∀ (w2 : World), Below wc.heap.size wc w2 → ∀ o, (w2.alloc o).ownsRow 0 23 1 (.slice ra lg.recs.length rc) lg.recs.length xs) := fun w2 h2 o => (own_off H4.out.own (F := fun _ => False) (Off.of_below h2) (fun _ _ h => h)).alloc o
  have HC1 : Hid (∀ w2, Below wc.drew.heap.size wc.drew w2 → w2.cell? ⟨P, 5, none⟩ = some (.slice ra lg.recs.length rc)) := fun w2 h2 => cell_old g5 ((drew_below wc).trans h2)
  have HDW : Hid (∀ w2 o w3, Below wc.drew.heap.size wc.drew w2 → (w2.alloc o).grownBy w3 (Value.slice ra lg.recs.length rc).ownBlock → w3.cell? ⟨P, 5, none⟩ = some (.slice ra lg.recs.length rc) ∧ w3.frozen? ⟨P, 5, none⟩ = false) := fun w2 o w3 h2 h3 => by
    have o1 : Off (fun k => (Value.slice ra lg.recs.length rc).ownBlock = some k) wc w3 := ((Off.of_below ((drew_below wc).trans h2)).alloc o).trans' (Off.of_grown h3 fun k hk => hk)
    exact ⟨o1.cell g5 H4.out.neP, unfrozen_of_block (o1.heap H4.out.blk H4.out.neP) 5⟩
  go_upto_region 11 with fail
  go_cut [] from 43 (fun wx => Hid (∃ w4 w6 A c v', Fresh wc w4 A b.length c b ∧ Off (fun k => (Value.slice ra lg.recs.length rc).ownBlock = some k) w4 w6 ∧ w6.ownsRow 0 23 1 v' nx (xs ++ [.slice A b.length c]) ∧ (∀ g, v'.ownBlock = some g → (Value.slice ra lg.recs.length rc).ownBlock = some g ∨ w4.heap.size ≤ g) ∧ wx = w6.setCell ⟨P, 5, none⟩ v'))
  case first =>
    go_region_law ((first
      | (go_simp; go_at_call 26; refine HC.out.mono ?_; intro e w2 hR; obtain ⟨A2, cA2, rfl, hfr⟩ := hR.fresh; have d1 := HC1.out w2 hfr.below; have d1a := fun o => cell_old d1 ((Below.refl w2.heap.size w2).alloc (Nat.le_refl _) o))
      | (refine step_append_lies _ (by rfl) _ _ _ (by rfl) 0 23 i0 _ 1 24 Tryd.underlying36 hi0 hq0 hq1 hq2 rfl (by decide) (.slice ra lg.recs.length rc) lg.recs.length xs (by rfl) (HOF.out w2 ((drew_below wc).trans hfr.below) _) ⟨w2.heap.size, 0, none⟩ 1 1 [.slice A2 b.length cA2] (by rfl) (by rfl) (World.news_of_block (cs := #[.slice A2 b.length cA2]) (t := 23) (fr := (0, 0)) (heap_alloc_new _ _)) (by simp [Value.oneCell']) (Nat.lt_succ_self 0) (by unfold maxLen; omega) (by omega) (Nat.zero_le _) _ rfl ?_; intro gg cap2 w3 hown3 hgr3 hat3 hlt3; obtain ⟨d3, d4⟩ := HDW.out w2 _ w3 hfr.below hgr3)))
    all_goals
      have HP : Hid (∃ w4 w6 A c v', Fresh wc w4 A b.length c b ∧ Off (fun k => (Value.slice ra lg.recs.length rc).ownBlock = some k) w4 w6 ∧ w6.ownsRow 0 23 1 v' nx (xs ++ [.slice A b.length c]) ∧ (∀ g, v'.ownBlock = some g → (Value.slice ra lg.recs.length rc).ownBlock = some g ∨ w4.heap.size ≤ g) ∧ w3.setCell ⟨P, 5, none⟩ (.slice (some ⟨gg, 0, none⟩) (lg.recs.length + 1) cap2) = w6.setCell ⟨P, 5, none⟩ v') := by
        refine ⟨w2, w3, A2, cA2, _, ⟨hfr.len, hfr.le, hfr.cap, hfr.nil, hfr.at_, (drew_below wc).trans hfr.below⟩, ((Off.refl _ w2).alloc _).trans' (Off.of_grown hgr3 fun k hk => hk), by rw [← HNXE.out]; exact hown3, fun g hg => ?_, rfl⟩
        simp [Value.ownBlock] at hg
        rcases hat3 with e | e
        · exact .inl (by rw [e, hg])
        · right; simp at e; omega
      clear hown3 hgr3 hat3 hlt3 hfr
      go_wp2_with fail
      go_meet
      case rel => exact HP.out
  case rest =>
  obtain ⟨w4, w6, A, c, v', hf4, o4, hown, hat, hwc⟩ := hcut.out
  have b6 := ((Off.of_below hf4.below).trans' o4).heap H4.out.blk H4.out.neP
  have b7 := block_setCell (i := 5) b6 v'
  rw [← hwc] at b7
  have f6 : wc.cell? ⟨P, 6, none⟩ = some (.int .i64 lg.end_) := by simp [World.cell?, b7]
  have fr : wc.frozen? ⟨P, 6, none⟩ = false := by simp [World.frozen?, b7]
  have o7 : Off (fun k => k = P) w6 wc := by rw [hwc]; exact (Off.refl (fun k => k = P) w6).setCell (b := P) (.inl rfl) _
  have hw8 : IntKind.i64.wrap ((lg.end_ : Int) + n) = ((lg.end_ + n : Nat) : Int) := by rw [IntKind.wrap_i64]; have := HFIT.out; omega
  have HF4 := Lib.hid hf4
  have O4 := Lib.hid o4
  have HOWN := Lib.hid hown
  have HAT := Lib.hid hat
  have B7 := Lib.hid b7
  have O7 := Lib.hid o7
  clear hf4 o4 hown hat b6 b7 o7 hwc hcut g0 g1 g2 g3 g4 g5 g6
  go_wp2_with fail
  go_ret
  rw [HR.out]
  refine ⟨rfl, ?_⟩
  have o8 : Off (fun k => k = P) w6 (wc.setCell ⟨P, 6, none⟩ (.int .i64 (lg.end_ + n : Nat))) := O7.out.setCell (b := P) (.inl rfl) _
  have hnx := HNXE.out
  subst hnx
  have hin := H4.out.more HF4.out (by have := HN.out; have := HFIT.out; omega) O4.out HOWN.out HAT.out o8 (by rw [HN.out]; exact block_setCell B7.out _)
  have hrl4 : ∀ k, (Value.slice ra lg.recs.length rc).ownBlock = some k → K k := H4.out.kR
  have hsz := O3.out.size
  have hPn : ¬ F3 P := fun h => (I3.out P h).elim (HK.out P HPK.out) fun h => by have := HKL.out P HPK.out; omega
  have hKn : ∀ k, K k → ¬ F3 k := fun k hk hF => (I3.out k hF).elim (HK.out k hk) fun h => by have := HKL.out k hk; omega
  refine ⟨_, F3, ⟨_, _, _, hin⟩, (((HD3.out.below HF4.out.below).off O4.out fun k hk hr => hKn k (hrl4 k hr) hk)).off o8 (fun k hk e => hPn (e ▸ hk)), ?_, ?_, ?_, I3.out⟩
  · rintro k (hk | hk | hk) hF
    · exact hKn k hk hF
    · rcases HAT.out k hk with h | h
      · exact hKn k (hrl4 k h) hF
      · have := HD3.out.lt k hF; have := HF4.out.below.size; omega
    · have := HD3.out.lt k hF; omega
  · refine (((O3.out.mono (G := fun k => K k ∨ F k) fun _ _ h => .inr h).trans' (Off.of_below HF4.out.below)).trans O4.out fun k hk => .inl (.inl (hrl4 k hk))).trans o8 fun k e => .inl (.inl (e ▸ HPK.out))
  · rintro k (hk | hk | hk)
    · exact .inl hk
    · rcases HAT.out k hk with h | h
      · exact .inl (hrl4 k h)
      · right; have := HF4.out.below.size; omega
    · exact .inr (by omega)

set_option maxRecDepth 100000 in
set_option maxHeartbeats 4000000 in
theorem compact_any (P D : Nat) (lg : Lg) (m : Dk) (K F KS : Nat → Prop) (Ab : Option Addr) (cb : Nat) (b : List UInt8) (hb : b.length ≤ cb) (hcb : cb ≤ maxLen) (hz : Ab = none → cb = 0) (hmany : m.waits.length < 4294967296) (w : World)
    (hl : LogAt w P D lg K) (hd : DiskAt w D m F) (hK : ∀ k, K k → ¬ F k) (hB : BIn KS w Ab b) (hKS : ∀ k, KS k → ¬ F k) (hH : Halves w) :
    Calls Tryd.prog 10 #[.pointer (some ⟨P, 0, none⟩), .slice Ab b.length cb] w fun e w' => e = .returned (.int .i64 (compactM lg m b).1) ∧ LogTo w w' P D (compactM lg m b).2.1 (compactM lg m b).2.2 K F := by
  have HFL := Lib.hid (fell_any P D lg m K F w hl hd)
  have HSELF : Hid (∀ w1, Below w.heap.size w w1 → LogTo w w1 P D lg m K F) := fun w1 h1 => LogTo.disk hl hK hl.lt ⟨F, hd.below h1, Off.of_below h1, fun _ h => .inl h⟩
  by_cases hfa : m.falls = lg.falls
  case neg =>
    rw [show compactM lg m b = (12, lg, m) by unfold compactM; rw [if_pos hfa]]
    rw [show (m.falls != lg.falls) = true by simpa using hfa] at HFL
    clear hl hd hB
    go_enter Tryd.func10, Tryd.ntmps10
    go_wp2_with fail
    go_at_call 22
    refine HFL.out.mono ?_
    rintro e w1 ⟨rfl, b1⟩
    go_wp2_with fail
    go_ret
    exact ⟨rfl, HSELF.out w1 b1⟩
  rw [show (m.falls != lg.falls) = false by simpa using hfa] at HFL
  have HRo : Hid (∀ w1, Below w.heap.size w w1 → Calls Tryd.prog 21 #[.pointer (some ⟨P, 0, none⟩), .int .i64 0] w1 fun e w' => e = .returned (.int .i64 (roomI lg.half 0)) ∧ w1 = w') := fun w1 h1 => room_any P D lg K 0 (by omega) w1 (hl.below h1)
  by_cases hro : roomI lg.half 0 < b.length
  case pos =>
    rw [show compactM lg m b = (7, lg, m) by unfold compactM; rw [if_neg (by simpa using hfa), if_pos hro]]
    generalize roomI lg.half 0 = ro at *
    clear hl hd hB
    go_enter Tryd.func10, Tryd.ntmps10
    go_wp2_with fail
    go_at_call 22
    refine HFL.out.mono ?_
    rintro e w1 ⟨rfl, b1⟩
    have HRo1 := Lib.hid (HRo.out w1 b1)
    go_wp2_with fail
    go_at_call 21
    refine HRo1.out.mono ?_
    rintro e w' ⟨rfl, rfl⟩
    go_wp2_with fail
    go_ret
    exact ⟨rfl, HSELF.out w1 b1⟩
  have hHf := hl.ok.half
  have hfit : 16 + b.length ≤ lg.half ∧ b.length ≤ 1048576 := by unfold roomI at hro; omega
  have hg := hl.ok.gen
  have hl0 := hl
  obtain ⟨sv, rv, xs, h⟩ := hl
  obtain ⟨c0, c1, c2, c3, c4, c5, c6⟩ := h.cells
  have HC3 := Lib.hid (fun w1 (h1 : Below w.heap.size w w1) => cell_old c3 h1)
  by_cases hmax : lg.gen = 4294967295
  · rw [show compactM lg m b = (11, lg, m) by unfold compactM; rw [if_neg (by simpa using hfa), if_neg hro, if_pos hmax]]
    have hw1 : IntKind.u32.wrap ((lg.gen : Int) + 1) = 0 := by rw [IntKind.wrap_u32]; omega
    have hq : ((0 : Int) == 0) = true := rfl
    generalize roomI lg.half 0 = ro at *
    clear h hd hB hl0 c0 c1 c2 c3 c4 c5 c6 hmax
    go_enter Tryd.func10, Tryd.ntmps10
    go_wp2_with fail
    go_at_call 22
    refine HFL.out.mono ?_
    rintro e w1 ⟨rfl, b1⟩
    have HRo1 := Lib.hid (HRo.out w1 b1)
    have d3 := HC3.out w1 b1
    go_wp2_with fail
    go_at_call 21
    refine HRo1.out.mono ?_
    rintro e w' ⟨rfl, rfl⟩
    go_wp2_with fail
    go_ret
    exact ⟨rfl, HSELF.out w1 b1⟩
  · rw [show compactM lg m b = beginM lg m (lg.gen + 1) b by unfold compactM; rw [if_neg (by simpa using hfa), if_neg hro, if_neg hmax]]
    have hw1 : IntKind.u32.wrap ((lg.gen : Int) + 1) = ((lg.gen + 1 : Nat) : Int) := by rw [IntKind.wrap_u32]; omega
    have HBG : Hid (∀ w1, Below w.heap.size w w1 → Calls Tryd.prog 19 #[.pointer (some ⟨P, 0, none⟩), .int .u32 (lg.gen + 1 : Nat), .slice Ab b.length cb] w1 fun e w' => e = .returned (.int .i64 (beginM lg m (lg.gen + 1) b).1) ∧ LogTo w1 w' P D (beginM lg m (lg.gen + 1) b).2.1 (beginM lg m (lg.gen + 1) b).2.2 K F) :=
      fun w1 h1 => begin_any P D (lg.gen + 1) lg m K F KS Ab cb b (by omega) (by omega) hfit.1 hfit.2 hb hcb hz hmany w1 (hl0.below h1) (hd.below h1) hK (hB.off (F := fun _ => False) (Off.of_below h1) fun _ _ h => h) hKS (hH.below h1)
    have hq : (((lg.gen + 1 : Nat) : Int) == 0) = false := by simp; omega
    obtain ⟨g1, hg1⟩ : ∃ g1, lg.gen + 1 = g1 := ⟨_, rfl⟩
    rw [hg1] at HBG hw1 hq ⊢
    generalize roomI lg.half 0 = ro at *
    generalize beginM lg m g1 b = R at *
    clear h hd hB hl0 c0 c1 c2 c3 c4 c5 c6 hg1 hmax
    go_enter Tryd.func10, Tryd.ntmps10
    go_wp2_with fail
    go_at_call 22
    refine HFL.out.mono ?_
    rintro e w1 ⟨rfl, b1⟩
    have HRo1 := Lib.hid (HRo.out w1 b1)
    have d3 := HC3.out w1 b1
    have HBG1 := Lib.hid (HBG.out w1 b1)
    have B1 := Lib.hid b1
    clear b1
    go_wp2_with fail
    go_at_call 21
    refine HRo1.out.mono ?_
    rintro e w' ⟨rfl, rfl⟩
    go_wp2_with fail
    go_at_call 19
    refine HBG1.out.mono ?_
    rintro e w2 ⟨rfl, hT⟩
    go_wp2_with fail
    go_ret
    exact ⟨rfl, hT.step (Off.of_below B1.out) (fun _ h => .inl h) fun _ h => .inl h⟩
end Go.Proofs.YtabknmlnlhflmaaDoor
