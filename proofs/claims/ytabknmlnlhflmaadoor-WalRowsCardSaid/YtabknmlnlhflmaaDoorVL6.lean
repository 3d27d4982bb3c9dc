/- The laws' walks: what is appended is there when a log is opened anew. -/
import Derived.Test.YtabknmlnlhflmaaDoorVL5
import Derived.Test.YtabknmlnlhflmaaDoorVL4
import Derived.Test.YtabknmlnlhflmaaDoorBS
namespace Go.Proofs.YtabknmlnlhflmaaDoor
open Go.ChangeShapes Go.WideShapes Go.ChangeAt Go.RowKit Go.Joins Dm Fr Vl

theorem Sl.offB {w w' : World} {F : Nat → Prop} {A : Option Addr} {n c : Nat} {xs : List Value} (h : Sl w A n c xs) (ho : Off F w w') (hA : ∀ a, A = some a → ¬ F a.block) : Sl w' A n c xs := by
  refine ⟨h.le, h.cap, h.nil, fun hn => ?_⟩
  obtain ⟨b, off, e, hlt, hc⟩ := h.on hn
  exact ⟨b, off, e, Nat.lt_of_lt_of_le hlt ho.size, fun i v hi => ho.cell (hc i v hi) (hA _ e)⟩

/-- A log on a disk, and what it should have, in memory. -/
structure RowsAt (w0 w : World) (P D B : Nat) (lg : Lg) (m : Dk) (A : Option Addr) (c : Nat) (K F : Nat → Prop) : Prop where
  up : Up w0 w P D lg m K F
  blk : OutAt w B 39 (.int .u32 lg.gen) (.string ⟨lg.snap.toArray⟩) (.slice A lg.recs.length c)
  rows : Sl w A lg.recs.length c (strV lg.recs)
  low : w0.heap.size ≤ B
  apart : ∀ k, K k ∨ F k → k ≠ B ∧ ∀ a, A = some a → k ≠ a.block
  aB : ∀ a, A = some a → a.block ≠ B
theorem Up.of {w0 w w' : World} {P D : Nat} {lg lg' : Lg} {m m' : Dk} {K F K2 F2 : Nat → Prop} (h : Up w0 w P D lg m K F) (h1 : LogAt w' P D lg' K2) (h2 : DiskAt w' D m' F2) (h3 : ∀ k, K2 k → ¬ F2 k) (h4 : Off (fun k => K k ∨ F k) w w') (h5 : ∀ k, K2 k → K k ∨ w.heap.size ≤ k) (h6 : ∀ k, F2 k → F k ∨ w.heap.size ≤ k) : Up w0 w' P D lg' m' K2 F2 := by
  have hs := h.below.size
  exact ⟨h1, h2, h3, fun k hk => (h5 k hk).elim (h.kB k) fun h => by omega, fun k hk => (h6 k hk).elim (h.fB k) fun h => by omega, ((Off.of_below h.below).trans h4 fun k hk => .inr (hk.elim (h.kB k) (h.fB k))).toBelow (F := fun k => w0.heap.size ≤ k) (Nat.le_refl _) fun k hk => hk⟩
theorem DiskAt.lt' {w : World} {D : Nat} {m : Dk} {F : Nat → Prop} (h : DiskAt w D m F) : ∀ k, F k → k < w.heap.size := h.lt
theorem RowsAt.next {w0 w1 w2 w3 w4 : World} {P D B : Nat} {lg lg2 : Lg} {m m2 : Dk} {A A2 : Option Addr} {c c2 n2 : Nat} {K F : Nat → Prop} (h : RowsAt w0 w1 P D B lg m A c K F) (o1 : Below w1.heap.size w1 w2) (hT : LogTo w2 w3 P D lg2 m2 K F) (b3 : Below w3.heap.size w3 w4) (hA : ∀ a, A2 = some a → w3.heap.size ≤ a.block) (hS : Sl w4 A2 n2 c2 (strV lg2.recs)) (hn : n2 = lg2.recs.length) {x y : Value} (hx : x = .int .u32 lg2.gen) (hy : y = .string ⟨lg2.snap.toArray⟩) :
    ∃ K' F', RowsAt w0 (((w4.setCell ⟨B, 0, none⟩ x).setCell ⟨B, 1, none⟩ y).setCell ⟨B, 2, none⟩ (.slice A2 n2 c2)) P D B lg2 m2 A2 c2 K' F' := by
  subst hn hx hy
  have hU := h.up.grow o1
  obtain ⟨K5, F5, h1, h2, h3, h4, h5, h6⟩ := hT
  have hU5 := hU.of h1 h2 h3 h4 h5 h6
  have hB := h.blk.lt
  have hs1 := o1.size
  have hs2 := h4.size
  have hs3 := b3.size
  have hK : ∀ k, K5 k ∨ F5 k → k ≠ B := fun k hk => by
    rcases hk with hk | hk
    · exact (h5 k hk).elim (fun h' => (h.apart k (.inl h')).1) fun h' => by omega
    · exact (h6 k hk).elim (fun h' => (h.apart k (.inr h')).1) fun h' => by omega
  have o : Off (fun k => k = B) w4 (((w4.setCell ⟨B, 0, none⟩ (.int .u32 lg2.gen)).setCell ⟨B, 1, none⟩ (.string ⟨lg2.snap.toArray⟩)).setCell ⟨B, 2, none⟩ (.slice A2 lg2.recs.length c2)) :=
    (((Off.refl (fun k => k = B) w4).setCell (b := B) (.inl rfl) _).setCell (b := B) (.inl rfl) _).setCell (b := B) (.inl rfl) _
  have hlt1 := h1.lt
  have hlt2 := h2.lt
  have hblk : OutAt w4 B 39 (.int .u32 lg.gen) (.string ⟨lg.snap.toArray⟩) (.slice A lg.recs.length c) := by
    have h2' : OutAt w2 B 39 (.int .u32 lg.gen) (.string ⟨lg.snap.toArray⟩) (.slice A lg.recs.length c) := h.blk.up o1
    have h3' : OutAt w3 B 39 (.int .u32 lg.gen) (.string ⟨lg.snap.toArray⟩) (.slice A lg.recs.length c) := by
      unfold OutAt at h2' ⊢
      exact h4.heap h2' fun hk => (h.apart B hk).1 rfl
    exact h3'.up b3
  have hU6 := hU5.grow b3
  refine ⟨K5, F5, ⟨hU6.log.off o fun k hk e => hK k (.inl hk) e, hU6.disk.off o fun k hk e => hK k (.inr hk) e, h3, hU6.kB, hU6.fB, below_set3 hU6.below h.low _ _ _⟩, ?_, ?_, h.low, fun k hk => ⟨hK k hk, fun a ha e => ?_⟩, fun a ha e => ?_⟩
  · exact block_setCell (block_setCell (block_setCell hblk _) _) _
  · exact hS.offB o fun a ha e => by have := hA a ha; omega
  · have := hA a ha
    rcases hk with hk | hk
    · have := hlt1 k hk; omega
    · have := hlt2 k hk; omega
  · have := hA a ha; omega
theorem RowsAt.mid {w0 w1 w2 w3 : World} {P D B : Nat} {lg lg2 : Lg} {m m2 : Dk} {A : Option Addr} {c : Nat} {K F : Nat → Prop} (h : RowsAt w0 w1 P D B lg m A c K F) {o : Obj} (o1 : Below w1.heap.size w1 w2) (ho : w2.heap[w1.heap.size]? = some o) (hT : LogTo w2 w3 P D lg2 m2 K F) :
    OutAt w3 B 39 (.int .u32 lg.gen) (.string ⟨lg.snap.toArray⟩) (.slice A lg.recs.length c) ∧ Sl w3 A lg.recs.length c (strV lg.recs) ∧ w3.heap[w1.heap.size]? = some o ∧ Below w0.heap.size w0 w3 := by
  have hU := h.up.grow o1
  obtain ⟨K5, F5, h1, h2, h3, h4, h5, h6⟩ := hT
  have h2' : OutAt w2 B 39 (.int .u32 lg.gen) (.string ⟨lg.snap.toArray⟩) (.slice A lg.recs.length c) := h.blk.up o1
  refine ⟨?_, (h.rows.below o1 (Nat.le_refl _)).offB h4 fun a ha hk => (h.apart _ hk).2 a ha rfl, h4.heap ho fun hk => ?_, (hU.of h1 h2 h3 h4 h5 h6).below⟩
  · unfold OutAt at h2' ⊢
    exact h4.heap h2' fun hk => (h.apart B hk).1 rfl
  · rcases hk with hk | hk
    · have := h.up.log.lt _ hk; omega
    · have := h.up.disk.lt _ hk; omega
theorem op_cells {w : World} {b : Nat} {k v x y : Value} (h : w.heap[b]? = some (.cells #[k, v, x, y] 41 (0, 0))) :
    w.cell? ⟨b, 0, none⟩ = some k ∧ w.cell? ⟨b, 1, none⟩ = some v ∧ w.cell? ⟨b, 2, none⟩ = some x ∧ w.cell? ⟨b, 3, none⟩ = some y := by
  refine ⟨?_, ?_, ?_, ?_⟩ <;> simp [World.cell?, h]
theorem open_inv (D : Nat) (lg : Lg) (m : Dk) (F : Nat → Prop) (h : Inv lg m) (w : World) (hd : DiskAt w D m F) (hH : Halves w) :
    Calls Tryd.prog 7 #[.pointer (some ⟨D, 0, none⟩)] w fun e w' => ∃ P, e = .returned (.tuple #[.pointer (some ⟨P, 0, none⟩), .int .i64 0]) ∧ OpenTo w w' P D lg m F := by
  have hM := openM_inv h
  refine (open_ok D m F (by rw [← h.half]; exact h.h64) (by rw [h.quiet.waits]; simp) w hd h.quiet.on hH).mono ?_
  rintro e w' (⟨_, P, h1, h2⟩ | ⟨h0, _⟩)
  · rw [hM] at h2; exact ⟨P, h1, h2⟩
  · rw [hM] at h0; exact absurd rfl h0
theorem new_inv {n : Nat} (hn : n ≤ 4194304) (h64 : 64 ≤ n / 2) : Inv (newL n) (newD n) := by
  have hl : (Dk.new n).laid = zeros n := by simp [Dk.new, zeros]
  have hh : (lg0 (Dk.new n)).half = n / 2 := by show (Dk.new n).laid.length / 2 = _; rw [hl, zeros_len]
  have h := Inv.begin (lg := lg0 (Dk.new n)) (m := Dk.new n) (new_quiet n) rfl rfl (by rw [hl, zeros_len]; omega) 1 (s := []) (by omega) (by omega) (by rw [hh]; exact h64) (by rw [hh]; simp; omega) (by simp) (by
    rw [hh, hl]
    have hz : halfB (n / 2) (zeros n) ((1 + 1) % 2) = zeros (min (n / 2) n) := by unfold halfB; rw [zeros_drop, zeros_take]; congr 1; simp
    rw [hz, zeros_drop, rd4_zeros, getB_zeros (by omega) (by omega)]
    intro h; cases h)
  have e1 : newL n = { lg0 (Dk.new n) with gen := 1, snap := [], recs := [], end_ := 16 + ([] : List UInt8).length } := by
    unfold newL lg0
    rw [hl, zeros_len]
    simp [Dk.new]
  have e2 : newD n = { Dk.new n with laid := over (over (Dk.new n).laid (1 % 2 * (lg0 (Dk.new n)).half, zeros (lg0 (Dk.new n)).half)) (1 % 2 * (lg0 (Dk.new n)).half, putT 1 0 []) } := by
    unfold newD
    rw [hh, hl, Nat.one_mod, Nat.one_mul]
  rw [e1, e2]
  exact h

set_option maxRecDepth 100000 in
set_option maxHeartbeats 4000000 in
theorem walRows_walk (sn : Nat) (hsn : sn < 256) (ls : List (List UInt8)) (A : Option Addr) (c : Nat) (hlc : ls.length ≤ 9223372036854775807) (w : World) (hB : BsAt w A ls) (hH : Halves w) :
    Calls Tryd.prog 4 #[.slice A ls.length c, .int .u8 sn] w fun e w' => e = .returned (.bool true) ∧ Below w.heap.size w w' := by
  have HH := Lib.hid hH
  have HBs := Lib.hid hB
  obtain ⟨d, hd⟩ : ∃ d, sn % 8 = d := ⟨_, rfl⟩
  have hd8 : d < 8 := by omega
  have hw0 : IntKind.i64.wrap (sn : Int) = sn := by rw [IntKind.wrap_i64]; omega
  have hw1 : (sn : Int) % 8 = d := by omega
  have hw2 : (sn : Int).tmod 8 = d := by rw [Int.tmod_eq_emod_of_nonneg (by omega)]; exact hw1
  obtain ⟨ev, hev⟩ : ∃ ev, d + 1 = ev := ⟨_, rfl⟩
  have hw3 : IntKind.i64.wrap (1 + (d : Int)) = ev := by rw [IntKind.wrap_i64]; omega
  have hw4 : IntKind.i64.wrap ((ev : Int) - 1) = d := by rw [IntKind.wrap_i64]; omega
  have hev0 : ¬ (ev : Int) = 0 := by omega
  have hevb : ((ev : Int) == 0) = false := by simpa using hev0
  have HEV := Lib.hid hev
  have HN := Lib.hid (disk_new_any 60000 (by omega) w)
  rw [show (min (max (60000 : Int) 0) 4194304).toNat = 60000 by decide] at HN
  have HF0 := Lib.hid (fixed7_any w HH.out)
  clear hH hB hd hev
  by_cases h40 : 40 < ls.length
  · have hz : (40 : Int) < ls.length := by omega
    go_enter Tryd.func4, Tryd.ntmps4
    go_wp2_with fail
    go_at_call 5
    refine HF0.out.mono ?_
    rintro e w' ⟨rfl, hb⟩
    go_wp2_with fail
    go_ret
    exact ⟨rfl, hb⟩
  have hz40 : ¬ (40 : Int) < ls.length := by omega
  have HNI := Lib.hid (new_inv (n := 60000) (by omega) (by omega))
  go_enter Tryd.func4, Tryd.ntmps4
  go_wp2_with fail
  go_at_call 6
  refine HN.out.mono ?_
  rintro e w1 ⟨D, F, rfl, h1, b1, f1⟩
  have HO := Lib.hid (open_new 60000 D F (by omega) (by omega) w1 h1 (HH.out.below b1))
  have HU : Hid (∀ w2 P, OpenTo w1 w2 P D (newL 60000) (newD 60000) F → ∃ K F', Up w w2 P D (newL 60000) (newD 60000) K F') := fun w2 P h => new_up 60000 (by omega) (by omega) w HH.out w1 w2 D P F h1 b1 f1 h
  clear h1 b1 f1
  go_wp2_with fail
  go_at_call 7
  refine HO.out.mono ?_
  rintro e w2 ⟨P, rfl, hO⟩
  have HU2 := Lib.hid (HU.out w2 P hO)
  clear hO
  go_upto_region 6 with fail
  obtain ⟨W3, hW3⟩ : ∃ W3, w2.alloc (.cells #[.int .u32 1, .string ⟨#[]⟩, .slice none 0 0] 39) = W3 := ⟨_, rfl⟩
  have HR0 : Hid (∃ A' c' K F', RowsAt w W3 P D w2.heap.size (newL 60000) (newD 60000) A' c' K F') := by
    obtain ⟨K, F', hU⟩ := HU2.out
    refine ⟨none, 0, K, F', hU.grow (by rw [← hW3]; exact (Below.refl _ w2).alloc (Nat.le_refl _) _), by rw [← hW3]; exact OutAt.new w2 _ _ _ _, Sl.none_ _, hU.below.size, fun k hk => ⟨?_, fun a ha => by cases ha⟩, fun a ha => by cases ha⟩
    rcases hk with hk | hk
    · have := hU.log.lt k hk; omega
    · have := hU.disk.lt k hk; omega
  rw [hW3]
  clear hW3
  go_wp2_with fail
  go_loopw [7, 32] (fun s7 s32 wr => ∃ (i : Nat) (lg : Lg) (m : Dk), i ≤ ls.length ∧ s7 = .int .i64 0 ∧ s32 = .int .i64 i ∧ Hid (∃ A' c' K F', RowsAt w wr P D w2.heap.size lg m A' c' K F') ∧ Hid (Inv lg m) ∧ Hid (lg.half = 30000) ∧ Hid (lg.end_ ≤ 516 * (i + 1)) ∧ Hid (lg.gen ≤ i + 1) ∧ Hid (lg.recs.length ≤ i)) (fun _ s32 _ => ls.length - (intOf s32).toNat)
  case atStart => exact ⟨0, newL 60000, newD 60000, Nat.zero_le _, rfl, rfl, HR0.out, HNI.out, rfl, by show (16 : Nat) ≤ _; omega, Nat.le_refl _, Nat.le_refl _⟩
  case round =>
    obtain ⟨i, lg, m, hi, rfl, rfl, HR, HI, HHf, HE, HG, HL⟩ := hrel
    obtain ⟨A', c', K, F', hRow⟩ := HR.out
    by_cases hlt : i < ls.length
    · have hiz : (i : Int) < ls.length := by omega
      have hw9 : IntKind.i64.wrap ((i : Int) + 1) = i + 1 := by rw [IntKind.wrap_i64]; omega
      obtain ⟨p, hp⟩ : ∃ p, ls[i]? = some p := ⟨_, List.getElem?_eq_getElem hlt⟩
      obtain ⟨b, off, Ai, ci, e0, hcell, hl1, hl2, hl3, hba⟩ := HBs.out.at_ hp
      have hc2 := cell_old hcell hRow.up.below
      have HROW := Lib.hid hRow
      have HBA := Lib.hid hba
      have HCI := Lib.hid (And.intro hl1 (And.intro hl2 hl3))
      have HBI : Hid (BIn (fun k => k < w.heap.size) w Ai p) := ⟨hba, fun hn a ha => by
        obtain ⟨b', o', e', hx, _⟩ := hba hn
        rw [e'] at ha
        obtain rfl := Option.some.inj ha
        exact hx⟩
      subst e0
      clear hp hcell hl1 hl2 hl3 hba hRow HR
      by_cases h500 : 500 < p.length
      · have h5z : (500 : Int) < p.length := by omega
        have HF5 := Lib.hid (fixed7_any wr (HH.out.up HROW.out.up))
        go_wp2_with fail
        go_at_call 5
        refine HF5.out.mono ?_
        rintro e w' ⟨rfl, hb⟩
        go_wp2_with fail
        go_ret
        exact ⟨rfl, HROW.out.up.below.trans (hb.mono HROW.out.up.below.size)⟩
      · have h5z : ¬ (500 : Int) < p.length := by omega
        obtain ⟨q, hq⟩ : ∃ q, i % ev = q := ⟨_, rfl⟩
        have hr1 : (i : Int) % ev = q := by rw [← hq]; simp
        have hr2 : (i : Int).tmod ev = q := by rw [Int.tmod_eq_emod_of_nonneg (by omega)]; exact hr1
        have hq8 : q < 9 := by have := Nat.mod_lt i (show ev > 0 by omega); have := HEV.out; omega
        have hw10 : IntKind.i64.wrap (q : Int) = q := by rw [IntKind.wrap_i64]; omega
        clear hq
        by_cases hk : q = d
        · subst hk
          go_upto_region 15 with fail
          obtain ⟨W4, hW4⟩ : ∃ W4, wr.alloc (.cells #[.int .i64 1, .slice Ai p.length ci, .int .i64 0, .int .i64 0] 41) = W4 := ⟨_, rfl⟩
          have hb4 : Below wr.heap.size wr W4 := by rw [← hW4]; exact (Below.refl _ wr).alloc (Nat.le_refl _) _
          have hop : W4.heap[wr.heap.size]? = some (.cells #[.int .i64 1, .slice Ai p.length ci, .int .i64 0, .int .i64 0] 41 (0, 0)) := by rw [← hW4]; exact heap_alloc_new _ _
          obtain ⟨o0, _⟩ := op_cells hop
          have HB4 := Lib.hid hb4
          have HOP := Lib.hid hop
          rw [hW4]
          clear hW4 hb4 hop
          obtain ⟨lg2, m2, hcm, hI2, hlg2⟩ := HI.out.compact (s := p) (by rw [HHf.out]; unfold roomI; omega) (by have := HG.out; omega)
          have HI2 := Lib.hid hI2
          have HLG2 := Lib.hid hlg2
          have hbw : Below w.heap.size w W4 := HROW.out.up.below.trans (HB4.out.mono HROW.out.up.below.size)
          have HC := Lib.hid (compact_any P D lg m K F' (fun k => k < w.heap.size) Ai ci p HCI.out.1 HCI.out.2.1 HCI.out.2.2 (by rw [HI.out.quiet.waits]; simp) W4 (HROW.out.up.log.below HB4.out) (HROW.out.up.disk.below HB4.out) HROW.out.up.apart ⟨HBA.out.below hbw (Nat.le_refl _), HBI.out.2⟩ (fun k hk hF => by have := HROW.out.up.fB k hF; omega) (HH.out.below hbw))
          rw [hcm] at HC
          clear hcm hI2 hlg2 hbw
          go_wp2_with fail
          go_at_call 10
          refine HC.out.mono ?_
          rintro e w5 ⟨rfl, hT⟩
          have HT := Lib.hid hT
          obtain ⟨hS5, hL5, hop5, hbw5⟩ := HROW.out.mid HB4.out HOP.out hT
          obtain ⟨s0, s1, s2⟩ := hS5.cells
          obtain ⟨p0, p1, p2, p3⟩ := op_cells hop5
          have HS5 := Lib.hid hS5
          have HBW5 := Lib.hid hbw5
          have HWC := Lib.hid (with_compact lg.gen ⟨lg.snap.toArray⟩ A' lg.recs.length c' Ai ci p (.int .i64 0) (.int .i64 0) (by have := HG.out; omega) w5 (HBA.out.below hbw5 (Nat.le_refl _)))
          clear hT hS5 hL5 hop5 hbw5
          go_wp2_with fail
          go_at_call 12
          refine HWC.out.mono ?_
          rintro e w6 ⟨rfl, hb6⟩
          have HB6 := Lib.hid hb6
          have hS6 := HS5.out.up hb6
          obtain ⟨t0, t1, t2⟩ := hS6.cells
          have htf := hS6.free
          clear hb6 hS6 s0 s1 s2 p0 p1 p2 p3
          go_wp2_with fail
          go_roundw
          case rel =>
            have hlg := HLG2.out
            obtain ⟨K7, F7, hR7⟩ := HROW.out.next HB4.out HT.out HB6.out (A2 := none) (c2 := 0) (n2 := 0) (fun a ha => by cases ha) (by rw [hlg]; exact Sl.none_ _) (by rw [hlg]; rfl) (x := .int .u32 (lg.gen + 1 : Nat)) (y := .string ⟨p.toArray⟩) (by rw [hlg]) (by rw [hlg])
            exact ⟨i + 1, lg2, m2, hlt, rfl, by go_num, ⟨none, 0, K7, F7, hR7⟩, HI2.out, by show _ = _; rw [hlg]; exact HHf.out, by show _ ≤ _; rw [hlg]; show 16 + p.length ≤ _; omega, by show _ ≤ _; rw [hlg]; have := HG.out; show lg.gen + 1 ≤ _; omega, by show _ ≤ _; rw [hlg]; exact Nat.zero_le _⟩
          case measure => simp [intOf]; omega
        · have hkz : ¬ (q : Int) = d := by omega
          have hkb : ((q : Int) == d) = false := by simpa using hkz
          go_upto_region 15 with fail
          obtain ⟨W4, hW4⟩ : ∃ W4, wr.alloc (.cells #[.int .i64 0, .slice Ai p.length ci, .int .i64 0, .int .i64 0] 41) = W4 := ⟨_, rfl⟩
          have hb4 : Below wr.heap.size wr W4 := by rw [← hW4]; exact (Below.refl _ wr).alloc (Nat.le_refl _) _
          have hop : W4.heap[wr.heap.size]? = some (.cells #[.int .i64 0, .slice Ai p.length ci, .int .i64 0, .int .i64 0] 41 (0, 0)) := by rw [← hW4]; exact heap_alloc_new _ _
          obtain ⟨o0, _⟩ := op_cells hop
          have HB4 := Lib.hid hb4
          have HOP := Lib.hid hop
          rw [hW4]
          clear hW4 hb4 hop
          have hnr : ¬ roomI lg.half lg.end_ < p.length := by rw [HHf.out]; have := HE.out; unfold roomI; omega
          have HNR := Lib.hid hnr
          have hbw : Below w.heap.size w W4 := HROW.out.up.below.trans (HB4.out.mono HROW.out.up.below.size)
          have HC := Lib.hid (append_any P D lg m K F' (fun k => k < w.heap.size) Ai ci p HI.out.gen HCI.out.1 HCI.out.2.1 HCI.out.2.2 (by rw [HI.out.quiet.waits]; simp) W4 (HROW.out.up.log.below HB4.out) (HROW.out.up.disk.below HB4.out) HROW.out.up.apart ⟨HBA.out.below hbw (Nat.le_refl _), HBI.out.2⟩ (fun k hk hF => by have := HROW.out.up.fB k hF; omega) (HH.out.below hbw))
          rw [appendM_good HI.out.toGood hnr] at HC
          have hrl : lg.recs.length ≤ 1000 := by have := HL.out; omega
          clear hbw hnr
          go_wp2_with fail
          go_at_call 9
          refine HC.out.mono ?_
          rintro e w5 ⟨rfl, hT⟩
          have HT := Lib.hid hT
          obtain ⟨hS5, hL5, hop5, hbw5⟩ := HROW.out.mid HB4.out HOP.out hT
          obtain ⟨s0, s1, s2⟩ := hS5.cells
          obtain ⟨p0, p1, p2, p3⟩ := op_cells hop5
          have HS5 := Lib.hid hS5
          have HBW5 := Lib.hid hbw5
          have HWC := Lib.hid (with_append lg.gen ⟨lg.snap.toArray⟩ A' c' lg.recs Ai ci p (.int .i64 0) (.int .i64 0) hrl w5 (HBA.out.below hbw5 (Nat.le_refl _)) hL5)
          clear hT hS5 hL5 hop5 hbw5
          go_wp2_with fail
          go_at_call 12
          refine HWC.out.mono ?_
          rintro e w6 ⟨g, cap, rfl, hsl, hb6, hg⟩
          have HB6 := Lib.hid hb6
          have HSL := Lib.hid hsl
          have HGG := Lib.hid hg
          have hS6 := HS5.out.up hb6
          obtain ⟨t0, t1, t2⟩ := hS6.cells
          have htf := hS6.free
          clear hb6 hS6 hsl hg s0 s1 s2 p0 p1 p2 p3
          go_wp2_with fail
          go_roundw
          case rel =>
            obtain ⟨K7, F7, hR7⟩ := HROW.out.next HB4.out HT.out HB6.out (A2 := some ⟨g, 0, none⟩) (c2 := cap) (n2 := lg.recs.length + 1) (fun a ha => by obtain rfl := Option.some.inj ha; exact HGG.out) HSL.out (by simp) (x := .int .u32 lg.gen) (y := .string ⟨lg.snap.toArray⟩) rfl rfl
            exact ⟨i + 1, _, _, hlt, rfl, by go_num, ⟨_, _, K7, F7, hR7⟩, HI.out.append (Int.not_lt.2 HNR.out), HHf.out, by have := HE.out; show lg.end_ + (16 + p.length) ≤ _; omega, Nat.le_succ_of_le HG.out, by have := HL.out; show (lg.recs ++ [p]).length ≤ _; simp; omega⟩
          case measure => simp [intOf]; omega
    · have hiz : ¬ (i : Int) < ls.length := by omega
      have HO2 := Lib.hid (open_inv D lg m F' HI.out wr hRow.up.disk (HH.out.up hRow.up))
      have HROW := Lib.hid hRow
      have hln := HI.out.long
      have HLN : Hid (lg.snap.length ≤ 140737488355328 ∧ ∀ p ∈ lg.recs, p.length ≤ 140737488355328) := ⟨Nat.le_trans hln.1 (by omega), fun p hp => Nat.le_trans (hln.2 p hp) (by omega)⟩
      clear hRow HR hln
      go_wp2_with fail
      go_at_call 7
      refine HO2.out.mono ?_
      rintro e w3 ⟨P2, rfl, hO⟩
      obtain ⟨K3, F3, a1, a2, a3, a4, a5, a6⟩ := hO
      have HL3 := Lib.hid (HROW.out.up.log.off a4 HROW.out.up.apart)
      have HL4 := Lib.hid a1
      have hS3 : OutAt w3 w2.heap.size 39 (.int .u32 lg.gen) (.string ⟨lg.snap.toArray⟩) (.slice A' lg.recs.length c') := by
        have := HROW.out.blk
        unfold OutAt at this ⊢
        exact a4.heap this fun hk => (HROW.out.apart _ (.inr hk)).1 rfl
      have HS3 := Lib.hid hS3
      have HSL3 := Lib.hid (HROW.out.rows.offB a4 fun a ha hk => (HROW.out.apart _ (.inr hk)).2 a ha rfl)
      have HB3 : Hid (Below w.heap.size w w3) := ((Off.of_below HROW.out.up.below).trans' a4).toBelow (Nat.le_refl _) HROW.out.up.fB
      have HF3 := Lib.hid (fixed7_any w3 (HH.out.below HB3.out))
      clear a1 a2 a3 a4 a5 a6 hS3
      go_wp2_with fail
      go_at_call 5
      refine HF3.out.mono ?_
      rintro e w4 ⟨rfl, hb4⟩
      have HB4 := Lib.hid hb4
      obtain ⟨s0, s1, s2⟩ := (HS3.out.up hb4).cells
      have HSa := Lib.hid (same_any P D lg.gen lg K lg.snap lg.recs rfl rfl rfl A' c' HLN.out.1 HLN.out.2 w4 (HL3.out.below hb4) (HSL3.out.below hb4 (Nat.le_refl _)))
      clear hb4
      go_wp2_with fail
      go_at_call 13
      refine HSa.out.mono ?_
      rintro e w5 ⟨rfl, hb5⟩
      have HB5 : Hid (Below w3.heap.size w3 w5) := HB4.out.trans (hb5.mono HB4.out.size)
      clear s0 s1 s2
      obtain ⟨s0, s1, s2⟩ := (HS3.out.up HB5.out).cells
      have HSb := Lib.hid (same_any P2 D lg.gen lg K3 lg.snap lg.recs rfl rfl rfl A' c' HLN.out.1 HLN.out.2 w5 (HL4.out.below HB5.out) (HSL3.out.below HB5.out (Nat.le_refl _)))
      clear hb5
      go_wp2_with fail
      go_at_call 13
      refine HSb.out.mono ?_
      rintro e w6 ⟨rfl, hb6⟩
      have HB6 : Hid (Below w3.heap.size w3 w6) := HB5.out.trans (hb6.mono HB5.out.size)
      clear hb6
      go_wp2_with fail
      go_ret
      exact ⟨rfl, HB3.out.trans (HB6.out.mono HB3.out.size)⟩
end Go.Proofs.YtabknmlnlhflmaaDoor
