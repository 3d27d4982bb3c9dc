import Derived.Test.YtfjmofefciopmaaGreatZIW6
import Derived.Test.YtfjmofefciopmaaGreatZMK
import Derived.Test.YtfjmofefciopmaaGreatZMN
import Derived.Shelf.SortM.Plain
import Derived.Shelf.SortM.SortNone
import Derived.Shelf.SlicesE.Compact
/- Contracts of the program's events: the library's sort and what it drops of doubles; the times that aren't changed, near a window. -/
section
namespace Go.Proofs.YtfjmofefciopmaaGreat
open Go.ChangeShapes Go.WideShapes Go.ChangeAt Go.RowKit Go.Joins Go.Sort Sp Ev Qr
theorem sort64_any (l : List Int) (g cap : Nat) (w : World) (h : RowAt w g cap 2 (iv l)) (hl : l.length ≤ 1000000) :
    Calls Tryz.prog 68 #[.slice (some ⟨g, 0, none⟩) l.length cap] w fun e w' => e = .returned (.tuple #[]) ∧ RowAt w' g cap 2 (iv (Tm.srtI l)) ∧ Off (fun b => b = g) w w' := by
  have h2 := h
  rw [iv_map] at h2
  have hcon := AnyM.slices_Sort_int Tryz.sort64 g 0 cap l w h2.holds h.lt (by omega)
  change Calls Tryz.prog 68 _ _ _ at hcon
  refine hcon.mono ?_
  rintro e w' ⟨rfl, n, os, rfl⟩
  refine ⟨rfl, ?_, off_put _ _⟩
  rw [iv_map]
  exact h2.put (Value.int .i64) (Tm.srtI l) (by rw [List.length_map, Tm.srtI_len]) n os
theorem sort64_none (c : Nat) (w : World) :
    Calls Tryz.prog 68 #[.slice none 0 c] w fun e w' => e = .returned (.tuple #[]) ∧ w = w' := by
  have hcon := AnyM.slices_Sort_int_none Tryz.sort64 none c w
  change Calls Tryz.prog 68 _ _ _ at hcon
  exact hcon.mono fun _ _ ⟨h1, h2⟩ => ⟨h1, h2.symm⟩
theorem one64 : OneCell (Value.int .i64) := fun _ => rfl
theorem compact64_any (l : List Int) (g cap : Nat) (w : World) (h : RowAt w g cap 2 (iv l)) (hl : l.length ≤ 1000000) :
    Calls Tryz.prog 70 #[.slice (some ⟨g, 0, none⟩) l.length cap] w fun e w' => e = .returned (.slice (some ⟨g, 0, none⟩) (Lib.compactUpTo l.toArray l.toArray.size).length cap) ∧ RowAt w' g cap 2 (iv (Lib.compactUpTo l.toArray l.toArray.size)) ∧ Off (fun b => b = g) w w' := by
  have h2 := h
  rw [iv_map] at h2
  have hlc : l.length ≤ cap := by have := h.toSl.le; rwa [iv_len] at this
  have hcon := AnyE.slices_Compact Tryz.compact64 (Value.int .i64) one64 (EqlAt.intD _ _ .i64) (NeqAt.intD _ _ .i64) 0 i64_zero g 0 cap l.toArray w h2.holds (by simp; omega) (by simpa using hlc)
  change Calls Tryz.prog 70 _ _ _ at hcon
  rw [show l.toArray.size = l.length by simp] at hcon
  rw [show l.toArray.size = l.length by simp]
  have hcl := Tm.compact_len l l.length
  refine hcon.mono ?_
  rintro e w' ⟨rfl, q, rfl⟩
  refine ⟨rfl, ?_, ?_⟩
  · have h3 := h2.put (Value.int .i64) (Lib.compactUpTo l.toArray l.length ++ List.replicate (l.length - (Lib.compactUpTo l.toArray l.length).length) 0) (by rw [List.length_map, List.length_append, List.length_replicate]; omega) q #[]
    rw [grow_empty] at h3
    have h4 := h3.cut (Lib.compactUpTo l.toArray l.length).length
    rw [List.map_append, List.take_left' (by simp)] at h4
    rw [iv_map]
    exact h4
  · have := off_put (Value.int .i64) (w := w) (g := g) (n := q) (os := #[]) (Lib.compactUpTo l.toArray l.length ++ List.replicate (l.length - (Lib.compactUpTo l.toArray l.length).length) 0).toArray
    rwa [grow_empty] at this
theorem compact64_none (c : Nat) (w : World) :
    Calls Tryz.prog 70 #[.slice none 0 c] w fun e w' => e = .returned (.slice none 0 c) ∧ w = w' := by
  go_enter Tryz.func70, Tryz.ntmps70
  go_wp2_with fail
  go_ret
  exact ⟨rfl, rfl⟩
theorem deleteF_none (cb : Array Value) (w : World) :
    Calls Tryz.prog 69 #[.slice none 0 0, .func (.func 71) #[] cb] w fun e w' => e = .returned (.slice none 0 0) ∧ Below w.heap.size w w' := by
  have HI : Hid (Calls Tryz.prog 92 #[.slice none 0 0, .func (.func 71) #[] cb] w fun e w' => e = .returned (.int .i64 (-1)) ∧ Below w.heap.size w w') := by
    show Calls _ _ _ _ _
    go_enter Tryz.func92, Tryz.ntmps92
    go_wp2_with fail
    go_loopw [8] (fun s wr => w = wr ∧ s = .int .i64 0) (fun s _ => 0)
    case atStart => exact ⟨rfl, rfl⟩
    case round =>
      obtain ⟨rfl, rfl⟩ := hrel
      go_wp2_with fail
      go_ret
      exact ⟨rfl, Below.refl _ _⟩
  go_enter Tryz.func69, Tryz.ntmps69
  go_wp2_with (go_at_call 92; (with_reducible refine HI.out.mono ?_); rintro e w' ⟨rfl, hb⟩)
  go_ret
  exact ⟨rfl, hb⟩
theorem st64_info : (Tryz.prog.info? 2).map (fun i => (i.zero, i.size, i.bytes)) = some (some (.int .i64 0), 1, 8) := by kernel_rfl
def RetN11 (e : Evt) (x : Spn) (w : World) (q : Ending) (w' : World) : Prop :=
  ∃ (T : List Int) (A : Option Addr) (c : Nat), q = .returned (.slice A T.length c) ∧ Sl w' A T.length c (iv T) ∧ IsT e x T ∧ T.length ≤ 900000 ∧ Below w.heap.size w w'
theorem near_len {e : Evt} {x : Spn} (hx : x.1 < x.2) (hlo : 0 ≤ e.long) : ((wL e x).length : Int) ≤ nearB x - nearA e.long x ∧ 0 ≤ nearB x - nearA e.long x ∧ nearB x - nearA e.long x ≤ 158310720 := by
  have h1 := Tm.ris_len (a := nearA e.long x) (b := nearB x) (Tm.within_ris e.rule e.start (nearA e.long x) (nearB x)).1 (fun y hy => by have := Tm.within_bd hy; exact ⟨this.2.2.1, this.2.2.2.2.2⟩)
  have h2 : nearA e.long x ≤ nearB x := by unfold nearA nearB inT; omega
  unfold wL
  refine ⟨by omega, by omega, ?_⟩
  unfold nearA nearB inT; omega
set_option maxRecDepth 100000 in
set_option maxHeartbeats 8000000 in
theorem punch_any (e : Evt) (A1 A2 A3 A4 A5 A6 A7 : Option Addr) (c1 c2 c3 c4 c5 c6 c7 : Nat) (x1 x2 : Int) (hx : x1 < x2) (hlo : 0 ≤ e.long ∧ e.long ≤ 10080) (hst : 0 ≤ e.start ∧ e.start < 158310720) (hpl : e.plus.length ≤ 50) (hl : e.rule.bm.length ≤ 10000 ∧ e.rule.bd.length ≤ 10000 ∧ e.rule.bw.length ≤ 10000 ∧ e.rule.bs.length ≤ 10000) (w : World) (h : EAt w e A1 A2 A3 A4 A5 A6 A7 c1 c2 c3 c4 c5 c6 c7) :
    Calls Tryz.prog 37 #[.agg (ecells e A1 A2 A3 A4 A5 A6 A7 c1 c2 c3 c4 c5 c6 c7), .agg #[.int .i64 x1, .int .i64 x2]] w (RetN11 e (x1, x2) w) := by
  obtain ⟨W, hW⟩ : ∃ W, (w.alloc (.cells (ecells e A1 A2 A3 A4 A5 A6 A7 c1 c2 c3 c4 c5 c6 c7) 32)).alloc (.cells #[.int .i64 x1, .int .i64 x2] 34) = W := ⟨_, rfl⟩
  have hBW : Below w.heap.size w W := by rw [← hW]; exact ((Below.refl _ w).alloc (Nat.le_refl _) _).alloc (by simp) _
  have hszW : W.heap.size = w.heap.size + 2 := by rw [← hW]; simp
  have HG : Hid (∀ g : Gr W, Below w.heap.size w g.val) := fun g => hBW.trans (g.ok.mono hBW.size)
  have HB : ∀ (G : Gr W) (k : Nat) (v : Value), (ecells e A1 A2 A3 A4 A5 A6 A7 c1 c2 c3 c4 c5 c6 c7)[k]? = some v → G.val.cell? ⟨w.heap.size, k, none⟩ = some v := fun G k v hk => by
    refine cell_old (w := W) ?_ G.ok
    rw [← hW]
    exact cell_old (boxE e A1 A2 A3 A4 A5 A6 A7 c1 c2 c3 c4 c5 c6 c7 w ⟨_, Below.refl _ _⟩ k v hk) ((Below.refl _ _).alloc (Nat.le_refl _) _)
  have w0 : ∀ G : Gr W, G.val.cell? ⟨w.heap.size + 1, 0, none⟩ = some (.int .i64 x1) := fun G => cell_old (w := W) (by rw [← hW]; simp [go_sem]) G.ok
  have w1 : ∀ G : Gr W, G.val.cell? ⟨w.heap.size + 1, 1, none⟩ = some (.int .i64 x2) := fun G => cell_old (w := W) (by rw [← hW]; simp [go_sem]) G.ok
  have HE : Hid (∀ g : Gr W, EAt g.val e A1 A2 A3 A4 A5 A6 A7 c1 c2 c3 c4 c5 c6 c7) := fun g => h.below (HG.out g)
  have HN : Hid (∀ g : Gr W, Calls Tryz.prog 66 #[.agg (ecells e A1 A2 A3 A4 A5 A6 A7 c1 c2 c3 c4 c5 c6 c7), .agg #[.int .i64 x1, .int .i64 x2]] g.val fun q w' => q = .returned (.tuple #[.int .i64 (nearA e.long (x1, x2)), .int .i64 (nearB (x1, x2))]) ∧ Below g.val.heap.size g.val w') := fun g => pnear_any e A1 A2 A3 A4 A5 A6 A7 c1 c2 c3 c4 c5 c6 c7 x1 x2 hlo g.val
  have hnl := near_len (e := e) (x := (x1, x2)) hx hlo.1
  have hnb : 0 ≤ nearA e.long (x1, x2) ∧ nearA e.long (x1, x2) ≤ 158310720 ∧ 0 ≤ nearB (x1, x2) ∧ nearB (x1, x2) ≤ 158310720 := by unfold nearA nearB inT; omega
  have HBT : Hid (∀ g : Gr W, Calls Tryz.prog 67 #[.agg (rcells e.rule A1 A2 A3 A4 c1 c2 c3 c4), .int .i64 e.start, .int .i64 (nearA e.long (x1, x2)), .int .i64 (nearB (x1, x2)), .int .i64 (nearB (x1, x2) - nearA e.long (x1, x2))] g.val
      fun q w' => (∃ A c B, q = .returned (.tuple #[.slice A (wL e (x1, x2)).length c, .bool true]) ∧ g.val.heap.size ≤ B ∧ w'.ownsRow B 2 1 (.slice A (wL e (x1, x2)).length c) (wL e (x1, x2)).length (iv (wL e (x1, x2)))) ∧ Below g.val.heap.size g.val w') := fun g => by
    refine (pbetween_own e.rule A1 A2 A3 A4 c1 c2 c3 c4 e.start _ _ _ (by omega) (by omega) (by omega) hl g.val (HE.out g).r).mono ?_
    rintro q w' ⟨⟨_, A, c, rfl, _, B, hB, ho⟩ | ⟨hgt, _⟩, hb⟩
    · exact ⟨⟨A, c, B, rfl, hB, ho⟩, hb⟩
    · exfalso
      have := hnl.1
      unfold wL at this
      omega
  have hex : ∀ a, offB e.ex e.ch a = false ↔ ¬ a ∈ e.ex ∧ changedB e.ch a = false := fun a => by
    unfold offB; rw [Bool.or_eq_false_iff, mem_no]
  obtain ⟨T1, hT1⟩ : ∃ T1, wL e (x1, x2) = T1 := ⟨_, rfl⟩
  obtain ⟨y1, hy1⟩ : ∃ y1, nearA e.long (x1, x2) = y1 := ⟨_, rfl⟩
  obtain ⟨y2, hy2⟩ : ∃ y2, nearB (x1, x2) = y2 := ⟨_, rfl⟩
  rw [hT1, hy1, hy2] at hnl
  rw [hy1, hy2] at hnb
  rw [hy1, hy2] at HN
  rw [hT1, hy1, hy2] at HBT
  have hT1l : T1.length ≤ 158310720 := by omega
  have hT1k : T1.length ≤ 109938 := by rw [← hT1]; exact (Tm.within_ris _ _ _ _).2
  have hwr : IntKind.i64.wrap (y2 - y1) = y2 - y1 := by rw [IntKind.wrap_i64]; omega
  -- what the row is in the end
  have HIS : Hid (e.again = true → IsT e (x1, x2) ((Tm.cmpI (T1 ++ e.plus)).filter fun a => !offB e.ex e.ch a)) := fun ha => by
    refine ⟨List.Pairwise.sublist (List.filter_sublist ..) (Tm.ris_nodup (Tm.cmpI_ris _)), fun a => ?_⟩
    rw [List.mem_filter, Tm.cmpI_mem, List.mem_append, hT1, Bool.not_eq_true', hex]
    constructor
    · rintro ⟨h1, h2⟩; exact .inr ⟨ha, h1, h2⟩
    · rintro (⟨h1, _⟩ | ⟨_, h1, h2⟩)
      · rw [ha] at h1; cases h1
      · exact ⟨h1, h2⟩
  have HIS0 : Hid (e.again = false → IsT e (x1, x2) [e.start]) := fun ha => ⟨List.pairwise_singleton _ _, fun a => by simp [ha]⟩
  have HLL : Hid (((Tm.cmpI (T1 ++ e.plus)).filter fun a => !offB e.ex e.ch a).length ≤ 900000) := by
    have h1 := Tm.cmpI_len (T1 ++ e.plus)
    have h2 := List.length_filter_le (fun a => !offB e.ex e.ch a) (Tm.cmpI (T1 ++ e.plus))
    rw [List.length_append] at h1
    show _ ≤ _; omega
  have HL1 := Lib.hid hT1k
  clear hT1 hy1 hy2 hnl hnb hex hst hl hlo hx h hBW
  have HP6 : Hid (∀ g : Gr W, Sl g.val A6 e.plus.length c6 (iv e.plus)) := fun g => (HE.out g).s6
  have HU : Hid (∀ (g0 : Nat) (V : World) (a : Int), w.heap.size + 2 ≤ g0 → (∃ G : Gr W, Off (fun b => b = g0) G.val V) → Calls Tryz.prog 71 (#[.int .i64 a] ++ #[.pointer (some ⟨w.heap.size, 0, none⟩)]) V fun q w' => q = .returned (.bool (offB e.ex e.ch a)) ∧ Below V.heap.size V w') := fun g0 V a hg0 ⟨G, hO⟩ => by
    have hb : Below W.heap.size G.val V := hO.toBelow G.size (fun b hb => by rw [hb, hszW]; exact hg0)
    have hV : Below W.heap.size W V := G.ok.trans hb
    have hE := HE.out ⟨V, hV⟩
    exact un1_any e.ex e.ch A5 A7 c5 c7 a w.heap.size V (HB ⟨V, hV⟩ 13 _ rfl) (HB ⟨V, hV⟩ 15 _ rfl) hE.s5 (by have := hE.s7; rwa [cv_tv] at this)
  clear HE
  obtain ⟨i0, hi0, hz0, hz1, hz2⟩ := info_parts st64_info
  obtain ⟨start, long, world, again, rule, ex, plus, ch⟩ := e
  unfold ecells at HB hW HN ⊢
  unfold rcells at HBT
  simp only at *
  obtain ⟨g0, hg0⟩ := Gr.start W
  have E1 := Lib.hid (hW.trans hg0)
  have b0 := fun G => HB G 0 _ rfl
  have b1 := fun G => HB G 1 _ rfl
  have b2 := fun G => HB G 2 _ rfl
  have b3 := fun G => HB G 3 _ rfl
  have b4 := fun G => HB G 4 _ rfl
  have b5 := fun G => HB G 5 _ rfl
  have b6 := fun G => HB G 6 _ rfl
  have b7 := fun G => HB G 7 _ rfl
  have b8 := fun G => HB G 8 _ rfl
  have b9 := fun G => HB G 9 _ rfl
  have b10 := fun G => HB G 10 _ rfl
  have b11 := fun G => HB G 11 _ rfl
  have b12 := fun G => HB G 12 _ rfl
  have b13 := fun G => HB G 13 _ rfl
  have b14 := fun G => HB G 14 _ rfl
  have b15 := fun G => HB G 15 _ rfl
  clear HB hW hg0
  cases again with
  | false =>
    have HX := Lib.hid (HIS0.out rfl)
    clear HIS HIS0 HLL HN HBT HU HP6 HL1
    go_enter Tryz.func37, Tryz.ntmps37
    go_upto_region 1 with fail
    rw [E1.out]
    go_wp2_with fail
    go_ret
    refine ⟨[start], _, _, rfl, Sl.new g0.val [.int .i64 start] 1 2 (0, 0) (by decide), HX.out, by simp, ?_⟩
    exact (HG.out g0).trans (((Below.refl _ _).alloc (Nat.le_refl _) _).mono (HG.out g0).size)
  | true =>
    have HX := Lib.hid (HIS.out rfl)
    clear HIS HIS0
    have hml : T1.length + plus.length ≤ maxLen := by have : T1.length + plus.length ≤ 9223372036854775807 := by omega
                                                      exact this
    have hmb : (T1.length + plus.length) * 8 ≤ 140737488355328 := by omega
    go_enter Tryz.func37, Tryz.ntmps37
    go_upto_region 1 with fail
    rw [E1.out]
    go_wp2_with fail
    go_at_call 66
    refine (HN.out _).mono ?_
    rintro q wn ⟨rfl, hb⟩
    obtain ⟨g1, rfl⟩ := Gr.on _ hb
    clear hb
    go_wp2_with fail
    go_at_call 67
    refine (HBT.out _).mono ?_
    rintro q wb ⟨⟨A, c, B, rfl, hB, hown⟩, hb⟩
    obtain ⟨g2, rfl⟩ := Gr.on _ hb
    have HB2 : Hid (w.heap.size + 2 ≤ B) := by have := g1.size; show _ ≤ _; omega
    have HOW := Lib.hid (ownsRow_base (base' := w.heap.size + 2) hown (fun k hk => by
      rcases hown.2 with ⟨hn, _⟩ | ⟨g, cap, cur, hv, hbb, _⟩
      · rw [hn] at hk; cases hk
      · rw [hv] at hk; cases hk; exact Nat.le_trans HB2.out hbb))
    have hgs : w.heap.size + 2 ≤ g2.val.heap.size := by have := g2.size; omega
    clear hb hB hown HN HBT
    go_upto_region 6 with (refine wpList_append_sl rfl _ _ _ (by rfl) (w.heap.size + 2) 2 i0 _ 1 8 Tryz.underlying29 hi0 hz0 hz1 hz2 rfl (by decide) (.slice A T1.length c) T1.length (iv T1) (by rfl) HOW.out A6 plus.length c6 (iv plus) (by rfl) (HP6.out g2) (by rw [iv_len, Nat.mul_one]) iv_one hml hmb hgs ?_; rintro v' w3 hown3 hgr)
    have HO3 : Hid (w3.ownsRow (w.heap.size + 2) 2 1 v' (T1 ++ plus).length (iv (T1 ++ plus))) := by show World.ownsRow _ _ _ _ _ _ _; rw [List.length_append, iv_app]; exact hown3
    have hB3 : Below W.heap.size g2.val w3 := (Below.refl W.heap.size g2.val).grown hgr g2.size (fun k hk => by
      rcases HOW.out.2 with ⟨hn, _⟩ | ⟨g, cap, cur, hv, hbb, _⟩
      · rw [hn] at hk; cases hk
      · rw [hv] at hk; cases hk; show W.heap.size ≤ g; omega)
    obtain ⟨g3, rfl⟩ : ∃ g3 : Gr W, w3 = g3.val := ⟨⟨w3, g2.ok.trans hB3⟩, rfl⟩
    clear hgr hown3 hB3 hgs HOW hml hmb
    have hTl : (T1 ++ plus).length ≤ 1000000 := by rw [List.length_append]; have := HL1.out; omega
    have HTL := Lib.hid hTl
    clear hTl
    rcases RowAt.of_own HO3.out with ⟨rfl, h0, hnil⟩ | ⟨gb, cap, rfl, hgb, hle, hrow⟩
    · -- no time at all
      have hTe : T1 ++ plus = [] := List.length_eq_zero_iff.1 h0
      have HTE := Lib.hid hTe
      clear h0 hnil hTe HO3
      go_wp2_with fail
      go_at_call 68
      refine (sort64_none _ _).mono ?_
      rintro q w4 ⟨rfl, rfl⟩
      go_wp2_with fail
      go_at_call 70
      refine (compact64_none _ _).mono ?_
      rintro q w4 ⟨rfl, rfl⟩
      go_wp2_with fail
      go_at_call 69
      refine (deleteF_none _ _).mono ?_
      rintro q w4 ⟨rfl, hb⟩
      obtain ⟨g4, rfl⟩ := Gr.on _ hb
      clear hb
      go_wp2_with fail
      go_ret
      refine ⟨[], none, 0, rfl, Sl.none_ _, ?_, by simp, HG.out g4⟩
      have := HX.out
      rw [HTE.out, show Tm.cmpI [] = [] from List.eq_nil_of_length_eq_zero (Nat.le_zero.1 (Tm.cmpI_len []))] at this
      exact this
    · have HR3 := Lib.hid hrow
      obtain ⟨L, hL⟩ : ∃ L, T1 ++ plus = L := ⟨_, rfl⟩
      rw [hL] at HR3 HX HTL HLL hle
      rw [hL]
      have HS := Lib.hid (sort64_any L gb cap g3.val HR3.out HTL.out)
      clear hrow hL HO3
      go_wp2_with fail
      go_at_call 68
      refine HS.out.mono ?_
      rintro q w4 ⟨rfl, hr4, ho4⟩
      have HR4 := Lib.hid hr4
      have HF4 := Lib.hid ho4
      have hsl4 : (Tm.srtI L).length = L.length := Tm.srtI_len L
      have HC := Lib.hid (compact64_any (Tm.srtI L) gb cap w4 hr4 (by rw [hsl4]; exact HTL.out))
      rw [hsl4] at HC
      clear hr4 ho4 HS hsl4
      go_wp2_with fail
      go_at_call 70
      refine HC.out.mono ?_
      rintro q w5 ⟨rfl, hr5, ho5⟩
      have HF5 : Hid (Off (fun b => b = gb) g3.val w5) := HF4.out.trans' ho5
      have HR5 : Hid (RowAt w5 gb cap 2 (iv (Tm.cmpI L))) := hr5
      have HD := Lib.hid (deleteF_any (Tm.cmpI L) gb cap (offB ex ch) #[.pointer (some ⟨w.heap.size, 0, none⟩)] w5 hr5 (fun V a hO => HU.out gb V a hgb ⟨g3, HF5.out.trans' hO⟩))
      have hcm : (Lib.compactUpTo (Tm.srtI L).toArray (Tm.srtI L).toArray.size) = Tm.cmpI L := rfl
      rw [hcm]
      clear hr5 ho5 HC hcm HR4 HF4
      generalize Tm.cmpI L = K at *
      go_wp2_with fail
      go_at_call 69
      refine HD.out.mono ?_
      rintro q w6 ⟨rfl, hr6, ho6⟩
      have HF6 : Hid (Off (fun b => b = gb) g3.val w6) := HF5.out.trans' ho6
      have HR6 := Lib.hid hr6
      clear hr6 ho6 HD
      go_wp2_with fail
      go_ret
      have hsl := HR6.out.toSl
      rw [iv_len] at hsl
      refine ⟨_, _, _, rfl, hsl, HX.out, HLL.out, ?_⟩
      exact (HG.out g3).trans (HF6.out.toBelow (HG.out g3).size (fun b hb => by rw [hb]; omega))
end Go.Proofs.YtfjmofefciopmaaGreat
end
