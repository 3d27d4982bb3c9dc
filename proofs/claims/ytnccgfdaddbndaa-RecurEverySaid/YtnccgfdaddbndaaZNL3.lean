import Derived.Test.YtnccgfdaddbndaaZNL1
import Derived.Test.YtnccgfdaddbndaaZQW6
import Derived.Test.YtnccgfdaddbndaaZQW5
/- Layer 10's law on wider intervals. -/
section
namespace Go.Proofs.Ytnccgfdaddbndaa
open Go.ChangeShapes Go.WideShapes Go.ChangeAt Go.RowKit Go.Joins Qr Tm Cal

theorem drop_at {L : List Int} {i m : Nat} {x y : Int} (hr : Ris L) (hx : L[i]? = some x) (hy : L[m]? = some y) : x < y ↔ i < m := by
  obtain ⟨h1, e1⟩ := List.getElem?_eq_some_iff.1 hx
  obtain ⟨h2, e2⟩ := List.getElem?_eq_some_iff.1 hy
  have hp := List.pairwise_iff_getElem.1 hr
  subst e1 e2
  constructor
  · intro h
    rcases Nat.lt_trichotomy i m with c | c | c
    · exact c
    · subst c; omega
    · have := hp m i h2 h1 c; omega
  · intro h; exact hp i m h1 h2 h
section
variable (r : R) (A1 A2 A3 A4 : Option Addr) (c1 c2 c3 c4 : Nat)
set_option maxRecDepth 100000 in
set_option maxHeartbeats 4000000 in
theorem recurEvery_any (start : Int) (k : Nat) (hk : k < 256) (hs : -9223372036854775808 ≤ start ∧ start ≤ 9223372036854775807) (w : World) (hr : RAt w r A1 A2 A3 A4 c1 c2 c3 c4) :
    Calls Try.prog 4 #[.agg (rcells r A1 A2 A3 A4 c1 c2 c3 c4), .int .i64 start, .int .u8 k] w fun e w' => e = .returned (.bool true) ∧ Below w.heap.size w w' := by
  obtain ⟨W, hW⟩ : ∃ W, w.alloc (.cells (rcells r A1 A2 A3 A4 c1 c2 c3 c4) 25) = W := ⟨_, rfl⟩
  have HW := Lib.hid hW
  have BW : Hid (Below w.heap.size w W) := by show Below _ _ _; rw [← hW]; exact (Below.refl _ w).alloc (Nat.le_refl _) _
  have HBK : Hid (∀ V : World, Below W.heap.size W V → V.heap[w.heap.size]? = some (.cells (rcells r A1 A2 A3 A4 c1 c2 c3 c4) 25 (0, 0))) := fun V h => blk_below (by rw [← hW, heap_alloc_new]) h
  have HR : Hid (∀ V : World, Below w.heap.size w V → RAt V r A1 A2 A3 A4 c1 c2 c3 c4) := fun V h => hr.below h (Nat.le_refl _)
  have HG := Lib.hid (rgreat_any r A1 A2 A3 A4 c1 c2 c3 c4 W (HR.out W BW.out))
  have HFX := Lib.hid (fun w => fixed10_any w)
  obtain ⟨gb, hgb⟩ : ∃ gb, greatB r = gb := ⟨_, rfl⟩
  rw [hgb] at HG
  have q3 := HBK.out W (Below.refl _ _)
  have hlen : gb = false → r.bm.length ≤ 10000 ∧ r.bd.length ≤ 10000 ∧ r.bw.length ≤ 10000 ∧ r.bs.length ≤ 10000 := fun h => by
    rw [h] at hgb
    unfold greatB at hgb
    have h2 := of_decide_eq_false hgb
    omega
  clear hW hr hgb
  have ways : (gb = true ∨ (gb = false ∧ (start < 0 ∨ (0 ≤ start ∧ 157734720 ≤ start)))) ∨ (gb = false ∧ 0 ≤ start ∧ start < 157734720) := by
    have h1 : (start < 0 ∨ (0 ≤ start ∧ 157734720 ≤ start)) ∨ (0 ≤ start ∧ start < 157734720) := by omega
    cases gb
    · rcases h1 with h1 | h1
      · exact .inl (.inr ⟨rfl, h1⟩)
      · exact .inr ⟨rfl, h1⟩
    · exact .inl (.inl rfl)
  unfold rcells at *
  have k0 := blk_cell q3 (i := 0) rfl
  have k1 := blk_cell q3 (i := 1) rfl
  have k2 := blk_cell q3 (i := 2) rfl
  have k3 := blk_cell q3 (i := 3) rfl
  have k4 := blk_cell q3 (i := 4) rfl
  have k5 := blk_cell q3 (i := 5) rfl
  have k6 := blk_cell q3 (i := 6) rfl
  have k7 := blk_cell q3 (i := 7) rfl
  have k8 := blk_cell q3 (i := 8) rfl
  clear q3
  rcases ways with (rfl | ⟨rfl, s0 | ⟨s0, s1⟩⟩) | ⟨rfl, s0, s1⟩
  rotate_right
  · -- the way on
    obtain ⟨L1, L2, L3, L4⟩ := hlen rfl
    have b1 : decide (start < 0) = false := decide_eq_false (by omega)
    have b2 : decide (157734720 ≤ start) = false := decide_eq_false (by omega)
    go_enter Try.func4, Try.ntmps4
    go_upto_region 1 with fail
    rw [HW.out]
    go_wp2_with fail
    go_at_call 5
    refine HG.out.mono ?_
    rintro e w2 ⟨rfl, hb⟩
    clear k0 k1 k2 k3 k4 k5 k6 k7 k8
    have q2 := HBK.out w2 hb
    have f2 := blk_free q2
    have k2 := blk_cell q2 (i := 2) rfl
    have k3 := blk_cell q2 (i := 3) rfl
    have HQ2 := Lib.hid q2
    have HX2 := Lib.hid (BW.out.trans (hb.mono BW.out.size))
    clear q2 hb
    go_upto_region 5 with fail
    obtain ⟨W3, hW3⟩ : ∃ W3, (w2.setCell ⟨w.heap.size, 2, none⟩ (.int .i64 0)).setCell ⟨w.heap.size, 3, none⟩ (.int .i64 (-1)) = W3 := ⟨_, rfl⟩
    rw [hW3]
    have q3 : W3.heap[w.heap.size]? = some (.cells #[.int .i64 r.freq, .int .i64 r.iv, .int .i64 0, .int .i64 (-1), .slice A1 r.bm.length c1, .slice A2 r.bd.length c2, .slice A3 r.bw.length c3, .slice A4 r.bs.length c4, .int .i64 r.start] 25 (0, 0)) := by
      have := block_setCell (block_setCell HQ2.out (i := 2) (.int .i64 0)) (i := 3) (.int .i64 (-1))
      rw [hW3] at this; simpa using this
    have HX3 : Hid (Below w.heap.size w W3) := by
      show Below _ _ _; rw [← hW3]
      exact (HX2.out.setCell (p := ⟨w.heap.size, 2, none⟩) (Nat.le_refl _) _).setCell (p := ⟨w.heap.size, 3, none⟩) (Nat.le_refl _) _
    have j0 := blk_cell q3 (i := 0) rfl
    have j1 := blk_cell q3 (i := 1) rfl
    have j2 := blk_cell q3 (i := 2) rfl
    have j3 := blk_cell q3 (i := 3) rfl
    have j4 := blk_cell q3 (i := 4) rfl
    have j5 := blk_cell q3 (i := 5) rfl
    have j6 := blk_cell q3 (i := 6) rfl
    have j7 := blk_cell q3 (i := 7) rfl
    have j8 := blk_cell q3 (i := 8) rfl
    have HQ3 := Lib.hid q3
    clear hW3 k2 k3 f2 q3
    obtain ⟨v, hv⟩ : ∃ v, IntKind.i64.wrap (r.iv * (1 + (k : Int) % 5)) = v := ⟨_, rfl⟩
    have hkw : IntKind.i64.wrap (k : Int) = k := by rw [IntKind.wrap_i64]; omega
    have hkm : (k : Int).tmod 5 = (k : Int) % 5 := Int.tmod_eq_emod_of_nonneg (by omega)
    have hkn : IntKind.i64.wrap ((k : Int) % 5) = (k : Int) % 5 := by rw [IntKind.wrap_i64]; omega
    have hkp : IntKind.i64.wrap (1 + (k : Int) % 5) = 1 + (k : Int) % 5 := by rw [IntKind.wrap_i64]; omega
    have jA1 : ∀ o : Obj, (W3.alloc o).cell? ⟨w.heap.size, 1, none⟩ = some (.int .i64 r.iv) := fun o => blk_cell ((heap_alloc_old _ _ (heap_lt' HQ3.out)).trans HQ3.out) rfl
    go_upto_region 7 with fail
    obtain ⟨W4, hW4⟩ : ∃ W4, W3.alloc (.cells #[.int .i64 r.freq, .int .i64 v, .int .i64 0, .int .i64 (-1), .slice A1 r.bm.length c1, .slice A2 r.bd.length c2, .slice A3 r.bw.length c3, .slice A4 r.bs.length c4, .int .i64 r.start] 25) = W4 := ⟨_, rfl⟩
    rw [hW4]
    have HQ4 : Hid (W4.heap[w.heap.size]? = some (.cells #[.int .i64 r.freq, .int .i64 r.iv, .int .i64 0, .int .i64 (-1), .slice A1 r.bm.length c1, .slice A2 r.bd.length c2, .slice A3 r.bw.length c3, .slice A4 r.bs.length c4, .int .i64 r.start] 25 (0, 0))) := by
      show _ = _
      rw [← hW4, heap_alloc_old _ _ (heap_lt' HQ3.out)]; exact HQ3.out
    have HV4 : Hid (W4.heap[W3.heap.size]? = some (.cells #[.int .i64 r.freq, .int .i64 v, .int .i64 0, .int .i64 (-1), .slice A1 r.bm.length c1, .slice A2 r.bd.length c2, .slice A3 r.bw.length c3, .slice A4 r.bs.length c4, .int .i64 r.start] 25 (0, 0))) := by
      show _ = _; rw [← hW4, heap_alloc_new]
    have HX4 : Hid (Below w.heap.size w W4) := by
      show Below _ _ _; rw [← hW4]
      exact HX3.out.alloc HX3.out.size _
    clear hW4 jA1 j0 j1 j2 j3 j4 j5 j6 j7 j8
    have j0 := blk_cell HQ4.out (i := 0) rfl
    have j1 := blk_cell HQ4.out (i := 1) rfl
    have j2 := blk_cell HQ4.out (i := 2) rfl
    have j3 := blk_cell HQ4.out (i := 3) rfl
    have j4 := blk_cell HQ4.out (i := 4) rfl
    have j5 := blk_cell HQ4.out (i := 5) rfl
    have j6 := blk_cell HQ4.out (i := 6) rfl
    have j7 := blk_cell HQ4.out (i := 7) rfl
    have j8 := blk_cell HQ4.out (i := 8) rfl
    have HMAY : Hid (∀ V : World, Below w.heap.size w V → Calls Try.prog 9 #[.agg #[.int .i64 r.freq, .int .i64 r.iv, .int .i64 0, .int .i64 (-1), .slice A1 r.bm.length c1, .slice A2 r.bd.length c2, .slice A3 r.bw.length c3, .slice A4 r.bs.length c4, .int .i64 r.start]] V fun e w' => e = .returned (.bool (Qr.mayB { r with count := 0, until_ := -1 })) ∧ Below V.heap.size V w') := fun V hV => by
      have h := HR.out V hV
      exact rmay9_any { r with count := 0, until_ := -1 } A1 A2 A3 A4 c1 c2 c3 c4 V ⟨h.s1, h.s2, h.s3, h.s4⟩
    by_cases i1 : r.iv < 1
    · have i1b : decide (r.iv < 1) = true := decide_eq_true i1
      clear HMAY
      go_wp2_with (go_at_call 6; (with_reducible refine (HFX.out _).mono ?_); rintro e w9 ⟨rfl, hb9⟩)
      go_ret
      exact ⟨rfl, HX4.out.trans (hb9.mono HX4.out.size)⟩
    · have i1b : decide (r.iv < 1) = false := decide_eq_false i1
      by_cases i2 : 199 < r.iv
      · have i2b : decide (199 < r.iv) = true := decide_eq_true i2
        clear HMAY
        go_wp2_with (go_at_call 6; (with_reducible refine (HFX.out _).mono ?_); rintro e w9 ⟨rfl, hb9⟩)
        go_ret
        exact ⟨rfl, HX4.out.trans (hb9.mono HX4.out.size)⟩
      · have i2b : decide (199 < r.iv) = false := decide_eq_false i2
        obtain ⟨mb, hmb⟩ : ∃ mb, Qr.mayB { r with count := 0, until_ := -1 } = mb := ⟨_, rfl⟩
        rw [hmb] at HMAY
        have HM4 := Lib.hid (HMAY.out W4 HX4.out)
        clear HMAY
        cases mb with
        | false =>
          clear hmb
          go_wp2_with fail
          go_at_call 9
          refine HM4.out.mono ?_
          rintro e w5 ⟨rfl, hb5⟩
          have HX5 := Lib.hid (HX4.out.trans (hb5.mono HX4.out.size))
          clear hb5 j0 j1 j2 j3 j4 j5 j6 j7 j8
          go_wp2_with (go_at_call 6; (with_reducible refine (HFX.out _).mono ?_); rintro e w9 ⟨rfl, hb9⟩)
          go_ret
          exact ⟨rfl, HX5.out.trans (hb9.mono HX5.out.size)⟩
        | true =>
          have hm : Qr.mayP { r with count := 0, until_ := -1 } := of_decide_eq_true hmb
          have hv2 : v = r.iv * (1 + (k : Int) % 5) := by
            rw [← hv, IntKind.wrap_i64]
            have h5 : (k : Int) % 5 = 0 ∨ (k : Int) % 5 = 1 ∨ (k : Int) % 5 = 2 ∨ (k : Int) % 5 = 3 ∨ (k : Int) % 5 = 4 := by omega
            rcases h5 with h | h | h | h | h <;> rw [h] <;> omega
          have hwid := wider hm rfl rfl (start := start) (k := 1 + (k : Int) % 5) (by omega) s0 s1
          simp only at hwid
          rw [← hv2] at hwid
          have hlen1 := year_len (r := { r with count := 0, until_ := -1 }) s0 s1
          have hlen2 := year_len (r := { r with iv := v, count := 0, until_ := -1 }) s0 s1
          have hr1 := (within_ris { r with count := 0, until_ := -1 } start start (start + 576000)).1
          have hr2 := (within_ris { r with iv := v, count := 0, until_ := -1 } start start (start + 576000)).1
          have HBA : Hid (∀ V : World, Below w.heap.size w V → Calls Try.prog 10 #[.agg #[.int .i64 r.freq, .int .i64 r.iv, .int .i64 0, .int .i64 (-1), .slice A1 r.bm.length c1, .slice A2 r.bd.length c2, .slice A3 r.bw.length c3, .slice A4 r.bs.length c4, .int .i64 r.start], .int .i64 start, .int .i64 start, .int .i64 (start + 576000), .int .i64 1000] V (RetBt (withinL { r with count := 0, until_ := -1 } start start (start + 576000)) 1000 V)) := fun V hV => by
            have h := HR.out V hV
            exact pbetween_any { r with count := 0, until_ := -1 } A1 A2 A3 A4 c1 c2 c3 c4 start start (start + 576000) 1000 hs hs (by omega) ⟨L1, L2, L3, L4⟩ V ⟨h.s1, h.s2, h.s3, h.s4⟩
          have HBS : Hid (∀ V : World, Below w.heap.size w V → Calls Try.prog 10 #[.agg #[.int .i64 r.freq, .int .i64 v, .int .i64 0, .int .i64 (-1), .slice A1 r.bm.length c1, .slice A2 r.bd.length c2, .slice A3 r.bw.length c3, .slice A4 r.bs.length c4, .int .i64 r.start], .int .i64 start, .int .i64 start, .int .i64 (start + 576000), .int .i64 1000] V (RetBt (withinL { r with iv := v, count := 0, until_ := -1 } start start (start + 576000)) 1000 V)) := fun V hV => by
            have h := HR.out V hV
            exact pbetween_any { r with iv := v, count := 0, until_ := -1 } A1 A2 A3 A4 c1 c2 c3 c4 start start (start + 576000) 1000 hs hs (by omega) ⟨L1, L2, L3, L4⟩ V ⟨h.s1, h.s2, h.s3, h.s4⟩
          generalize withinL { r with count := 0, until_ := -1 } start start (start + 576000) = L at *
          generalize withinL { r with iv := v, count := 0, until_ := -1 } start start (start + 576000) = S at *
          have hws : IntKind.i64.wrap (start + 576000) = start + 576000 := by rw [IntKind.wrap_i64]; omega
          have HSUB := Lib.hid hwid
          have HRL := Lib.hid hr1
          clear hwid hr1 hmb hm hv hv2
          go_wp2_with fail
          go_at_call 9
          refine HM4.out.mono ?_
          rintro e w5 ⟨rfl, hb5⟩
          have HX5 := Lib.hid (HX4.out.trans (hb5.mono HX4.out.size))
          have HQ5 := Lib.hid (blk_below HQ4.out hb5)
          have HV5 := Lib.hid (blk_below HV4.out hb5)
          clear hb5 j0 j1 j2 j3 j4 j5 j6 j7 j8 HM4 HQ4 HV4 HQ3 HX4
          have j0 := blk_cell HQ5.out (i := 0) rfl
          have j1 := blk_cell HQ5.out (i := 1) rfl
          have j2 := blk_cell HQ5.out (i := 2) rfl
          have j3 := blk_cell HQ5.out (i := 3) rfl
          have j4 := blk_cell HQ5.out (i := 4) rfl
          have j5 := blk_cell HQ5.out (i := 5) rfl
          have j6 := blk_cell HQ5.out (i := 6) rfl
          have j7 := blk_cell HQ5.out (i := 7) rfl
          have j8 := blk_cell HQ5.out (i := 8) rfl
          go_wp2_with fail
          go_at_call 10
          refine (HBA.out _ HX5.out).mono ?_
          rintro e w6 ⟨h6, hb6⟩
          rcases h6 with ⟨_, Al, cl, rfl, hsl⟩ | ⟨h6, _⟩
          rotate_left
          · exfalso; omega
          have HX6 := Lib.hid (HX5.out.trans (hb6.mono HX5.out.size))
          have HV6 := Lib.hid (blk_below HV5.out hb6)
          have HSL6 := Lib.hid hsl
          clear hb6 hsl j0 j1 j2 j3 j4 j5 j6 j7 j8 HQ5 HV5 HBA
          have j0 := blk_cell HV6.out (i := 0) rfl
          have j1 := blk_cell HV6.out (i := 1) rfl
          have j2 := blk_cell HV6.out (i := 2) rfl
          have j3 := blk_cell HV6.out (i := 3) rfl
          have j4 := blk_cell HV6.out (i := 4) rfl
          have j5 := blk_cell HV6.out (i := 5) rfl
          have j6 := blk_cell HV6.out (i := 6) rfl
          have j7 := blk_cell HV6.out (i := 7) rfl
          have j8 := blk_cell HV6.out (i := 8) rfl
          go_wp2_with fail
          go_at_call 10
          refine (HBS.out _ HX6.out).mono ?_
          rintro e w7 ⟨h7, hb7⟩
          rcases h7 with ⟨_, As, cs, rfl, hss⟩ | ⟨h7, _⟩
          rotate_left
          · exfalso; omega
          have HX7 := Lib.hid (HX6.out.trans (hb7.mono HX6.out.size))
          have HSL := Lib.hid (HSL6.out.below hb7 (Nat.le_refl _))
          have HSS := Lib.hid hss
          clear hb7 hss j0 j1 j2 j3 j4 j5 j6 j7 j8 HV6 HBS HSL6
          have hLl : L.length ≤ 1000 := hlen1
          have hSl : S.length ≤ 1000 := hlen2
          have HM0 : Hid (∀ y ∈ S.drop 0, ∃ m, 0 ≤ m ∧ L[m]? = some y) := fun y hy => by
            rw [List.drop_zero] at hy
            obtain ⟨m, h1, h2⟩ := List.getElem_of_mem (HSUB.out y hy)
            exact ⟨m, Nat.zero_le _, by rw [List.getElem?_eq_getElem h1, h2]⟩
          have HRS := Lib.hid hr2
          clear hlen1 hlen2 hr2 HSUB
          go_wp2_with fail
          go_loop [12, 77] (fun s12 s77 => ∃ (j i : Nat), s12 = .int .i64 i ∧ s77 = .int .i64 j ∧ j ≤ S.length ∧ i ≤ L.length ∧ Hid (∀ y ∈ S.drop j, ∃ m, i ≤ m ∧ L[m]? = some y)) (fun _ s77 => S.length - (intOf s77).toNat)
          case atStart => exact ⟨0, 0, rfl, rfl, Nat.zero_le _, Nat.zero_le _, HM0⟩
          case round =>
            obtain ⟨j, i, rfl, rfl, hj, hi, HI⟩ := hrel
            by_cases hlt : j < S.length
            · have hjz : (j : Int) < S.length := by omega
              have hwj : IntKind.i64.wrap ((j : Int) + 1) = j + 1 := by rw [IntKind.wrap_i64]; omega
              obtain ⟨x, hx⟩ : ∃ x, S[j]? = some x := ⟨_, List.getElem?_eq_getElem hlt⟩
              obtain ⟨p, off, rfl, _, hc⟩ := HSS.out.intG hx
              have hc0 := hc ⟨w7, Below.refl _ _⟩
              simp only at hc0
              have hxd : S.drop j = x :: S.drop (j + 1) := by
                rw [drop_step hlt]; congr 1
                have h := List.getElem?_eq_getElem hlt
                rw [hx] at h; exact (Option.some.inj h).symm
              obtain ⟨m, him, hm⟩ := HI.out x (by rw [hxd]; simp)
              have hml : m < L.length := (List.getElem?_eq_some_iff.1 hm).1
              have HM := Lib.hid hm
              have HNX : Hid (∀ y ∈ S.drop (j + 1), ∃ m', m ≤ m' ∧ L[m']? = some y) := fun y hy => by
                obtain ⟨m', h1, h2⟩ := HI.out y (by rw [hxd]; simp [hy])
                have hlt2 : x < y := by
                  have hp : Ris (S.drop j) := HRS.out.drop
                  rw [hxd] at hp
                  exact (List.pairwise_cons.1 hp).1 y hy
                exact ⟨m', by have := (drop_at HRL.out hm h2).1 hlt2; omega, h2⟩
              clear HI hx hc hxd hm
              go_wp2_with fail
              go_loop [12] (fun s12 => ∃ i : Nat, s12 = .int .i64 i ∧ i ≤ m) (fun s12 => m - (intOf s12).toNat)
              case atStart => exact ⟨i, rfl, him⟩
              case round =>
                obtain ⟨i, rfl, him⟩ := hrel
                have hiz : (i : Int) < L.length := by omega
                have hie : ((i : Int) == (L.length : Int)) = false := beq_false_of_ne (by omega)
                have hwi : IntKind.i64.wrap ((i : Int) + 1) = i + 1 := by rw [IntKind.wrap_i64]; omega
                obtain ⟨z, hz⟩ : ∃ z, L[i]? = some z := ⟨_, List.getElem?_eq_getElem (by omega)⟩
                obtain ⟨p2, off2, rfl, _, hc2⟩ := HSL.out.intG hz
                have hc1 := hc2 ⟨w7, Below.refl _ _⟩
                simp only at hc1
                have hzx := drop_at HRL.out hz HM.out
                by_cases him2 : i < m
                · have hzx2 : z < x := hzx.2 him2
                  clear hzx hz hc2 hc0
                  go_wp2_with fail
                  go_round
                  case rel => exact ⟨i + 1, by go_num, by omega⟩
                  case measure => simp [intOf]; omega
                · obtain rfl : i = m := by omega
                  have hzx2 : decide (z < x) = false := decide_eq_false (fun h => him2 (hzx.1 h))
                  have hzz : z = x := by have h := HM.out; rw [hz] at h; exact Option.some.inj h
                  subst hzz
                  have hzn : (z != z) = false := by simp
                  clear hzx hz hc2 him2
                  go_wp2_with fail
                  go_round
                  case rel => exact ⟨j + 1, i, rfl, by go_num, by omega, by omega, HNX⟩
                  case measure => simp [intOf]; omega
            · have hjz : ¬ (j : Int) < S.length := by omega
              go_wp2_with (go_at_call 6; (with_reducible refine (HFX.out _).mono ?_); rintro e w9 ⟨rfl, hb9⟩)
              go_ret
              exact ⟨rfl, HX7.out.trans (hb9.mono HX7.out.size)⟩
  · go_enter Try.func4, Try.ntmps4
    go_upto_region 1 with fail
    rw [HW.out]
    go_wp2_with fail
    go_at_call 5
    refine HG.out.mono ?_
    rintro e w2 ⟨rfl, hb⟩
    clear k0 k1 k2 k3 k4 k5 k6 k7 k8
    go_wp2_with (go_at_call 6; (with_reducible refine (HFX.out _).mono ?_); rintro e w3 ⟨rfl, hb3⟩)
    go_ret
    exact ⟨rfl, BW.out.trans ((hb.trans (hb3.mono hb.size)).mono BW.out.size)⟩
  · have b1 : decide (start < 0) = true := decide_eq_true s0
    go_enter Try.func4, Try.ntmps4
    go_upto_region 1 with fail
    rw [HW.out]
    go_wp2_with fail
    go_at_call 5
    refine HG.out.mono ?_
    rintro e w2 ⟨rfl, hb⟩
    clear k0 k1 k2 k3 k4 k5 k6 k7 k8
    go_wp2_with (go_at_call 6; (with_reducible refine (HFX.out _).mono ?_); rintro e w3 ⟨rfl, hb3⟩)
    go_ret
    exact ⟨rfl, BW.out.trans ((hb.trans (hb3.mono hb.size)).mono BW.out.size)⟩
  · have b1 : decide (start < 0) = false := decide_eq_false (by omega)
    have b2 : decide (157734720 ≤ start) = true := decide_eq_true s1
    go_enter Try.func4, Try.ntmps4
    go_upto_region 1 with fail
    rw [HW.out]
    go_wp2_with fail
    go_at_call 5
    refine HG.out.mono ?_
    rintro e w2 ⟨rfl, hb⟩
    clear k0 k1 k2 k3 k4 k5 k6 k7 k8
    go_wp2_with (go_at_call 6; (with_reducible refine (HFX.out _).mono ?_); rintro e w3 ⟨rfl, hb3⟩)
    go_ret
    exact ⟨rfl, BW.out.trans ((hb.trans (hb3.mono hb.size)).mono BW.out.size)⟩
end
end Go.Proofs.Ytnccgfdaddbndaa
end
