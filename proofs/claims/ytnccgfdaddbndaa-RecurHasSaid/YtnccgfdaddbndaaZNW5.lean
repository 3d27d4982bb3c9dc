import Derived.Test.YtnccgfdaddbndaaZNW3
import Derived.Test.YtnccgfdaddbndaaZNW4
/- Contract of the program's times: the days of a period. -/
section
namespace Go.Proofs.Ytnccgfdaddbndaa
open Go.ChangeShapes Go.WideShapes Go.ChangeAt Go.RowKit Go.Joins Qr Tm Cal

theorem ownN_below {w w' : World} {base : Nat} {e : TypeId} {size : Nat} {v : Value} {n : Nat} {xs : List Value} (h : w.ownsRow base e size v n xs) (hb : Below w.heap.size w w') : w'.ownsRow base e size v n xs := by
  obtain ⟨hl, h | ⟨g, cap, cur, hv, hg, hc, r⟩⟩ := h
  · exact ⟨hl, .inl h⟩
  · refine ⟨hl, .inr ⟨g, cap, cur, hv, hg, ?_, r⟩⟩
    have : g < w.heap.size := by
      rcases Nat.lt_or_ge g w.heap.size with h | h
      · exact h
      · rw [Array.getElem?_eq_none h] at hc; cases hc
    rw [hb.block g this]; exact hc
theorem ownN_base {w : World} {base base' : Nat} {e : TypeId} {size : Nat} {v : Value} {n : Nat} {xs : List Value} (h : w.ownsRow base e size v n xs) (hb : base' ≤ base) : w.ownsRow base' e size v n xs := by
  obtain ⟨hl, h | ⟨g, cap, cur, hv, hg, r⟩⟩ := h
  · exact ⟨hl, .inl h⟩
  · exact ⟨hl, .inr ⟨g, cap, cur, hv, Nat.le_trans hb hg, r⟩⟩
/-- A row of numbers of the call's own is handed back. -/
def RetN (l : List Int) (w : World) (e : Ending) (w' : World) : Prop := ∃ v, e = .returned v ∧ w'.ownsRow w.heap.size 3 1 v l.length (iv l) ∧ Below w.heap.size w w'
/-- A course's box. -/
def CB (r : R) (A1 A2 A3 A4 : Option Addr) (c1 c2 c3 c4 : Nat) (s : Int) (b : Nat) (W : World) : Prop := W.heap[b]? = some (.cells (ccells r A1 A2 A3 A4 c1 c2 c3 c4 s) 61 (0, 0))
section
variable (r : R) (A1 A2 A3 A4 : Option Addr) (c1 c2 c3 c4 : Nat) (s : Int)
set_option maxRecDepth 100000 in
set_option maxHeartbeats 4000000 in
theorem pdays_any (p : Int) (ho : Okr r) (hp : lowP r ≤ p) (hb : bg r p < 109938) (hb2 : r.bd.length ≤ 10000) (hp2 : r.bd.Pairwise (· ≤ ·)) (hb4 : r.bs.length ≤ 10000) (hp4 : r.bs.Pairwise (· ≤ ·)) (w : World) (hr : RAt w r A1 A2 A3 A4 c1 c2 c3 c4) :
    Calls Try.prog 51 #[.agg (ccells r A1 A2 A3 A4 c1 c2 c3 c4 s), .int .i64 p] w (RetN (dd r p) w) := by
  have hrise := bg_rise ho hp hb
  have hlow := bg_low ho hp
  have hnn := bg_nn ho hp
  have hsm := bg_small ho hp hb
  have hl0 : 0 ≤ lowP r := by unfold lowP; split <;> (try split) <;> (try split) <;> omega
  obtain ⟨i0, hi0, hz0, hz1, hz2⟩ := info_parts int_info10
  obtain ⟨W, hW⟩ : ∃ W, w.alloc (.cells (ccells r A1 A2 A3 A4 c1 c2 c3 c4 s) 61) = W := ⟨_, rfl⟩
  have HW := Lib.hid hW
  have BW : Hid (Below w.heap.size w W) := by show Below _ _ _; rw [← hW]; exact (Below.refl _ w).alloc (Nat.le_refl _) _
  have HBK : Hid (∀ g : Gr W, g.val.heap[w.heap.size]? = some (.cells (ccells r A1 A2 A3 A4 c1 c2 c3 c4 s) 61 (0, 0))) := fun g => blk_below (by rw [← hW, heap_alloc_new]) g.ok
  have hrW : RAt W r A1 A2 A3 A4 c1 c2 c3 c4 := hr.below BW.out (Nat.le_refl _)
  have HA : Hid (∀ (n : Nat) (_ : n ≤ 109937) (g : Gr W), Calls Try.prog 59 #[.agg (rcells r A1 A2 A3 A4 c1 c2 c3 c4), .int .i64 n] g.val fun e w' => e = .returned (.bool (asB r (dt n))) ∧ Below g.val.heap.size g.val w') :=
    fun n hn g => pas_any r A1 A2 A3 A4 c1 c2 c3 c4 n hn hb2 hp2 g.val (hrW.below g.ok (Nat.le_refl _))
  have HB0 := Lib.hid (fun w => pbegin_any r A1 A2 A3 A4 c1 c2 c3 c4 s p ho (by omega) (by omega) w)
  have HB1 := Lib.hid (fun w => pbegin_any r A1 A2 A3 A4 c1 c2 c3 c4 s (p + 1) ho (by omega) (by omega) w)
  have HS4 : Hid (∀ g : Gr W, Sl g.val A4 r.bs.length c4 (iv r.bs)) := fun g => hrW.s4.gr g
  have HDD : Hid (dd r p = keptL r ((fromTo (max (bg r p) 0) (min (bg r (p + 1)) 109938)).filter fun n => asB r (dt n.toNat))) := rfl
  have hwp : IntKind.i64.wrap (p + 1) = p + 1 := by rw [IntKind.wrap_i64]; omega
  have hmax : (if bg r p < 0 then 0 else bg r p) = max (bg r p) 0 := by omega
  obtain ⟨lo, hlo⟩ : ∃ lo, max (bg r p) 0 = lo := ⟨_, rfl⟩
  obtain ⟨hi, hhi⟩ : ∃ hi, min (bg r (p + 1)) 109938 = hi := ⟨_, rfl⟩
  have hmin1 : (if 109938 < bg r (p + 1) then 109938 else bg r (p + 1)) = hi := by omega
  have hmin2 : (if bg r (p + 1) < 109938 then bg r (p + 1) else 109938) = hi := by omega
  have hbd : 0 ≤ lo ∧ lo ≤ hi ∧ hi ≤ 109938 ∧ hi - lo ≤ 373 := by omega
  rw [hlo] at hmax HDD
  rw [hhi] at HDD
  obtain ⟨d, hd⟩ : ∃ d, dd r p = d := ⟨_, rfl⟩
  rw [hd] at HDD ⊢
  generalize bg r p = b0 at *
  generalize bg r (p + 1) = b1 at *
  clear hW hr hd
  have hMk := Lib.hid (⟨hb4, hp4⟩ : r.bs.length ≤ 10000 ∧ r.bs.Pairwise (· ≤ ·))
  unfold ccells rcells at *
  clear hrW hb2 hp2 hb4 hp4
  go_enter Try.func51, Try.ntmps51
  go_upto_region 2 with fail
  rw [HW.out]
  have q0 := HBK.out ⟨W, Below.refl _ _⟩
  simp only at q0
  have k0 := blk_cell q0 (i := 0) rfl
  have k1 := blk_cell q0 (i := 1) rfl
  have k2 := blk_cell q0 (i := 2) rfl
  have k3 := blk_cell q0 (i := 3) rfl
  have k4 := blk_cell q0 (i := 4) rfl
  have k5 := blk_cell q0 (i := 5) rfl
  have k6 := blk_cell q0 (i := 6) rfl
  have k7 := blk_cell q0 (i := 7) rfl
  have k8 := blk_cell q0 (i := 8) rfl
  have k9 := blk_cell q0 (i := 9) rfl
  clear q0
  go_wp2_with fail
  go_at_call 50
  refine (HB0.out _).mono ?_
  rintro e w1 ⟨rfl, hb⟩
  clear k0 k1 k2 k3 k4 k5 k6 k7 k8 k9
  obtain ⟨g1, rfl⟩ := Gr.of hb
  clear hb
  go_wp2_with fail
  obtain ⟨acc, hacc⟩ : ∃ acc : Int → List Int, acc = fun i => (fromTo lo i).filter fun n => asB r (dt n.toNat) := ⟨_, rfl⟩
  have HACC := Lib.hid hacc
  have HL : Hid (∀ i, i ≤ hi → (acc i).length ≤ 373) := fun i h => by
    have h2 : (acc i).length ≤ (fromTo lo i).length := by rw [hacc]; exact List.length_filter_le _ _
    rw [fromTo_len] at h2
    omega
  have HDD2 : Hid (d = keptL r (acc hi)) := by show _ = _; rw [hacc]; exact HDD.out
  have HC : Hid (∀ (g : Gr W) (k : Nat) (v : Value), (ccells r A1 A2 A3 A4 c1 c2 c3 c4 s)[k]? = some v → g.val.cell? ⟨w.heap.size, k, none⟩ = some v) := fun g k v h => by unfold ccells at h; exact blk_cell (HBK.out g) h
  clear hacc HDD
  unfold ccells at HC
  go_loopw [5, 6] (fun s5 s6 wr => ∃ (g : Gr W) (i : Int), wr = g.val ∧ lo ≤ i ∧ i ≤ hi ∧ s6 = .int .i64 i ∧ Hid (g.val.ownsRow W.heap.size 3 1 s5 (acc i).length (iv (acc i)))) (fun _ s6 _ => (hi - intOf s6).toNat)
  case atStart => exact ⟨g1, lo, rfl, Int.le_refl _, by omega, rfl, by show World.ownsRow _ _ _ _ _ _ _; rw [HACC.out, show ((fun i => (fromTo lo i).filter fun n => asB r (dt n.toNat)) : Int → List Int) lo = [] by simp [fromTo_none]]; exact World.ownsRow_nil _ _ _ _⟩
  case round =>
    obtain ⟨g, i, rfl, h1, h2, rfl, HOW⟩ := hrel
    have k0 := HC.out g 0 _ rfl
    have k1 := HC.out g 1 _ rfl
    have k2 := HC.out g 2 _ rfl
    have k3 := HC.out g 3 _ rfl
    have k4 := HC.out g 4 _ rfl
    have k5 := HC.out g 5 _ rfl
    have k6 := HC.out g 6 _ rfl
    have k7 := HC.out g 7 _ rfl
    have k8 := HC.out g 8 _ rfl
    have k9 := HC.out g 9 _ rfl
    by_cases hlt : i < hi
    · have hwi : IntKind.i64.wrap (i + 1) = i + 1 := by rw [IntKind.wrap_i64]; omega
      have hin : ((i.toNat : Nat) : Int) = i := by omega
      have HA1 := Lib.hid (HA.out i.toNat (by omega))
      rw [hin] at HA1
      have HST : Hid (acc (i + 1) = acc i ++ (if asB r (dt i.toNat) = true then [i] else [])) := by show _ = _; rw [HACC.out]; exact filter_snoc h1
      have hal := HL.out i h2
      generalize asB r (dt i.toNat) = v at *
      go_wp2_with fail
      go_at_call 50
      refine (HB1.out _).mono ?_
      rintro e w2 ⟨rfl, hb⟩
      have HOW2 := Lib.hid (ownN_below HOW.out hb)
      obtain ⟨g2, rfl⟩ := g.on hb
      clear hb k0 k1 k2 k3 k4 k5 k6 k7 k8 k9 HOW
      have k0 := HC.out g2 0 _ rfl
      have k1 := HC.out g2 1 _ rfl
      have k2 := HC.out g2 2 _ rfl
      have k3 := HC.out g2 3 _ rfl
      have k4 := HC.out g2 4 _ rfl
      have k5 := HC.out g2 5 _ rfl
      have k6 := HC.out g2 6 _ rfl
      have k7 := HC.out g2 7 _ rfl
      have k8 := HC.out g2 8 _ rfl
      go_wp2_with fail
      go_at_call 59
      refine (HA1.out g2).mono ?_
      rintro e w3 ⟨rfl, hb⟩
      have HOW3 := Lib.hid (ownN_below HOW2.out hb)
      obtain ⟨g3, rfl⟩ := g2.on hb
      clear hb k0 k1 k2 k3 k4 k5 k6 k7 k8 HOW2
      cases v with
      | true =>
        have hk1 : Hid (acc (i + 1) = acc i ++ [i]) := by show _ = _; rw [HST.out]; simp
        clear HST
        go_wp2_with (at_builtin; refine wpList_append_own _ rfl _ _ 22 rfl W.heap.size 3 i0 (.int .i64 0) 1 8 Try.underlying22 hi0 hz0 hz1 hz2 rfl (by decide) _ _ _ rfl (HOW3.out.alloc _) ⟨g3.val.heap.size, 0, none⟩ 1 1 [.int .i64 i] rfl rfl ?c1 ?c2 ?c3 ?c4 ?c5 ?_)
        case c1 =>
          intro j u hj
          match j, hj with
          | 0, hj => simp at hj; subst hj; simp [go_sem]
          | j + 1, hj => simp at hj
        case c2 => intro u hu; simp at hu; subst hu; rfl
        case c3 => simp only [maxLen]; omega
        case c4 => omega
        case c5 => have := g3.ok.size; simp; omega
        intro v' w4 hown' hgrow _
        have HB' : Hid (Below W.heap.size W w4) := (g3.ok.alloc g3.ok.size _).grown hgrow (by have := g3.ok.size; simp; omega) (fun k hk => (HOW3.out.lt k hk).1)
        have HOW4 : Hid (w4.ownsRow W.heap.size 3 1 v' (acc (i + 1)).length (iv (acc (i + 1)))) := by show World.ownsRow _ _ _ _ _ _ _; rw [hk1.out, List.length_append, iv_app]; exact hown'
        clear hown' hgrow
        obtain ⟨g4, rfl⟩ := Gr.of HB'.out
        go_wp2
        go_roundw
        case rel => exact ⟨g4, i + 1, rfl, by omega, by omega, by go_num, HOW4⟩
        case measure => simp [intOf]; omega
      | false =>
        have hk1 : Hid (acc (i + 1) = acc i) := by show _ = _; rw [HST.out]; simp
        clear HST
        go_wp2_with fail
        go_roundw
        case rel => exact ⟨g3, i + 1, rfl, by omega, by omega, by go_num, by show World.ownsRow _ _ _ _ _ _ _; rw [hk1.out]; exact HOW3.out⟩
        case measure => simp [intOf]; omega
    · obtain rfl : i = hi := by omega
      go_wp2_with fail
      go_at_call 50
      refine (HB1.out _).mono ?_
      rintro e w2 ⟨rfl, hb⟩
      have HOW2 := Lib.hid (ownN_below HOW.out hb)
      obtain ⟨g2, rfl⟩ := g.on hb
      clear hb k0 k1 k2 k3 k4 k5 k6 k7 k8 k9 HOW
      have k7 := HC.out g2 7 _ rfl
      have HX := Lib.hid (BW.out.trans (g2.ok.mono BW.out.size))
      by_cases hbs : r.bs.length = 0
      · have hz : ((r.bs.length : Int) == 0) = true := by rw [hbs]; rfl
        have E : Hid (d = acc i) := by show _ = _; rw [HDD2.out]; unfold keptL; rw [if_pos (List.eq_nil_of_length_eq_zero hbs)]
        clear hbs
        go_wp2_with fail
        go_ret
        refine ⟨_, rfl, ?_, HX.out⟩
        rw [E.out]
        exact ownN_base HOW2.out BW.out.size
      · have hz : ((r.bs.length : Int) == 0) = false := beq_false_of_ne (by omega)
        have HKP : Hid (∀ (g : Gr W) (j : Nat), j < (acc i).length → Calls Try.prog 60 #[.slice A4 r.bs.length c4, .int .i64 ((j : Int) + 1), .int .i64 (acc i).length] g.val fun e w' => e = .returned (.bool (okPos r (acc i).length j)) ∧ Below g.val.heap.size g.val w') := fun g j hj => by
          have hlen := HL.out i (Int.le_refl _)
          have h := plc_any r.bs A4 c4 ((j : Int) + 1) (acc i).length (by omega) hMk.out.1 hMk.out.2 (by omega) (by omega) g.val (HS4.out g)
          unfold plB at h
          rw [show (j : Int) + 1 - (acc i).length - 1 = j - (acc i).length by omega] at h
          exact h
        have E : Hid (d = keptTo r (acc i) (acc i).length) := by show _ = _; rw [HDD2.out]; unfold keptL; rw [if_neg (fun e => hbs (by rw [e]; rfl))]
        have hlen := HL.out i (Int.le_refl _)
        obtain ⟨A, c, rfl, hSl⟩ := Sl.of_own HOW2.out
        have HSL := Lib.hid hSl
        have HC7 : Hid (∀ g : Gr g2.val, g.val.cell? ⟨w.heap.size, 7, none⟩ = some (.slice A4 r.bs.length c4)) := fun g => cell_old k7 g.ok
        have HG : Hid (∀ g : Gr g2.val, ∃ g' : Gr W, g.val = g'.val) := fun g => g2.on g.ok
        clear hSl hbs HOW2 HDD2 HACC HL HA HB0 HB1 HC HBK
        generalize acc i = l at *
        go_wp2_with fail
        go_loopw [7, 39] (fun s7 s39 wr => ∃ (g : Gr g2.val) (j : Nat), wr = g.val ∧ j ≤ l.length ∧ s39 = .int .i64 j ∧ Hid (g.val.ownsRow g2.val.heap.size 3 1 s7 (keptTo r l j).length (iv (keptTo r l j)))) (fun _ s39 _ => l.length - (intOf s39).toNat)
        case atStart => exact ⟨⟨_, Below.refl _ _⟩, 0, rfl, Nat.zero_le _, rfl, World.ownsRow_nil _ _ _ _⟩
        case round =>
          obtain ⟨g, j, rfl, hj, rfl, HOW⟩ := hrel
          by_cases hlt2 : j < l.length
          · have hiz : (j : Int) < l.length := by omega
            have hw1 : IntKind.i64.wrap ((j : Int) + 1) = j + 1 := by rw [IntKind.wrap_i64]; omega
            have hkl := keptTo_len r l j
            obtain ⟨x, hx⟩ : ∃ x, l[j]? = some x := ⟨_, List.getElem?_eq_getElem hlt2⟩
            obtain ⟨pb, po, rfl, hpb, hpc⟩ := HSL.out.intG hx
            have hc0 := hpc g
            have c7 := HC7.out g
            have hgx : l.getD j 0 = x := by rw [List.getD_eq_getElem?_getD, hx]; rfl
            have HST : Hid (∀ b : Bool, okPos r l.length j = b → keptTo r l (j + 1) = keptTo r l j ++ (if b then [x] else [])) := fun b hb => by
              rw [show keptTo r l (j + 1) = keptTo r l j ++ (if okPos r l.length j then [l.getD j 0] else []) from rfl, hb, hgx]
            obtain ⟨gW, hgW⟩ := HG.out g
            have HP := Lib.hid (HKP.out gW j hlt2)
            rw [← hgW] at HP
            generalize okPos r l.length j = v at *
            clear hpc hgx hx hgW
            go_wp2_with fail
            go_at_call 60
            refine HP.out.mono ?_
            rintro e w3 ⟨rfl, hb⟩
            have HOW3 := Lib.hid (ownN_below HOW.out hb)
            obtain ⟨g3, rfl⟩ := g.on hb
            clear hb HOW hc0 c7
            cases v with
            | true =>
              have hk1 : Hid (keptTo r l (j + 1) = keptTo r l j ++ [x]) := by show _ = _; rw [HST.out true rfl]; rfl
              clear HST
              generalize keptTo r l j = ac at *
              go_wp2_with (at_builtin; refine wpList_append_own _ rfl _ _ 22 rfl g2.val.heap.size 3 i0 (.int .i64 0) 1 8 Try.underlying22 hi0 hz0 hz1 hz2 rfl (by decide) _ _ _ rfl (HOW3.out.alloc _) ⟨g3.val.heap.size, 0, none⟩ 1 1 [.int .i64 x] rfl rfl ?c1 ?c2 ?c3 ?c4 ?c5 ?_)
              case c1 =>
                intro j u hj
                match j, hj with
                | 0, hj => simp at hj; subst hj; simp [go_sem]
                | j + 1, hj => simp at hj
              case c2 => intro u hu; simp at hu; subst hu; rfl
              case c3 => simp only [maxLen]; omega
              case c4 => omega
              case c5 => have := g3.ok.size; simp; omega
              intro v' w4 hown' hgrow _
              have HB' : Hid (Below g2.val.heap.size g2.val w4) := (g3.ok.alloc g3.ok.size _).grown hgrow (by have := g3.ok.size; simp; omega) (fun k hk => (HOW3.out.lt k hk).1)
              have HOW4 : Hid (w4.ownsRow g2.val.heap.size 3 1 v' (keptTo r l (j + 1)).length (iv (keptTo r l (j + 1)))) := by show World.ownsRow _ _ _ _ _ _ _; rw [hk1.out, List.length_append, iv_app]; exact hown'
              clear hown' hgrow
              obtain ⟨g4, rfl⟩ := Gr.of HB'.out
              go_wp2
              go_roundw
              case rel => exact ⟨g4, j + 1, rfl, by omega, by go_num, HOW4⟩
              case measure => simp [intOf]; omega
            | false =>
              have hk1 : Hid (keptTo r l (j + 1) = keptTo r l j) := by show _ = _; rw [HST.out false rfl]; simp
              clear HST
              go_wp2_with fail
              go_roundw
              case rel => exact ⟨g3, j + 1, rfl, by omega, by go_num, by show World.ownsRow _ _ _ _ _ _ _; rw [hk1.out]; exact HOW3.out⟩
              case measure => simp [intOf]; omega
          · have hiz : ¬ (j : Int) < l.length := by omega
            obtain rfl : j = l.length := by omega
            have HF := Lib.hid (HX.out.trans (g.ok.mono HX.out.size))
            have hsz := HX.out.size
            go_wp2_with fail
            go_ret
            refine ⟨_, rfl, ?_, HF.out⟩
            rw [E.out]
            exact ownN_base HOW.out hsz
end
end Go.Proofs.Ytnccgfdaddbndaa
end
