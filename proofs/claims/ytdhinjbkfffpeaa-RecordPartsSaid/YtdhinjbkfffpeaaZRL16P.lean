import Derived.Test.YtdhinjbkfffpeaaZRL16S
import Derived.Deep.AppendLies
import Derived.Laws.OwnMore
/- RecordParts, walked. -/
section
namespace Go.Proofs.Ytdhinjbkfffpeaa
open Go.ChangeShapes Go.WideShapes Go.ChangeAt Go.RowKit Go.Joins Sp Fr Pk
theorem ak_info (r : Ak) (p : AkP) : (Try.prog.info? 48).map (·.size) = some (aCells r p).toArray.size := by kernel_rfl
theorem ak_cells1 (r : Ak) (p : AkP) : (aCells r p).toArray.all (·.oneCell') = true := by kernel_rfl
theorem alloc_ask16 (w : World) : (Instr.alloc 48 true (.tuple #[])).run Try.prog w = .ok (.pointer (some ⟨w.heap.size, 0, none⟩)) (w.alloc (.cells (aCells (noAk (0, 0, 0)) noAkP).toArray 48)) := by kernel_rfl
theorem ak_ne {a : Ak} : 0 < a.T.length := by
  unfold Ak.T natT
  have := num_ne a.kind.toNat
  rw [List.length_append, List.length_append]
  have h : 0 < (numT a.kind.toNat).length := List.length_pos_iff.2 this
  omega
theorem ak_part {a r : Ak} (ha : a.O) (hr : r.O) {k : Nat} (hk : k < a.T.length) : a.T.take k ≠ r.T := fun e => by
  have hp : (rdAk (some r.T)).2 = some [] := by have h2 := cod_ak.put r [] hr; rw [List.append_nil] at h2; rw [h2]
  have h := cod_ak.pre ha (p := a.T.take k) (q := a.T.drop k) (List.take_append_drop k _).symm (by rw [e]; exact hp)
  have := congrArg List.length h
  rw [List.length_drop] at this
  simp at this; omega
theorem ak_more {a r : Ak} (ha : a.O) (hr : r.O) {s : List UInt8} (h : a.T ++ s = r.T) : s = [] :=
  (cod_ak.inj ha hr (r := s) (s := []) (by rw [List.append_nil]; exact h)).2
theorem own_geq16 {w : World} {base size n : Nat} {e : TypeId} {v : Value} {xs : List Value} (h : w.ownsRow base e size v n xs) {g : Nat} (hg : v.ownBlock = some g) : base ≤ g := by
  rcases h.2 with ⟨rfl, _⟩ | ⟨g', cap, cur, rfl, hb, _⟩
  · simp [Value.ownBlock] at hg
  · have : g' = g := by simpa [Value.ownBlock] using hg
    omega
theorem sl16 {w : World} {A : Option Addr} {c : Nat} {l : List UInt8} (h1 : l.length ≤ c) (h2 : c ≤ maxLen) (h3 : A = none → c = 0) (h : BAt w A l) : Sl w A l.length c (bl l) := by
  refine ⟨h1, h2, h3, fun hn => ?_⟩
  obtain ⟨b, off, e, hlt, hc⟩ := h (by rw [bl_len] at hn; exact hn)
  refine ⟨b, off, e, hlt, fun i v hi => ?_⟩
  have hil := (List.getElem?_eq_some_iff.1 hi).1
  rw [bl_len] at hil
  have h4 := bl_at (List.getElem?_eq_getElem hil)
  rw [hi] at h4
  rw [Option.some.inj h4]
  exact hc i _ (List.getElem?_eq_getElem hil)
theorem u8_info16 : (Try.prog.info? 5).map (fun i => (i.zero, i.size, i.bytes)) = some (some (.int .u8 0), 1, 1) := by kernel_rfl
theorem size_u816 (w' : World) : (sizeOf (Try.prog.elem 50)).run Try.prog w' = .ok 1 w' := by kernel_rfl
theorem Sl.cutTo {P : Program} {w : World} {A : Option Addr} {l : List UInt8} {d k : Nat} (h : Sl w A l.length d (bl l)) (hk : k ≤ l.length) {t : TypeId} (ht : P.underlying t = some (.slice (P.elem t))) (hs : ∀ w' : World, (sizeOf (P.elem t)).run P w' = .ok 1 w') :
    ∃ A1 : Option Addr, (∀ w' : World, (Instr.sliceAt t (.slice A l.length d) none (some (.int .i64 k)) none).run P w' = .ok (.slice A1 k d) w') ∧ Sl w A1 k d (bl (l.take k)) := by
  obtain ⟨A1, A2, h1, _, h3, _⟩ := h.cut (P := P) (k := k) (s := 1) (t := t) hk (by simp [bl_len]) ht hs
  exact ⟨A1, h1, by rw [bl_take]; simpa using h3⟩
set_option maxRecDepth 100000 in
set_option maxHeartbeats 8000000 in
theorem recordParts_any (KP : RecP) (KG : RecG) (a b : Ak) (pa pb : AkP) (n : Nat) (l : List UInt8) (B : Option Addr) (d : Nat) (hn : n < 65536) (fa : a.Fit0) (fb : b.Fit0) (w : World) (ha : AkAt w a pa) (hb : AkAt w b pb) (hl : Sl w B l.length d (bl l)) :
    Calls Try.prog 3 #[.agg (aCells a pa).toArray, .agg (aCells b pb).toArray, .int .u16 n, .slice B l.length d] w fun e w' => e = .returned (.bool true) ∧ Below w.heap.size w w' := by
  obtain ⟨i0, hi0, hq0, hq1, hq2⟩ := info_parts u8_info16
  have HFX := Lib.hid (fun V : World => fixed16_any KP V)
  obtain ⟨W1, hW1⟩ : ∃ W, w.alloc (.cells (aCells a pa).toArray 48) = W := ⟨_, rfl⟩
  obtain ⟨W, hW⟩ : ∃ W, W1.alloc (.cells (aCells b pb).toArray 48) = W := ⟨_, rfl⟩
  have b1 : Below w.heap.size w W1 := by rw [← hW1]; exact (Below.refl _ _).alloc (Nat.le_refl _) _
  have b4 : Below W1.heap.size W1 W := by rw [← hW]; exact (Below.refl _ _).alloc (Nat.le_refl _) _
  have k1 : W1.heap[w.heap.size]? = some (.cells (aCells a pa).toArray 48 (0, 0)) := by rw [← hW1]; exact heap_alloc_new _ _
  have k2 : W.heap[W1.heap.size]? = some (.cells (aCells b pb).toArray 48 (0, 0)) := by rw [← hW]; exact heap_alloc_new _ _
  have z1 : W1.heap.size = w.heap.size + 1 := by rw [← hW1]; simp
  rw [z1] at k2
  have hBW : Below w.heap.size w W := bel16 b1 b4
  have HBW := Lib.hid hBW
  have HLA : Hid (∀ V, Below W.heap.size W V → (Instr.loadAt 48 (.pointer (some ⟨w.heap.size, 0, none⟩))).run Try.prog V = .ok (.agg (aCells a pa).toArray) V) := fun V h => load_ak (blk_below k1 b4) h
  have HLB : Hid (∀ V, Below W.heap.size W V → (Instr.loadAt 48 (.pointer (some ⟨w.heap.size + 1, 0, none⟩))).run Try.prog V = .ok (.agg (aCells b pb).toArray) V) := fun V h => load_ak k2 h
  have E1 : Hid ((w.alloc (.cells (aCells a pa).toArray 48)).alloc (.cells (aCells b pb).toArray 48) = W) := by show _ = _; rw [hW1, hW]
  have HTA : Hid (∀ V, Below w.heap.size w V → AkAt V a pa) := fun V h => ha.below h
  have HTB : Hid (∀ V, Below w.heap.size w V → AkAt V b pb) := fun V h => hb.below h
  have HTL : Hid (∀ V, Below w.heap.size w V → Sl V B l.length d (bl l)) := fun V h => hl.below h (Nat.le_refl _)
  have HGA := Lib.hid (fun (V : World) (h : Below w.heap.size w V) => rGreatAsk_any a pa (by have := fa.cursor; unfold maxLen at this; omega) V (ha.below h))
  have HGB := Lib.hid (fun (V : World) (h : Below w.heap.size w V) => rGreatAsk_any b pb (by have := fb.cursor; unfold maxLen at this; omega) V (hb.below h))
  have FA := Lib.hid fa
  have FB := Lib.hid fb
  have hll : (l.length : Int) ≤ 9223372036854775807 := len_le hl
  obtain ⟨m, hm⟩ : ∃ m, l.length = m := ⟨_, rfl⟩
  have HM := Lib.hid hm
  rw [hm] at hll HTL
  rw [hm]
  clear hW1 hW b1 b4 k1 k2 z1 hBW ha hb hl fa fb hm
  go_enter Try.func3, Try.ntmps3
  go_upto_region 1 with fail
  rw [E1.out]
  go_wp2_with (refine wpList_load (t := 48) (v := .agg (aCells a pa).toArray) rfl rfl (HLA.out _ (Below.refl _ _)) ?_; simp only [Act.put, List.setIfInBounds_toArray, List.set_cons_zero, List.set_cons_succ])
  go_at_call 4
  with_reducible refine (HGA.out W HBW.out).mono ?_
  rintro e w1 ⟨g, rfl, hg, hb1⟩
  have HB1 : Hid (Below W.heap.size W w1) := hb1
  have HG := Lib.hid hg
  clear hg hb1
  cases g with
  | true =>
    go_wp2_with fail
    go_at_call 5
    refine (HFX.out _).mono ?_
    rintro e w18 ⟨rfl, hb18⟩
    have HB18 : Hid (Below w.heap.size w w18) := bel16 HBW.out (bel16 HB1.out hb18)
    clear hb18
    go_wp2_with fail
    go_ret
    exact ⟨rfl, HB18.out⟩
  | false =>
    have hng : ¬ greatA16 a := fun k => by have := HG.out.2 k; cases this
    have HNa := Lib.hid hng
    have HFa := Lib.hid (FA.out.fits hng)
    clear hng HG
    go_wp2_with (refine wpList_load (t := 48) (v := .agg (aCells b pb).toArray) rfl rfl (HLB.out _ HB1.out) ?_; simp only [Act.put, List.setIfInBounds_toArray, List.set_cons_zero, List.set_cons_succ])
    go_at_call 4
    with_reducible refine (HGB.out w1 (bel16 HBW.out HB1.out)).mono ?_
    rintro e w2 ⟨g, rfl, hg, hb2⟩
    have HB2 : Hid (Below W.heap.size W w2) := bel16 HB1.out hb2
    have HG := Lib.hid hg
    clear hg hb2
    cases g with
    | true =>
      go_wp2_with fail
      go_at_call 5
      refine (HFX.out _).mono ?_
      rintro e w18 ⟨rfl, hb18⟩
      have HB18 : Hid (Below w.heap.size w w18) := bel16 HBW.out (bel16 HB2.out hb18)
      clear hb18
      go_wp2_with fail
      go_ret
      exact ⟨rfl, HB18.out⟩
    | false =>
      have hng : ¬ greatA16 b := fun k => by have := HG.out.2 k; cases this
      have HNb := Lib.hid hng
      have HFb := Lib.hid (FB.out.fits hng)
      clear hng HG
      by_cases hgt : 100 < m
      · have hgz : decide ((100 : Int) < (m : Int)) = true := decide_eq_true (by omega)
        go_wp2_with fail
        go_at_call 5
        refine (HFX.out _).mono ?_
        rintro e w18 ⟨rfl, hb18⟩
        have HB18 : Hid (Below w.heap.size w w18) := bel16 HBW.out (bel16 HB2.out hb18)
        clear hb18
        go_wp2_with fail
        go_ret
        exact ⟨rfl, HB18.out⟩
      have hgz : decide ((100 : Int) < (m : Int)) = false := decide_eq_false (by omega)
      have HMM : Hid (m ≤ 100) := by show _ ≤ _; omega
      clear hgt
      have HPA := Lib.hid (KP.put w2 a pa HFa.out HNa.out (HTA.out w2 (bel16 HBW.out HB2.out)))
      go_wp2_with (refine wpList_load (t := 48) (v := .agg (aCells a pa).toArray) rfl rfl (HLA.out _ HB2.out) ?_; simp only [Act.put, List.setIfInBounds_toArray, List.set_cons_zero, List.set_cons_succ])
      go_at_call 6
      with_reducible refine HPA.out.mono ?_
      rintro e w3 ⟨A, da, x, rfl, hx, hs, _, hb3⟩
      have HB3 : Hid (Below W.heap.size W w3) := bel16 HB2.out hb3
      have HX := Lib.hid hx
      have HSX : Hid (∀ V, Below w3.heap.size w3 V → Sl V A x.length da (bl x)) := fun V h => hs.below h (Nat.le_refl _)
      have HPB := Lib.hid (KP.put w3 b pb HFb.out HNb.out (HTB.out w3 (bel16 HBW.out HB3.out)))
      obtain ⟨ox, hox⟩ : ∃ o, a.text.isSome = o := ⟨_, rfl⟩
      have HOX := Lib.hid hox
      obtain ⟨nx, hnx⟩ : ∃ n, x.length = n := ⟨_, rfl⟩
      have HNX := Lib.hid hnx
      rw [hnx] at HSX
      rw [hnx, hox]
      clear hx hs hb3 hox hnx HPA
      go_wp2_with (refine wpList_load (t := 48) (v := .agg (aCells b pb).toArray) rfl rfl (HLB.out _ HB3.out) ?_; simp only [Act.put, List.setIfInBounds_toArray, List.set_cons_zero, List.set_cons_succ])
      go_at_call 6
      with_reducible refine HPB.out.mono ?_
      rintro e w4 ⟨A2, db, y, rfl, hy, hs, _, hb4⟩
      have HB4 : Hid (Below W.heap.size W w4) := bel16 HB3.out hb4
      have HY := Lib.hid hy
      have HSX4 : Hid (∀ V, Below w4.heap.size w4 V → Sl V A nx da (bl x)) := fun V h => HSX.out V (bel16 hb4 h)
      obtain ⟨oy, hoy⟩ : ∃ o, b.text.isSome = o := ⟨_, rfl⟩
      have HOY := Lib.hid hoy
      obtain ⟨ny, hny⟩ : ∃ n, y.length = n := ⟨_, rfl⟩
      rw [hoy, hny]
      have HSY4 : Hid (∀ V, Below w4.heap.size w4 V → Sl V A2 ny db (bl y)) := fun V h => by rw [← hny]; exact hs.below h (Nat.le_refl _)
      have HNY := Lib.hid hny
      have HTX : Hid (ox = true → a.O ∧ x = a.T ∧ x.length ≤ 65536) := fun h => by
        have h1 := HOX.out.trans h
        obtain ⟨t, ht⟩ := Option.isSome_iff_exists.1 h1
        obtain ⟨q1, q2, q3⟩ := (ak_text HFa.out t).1 ht
        have h2 := HX.out
        rw [ht] at h2
        have h3 : x = t := by simpa using h2
        subst h3
        exact ⟨q1, q2, q3⟩
      have HTY : Hid (oy = true → b.O ∧ y = b.T ∧ y.length ≤ 65536) := fun h => by
        have h1 := HOY.out.trans h
        obtain ⟨t, ht⟩ := Option.isSome_iff_exists.1 h1
        obtain ⟨q1, q2, q3⟩ := (ak_text HFb.out t).1 ht
        have h2 := HY.out
        rw [ht] at h2
        have h3 : y = t := by simpa using h2
        subst h3
        exact ⟨q1, q2, q3⟩
      have HX0 : Hid (ox = false → x = []) := fun h => by
        have h1 := HOX.out.trans h
        have h2 := HX.out
        rw [Option.isSome_eq_false_iff, Option.isNone_iff_eq_none] at h1
        rw [h1] at h2
        simpa using h2
      clear hy hs hb4 hoy hny HPB
      obtain ⟨s, hs⟩ : ∃ s : Bool, s = true ↔ a = b := by classical exact ⟨decide (a = b), by simp⟩
      have HSS := Lib.hid hs
      have C2 : Hid (∀ (g : Gr w4), Calls Try.prog 7 #[.agg (aCells a pa).toArray, .agg (aCells b pb).toArray] g.val fun e w' => e = .returned (.bool s) ∧ Below g.val.heap.size g.val w') := fun g => same_calls hs (rSameAsk_any a b pa pb g.val (HTA.out _ (bel16 HBW.out (bel16 HB4.out g.ok))) (HTB.out _ (bel16 HBW.out (bel16 HB4.out g.ok))))
      have hcx := fun g : Gr w4 => conv16 ((HSX4.out g.val g.ok).bat) da nx HNX.out
      have hcy := fun g : Gr w4 => conv16 ((HSY4.out g.val g.ok).bat) db ny HNY.out
      have HG4 : Hid (∀ g : Gr w4, Below W.heap.size W g.val) := fun g => bel16 HB4.out g.ok
      clear hs
      -- the comparison, and behind it
      go_upto_region 5 with fail
      go_cut [53] from 39 (fun s53 wx => ∃ g : Gr w4, g.val = wx ∧ s53 = .bool false)
      case first =>
        refine Gr.region (w0 := w4) (by kernel_rfl) (by kernel_rfl) (Gr.draw0 _) ?_
        have hq : ox = false ∨ oy = false ∨ (x == y) = s := by
          cases hox : ox with
          | false => exact .inl rfl
          | true => cases hoy : oy with
            | false => exact .inr (.inl rfl)
            | true =>
              refine .inr (.inr ?_)
              obtain ⟨q1, q2, _⟩ := HTX.out hox
              obtain ⟨r1, r2, _⟩ := HTY.out hoy
              have e : x = y ↔ a = b := ⟨fun e => ak_one q1 r1 q2 (e.trans r2), fun e => by rw [q2, r2, e]⟩
              cases s with
              | true => exact beq_iff_eq.2 (e.2 (HSS.out.1 rfl))
              | false => exact beq_false_of_ne fun k => by have := HSS.out.2 (e.1 k); cases this
        obtain ⟨xy, hxy⟩ : ∃ t, (x == y) = t := ⟨_, rfl⟩
        rw [hxy] at hq
        have hall : (ox = false) ∨ (ox = true ∧ oy = false) ∨ (ox = true ∧ oy = true ∧ xy = s) := by
          rcases hq with h | h | h
          · exact .inl h
          · cases ox
            · exact .inl rfl
            · exact .inr (.inl ⟨rfl, h⟩)
          · cases ox
            · exact .inl rfl
            · cases oy
              · exact .inr (.inl ⟨rfl, rfl⟩)
              · exact .inr (.inr ⟨rfl, rfl, h⟩)
        clear hq
        rcases hall with rfl | ⟨rfl, rfl⟩ | ⟨rfl, rfl, rfl⟩
        rotate_right
        · cases xy
          all_goals
            repeat (first
            | go_big_quiet_skip
              | (refine wpQuiet_load (t := 48) (v := .agg (aCells a pa).toArray) rfl rfl (by rintro _ ⟨g, rfl⟩; exact HLA.out _ (HG4.out g)) ?_; simp only [Act.put, List.setIfInBounds_toArray, List.set_cons_zero, List.set_cons_succ])
              | (refine wpQuiet_load (t := 48) (v := .agg (aCells b pb).toArray) rfl rfl (by rintro _ ⟨g, rfl⟩; exact HLB.out _ (HG4.out g)) ?_; simp only [Act.put, List.setIfInBounds_toArray, List.set_cons_zero, List.set_cons_succ])
              | go_big_quiet_step ((go_at_call 7; with_reducible exact Gr.calls _ (C2.out _))))
            refine wpQuiet_nil ?_
            rintro _ ⟨g, rfl⟩
            go_wp2_with fail
            go_meet
            case rel => exact ⟨g, rfl, rfl⟩
        all_goals
          repeat (first
            | go_big_quiet_skip
            | (refine wpQuiet_load (t := 48) (v := .agg (aCells a pa).toArray) rfl rfl (by rintro _ ⟨g, rfl⟩; exact HLA.out _ (HG4.out g)) ?_; simp only [Act.put, List.setIfInBounds_toArray, List.set_cons_zero, List.set_cons_succ])
            | (refine wpQuiet_load (t := 48) (v := .agg (aCells b pb).toArray) rfl rfl (by rintro _ ⟨g, rfl⟩; exact HLB.out _ (HG4.out g)) ?_; simp only [Act.put, List.setIfInBounds_toArray, List.set_cons_zero, List.set_cons_succ])
            | go_big_quiet_step ((go_at_call 7; with_reducible exact Gr.calls _ (C2.out _))))
          refine wpQuiet_nil ?_
          rintro _ ⟨g, rfl⟩
          go_wp2_with fail
          go_meet
          case rel => exact ⟨g, rfl, rfl⟩
      case rest =>
      obtain ⟨g5, rfl, rfl⟩ := hcut
      have HB5 : Hid (Below W.heap.size W g5.val) := HG4.out g5
      have HSX5 : Hid (∀ V, Below g5.val.heap.size g5.val V → Sl V A nx da (bl x)) := fun V h => HSX4.out V (bel16 g5.ok h)
      clear hcx hcy C2 HSX4 HSY4 HSX
      cases hox : ox with
      | false =>
        have hx0 : nx = 0 := by rw [← HNX.out, HX0.out hox]; rfl
        subst hx0
        clear hox
        go_wp2_with fail
        go_at_call 5
        refine (HFX.out _).mono ?_
        rintro e w18 ⟨rfl, hb18⟩
        have HB18 : Hid (Below w.heap.size w w18) := bel16 HBW.out (bel16 HB5.out hb18)
        clear hb18
        go_wp2_with fail
        go_ret
        exact ⟨rfl, HB18.out⟩
      | true =>
        obtain ⟨qO, qT, qL⟩ := HTX.out hox
        have hnx : 0 < nx := by rw [← HNX.out, qT]; exact ak_ne
        have hnL : nx ≤ 65536 := by rw [← HNX.out]; exact qL
        have HQ : Hid (a.O ∧ x = a.T) := ⟨qO, qT⟩
        have hz0 : ((nx : Int) == 0) = false := beq_false_of_ne (by omega)
        have hz1 : ¬ (nx : Int) = 0 := by omega
        have ht1 : (n : Int).tmod nx = (n : Int) % nx := Int.tmod_eq_emod_of_nonneg (by omega)
        obtain ⟨k, hk⟩ : ∃ k : Nat, n % nx = k := ⟨_, rfl⟩
        have hkl : k < nx := by rw [← hk]; exact Nat.mod_lt _ hnx
        have ht2 : (n : Int) % nx = (k : Int) := by rw [← hk]; first | exact (Int.natCast_emod n nx).symm | simp
        rw [ht2] at ht1
        have hcn : IntKind.i64.wrap (n : Int) = n := by rw [IntKind.wrap_i64]; omega
        have hsl0 : Sl g5.val A x.length da (bl x) := by rw [HNX.out]; exact HSX5.out _ (Below.refl _ _)
        obtain ⟨A1, hcut, hs1⟩ := hsl0.cutTo (P := Try.prog) (k := k) (by rw [HNX.out]; omega) (t := 50) (by kernel_rfl) size_u816
        rw [HNX.out] at hcut
        have HG1 : Hid (Calls Try.prog 8 #[.slice A1 k da] g5.val fun e w' => ∃ (ok : Bool) (r : Ak) (p : AkP), e = .returned (.tuple #[.agg (aCells r p).toArray, .bool ok]) ∧ AkAt w' r p ∧ Below g5.val.heap.size g5.val w' ∧ (ok = true → r.O ∧ x.take k = r.T ∧ (x.take k).length ≤ 65536) ∧ (ok = false → ∀ s : Ak, s.O → x.take k = s.T → ¬ (x.take k).length ≤ 65536)) := by
          have hkk : (x.take k).length = k := by rw [List.length_take, HNX.out]; omega
          have := KG.get g5.val A1 da (x.take k) (by rw [hkk]; omega) (by rw [hkk]; exact hs1)
          show Calls _ _ _ _ _
          rw [hkk] at this ⊢
          exact this
        have HK := Lib.hid hkl
        clear hox qO qT qL hk ht2 hsl0 hs1 hkl
        go_wp2_with fail
        go_at_call 8
        refine HG1.out.mono ?_
        rintro e w6 ⟨ok, r, pr, rfl, _, hb6, h1, _⟩
        obtain rfl : ok = false := by
          cases ok with
          | false => rfl
          | true =>
            obtain ⟨q1, q2, _⟩ := h1 rfl
            rw [HQ.out.2] at q2
            exact absurd q2 (ak_part HQ.out.1 q1 (by rw [← HQ.out.2, HNX.out]; exact HK.out))
        obtain ⟨W7, hW7⟩ : ∃ V, w6.alloc (.cells (aCells r pr).toArray 48) = V := ⟨_, rfl⟩
        have hb7 : Below w6.heap.size w6 W7 := by rw [← hW7]; exact (Below.refl _ _).alloc (Nat.le_refl _) _
        have HB7 : Hid (Below W.heap.size W W7) := bel16 (bel16 HB5.out hb6) hb7
        have HSX7 : Hid (Sl W7 A nx da (bl x)) := HSX5.out W7 (bel16 hb6 hb7)
        have HSL7 : Hid (Sl W7 B m d (bl l)) := HTL.out W7 (bel16 HBW.out HB7.out)
        have E7 := Lib.hid hW7
        clear h1 hb6 hW7 hb7 hcut HG1 ht1 hcn hz0 hz1
        go_upto_region 12 with (first
  | (refine wpList_alloc (t := 48) (c := (aCells (noAk (0, 0, 0)) noAkP).toArray) rfl rfl (alloc_ask16 _) ?_; simp only [Act.put, List.setIfInBounds_toArray, List.set_cons_zero, List.set_cons_succ])
  | (refine wpList_store_new (t := 48) (c' := (aCells r pr).toArray) rfl rfl rfl rfl (ak_info _ _) (Option.some.inj ((ak_info _ _).symm.trans (ak_info _ _))) (ak_cells1 _ _) ?_; simp only [Act.put]))
        rw [E7.out]
        have hl1 : (bl x).length = nx * 1 := by rw [bl_len, HNX.out, Nat.mul_one]
        have hl2 : (bl l).length = m * 1 := by rw [bl_len, HM.out, Nat.mul_one]
        have hmx1 : 0 + nx ≤ maxLen := by unfold maxLen; omega
        have hmx2 : nx + m ≤ maxLen := by have := HMM.out; unfold maxLen; omega
        have hby2 : (nx + m) * 1 ≤ 140737488355328 := by have := HMM.out; omega
        have HO1 := Lib.hid (bl_one x)
        have HO2 := Lib.hid (bl_one l)
        go_wp2_with (first
          | (refine wpList_append_sl rfl _ _ _ (by rfl) W7.heap.size 5 i0 _ 1 1 Try.underlying50 hi0 hq0 hq1 hq2 rfl (by decide) (.slice (some ⟨W7.heap.size, 0, none⟩) 0 0) 0 [] (by rfl) (World.ownsRow_made (base := W7.heap.size) W7 #[] 0 (Nat.le_refl _) (by decide) rfl) A nx da (bl x) (by rfl) (HSX7.out.alloc _) hl1 HO1.out hmx1 (by omega) (by simp) ?_; intro v8 w8 hown8 hgr8; simp only [Nat.zero_add, List.nil_append] at hown8; have HB8 : Hid (Below W7.heap.size W7 w8) := Below.grown ((Below.refl _ W7).alloc (Nat.le_refl _) _) hgr8 (by simp) (fun kk hk => by simp [Value.ownBlock] at hk; omega); obtain ⟨A8, c8, rfl, _⟩ := Sl.of_own hown8)
          | (refine wpList_append_sl rfl _ _ _ (by rfl) W7.heap.size 5 i0 _ 1 1 Try.underlying50 hi0 hq0 hq1 hq2 rfl (by decide) (.slice A8 nx c8) nx (bl x) (by rfl) hown8 B m d (bl l) (by rfl) (HSL7.out.below HB8.out (Nat.le_refl _)) hl2 HO2.out hmx2 hby2 HB8.out.size ?_; intro v9 w9 hown9 hgr9; have HB9 : Hid (Below W7.heap.size W7 w9) := Below.grown HB8.out hgr9 HB8.out.size (fun kk hk => own_geq16 hown8 hk); obtain ⟨A9, c9, rfl, hs9⟩ := Sl.of_own hown9))
        have HG2 : Hid (Calls Try.prog 8 #[.slice A9 (nx + m) c9] w9 fun e w' => ∃ (ok : Bool) (r : Ak) (p : AkP), e = .returned (.tuple #[.agg (aCells r p).toArray, .bool ok]) ∧ AkAt w' r p ∧ Below w9.heap.size w9 w' ∧ (ok = true → r.O ∧ x ++ l = r.T ∧ (x ++ l).length ≤ 65536) ∧ (ok = false → ∀ s : Ak, s.O → x ++ l = s.T → ¬ (x ++ l).length ≤ 65536)) := by
          have hxl : (x ++ l).length = nx + m := by rw [List.length_append, HNX.out, HM.out]
          have := KG.get w9 A9 c9 (x ++ l) (by rw [hxl]; have := HMM.out; omega) (by rw [hxl, bl_app]; exact hs9)
          show Calls _ _ _ _ _
          rw [hxl] at this ⊢
          exact this
        have HB9w : Hid (Below W.heap.size W w9) := bel16 HB7.out HB9.out
        clear hown8 hgr8 hown9 hgr9 hs9
        go_at_call 8
        refine HG2.out.mono ?_
        rintro e w10 ⟨ok, r2, pr2, rfl, _, hb10, h1, h2⟩
        have hok : ok = (m == 0) := by
          cases ok with
          | true =>
            obtain ⟨q1, q2, _⟩ := h1 (by trivial)
            rw [HQ.out.2] at q2
            have hl0 := ak_more HQ.out.1 q1 q2
            have : m = 0 := by rw [← HM.out, hl0]; rfl
            subst this; rfl
          | false =>
            by_cases hm0 : m = 0
            · have hl0 : l = [] := List.eq_nil_of_length_eq_zero (by rw [HM.out]; exact hm0)
              refine absurd ?_ (h2 (by trivial) a HQ.out.1 (by rw [hl0, List.append_nil]; exact HQ.out.2))
              rw [hl0, List.append_nil, HNX.out]; exact hnL
            · exact (beq_false_of_ne hm0).symm
        obtain ⟨W11, hW11⟩ : ∃ V, w10.alloc (.cells (aCells r2 pr2).toArray 48) = V := ⟨_, rfl⟩
        have HB11 : Hid (Below W.heap.size W W11) := bel16 (bel16 HB9w.out hb10) (by rw [← hW11]; exact (Below.refl _ _).alloc (Nat.le_refl _) _)
        have E11 := Lib.hid hW11
        have HOK := Lib.hid hok
        clear h1 h2 hb10 hW11 HG2 hok
        go_upto_region 13 with (first
  | (refine wpList_alloc (t := 48) (c := (aCells (noAk (0, 0, 0)) noAkP).toArray) rfl rfl (alloc_ask16 _) ?_; simp only [Act.put, List.setIfInBounds_toArray, List.set_cons_zero, List.set_cons_succ])
  | (refine wpList_store_new (t := 48) (c' := (aCells r2 pr2).toArray) rfl rfl rfl rfl (ak_info _ _) (Option.some.inj ((ak_info _ _).symm.trans (ak_info _ _))) (ak_cells1 _ _) ?_; simp only [Act.put]))
        rw [E11.out]
        go_wp2_with fail
        go_at_call 5
        refine (HFX.out _).mono ?_
        rintro e w18 ⟨rfl, hb18⟩
        have HB18 : Hid (Below w.heap.size w w18) := bel16 HBW.out (bel16 HB11.out hb18)
        clear hb18
        by_cases hm0 : m = 0
        · subst hm0
          have hok := HOK.out
          obtain rfl : ok = true := hok
          go_wp2_with fail
          go_ret
          exact ⟨rfl, HB18.out⟩
        · have hok : ok = false := HOK.out.trans (beq_false_of_ne hm0)
          subst hok
          have hz : ((m : Int) == 0) = false := beq_false_of_ne (by omega)
          have hz2 : ¬ (m : Int) = 0 := by omega
          go_wp2_with fail
          go_ret
          exact ⟨rfl, HB18.out⟩
end Go.Proofs.Ytdhinjbkfffpeaa
end
