import Derived.Test.YtfjmofefciopmaaGreatZMS
import Derived.Test.YtfjmofefciopmaaGreatZMN
/- Contract of the program's times: those between two stamps. -/
section
namespace Go.Proofs.YtfjmofefciopmaaGreat
open Go.ChangeShapes Go.WideShapes Go.ChangeAt Go.RowKit Go.Joins Go.Shelf Qr Tm Cal
attribute [local go_sem] Oper.semAt_some
theorem st_info : (Tryz.prog.info? 2).map (fun i => (i.zero, i.size, i.bytes)) = some (some (.int .i64 0), 1, 8) := by kernel_rfl
theorem Kx.set {X : Nat → Prop} {M0 b i : Nat} (hb : X b) (W : World) (v : Value) : Kx X M0 W (W.setCell ⟨b, i, none⟩ v) :=
  ⟨by simp [World.setCell], fun k o hk hX _ => (Below.heap_setCell _ _ _ _ (by intro e; subst e; exact hX hb)).trans hk⟩
theorem own_own {W W' : World} {base : Nat} {e : TypeId} {size : Nat} {v : Value} {n : Nat} {xs : List Value} {row : Option Nat} (h : W.ownsRow base e size v n xs) (hg : W.grownBy W' row) (hr : ∀ r, row = some r → ∃ o : Obj, W.heap[r]? = some o ∧ o.isCells = false) : W'.ownsRow base e size v n xs := by
  obtain ⟨hl, h | ⟨g, cap, cur, hv, hb, hc, r⟩⟩ := h
  · exact ⟨hl, .inl h⟩
  · exact ⟨hl, .inr ⟨g, cap, cur, hv, hb, heap_own hc rfl hg hr, r⟩⟩
theorem own_own' {W : World} {base b : Nat} {e : TypeId} {size : Nat} {v u : Value} {n : Nat} {xs : List Value} (h : W.ownsRow base e size v n xs) (hb : b < base) : (W.setCell ⟨b, 0, none⟩ u).ownsRow base e size v n xs := by
  obtain ⟨hl, h | ⟨g, cap, cur, hv, hg, hc, r⟩⟩ := h
  · exact ⟨hl, .inl h⟩
  · exact ⟨hl, .inr ⟨g, cap, cur, hv, hg, (Below.heap_setCell _ _ _ _ (by simp; omega)).trans hc, r⟩⟩
structure BtI (w : World) (M0 : Nat) (most : Int) (pre : List Int) (V : World) : Prop where
  m : V.heap[w.heap.size + 1]? = some (.cells #[.int .i64 most] 3 (0, 0))
  s : V.heap[w.heap.size + 2]? = some (.cells #[.slice none 0 0] 29 (0, 0))
  b : V.heap[w.heap.size + 3]? = some (.cells #[.bool false] 4 (0, 0))
  r : ∃ v, V.heap[w.heap.size + 4]? = some (.cells #[v] 29 (0, 0)) ∧ V.ownsRow M0 2 1 v pre.length (iv pre)
  le : (pre.length : Int) ≤ max 0 most
  below : Below w.heap.size w V
structure BtX (w : World) (most : Int) (pre : List Int) (V : World) : Prop where
  s : V.heap[w.heap.size + 2]? = some (.cells #[.slice none 0 0] 29 (0, 0))
  b : V.heap[w.heap.size + 3]? = some (.cells #[.bool false] 4 (0, 0))
  gt : max 0 most < (pre.length : Int)
  below : Below w.heap.size w V
theorem BtI.abide {w : World} {M0 B : Nat} {most : Int} (hB : w.heap.size ≤ B) : OwnFrom B (BtI w M0 most) := fun s X Y row hs hg hr => by
  have hr2 : ∀ r, row = some r → ∃ o : Obj, X.heap[r]? = some o ∧ o.isCells = false := fun r e => (hr r e).2
  obtain ⟨v, h1, h2⟩ := hs.r
  exact ⟨heap_own hs.m rfl hg hr2, heap_own hs.s rfl hg hr2, heap_own hs.b rfl hg hr2, ⟨v, heap_own h1 rfl hg hr2, own_own h2 hg hr2⟩, hs.le, ownFrom_below (Nat.le_refl _) hB (s := s) X Y row hs.below hg hr⟩
theorem BtX.abide {w : World} {B : Nat} {most : Int} (hB : w.heap.size ≤ B) : OwnFrom B (BtX w most) := fun s X Y row hs hg hr => by
  have hr2 : ∀ r, row = some r → ∃ o : Obj, X.heap[r]? = some o ∧ o.isCells = false := fun r e => (hr r e).2
  exact ⟨heap_own hs.s rfl hg hr2, heap_own hs.b rfl hg hr2, hs.gt, ownFrom_below (Nat.le_refl _) hB (s := s) X Y row hs.below hg hr⟩
def RetBo (T : List Int) (most : Int) (w : World) (e : Ending) (w' : World) : Prop :=
  (((T.length : Int) ≤ max 0 most ∧ ∃ A c, e = .returned (.tuple #[.slice A T.length c, .bool true]) ∧ Sl w' A T.length c (iv T) ∧ ∃ B, w.heap.size ≤ B ∧ w'.ownsRow B 2 1 (.slice A T.length c) T.length (iv T)) ∨ (max 0 most < (T.length : Int) ∧ e = .returned (.tuple #[.slice none 0 0, .bool false]))) ∧ Below w.heap.size w w'
def RetBt (T : List Int) (most : Int) (w : World) (e : Ending) (w' : World) : Prop :=
  (((T.length : Int) ≤ max 0 most ∧ ∃ A c, e = .returned (.tuple #[.slice A T.length c, .bool true]) ∧ Sl w' A T.length c (iv T)) ∨ (max 0 most < (T.length : Int) ∧ e = .returned (.tuple #[.slice none 0 0, .bool false]))) ∧ Below w.heap.size w w'
theorem RetBo.weak {T : List Int} {most : Int} {w : World} {e : Ending} {w' : World} (h : RetBo T most w e w') : RetBt T most w e w' :=
  ⟨h.1.imp (fun q => ⟨q.1, q.2.choose, q.2.choose_spec.choose, q.2.choose_spec.choose_spec.1, q.2.choose_spec.choose_spec.2.1⟩) id, h.2⟩
section
variable (r : R) (A1 A2 A3 A4 : Option Addr) (c1 c2 c3 c4 : Nat)
set_option maxRecDepth 100000 in
set_option maxHeartbeats 4000000 in
theorem pbetween_in (n : Nat) (hn : 3 ≤ n) (start from_ to most : Int) (hs : -9223372036854775808 ≤ start ∧ start ≤ 9223372036854775807) (hf : -9223372036854775808 ≤ from_ ∧ from_ ≤ 9223372036854775807) (ht : -9223372036854775808 ≤ to ∧ to ≤ 9223372036854775807)
    (hl : r.bm.length ≤ 10000 ∧ r.bd.length ≤ 10000 ∧ r.bw.length ≤ 10000 ∧ r.bs.length ≤ 10000) (T : List Int) (hT : withinL r start from_ to = T) (hTl : T.length ≤ 200000) (w : World) (hr : RAt w r A1 A2 A3 A4 c1 c2 c3 c4) :
    CallsIn Fence.wide n Tryz.prog 67 #[.agg (rcells r A1 A2 A3 A4 c1 c2 c3 c4), .int .i64 start, .int .i64 from_, .int .i64 to, .int .i64 most] w (RetBo T most w) := by
  have h1n : 1 ≤ n := by omega
  have h2n : 1 ≤ n - 1 := by omega
  obtain ⟨i0, hi0, hz0, hz1, hz2⟩ := info_parts st_info
  obtain ⟨W5, hW5⟩ : ∃ W5, ((((w.alloc (.cells (rcells r A1 A2 A3 A4 c1 c2 c3 c4) 28)).alloc (.cells #[.int .i64 most] 3)).alloc (.cells #[.slice none 0 0] 29)).alloc (.cells #[.bool false] 4)).alloc (.cells #[.slice none 0 0] 29) = W5 := ⟨_, rfl⟩
  have hsz5 : W5.heap.size = w.heap.size + 5 := by rw [← hW5]; simp
  have hB5 : Below w.heap.size w W5 := by
    rw [← hW5]
    exact (((((Below.refl _ w).alloc (Nat.le_refl _) _).alloc (by simp) _).alloc (by simp; omega) _).alloc (by simp; omega) _).alloc (by simp; omega) _
  have hr0 : W5.heap[w.heap.size]? = some (.cells (rcells r A1 A2 A3 A4 c1 c2 c3 c4) 28 (0, 0)) := by
    rw [← hW5, heap_alloc_old _ _ (by simp; omega), heap_alloc_old _ _ (by simp; omega), heap_alloc_old _ _ (by simp; omega), heap_alloc_old _ _ (by simp), heap_alloc_new]
  have hr1 : W5.heap[w.heap.size + 1]? = some (.cells #[.int .i64 most] 3 (0, 0)) := by
    rw [← hW5, heap_alloc_old _ _ (by simp), heap_alloc_old _ _ (by simp), heap_alloc_old _ _ (by simp), heap_alloc_new2]
  have hr2 : W5.heap[w.heap.size + 2]? = some (.cells #[.slice none 0 0] 29 (0, 0)) := by
    rw [← hW5, heap_alloc_old _ _ (by simp), heap_alloc_old _ _ (by simp), heap_alloc_new3]
  have hr3 : W5.heap[w.heap.size + 3]? = some (.cells #[.bool false] 4 (0, 0)) := by
    rw [← hW5, heap_alloc_old _ _ (by simp)]
    have := heap_alloc_new (((w.alloc (.cells (rcells r A1 A2 A3 A4 c1 c2 c3 c4) 28)).alloc (.cells #[.int .i64 most] 3)).alloc (.cells #[.slice none 0 0] 29)) (.cells #[.bool false] 4)
    simpa using this
  have hr4 : W5.heap[w.heap.size + 4]? = some (.cells #[.slice none 0 0] 29 (0, 0)) := by
    rw [← hW5]
    have := heap_alloc_new ((((w.alloc (.cells (rcells r A1 A2 A3 A4 c1 c2 c3 c4) 28)).alloc (.cells #[.int .i64 most] 3)).alloc (.cells #[.slice none 0 0] 29)).alloc (.cells #[.bool false] 4)) (.cells #[.slice none 0 0] 29)
    simpa using this
  have HW := Lib.hid (pwithin_any r A1 A2 A3 A4 c1 c2 c3 c4 start from_ to hs hf ht hl W5 (hr.below hB5 (Nat.le_refl _)))
  rw [hT] at HW
  have HB5 := Lib.hid hB5
  have HR1 := Lib.hid hr1
  have HR2 := Lib.hid hr2
  have HR3 := Lib.hid hr3
  have HR4 := Lib.hid hr4
  have HS5 := Lib.hid hsz5
  unfold rcells at *
  have k0 := blk_cell hr0 (i := 0) rfl
  have k1 := blk_cell hr0 (i := 1) rfl
  have k2 := blk_cell hr0 (i := 2) rfl
  have k3 := blk_cell hr0 (i := 3) rfl
  have k4 := blk_cell hr0 (i := 4) rfl
  have k5 := blk_cell hr0 (i := 5) rfl
  have k6 := blk_cell hr0 (i := 6) rfl
  have k7 := blk_cell hr0 (i := 7) rfl
  have k8 := blk_cell hr0 (i := 8) rfl
  clear hr hr0 hr1 hr2 hr3 hr4 hB5 hsz5 hT hl
  subst hW5
  refine callsIn_of_wp_marks Tryz.func67 rfl trivial ?_ rfl
  simp only [Tryz.ntmps67, List.size_toArray, List.length_cons, List.length_nil, Nat.reduceAdd, Nat.reduceSub, Array.replicate_succ, Array.replicate_zero, List.push_toArray, List.append_toArray, List.nil_append, List.cons_append]
  gi_wp2_with fail
  first | refine ⟨trivial, fun h => (by cases h), (callsIn_wide.2 HW.out).mono ?_⟩ | refine ⟨trivial, (callsIn_wide.2 HW.out).mono ?_⟩
  rintro e W ⟨v, rfl, ⟨gf, lb, rfl, heg, hseq⟩, hbW⟩
  obtain ⟨W5, hW5⟩ : ∃ W5, ((((w.alloc (.cells #[.int .i64 r.freq, .int .i64 r.iv, .int .i64 r.count, .int .i64 r.until_, .slice A1 r.bm.length c1, .slice A2 r.bd.length c2, .slice A3 r.bw.length c3, .slice A4 r.bs.length c4, .int .i64 r.start] 28)).alloc (.cells #[.int .i64 most] 3)).alloc (.cells #[.slice none 0 0] 29)).alloc (.cells #[.bool false] 4)).alloc (.cells #[.slice none 0 0] 29) = W5 := ⟨_, rfl⟩
  rw [hW5] at hbW hseq HB5 HR1 HR2 HR3 HR4 HS5
  clear k0 k1 k2 k3 k4 k5 k6 k7 k8 HW hW5
  gi_wp2
  have hX1 : xOf W5 W (w.heap.size + 1) := .inl (by rw [HS5.out]; omega)
  have hX2 : xOf W5 W (w.heap.size + 2) := .inl (by rw [HS5.out]; omega)
  have hX3 : xOf W5 W (w.heap.size + 3) := .inl (by rw [HS5.out]; omega)
  have hX4 : xOf W5 W (w.heap.size + 4) := .inl (by rw [HS5.out]; omega)
  have hWs : w.heap.size + 5 ≤ W.heap.size := by rw [← HS5.out]; exact hbW.size
  have hI0 : BtI w W.heap.size most [] W := ⟨blk_below HR1.out hbW, blk_below HR2.out hbW, blk_below HR3.out hbW, ⟨_, blk_below HR4.out hbW, World.ownsRow_nil _ _ _ _⟩, by simp; omega, HB5.out.trans (hbW.mono HB5.out.size)⟩
  refine wp_rangeO (F := Fence.wide) rfl h1n (gf := gf) (lb := lb) rfl trivial heg (encs := fun x : Int => #[Value.int .i64 x]) (Kp := Kx (xOf W5 W) W.heap.size) (S := fun ys => ys = T) (Sp := fun pre => pre <+: T) (N := T.length) (w0 := W) (hseq (n - 1) h2n)
    (fun h k => h.trans k) (fun V o => Kx.put (.inr rfl) V o) (Below.refl _ _) (fun _ => rfl) (BtI w W.heap.size most) (fun c pre V => c = .ret ∧ BtX w most pre V) (BtI.abide (by omega))
    (fun c s X Y row hs hg hr => ⟨hs.1, BtX.abide (B := W.heap.size) (by omega) s X Y row hs.2 hg hr⟩) hI0
    (fun x => { tmps := #[.agg #[.int .i64 r.freq, .int .i64 r.iv, .int .i64 r.count, .int .i64 r.until_, .slice A1 r.bm.length c1, .slice A2 r.bd.length c2, .slice A3 r.bw.length c3, .slice A4 r.bs.length c4, .int .i64 r.start], .int .i64 start, .int .i64 from_, .int .i64 to, .int .i64 most, .pointer (some ⟨w.heap.size, 0, none⟩), undef, undef, undef, .pointer (some ⟨w.heap.size + 1, 0, none⟩), .pointer (some ⟨w.heap.size + 2, 0, none⟩), .pointer (some ⟨w.heap.size + 3, 0, none⟩), .pointer (some ⟨w.heap.size + 4, 0, none⟩), .int .i64 x,
      .agg #[.int .i64 r.freq, .int .i64 r.iv, .int .i64 r.count, .int .i64 r.until_, .slice A1 r.bm.length c1, .slice A2 r.bd.length c2, .slice A3 r.bw.length c3, .slice A4 r.bs.length c4, .int .i64 r.start], .int .i64 start, .int .i64 from_, .int .i64 to, .func (.func gf) #[] lb, .int .i64 x, undef, undef, undef, undef, undef, undef, undef, undef, undef], defers := [] })
    ?assign ?body ?done ?stop
  case assign =>
    intro l2 x V K hK
    gi_wp2
    exact hK
  case body =>
    rintro pre x V hsz hI hlen
    obtain ⟨v, hv, hown⟩ := hI.r
    obtain ⟨Av, cv, rfl, _⟩ := Sl.of_own hown
    have m0 := blk_cell hI.m (i := 0) (v := .int .i64 most) rfl
    have v0 := blk_cell hv (i := 0) (v := .slice Av pre.length cv) rfl
    have hple : (pre.length : Int) ≤ 200000 := by omega
    by_cases hfull : most ≤ (pre.length : Int)
    · have hfb : decide (most ≤ (pre.length : Int)) = true := decide_eq_true hfull
      have fs := blk_free hI.s
      have fb := blk_free hI.b
      have s0 := blk_cell hI.s (i := 0) (v := .slice none 0 0) rfl
      have b0 := blk_cell hI.b (i := 0) (v := .bool false) rfl
      gi_wp2
      refine ⟨((KeepsOthers.setCell _ _ _).trans (KeepsOthers.setCell _ _ _)).from _, (Kx.set hX2 _ _).trans (Kx.set hX3 _ _), rfl, ⟨?_, ?_, ?_, ?_⟩⟩
      · rw [Below.heap_setCell _ _ _ _ (by simp)]
        have := block_setCell hI.s (i := 0) (.slice none 0 0)
        simpa using this
      · have h2 : (V.setCell ⟨w.heap.size + 2, 0, none⟩ (.slice none 0 0)).heap[w.heap.size + 3]? = some (.cells #[.bool false] 4 (0, 0)) := by rw [Below.heap_setCell _ _ _ _ (by simp)]; exact hI.b
        have := block_setCell h2 (i := 0) (.bool false)
        simpa using this
      · simp; have := hI.le; omega
      · exact (hI.below.setCell (p := ⟨w.heap.size + 2, 0, none⟩) (by simp) _).setCell (p := ⟨w.heap.size + 3, 0, none⟩) (by simp) _
    · have hfb : decide (most ≤ (pre.length : Int)) = false := decide_eq_false hfull
      have HOW := Lib.hid hown
      have HI := Lib.hid hI
      have HV := Lib.hid hv
      have hMV : W.heap.size ≤ V.heap.size := by omega
      have HSZ : Hid (w.heap.size + 4 < V.heap.size) := by show _ < _; omega
      clear hown hv hI
      gi_wp2_with (gi_at_builtin; refine wpListIn_append_own _ rfl _ _ 29 rfl W.heap.size 2 i0 (.int .i64 0) 1 8 Tryz.underlying29 hi0 hz0 hz1 hz2 rfl (by decide) _ _ _ rfl (HOW.out.alloc _) ⟨V.heap.size, 0, none⟩ 1 1 [.int .i64 x] rfl rfl ?p1 ?p2 ?p3 ?p4 ?p5 ?_)
      try case p1 =>
        intro j u hj
        match j, hj with
        | 0, hj => simp at hj; subst hj; simp [go_sem]
        | j + 1, hj => simp at hj
      case p2 => first | rfl | (intro u hu; simp at hu; subst hu; rfl)
      case p3 => simp only [maxLen]; omega
      case p4 => omega
      case p5 => first | omega | (simp; omega)
      intro v' w4 hown' hgrow _
      -- the block that may be turned holds stamps
      have hVV : Below V.heap.size V (V.alloc (.cells #[.int .i64 x] 2)) := (Below.refl _ V).alloc (Nat.le_refl _) _
      have hgb : ∀ k, (Value.slice Av pre.length cv).ownBlock = some k → W.heap.size ≤ k := fun k e => (HOW.out.lt k e).1
      have hgs : ∀ k, (Value.slice Av pre.length cv).ownBlock = some k → ∃ cs, V.heap[k]? = some (.cells cs 2 (0, 0)) := fun k e => by
        rcases HOW.out.2 with ⟨h, _⟩ | ⟨g, cap, cur, h, _, hg, _⟩
        · rw [h] at e; cases e
        · rw [h] at e; cases e; exact ⟨_, hg⟩
      have hK4 : Kx (xOf W5 W) W.heap.size V w4 := by
        refine (Kx.of_below hVV).trans ⟨hgrow.size, fun k o hk _ hn => ?_⟩
        refine (hgrow.block k (heap_lt' hk) (fun e => ?_)).trans hk
        obtain ⟨cs, hcs⟩ := hgs k e.symm
        have h2 := blk_below hcs hVV
        rw [hk] at h2; cases h2
        exact hn (hgb k e.symm) cs (0, 0) rfl
      have hF4 : KeepsFrom W.heap.size V w4 := by
        refine ⟨Nat.le_trans hVV.size hgrow.size, fun k o _ hk ho => ?_⟩
        refine (hgrow.block k (Nat.lt_of_lt_of_le (heap_lt' hk) hVV.size) (fun e => ?_)).trans (blk_below hk hVV)
        obtain ⟨cs, hcs⟩ := hgs k e.symm
        rw [hk] at hcs; cases hcs; cases ho
      have keep : ∀ k o, k < W.heap.size → V.heap[k]? = some o → w4.heap[k]? = some o := fun k o hk h =>
        (hgrow.block k (Nat.lt_of_lt_of_le (heap_lt' h) hVV.size) (fun e => by have := hgb k e.symm; omega)).trans (blk_below h hVV)
      have hB4 : Below w.heap.size w w4 := (HI.out.below.alloc HI.out.below.size _).grown hgrow (by have := HI.out.below.size; simp; omega) (fun k e => by have := hgb k e; omega)
      have hv4 := keep _ _ (by omega) HV.out
      have p0 := blk_cell hv4 (i := 0) (v := .slice Av pre.length cv) rfl
      have f0 := blk_free hv4
      have HOW4 : Hid (w4.ownsRow W.heap.size 2 1 v' (pre ++ [x]).length (iv (pre ++ [x]))) := by show World.ownsRow _ _ _ _ _ _ _; rw [List.length_append, iv_app]; exact hown'
      obtain ⟨A4, c4', rfl, _⟩ := Sl.of_own HOW4.out
      have HM4 := Lib.hid (keep _ _ (by omega) HI.out.m)
      have HS4 := Lib.hid (keep _ _ (by omega) HI.out.s)
      have HBB4 := Lib.hid (keep _ _ (by omega) HI.out.b)
      have HV4 := Lib.hid hv4
      have HK4 := Lib.hid hK4
      have HF4 := Lib.hid hF4
      have HB4 := Lib.hid hB4
      clear keep hv4 hK4 hF4 hB4 hgs hgb hVV hgrow hown' m0 v0
      gi_wp2
      refine ⟨HF4.out.trans ((KeepsOthers.setCell _ _ _).from _), HK4.out.trans (Kx.set hX4 _ _), ⟨?_, ?_, ?_, ⟨_, ?_, own_own' HOW4.out (by omega)⟩, ?_, HB4.out.setCell (p := ⟨w.heap.size + 4, 0, none⟩) (by simp) _⟩⟩
      · rw [Below.heap_setCell _ _ _ _ (by simp)]; exact HM4.out
      · rw [Below.heap_setCell _ _ _ _ (by simp)]; exact HS4.out
      · rw [Below.heap_setCell _ _ _ _ (by simp)]; exact HBB4.out
      · have := block_setCell HV4.out (i := 0) (.slice A4 (pre ++ [x]).length c4')
        simpa using this
      · simp; omega
  case done =>
    rintro xs V hS hI hK
    subst hS
    obtain ⟨v, hv, hown⟩ := hI.r
    obtain ⟨Av, cv, rfl, hsl⟩ := Sl.of_own hown
    have v0 := blk_cell hv (i := 0) (v := .slice Av xs.length cv) rfl
    have fs := blk_free hI.s
    have fb := blk_free hI.b
    have s0 := blk_cell hI.s (i := 0) (v := .slice none 0 0) rfl
    have b0 := blk_cell hI.b (i := 0) (v := .bool false) rfl
    have HSL := Lib.hid hsl
    have HI := Lib.hid hI
    have HK := Lib.hid hK
    have HOW := Lib.hid hown
    clear hsl hv hI hown hK
    gi_wp2
    have hD : ((V.setCell ⟨w.heap.size + 1 + 1, 0, none⟩ (.slice Av xs.length cv)).setCell ⟨w.heap.size + 1 + 1 + 1, 0, none⟩ (.bool true)).heap[W.heap.size]? = some (.deferred (some [])) := by
      rw [Below.heap_setCell _ _ _ _ (by simp; omega), Below.heap_setCell _ _ _ _ (by simp; omega)]; exact HK.out
    refine ⟨by simp, .inl ⟨_, _, rfl, run_takeDeferred hD, ?_⟩⟩
    have h2 : (((V.setCell ⟨w.heap.size + 1 + 1, 0, none⟩ (.slice Av xs.length cv)).setCell ⟨w.heap.size + 1 + 1 + 1, 0, none⟩ (.bool true)).putObj W.heap.size (.deferred none)).heap[w.heap.size + 1 + 1]? = some (.cells #[.slice Av xs.length cv] 29 (0, 0)) := by
      rw [World.putObj_heap_other (by omega), Below.heap_setCell _ _ _ _ (by simp)]
      have := block_setCell HI.out.s (i := 0) (.slice Av xs.length cv)
      simpa using this
    have h3 : (((V.setCell ⟨w.heap.size + 1 + 1, 0, none⟩ (.slice Av xs.length cv)).setCell ⟨w.heap.size + 1 + 1 + 1, 0, none⟩ (.bool true)).putObj W.heap.size (.deferred none)).heap[w.heap.size + 1 + 1 + 1]? = some (.cells #[.bool true] 4 (0, 0)) := by
      have h4 : (V.setCell ⟨w.heap.size + 1 + 1, 0, none⟩ (.slice Av xs.length cv)).heap[w.heap.size + 3]? = some (.cells #[.bool false] 4 (0, 0)) := by rw [Below.heap_setCell _ _ _ _ (by simp)]; exact HI.out.b
      rw [World.putObj_heap_other (by omega)]
      have := block_setCell h4 (i := 0) (.bool true)
      simpa using this
    have z2 := blk_cell h2 (i := 0) (v := .slice Av xs.length cv) rfl
    have z3 := blk_cell h3 (i := 0) (v := .bool true) rfl
    refine ⟨.tuple #[.slice Av xs.length cv, .bool true], by simp [results, Tryz.results67, go_sem, z2, z3], .inl ⟨HI.out.le, Av, cv, rfl, ?_⟩, ?_⟩
    · have ho := own_own' (own_own' (b := w.heap.size + 1 + 1) (u := .slice Av xs.length cv) HOW.out (by omega)) (b := w.heap.size + 1 + 1 + 1) (u := .bool true) (by omega)
      have ho2 := own_own ho (grownBy_putObj' _ W.heap.size (.deferred none)) (fun r e => by cases e; exact ⟨_, hD, rfl⟩)
      exact ⟨own_sl ho2, W.heap.size, by omega, ho2⟩
    · exact ownFrom_below (β := Unit) (w₀ := w) (Nat.le_refl _) (show w.heap.size ≤ W.heap.size by omega) () _ _ _ ((HI.out.below.setCell (p := ⟨w.heap.size + 1 + 1, 0, none⟩) (by simp; omega) _).setCell (p := ⟨w.heap.size + 1 + 1 + 1, 0, none⟩) (by simp; omega) _) (grownBy_putObj' _ W.heap.size (.deferred none)) (fun r e => by cases e; exact ⟨Nat.le_refl _, _, hD, rfl⟩)
  case stop =>
    rintro c pre V hS ⟨rfl, hx⟩ hK
    have HXX := Lib.hid hx
    have HK := Lib.hid hK
    clear hx hK
    gi_wp2
    refine ⟨by simp, .inl ⟨_, _, rfl, run_takeDeferred HK.out, ?_⟩⟩
    have h2 : (V.putObj W.heap.size (.deferred none)).heap[w.heap.size + 1 + 1]? = some (.cells #[.slice none 0 0] 29 (0, 0)) := by rw [World.putObj_heap_other (by omega)]; exact HXX.out.s
    have h3 : (V.putObj W.heap.size (.deferred none)).heap[w.heap.size + 1 + 1 + 1]? = some (.cells #[.bool false] 4 (0, 0)) := by rw [World.putObj_heap_other (by omega)]; exact HXX.out.b
    have z2 := blk_cell h2 (i := 0) (v := .slice none 0 0) rfl
    have z3 := blk_cell h3 (i := 0) (v := .bool false) rfl
    obtain ⟨q, hq⟩ := hS
    have hgt := HXX.out.gt
    refine ⟨.tuple #[.slice none 0 0, .bool false], by simp [results, Tryz.results67, go_sem, z2, z3], .inr ⟨by rw [← hq, List.length_append]; omega, rfl⟩, ?_⟩
    exact ownFrom_below (β := Unit) (w₀ := w) (Nat.le_refl _) (show w.heap.size ≤ W.heap.size by omega) () _ _ _ HXX.out.below (grownBy_putObj' _ W.heap.size (.deferred none)) (fun r e => by cases e; exact ⟨Nat.le_refl _, _, HK.out, rfl⟩)
end
end Go.Proofs.YtfjmofefciopmaaGreat
end
section
namespace Go.Proofs.YtfjmofefciopmaaGreat
open Go.ChangeShapes Go.WideShapes Go.ChangeAt Go.RowKit Go.Joins Qr Tm Cal
section
variable (r : R) (A1 A2 A3 A4 : Option Addr) (c1 c2 c3 c4 : Nat)
theorem pbetween_own (start from_ to most : Int) (hs : -9223372036854775808 ≤ start ∧ start ≤ 9223372036854775807) (hf : -9223372036854775808 ≤ from_ ∧ from_ ≤ 9223372036854775807) (ht : -9223372036854775808 ≤ to ∧ to ≤ 9223372036854775807)
    (hl : r.bm.length ≤ 10000 ∧ r.bd.length ≤ 10000 ∧ r.bw.length ≤ 10000 ∧ r.bs.length ≤ 10000) (w : World) (hr : RAt w r A1 A2 A3 A4 c1 c2 c3 c4) :
    Calls Tryz.prog 67 #[.agg (rcells r A1 A2 A3 A4 c1 c2 c3 c4), .int .i64 start, .int .i64 from_, .int .i64 to, .int .i64 most] w (RetBo (withinL r start from_ to) most w) :=
  callsIn_wide.1 (pbetween_in r A1 A2 A3 A4 c1 c2 c3 c4 9 (by omega) start from_ to most hs hf ht hl (withinL r start from_ to) rfl (by have := (within_ris r start from_ to).2; omega) w hr)
theorem pbetween_any (start from_ to most : Int) (hs : -9223372036854775808 ≤ start ∧ start ≤ 9223372036854775807) (hf : -9223372036854775808 ≤ from_ ∧ from_ ≤ 9223372036854775807) (ht : -9223372036854775808 ≤ to ∧ to ≤ 9223372036854775807)
    (hl : r.bm.length ≤ 10000 ∧ r.bd.length ≤ 10000 ∧ r.bw.length ≤ 10000 ∧ r.bs.length ≤ 10000) (w : World) (hr : RAt w r A1 A2 A3 A4 c1 c2 c3 c4) :
    Calls Tryz.prog 67 #[.agg (rcells r A1 A2 A3 A4 c1 c2 c3 c4), .int .i64 start, .int .i64 from_, .int .i64 to, .int .i64 most] w (RetBt (withinL r start from_ to) most w) :=
  (pbetween_own r A1 A2 A3 A4 c1 c2 c3 c4 start from_ to most hs hf ht hl w hr).mono fun _ _ h => h.weak
noncomputable def hasB10 (r : R) (start at_ : Int) : Bool := decide (0 ≤ at_) && decide (at_ < 158310720) && decide ((withinL r start at_ (at_ + 1)).length = 1)
set_option maxHeartbeats 1000000 in
theorem phas_any (start at_ : Int) (hs : -9223372036854775808 ≤ start ∧ start ≤ 9223372036854775807)
    (hl : r.bm.length ≤ 10000 ∧ r.bd.length ≤ 10000 ∧ r.bw.length ≤ 10000 ∧ r.bs.length ≤ 10000) (w : World) (hr : RAt w r A1 A2 A3 A4 c1 c2 c3 c4) :
    Calls Tryz.prog 75 #[.agg (rcells r A1 A2 A3 A4 c1 c2 c3 c4), .int .i64 start, .int .i64 at_] w fun e w' => e = .returned (.bool (hasB10 r start at_)) ∧ Below w.heap.size w w' := by
  obtain ⟨q, hq⟩ : ∃ q, hasB10 r start at_ = q := ⟨_, rfl⟩
  rw [hq]
  unfold hasB10 at hq
  obtain ⟨W, hW⟩ : ∃ W, w.alloc (.cells (rcells r A1 A2 A3 A4 c1 c2 c3 c4) 28) = W := ⟨_, rfl⟩
  have HW := Lib.hid hW
  have BW : Hid (Below w.heap.size w W) := by show Below _ _ _; rw [← hW]; exact (Below.refl _ w).alloc (Nat.le_refl _) _
  have q3 : W.heap[w.heap.size]? = some (.cells (rcells r A1 A2 A3 A4 c1 c2 c3 c4) 28 (0, 0)) := by rw [← hW, heap_alloc_new]
  by_cases h1 : at_ < 0
  · have E : Hid (q = false) := by
      show _ = _
      rw [← hq, show decide (0 ≤ at_) = false from decide_eq_false (by omega)]; rfl
    clear hW hq q3 hr
    unfold rcells at *
    go_enter Tryz.func75, Tryz.ntmps75
    go_upto_region 1 with fail
    rw [HW.out]
    go_wp2_with fail
    go_ret
    exact ⟨ret_bool E.out.symm, BW.out⟩
  · have h1b : decide (at_ < 0) = false := decide_eq_false h1
    by_cases h2 : 158310720 ≤ at_
    · have E : Hid (q = false) := by
        show _ = _
        rw [← hq, show decide (at_ < 158310720) = false from decide_eq_false (by omega)]; simp
      clear hW hq q3 hr
      unfold rcells at *
      go_enter Tryz.func75, Tryz.ntmps75
      go_upto_region 1 with fail
      rw [HW.out]
      go_wp2_with fail
      go_ret
      exact ⟨ret_bool E.out.symm, BW.out⟩
    · have h2b : decide (158310720 ≤ at_) = false := decide_eq_false h2
      have hE : q = decide ((withinL r start at_ (at_ + 1)).length = 1) := by
        rw [← hq, show decide (0 ≤ at_) = true from decide_eq_true (by omega), show decide (at_ < 158310720) = true from decide_eq_true (by omega)]; rfl
      have HB := Lib.hid (pbetween_any r A1 A2 A3 A4 c1 c2 c3 c4 start at_ (at_ + 1) 1 hs (by omega) (by omega) hl W (hr.below BW.out (Nat.le_refl _)))
      generalize withinL r start at_ (at_ + 1) = T at *
      have hw1 : IntKind.i64.wrap (at_ + 1) = at_ + 1 := by rw [IntKind.wrap_i64]; omega
      have HQ := Lib.hid hE
      clear hW hq hr hE
      unfold rcells at *
      have k0 := blk_cell q3 (i := 0) rfl
      have k1 := blk_cell q3 (i := 1) rfl
      have k2 := blk_cell q3 (i := 2) rfl
      have k3 := blk_cell q3 (i := 3) rfl
      have k4 := blk_cell q3 (i := 4) rfl
      have k5 := blk_cell q3 (i := 5) rfl
      have k6 := blk_cell q3 (i := 6) rfl
      have k7 := blk_cell q3 (i := 7) rfl
      have k8 := blk_cell q3 (i := 8) rfl
      clear q3
      go_enter Tryz.func75, Tryz.ntmps75
      go_upto_region 1 with fail
      rw [HW.out]
      go_wp2_with fail
      go_at_call 67
      refine HB.out.mono ?_
      rintro e w2 ⟨h, hb⟩
      have HX := Lib.hid (BW.out.trans (hb.mono BW.out.size))
      clear hb k0 k1 k2 k3 k4 k5 k6 k7 k8
      rcases h with ⟨hle, A, c, rfl, hsl⟩ | ⟨hgt, rfl⟩
      · have hll : T.length ≤ 9223372036854775807 := Nat.le_trans hsl.le hsl.cap
        clear hsl hle
        by_cases h3 : T.length = 1
        · have E : Hid (q = true) := by show _ = _; rw [HQ.out, decide_eq_true h3]
          have h3b : ((T.length : Int) == 1) = true := beq_iff_eq.2 (by omega)
          clear HQ h3
          go_wp2_with fail
          go_ret
          exact ⟨ret_bool E.out.symm, HX.out⟩
        · have E : Hid (q = false) := by show _ = _; rw [HQ.out, decide_eq_false h3]
          have h3b : ((T.length : Int) == 1) = false := beq_false_of_ne (by omega)
          clear HQ h3
          go_wp2_with fail
          go_ret
          exact ⟨ret_bool E.out.symm, HX.out⟩
      · have E : Hid (q = false) := by show _ = _; rw [HQ.out, decide_eq_false (by omega)]
        clear HQ hgt
        go_wp2_with fail
        go_ret
        exact ⟨ret_bool E.out.symm, HX.out⟩
end
end Go.Proofs.YtfjmofefciopmaaGreat
end
