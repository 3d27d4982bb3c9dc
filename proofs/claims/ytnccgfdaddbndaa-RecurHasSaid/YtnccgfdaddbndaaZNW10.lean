import Derived.Test.YtnccgfdaddbndaaZNW9
/- Contract of the program's times: the stamps are handed out one by one. -/
section
namespace Go.Proofs.Ytnccgfdaddbndaa
open Go.ChangeShapes Go.WideShapes Go.ChangeAt Go.RowKit Go.Joins Go.Shelf Qr Tm Cal

attribute [local go_sem] Oper.semAt_some

/-- Stamps of days. -/
def sts (start : Int) (l : List (Fin 109938)) : List Int := (dvs l).map (stampOf start)
theorem sts_snoc (start : Int) (l : List (Fin 109938)) (x : Fin 109938) : sts start (l ++ [x]) = sts start l ++ [stampOf start (x.val : Int)] := by unfold sts; rw [dvs_snoc, List.map_append]; rfl
theorem sts_len (start : Int) (l : List (Fin 109938)) : (sts start l).length = l.length := by unfold sts; rw [List.length_map, dvs_len]
theorem heap_own {W W' : World} {b : Nat} {o : Obj} {row : Option Nat} (h : W.heap[b]? = some o) (ho : o.isCells = true) (hg : W.grownBy W' row) (hr : ∀ r, row = some r → ∃ o : Obj, W.heap[r]? = some o ∧ o.isCells = false) : W'.heap[b]? = some o :=
  (hg.block b (heap_lt' h) (fun e => by obtain ⟨o', h1, h2⟩ := hr b e.symm; rw [h] at h1; cases h1; rw [ho] at h2; cases h2)).trans h
theorem keeps_of_kx {X : Nat → Prop} {M0 B : Nat} {W W' : World} (h : Kx X M0 W W') (hX : ∀ k, B ≤ k → ¬ X k) : KeepsFrom B W W' :=
  ⟨h.size, fun k o hB hk ho => h.same k o hk (hX k hB) (fun _ cs fr e => by subst e; cases ho)⟩

section
variable (r : R) (A1 A2 A3 A4 : Option Addr) (c1 c2 c3 c4 : Nat)
set_option maxRecDepth 100000 in
set_option maxHeartbeats 4000000 in
theorem pwithin2_in (n l M Lo M0 b1 b2 b3 b4 sn fn : Nat) (X : Nat → Prop) (start last : Int) (T : List Int) (ho : Okr r) (hct : 0 ≤ r.count) (hs : sn ≤ 109937) (hsf : sn ≤ fn) (hf : fn ≤ 109938) (hl : 0 ≤ last ∧ last ≤ 109938) (hn : 1 ≤ n)
    (hb2 : r.bd.length ≤ 10000) (hp2 : r.bd.Pairwise (· ≤ ·)) (hb4 : r.bs.length ≤ 10000) (hp4 : r.bs.Pairwise (· ≤ ·)) (hT : (daysL r (dt sn) fn last).map (stampOf start) = T)
    (hXr : ∀ k, Lo ≤ k → k < M0 → ¬ X k) (hXM : ∀ k, M ≤ k → ¬ X k) (hLo : Lo ≤ b4 ∧ b4 < M0 ∧ M0 ≤ M)
    (J Jx : List Int → World → Prop) (hJ : OwnFrom M J) (hJx : OwnFrom M Jx)
    (hY : ∀ pre x W, J pre W → pre.length < T.length → YieldAt Fence.wide (n - 1) Try.prog l #[.int .i64 x] W fun e W' =>
      (e = .returned (.bool true) ∧ J (pre ++ [x]) W' ∧ Kx X M0 W W') ∨ (e = .returned (.bool false) ∧ Jx (pre ++ [x]) W' ∧ Kx X M0 W W'))
    (W : World) (hM : W.heap.size = M) (hC : CIn W Lo M0 r A1 A2 A3 A4 c1 c2 c3 c4 sn fn last b1 b2 b3) (hmin : W.heap[b4]? = some (.cells #[.int .i64 (start % 1440)] 2 (0, 0))) (hJ0 : J [] W) :
    CallsIn Fence.wide n Try.prog 31 #[.func (.yield l) #[] #[], .pointer (some ⟨b3, 0, none⟩), .pointer (some ⟨b1, 0, none⟩), .pointer (some ⟨b2, 0, none⟩), .pointer (some ⟨b4, 0, none⟩)] W fun e W' => (∃ v, e = .returned v) ∧
      ((∃ ys, ys = T ∧ J ys W') ∨ (∃ pre, pre <+: T ∧ Jx pre W')) := by
  subst hM
  refine callsIn_of_wp_marks Try.func31 rfl trivial ?_ rfl
  simp only [Try.ntmps31, List.size_toArray, List.length_cons, List.length_nil, Nat.reduceAdd, Nat.reduceSub, Array.replicate_succ, Array.replicate_zero, List.push_toArray, List.append_toArray, List.nil_append, List.cons_append]
  obtain ⟨W1, hW1⟩ : ∃ W1, W.alloc (.cells #[.func (.yield l) #[] #[]] 59) = W1 := ⟨_, rfl⟩
  have hB1 : Below W.heap.size W W1 := by rw [← hW1]; exact (Below.refl _ W).alloc (Nat.le_refl _) _
  have hsz1 : W1.heap.size = W.heap.size + 1 := by rw [← hW1]; simp
  have hC1 := hC.below hB1
  have hy1 : W1.heap[W.heap.size]? = some (.cells #[.func (.yield l) #[] #[]] 59 (0, 0)) := by rw [← hW1, heap_alloc_new]
  have q3 := hC1.x3
  unfold ccells at q3
  have k0 := blk_cell q3 (i := 0) rfl
  have k1 := blk_cell q3 (i := 1) rfl
  have k2 := blk_cell q3 (i := 2) rfl
  have k3 := blk_cell q3 (i := 3) rfl
  have k4 := blk_cell q3 (i := 4) rfl
  have k5 := blk_cell q3 (i := 5) rfl
  have k6 := blk_cell q3 (i := 6) rfl
  have k7 := blk_cell q3 (i := 7) rfl
  have k8 := blk_cell q3 (i := 8) rfl
  have k9 := blk_cell q3 (i := 9) rfl
  have x1 := blk_cell hC1.x1 (i := 0) (v := .int .i64 fn) rfl
  have x2 := blk_cell hC1.x2 (i := 0) (v := .int .i64 last) rfl
  have HDF := Lib.hid (pdaysf_any r A1 A2 A3 A4 c1 c2 c3 c4 sn fn last W1)
  have hmin1 : W1.heap[b4]? = some (.cells #[.int .i64 (start % 1440)] 2 (0, 0)) := blk_below hmin hB1
  have HC1 := Lib.hid hC1
  have HY1 := Lib.hid hy1
  have HM1 := Lib.hid hmin1
  have HB1 := Lib.hid hB1
  have HS1 := Lib.hid hsz1
  clear q3 hC1 hy1 hmin1 hB1 hsz1 hmin
  subst hW1
  unfold ccells at HDF
  gi_wp2_with fail
  first | refine ⟨trivial, fun h => (by cases h), (callsIn_wide.2 HDF.out).mono ?_⟩ | refine ⟨trivial, (callsIn_wide.2 HDF.out).mono ?_⟩
  rintro e w' ⟨rfl, rfl⟩
  clear k0 k1 k2 k3 k4 k5 k6 k7 k8 k9 x1 x2 HDF
  rw [HS1.out]
  obtain ⟨W2, hW2⟩ : ∃ W2, dlay (W.alloc (.cells #[.func (.yield l) #[] #[]] 59)) #[.int .i64 r.freq, .int .i64 r.iv, .int .i64 r.count, .int .i64 r.until_, .slice A1 r.bm.length c1, .slice A2 r.bd.length c2, .slice A3 r.bw.length c3, .slice A4 r.bs.length c4, .int .i64 r.start, .int .i64 sn] fn last = W2 := ⟨_, rfl⟩
  have HB2 : Hid (Below W.heap.size W W2) := by
    show Below _ _ _; rw [← hW2]; unfold dlay
    exact ((HB1.out.alloc (by have := HS1.out; omega) _).alloc (by have := HS1.out; simp; omega) _).alloc (by have := HS1.out; simp; omega) _
  have hsz2 : W2.heap.size = W.heap.size + 4 := by rw [← hW2]; unfold dlay; have := HS1.out; simp
  have HYB : Hid (W2.heap[W.heap.size]? = some (.cells #[.func (.yield l) #[] #[]] 59 (0, 0))) := by
    show _ = _; rw [← hW2]; unfold dlay
    have hlt := heap_lt' HY1.out
    rw [heap_alloc_old _ _ (by simp at hlt ⊢; omega), heap_alloc_old _ _ (by simp at hlt ⊢; omega), heap_alloc_old _ _ hlt]; exact HY1.out
  have HMB : Hid (W2.heap[b4]? = some (.cells #[.int .i64 (start % 1440)] 2 (0, 0))) := by
    show _ = _
    have hlt := heap_lt' HM1.out
    rw [← hW2]; unfold dlay
    rw [heap_alloc_old _ _ (by simp at hlt ⊢; omega), heap_alloc_old _ _ (by simp at hlt ⊢; omega), heap_alloc_old _ _ hlt]; exact HM1.out
  have HC2 : Hid (CIn W2 Lo M0 r A1 A2 A3 A4 c1 c2 c3 c4 sn fn last (W.heap.size + 2) (W.heap.size + 3) (W.heap.size + 1)) := by
    have h := HC1.out.below (W' := W2) (by rw [← hW2]; unfold dlay; exact (((Below.refl _ _).alloc (Nat.le_refl _) _).alloc (by simp) _).alloc (by simp) _)
    refine ⟨?_, ?_, ?_, h.rows, h.top⟩
    · rw [← hW2]; unfold dlay; rw [heap_alloc_old _ _ (by simp)]
      have := heap_alloc_new2 (W.alloc (.cells #[.func (.yield l) #[] #[]] 59)) (.cells (ccells r A1 A2 A3 A4 c1 c2 c3 c4 sn) 61) (.cells #[.int .i64 fn] 3)
      rw [HS1.out] at this; exact this
    · rw [← hW2]; unfold dlay
      have := heap_alloc_new3 (W.alloc (.cells #[.func (.yield l) #[] #[]] 59)) (.cells (ccells r A1 A2 A3 A4 c1 c2 c3 c4 sn) 61) (.cells #[.int .i64 fn] 3) (.cells #[.int .i64 last] 3)
      rw [HS1.out] at this; exact this
    · rw [← hW2]; unfold dlay
      rw [heap_alloc_old _ _ (by simp), heap_alloc_old _ _ (by simp)]
      have := heap_alloc_new (W.alloc (.cells #[.func (.yield l) #[] #[]] 59)) (.cells (ccells r A1 A2 A3 A4 c1 c2 c3 c4 sn) 61)
      rw [HS1.out] at this; exact this
  rw [hW2]
  clear hW2 HC1 HY1 HM1 HB1
  rw [show W.heap.size + 1 + 1 = W.heap.size + 2 from rfl, show W.heap.size + 1 + 2 = W.heap.size + 3 from rfl]
  obtain ⟨D, hD⟩ : ∃ D, daysL r (dt sn) fn last = D := ⟨_, rfl⟩
  rw [hD] at hT
  have hTl : T.length = D.length := by rw [← hT, List.length_map]
  have HT := Lib.hid hT
  have HJ := Lib.hid hJ
  have HJx := Lib.hid hJx
  have HJ0 := Lib.hid (own_grow hJ hJ0 HB2.out)
  have HY := Lib.hid hY
  clear hJ hJx hJ0 hY hC hT
  gi_wp2
  refine wp_rangeO (F := Fence.wide) rfl hn (gf := 48) (lb := #[.pointer (some ⟨W.heap.size + 2, 0, none⟩), .pointer (some ⟨W.heap.size + 3, 0, none⟩), .pointer (some ⟨W.heap.size + 1, 0, none⟩)]) rfl trivial (enters_of Try.func48 (by kernel_rfl) rfl)
    (encs := fun x : Fin 109938 => #[.int .i64 (x.val : Int)]) (Kp := Kx (fun k => X k ∨ k = W2.heap.size + 1) M0) (S := fun ys => dvs ys = D) (Sp := fun pre => dvs pre <+: D) (N := D.length) (w0 := W2) ?hseq (fun h k => h.trans k) (fun V o => Kx.put (.inr rfl) V o) (Below.refl _ _) (fun _ => rfl)
    (fun pre V => J (sts start pre) V ∧ V.heap[W.heap.size]? = some (.cells #[.func (.yield l) #[] #[]] 59 (0, 0)) ∧ V.heap[b4]? = some (.cells #[.int .i64 (start % 1440)] 2 (0, 0)))
    (fun c pre V => c = .ret ∧ Jx (sts start pre) V)
    (fun s X Y row hs hg hr => ⟨(ownFrom_more HJ.out (B' := W2.heap.size) (by omega)) (sts start s) X Y row hs.1 hg hr, heap_own hs.2.1 rfl hg (fun r e => (hr r e).2), heap_own hs.2.2 rfl hg (fun r e => (hr r e).2)⟩)
    (fun c s X Y row hs hg hr => ⟨hs.1, (ownFrom_more HJx.out (B' := W2.heap.size) (by omega)) (sts start s) X Y row hs.2 hg hr⟩)
    ⟨HJ0.out, HYB.out, HMB.out⟩
    (fun x => { tmps := #[.func (.yield l) #[] #[], .pointer (some ⟨b3, 0, none⟩), .pointer (some ⟨b1, 0, none⟩), .pointer (some ⟨b2, 0, none⟩), .pointer (some ⟨b4, 0, none⟩), .pointer (some ⟨W.heap.size, 0, none⟩), .int .i64 (x.val : Int), .agg #[.int .i64 r.freq, .int .i64 r.iv, .int .i64 r.count, .int .i64 r.until_, .slice A1 r.bm.length c1, .slice A2 r.bd.length c2, .slice A3 r.bw.length c3, .slice A4 r.bs.length c4, .int .i64 r.start, .int .i64 sn], .int .i64 fn, .int .i64 last,
      .func (.func 48) #[] #[.pointer (some ⟨W.heap.size + 2, 0, none⟩), .pointer (some ⟨W.heap.size + 3, 0, none⟩), .pointer (some ⟨W.heap.size + 1, 0, none⟩)], .int .i64 (x.val : Int), undef, undef, undef, undef, undef, undef, undef], defers := [] })
    ?assign ?body ?done ?stop
  case hseq =>
    intro l2 J2 Jx2 V hl2 hV hbV hJ2 hJx2 hY2 h0
    refine (pdays1_in r A1 A2 A3 A4 c1 c2 c3 c4 (n - 1) l2 (W2.heap.size + 2) Lo M0 (W.heap.size + 2) (W.heap.size + 3) (W.heap.size + 1) sn fn (fun k => X k ∨ k = W2.heap.size + 1) last D ho hct hs hsf hf hl hb2 hp2 hb4 hp4 hD
      (fun h => h.elim (hXM _ (by omega)) (fun h => by omega)) (fun h => h.elim (hXM _ (by omega)) (fun h => by omega)) (fun h => h.elim (hXM _ (by omega)) (fun h => by omega))
      (fun k h1 h2 h => h.elim (hXr k h1 h2) (fun h => by omega)) (fun k h1 h => h.elim (hXM _ (by omega)) (fun h => by omega))
      J2 Jx2 hJ2 (fun pre x W' h hlen => ?_) V (by omega) (HC2.out.below hbV) h0).mono ?_
    · obtain ⟨fn', tmps, assign, body, hy, hR⟩ := hY2 pre x W' h hlen
      exact ⟨fn', tmps, assign, body, hy, hR.mono fun e W3 h => h.imp_right fun ⟨a, b, _⟩ => ⟨a, b⟩⟩
    · rintro e W3 ⟨he, h⟩
      exact ⟨he, h⟩
  case assign =>
    intro l2 x V K hK
    gi_wp2
    exact hK
  case body =>
    rintro pre x V hsz ⟨hJv, hyb, hmb⟩ hlen
    have y0 := blk_cell hyb (i := 0) (v := .func (.yield l) #[] #[]) rfl
    have m0 := blk_cell hmb (i := 0) (v := .int .i64 (start % 1440)) rfl
    have hxv := x.isLt
    have w1 : IntKind.i64.wrap ((x.val : Int) * 1440) = (x.val : Int) * 1440 := by rw [IntKind.wrap_i64]; omega
    have w2 : IntKind.i64.wrap ((x.val : Int) * 1440 + start % 1440) = (x.val : Int) * 1440 + start % 1440 := by rw [IntKind.wrap_i64]; omega
    obtain ⟨fn', tmps, assign, body, hy, hR⟩ := HY.out (sts start pre) (stampOf start (x.val : Int)) V hJv (by rw [sts_len]; omega)
    unfold stampOf at hy
    gi_wp2_with fail
    first | refine ⟨fun h => (by cases h), (round_wide hR).mono ?_⟩ | refine (round_wide hR).mono ?_
    rintro e W3 (⟨rfl, hJ3, hk3⟩ | ⟨rfl, hJx3, hk3⟩)
    · gi_wp2_with fail
      refine ⟨keeps_of_kx hk3 (fun k h => hXM k (by omega)), hk3.mono (fun k h => .inl h), ?_, hk3.cell hyb (hXM _ (Nat.le_refl _)) (by decide), hk3.same _ _ hmb (hXr _ hLo.1 hLo.2.1) (fun h => by omega)⟩
      rw [sts_snoc]; exact hJ3
    · gi_wp2_with fail
      refine ⟨keeps_of_kx hk3 (fun k h => hXM k (by omega)), hk3.mono (fun k h => .inl h), rfl, ?_⟩
      rw [sts_snoc]; exact hJx3
  case done =>
    rintro xs V hS ⟨hJv, _, _⟩ hK
    gi_wp2
    refine ⟨by simp, .inl ⟨_, _, rfl, run_takeDeferred hK, ?_⟩⟩
    refine ⟨_, results_none rfl _ _ _, ⟨_, rfl⟩, .inl ⟨_, ?_, HJ.out.putObj _ hJv (by omega) hK rfl⟩⟩
    unfold sts; rw [hS]; exact HT.out
  case stop =>
    rintro c pre V hS ⟨rfl, hJv⟩ hK
    gi_wp2
    refine ⟨by simp, .inl ⟨_, _, rfl, run_takeDeferred hK, ?_⟩⟩
    refine ⟨_, results_none rfl _ _ _, ⟨_, rfl⟩, .inr ⟨_, ?_, HJx.out.putObj _ hJv (by omega) hK rfl⟩⟩
    obtain ⟨q, hq⟩ := hS
    exact ⟨q.map (stampOf start), by rw [← HT.out, ← hq, List.map_append]; rfl⟩
end
end Go.Proofs.Ytnccgfdaddbndaa
end
