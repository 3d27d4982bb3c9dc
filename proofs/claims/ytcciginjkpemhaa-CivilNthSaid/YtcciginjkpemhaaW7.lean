/- Contracts: the n-th such weekday of a month, the document's. -/
import Derived.Test.YtcciginjkpemhaaW4
import Derived.Test.YtcciginjkpemhaaMath2
import Derived.Test.YtcciginjkpemhaaKit2
import Derived.Lib.Hide
namespace Go.Proofs.Ytcciginjkpemhaa
open Go.ChangeShapes Go.WideShapes Go.ChangeAt Go.RowKit Cal

/-- The cells of a row of dates of one month. -/
def dcells (y m : Int) (l : List Int) : List Value := l.flatMap fun d => [.int .i64 y, .int .i64 m, .int .i64 d]
theorem dcells_snoc (y m : Int) (l : List Int) (d : Int) : dcells y m (l ++ [d]) = dcells y m l ++ [.int .i64 y, .int .i64 m, .int .i64 d] := by simp [dcells]
theorem dcells_len (y m : Int) (l : List Int) : (dcells y m l).length = l.length * 3 := by
  induction l with
  | nil => rfl
  | cons a l ih => simp only [dcells, List.flatMap_cons, List.length_append, List.length_cons, List.length_nil] at *; omega
theorem dcells_at (y m : Int) (l : List Int) (i : Nat) (d : Int) (h : l[i]? = some d) :
    (dcells y m l)[i * 3]? = some (.int .i64 y) ∧ (dcells y m l)[i * 3 + 1]? = some (.int .i64 m) ∧ (dcells y m l)[i * 3 + 2]? = some (.int .i64 d) := by
  induction l generalizing i with
  | nil => simp at h
  | cons a l ih =>
    cases i with
    | zero => simp at h; subst h; exact ⟨rfl, rfl, rfl⟩
    | succ i =>
      have := ih i (by simpa using h)
      have e : dcells y m (a :: l) = [.int .i64 y, .int .i64 m, .int .i64 a] ++ dcells y m l := by simp [dcells]
      rw [e, List.getElem?_append_right (by simp; omega), List.getElem?_append_right (by simp; omega), List.getElem?_append_right (by simp; omega)]
      simp only [List.length_cons, List.length_nil]
      rw [show (i + 1) * 3 - (0 + 1 + 1 + 1) = i * 3 from by omega, show (i + 1) * 3 + 1 - (0 + 1 + 1 + 1) = i * 3 + 1 from by omega, show (i + 1) * 3 + 2 - (0 + 1 + 1 + 1) = i * 3 + 2 from by omega]
      exact this

theorem ownsRow_below {w w' : World} {base : Nat} {e : TypeId} {size : Nat} {v : Value} {n : Nat} {xs : List Value} (h : w.ownsRow base e size v n xs) (hb : Below w.heap.size w w') : w'.ownsRow base e size v n xs := by
  obtain ⟨hl, h | ⟨g, cap, cur, hv, hg, hc, r⟩⟩ := h
  · exact ⟨hl, .inl h⟩
  · refine ⟨hl, .inr ⟨g, cap, cur, hv, hg, ?_, r⟩⟩
    have : g < w.heap.size := by
      rcases Nat.lt_or_ge g w.heap.size with h | h
      · exact h
      · rw [Array.getElem?_eq_none h] at hc; cases hc
    rw [hb.block g this]; exact hc

/-- What the document's call hands back. -/
def rnthV (y m wd n : Int) : Value :=
  if mayP y m 1 ∧ 0 ≤ wd ∧ wd ≤ 6 ∧ -5 ≤ n ∧ n ≤ 5 ∧ nthP (numI y m 1) (lenI y m) wd n then .tuple #[.agg #[.int .i64 y, .int .i64 m, .int .i64 (nthI (numI y m 1) (lenI y m) wd n)], .bool true]
  else .tuple #[.agg #[.int .i64 0, .int .i64 0, .int .i64 0], .bool false]

theorem rnth_ends (y m wd n : Int) (k : Nat) (hk : (k : Int) = lenI y m) (h1 : 1900 ≤ y) (h2 : y ≤ 2200) (h3 : 0 ≤ wd) (h4 : wd ≤ 6) :
    (1 ≤ n → n ≤ (days (numI y m 1) wd k).length → rnthV y m wd n = .tuple #[.agg #[.int .i64 y, .int .i64 m, .int .i64 (nthI (numI y m 1) (lenI y m) wd n)], .bool true] ∧ (days (numI y m 1) wd k)[(n - 1).toNat]? = some (nthI (numI y m 1) (lenI y m) wd n)) ∧
    (n ≤ -1 → -((days (numI y m 1) wd k).length : Int) ≤ n → rnthV y m wd n = .tuple #[.agg #[.int .i64 y, .int .i64 m, .int .i64 (nthI (numI y m 1) (lenI y m) wd n)], .bool true] ∧ (days (numI y m 1) wd k)[((days (numI y m 1) wd k).length + n).toNat]? = some (nthI (numI y m 1) (lenI y m) wd n)) ∧
    ((n < 1 ∨ ((days (numI y m 1) wd k).length : Int) < n) → (-1 < n ∨ n < -((days (numI y m 1) wd k).length : Int)) → rnthV y m wd n = .tuple #[.agg #[.int .i64 0, .int .i64 0, .int .i64 0], .bool false]) := by
  have hl := len_bd y m
  by_cases hm : 1 ≤ m ∧ m ≤ 12
  · have hp := len_pos y m hm.1 hm.2
    have hM : mayP y m 1 := ⟨h1, h2, by omega, by omega⟩
    have hn := nth_days (numI y m 1) wd (lenI y m) n h3 h4 hp hl.2
    rw [show (lenI y m).toNat = k from by omega] at hn
    unfold rnthV
    refine ⟨fun a b => ?_, fun a b => ?_, fun a b => ?_⟩
    · have := hn.1 a b
      exact ⟨if_pos ⟨hM, h3, h4, this.1, this.2.1, this.2.2.1⟩, this.2.2.2⟩
    · have := hn.2.1 a b
      exact ⟨if_pos ⟨hM, h3, h4, this.1, this.2.1, this.2.2.1⟩, this.2.2.2⟩
    · have := hn.2.2 a b
      exact if_neg fun c => this ⟨c.2.2.2.1, c.2.2.2.2.1, c.2.2.2.2.2⟩
  · have h0 : lenI y m = 0 := len_no y m (by omega)
    obtain rfl : k = 0 := by omega
    refine ⟨fun a b => ?_, fun a b => ?_, fun _ _ => ?_⟩
    · simp [days] at b; omega
    · simp [days] at b; omega
    · exact if_neg fun c => hm (may_month c.1)

theorem rnth_below {w wr : World} {o o2 o3 : Obj} (hB : Below (w.heap.size + 2) (((w.alloc o).alloc o2).alloc o3) wr) (g1 : Gr wr) (hs : w.heap.size + 3 ≤ wr.heap.size) {x y z : Value} {a b c : Nat} :
    Below w.heap.size w (((g1.val.setCell ⟨w.heap.size, a, none⟩ x).setCell ⟨w.heap.size, b, none⟩ y).setCell ⟨w.heap.size, c, none⟩ z) := by
  have h0 : Below w.heap.size w (((w.alloc o).alloc o2).alloc o3) := (((Below.refl _ _).alloc (Nat.le_refl _) _).alloc (by simp) _).alloc (by simp; omega) _
  have h1 : Below w.heap.size w g1.val := (h0.trans (hB.mono (by omega))).trans (g1.ok.mono (by omega))
  exact ((h1.setCell (p := ⟨w.heap.size, a, none⟩) (Nat.le_refl _) _).setCell (p := ⟨w.heap.size, b, none⟩) (Nat.le_refl _) _).setCell (p := ⟨w.heap.size, c, none⟩) (Nat.le_refl _) _

theorem Try.info23 : (Try.prog.info? 23).map (fun i => (i.zero, i.size, i.bytes)) = some (some (.agg #[.int .i64 0, .int .i64 0, .int .i64 0]), 3, 24) := by kernel_rfl

set_option maxRecDepth 100000 in
set_option maxHeartbeats 4000000 in
theorem rnth_any (y m wd n : Int) (w : World) (h1 : 1900 ≤ y) (h2 : y ≤ 2200) (h3 : 0 ≤ wd) (h4 : wd ≤ 6) :
    Calls Try.prog 24 #[.int .i64 y, .int .i64 m, .int .i64 wd, .int .i64 n] w fun e w' => e = .returned (rnthV y m wd n) ∧ Below w.heap.size w w' := by
  have f0 : decide (y < 1900) = false := by simp; omega
  have f1 : decide (2200 < y) = false := by simp; omega
  have f2 : decide (wd < 0) = false := by simp; omega
  have f3 : decide (6 < wd) = false := by simp; omega
  obtain ⟨i0, hi, hz0, hz1, hz2⟩ := info_parts Try.info23
  have hl := len_bd y m
  have BIG : Hid (w.heap.size + 2 ≤ w.heap.size + 2) := Nat.le_refl _
  go_enter Try.func24, Try.ntmps24
  go_wp2_with fail
  go_loopw [11, 12] (fun v i wr => ∃ k : Nat, (k : Int) ≤ lenI y m ∧ i = .int .i64 (k + 1) ∧ wr.ownsRow (w.heap.size + 2) 23 3 v (days (numI y m 1) wd k).length (dcells y m (days (numI y m 1) wd k)) ∧
      Below (w.heap.size + 2) (((w.alloc (.cells #[.int .i64 0, .int .i64 0, .int .i64 0] 23)).alloc (.cells #[.int .i64 0, .int .i64 0, .int .i64 0] 23)).alloc (.cells #[] 23)) wr ∧ w.heap.size + 3 ≤ wr.heap.size) (fun _ i _ => (32 - intOf i).toNat)
  case atStart =>
    refine ⟨0, by omega, rfl, ?_, Below.refl _ _, by simp⟩
    have := World.ownsRow_made (base := w.heap.size + 2) (e := 23) (size := 3) ((w.alloc (.cells #[.int .i64 0, .int .i64 0, .int .i64 0] 23)).alloc (.cells #[.int .i64 0, .int .i64 0, .int .i64 0] 23)) #[] 0 (by simp) (by unfold maxLen; omega) (by simp)
    simpa [days, dcells] using this
  case round =>
    obtain ⟨k, hk, rfl, hown, hB, hsz⟩ := hrel
    by_cases hlt : (k : Int) < lenI y m
    · have H : Hid (mayP y m (k + 1)) := ⟨h1, h2, by omega, by omega⟩
      have hN : numI y m (k + 1) = numI y m 1 + k := by unfold numI; omega
      have hnb := num_bd H.out
      by_cases hmatch : (numI y m 1 + (k : Int)) % 7 = wd
      · have HB := Lib.hid hB
        clear hB
        have hw1 : (numI y m (↑k + 1) % 7 == wd) = true := by simp only [beq_iff_eq]; rw [hN]; exact hmatch
        have HN := Lib.hid hN
        have HM := Lib.hid hmatch
        clear hN hmatch
        go_wp2_with (first
          | (go_at_call 22; (with_reducible refine (rlength_any _ _ _).mono ?_); rintro e w1 ⟨rfl, hb1⟩; have hown1 := ownsRow_below hown hb1; have hs1 := hb1.size; have HB1 := Lib.hid hb1; clear hb1 hown)
          | (go_at_call 11; (with_reducible refine (rnumber_yes y m (↑k + 1) _ H.out).mono ?_); rintro e w2 ⟨rfl, hb2⟩; obtain ⟨g2, rfl⟩ := Gr.of hb2; clear hb2; have hown2 := ownsRow_below (hown1.alloc _) g2.ok; obtain ⟨hc0, hc1, hc2, -⟩ := Gr.lay3 w1 (.int .i64 y) (.int .i64 m) (.int .i64 (↑k + 1)) 23)
          | (at_builtin; refine wpList_append_own _ rfl _ _ 41 rfl (w.heap.size + 2) 23 i0 (.agg #[.int .i64 0, .int .i64 0, .int .i64 0]) 3 24 Try.underlying41 hi hz0 hz1 hz2 rfl (by decide) _ _ _ rfl (hown2.alloc _) ⟨g2.val.heap.size, 0, none⟩ 1 1 [.int .i64 y, .int .i64 m, .int .i64 (↑k + 1)] rfl rfl ?c1 ?c2 ?c3 ?c4 ?c5 ?_))
        case c1 =>
          intro j u hj
          match j, hj with
          | 0, hj => simp at hj; subst hj; simp [Addr.add, go_sem]
          | 1, hj => simp at hj; subst hj; simp [Addr.add, go_sem]
          | 2, hj => simp at hj; subst hj; simp [Addr.add, go_sem]
        case c2 => intro u hu; simp at hu; rcases hu with rfl | rfl | rfl <;> rfl
        case c3 => have := days_len (numI y m 1) wd k; unfold maxLen; omega
        case c4 => have := days_len (numI y m 1) wd k; omega
        case c5 => have := g2.size; simp at this ⊢; omega
        intro v' w3 hown3 hg3 _
        have hS : (days (numI y m 1) wd (k + 1)) = days (numI y m 1) wd k ++ [(k : Int) + 1] := by simp only [days]; rw [if_pos HM.out]
        have R1 : w3.ownsRow (w.heap.size + 2) 23 3 v' (days (numI y m 1) wd (k + 1)).length (dcells y m (days (numI y m 1) wd (k + 1))) := by
          rw [hS, dcells_snoc]; simpa using hown3
        have hB2 : Below (w.heap.size + 2) (((w.alloc (.cells #[.int .i64 0, .int .i64 0, .int .i64 0] 23)).alloc (.cells #[.int .i64 0, .int .i64 0, .int .i64 0] 23)).alloc (.cells #[] 23)) (g2.val.alloc (.cells #[.int .i64 y, .int .i64 m, .int .i64 (↑k + 1)] 23)) := by
          have a1 := HB.out.trans (HB1.out.mono (by omega))
          have a2 := a1.alloc (by omega) (.cells #[.int .i64 y, .int .i64 m, .int .i64 (↑k + 1)] 23)
          have a3 := a2.trans (g2.ok.mono (by simp; omega))
          have := g2.size
          simp at this
          exact a3.alloc (by omega) _
        have hlt2 := (hown2.alloc (.cells #[.int .i64 y, .int .i64 m, .int .i64 (↑k + 1)] 23)).lt
        have R2 := hB2.grown hg3 (by have := g2.size; simp at this ⊢; omega) (fun q hq => (hlt2 q hq).1)
        have R3 : w.heap.size + 3 ≤ w3.heap.size := by have := hg3.size; have := g2.size; simp at *; omega
        clear hown3 hg3 hown1 hown2 hB2 hlt2 HB HB1 hS hc0 hc1 hc2
        go_wp2
        go_roundw
        case rel => exact ⟨k + 1, by omega, by simp, R1, R2, R3⟩
        case measure => simp [intOf]; omega
      · have HB := Lib.hid hB
        clear hB
        have hw1 : (numI y m (↑k + 1) % 7 == wd) = false := by simp only [beq_eq_false_iff_ne]; rw [hN]; exact hmatch
        have HM := Lib.hid hmatch
        clear hN hmatch
        go_wp2_with (first
          | (go_at_call 22; (with_reducible refine (rlength_any _ _ _).mono ?_); rintro e w1 ⟨rfl, hb1⟩; have hown1 := ownsRow_below hown hb1; have hs1 := hb1.size; have HB1 := Lib.hid hb1; clear hb1 hown)
          | (go_at_call 11; (with_reducible refine (rnumber_yes y m (↑k + 1) _ H.out).mono ?_); rintro e w2 ⟨rfl, hb2⟩; obtain ⟨g2, rfl⟩ := Gr.of hb2; clear hb2; have hown2 := ownsRow_below (hown1.alloc _) g2.ok; obtain ⟨hc0, hc1, hc2, -⟩ := Gr.lay3 w1 (.int .i64 y) (.int .i64 m) (.int .i64 (↑k + 1)) 23))
        have hS : (days (numI y m 1) wd (k + 1)) = days (numI y m 1) wd k := by simp only [days]; rw [if_neg HM.out]
        have R1 := hown2
        rw [← hS] at R1
        have hB2 : Below (w.heap.size + 2) (((w.alloc (.cells #[.int .i64 0, .int .i64 0, .int .i64 0] 23)).alloc (.cells #[.int .i64 0, .int .i64 0, .int .i64 0] 23)).alloc (.cells #[] 23)) g2.val := by
          have a1 := HB.out.trans (HB1.out.mono (by omega))
          have a2 := a1.alloc (by omega) (.cells #[.int .i64 y, .int .i64 m, .int .i64 (↑k + 1)] 23)
          exact a2.trans (g2.ok.mono (by simp; omega))
        have R3 : w.heap.size + 3 ≤ g2.val.heap.size := by have := g2.size; simp at *; omega
        clear hown1 hown2 HB HB1 hS hc0 hc1 hc2
        go_roundw
        case rel => exact ⟨k + 1, by omega, by simp, R1, hB2, R3⟩
        case measure => simp [intOf]; omega
    · have hke : (k : Int) = lenI y m := by omega
      obtain ⟨T1, T2, T3⟩ := rnth_ends y m wd n k hke h1 h2 h3 h4
      have T1' := Lib.hid T1
      have T2' := Lib.hid T2
      have T3' := Lib.hid T3
      have hdl := days_len (numI y m 1) wd k
      have HB := Lib.hid hB
      have r0 : ∀ g1 : Gr wr, g1.val.cell? ⟨w.heap.size, 0, none⟩ = some (.int .i64 0) := fun g1 => (g1.cell _ _ (by omega)).trans ((hB.cell (p := ⟨w.heap.size, 0, none⟩) (by simp)).trans (by simp [go_sem]))
      have r1 : ∀ g1 : Gr wr, g1.val.cell? ⟨w.heap.size, 1, none⟩ = some (.int .i64 0) := fun g1 => (g1.cell _ _ (by omega)).trans ((hB.cell (p := ⟨w.heap.size, 1, none⟩) (by simp)).trans (by simp [go_sem]))
      have r2 : ∀ g1 : Gr wr, g1.val.cell? ⟨w.heap.size, 2, none⟩ = some (.int .i64 0) := fun g1 => (g1.cell _ _ (by omega)).trans ((hB.cell (p := ⟨w.heap.size, 2, none⟩) (by simp)).trans (by simp [go_sem]))
      have s0 : ∀ g1 : Gr wr, g1.val.cell? ⟨w.heap.size + 1, 0, none⟩ = some (.int .i64 0) := fun g1 => (g1.cell _ _ (by omega)).trans ((hB.cell (p := ⟨w.heap.size + 1, 0, none⟩) (by simp)).trans (by simp [go_sem]))
      have s1 : ∀ g1 : Gr wr, g1.val.cell? ⟨w.heap.size + 1, 1, none⟩ = some (.int .i64 0) := fun g1 => (g1.cell _ _ (by omega)).trans ((hB.cell (p := ⟨w.heap.size + 1, 1, none⟩) (by simp)).trans (by simp [go_sem]))
      have s2 : ∀ g1 : Gr wr, g1.val.cell? ⟨w.heap.size + 1, 2, none⟩ = some (.int .i64 0) := fun g1 => (g1.cell _ _ (by omega)).trans ((hB.cell (p := ⟨w.heap.size + 1, 2, none⟩) (by simp)).trans (by simp [go_sem]))
      have rf : ∀ (g1 : Gr wr) (j : Nat), g1.val.frozen? ⟨w.heap.size, j, none⟩ = false := fun g1 j => (g1.frozen _ _ (by omega)).trans ((hB.frozen (p := ⟨w.heap.size, j, none⟩) (by simp)).trans (by simp [go_sem]))
      clear T1 T2 T3 hB hlt
      have HO := Lib.hid hown
      obtain ⟨hlen, ⟨rfl, hn0⟩ | ⟨g, cap, cur, rfl, hg, hblk, hcap, hmx, hcs, htk⟩⟩ := hown
      · have c0 : ((days (numI y m 1) wd k).length : Int) = 0 := by omega
        have hV := Lib.hid (T3'.out (by omega) (by omega))
        clear c0 hn0 hlen
        by_cases a1 : 1 ≤ n
        · have u0 : decide (1 ≤ n) = true := by simpa using a1
          have u1 : decide (n ≤ 0) = false := by simp; omega
          have u2 : decide (n ≤ -1) = false := by simp; omega
          go_wp2_with (go_at_call 22; (with_reducible refine (rlength_any _ _ _).mono ?_); rintro e w1 ⟨rfl, hb1⟩; obtain ⟨g1, rfl⟩ := Gr.of hb1; clear hb1)
          refine bodyPost_ret (v := .tuple #[.agg #[.int .i64 0, .int .i64 0, .int .i64 0], .bool false]) (by simp [results, Try.results24, go_sem, r0, r1, r2, rf]) rfl ⟨by rw [hV.out], ?_⟩
          exact rnth_below HB.out g1 hsz
        · have u0 : decide (1 ≤ n) = false := by simpa using a1
          by_cases a2 : n ≤ -1
          · have u1 : decide (n ≤ -1) = true := by simpa using a2
            have u2 : decide (0 ≤ n) = false := by simp; omega
            go_wp2_with (go_at_call 22; (with_reducible refine (rlength_any _ _ _).mono ?_); rintro e w1 ⟨rfl, hb1⟩; obtain ⟨g1, rfl⟩ := Gr.of hb1; clear hb1)
            refine bodyPost_ret (v := .tuple #[.agg #[.int .i64 0, .int .i64 0, .int .i64 0], .bool false]) (by simp [results, Try.results24, go_sem, r0, r1, r2, rf]) rfl ⟨by rw [hV.out], ?_⟩
            exact rnth_below HB.out g1 hsz
          · have u1 : decide (n ≤ -1) = false := by simpa using a2
            go_wp2_with (go_at_call 22; (with_reducible refine (rlength_any _ _ _).mono ?_); rintro e w1 ⟨rfl, hb1⟩; obtain ⟨g1, rfl⟩ := Gr.of hb1; clear hb1)
            refine bodyPost_ret (v := .tuple #[.agg #[.int .i64 0, .int .i64 0, .int .i64 0], .bool false]) (by simp [results, Try.results24, go_sem, r0, r1, r2, rf]) rfl ⟨by rw [hV.out], ?_⟩
            exact rnth_below HB.out g1 hsz
      · have hgl : g < wr.heap.size := by
          rcases Nat.lt_or_ge g wr.heap.size with h | h
          · exact h
          · rw [Array.getElem?_eq_none h] at hblk; cases hblk
        clear hlen hcs htk hblk hmx
        by_cases a1 : 1 ≤ n
        · have u0 : decide (1 ≤ n) = true := by simpa using a1
          by_cases a2 : n ≤ (days (numI y m 1) wd k).length
          · have u1 : decide (n ≤ (days (numI y m 1) wd k).length) = true := by simpa using a2
            obtain ⟨V, D⟩ := T1'.out a1 a2
            rw [show (n - 1).toNat = (n.toNat - 1) from by omega] at D
            obtain ⟨d0, d1, d2⟩ := dcells_at y m _ _ _ D
            have hV := Lib.hid V
            clear V D
            have hi0 : (n.toNat - 1) < (days (numI y m 1) wd k).length := by omega
            have w0 : ∀ g1 : Gr wr, g1.val.cell? ⟨g, (n.toNat - 1) * 3, none⟩ = some (.int .i64 y) := fun g1 => (g1.cell _ _ hgl).trans ((HO.out.cellAt ((n.toNat - 1) * 3) (by omega)).trans d0)
            have w1 : ∀ g1 : Gr wr, g1.val.cell? ⟨g, (n.toNat - 1) * 3 + 1, none⟩ = some (.int .i64 m) := fun g1 => (g1.cell _ _ hgl).trans ((HO.out.cellAt ((n.toNat - 1) * 3 + 1) (by omega)).trans d1)
            have w2 : ∀ g1 : Gr wr, g1.val.cell? ⟨g, (n.toNat - 1) * 3 + 2, none⟩ = some (.int .i64 (nthI (numI y m 1) (lenI y m) wd n)) := fun g1 => (g1.cell _ _ hgl).trans ((HO.out.cellAt ((n.toNat - 1) * 3 + 2) (by omega)).trans d2)
            clear d0 d1 d2
            go_wp2_with (go_at_call 22; (with_reducible refine (rlength_any _ _ _).mono ?_); rintro e w1 ⟨rfl, hb1⟩; obtain ⟨g1, rfl⟩ := Gr.of hb1; clear hb1)
            refine bodyPost_ret (v := .tuple #[.agg #[.int .i64 y, .int .i64 m, .int .i64 (nthI (numI y m 1) (lenI y m) wd n)], .bool true]) (by simp [results, Try.results24, go_sem, r0, r1, r2, rf]) rfl ⟨by rw [hV.out], ?_⟩
            exact rnth_below HB.out g1 hsz
          · have u1 : decide (n ≤ (days (numI y m 1) wd k).length) = false := by simpa using a2
            have u2 : decide (n ≤ -1) = false := by simp; omega
            have hV := Lib.hid (T3'.out (by omega) (by omega))
            go_wp2_with (go_at_call 22; (with_reducible refine (rlength_any _ _ _).mono ?_); rintro e w1 ⟨rfl, hb1⟩; obtain ⟨g1, rfl⟩ := Gr.of hb1; clear hb1)
            refine bodyPost_ret (v := .tuple #[.agg #[.int .i64 0, .int .i64 0, .int .i64 0], .bool false]) (by simp [results, Try.results24, go_sem, r0, r1, r2, rf]) rfl ⟨by rw [hV.out], ?_⟩
            exact rnth_below HB.out g1 hsz
        · have u0 : decide (1 ≤ n) = false := by simpa using a1
          by_cases a2 : n ≤ -1
          · have u1 : decide (n ≤ -1) = true := by simpa using a2
            by_cases a3 : -((days (numI y m 1) wd k).length : Int) ≤ n
            · have u2 : decide (-((days (numI y m 1) wd k).length : Int) ≤ n) = true := by simpa using a3
              obtain ⟨V, D⟩ := T2'.out a2 a3
              obtain ⟨d0, d1, d2⟩ := dcells_at y m _ _ _ D
              have hV := Lib.hid V
              clear V D
              have hi0 : (((days (numI y m 1) wd k).length : Int) + n).toNat < (days (numI y m 1) wd k).length := by omega
              have w0 : ∀ g1 : Gr wr, g1.val.cell? ⟨g, (((days (numI y m 1) wd k).length : Int) + n).toNat * 3, none⟩ = some (.int .i64 y) := fun g1 => (g1.cell _ _ hgl).trans ((HO.out.cellAt ((((days (numI y m 1) wd k).length : Int) + n).toNat * 3) (by omega)).trans d0)
              have w1 : ∀ g1 : Gr wr, g1.val.cell? ⟨g, (((days (numI y m 1) wd k).length : Int) + n).toNat * 3 + 1, none⟩ = some (.int .i64 m) := fun g1 => (g1.cell _ _ hgl).trans ((HO.out.cellAt ((((days (numI y m 1) wd k).length : Int) + n).toNat * 3 + 1) (by omega)).trans d1)
              have w2 : ∀ g1 : Gr wr, g1.val.cell? ⟨g, (((days (numI y m 1) wd k).length : Int) + n).toNat * 3 + 2, none⟩ = some (.int .i64 (nthI (numI y m 1) (lenI y m) wd n)) := fun g1 => (g1.cell _ _ hgl).trans ((HO.out.cellAt ((((days (numI y m 1) wd k).length : Int) + n).toNat * 3 + 2) (by omega)).trans d2)
              clear d0 d1 d2
              go_wp2_with (go_at_call 22; (with_reducible refine (rlength_any _ _ _).mono ?_); rintro e w1 ⟨rfl, hb1⟩; obtain ⟨g1, rfl⟩ := Gr.of hb1; clear hb1)
              refine bodyPost_ret (v := .tuple #[.agg #[.int .i64 y, .int .i64 m, .int .i64 (nthI (numI y m 1) (lenI y m) wd n)], .bool true]) (by simp [results, Try.results24, go_sem, r0, r1, r2, rf]) rfl ⟨by rw [hV.out], ?_⟩
              exact rnth_below HB.out g1 hsz
            · have u2 : decide (-((days (numI y m 1) wd k).length : Int) ≤ n) = false := by simpa using a3
              have hV := Lib.hid (T3'.out (by omega) (by omega))
              go_wp2_with (go_at_call 22; (with_reducible refine (rlength_any _ _ _).mono ?_); rintro e w1 ⟨rfl, hb1⟩; obtain ⟨g1, rfl⟩ := Gr.of hb1; clear hb1)
              refine bodyPost_ret (v := .tuple #[.agg #[.int .i64 0, .int .i64 0, .int .i64 0], .bool false]) (by simp [results, Try.results24, go_sem, r0, r1, r2, rf]) rfl ⟨by rw [hV.out], ?_⟩
              exact rnth_below HB.out g1 hsz
          · have u1 : decide (n ≤ -1) = false := by simpa using a2
            have hV := Lib.hid (T3'.out (by omega) (by omega))
            go_wp2_with (go_at_call 22; (with_reducible refine (rlength_any _ _ _).mono ?_); rintro e w1 ⟨rfl, hb1⟩; obtain ⟨g1, rfl⟩ := Gr.of hb1; clear hb1)
            refine bodyPost_ret (v := .tuple #[.agg #[.int .i64 0, .int .i64 0, .int .i64 0], .bool false]) (by simp [results, Try.results24, go_sem, r0, r1, r2, rf]) rfl ⟨by rw [hV.out], ?_⟩
            exact rnth_below HB.out g1 hsz
end Go.Proofs.Ytcciginjkpemhaa
