import Derived.Test.YtfjmofefciopmaaGreatZMD
import Derived.Test.YtfjmofefciopmaaGreatZHW1
import Derived.Test.YtfjmofefciopmaaGreatZMA
import Derived.Test.YtfjmofefciopmaaGreatZMW
import Derived.Deep.Cut
import Derived.Lib.SmallJoins
import Derived.IntWalk
import Derived.Test.YtfjmofefciopmaaGreatZMB
/- Contracts of the program's events: small questions. -/
section
namespace Go.Proofs.YtfjmofefciopmaaGreat
open Go.ChangeShapes Go.WideShapes Go.ChangeAt Go.RowKit Go.Joins Sp Ev Qr
theorem isMinute_any (n : Int) (w : World) :
    Calls Tryz.prog 20 #[.int .i64 n] w fun e w' => e = .returned (.bool (stampB n)) ∧ w = w' := by
  by_cases h1 : 0 ≤ n
  · by_cases h2 : n < 158310720
    · have h1b : decide (0 ≤ n) = true := decide_eq_true h1
      have h2b : decide (n < 158310720) = true := decide_eq_true h2
      have E : Hid (stampB n = true) := by show _ = _; unfold stampB; rw [h1b, h2b]; rfl
      rw [E.out]
      go_enter Tryz.func20, Tryz.ntmps20
      go_wp2_with fail
      go_ret
      exact ⟨rfl, rfl⟩
    · have h1b : decide (0 ≤ n) = true := decide_eq_true h1
      have h2b : decide (n < 158310720) = false := decide_eq_false h2
      have E : Hid (stampB n = false) := by show _ = _; unfold stampB; rw [h1b, h2b]; rfl
      rw [E.out]
      go_enter Tryz.func20, Tryz.ntmps20
      go_wp2_with fail
      go_ret
      exact ⟨rfl, rfl⟩
  · have h1b : decide (0 ≤ n) = false := decide_eq_false h1
    have E : Hid (stampB n = false) := by show _ = _; unfold stampB; rw [h1b]; rfl
    rw [E.out]
    go_enter Tryz.func20, Tryz.ntmps20
    go_wp2_with fail
    go_ret
    exact ⟨rfl, rfl⟩
theorem isMinute_g (n : Int) (w : World) :
    Calls Tryz.prog 20 #[.int .i64 n] w fun e w' => e = .returned (.bool (stampB n)) ∧ Below w.heap.size w w' :=
  (isMinute_any n w).mono fun _ _ ⟨h1, h2⟩ => ⟨h1, by rw [← h2]; exact Below.refl _ _⟩
theorem emay1_any (n : Int) (w : World) :
    Calls Tryz.prog 24 #[.int .i64 n] w fun e w' => e = .returned (.int .i64 n) ∧ w = w' := by
  go_enter Tryz.func24, Tryz.ntmps24
  go_wp2_with fail
  go_ret
  exact ⟨rfl, rfl⟩
theorem emay2_any (n : Int) (w : World) :
    Calls Tryz.prog 25 #[.int .i64 n] w fun e w' => e = .returned (.int .i64 n) ∧ w = w' := by
  go_enter Tryz.func25, Tryz.ntmps25
  go_wp2_with fail
  go_ret
  exact ⟨rfl, rfl⟩
theorem emay3_any (a s g : Int) (w : World) :
    Calls Tryz.prog 27 #[.agg #[.int .i64 a, .int .i64 s, .int .i64 g]] w fun e w' => e = .returned (.int .i64 a) ∧ Below w.heap.size w w' := by
  have HB := Lib.hid ((Below.refl w.heap.size w).alloc (Nat.le_refl _) (.cells #[.int .i64 a, .int .i64 s, .int .i64 g] 47))
  go_enter Tryz.func27, Tryz.ntmps27
  go_wp2_with fail
  go_ret
  exact ⟨rfl, HB.out⟩
def chB (s g : Int) : Bool := stampB s && (decide (0 ≤ g) && decide (g ≤ 10080))
set_option maxRecDepth 100000 in
set_option maxHeartbeats 1000000 in
theorem changeMay_any (a s g : Int) (w : World) :
    Calls Tryz.prog 30 #[.agg #[.int .i64 a, .int .i64 s, .int .i64 g]] w fun e w' => e = .returned (.bool (chB s g)) ∧ Below w.heap.size w w' := by
  obtain ⟨q, hq⟩ : ∃ q, chB s g = q := ⟨_, rfl⟩
  rw [hq]
  unfold chB at hq
  have HM := Lib.hid (fun w => isMinute_any s w)
  generalize stampB s = t at *
  have HQ := Lib.hid hq
  clear hq
  have HB := Lib.hid ((Below.refl w.heap.size w).alloc (Nat.le_refl _) (.cells #[.int .i64 a, .int .i64 s, .int .i64 g] 47))
  have HX : Hid (∀ n, Below w.heap.size w ((w.alloc (.cells #[.int .i64 a, .int .i64 s, .int .i64 g] 47)).drewN n)) := fun n => HB.out.trans (drewN_below _ _ |>.mono HB.out.size)
  cases t with
  | false =>
    have E : Hid (q = false) := HQ.out.symm
    go_enter Tryz.func30, Tryz.ntmps30
    go_wp2_with (go_at_call 20; (with_reducible refine (HM.out _).mono ?_); rintro e w' ⟨rfl, rfl⟩)
    go_ret
    exact ⟨ret_bool E.out.symm, HB.out⟩
  | true =>
    have hw : ∀ x : Int, x = x := fun _ => rfl
    by_cases h1 : 0 ≤ g
    · have h1b : decide (0 ≤ g) = true := decide_eq_true h1
      by_cases h2 : g ≤ 10080
      · have h2b : decide (g ≤ 10080) = true := decide_eq_true h2
        have E : Hid (q = true) := by show _ = _; rw [← HQ.out, h1b, h2b]; rfl
        go_enter Tryz.func30, Tryz.ntmps30
        go_wp2_with (go_at_call 20; (with_reducible refine (HM.out _).mono ?_); rintro e w' ⟨rfl, rfl⟩)
        go_ret
        exact ⟨ret_bool E.out.symm, HB.out⟩
      · have h2b : decide (g ≤ 10080) = false := decide_eq_false h2
        have E : Hid (q = false) := by show _ = _; rw [← HQ.out, h1b, h2b]; rfl
        go_enter Tryz.func30, Tryz.ntmps30
        go_wp2_with (go_at_call 20; (with_reducible refine (HM.out _).mono ?_); rintro e w' ⟨rfl, rfl⟩)
        go_ret
        exact ⟨ret_bool E.out.symm, HB.out⟩
    · have h1b : decide (0 ≤ g) = false := decide_eq_false h1
      have E : Hid (q = false) := by show _ = _; rw [← HQ.out, h1b]; rfl
      go_enter Tryz.func30, Tryz.ntmps30
      go_wp2_with (go_at_call 20; (with_reducible refine (HM.out _).mono ?_); rintro e w' ⟨rfl, rfl⟩)
      go_ret
      exact ⟨ret_bool E.out.symm, HB.out⟩
theorem emay4_any (a s g : Int) (w : World) :
    Calls Tryz.prog 29 #[.agg #[.int .i64 a, .int .i64 s, .int .i64 g]] w fun e w' => e = .returned (.bool (!chB s g)) ∧ Below w.heap.size w w' := by
  have HC := Lib.hid (fun w => changeMay_any a s g w)
  generalize chB s g = q at *
  obtain ⟨W, hW⟩ : ∃ W, w.alloc (.cells #[.int .i64 a, .int .i64 s, .int .i64 g] 47) = W := ⟨_, rfl⟩
  have HW := Lib.hid hW
  have BW : Hid (Below w.heap.size w W) := by show Below _ _ _; rw [← hW]; exact (Below.refl _ w).alloc (Nat.le_refl _) _
  have e0 : W.cell? ⟨w.heap.size, 0, none⟩ = some (.int .i64 a) := by rw [← hW]; exact box_at (w := w) (t := 47) (C := #[.int .i64 a, .int .i64 s, .int .i64 g]) rfl ⟨_, Below.refl _ _⟩
  have e1 : W.cell? ⟨w.heap.size, 1, none⟩ = some (.int .i64 s) := by rw [← hW]; exact box_at (w := w) (t := 47) (C := #[.int .i64 a, .int .i64 s, .int .i64 g]) rfl ⟨_, Below.refl _ _⟩
  have e2 : W.cell? ⟨w.heap.size, 2, none⟩ = some (.int .i64 g) := by rw [← hW]; exact box_at (w := w) (t := 47) (C := #[.int .i64 a, .int .i64 s, .int .i64 g]) rfl ⟨_, Below.refl _ _⟩
  clear hW
  go_enter Tryz.func29, Tryz.ntmps29
  go_upto_region 1 with fail
  rw [HW.out]
  go_wp2_with (go_at_call 30; (with_reducible refine (HC.out _).mono ?_); rintro e w' ⟨rfl, hb⟩)
  have HG : Hid (Below w.heap.size w w') := BW.out.trans (hb.mono BW.out.size)
  go_ret
  exact ⟨ret_bool rfl, HG.out⟩
def mtB (a b : Spn) : Bool := decide (a.1 < b.2) && decide (b.1 < a.2)
theorem meet_any (a1 a2 b1 b2 : Int) (w : World) :
    Calls Tryz.prog 39 #[.agg #[.int .i64 a1, .int .i64 a2], .agg #[.int .i64 b1, .int .i64 b2]] w fun e w' => e = .returned (.bool (mtB (a1, a2) (b1, b2))) ∧ Below w.heap.size w w' := by
  have HB := Lib.hid (((Below.refl w.heap.size w).alloc (Nat.le_refl _) (.cells #[.int .i64 a1, .int .i64 a2] 34)).alloc (by simp) (.cells #[.int .i64 b1, .int .i64 b2] 34))
  obtain ⟨q, hq⟩ : ∃ q, mtB (a1, a2) (b1, b2) = q := ⟨_, rfl⟩
  rw [hq]
  unfold mtB at hq
  simp only at hq
  have HQ := Lib.hid hq
  clear hq
  by_cases h1 : a1 < b2
  · have h1b : decide (a1 < b2) = true := decide_eq_true h1
    by_cases h2 : b1 < a2
    · have h2b : decide (b1 < a2) = true := decide_eq_true h2
      have E : Hid (q = true) := by show _ = _; rw [← HQ.out, h1b, h2b]; rfl
      clear HQ
      go_enter Tryz.func39, Tryz.ntmps39
      go_wp2_with fail
      go_ret
      exact ⟨ret_bool E.out.symm, HB.out⟩
    · have h2b : decide (b1 < a2) = false := decide_eq_false h2
      have E : Hid (q = false) := by show _ = _; rw [← HQ.out, h1b, h2b]; rfl
      clear HQ
      go_enter Tryz.func39, Tryz.ntmps39
      go_wp2_with fail
      go_ret
      exact ⟨ret_bool E.out.symm, HB.out⟩
  · have h1b : decide (a1 < b2) = false := decide_eq_false h1
    have E : Hid (q = false) := by show _ = _; rw [← HQ.out, h1b]; rfl
    clear HQ
    go_enter Tryz.func39, Tryz.ntmps39
    go_wp2_with fail
    go_ret
    exact ⟨ret_bool E.out.symm, HB.out⟩
def wmB (x : Spn) : Bool := decide (x.1 < x.2) && decide (x.2 - x.1 ≤ 528480)
set_option maxRecDepth 100000 in
theorem windowMay_any (x1 x2 : Int) (w : World) (hx1 : -9223372036854775808 ≤ x1 ∧ x1 ≤ 9223372036854775807) (hx2 : -9223372036854775808 ≤ x2 ∧ x2 ≤ 9223372036854775807) :
    Calls Tryz.prog 36 #[.agg #[.int .i64 x1, .int .i64 x2]] w fun e w' => e = .returned (.bool (wmB (x1, x2))) ∧ Below w.heap.size w w' := by
  have HB := Lib.hid ((Below.refl w.heap.size w).alloc (Nat.le_refl _) (.cells #[.int .i64 x1, .int .i64 x2] 34))
  obtain ⟨q, hq⟩ : ∃ q, wmB (x1, x2) = q := ⟨_, rfl⟩
  rw [hq]
  unfold wmB at hq
  simp only at hq
  have HQ := Lib.hid hq
  clear hq
  by_cases h1 : x1 < x2
  · have h1b : decide (x1 < x2) = true := decide_eq_true h1
    have hw : IntKind.u64.wrap (IntKind.u64.wrap x2 - IntKind.u64.wrap x1) = x2 - x1 := by
      simp only [IntKind.wrap_u64]
      omega
    by_cases h2 : x2 - x1 ≤ 528480
    · have h2b : decide (x2 - x1 ≤ 528480) = true := decide_eq_true h2
      have E : Hid (q = true) := by show _ = _; rw [← HQ.out, h1b, h2b]; rfl
      clear HQ
      go_enter Tryz.func36, Tryz.ntmps36
      go_wp2_with fail
      go_ret
      exact ⟨ret_bool E.out.symm, HB.out⟩
    · have h2b : decide (x2 - x1 ≤ 528480) = false := decide_eq_false h2
      have E : Hid (q = false) := by show _ = _; rw [← HQ.out, h1b, h2b]; rfl
      clear HQ
      go_enter Tryz.func36, Tryz.ntmps36
      go_wp2_with fail
      go_ret
      exact ⟨ret_bool E.out.symm, HB.out⟩
  · have h1b : decide (x1 < x2) = false := decide_eq_false h1
    have E : Hid (q = false) := by show _ = _; rw [← HQ.out, h1b]; rfl
    clear HQ
    go_enter Tryz.func36, Tryz.ntmps36
    go_wp2_with fail
    go_ret
    exact ⟨ret_bool E.out.symm, HB.out⟩
end Go.Proofs.YtfjmofefciopmaaGreat
end
section
namespace Go.Proofs.YtfjmofefciopmaaGreat
open Go.ChangeShapes Go.WideShapes Go.ChangeAt Go.RowKit Go.Joins Sp Ev Qr
set_option maxRecDepth 100000 in
set_option maxHeartbeats 4000000 in
theorem prow1_any (l : List Int) (A : Option Addr) (c : Nat) (w : World) (hl : l.length ≤ 1000000) (h : Sl w A l.length c (iv l)) :
    Calls Tryz.prog 23 #[.slice A l.length c, .func (.func 24) #[] #[]] w fun e w' => e = .returned (.bool (rowB l)) ∧ Below w.heap.size w w' := by
  have HA := Lib.hid h
  obtain ⟨r, hr⟩ : ∃ r, rowB l = r := ⟨_, rfl⟩
  rw [hr]
  have HR := Lib.hid hr
  clear h hr
  obtain ⟨n, hn⟩ : ∃ n, l.length = n := ⟨_, rfl⟩
  have HN := Lib.hid hn
  rw [hn] at HA hl ⊢
  clear hn
  by_cases h50 : (50 : Int) < n
  · have h50b : decide ((50 : Int) < n) = true := decide_eq_true h50
    have E : Hid (r = false) := by show _ = _; rw [← HR.out]; exact row_no fun p => by have := p.2; rw [HN.out] at this; omega
    go_enter Tryz.func23, Tryz.ntmps23
    go_wp2_with fail
    go_ret
    exact ⟨ret_bool E.out.symm, Below.refl _ _⟩
  have h50b : decide ((50 : Int) < n) = false := decide_eq_false h50
  have h50n : n ≤ 50 := by omega
  go_enter Tryz.func23, Tryz.ntmps23
  go_wp2_with fail
  clear h50b
  go_loopw [12] (fun s12 wr => ∃ (i : Nat) (g : Gr w), wr = g.val ∧ i ≤ n ∧ s12 = .int .i64 i ∧ Hid (∀ j, j < i → okR l j)) (fun s12 _ => n - (intOf s12).toNat)
  case atStart => exact ⟨0, ⟨w, Below.refl _ _⟩, rfl, Nat.zero_le _, rfl, fun j hj => absurd hj (Nat.not_lt_zero _)⟩
  case round =>
    obtain ⟨i, g, rfl, hi, rfl, HF⟩ := hrel
    by_cases hlt : i < n
    · have hil : i < l.length := by rw [HN.out]; exact hlt
      have hiz : (i : Int) < n := by omega
      obtain ⟨x, hx⟩ : ∃ x, l[i]? = some x := ⟨_, List.getElem?_eq_getElem hil⟩
      have HXE : Hid (l.getD i 0 = x) := by show _ = _; rw [List.getD_eq_getElem?_getD, hx]; rfl
      obtain ⟨b, off, rfl, hbs, hce⟩ := HA.out.intG hx
      have c1 := hce g
      have HNO : Hid ((stampB x = false ∨ 0 < i ∧ x ≤ l.getD (i - 1) 0) → r = false) := fun q => by
        rw [← HR.out]
        refine row_no fun p => ?_
        have p2 := p.1 i hil
        unfold okR at p2
        rw [HXE.out] at p2
        rcases q with q | q
        · unfold stampB at q
          rw [decide_eq_true p2.1, decide_eq_true p2.2.1] at q
          cases q
        · have := p2.2.2 q.1; omega
      have HYES : Hid (stampB x = true → 0 ≤ x ∧ x < 158310720) := fun q => by unfold stampB at q; simpa using q
      have HX := Lib.hid (fun w => emay1_any x w)
      have HM0 := Lib.hid (fun w => isMinute_any x w)
      cases hst : stampB x with
      | false =>
        have E : Hid (r = false) := HNO.out (.inl hst)
        have HM := HM0
        rw [hst] at HM
        clear HM0 hst hx hce
        go_wp2_with (first | (go_at_call 24; (with_reducible refine (HX.out _).mono ?_); rintro e w' ⟨rfl, rfl⟩) | (go_at_call 20; (with_reducible refine (HM.out _).mono ?_); rintro e w' ⟨rfl, rfl⟩))
        go_ret
        exact ⟨ret_bool E.out.symm, g.ok⟩
      | true =>
        have hxb := HYES.out hst
        have HM := HM0
        rw [hst] at HM
        clear HM0 hst
        rcases Nat.eq_zero_or_pos i with rfl | hi0
        · have HNX : Hid (∀ j, j < 0 + 1 → okR l j) := fun j hj => by
            obtain rfl : j = 0 := by omega
            unfold okR; rw [HXE.out]; exact ⟨hxb.1, hxb.2, fun h => absurd h (Nat.lt_irrefl _)⟩
          have c2 : g.val.cell? ⟨b, off, none⟩ = some (.int .i64 x) := by simpa using c1
          clear hx hce hxb
          go_wp2_with (first | (go_at_call 24; (with_reducible refine (HX.out _).mono ?_); rintro e w' ⟨rfl, rfl⟩) | (go_at_call 20; (with_reducible refine (HM.out _).mono ?_); rintro e w' ⟨rfl, rfl⟩))
          go_roundw
          case rel => exact ⟨0 + 1, g, rfl, hlt, by go_num, HNX.out⟩
          case measure => simp [intOf]; omega
        · have hi1 : i - 1 < l.length := by omega
          have hip : (0 : Int) < i := by omega
          have hipb : decide ((0 : Int) < i) = true := decide_eq_true hip
          obtain ⟨y, hy⟩ : ∃ y, l[i - 1]? = some y := ⟨_, List.getElem?_eq_getElem hi1⟩
          have HYE : Hid (l.getD (i - 1) 0 = y) := by show _ = _; rw [List.getD_eq_getElem?_getD, hy]; rfl
          obtain ⟨b2, off2, e2, hb2, hce2⟩ := HA.out.intG hy
          obtain ⟨rfl, rfl⟩ : b2 = b ∧ off2 = off := by simp only [Option.some.injEq, Addr.mk.injEq, and_true] at e2; exact ⟨e2.1.symm, e2.2.symm⟩
          have hn1 : ((i : Int) - 1).toNat = i - 1 := by omega
          have hw1 : IntKind.i64.wrap ((i : Int) - 1) = (i : Int) - 1 := IntWalk.i64_in _ (by omega)
          have hp1 : (0 : Int) ≤ (i : Int) - 1 := by omega
          have hp2 : (i : Int) - 1 < n := by omega
          have HY := Lib.hid (fun w => emay1_any y w)
          by_cases hc : x ≤ y
          · have hcb : decide (x ≤ y) = true := decide_eq_true hc
            have E : Hid (r = false) := HNO.out (.inr ⟨hi0, by rw [HYE.out]; exact hc⟩)
            clear hx hy hce hxb
            go_wp2_with (first | (go_at_call 24; (with_reducible refine (HX.out _).mono ?_); rintro e w' ⟨rfl, rfl⟩) | (go_at_call 24; (with_reducible refine (HY.out _).mono ?_); rintro e w' ⟨rfl, rfl⟩) | (go_at_call 20; (with_reducible refine (HM.out _).mono ?_); rintro e w' ⟨rfl, rfl⟩))
            go_ret
            exact ⟨ret_bool E.out.symm, g.ok⟩
          · have hcb : decide (x ≤ y) = false := decide_eq_false hc
            have HNX : Hid (∀ j, j < i + 1 → okR l j) := fun j hj => by
              by_cases e : j = i
              · subst e; unfold okR; rw [HXE.out, HYE.out]; exact ⟨hxb.1, hxb.2, fun _ => by omega⟩
              · exact HF.out j (by omega)
            clear hx hy hce hxb
            go_wp2_with (first | (go_at_call 24; (with_reducible refine (HX.out _).mono ?_); rintro e w' ⟨rfl, rfl⟩) | (go_at_call 24; (with_reducible refine (HY.out _).mono ?_); rintro e w' ⟨rfl, rfl⟩) | (go_at_call 20; (with_reducible refine (HM.out _).mono ?_); rintro e w' ⟨rfl, rfl⟩))
            go_roundw
            case rel => exact ⟨i + 1, g, rfl, hlt, by go_num, HNX.out⟩
            case measure => simp [intOf]; omega
    · obtain rfl : i = n := by omega
      have E : Hid (r = true) := by show _ = _; rw [← HR.out]; exact row_yes ⟨fun j hj => HF.out j (by rw [← HN.out]; exact hj), by rw [HN.out]; exact h50n⟩
      go_wp2_with fail
      go_ret
      exact ⟨ret_bool E.out.symm, g.ok⟩
set_option maxRecDepth 100000 in
set_option maxHeartbeats 4000000 in
theorem prow2_any (l : List Int) (A : Option Addr) (c : Nat) (w : World) (hl : l.length ≤ 1000000) (h : Sl w A l.length c (iv l)) :
    Calls Tryz.prog 23 #[.slice A l.length c, .func (.func 25) #[] #[]] w fun e w' => e = .returned (.bool (rowB l)) ∧ Below w.heap.size w w' := by
  have HA := Lib.hid h
  obtain ⟨r, hr⟩ : ∃ r, rowB l = r := ⟨_, rfl⟩
  rw [hr]
  have HR := Lib.hid hr
  clear h hr
  obtain ⟨n, hn⟩ : ∃ n, l.length = n := ⟨_, rfl⟩
  have HN := Lib.hid hn
  rw [hn] at HA hl ⊢
  clear hn
  by_cases h50 : (50 : Int) < n
  · have h50b : decide ((50 : Int) < n) = true := decide_eq_true h50
    have E : Hid (r = false) := by show _ = _; rw [← HR.out]; exact row_no fun p => by have := p.2; rw [HN.out] at this; omega
    go_enter Tryz.func23, Tryz.ntmps23
    go_wp2_with fail
    go_ret
    exact ⟨ret_bool E.out.symm, Below.refl _ _⟩
  have h50b : decide ((50 : Int) < n) = false := decide_eq_false h50
  have h50n : n ≤ 50 := by omega
  go_enter Tryz.func23, Tryz.ntmps23
  go_wp2_with fail
  clear h50b
  go_loopw [12] (fun s12 wr => ∃ (i : Nat) (g : Gr w), wr = g.val ∧ i ≤ n ∧ s12 = .int .i64 i ∧ Hid (∀ j, j < i → okR l j)) (fun s12 _ => n - (intOf s12).toNat)
  case atStart => exact ⟨0, ⟨w, Below.refl _ _⟩, rfl, Nat.zero_le _, rfl, fun j hj => absurd hj (Nat.not_lt_zero _)⟩
  case round =>
    obtain ⟨i, g, rfl, hi, rfl, HF⟩ := hrel
    by_cases hlt : i < n
    · have hil : i < l.length := by rw [HN.out]; exact hlt
      have hiz : (i : Int) < n := by omega
      obtain ⟨x, hx⟩ : ∃ x, l[i]? = some x := ⟨_, List.getElem?_eq_getElem hil⟩
      have HXE : Hid (l.getD i 0 = x) := by show _ = _; rw [List.getD_eq_getElem?_getD, hx]; rfl
      obtain ⟨b, off, rfl, hbs, hce⟩ := HA.out.intG hx
      have c1 := hce g
      have HNO : Hid ((stampB x = false ∨ 0 < i ∧ x ≤ l.getD (i - 1) 0) → r = false) := fun q => by
        rw [← HR.out]
        refine row_no fun p => ?_
        have p2 := p.1 i hil
        unfold okR at p2
        rw [HXE.out] at p2
        rcases q with q | q
        · unfold stampB at q
          rw [decide_eq_true p2.1, decide_eq_true p2.2.1] at q
          cases q
        · have := p2.2.2 q.1; omega
      have HYES : Hid (stampB x = true → 0 ≤ x ∧ x < 158310720) := fun q => by unfold stampB at q; simpa using q
      have HX := Lib.hid (fun w => emay2_any x w)
      have HM0 := Lib.hid (fun w => isMinute_any x w)
      cases hst : stampB x with
      | false =>
        have E : Hid (r = false) := HNO.out (.inl hst)
        have HM := HM0
        rw [hst] at HM
        clear HM0 hst hx hce
        go_wp2_with (first | (go_at_call 25; (with_reducible refine (HX.out _).mono ?_); rintro e w' ⟨rfl, rfl⟩) | (go_at_call 20; (with_reducible refine (HM.out _).mono ?_); rintro e w' ⟨rfl, rfl⟩))
        go_ret
        exact ⟨ret_bool E.out.symm, g.ok⟩
      | true =>
        have hxb := HYES.out hst
        have HM := HM0
        rw [hst] at HM
        clear HM0 hst
        rcases Nat.eq_zero_or_pos i with rfl | hi0
        · have HNX : Hid (∀ j, j < 0 + 1 → okR l j) := fun j hj => by
            obtain rfl : j = 0 := by omega
            unfold okR; rw [HXE.out]; exact ⟨hxb.1, hxb.2, fun h => absurd h (Nat.lt_irrefl _)⟩
          have c2 : g.val.cell? ⟨b, off, none⟩ = some (.int .i64 x) := by simpa using c1
          clear hx hce hxb
          go_wp2_with (first | (go_at_call 25; (with_reducible refine (HX.out _).mono ?_); rintro e w' ⟨rfl, rfl⟩) | (go_at_call 20; (with_reducible refine (HM.out _).mono ?_); rintro e w' ⟨rfl, rfl⟩))
          go_roundw
          case rel => exact ⟨0 + 1, g, rfl, hlt, by go_num, HNX.out⟩
          case measure => simp [intOf]; omega
        · have hi1 : i - 1 < l.length := by omega
          have hip : (0 : Int) < i := by omega
          have hipb : decide ((0 : Int) < i) = true := decide_eq_true hip
          obtain ⟨y, hy⟩ : ∃ y, l[i - 1]? = some y := ⟨_, List.getElem?_eq_getElem hi1⟩
          have HYE : Hid (l.getD (i - 1) 0 = y) := by show _ = _; rw [List.getD_eq_getElem?_getD, hy]; rfl
          obtain ⟨b2, off2, e2, hb2, hce2⟩ := HA.out.intG hy
          obtain ⟨rfl, rfl⟩ : b2 = b ∧ off2 = off := by simp only [Option.some.injEq, Addr.mk.injEq, and_true] at e2; exact ⟨e2.1.symm, e2.2.symm⟩
          have hn1 : ((i : Int) - 1).toNat = i - 1 := by omega
          have hw1 : IntKind.i64.wrap ((i : Int) - 1) = (i : Int) - 1 := IntWalk.i64_in _ (by omega)
          have hp1 : (0 : Int) ≤ (i : Int) - 1 := by omega
          have hp2 : (i : Int) - 1 < n := by omega
          have HY := Lib.hid (fun w => emay2_any y w)
          by_cases hc : x ≤ y
          · have hcb : decide (x ≤ y) = true := decide_eq_true hc
            have E : Hid (r = false) := HNO.out (.inr ⟨hi0, by rw [HYE.out]; exact hc⟩)
            clear hx hy hce hxb
            go_wp2_with (first | (go_at_call 25; (with_reducible refine (HX.out _).mono ?_); rintro e w' ⟨rfl, rfl⟩) | (go_at_call 25; (with_reducible refine (HY.out _).mono ?_); rintro e w' ⟨rfl, rfl⟩) | (go_at_call 20; (with_reducible refine (HM.out _).mono ?_); rintro e w' ⟨rfl, rfl⟩))
            go_ret
            exact ⟨ret_bool E.out.symm, g.ok⟩
          · have hcb : decide (x ≤ y) = false := decide_eq_false hc
            have HNX : Hid (∀ j, j < i + 1 → okR l j) := fun j hj => by
              by_cases e : j = i
              · subst e; unfold okR; rw [HXE.out, HYE.out]; exact ⟨hxb.1, hxb.2, fun _ => by omega⟩
              · exact HF.out j (by omega)
            clear hx hy hce hxb
            go_wp2_with (first | (go_at_call 25; (with_reducible refine (HX.out _).mono ?_); rintro e w' ⟨rfl, rfl⟩) | (go_at_call 25; (with_reducible refine (HY.out _).mono ?_); rintro e w' ⟨rfl, rfl⟩) | (go_at_call 20; (with_reducible refine (HM.out _).mono ?_); rintro e w' ⟨rfl, rfl⟩))
            go_roundw
            case rel => exact ⟨i + 1, g, rfl, hlt, by go_num, HNX.out⟩
            case measure => simp [intOf]; omega
    · obtain rfl : i = n := by omega
      have E : Hid (r = true) := by show _ = _; rw [← HR.out]; exact row_yes ⟨fun j hj => HF.out j (by rw [← HN.out]; exact hj), by rw [HN.out]; exact h50n⟩
      go_wp2_with fail
      go_ret
      exact ⟨ret_bool E.out.symm, g.ok⟩
def okA (l : List (Int × Int × Int)) (i : Nat) : Prop := stampB (l.getD i (0, 0, 0)).1 = true ∧ (0 < i → (l.getD (i - 1) (0, 0, 0)).1 < (l.getD i (0, 0, 0)).1)
instance (l : List (Int × Int × Int)) (i : Nat) : Decidable (okA l i) := by unfold okA; infer_instance
def rowAP (l : List (Int × Int × Int)) : Prop := (∀ i, i < l.length → okA l i) ∧ l.length ≤ 50
instance (l : List (Int × Int × Int)) : Decidable (rowAP l) := by unfold rowAP; infer_instance
def rowAB (l : List (Int × Int × Int)) : Bool := decide (rowAP l)
set_option maxRecDepth 100000 in
set_option maxHeartbeats 4000000 in
theorem prow3_any (l : List (Int × Int × Int)) (A : Option Addr) (c : Nat) (w : World) (hl : l.length ≤ 1000000) (h : Sl w A l.length c (tv l)) :
    Calls Tryz.prog 26 #[.slice A l.length c, .func (.func 27) #[] #[]] w fun e w' => e = .returned (.bool (rowAB l)) ∧ Below w.heap.size w w' := by
  have HA := Lib.hid h
  obtain ⟨r, hr⟩ : ∃ r, rowAB l = r := ⟨_, rfl⟩
  rw [hr]
  have HR := Lib.hid hr
  clear h hr
  obtain ⟨n, hn⟩ : ∃ n, l.length = n := ⟨_, rfl⟩
  have HN := Lib.hid hn
  rw [hn] at HA hl ⊢
  clear hn
  by_cases h50 : (50 : Int) < n
  · have h50b : decide ((50 : Int) < n) = true := decide_eq_true h50
    have E : Hid (r = false) := by show _ = _; rw [← HR.out]; exact decide_eq_false fun p => by have := p.2; rw [HN.out] at this; omega
    go_enter Tryz.func26, Tryz.ntmps26
    go_wp2_with fail
    go_ret
    exact ⟨ret_bool E.out.symm, Below.refl _ _⟩
  have h50b : decide ((50 : Int) < n) = false := decide_eq_false h50
  have h50n : n ≤ 50 := by omega
  go_enter Tryz.func26, Tryz.ntmps26
  go_wp2_with fail
  clear h50b
  go_loopw [12] (fun s12 wr => ∃ (i : Nat) (g : Gr w), wr = g.val ∧ i ≤ n ∧ s12 = .int .i64 i ∧ Hid (∀ j, j < i → okA l j)) (fun s12 _ => n - (intOf s12).toNat)
  case atStart => exact ⟨0, ⟨w, Below.refl _ _⟩, rfl, Nat.zero_le _, rfl, fun j hj => absurd hj (Nat.not_lt_zero _)⟩
  case round =>
    obtain ⟨i, g, rfl, hi, rfl, HF⟩ := hrel
    by_cases hlt : i < n
    · have hil : i < l.length := by rw [HN.out]; exact hlt
      have hiz : (i : Int) < n := by omega
      obtain ⟨x, hx⟩ : ∃ x, l[i]? = some x := ⟨_, List.getElem?_eq_getElem hil⟩
      have HXE : Hid (l.getD i (0, 0, 0) = x) := by show _ = _; rw [List.getD_eq_getElem?_getD, hx]; rfl
      obtain ⟨b, off, rfl, hbs, hce⟩ := (HA.out.gr g).shift hx
      obtain ⟨d0, d1, d2⟩ := hce
      have HNO : Hid ((stampB x.1 = false ∨ 0 < i ∧ x.1 ≤ (l.getD (i - 1) (0, 0, 0)).1) → r = false) := fun q => by
        rw [← HR.out]
        refine decide_eq_false fun p => ?_
        have p2 := p.1 i hil
        unfold okA at p2
        rw [HXE.out] at p2
        rcases q with q | q
        · rw [q] at p2; cases p2.1
        · have := p2.2 q.1; omega
      obtain ⟨x1, x2, x3⟩ := x
      simp only at d0 d1 d2 HNO
      obtain ⟨W, hW⟩ : ∃ W, g.val.alloc (.cells #[.int .i64 x1, .int .i64 x2, .int .i64 x3] 47) = W := ⟨_, rfl⟩
      have HW := Lib.hid hW
      have BW : Hid (Below w.heap.size w W) := by show Below _ _ _; rw [← hW]; exact g.ok.alloc g.ok.size _
      have L0 : ∀ g2 : Gr W, g2.val.cell? ⟨g.val.heap.size, 0, none⟩ = some (.int .i64 x1) := fun g2 => cell_old (w := W) (by rw [← hW]; exact box_at (w := g.val) (t := 47) (C := #[.int .i64 x1, .int .i64 x2, .int .i64 x3]) rfl ⟨_, Below.refl _ _⟩) g2.ok
      have L1 : ∀ g2 : Gr W, g2.val.cell? ⟨g.val.heap.size, 1, none⟩ = some (.int .i64 x2) := fun g2 => cell_old (w := W) (by rw [← hW]; exact box_at (w := g.val) (t := 47) (C := #[.int .i64 x1, .int .i64 x2, .int .i64 x3]) rfl ⟨_, Below.refl _ _⟩) g2.ok
      have L2 : ∀ g2 : Gr W, g2.val.cell? ⟨g.val.heap.size, 2, none⟩ = some (.int .i64 x3) := fun g2 => cell_old (w := W) (by rw [← hW]; exact box_at (w := g.val) (t := 47) (C := #[.int .i64 x1, .int .i64 x2, .int .i64 x3]) rfl ⟨_, Below.refl _ _⟩) g2.ok
      have HGR : Hid (∀ g2 : Gr W, ∃ g3 : Gr w, g2.val = g3.val) := fun g2 => ⟨⟨g2.val, BW.out.trans (g2.ok.mono BW.out.size)⟩, rfl⟩
      clear hW
      have HX := Lib.hid (fun g2 : Gr W => emay3_any x1 x2 x3 g2.val)
      have HM0 := Lib.hid (fun g2 : Gr W => isMinute_g x1 g2.val)
      cases hst : stampB x1 with
      | false =>
        have E : Hid (r = false) := HNO.out (.inl hst)
        have HM := HM0
        rw [hst] at HM
        clear HM0 hst hx
        go_upto_region 6 with fail
        rw [HW.out]
        refine Gr.region (by kernel_rfl) (by kernel_rfl) (Gr.draw0 _) ?_
        repeat (go_big_quiet_step (first | (go_at_call 27; exact Gr.calls _ (HX.out _)) | (go_at_call 20; exact Gr.calls _ (HM.out _))))
        refine wpQuiet_nil ?_
        rintro _ ⟨g2, rfl⟩
        obtain ⟨g3, hg3⟩ := HGR.out g2
        rw [hg3]
        go_wp2
        go_ret
        exact ⟨ret_bool E.out.symm, g3.ok⟩
      | true =>
        have HM := HM0
        rw [hst] at HM
        have HST := Lib.hid hst
        clear HM0 hst
        rcases Nat.eq_zero_or_pos i with rfl | hi0
        · have HNX : Hid (∀ j, j < 0 + 1 → okA l j) := fun j hj => by
            obtain rfl : j = 0 := by omega
            unfold okA; rw [HXE.out]; exact ⟨HST.out, fun h => absurd h (Nat.lt_irrefl _)⟩
          have d0' : g.val.cell? ⟨b, off, none⟩ = some (.int .i64 x1) := by simpa using d0
          have d1' : g.val.cell? ⟨b, off + 1, none⟩ = some (.int .i64 x2) := by simpa using d1
          have d2' : g.val.cell? ⟨b, off + 2, none⟩ = some (.int .i64 x3) := by simpa using d2
          clear hx
          go_upto_region 6 with fail
          rw [HW.out]
          refine Gr.region (by kernel_rfl) (by kernel_rfl) (Gr.draw0 _) ?_
          repeat (go_big_quiet_step (first | (go_at_call 27; exact Gr.calls _ (HX.out _)) | (go_at_call 20; exact Gr.calls _ (HM.out _))))
          refine wpQuiet_nil ?_
          rintro _ ⟨g2, rfl⟩
          obtain ⟨g3, hg3⟩ := HGR.out g2
          rw [hg3]
          go_wp2
          go_roundw
          case rel => exact ⟨0 + 1, g3, rfl, hlt, by go_num, HNX.out⟩
          case measure => simp [intOf]; omega
        · have hi1 : i - 1 < l.length := by omega
          have hip : (0 : Int) < i := by omega
          have hipb : decide ((0 : Int) < i) = true := decide_eq_true hip
          obtain ⟨y, hy⟩ : ∃ y, l[i - 1]? = some y := ⟨_, List.getElem?_eq_getElem hi1⟩
          have HYE : Hid (l.getD (i - 1) (0, 0, 0) = y) := by show _ = _; rw [List.getD_eq_getElem?_getD, hy]; rfl
          have hce2 := fun g2 : Gr w => (HA.out.gr g2).shift hy
          obtain ⟨y1, y2, y3⟩ := y
          simp only at hce2
          have M : ∀ g2 : Gr W, g2.val.cell? ⟨b, off + (i - 1) * 3, none⟩ = some (.int .i64 y1) ∧ g2.val.cell? ⟨b, off + (i - 1) * 3 + 1, none⟩ = some (.int .i64 y2) ∧ g2.val.cell? ⟨b, off + (i - 1) * 3 + 2, none⟩ = some (.int .i64 y3) := fun g2 => by
            obtain ⟨g3, hg3⟩ := HGR.out g2
            rw [hg3]
            obtain ⟨b2, off2, e2, hb2, h3⟩ := hce2 g3
            obtain ⟨rfl, rfl⟩ : b2 = b ∧ off2 = off := by simp only [Option.some.injEq, Addr.mk.injEq, and_true] at e2; exact ⟨e2.1.symm, e2.2.symm⟩
            exact h3
          have M0 := fun g2 => (M g2).1
          have M1 := fun g2 => (M g2).2.1
          have M2 := fun g2 => (M g2).2.2
          have hn1 : ((i : Int) - 1).toNat = i - 1 := by omega
          have hw1 : IntKind.i64.wrap ((i : Int) - 1) = (i : Int) - 1 := IntWalk.i64_in _ (by omega)
          have hp1 : (0 : Int) ≤ (i : Int) - 1 := by omega
          have hp2 : (i : Int) - 1 < n := by omega
          have HY := Lib.hid (fun g2 : Gr W => emay3_any y1 y2 y3 g2.val)
          by_cases hc : x1 ≤ y1
          · have hcb : decide (x1 ≤ y1) = true := decide_eq_true hc
            have E : Hid (r = false) := HNO.out (.inr ⟨hi0, by rw [HYE.out]; exact hc⟩)
            clear hx hy hce2 M
            go_upto_region 6 with fail
            rw [HW.out]
            refine Gr.region (by kernel_rfl) (by kernel_rfl) (Gr.draw0 _) ?_
            repeat (go_big_quiet_step (first | (go_at_call 27; exact Gr.calls _ (HX.out _)) | (go_at_call 27; exact Gr.calls _ (HY.out _)) | (go_at_call 20; exact Gr.calls _ (HM.out _))))
            refine wpQuiet_nil ?_
            rintro _ ⟨g2, rfl⟩
            obtain ⟨g3, hg3⟩ := HGR.out g2
            rw [hg3]
            go_wp2
            go_ret
            exact ⟨ret_bool E.out.symm, g3.ok⟩
          · have hcb : decide (x1 ≤ y1) = false := decide_eq_false hc
            have HNX : Hid (∀ j, j < i + 1 → okA l j) := fun j hj => by
              by_cases e : j = i
              · subst e; unfold okA; rw [HXE.out, HYE.out]; exact ⟨HST.out, fun _ => by simp only; omega⟩
              · exact HF.out j (by omega)
            clear hx hy hce2 M
            go_upto_region 6 with fail
            rw [HW.out]
            refine Gr.region (by kernel_rfl) (by kernel_rfl) (Gr.draw0 _) ?_
            repeat (go_big_quiet_step (first | (go_at_call 27; exact Gr.calls _ (HX.out _)) | (go_at_call 27; exact Gr.calls _ (HY.out _)) | (go_at_call 20; exact Gr.calls _ (HM.out _))))
            refine wpQuiet_nil ?_
            rintro _ ⟨g2, rfl⟩
            obtain ⟨g3, hg3⟩ := HGR.out g2
            rw [hg3]
            go_wp2
            go_roundw
            case rel => exact ⟨i + 1, g3, rfl, hlt, by go_num, HNX.out⟩
            case measure => simp [intOf]; omega
    · obtain rfl : i = n := by omega
      have E : Hid (r = true) := by show _ = _; rw [← HR.out]; exact decide_eq_true ⟨fun j hj => HF.out j (by rw [← HN.out]; exact hj), by rw [HN.out]; exact h50n⟩
      go_wp2_with fail
      go_ret
      exact ⟨ret_bool E.out.symm, g.ok⟩
set_option maxRecDepth 100000 in
set_option maxHeartbeats 1000000 in
theorem pindexC_any (l : List (Int × Int × Int)) (A : Option Addr) (c : Nat) (w : World) (h : Sl w A l.length c (tv l)) :
    Calls Tryz.prog 60 #[.slice A l.length c, .func (.func 29) #[] #[]] w
      fun e w' => (∃ n : Int, e = .returned (.int .i64 n) ∧ (0 ≤ n ↔ ∃ x ∈ l, chB x.2.1 x.2.2 = false)) ∧ Below w.heap.size w w' := by
  have hl : l.length ≤ 9223372036854775807 := Nat.le_trans h.le h.cap
  have HA := Lib.hid h
  clear h
  obtain ⟨n, hn⟩ : ∃ n, l.length = n := ⟨_, rfl⟩
  have HN := Lib.hid hn
  rw [hn] at HA hl ⊢
  clear hn
  go_enter Tryz.func60, Tryz.ntmps60
  go_wp2_with fail
  go_loopw [8] (fun s wr => ∃ (i : Nat) (g : Gr w), wr = g.val ∧ i ≤ n ∧ s = .int .i64 i ∧ Hid (∀ j (hj : j < l.length), j < i → chB l[j].2.1 l[j].2.2 = true)) (fun s _ => n - (intOf s).toNat)
  case atStart => exact ⟨0, ⟨w, Below.refl _ _⟩, rfl, Nat.zero_le _, rfl, fun j _ hj => absurd hj (Nat.not_lt_zero _)⟩
  case round =>
    obtain ⟨i, g, rfl, hi, rfl, HF⟩ := hrel
    by_cases hlt : i < n
    · have hil : i < l.length := by rw [HN.out]; exact hlt
      have hiz : (i : Int) < n := by omega
      obtain ⟨b, off, rfl, hbs, d0, d1, d2⟩ := (HA.out.gr g).shift (List.getElem?_eq_getElem hil)
      have HMEM : Hid (l[i] ∈ l) := List.getElem_mem hil
      have HST : Hid (chB l[i].2.1 l[i].2.2 = true → ∀ j (hj : j < l.length), j < i + 1 → chB l[j].2.1 l[j].2.2 = true) := fun q j hj hj2 => by
        by_cases e : j = i
        · subst e; exact q
        · exact HF.out j hj (by omega)
      have HC := Lib.hid (fun w => emay4_any l[i].1 l[i].2.1 l[i].2.2 w)
      cases hq : chB l[i].2.1 l[i].2.2 with
      | false =>
        have E : Hid (∃ x ∈ l, chB x.2.1 x.2.2 = false) := ⟨_, HMEM.out, hq⟩
        rw [hq] at HC
        clear HMEM HST hq
        generalize l[i] = x at *
        obtain ⟨x1, x2, x3⟩ := x
        simp only at d0 d1 d2 HC
        go_wp2_with (go_at_call 29; (with_reducible refine (HC.out _).mono ?_); rintro e w' ⟨rfl, hb⟩; obtain ⟨g2, rfl⟩ := g.on hb)
        go_ret
        exact ⟨⟨_, rfl, ⟨fun _ => E.out, fun _ => by omega⟩⟩, g2.ok⟩
      | true =>
        have E := Lib.hid (HST.out hq)
        rw [hq] at HC
        clear HMEM HST hq
        generalize l[i] = x at *
        obtain ⟨x1, x2, x3⟩ := x
        simp only at d0 d1 d2 HC
        go_wp2_with (go_at_call 29; (with_reducible refine (HC.out _).mono ?_); rintro e w' ⟨rfl, hb⟩; obtain ⟨g2, rfl⟩ := g.on hb)
        go_roundw
        case rel => exact ⟨i + 1, g2, rfl, hlt, by go_num, E.out⟩
        case measure => simp [intOf]; omega
    · obtain rfl : i = n := by omega
      have E : Hid (¬ ∃ x ∈ l, chB x.2.1 x.2.2 = false) := by
        rintro ⟨x, hx, q⟩
        obtain ⟨j, hj, rfl⟩ := List.mem_iff_getElem.1 hx
        have := HF.out j hj (by rw [← HN.out]; exact hj)
        rw [this] at q; cases q
      go_wp2_with fail
      go_ret
      exact ⟨⟨_, rfl, ⟨fun h => absurd h (by omega), fun h => absurd h E.out⟩⟩, g.ok⟩
end Go.Proofs.YtfjmofefciopmaaGreat
end
section
namespace Go.Proofs.YtfjmofefciopmaaGreat
open Go.ChangeShapes Go.WideShapes Go.ChangeAt Go.RowKit Go.Joins Go.Sort Sp Ev
def fstI (p : Int → Bool) : List Int → Nat
  | [] => 0
  | x :: l => if p x = true then 0 else fstI p l + 1
theorem fstI_le (p : Int → Bool) : ∀ l, fstI p l ≤ l.length
  | [] => Nat.le_refl _
  | x :: l => by unfold fstI; split; · exact Nat.zero_le _
                 · exact Nat.succ_le_succ (fstI_le p l)
theorem fstI_eq (p : Int → Bool) : ∀ (l : List Int) (k : Nat) (hk : k ≤ l.length), (∀ j (hj : j < l.length), j < k → p l[j] = false) → (∀ hk : k < l.length, p l[k] = true) → fstI p l = k
  | [], k, hk, _, _ => by simp at hk; rw [hk]; rfl
  | x :: l, k, hk, h0, h1 => by
    unfold fstI
    cases k with
    | zero => have := h1 (by simp); simp at this; rw [if_pos this]
    | succ k =>
      have := h0 0 (by simp) (by omega)
      simp at this
      rw [if_neg (by rw [this]; simp), fstI_eq p l k (by simpa using hk) (fun j hj hjk => by have := h0 (j + 1) (by simpa using hj) (by omega); simpa using this) (fun hk => by have := h1 (by simpa using hk); simpa using this)]
theorem fst_keep (p : Int → Bool) : ∀ l : List Int, (l.take (fstI p l)).filter (fun x => !p x) = l.take (fstI p l)
  | [] => rfl
  | x :: l => by
    unfold fstI
    split
    · rfl
    · rename_i h
      rw [List.take_succ_cons, List.filter_cons_of_pos (by simpa using h), fst_keep p l]
theorem fst_none {p : Int → Bool} {l : List Int} (h : fstI p l = l.length) : l.filter (fun x => !p x) = l := by
  have := fst_keep p l
  rwa [h, List.take_length] at this
theorem fst_hit (p : Int → Bool) : ∀ (l : List Int) (h : fstI p l < l.length), p l[fstI p l] = true
  | [], h => absurd h (Nat.not_lt_zero _)
  | x :: l, h => by
    by_cases hx : p x = true
    · have e : fstI p (x :: l) = 0 := by rw [fstI, if_pos hx]
      simp only [e]; exact hx
    · have e : fstI p (x :: l) = fstI p l + 1 := by rw [fstI, if_neg hx]
      simp only [e]
      exact fst_hit p l (by rw [e] at h; simpa using h)
set_option maxRecDepth 100000 in
set_option maxHeartbeats 1000000 in
theorem indexF_any (l : List Int) (A : Option Addr) (c : Nat) (p : Int → Bool) (cb : Array Value) (w : World) (h : Sl w A l.length c (iv l))
    (hp : ∀ (V : Gr w) (x : Int), Calls Tryz.prog 71 (#[.int .i64 x] ++ cb) V.val fun e w' => e = .returned (.bool (p x)) ∧ Below V.val.heap.size V.val w') :
    Calls Tryz.prog 92 #[.slice A l.length c, .func (.func 71) #[] cb] w
      fun e w' => e = .returned (.int .i64 (if fstI p l < l.length then (fstI p l : Int) else -1)) ∧ Below w.heap.size w w' := by
  have hl : l.length ≤ 9223372036854775807 := Nat.le_trans h.le h.cap
  have HA := Lib.hid h
  have HP := Lib.hid hp
  clear h hp
  obtain ⟨n, hn⟩ : ∃ n, l.length = n := ⟨_, rfl⟩
  have HN := Lib.hid hn
  obtain ⟨r, hr⟩ : ∃ r : Int, (if fstI p l < l.length then (fstI p l : Int) else -1) = r := ⟨_, rfl⟩
  rw [hr]
  have HR := Lib.hid hr
  rw [hn] at HA hl ⊢
  clear hn hr
  go_enter Tryz.func92, Tryz.ntmps92
  go_wp2_with fail
  go_loopw [8] (fun s wr => ∃ (i : Nat) (g : Gr w), wr = g.val ∧ i ≤ n ∧ s = .int .i64 i ∧ Hid (∀ j (hj : j < l.length), j < i → p l[j] = false)) (fun s _ => n - (intOf s).toNat)
  case atStart => exact ⟨0, ⟨w, Below.refl _ _⟩, rfl, Nat.zero_le _, rfl, fun j _ hj => absurd hj (Nat.not_lt_zero _)⟩
  case round =>
    obtain ⟨i, g, rfl, hi, rfl, HF⟩ := hrel
    by_cases hlt : i < n
    · have hil : i < l.length := by rw [HN.out]; exact hlt
      have hiz : (i : Int) < n := by omega
      obtain ⟨b, off, rfl, hbs, hc⟩ := HA.out.intG (List.getElem?_eq_getElem hil)
      have d0 := hc g
      have HC := Lib.hid (HP.out g l[i])
      have HY : Hid (p l[i] = true → r = (i : Int)) := fun q => by
        rw [← HR.out, fstI_eq p l i (by omega) HF.out (fun _ => q), if_pos hil]
      have HN2 : Hid (p l[i] = false → ∀ j (hj : j < l.length), j < i + 1 → p l[j] = false) := fun q j hj hj2 => by
        by_cases e : j = i
        · subst e; exact q
        · exact HF.out j hj (by omega)
      clear hc
      generalize l[i] = x at *
      cases hq : p x with
      | true =>
        have E := Lib.hid (HY.out hq)
        rw [hq] at HC
        clear hq HY HN2
        go_wp2_with (go_at_call 71; (with_reducible refine HC.out.mono ?_); rintro e w' ⟨rfl, hb⟩; obtain ⟨g2, rfl⟩ := g.on hb)
        go_ret
        exact ⟨ret_int E.out.symm, g2.ok⟩
      | false =>
        have E := Lib.hid (HN2.out hq)
        rw [hq] at HC
        clear hq HY HN2
        go_wp2_with (go_at_call 71; (with_reducible refine HC.out.mono ?_); rintro e w' ⟨rfl, hb⟩; obtain ⟨g2, rfl⟩ := g.on hb)
        go_roundw
        case rel => exact ⟨i + 1, g2, rfl, hlt, by go_num, E.out⟩
        case measure => simp [intOf]; omega
    · obtain rfl : i = n := by omega
      have E : Hid (r = -1) := by
        show _ = _
        rw [← HR.out, fstI_eq p l l.length (Nat.le_refl _) (fun j hj _ => HF.out j hj (by rw [← HN.out]; exact hj)) (fun h => absurd h (Nat.lt_irrefl _)), if_neg (Nat.lt_irrefl _)]
      go_wp2_with fail
      go_ret
      exact ⟨ret_int E.out.symm, g.ok⟩
structure KeptI (p : Int → Bool) (l X : List Int) (i j : Nat) : Prop where
  len : X.length = l.length
  lt : i < j
  le : j ≤ l.length
  pre : X.take i = (l.take j).filter fun x => !p x
  suf : X.drop j = l.drop j
theorem KeptI.start {p : Int → Bool} {l : List Int} (h : fstI p l < l.length) : KeptI p l l (fstI p l) (fstI p l + 1) :=
  ⟨rfl, Nat.lt_succ_self _, h, by rw [List.take_add_one, List.getElem?_eq_getElem h, List.filter_append, fst_keep]; simp [fst_hit p l h], rfl⟩
theorem KeptI.skip {p : Int → Bool} {l X : List Int} {i j : Nat} (h : KeptI p l X i j) (hj : j < l.length) (hp : p l[j] = true) : KeptI p l X i (j + 1) :=
  ⟨h.len, by have := h.lt; omega, hj, by rw [List.take_add_one, List.getElem?_eq_getElem hj, List.filter_append, ← h.pre]; simp [hp], by
    have := congrArg (List.drop 1) h.suf
    rwa [List.drop_drop, List.drop_drop] at this⟩
theorem KeptI.keep {p : Int → Bool} {l X : List Int} {i j : Nat} (h : KeptI p l X i j) (hj : j < l.length) (hp : p l[j] = false) : KeptI p l (X.set i l[j]) (i + 1) (j + 1) := by
  have hlt := h.lt
  have hlen := h.len
  refine ⟨by rw [List.length_set]; exact h.len, by omega, hj, ?_, ?_⟩
  · rw [List.take_add_one (l := l), List.getElem?_eq_getElem hj, List.filter_append, ← h.pre, List.take_add_one, List.getElem?_set_self (by omega), List.take_set_of_le (by omega)]
    simp [hp]
  · rw [List.drop_set_of_lt (by omega)]
    have := congrArg (List.drop 1) h.suf
    rwa [List.drop_drop, List.drop_drop] at this
theorem KeptI.get {p : Int → Bool} {l X : List Int} {i j : Nat} (h : KeptI p l X i j) (hj : j < l.length) : X[j]? = some l[j] := by
  have := congrArg (fun q : List Int => q[0]?) h.suf
  simp only [List.getElem?_drop, Nat.add_zero] at this
  rw [this, List.getElem?_eq_getElem hj]
theorem i64_zero : ∀ w : World, (zeroValue 2).run Tryz.prog w = .ok (.int .i64 0) w := Tryz.zeroValue2
set_option maxRecDepth 100000 in
set_option maxHeartbeats 4000000 in
theorem deleteF_any (l : List Int) (g0 cap : Nat) (p : Int → Bool) (cb : Array Value) (w : World) (h : RowAt w g0 cap 2 (iv l))
    (hp : ∀ (V : World) (x : Int), Off (fun b => b = g0) w V → Calls Tryz.prog 71 (#[.int .i64 x] ++ cb) V fun e w' => e = .returned (.bool (p x)) ∧ Below V.heap.size V w') :
    Calls Tryz.prog 69 #[.slice (some ⟨g0, 0, none⟩) l.length cap, .func (.func 71) #[] cb] w
      fun e w' => e = .returned (.slice (some ⟨g0, 0, none⟩) (l.filter fun x => !p x).length cap) ∧ RowAt w' g0 cap 2 (iv (l.filter fun x => !p x)) ∧ Off (fun b => b = g0) w w' := by
  have hsl := h.toSl
  rw [iv_len] at hsl
  have hlen : l.length ≤ cap := hsl.le
  have hcap : cap ≤ 9223372036854775807 := hsl.cap
  have HI := Lib.hid (indexF_any l _ cap p cb w hsl (fun V x => hp V.val x (.of_below V.ok)))
  have HP := Lib.hid hp
  have HRW := Lib.hid h
  have HFL := Lib.hid (fstI_le p l)
  clear hp h hsl
  obtain ⟨k0, hk0⟩ : ∃ k0, fstI p l = k0 := ⟨_, rfl⟩
  by_cases hk : fstI p l < l.length
  · rw [if_pos hk] at HI
    have HST := Lib.hid (KeptI.start hk)
    rw [hk0] at HI hk HST
    clear hk0
    have hne : ((k0 : Int) == -1) = false := beq_eq_false_iff_ne.2 (by omega)
    have hw1 : IntKind.i64.wrap ((k0 : Int) + 1) = ((k0 + 1 : Nat) : Int) := by rw [IntKind.wrap_i64]; omega
    obtain ⟨n, hn⟩ : ∃ n, l.length = n := ⟨_, rfl⟩
    have HN := Lib.hid hn
    rw [hn] at HI hlen hk ⊢
    obtain ⟨R, hR⟩ : ∃ R, (l.filter fun x => !p x) = R := ⟨_, rfl⟩
    have HR := Lib.hid hR
    rw [hR]
    clear hn hR
    go_enter Tryz.func69, Tryz.ntmps69
    go_wp2_with (go_at_call 92; (with_reducible refine HI.out.mono ?_); rintro e w1 ⟨rfl, hb⟩)
    have HO1 : Hid (Off (fun b => b = g0) w w1) := .of_below hb
    have HR1 : Hid (RowAt w1 g0 cap 2 (iv l)) := HRW.out.below hb HRW.out.lt
    clear hb hw1 hne
    go_loopw [5, 6, 7] (fun s5 s6 _ wr => ∃ (i j : Nat) (X : List Int), s5 = .int .i64 i ∧ s6 = .int .i64 j ∧ j ≤ n ∧ Hid (KeptI p l X i j) ∧ Hid (RowAt wr g0 cap 2 (iv X)) ∧ Hid (Off (fun b => b = g0) w wr)) (fun _ s6 _ _ => n - (intOf s6).toNat)
    case atStart => exact ⟨k0, k0 + 1, l, rfl, by go_num, by omega, HST, HR1, HO1⟩
    case round =>
      obtain ⟨i, j, X, rfl, rfl, hjn, HK, HW, HO⟩ := hrel
      have hij := HK.out.lt
      by_cases hlt : j < n
      · have hjl : j < l.length := by rw [HN.out]; exact hlt
        have hjz : (j : Int) < n := by omega
        obtain ⟨q1, _⟩ := HW.out.get (iv_at (HK.out.get hjl))
        have hiX : i < X.length := by rw [HK.out.len]; omega
        obtain ⟨q2, q3⟩ := HW.out.get (iv_at (List.getElem?_eq_getElem hiX))
        have hwi : IntKind.i64.wrap ((i : Int) + 1) = ((i + 1 : Nat) : Int) := by rw [IntKind.wrap_i64]; omega
        have hwj : IntKind.i64.wrap ((j : Int) + 1) = ((j + 1 : Nat) : Int) := by rw [IntKind.wrap_i64]; omega
        have hin : (i : Int) < n := by omega
        have HC := Lib.hid (HP.out wr l[j] HO.out)
        have HSK := Lib.hid (HK.out.skip hjl)
        have HKP := Lib.hid (HK.out.keep hjl)
        generalize l[j] = x at *
        generalize X[i] = old at *
        cases hq : p x with
        | true =>
          rw [hq] at HC
          have E := Lib.hid (HSK.out hq)
          clear HSK HKP hq q2 q3
          go_wp2_with (go_at_call 71; (with_reducible refine HC.out.mono ?_); rintro e w2 ⟨rfl, hb⟩)
          have HO2 : Hid (Off (fun b => b = g0) w w2) := HO.out.trans' (.of_below hb)
          have HR2 : Hid (RowAt w2 g0 cap 2 (iv X)) := HW.out.below hb HW.out.lt
          go_roundw
          case rel => exact ⟨i, j + 1, X, rfl, by go_num, hlt, E, HR2, HO2⟩
          case measure => simp [intOf]; omega
        | false =>
          rw [hq] at HC
          have E := Lib.hid (HKP.out hq)
          clear HSK HKP hq
          go_wp2_with fail
          go_at_call 71
          refine HC.out.mono ?_
          rintro e w2 ⟨rfl, hb⟩
          have HO2 : Hid (Off (fun b => b = g0) w w2) := HO.out.trans' (.of_below hb)
          have HR2 : Hid (RowAt w2 g0 cap 2 (iv X)) := HW.out.below hb HW.out.lt
          have hg0 := HW.out.lt
          have q4 : w2.cell? ⟨g0, i, none⟩ = some (.int .i64 old) := cell_old q2 hb
          have q5 : w2.frozen? ⟨g0, i, none⟩ = false := by
            obtain ⟨cur, hc, _⟩ := HR2.out
            simp [World.frozen?, hc]
          clear hb q1 q2 q3
          go_wp2_with fail
          go_roundw
          case rel => exact ⟨i + 1, j + 1, X.set i x, by go_num, by go_num, hlt, E, by rw [← iv_set]; exact HR2.out.set i _, HO2.out.setCell (.inl rfl) _⟩
          case measure => simp [intOf]; omega
      · obtain rfl : j = n := by omega
        have hXl : X.length = j := by rw [HK.out.len]; exact HN.out
        have E : Hid (X.take i = R) := by
          show _ = _
          rw [HK.out.pre, ← HN.out, List.take_length, HR.out]
        have hcl : ∀ ty, (Builtin.clear_ #[29] ty #[.slice (some ⟨g0, i, none⟩) (j - i) (cap - i)]).run Tryz.prog wr = .ok (.tuple #[]) (wr.setCells g0 i (List.replicate (j - i) (.int .i64 0))) := fun ty => by
          have := Lib.run_clear_slice (P := Tryz.prog) wr 29 2 ty (.int .i64 0) Tryz.underlying29 i64_zero rfl rfl g0 i (j - i) (cap - i) (by omega) (fun t ht => by
            have hh : i + t < X.length := by omega
            rw [(HW.out.get (iv_at (List.getElem?_eq_getElem hh))).1]; rfl) (fun t ht => by
            have hh : i + t < X.length := by omega
            exact (HW.out.get (iv_at (List.getElem?_eq_getElem hh))).2)
          exact this
        have hlR : R.length = i := by rw [← E.out, List.length_take]; omega
        have HLR := Lib.hid hlR
        have hiz : (i : Int) ≤ j := by omega
        have hi0 : (0 : Int) ≤ i := by omega
        have hic : (i : Int) ≤ cap := by omega
        clear hlR
        go_wp2_with fail
        go_ret
        refine ⟨by rw [HLR.out]; rfl, ?_, off_setCells (F := fun b => b = g0) rfl _ _ _ HO.out⟩
        rw [← E.out, ← iv_take]
        refine RowAt.farAll _ _ _ (HW.out.cut i) ?_
        rw [List.length_take, iv_len]; omega
  · rw [if_neg hk] at HI
    have hke : fstI p l = l.length := by have := HFL.out; omega
    have E : Hid ((l.filter fun x => !p x) = l) := fst_none hke
    rw [E.out]
    clear hk0 hk hke
    go_enter Tryz.func69, Tryz.ntmps69
    go_wp2_with (go_at_call 92; (with_reducible refine HI.out.mono ?_); rintro e w1 ⟨rfl, hb⟩)
    have HO1 : Hid (Off (fun b => b = g0) w w1) := .of_below hb
    have HR1 : Hid (RowAt w1 g0 cap 2 (iv l)) := HRW.out.below hb HRW.out.lt
    go_ret
    exact ⟨rfl, HR1.out, HO1.out⟩
end Go.Proofs.YtfjmofefciopmaaGreat
end
