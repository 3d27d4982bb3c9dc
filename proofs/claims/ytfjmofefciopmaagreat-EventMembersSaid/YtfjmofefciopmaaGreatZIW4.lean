import Derived.Test.YtfjmofefciopmaaGreatZMK
import Derived.Test.YtfjmofefciopmaaGreatZShelf
import Derived.Test.YtfjmofefciopmaaGreatZEW7
import Derived.Shelf.SlicesE.Index
/- Contracts of the program's events: is a stamp among others; is it changed; what a zone makes of a time. -/
section
namespace Go.Proofs.YtfjmofefciopmaaGreat
open Go.ChangeShapes Go.WideShapes Go.ChangeAt Go.RowKit Go.Joins Sp Ev Qr
theorem mem_any (l : List Int) (x : Int) : (l.any fun y => x == y) = Tm.memB l x := by
  unfold Tm.memB
  congr 1; funext y; rw [Bool.eq_iff_iff, beq_iff_eq, decide_eq_true_eq]; exact eq_comm
theorem pcont64_any (l : List Int) (A : Option Addr) (c : Nat) (x : Int) (w : World) (hs : Sl w A l.length c (iv l)) :
    Calls Tryz.prog 72 #[.slice A l.length c, .int .i64 x] w fun e w' => e = .returned (.bool (Tm.memB l x)) ∧ w = w' := by
  by_cases hl : 0 < l.length
  · obtain ⟨b, off, rfl, _⟩ := hs.at_ (iv_at (List.getElem?_eq_getElem hl))
    have hcon := AnyE.slices_Contains Tryz.contains64 (Value.int .i64) (fun a b => a == b) (EqlAt.int _ _ .i64) b off l.length c l x w (Nat.le_refl _) (Nat.le_trans hs.le hs.cap) (fun j hj => by
      obtain ⟨b', off', e, _, hc⟩ := hs.at_ (iv_at (List.getElem?_eq_getElem hj))
      simp only [Option.some.injEq, Addr.mk.injEq, and_true] at e
      obtain ⟨rfl, rfl⟩ := e
      rw [hc, getElem!_pos l j hj])
    change Calls Tryz.prog 72 _ _ _ at hcon
    refine hcon.mono ?_
    rintro e w' ⟨rfl, rfl⟩
    exact ⟨ret_bool (by rw [List.take_length, mem_any]), rfl⟩
  · have h0 : l = [] := List.length_eq_zero_iff.1 (by omega)
    subst h0
    have hcon := AnyE.slices_Contains_empty Tryz.contains64 A c (.int .i64 x) w
    change Calls Tryz.prog 72 _ _ _ at hcon
    refine hcon.mono ?_
    rintro e w' ⟨rfl, rfl⟩
    exact ⟨rfl, rfl⟩
theorem un11_any (a s g x : Int) (b : Nat) (w : World) (hb : w.cell? ⟨b, 0, none⟩ = some (.int .i64 x)) :
    Calls Tryz.prog 73 #[.agg #[.int .i64 a, .int .i64 s, .int .i64 g], .pointer (some ⟨b, 0, none⟩)] w fun e w' => e = .returned (.bool (decide (a = x))) ∧ Below w.heap.size w w' := by
  have HB := Lib.hid ((Below.refl w.heap.size w).alloc (Nat.le_refl _) (.cells #[.int .i64 a, .int .i64 s, .int .i64 g] 47))
  have d0 : (w.alloc (.cells #[.int .i64 a, .int .i64 s, .int .i64 g] 47)).cell? ⟨b, 0, none⟩ = some (.int .i64 x) := cell_old hb ((Below.refl w.heap.size w).alloc (Nat.le_refl _) _)
  obtain ⟨q, hq⟩ : ∃ q, decide (a = x) = q := ⟨_, rfl⟩
  rw [hq]
  have h1 : (a == x) = q := by rw [← hq, Bool.eq_iff_iff]; simp
  clear hq
  go_enter Tryz.func73, Tryz.ntmps73
  go_wp2_with fail
  go_ret
  exact ⟨rfl, HB.out⟩
set_option maxRecDepth 100000 in
set_option maxHeartbeats 1000000 in
theorem pindexU_any (l : List (Int × Int × Int)) (A : Option Addr) (c : Nat) (x : Int) (bx : Nat) (w : World) (h : Sl w A l.length c (tv l)) (hb : w.cell? ⟨bx, 0, none⟩ = some (.int .i64 x)) :
    Calls Tryz.prog 60 #[.slice A l.length c, .func (.func 73) #[] #[.pointer (some ⟨bx, 0, none⟩)]] w
      fun e w' => (∃ n : Int, e = .returned (.int .i64 n) ∧ (0 ≤ n ↔ changedB l x = true)) ∧ Below w.heap.size w w' := by
  have hl : l.length ≤ 9223372036854775807 := Nat.le_trans h.le h.cap
  have HA := Lib.hid h
  have HBX := Lib.hid hb
  clear h hb
  obtain ⟨n, hn⟩ : ∃ n, l.length = n := ⟨_, rfl⟩
  have HN := Lib.hid hn
  rw [hn] at HA hl ⊢
  clear hn
  go_enter Tryz.func60, Tryz.ntmps60
  go_wp2_with fail
  go_loopw [8] (fun s wr => ∃ (i : Nat) (g : Gr w), wr = g.val ∧ i ≤ n ∧ s = .int .i64 i ∧ Hid (∀ j (hj : j < l.length), j < i → ¬ l[j].1 = x)) (fun s _ => n - (intOf s).toNat)
  case atStart => exact ⟨0, ⟨w, Below.refl _ _⟩, rfl, Nat.zero_le _, rfl, fun j _ hj => absurd hj (Nat.not_lt_zero _)⟩
  case round =>
    obtain ⟨i, g, rfl, hi, rfl, HF⟩ := hrel
    by_cases hlt : i < n
    · have hil : i < l.length := by rw [HN.out]; exact hlt
      have hiz : (i : Int) < n := by omega
      obtain ⟨b, off, rfl, hbs, d0, d1, d2⟩ := (HA.out.gr g).shift (List.getElem?_eq_getElem hil)
      have HMEM : Hid (l[i] ∈ l) := List.getElem_mem hil
      have HST : Hid (¬ l[i].1 = x → ∀ j (hj : j < l.length), j < i + 1 → ¬ l[j].1 = x) := fun q j hj hj2 => by
        by_cases e : j = i
        · subst e; exact q
        · exact HF.out j hj (by omega)
      have HC := Lib.hid (un11_any l[i].1 l[i].2.1 l[i].2.2 x bx g.val (cell_old HBX.out g.ok))
      have hk : (decide (l[i].1 = x) = true ∧ Hid (changedB l x = true)) ∨ (decide (l[i].1 = x) = false ∧ Hid (∀ j (hj : j < l.length), j < i + 1 → ¬ l[j].1 = x)) := by
        by_cases q : l[i].1 = x
        · exact .inl ⟨decide_eq_true q, by show _ = _; unfold changedB; rw [List.any_eq_true]; exact ⟨_, HMEM.out, decide_eq_true q⟩⟩
        · exact .inr ⟨decide_eq_false q, HST.out q⟩
      clear HMEM HST
      generalize l[i] = y at *
      obtain ⟨x1, x2, x3⟩ := y
      simp only at d0 d1 d2 HC hk
      rcases hk with ⟨hq, E⟩ | ⟨hq, E⟩
      · rw [hq] at HC
        clear hq
        go_wp2_with (go_at_call 73; (with_reducible refine HC.out.mono ?_); rintro e w' ⟨rfl, hb⟩; obtain ⟨g2, rfl⟩ := g.on hb)
        go_ret
        exact ⟨⟨_, rfl, ⟨fun _ => E.out, fun _ => by omega⟩⟩, g2.ok⟩
      · rw [hq] at HC
        clear hq
        go_wp2_with (go_at_call 73; (with_reducible refine HC.out.mono ?_); rintro e w' ⟨rfl, hb⟩; obtain ⟨g2, rfl⟩ := g.on hb)
        go_roundw
        case rel => exact ⟨i + 1, g2, rfl, hlt, by go_num, E⟩
        case measure => simp [intOf]; omega
    · obtain rfl : i = n := by omega
      have E : Hid (¬ changedB l x = true) := by
        show ¬ _
        unfold changedB; rw [List.any_eq_true]
        rintro ⟨y, hy, q⟩
        obtain ⟨j, hj, rfl⟩ := List.mem_iff_getElem.1 hy
        exact HF.out j hj (by rw [← HN.out]; exact hj) (of_decide_eq_true q)
      go_wp2_with fail
      go_ret
      exact ⟨⟨_, rfl, ⟨fun h => absurd h (by omega), fun h => absurd h E.out⟩⟩, g.ok⟩
theorem pcontC_any (l : List (Int × Int × Int)) (A : Option Addr) (c : Nat) (w : World) (h : Sl w A l.length c (tv l)) (q : Bool) (hq : q = true ↔ (∃ x ∈ l, chB x.2.1 x.2.2 = false)) :
    Calls Tryz.prog 28 #[.slice A l.length c, .func (.func 29) #[] #[]] w fun e w' => e = .returned (.bool q) ∧ Below w.heap.size w w' := by
  have HI := Lib.hid (pindexC_any l A c w h)
  have HQ := Lib.hid hq
  clear hq
  go_enter Tryz.func28, Tryz.ntmps28
  go_wp2_with fail
  go_at_call 60
  refine HI.out.mono ?_
  rintro e w1 ⟨⟨n, rfl, hn⟩, hb⟩
  have HB := Lib.hid hb
  have HN := Lib.hid hn
  clear hb hn
  by_cases h0 : 0 ≤ n
  · have h0b : decide (0 ≤ n) = true := decide_eq_true h0
    have E : Hid (q = true) := HQ.out.2 (HN.out.1 h0)
    go_wp2_with fail
    go_ret
    exact ⟨ret_bool E.out.symm, HB.out⟩
  · have h0b : decide (0 ≤ n) = false := decide_eq_false h0
    have E : Hid (q = false) := by
      show _ = _
      cases hh : q with
      | false => rfl
      | true => exact absurd (HN.out.2 (HQ.out.1 hh)) h0
    go_wp2_with fail
    go_ret
    exact ⟨ret_bool E.out.symm, HB.out⟩
theorem pcontU_any (l : List (Int × Int × Int)) (A : Option Addr) (c : Nat) (x : Int) (bx : Nat) (w : World) (h : Sl w A l.length c (tv l)) (hb : w.cell? ⟨bx, 0, none⟩ = some (.int .i64 x)) (q : Bool) (hq : q = true ↔ changedB l x = true) :
    Calls Tryz.prog 28 #[.slice A l.length c, .func (.func 73) #[] #[.pointer (some ⟨bx, 0, none⟩)]] w fun e w' => e = .returned (.bool q) ∧ Below w.heap.size w w' := by
  have HI := Lib.hid (pindexU_any l A c x bx w h hb)
  have HQ := Lib.hid hq
  clear hq
  go_enter Tryz.func28, Tryz.ntmps28
  go_wp2_with fail
  go_at_call 60
  refine HI.out.mono ?_
  rintro e w1 ⟨⟨n, rfl, hn⟩, hb⟩
  have HB := Lib.hid hb
  have HN := Lib.hid hn
  clear hb hn
  by_cases h0 : 0 ≤ n
  · have h0b : decide (0 ≤ n) = true := decide_eq_true h0
    have E : Hid (q = true) := HQ.out.2 (HN.out.1 h0)
    go_wp2_with fail
    go_ret
    exact ⟨ret_bool E.out.symm, HB.out⟩
  · have h0b : decide (0 ≤ n) = false := decide_eq_false h0
    have E : Hid (q = false) := by
      show _ = _
      cases hh : q with
      | false => rfl
      | true => exact absurd (HN.out.2 (HQ.out.1 hh)) h0
    go_wp2_with fail
    go_ret
    exact ⟨ret_bool E.out.symm, HB.out⟩
def offB (ex : List Int) (ch : List (Int × Int × Int)) (x : Int) : Bool := Tm.memB ex x || changedB ch x
set_option maxRecDepth 100000 in
theorem un1_any (ex : List Int) (ch : List (Int × Int × Int)) (A5 A7 : Option Addr) (c5 c7 : Nat) (x : Int) (b : Nat) (w : World) (h5 : w.cell? ⟨b, 13, none⟩ = some (.slice A5 ex.length c5)) (h7 : w.cell? ⟨b, 15, none⟩ = some (.slice A7 ch.length c7)) (s5 : Sl w A5 ex.length c5 (iv ex)) (s7 : Sl w A7 ch.length c7 (tv ch)) :
    Calls Tryz.prog 71 #[.int .i64 x, .pointer (some ⟨b, 0, none⟩)] w fun e w' => e = .returned (.bool (offB ex ch x)) ∧ Below w.heap.size w w' := by
  obtain ⟨W, hW⟩ : ∃ W, w.alloc (.cells #[.int .i64 x] 2) = W := ⟨_, rfl⟩
  have HW := Lib.hid hW
  have BW : Hid (Below w.heap.size w W) := by show Below _ _ _; rw [← hW]; exact (Below.refl _ w).alloc (Nat.le_refl _) _
  have hx : W.cell? ⟨w.heap.size, 0, none⟩ = some (.int .i64 x) := by rw [← hW]; exact box_at (w := w) (t := 2) (C := #[.int .i64 x]) rfl ⟨_, Below.refl _ _⟩
  have p5 : W.cell? ⟨b, 13, none⟩ = some (.slice A5 ex.length c5) := cell_old h5 BW.out
  have p7 : W.cell? ⟨b, 15, none⟩ = some (.slice A7 ch.length c7) := cell_old h7 BW.out
  have H5 := Lib.hid (pcont64_any ex A5 c5 x W (s5.below BW.out (Nat.le_refl _)))
  obtain ⟨q1, hq1⟩ : ∃ q1, Tm.memB ex x = q1 := ⟨_, rfl⟩
  obtain ⟨q2, hq2⟩ : ∃ q2, changedB ch x = q2 := ⟨_, rfl⟩
  have H7 := Lib.hid (pcontU_any ch A7 c7 x w.heap.size W (s7.below BW.out (Nat.le_refl _)) hx q2 (by rw [hq2]))
  obtain ⟨q, hq⟩ : ∃ q, offB ex ch x = q := ⟨_, rfl⟩
  rw [hq]
  unfold offB at hq
  rw [hq1, hq2] at hq
  rw [hq1] at H5
  have HQ := Lib.hid hq
  clear hW hq hq1 hq2 h5 h7 s5 s7
  cases q1 with
  | true =>
    have E : Hid (q = true) := HQ.out.symm
    go_enter Tryz.func71, Tryz.ntmps71
    go_upto_region 1 with fail
    rw [HW.out]
    go_wp2_with (go_at_call 72; (with_reducible refine H5.out.mono ?_); rintro e w' ⟨rfl, rfl⟩)
    go_ret
    exact ⟨ret_bool E.out.symm, BW.out⟩
  | false =>
    have E : Hid (q = q2) := HQ.out.symm
    go_enter Tryz.func71, Tryz.ntmps71
    go_upto_region 1 with fail
    rw [HW.out]
    go_wp2_with fail
    go_at_call 72
    refine H5.out.mono ?_
    rintro e w' ⟨rfl, rfl⟩
    go_wp2_with fail
    go_at_call 28
    refine H7.out.mono ?_
    rintro e w2 ⟨rfl, hb⟩
    have HG : Hid (Below w.heap.size w w2) := BW.out.trans (hb.mono BW.out.size)
    clear hb
    go_wp2_with fail
    go_ret
    exact ⟨ret_bool E.out.symm, HG.out⟩
theorem pinTime_any (n : Int) (w : World) : Calls Tryz.prog 89 #[.int .i64 n] w fun e w' => e = .returned (.int .i64 (min (max n 0) 158310720)) ∧ w = w' := by
  obtain ⟨r, hr⟩ : ∃ r : Int, min (max n 0) 158310720 = r := ⟨_, rfl⟩
  rw [hr]
  have HR := Lib.hid hr
  clear hr
  by_cases h1 : n < 0
  · have E : Hid (r = 0) := by show _ = _; rw [← HR.out]; omega
    have h1b : decide (n < 0) = true := decide_eq_true h1
    have e1 : (if n < 0 then (0 : Int) else n) = 0 := if_pos h1
    have e2 : (if (0 : Int) < n then n else 0) = 0 := if_neg (by omega)
    have e3 : max n 0 = 0 := by omega
    go_enter Tryz.func89, Tryz.ntmps89
    go_wp2_with fail
    go_ret
    exact ⟨ret_int E.out.symm, rfl⟩
  · have h1b : decide (n < 0) = false := decide_eq_false h1
    have e1 : (if n < 0 then (0 : Int) else n) = n := if_neg h1
    have e3 : max n 0 = n := by omega
    have E : Hid (min n 158310720 = r) := by show _ = _; rw [← HR.out]; omega
    go_enter Tryz.func89, Tryz.ntmps89
    go_wp2_with fail
    go_ret
    exact ⟨ret_int E.out, rfl⟩
end Go.Proofs.YtfjmofefciopmaaGreat
end
