import Derived.Test.YtnccgfdaddbndaaZGW1
import Derived.Deep.RegionHeld3
import Derived.Deep.Cut
/- Contracts of the program's rules: rows. -/
section
namespace Go.Proofs.Ytnccgfdaddbndaa
open Go.ChangeShapes Go.WideShapes Go.ChangeAt Go.RowKit Qr Ck

/-- Does a row rise in an order, and may each be? From the i-th on. -/
def rowMB {α : Type} (p : α → Bool) (o : α → α → Int) (l : List α) (d : α) (i : Nat) : Bool :=
  (List.range l.length).all fun j => decide (j < i) || (p (l.getD j d) && (decide (j = 0) || decide (o (l.getD (j - 1) d) (l.getD j d) < 0)))
theorem rowMB_end {α : Type} {p : α → Bool} {o : α → α → Int} {l : List α} {d : α} {i : Nat} (h : l.length ≤ i) : rowMB p o l d i = true := by
  unfold rowMB
  rw [List.all_eq_true]
  intro j hj
  have := List.mem_range.1 hj
  simp; omega
theorem rowMB_iff {α : Type} {p : α → Bool} {o : α → α → Int} {l : List α} {d : α} {i : Nat} : rowMB p o l d i = true ↔ ∀ j, j < l.length → i ≤ j → p (l.getD j d) = true ∧ (j = 0 ∨ o (l.getD (j - 1) d) (l.getD j d) < 0) := by
  unfold rowMB
  rw [List.all_eq_true]
  constructor
  · intro h j hj hi
    have := h j (List.mem_range.2 hj)
    simp only [Bool.or_eq_true, decide_eq_true_eq, Bool.and_eq_true] at this
    rcases this with h1 | h1
    · omega
    · exact h1
  · intro h j hj
    have := List.mem_range.1 hj
    simp only [Bool.or_eq_true, decide_eq_true_eq, Bool.and_eq_true]
    by_cases hji : j < i
    · exact .inl hji
    · exact .inr (h j this (by omega))
theorem rowMB_no {α : Type} {p : α → Bool} {o : α → α → Int} {l : List α} {d : α} {i : Nat} (h : i < l.length) (hn : ¬ (p (l.getD i d) = true ∧ (i = 0 ∨ o (l.getD (i - 1) d) (l.getD i d) < 0))) : rowMB p o l d i = false := by
  cases e : rowMB p o l d i with
  | false => rfl
  | true => exact absurd (rowMB_iff.1 e i h (Nat.le_refl _)) hn
theorem rowMB_yes {α : Type} {p : α → Bool} {o : α → α → Int} {l : List α} {d : α} {i : Nat} (hn : p (l.getD i d) = true ∧ (i = 0 ∨ o (l.getD (i - 1) d) (l.getD i d) < 0)) : rowMB p o l d i = rowMB p o l d (i + 1) := by
  rw [Bool.eq_iff_iff, rowMB_iff, rowMB_iff]
  constructor
  · intro h j hj hi; exact h j hj (by omega)
  · intro h j hj hi
    by_cases e : j = i
    · subst e; exact hn
    · exact h j hj (by omega)

set_option maxRecDepth 100000 in
set_option maxHeartbeats 2000000 in
theorem rowMay_int1 (l : List Int) (A : Option Addr) (c : Nat) (cb : Array Value) (p : Int → Bool) (w : World) (hs : Sl w A l.length c (iv l))
    (hmay : ∀ (g : Gr w) (x : Int), Calls Try.prog 37 (#[.int .i64 x] ++ cb) g.val fun e w' => e = .returned (.bool (p x)) ∧ Below g.val.heap.size g.val w') :
    Calls Try.prog 35 #[.slice A l.length c, .func (.func 36) #[] #[], .func (.func 37) #[] cb] w fun e w' => e = .returned (.bool (rowMB p Lib.compareInt l 0 0)) ∧ Below w.heap.size w w' := by
  have HM := Lib.hid hmay
  have HS := Lib.hid hs
  have hl : l.length ≤ 9223372036854775807 := Nat.le_trans hs.le hs.cap
  clear hmay hs
  obtain ⟨r, hr⟩ : ∃ r, rowMB p Lib.compareInt l 0 0 = r := ⟨_, rfl⟩
  rw [hr]
  have HR := Lib.hid hr
  clear hr
  obtain ⟨n, hn⟩ : ∃ n, l.length = n := ⟨_, rfl⟩
  have HN := Lib.hid hn
  rw [hn] at HS hl ⊢
  clear hn
  go_enter Try.func35, Try.ntmps35
  go_wp2
  go_loopw [11] (fun s11 wr => ∃ (g : Gr w) (k : Nat), wr = g.val ∧ s11 = .int .i64 k ∧ k ≤ n ∧ Hid (rowMB p Lib.compareInt l 0 k = r)) (fun s11 _ => n - (intOf s11).toNat)
  case atStart => exact ⟨⟨w, Below.refl _ _⟩, 0, rfl, rfl, Nat.zero_le _, HR⟩
  case round =>
    obtain ⟨g, k, rfl, rfl, hk, HK⟩ := hrel
    by_cases hlt : k < n
    · have hkl : k < l.length := by rw [HN.out]; exact hlt
      obtain ⟨b, off, rfl, hb, hcell⟩ := HS.out.intG (l := l) (i := k) (x := l[k]) (by simp [hkl])
      have hc0 := hcell g
      have hx : l.getD k 0 = l[k] := by simp [hkl]
      have hmc := HM.out g l[k]
      obtain ⟨pv, hpv⟩ : ∃ pv, p l[k] = pv := ⟨_, rfl⟩
      have HPV := Lib.hid hpv
      rw [hpv] at hmc
      clear hpv
      cases pv with
      | false =>
        have E : Hid (r = false) := by
          show _ = _
          rw [← HK.out]; exact rowMB_no hkl (fun h => by rw [hx, HPV.out] at h; cases h.1)
        generalize l[k] = x at *
        go_wp2_with (go_at_call 37; (with_reducible refine hmc.mono ?_); rintro e w' ⟨rfl, hbb⟩; obtain ⟨g', rfl⟩ := g.on hbb; clear hbb)
        go_ret
        exact ⟨ret_bool E.out.symm, g'.ok⟩
      | true =>
        by_cases hk0 : k = 0
        · have E : Hid (rowMB p Lib.compareInt l 0 (k + 1) = r) := by
            show _ = _
            rw [← HK.out]; exact (rowMB_yes ⟨by rw [hx]; exact HPV.out, .inl hk0⟩).symm
          have hkn : ¬ 0 < k := by omega
          have hkz : decide (0 < k) = false := decide_eq_false hkn
          have hkz' : decide ((0 : Int) < k) = false := decide_eq_false (by omega)
          clear hk0
          generalize l[k] = x at *
          go_wp2_with (go_at_call 37; (with_reducible refine hmc.mono ?_); rintro e w' ⟨rfl, hbb⟩; obtain ⟨g', rfl⟩ := g.on hbb; clear hbb)
          go_roundw
          case rel => exact ⟨g', k + 1, rfl, by go_num, by omega, E⟩
          case measure => simp [intOf]; omega
        · have hk1 : k - 1 < l.length := by omega
          have hkp : (0 : Int) < k := by omega
          have hx1 : l.getD (k - 1) 0 = l[k - 1] := by simp [hk1]
          obtain ⟨b2, off2, e2, hb2, hcell2⟩ := HS.out.intG (l := l) (i := k - 1) (x := l[k - 1]) (by simp [hk1])
          obtain ⟨rfl, rfl⟩ : b2 = b ∧ off2 = off := by simp only [Option.some.injEq, Addr.mk.injEq, and_true] at e2; exact ⟨e2.1.symm, e2.2.symm⟩
          have hn1 : ((k : Int) - 1).toNat = k - 1 := by omega
          have HC := Lib.hid (fun w => cmp_any l[k - 1] l[k] w)
          by_cases hc : Lib.compareInt l[k - 1] l[k] < 0
          · have E : Hid (rowMB p Lib.compareInt l 0 (k + 1) = r) := by
              show _ = _
              rw [← HK.out]; exact (rowMB_yes ⟨by rw [hx]; exact HPV.out, .inr (by rw [hx, hx1]; exact hc)⟩).symm
            generalize Lib.compareInt l[k - 1] l[k] = cc at *
            generalize l[k] = x at *
            generalize l[k - 1] = y at *
            go_wp2_with (first | (go_at_call 36; (with_reducible refine (HC.out _).mono ?_); rintro e w' ⟨rfl, rfl⟩) | (go_at_call 37; (with_reducible refine hmc.mono ?_); rintro e w' ⟨rfl, hbb⟩; obtain ⟨g', rfl⟩ := g.on hbb; clear hbb; have hc1 := hcell2 g'))
            go_roundw
            case rel => exact ⟨g', k + 1, rfl, by go_num, by omega, E⟩
            case measure => simp [intOf]; omega
          · have E : Hid (r = false) := by
              show _ = _
              rw [← HK.out]; exact rowMB_no hkl (fun h => by rw [hx, hx1] at h; rcases h.2 with h | h <;> omega)
            generalize Lib.compareInt l[k - 1] l[k] = cc at *
            generalize l[k] = x at *
            generalize l[k - 1] = y at *
            go_wp2_with (first | (go_at_call 36; (with_reducible refine (HC.out _).mono ?_); rintro e w' ⟨rfl, rfl⟩) | (go_at_call 37; (with_reducible refine hmc.mono ?_); rintro e w' ⟨rfl, hbb⟩; obtain ⟨g', rfl⟩ := g.on hbb; clear hbb; have hc1 := hcell2 g'))
            go_ret
            exact ⟨ret_bool E.out.symm, g'.ok⟩
    · have E : Hid (r = true) := by
        show _ = _
        rw [← HK.out]; exact rowMB_end (by rw [HN.out]; omega)
      go_wp2
      go_ret
      exact ⟨ret_bool E.out.symm, g.ok⟩
set_option maxRecDepth 100000 in
set_option maxHeartbeats 2000000 in
theorem rowMay_int2 (l : List Int) (A : Option Addr) (c : Nat) (cb : Array Value) (p : Int → Bool) (w : World) (hs : Sl w A l.length c (iv l))
    (hmay : ∀ (g : Gr w) (x : Int), Calls Try.prog 53 (#[.int .i64 x] ++ cb) g.val fun e w' => e = .returned (.bool (p x)) ∧ Below g.val.heap.size g.val w') :
    Calls Try.prog 35 #[.slice A l.length c, .func (.func 36) #[] #[], .func (.func 53) #[] cb] w fun e w' => e = .returned (.bool (rowMB p Lib.compareInt l 0 0)) ∧ Below w.heap.size w w' := by
  have HM := Lib.hid hmay
  have HS := Lib.hid hs
  have hl : l.length ≤ 9223372036854775807 := Nat.le_trans hs.le hs.cap
  clear hmay hs
  obtain ⟨r, hr⟩ : ∃ r, rowMB p Lib.compareInt l 0 0 = r := ⟨_, rfl⟩
  rw [hr]
  have HR := Lib.hid hr
  clear hr
  obtain ⟨n, hn⟩ : ∃ n, l.length = n := ⟨_, rfl⟩
  have HN := Lib.hid hn
  rw [hn] at HS hl ⊢
  clear hn
  go_enter Try.func35, Try.ntmps35
  go_wp2
  go_loopw [11] (fun s11 wr => ∃ (g : Gr w) (k : Nat), wr = g.val ∧ s11 = .int .i64 k ∧ k ≤ n ∧ Hid (rowMB p Lib.compareInt l 0 k = r)) (fun s11 _ => n - (intOf s11).toNat)
  case atStart => exact ⟨⟨w, Below.refl _ _⟩, 0, rfl, rfl, Nat.zero_le _, HR⟩
  case round =>
    obtain ⟨g, k, rfl, rfl, hk, HK⟩ := hrel
    by_cases hlt : k < n
    · have hkl : k < l.length := by rw [HN.out]; exact hlt
      obtain ⟨b, off, rfl, hb, hcell⟩ := HS.out.intG (l := l) (i := k) (x := l[k]) (by simp [hkl])
      have hc0 := hcell g
      have hx : l.getD k 0 = l[k] := by simp [hkl]
      have hmc := HM.out g l[k]
      obtain ⟨pv, hpv⟩ : ∃ pv, p l[k] = pv := ⟨_, rfl⟩
      have HPV := Lib.hid hpv
      rw [hpv] at hmc
      clear hpv
      cases pv with
      | false =>
        have E : Hid (r = false) := by
          show _ = _
          rw [← HK.out]; exact rowMB_no hkl (fun h => by rw [hx, HPV.out] at h; cases h.1)
        generalize l[k] = x at *
        go_wp2_with (go_at_call 53; (with_reducible refine hmc.mono ?_); rintro e w' ⟨rfl, hbb⟩; obtain ⟨g', rfl⟩ := g.on hbb; clear hbb)
        go_ret
        exact ⟨ret_bool E.out.symm, g'.ok⟩
      | true =>
        by_cases hk0 : k = 0
        · have E : Hid (rowMB p Lib.compareInt l 0 (k + 1) = r) := by
            show _ = _
            rw [← HK.out]; exact (rowMB_yes ⟨by rw [hx]; exact HPV.out, .inl hk0⟩).symm
          have hkn : ¬ 0 < k := by omega
          have hkz : decide (0 < k) = false := decide_eq_false hkn
          have hkz' : decide ((0 : Int) < k) = false := decide_eq_false (by omega)
          clear hk0
          generalize l[k] = x at *
          go_wp2_with (go_at_call 53; (with_reducible refine hmc.mono ?_); rintro e w' ⟨rfl, hbb⟩; obtain ⟨g', rfl⟩ := g.on hbb; clear hbb)
          go_roundw
          case rel => exact ⟨g', k + 1, rfl, by go_num, by omega, E⟩
          case measure => simp [intOf]; omega
        · have hk1 : k - 1 < l.length := by omega
          have hkp : (0 : Int) < k := by omega
          have hx1 : l.getD (k - 1) 0 = l[k - 1] := by simp [hk1]
          obtain ⟨b2, off2, e2, hb2, hcell2⟩ := HS.out.intG (l := l) (i := k - 1) (x := l[k - 1]) (by simp [hk1])
          obtain ⟨rfl, rfl⟩ : b2 = b ∧ off2 = off := by simp only [Option.some.injEq, Addr.mk.injEq, and_true] at e2; exact ⟨e2.1.symm, e2.2.symm⟩
          have hn1 : ((k : Int) - 1).toNat = k - 1 := by omega
          have HC := Lib.hid (fun w => cmp_any l[k - 1] l[k] w)
          by_cases hc : Lib.compareInt l[k - 1] l[k] < 0
          · have E : Hid (rowMB p Lib.compareInt l 0 (k + 1) = r) := by
              show _ = _
              rw [← HK.out]; exact (rowMB_yes ⟨by rw [hx]; exact HPV.out, .inr (by rw [hx, hx1]; exact hc)⟩).symm
            generalize Lib.compareInt l[k - 1] l[k] = cc at *
            generalize l[k] = x at *
            generalize l[k - 1] = y at *
            go_wp2_with (first | (go_at_call 36; (with_reducible refine (HC.out _).mono ?_); rintro e w' ⟨rfl, rfl⟩) | (go_at_call 53; (with_reducible refine hmc.mono ?_); rintro e w' ⟨rfl, hbb⟩; obtain ⟨g', rfl⟩ := g.on hbb; clear hbb; have hc1 := hcell2 g'))
            go_roundw
            case rel => exact ⟨g', k + 1, rfl, by go_num, by omega, E⟩
            case measure => simp [intOf]; omega
          · have E : Hid (r = false) := by
              show _ = _
              rw [← HK.out]; exact rowMB_no hkl (fun h => by rw [hx, hx1] at h; rcases h.2 with h | h <;> omega)
            generalize Lib.compareInt l[k - 1] l[k] = cc at *
            generalize l[k] = x at *
            generalize l[k - 1] = y at *
            go_wp2_with (first | (go_at_call 36; (with_reducible refine (HC.out _).mono ?_); rintro e w' ⟨rfl, rfl⟩) | (go_at_call 53; (with_reducible refine hmc.mono ?_); rintro e w' ⟨rfl, hbb⟩; obtain ⟨g', rfl⟩ := g.on hbb; clear hbb; have hc1 := hcell2 g'))
            go_ret
            exact ⟨ret_bool E.out.symm, g'.ok⟩
    · have E : Hid (r = true) := by
        show _ = _
        rw [← HK.out]; exact rowMB_end (by rw [HN.out]; omega)
      go_wp2
      go_ret
      exact ⟨ret_bool E.out.symm, g.ok⟩
end Go.Proofs.Ytnccgfdaddbndaa
end
