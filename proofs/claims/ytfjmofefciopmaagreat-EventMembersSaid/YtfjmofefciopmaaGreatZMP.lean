import Derived.Test.YtfjmofefciopmaaGreatZGW1
import Derived.Deep.RegionHeld3
import Derived.Deep.Cut
import Derived.IntWalk
/- Contracts of the program's rules: rows. -/
section
namespace Go.Proofs.YtfjmofefciopmaaGreat
open Go.ChangeShapes Go.WideShapes Go.ChangeAt Go.RowKit Qr Ck
def rowMB {α : Type} (p : α → Bool) (o : α → α → Int) (l : List α) (d : α) (i : Nat) : Bool :=
  (List.range l.length).all fun j => decide (j < i) || (p (l.getD j d) && (decide (j = 0) || decide (o (l.getD (j - 1) d) (l.getD j d) < 0)))
theorem rowMB_end {α : Type} {p : α → Bool} {o : α → α → Int} {l : List α} {d : α} {i : Nat} (h : l.length ≤ i) : rowMB p o l d i = true := by
  unfold rowMB
  rw [List.all_eq_true]
  intro j hj
  have := List.mem_range.1 hj
  simp; omega
theorem rowMB_iff {α : Type} {p : α → Bool} {o : α → α → Int} {l : List α} {d : α} {i : Nat} : rowMB p o l d i = true ↔ ∀ j, j < l.length → i ≤ j → p (l.getD j d) = true ∧ (j = 0 ∨ o (l.getD (j - 1) d) (l.getD j d) < 0) := by
  unfold rowMB
  rw [List.all_eq_true]
  constructor
  · intro h j hj hi
    have := h j (List.mem_range.2 hj)
    simp only [Bool.or_eq_true, decide_eq_true_eq, Bool.and_eq_true] at this
    rcases this with h1 | h1
    · omega
    · exact h1
  · intro h j hj
    have := List.mem_range.1 hj
    simp only [Bool.or_eq_true, decide_eq_true_eq, Bool.and_eq_true]
    by_cases hji : j < i
    · exact .inl hji
    · exact .inr (h j this (by omega))
theorem rowMB_no {α : Type} {p : α → Bool} {o : α → α → Int} {l : List α} {d : α} {i : Nat} (h : i < l.length) (hn : ¬ (p (l.getD i d) = true ∧ (i = 0 ∨ o (l.getD (i - 1) d) (l.getD i d) < 0))) : rowMB p o l d i = false := by
  cases e : rowMB p o l d i with
  | false => rfl
  | true => exact absurd (rowMB_iff.1 e i h (Nat.le_refl _)) hn
theorem rowMB_yes {α : Type} {p : α → Bool} {o : α → α → Int} {l : List α} {d : α} {i : Nat} (hn : p (l.getD i d) = true ∧ (i = 0 ∨ o (l.getD (i - 1) d) (l.getD i d) < 0)) : rowMB p o l d i = rowMB p o l d (i + 1) := by
  rw [Bool.eq_iff_iff, rowMB_iff, rowMB_iff]
  constructor
  · intro h j hj hi; exact h j hj (by omega)
  · intro h j hj hi
    by_cases e : j = i
    · subst e; exact hn
    · exact h j hj (by omega)
set_option maxRecDepth 100000 in
set_option maxHeartbeats 2000000 in
theorem rowMay_int1 (l : List Int) (A : Option Addr) (c : Nat) (cb : Array Value) (p : Int → Bool) (w : World) (hs : Sl w A l.length c (iv l))
    (hmay : ∀ (g : Gr w) (x : Int), Calls Tryz.prog 53 (#[.int .i64 x] ++ cb) g.val fun e w' => e = .returned (.bool (p x)) ∧ Below g.val.heap.size g.val w') :
    Calls Tryz.prog 51 #[.slice A l.length c, .func (.func 52) #[] #[], .func (.func 53) #[] cb] w fun e w' => e = .returned (.bool (rowMB p Lib.compareInt l 0 0)) ∧ Below w.heap.size w w' := by
  have HM := Lib.hid hmay
  have HS := Lib.hid hs
  have hl : l.length ≤ 9223372036854775807 := Nat.le_trans hs.le hs.cap
  clear hmay hs
  obtain ⟨r, hr⟩ : ∃ r, rowMB p Lib.compareInt l 0 0 = r := ⟨_, rfl⟩
  rw [hr]
  have HR := Lib.hid hr
  clear hr
  obtain ⟨n, hn⟩ : ∃ n, l.length = n := ⟨_, rfl⟩
  have HN := Lib.hid hn
  rw [hn] at HS hl ⊢
  clear hn
  go_enter Tryz.func51, Tryz.ntmps51
  go_wp2
  go_loopw [11] (fun s11 wr => ∃ (g : Gr w) (k : Nat), wr = g.val ∧ s11 = .int .i64 k ∧ k ≤ n ∧ Hid (rowMB p Lib.compareInt l 0 k = r)) (fun s11 _ => n - (intOf s11).toNat)
  case atStart => exact ⟨⟨w, Below.refl _ _⟩, 0, rfl, rfl, Nat.zero_le _, HR⟩
  case round =>
    obtain ⟨g, k, rfl, rfl, hk, HK⟩ := hrel
    by_cases hlt : k < n
    · have hkl : k < l.length := by rw [HN.out]; exact hlt
      obtain ⟨b, off, rfl, hb, hcell⟩ := HS.out.intG (l := l) (i := k) (x := l[k]) (by simp [hkl])
      have hc0 := hcell g
      have hx : l.getD k 0 = l[k] := by simp [hkl]
      have hmc := HM.out g l[k]
      obtain ⟨pv, hpv⟩ : ∃ pv, p l[k] = pv := ⟨_, rfl⟩
      have HPV := Lib.hid hpv
      rw [hpv] at hmc
      clear hpv
      cases pv with
      | false =>
        have E : Hid (r = false) := by
          show _ = _
          rw [← HK.out]; exact rowMB_no hkl (fun h => by rw [hx, HPV.out] at h; cases h.1)
        generalize l[k] = x at *
        go_wp2_with (go_at_call 53; (with_reducible refine hmc.mono ?_); rintro e w' ⟨rfl, hbb⟩; obtain ⟨g', rfl⟩ := g.on hbb; clear hbb)
        go_ret
        exact ⟨ret_bool E.out.symm, g'.ok⟩
      | true =>
        by_cases hk0 : k = 0
        · have E : Hid (rowMB p Lib.compareInt l 0 (k + 1) = r) := by
            show _ = _
            rw [← HK.out]; exact (rowMB_yes ⟨by rw [hx]; exact HPV.out, .inl hk0⟩).symm
          have hkn : ¬ 0 < k := by omega
          have hkz : decide (0 < k) = false := decide_eq_false hkn
          have hkz' : decide ((0 : Int) < k) = false := decide_eq_false (by omega)
          clear hk0
          generalize l[k] = x at *
          go_wp2_with (go_at_call 53; (with_reducible refine hmc.mono ?_); rintro e w' ⟨rfl, hbb⟩; obtain ⟨g', rfl⟩ := g.on hbb; clear hbb)
          go_roundw
          case rel => exact ⟨g', k + 1, rfl, by go_num, by omega, E⟩
          case measure => simp [intOf]; omega
        · have hk1 : k - 1 < l.length := by omega
          have hkp : (0 : Int) < k := by omega
          have hx1 : l.getD (k - 1) 0 = l[k - 1] := by simp [hk1]
          obtain ⟨b2, off2, e2, hb2, hcell2⟩ := HS.out.intG (l := l) (i := k - 1) (x := l[k - 1]) (by simp [hk1])
          obtain ⟨rfl, rfl⟩ : b2 = b ∧ off2 = off := by simp only [Option.some.injEq, Addr.mk.injEq, and_true] at e2; exact ⟨e2.1.symm, e2.2.symm⟩
          have hn1 : ((k : Int) - 1).toNat = k - 1 := by omega
          have HC := Lib.hid (fun w => cmp_any l[k - 1] l[k] w)
          by_cases hc : Lib.compareInt l[k - 1] l[k] < 0
          · have E : Hid (rowMB p Lib.compareInt l 0 (k + 1) = r) := by
              show _ = _
              rw [← HK.out]; exact (rowMB_yes ⟨by rw [hx]; exact HPV.out, .inr (by rw [hx, hx1]; exact hc)⟩).symm
            generalize Lib.compareInt l[k - 1] l[k] = cc at *
            generalize l[k] = x at *
            generalize l[k - 1] = y at *
            go_wp2_with (first | (go_at_call 52; (with_reducible refine (HC.out _).mono ?_); rintro e w' ⟨rfl, rfl⟩) | (go_at_call 53; (with_reducible refine hmc.mono ?_); rintro e w' ⟨rfl, hbb⟩; obtain ⟨g', rfl⟩ := g.on hbb; clear hbb; have hc1 := hcell2 g'))
            go_roundw
            case rel => exact ⟨g', k + 1, rfl, by go_num, by omega, E⟩
            case measure => simp [intOf]; omega
          · have E : Hid (r = false) := by
              show _ = _
              rw [← HK.out]; exact rowMB_no hkl (fun h => by rw [hx, hx1] at h; rcases h.2 with h | h <;> omega)
            generalize Lib.compareInt l[k - 1] l[k] = cc at *
            generalize l[k] = x at *
            generalize l[k - 1] = y at *
            go_wp2_with (first | (go_at_call 52; (with_reducible refine (HC.out _).mono ?_); rintro e w' ⟨rfl, rfl⟩) | (go_at_call 53; (with_reducible refine hmc.mono ?_); rintro e w' ⟨rfl, hbb⟩; obtain ⟨g', rfl⟩ := g.on hbb; clear hbb; have hc1 := hcell2 g'))
            go_ret
            exact ⟨ret_bool E.out.symm, g'.ok⟩
    · have E : Hid (r = true) := by
        show _ = _
        rw [← HK.out]; exact rowMB_end (by rw [HN.out]; omega)
      go_wp2
      go_ret
      exact ⟨ret_bool E.out.symm, g.ok⟩
set_option maxRecDepth 100000 in
set_option maxHeartbeats 2000000 in
theorem rowMay_int2 (l : List Int) (A : Option Addr) (c : Nat) (cb : Array Value) (p : Int → Bool) (w : World) (hs : Sl w A l.length c (iv l))
    (hmay : ∀ (g : Gr w) (x : Int), Calls Tryz.prog 87 (#[.int .i64 x] ++ cb) g.val fun e w' => e = .returned (.bool (p x)) ∧ Below g.val.heap.size g.val w') :
    Calls Tryz.prog 51 #[.slice A l.length c, .func (.func 52) #[] #[], .func (.func 87) #[] cb] w fun e w' => e = .returned (.bool (rowMB p Lib.compareInt l 0 0)) ∧ Below w.heap.size w w' := by
  have HM := Lib.hid hmay
  have HS := Lib.hid hs
  have hl : l.length ≤ 9223372036854775807 := Nat.le_trans hs.le hs.cap
  clear hmay hs
  obtain ⟨r, hr⟩ : ∃ r, rowMB p Lib.compareInt l 0 0 = r := ⟨_, rfl⟩
  rw [hr]
  have HR := Lib.hid hr
  clear hr
  obtain ⟨n, hn⟩ : ∃ n, l.length = n := ⟨_, rfl⟩
  have HN := Lib.hid hn
  rw [hn] at HS hl ⊢
  clear hn
  go_enter Tryz.func51, Tryz.ntmps51
  go_wp2
  go_loopw [11] (fun s11 wr => ∃ (g : Gr w) (k : Nat), wr = g.val ∧ s11 = .int .i64 k ∧ k ≤ n ∧ Hid (rowMB p Lib.compareInt l 0 k = r)) (fun s11 _ => n - (intOf s11).toNat)
  case atStart => exact ⟨⟨w, Below.refl _ _⟩, 0, rfl, rfl, Nat.zero_le _, HR⟩
  case round =>
    obtain ⟨g, k, rfl, rfl, hk, HK⟩ := hrel
    by_cases hlt : k < n
    · have hkl : k < l.length := by rw [HN.out]; exact hlt
      obtain ⟨b, off, rfl, hb, hcell⟩ := HS.out.intG (l := l) (i := k) (x := l[k]) (by simp [hkl])
      have hc0 := hcell g
      have hx : l.getD k 0 = l[k] := by simp [hkl]
      have hmc := HM.out g l[k]
      obtain ⟨pv, hpv⟩ : ∃ pv, p l[k] = pv := ⟨_, rfl⟩
      have HPV := Lib.hid hpv
      rw [hpv] at hmc
      clear hpv
      cases pv with
      | false =>
        have E : Hid (r = false) := by
          show _ = _
          rw [← HK.out]; exact rowMB_no hkl (fun h => by rw [hx, HPV.out] at h; cases h.1)
        generalize l[k] = x at *
        go_wp2_with (go_at_call 87; (with_reducible refine hmc.mono ?_); rintro e w' ⟨rfl, hbb⟩; obtain ⟨g', rfl⟩ := g.on hbb; clear hbb)
        go_ret
        exact ⟨ret_bool E.out.symm, g'.ok⟩
      | true =>
        by_cases hk0 : k = 0
        · have E : Hid (rowMB p Lib.compareInt l 0 (k + 1) = r) := by
            show _ = _
            rw [← HK.out]; exact (rowMB_yes ⟨by rw [hx]; exact HPV.out, .inl hk0⟩).symm
          have hkn : ¬ 0 < k := by omega
          have hkz : decide (0 < k) = false := decide_eq_false hkn
          have hkz' : decide ((0 : Int) < k) = false := decide_eq_false (by omega)
          clear hk0
          generalize l[k] = x at *
          go_wp2_with (go_at_call 87; (with_reducible refine hmc.mono ?_); rintro e w' ⟨rfl, hbb⟩; obtain ⟨g', rfl⟩ := g.on hbb; clear hbb)
          go_roundw
          case rel => exact ⟨g', k + 1, rfl, by go_num, by omega, E⟩
          case measure => simp [intOf]; omega
        · have hk1 : k - 1 < l.length := by omega
          have hkp : (0 : Int) < k := by omega
          have hx1 : l.getD (k - 1) 0 = l[k - 1] := by simp [hk1]
          obtain ⟨b2, off2, e2, hb2, hcell2⟩ := HS.out.intG (l := l) (i := k - 1) (x := l[k - 1]) (by simp [hk1])
          obtain ⟨rfl, rfl⟩ : b2 = b ∧ off2 = off := by simp only [Option.some.injEq, Addr.mk.injEq, and_true] at e2; exact ⟨e2.1.symm, e2.2.symm⟩
          have hn1 : ((k : Int) - 1).toNat = k - 1 := by omega
          have HC := Lib.hid (fun w => cmp_any l[k - 1] l[k] w)
          by_cases hc : Lib.compareInt l[k - 1] l[k] < 0
          · have E : Hid (rowMB p Lib.compareInt l 0 (k + 1) = r) := by
              show _ = _
              rw [← HK.out]; exact (rowMB_yes ⟨by rw [hx]; exact HPV.out, .inr (by rw [hx, hx1]; exact hc)⟩).symm
            generalize Lib.compareInt l[k - 1] l[k] = cc at *
            generalize l[k] = x at *
            generalize l[k - 1] = y at *
            go_wp2_with (first | (go_at_call 52; (with_reducible refine (HC.out _).mono ?_); rintro e w' ⟨rfl, rfl⟩) | (go_at_call 87; (with_reducible refine hmc.mono ?_); rintro e w' ⟨rfl, hbb⟩; obtain ⟨g', rfl⟩ := g.on hbb; clear hbb; have hc1 := hcell2 g'))
            go_roundw
            case rel => exact ⟨g', k + 1, rfl, by go_num, by omega, E⟩
            case measure => simp [intOf]; omega
          · have E : Hid (r = false) := by
              show _ = _
              rw [← HK.out]; exact rowMB_no hkl (fun h => by rw [hx, hx1] at h; rcases h.2 with h | h <;> omega)
            generalize Lib.compareInt l[k - 1] l[k] = cc at *
            generalize l[k] = x at *
            generalize l[k - 1] = y at *
            go_wp2_with (first | (go_at_call 52; (with_reducible refine (HC.out _).mono ?_); rintro e w' ⟨rfl, rfl⟩) | (go_at_call 87; (with_reducible refine hmc.mono ?_); rintro e w' ⟨rfl, hbb⟩; obtain ⟨g', rfl⟩ := g.on hbb; clear hbb; have hc1 := hcell2 g'))
            go_ret
            exact ⟨ret_bool E.out.symm, g'.ok⟩
    · have E : Hid (r = true) := by
        show _ = _
        rw [← HK.out]; exact rowMB_end (by rw [HN.out]; omega)
      go_wp2
      go_ret
      exact ⟨ret_bool E.out.symm, g.ok⟩
end Go.Proofs.YtfjmofefciopmaaGreat
end
section
namespace Go.Proofs.YtfjmofefciopmaaGreat
open Go.ChangeShapes Go.WideShapes Go.ChangeAt Go.RowKit Qr Ck
def rc9 (fq iv_ ct un : Int) (A1 A2 A3 A4 : Option Addr) (n1 n2 n3 n4 c1 c2 c3 c4 : Nat) (st : Int) : Array Value :=
  #[.int .i64 fq, .int .i64 iv_, .int .i64 ct, .int .i64 un, .slice A1 n1 c1, .slice A2 n2 c2, .slice A3 n3 c3, .slice A4 n4 c4, .int .i64 st]
theorem rc9_of (r : R) (A1 A2 A3 A4 : Option Addr) (c1 c2 c3 c4 : Nat) : rcells r A1 A2 A3 A4 c1 c2 c3 c4 = rc9 r.freq r.iv r.count r.until_ A1 A2 A3 A4 r.bm.length r.bd.length r.bw.length r.bs.length c1 c2 c3 c4 r.start := rfl
section
variable (fq iv_ ct un : Int) (A1 A2 A3 A4 : Option Addr) (n1 n2 n3 n4 c1 c2 c3 c4 : Nat) (st : Int)
theorem below1 (w : World) (o : Obj) : Below w.heap.size w (w.alloc o) := (Below.refl _ w).alloc (Nat.le_refl _) o
def endB (un ct : Int) : Bool := if un = -1 then fromB 0 ct 5000 else decide (0 ≤ un) && (decide (un < 158310720) && decide (ct = 0))
theorem mayEnd_any (w : World) :
    Calls Tryz.prog 50 #[.agg (rc9 fq iv_ ct un A1 A2 A3 A4 n1 n2 n3 n4 c1 c2 c3 c4 st)] w fun e w' => e = .returned (.bool (endB un ct)) ∧ Below w.heap.size w w' := by
  obtain ⟨q, hq⟩ : ∃ q, endB un ct = q := ⟨_, rfl⟩
  rw [hq]
  unfold rc9
  have HB := Lib.hid (below1 w)
  by_cases h1 : un = -1
  · subst h1
    have HF := Lib.hid (fun w => isFrom_any 0 ct 5000 w)
    have E : Hid (fromB 0 ct 5000 = q) := hq
    clear hq
    rw [E.out] at HF
    go_enter Tryz.func50, Tryz.ntmps50
    go_wp2_with (go_at_call 49; (with_reducible refine (HF.out _).mono ?_); rintro e w' ⟨rfl, rfl⟩)
    go_ret
    exact ⟨ret_bool rfl, HB.out _⟩
  · have h1b : (un == -1) = false := by simpa using h1
    have E : Hid ((decide (0 ≤ un) && (decide (un < 158310720) && decide (ct = 0))) = q) := by show _ = _; rw [← hq]; unfold endB; rw [if_neg h1]
    clear hq
    by_cases h2 : 0 ≤ un
    · by_cases h3 : un < 158310720
      · by_cases h4 : ct = 0
        · have E' : Hid (q = true) := by show _ = _; rw [← E.out]; simp [h2, h3, h4]
          subst h4
          go_enter Tryz.func50, Tryz.ntmps50
          go_wp2
          go_ret
          exact ⟨ret_bool E'.out.symm, HB.out _⟩
        · have E' : Hid (q = false) := by show _ = _; rw [← E.out]; simp [h4]
          have h4b : (ct == 0) = false := by simpa using h4
          go_enter Tryz.func50, Tryz.ntmps50
          go_wp2
          go_ret
          exact ⟨ret_bool E'.out.symm, HB.out _⟩
      · have E' : Hid (q = false) := by show _ = _; rw [← E.out]; simp [h3]
        have h3b : decide (un < 158310720) = false := decide_eq_false h3
        go_enter Tryz.func50, Tryz.ntmps50
        go_wp2
        go_ret
        exact ⟨ret_bool E'.out.symm, HB.out _⟩
    · have E' : Hid (q = false) := by show _ = _; rw [← E.out]; simp [h2]
      have h2b : decide (0 ≤ un) = false := decide_eq_false h2
      go_enter Tryz.func50, Tryz.ntmps50
      go_wp2
      go_ret
      exact ⟨ret_bool E'.out.symm, HB.out _⟩
def monthsB (fq : Int) (n1 : Nat) : Bool := decide (fq = 3) || (decide (fq = 4) && decide (0 < n1))
theorem hasMonths_any (w : World) :
    Calls Tryz.prog 88 #[.agg (rc9 fq iv_ ct un A1 A2 A3 A4 n1 n2 n3 n4 c1 c2 c3 c4 st)] w fun e w' => e = .returned (.bool (monthsB fq n1)) ∧ Below w.heap.size w w' := by
  obtain ⟨q, hq⟩ : ∃ q, monthsB fq n1 = q := ⟨_, rfl⟩
  rw [hq]
  unfold rc9
  have HB := Lib.hid (below1 w)
  by_cases h1 : fq = 3
  · have E' : Hid (q = true) := by show _ = _; rw [← hq]; unfold monthsB; simp [h1]
    subst h1
    clear hq
    go_enter Tryz.func88, Tryz.ntmps88
    go_wp2
    go_ret
    exact ⟨ret_bool E'.out.symm, HB.out _⟩
  · have h1b : (fq == 3) = false := by simpa using h1
    by_cases h2 : fq = 4
    · by_cases h3 : 0 < n1
      · have E' : Hid (q = true) := by show _ = _; rw [← hq]; unfold monthsB; simp [h2, h3]
        subst h2
        clear hq
        have h3b : decide ((0 : Int) < n1) = true := decide_eq_true (by omega)
        go_enter Tryz.func88, Tryz.ntmps88
        go_wp2
        go_ret
        exact ⟨ret_bool E'.out.symm, HB.out _⟩
      · have E' : Hid (q = false) := by show _ = _; rw [← hq]; unfold monthsB; simp [h2, h3]
        subst h2
        clear hq
        have h3b : decide ((0 : Int) < n1) = false := decide_eq_false (by omega)
        go_enter Tryz.func88, Tryz.ntmps88
        go_wp2
        go_ret
        exact ⟨ret_bool E'.out.symm, HB.out _⟩
    · have E' : Hid (q = false) := by show _ = _; rw [← hq]; unfold monthsB; simp [h1, h2]
      have h2b : (fq == 4) = false := by simpa using h2
      clear hq
      go_enter Tryz.func88, Tryz.ntmps88
      go_wp2
      go_ret
      exact ⟨ret_bool E'.out.symm, HB.out _⟩
def saysB (n1 n2 n3 : Nat) : Bool := decide (0 < n1) || (decide (0 < n2) || decide (0 < n3))
theorem saysDays_any (w : World) :
    Calls Tryz.prog 59 #[.agg (rc9 fq iv_ ct un A1 A2 A3 A4 n1 n2 n3 n4 c1 c2 c3 c4 st)] w fun e w' => e = .returned (.bool (saysB n1 n2 n3)) ∧ Below w.heap.size w w' := by
  obtain ⟨q, hq⟩ : ∃ q, saysB n1 n2 n3 = q := ⟨_, rfl⟩
  rw [hq]
  unfold rc9
  have HB := Lib.hid (below1 w)
  by_cases h1 : 0 < n1
  · have E' : Hid (q = true) := by show _ = _; rw [← hq]; unfold saysB; simp [h1]
    have h1b : decide ((0 : Int) < n1) = true := decide_eq_true (by omega)
    clear hq
    go_enter Tryz.func59, Tryz.ntmps59
    go_wp2
    go_ret
    exact ⟨ret_bool E'.out.symm, HB.out _⟩
  · have h1b : decide ((0 : Int) < n1) = false := decide_eq_false (by omega)
    by_cases h2 : 0 < n2
    · have E' : Hid (q = true) := by show _ = _; rw [← hq]; unfold saysB; simp [h2]
      have h2b : decide ((0 : Int) < n2) = true := decide_eq_true (by omega)
      clear hq
      go_enter Tryz.func59, Tryz.ntmps59
      go_wp2
      go_ret
      exact ⟨ret_bool E'.out.symm, HB.out _⟩
    · have h2b : decide ((0 : Int) < n2) = false := decide_eq_false (by omega)
      by_cases h3 : 0 < n3
      · have E' : Hid (q = true) := by show _ = _; rw [← hq]; unfold saysB; simp [h3]
        have h3b : decide ((0 : Int) < n3) = true := decide_eq_true (by omega)
        clear hq
        go_enter Tryz.func59, Tryz.ntmps59
        go_wp2
        go_ret
        exact ⟨ret_bool E'.out.symm, HB.out _⟩
      · have E' : Hid (q = false) := by show _ = _; rw [← hq]; unfold saysB; simp [h1, h2, h3]
        have h3b : decide ((0 : Int) < n3) = false := decide_eq_false (by omega)
        clear hq
        go_enter Tryz.func59, Tryz.ntmps59
        go_wp2
        go_ret
        exact ⟨ret_bool E'.out.symm, HB.out _⟩
def dayB (fq : Int) (n1 : Nat) (d : Int × Int) : Bool := fromB 0 d.2 6 && (decide (d.1 = 0) || (monthsB fq n1 && placeB 5 d.1))
set_option maxHeartbeats 2000000 in
theorem dayMay_any (d : Int × Int) (w : World) :
    Calls Tryz.prog 58 #[.agg (rc9 fq iv_ ct un A1 A2 A3 A4 n1 n2 n3 n4 c1 c2 c3 c4 st), .agg #[.int .i64 d.1, .int .i64 d.2]] w fun e w' => e = .returned (.bool (dayB fq n1 d)) ∧ Below w.heap.size w w' := by
  obtain ⟨q, hq⟩ : ∃ q, dayB fq n1 d = q := ⟨_, rfl⟩
  rw [hq]
  obtain ⟨x, y⟩ := d
  have HFR := Lib.hid (fun w => isFrom_any 0 y 6 w)
  have HMO := Lib.hid (fun w => hasMonths_any fq iv_ ct un A1 A2 A3 A4 n1 n2 n3 n4 c1 c2 c3 c4 st w)
  unfold rc9 at *
  simp only
  obtain ⟨W, hW⟩ : ∃ W, (w.alloc (.cells #[.int .i64 fq, .int .i64 iv_, .int .i64 ct, .int .i64 un, .slice A1 n1 c1, .slice A2 n2 c2, .slice A3 n3 c3, .slice A4 n4 c4, .int .i64 st] 28)).alloc (.cells #[.int .i64 x, .int .i64 y] 79) = W := ⟨_, rfl⟩
  have HW := Lib.hid hW
  have BW : Hid (Below w.heap.size w W) := by show Below _ _ _; rw [← hW]; exact ((Below.refl _ w).alloc (Nat.le_refl _) _).alloc (by simp) _
  have CR : Hid (∀ g : Gr W, ∀ k v, (rc9 fq iv_ ct un A1 A2 A3 A4 n1 n2 n3 n4 c1 c2 c3 c4 st)[k]? = some v → g.val.cell? ⟨w.heap.size, k, none⟩ = some v) := by
    intro g k v h
    refine cell_old (w := W) ?_ g.ok
    rw [← hW]
    exact cell_old (box_at (w := w) (t := 28) h ⟨_, Below.refl _ _⟩) ((Below.refl _ _).alloc (Nat.le_refl _) _)
  have CD : Hid (∀ g : Gr W, ∀ k v, (#[.int .i64 x, .int .i64 y] : Array Value)[k]? = some v → g.val.cell? ⟨w.heap.size + 1, k, none⟩ = some v) := by
    intro g k v h
    refine cell_old (w := W) ?_ g.ok
    rw [← hW]
    have := box_at (w := w.alloc (.cells (rc9 fq iv_ ct un A1 A2 A3 A4 n1 n2 n3 n4 c1 c2 c3 c4 st) 28)) (t := 79) h ⟨_, Below.refl _ _⟩
    simpa [rc9] using this
  clear hW
  have d1 : W.cell? ⟨w.heap.size + 1, 1, none⟩ = some (.int .i64 y) := CD.out ⟨W, Below.refl _ _⟩ 1 _ rfl
  by_cases h1 : fromB 0 y 6 = true
  · rw [h1] at HFR
    by_cases h2 : x = 0
    · have E' : Hid (q = true) := by show _ = _; rw [← hq]; unfold dayB; simp [h1, h2]
      clear hq h1
      subst h2
      have e00 : W.cell? ⟨w.heap.size + 1, 0, none⟩ = some (.int .i64 0) := CD.out ⟨W, Below.refl _ _⟩ 0 _ rfl
      go_enter Tryz.func58, Tryz.ntmps58
      go_upto_region 1 with fail
      rw [HW.out]
      go_upto_region 3 with (go_at_call 49; (with_reducible refine (HFR.out _).mono ?_); rintro e w' ⟨rfl, rfl⟩)
      go_quiet (fail)
      obtain ⟨g2, hg2⟩ : ∃ g2 : Gr W, W.drewN nq = g2.val := ⟨⟨_, drewN_below _ _⟩, rfl⟩
      rw [hg2]
      go_wp2
      go_ret
      exact ⟨ret_bool E'.out.symm, BW.out.trans (g2.ok.mono BW.out.size)⟩
    · have h2b : (x == 0) = false := by simpa using h2
      have e00 : W.cell? ⟨w.heap.size + 1, 0, none⟩ = some (.int .i64 x) := CD.out ⟨W, Below.refl _ _⟩ 0 _ rfl
      have HL : Hid (∀ g : Gr W, g.val.cell? ⟨w.heap.size + 1, 0, none⟩ = some (.int .i64 x) ∧ g.val.cell? ⟨w.heap.size, 0, none⟩ = some (.int .i64 fq) ∧ g.val.cell? ⟨w.heap.size, 0 + 1, none⟩ = some (.int .i64 iv_) ∧ g.val.cell? ⟨w.heap.size, 0 + 2, none⟩ = some (.int .i64 ct) ∧ g.val.cell? ⟨w.heap.size, 0 + 3, none⟩ = some (.int .i64 un) ∧ g.val.cell? ⟨w.heap.size, 0 + 4, none⟩ = some (.slice A1 n1 c1) ∧ g.val.cell? ⟨w.heap.size, 0 + 5, none⟩ = some (.slice A2 n2 c2) ∧ g.val.cell? ⟨w.heap.size, 0 + 6, none⟩ = some (.slice A3 n3 c3) ∧ g.val.cell? ⟨w.heap.size, 0 + 7, none⟩ = some (.slice A4 n4 c4) ∧ g.val.cell? ⟨w.heap.size, 0 + 8, none⟩ = some (.int .i64 st)) := fun g =>
        ⟨CD.out g 0 _ rfl, CR.out g 0 _ rfl, CR.out g 1 _ rfl, CR.out g 2 _ rfl, CR.out g 3 _ rfl, CR.out g 4 _ rfl, CR.out g 5 _ rfl, CR.out g 6 _ rfl, CR.out g 7 _ rfl, CR.out g 8 _ rfl⟩
      obtain ⟨m, hm⟩ : ∃ m, monthsB fq n1 = m := ⟨_, rfl⟩
      have HMm := Lib.hid hm
      rw [hm] at HMO
      clear hm
      cases m with
      | false =>
        have E' : Hid (q = false) := by show _ = _; rw [← hq]; unfold dayB; rw [h1, HMm.out]; simp [h2]
        clear hq h1
        go_enter Tryz.func58, Tryz.ntmps58
        go_upto_region 1 with fail
        rw [HW.out]
        go_upto_region 3 with (go_at_call 49; (with_reducible refine (HFR.out _).mono ?_); rintro e w' ⟨rfl, rfl⟩)
        have L0 := fun g : Gr W => (HL.out g).1
        have L1 := fun g : Gr W => (HL.out g).2.1
        have L2 := fun g : Gr W => (HL.out g).2.2.1
        have L3 := fun g : Gr W => (HL.out g).2.2.2.1
        have L4 := fun g : Gr W => (HL.out g).2.2.2.2.1
        have L5 := fun g : Gr W => (HL.out g).2.2.2.2.2.1
        have L6 := fun g : Gr W => (HL.out g).2.2.2.2.2.2.1
        have L7 := fun g : Gr W => (HL.out g).2.2.2.2.2.2.2.1
        have L8 := fun g : Gr W => (HL.out g).2.2.2.2.2.2.2.2.1
        have L9 := fun g : Gr W => (HL.out g).2.2.2.2.2.2.2.2.2
        refine Gr.region (by kernel_rfl) (by kernel_rfl) (Gr.draw0 _) ?_
        repeat (go_big_quiet_step ((go_at_call 88; exact Gr.calls _ (HMO.out _))))
        refine wpQuiet_nil ?_
        rintro _ ⟨g2, rfl⟩
        have HG : Hid (Below w.heap.size w g2.val) := BW.out.trans (g2.ok.mono BW.out.size)
        go_wp2
        go_ret
        exact ⟨ret_bool E'.out.symm, HG.out⟩
      | true =>
        have HP := Lib.hid (fun (b : Nat) (w : World) hc => isPlace1_any 5 x b w (by omega) hc)
        have HI := Lib.hid (fun (w : World) => isPlace_any 5 w)
        have E' : Hid (placeB 5 x = q) := by show _ = _; rw [← hq]; unfold dayB; rw [h1, HMm.out]; simp [h2]
        rw [E'.out] at HP
        clear hq h1
        go_enter Tryz.func58, Tryz.ntmps58
        go_upto_region 1 with fail
        rw [HW.out]
        go_upto_region 3 with (go_at_call 49; (with_reducible refine (HFR.out _).mono ?_); rintro e w' ⟨rfl, rfl⟩)
        go_region_held3 (fun w' => w'.cell? ⟨w.heap.size + 1, 0, none⟩ = some (.int .i64 x) ∧ w'.cell? ⟨w.heap.size, 0, none⟩ = some (.int .i64 fq) ∧ w'.cell? ⟨w.heap.size, 0 + 1, none⟩ = some (.int .i64 iv_) ∧ w'.cell? ⟨w.heap.size, 0 + 2, none⟩ = some (.int .i64 ct) ∧ w'.cell? ⟨w.heap.size, 0 + 3, none⟩ = some (.int .i64 un) ∧ w'.cell? ⟨w.heap.size, 0 + 4, none⟩ = some (.slice A1 n1 c1) ∧ w'.cell? ⟨w.heap.size, 0 + 5, none⟩ = some (.slice A2 n2 c2) ∧ w'.cell? ⟨w.heap.size, 0 + 6, none⟩ = some (.slice A3 n3 c3) ∧ w'.cell? ⟨w.heap.size, 0 + 7, none⟩ = some (.slice A4 n4 c4) ∧ w'.cell? ⟨w.heap.size, 0 + 8, none⟩ = some (.int .i64 st))
          (first | exact HL.out ⟨_, (drew_below W)⟩ | exact HL.out ⟨_, (drew_below W).trans hb4⟩ | exact HL.out ⟨_, ((drew_below W).trans hb4).trans ((below1 w4 _).mono ((drew_below W).trans hb4).size)⟩)
          (first
            | (go_at_call 88; refine (HMO.out _).mono ?_; rintro e w4 ⟨rfl, hb4⟩)
            | (go_at_call 54; refine (HI.out _).mono ?_; rintro e w5 ⟨rfl, rfl⟩)
            | (go_at_call 87; refine (HP.out _ _ (by simp [go_sem])).mono ?_; rintro e w6 ⟨rfl, rfl⟩))
        have HG : Hid (Below w.heap.size w w4) := BW.out.trans (((drew_below W).trans hb4).mono BW.out.size)
        have HG2 := Lib.hid (fun o : Obj => HG.out.trans ((below1 w4 o).mono HG.out.size))
        go_wp2
        go_ret
        exact ⟨ret_bool rfl, HG2.out _⟩
  · have h1' : fromB 0 y 6 = false := by simpa using h1
    have E' : Hid (q = false) := by show _ = _; rw [← hq]; unfold dayB; simp [h1']
    rw [h1'] at HFR
    clear hq h1 h1'
    go_enter Tryz.func58, Tryz.ntmps58
    go_upto_region 1 with fail
    rw [HW.out]
    go_wp2_with (go_at_call 49; (with_reducible refine (HFR.out _).mono ?_); rintro e w' ⟨rfl, rfl⟩)
    go_ret
    exact ⟨ret_bool E'.out.symm, BW.out⟩
end
end Go.Proofs.YtfjmofefciopmaaGreat
end
section
namespace Go.Proofs.YtfjmofefciopmaaGreat
open Go.ChangeShapes Go.WideShapes Go.ChangeAt Go.RowKit Qr Ck Sp
section
variable (fq iv_ ct un : Int) (A1 A2 A3 A4 : Option Addr) (n1 n2 n3 n4 c1 c2 c3 c4 : Nat) (st : Int)
def BoxAt (w : World) (b : Nat) : Prop := ∀ k v, (rc9 fq iv_ ct un A1 A2 A3 A4 n1 n2 n3 n4 c1 c2 c3 c4 st)[k]? = some v → w.cell? ⟨b, k, none⟩ = some v
variable {fq iv_ ct un A1 A2 A3 A4 n1 n2 n3 n4 c1 c2 c3 c4 st}
theorem BoxAt.up {w w' : World} {b : Nat} (h : BoxAt fq iv_ ct un A1 A2 A3 A4 n1 n2 n3 n4 c1 c2 c3 c4 st w b) (hb : Below w.heap.size w w') : BoxAt fq iv_ ct un A1 A2 A3 A4 n1 n2 n3 n4 c1 c2 c3 c4 st w' b := fun k v hk => cell_old (h k v hk) hb
theorem BoxAt.nine {w : World} {b : Nat} (h : BoxAt fq iv_ ct un A1 A2 A3 A4 n1 n2 n3 n4 c1 c2 c3 c4 st w b) : w.cell? ⟨b, 0, none⟩ = some (.int .i64 fq) ∧ w.cell? ⟨b, 1, none⟩ = some (.int .i64 iv_) ∧ w.cell? ⟨b, 2, none⟩ = some (.int .i64 ct) ∧ w.cell? ⟨b, 3, none⟩ = some (.int .i64 un) ∧ w.cell? ⟨b, 4, none⟩ = some (.slice A1 n1 c1) ∧ w.cell? ⟨b, 5, none⟩ = some (.slice A2 n2 c2) ∧ w.cell? ⟨b, 6, none⟩ = some (.slice A3 n3 c3) ∧ w.cell? ⟨b, 7, none⟩ = some (.slice A4 n4 c4) ∧ w.cell? ⟨b, 8, none⟩ = some (.int .i64 st) :=
  ⟨h 0 _ rfl, h 1 _ rfl, h 2 _ rfl, h 3 _ rfl, h 4 _ rfl, h 5 _ rfl, h 6 _ rfl, h 7 _ rfl, h 8 _ rfl⟩
theorem may2_any (d : Int × Int) (w : World) (b : Nat) (hbx : BoxAt fq iv_ ct un A1 A2 A3 A4 n1 n2 n3 n4 c1 c2 c3 c4 st w b) :
    Calls Tryz.prog 57 #[.agg #[.int .i64 d.1, .int .i64 d.2], .pointer (some ⟨b, 0, none⟩)] w fun e w' => e = .returned (.bool (dayB fq n1 d)) ∧ Below w.heap.size w w' := by
  obtain ⟨x, y⟩ := d
  simp only
  have HD := Lib.hid (fun w => dayMay_any fq iv_ ct un A1 A2 A3 A4 n1 n2 n3 n4 c1 c2 c3 c4 st (x, y) w)
  obtain ⟨q, hq⟩ : ∃ q, dayB fq n1 (x, y) = q := ⟨_, rfl⟩
  rw [hq] at HD ⊢
  clear hq
  unfold rc9 at HD
  simp only at HD
  obtain ⟨W, hW⟩ : ∃ W, w.alloc (.cells #[.int .i64 x, .int .i64 y] 79) = W := ⟨_, rfl⟩
  have HW := Lib.hid hW
  have BW : Hid (Below w.heap.size w W) := by show Below _ _ _; rw [← hW]; exact (Below.refl _ w).alloc (Nat.le_refl _) _
  have e0 : W.cell? ⟨w.heap.size, 0, none⟩ = some (.int .i64 x) := by rw [← hW]; exact box_at (w := w) (t := 79) (C := #[.int .i64 x, .int .i64 y]) rfl ⟨_, Below.refl _ _⟩
  have e1 : W.cell? ⟨w.heap.size, 1, none⟩ = some (.int .i64 y) := by rw [← hW]; exact box_at (w := w) (t := 79) (C := #[.int .i64 x, .int .i64 y]) rfl ⟨_, Below.refl _ _⟩
  obtain ⟨b0, b1, b2, b3, b4, b5, b6, b7, b8⟩ := (hbx.up BW.out).nine
  clear hW hbx
  go_enter Tryz.func57, Tryz.ntmps57
  go_upto_region 1 with fail
  rw [HW.out]
  go_wp2_with (go_at_call 58; (with_reducible refine (HD.out _).mono ?_); rintro e w' ⟨rfl, hb⟩)
  have HG : Hid (Below w.heap.size w w') := BW.out.trans (hb.mono BW.out.size)
  go_ret
  exact ⟨ret_bool rfl, HG.out⟩
end
set_option maxRecDepth 100000 in
set_option maxHeartbeats 2000000 in
theorem rowMay_days (l : List (Int × Int)) (A : Option Addr) (c : Nat) (cb : Array Value) (p : Int × Int → Bool) (w : World) (hs : Sl w A l.length c (sv l))
    (hmay : ∀ (g : Gr w) (x : Int × Int), Calls Tryz.prog 57 (#[.agg #[.int .i64 x.1, .int .i64 x.2]] ++ cb) g.val fun e w' => e = .returned (.bool (p x)) ∧ Below g.val.heap.size g.val w') :
    Calls Tryz.prog 55 #[.slice A l.length c, .func (.func 56) #[] #[], .func (.func 57) #[] cb] w fun e w' => e = .returned (.bool (rowMB p ordD l (0, 0) 0)) ∧ Below w.heap.size w w' := by
  have HM := Lib.hid hmay
  have HS := Lib.hid hs
  have hl : l.length ≤ 9223372036854775807 := Nat.le_trans hs.le hs.cap
  clear hmay hs
  obtain ⟨r, hr⟩ : ∃ r, rowMB p ordD l (0, 0) 0 = r := ⟨_, rfl⟩
  rw [hr]
  have HR := Lib.hid hr
  clear hr
  obtain ⟨n, hn⟩ : ∃ n, l.length = n := ⟨_, rfl⟩
  have HN := Lib.hid hn
  rw [hn] at HS hl ⊢
  clear hn
  go_enter Tryz.func55, Tryz.ntmps55
  go_wp2
  go_loopw [11] (fun s11 wr => ∃ (g : Gr w) (k : Nat), wr = g.val ∧ s11 = .int .i64 k ∧ k ≤ n ∧ Hid (rowMB p ordD l (0, 0) k = r)) (fun s11 _ => n - (intOf s11).toNat)
  case atStart => exact ⟨⟨w, Below.refl _ _⟩, 0, rfl, rfl, Nat.zero_le _, HR⟩
  case round =>
    obtain ⟨g, k, rfl, rfl, hk, HK⟩ := hrel
    by_cases hlt : k < n
    · have hkl : k < l.length := by rw [HN.out]; exact hlt
      obtain ⟨b, off, rfl, hb, hcell⟩ := HS.out.spanG (l := l) (i := k) (s := l[k]) (by simp [hkl])
      have hc0 := (hcell g).1
      have hc1 := (hcell g).2
      have hx : l.getD k (0, 0) = l[k] := by simp [hkl]
      obtain ⟨W, hW⟩ : ∃ W, g.val.alloc (.cells #[.int .i64 l[k].1, .int .i64 l[k].2] 79) = W := ⟨_, rfl⟩
      have HW := Lib.hid hW
      have BW : Hid (Below w.heap.size w W) := by show Below _ _ _; rw [← hW]; exact g.ok.alloc g.ok.size _
      have L0 : ∀ g2 : Gr W, g2.val.cell? ⟨g.val.heap.size, 0, none⟩ = some (.int .i64 l[k].1) := fun g2 => cell_old (w := W) (by rw [← hW]; exact box_at (w := g.val) (t := 79) (C := #[.int .i64 l[k].1, .int .i64 l[k].2]) rfl ⟨_, Below.refl _ _⟩) g2.ok
      have L1 : ∀ g2 : Gr W, g2.val.cell? ⟨g.val.heap.size, 1, none⟩ = some (.int .i64 l[k].2) := fun g2 => cell_old (w := W) (by rw [← hW]; exact box_at (w := g.val) (t := 79) (C := #[.int .i64 l[k].1, .int .i64 l[k].2]) rfl ⟨_, Below.refl _ _⟩) g2.ok
      have HMW := Lib.hid (fun g2 : Gr W => HM.out ⟨g2.val, BW.out.trans (g2.ok.mono BW.out.size)⟩ l[k])
      have HGR : Hid (∀ g2 : Gr W, ∃ g3 : Gr w, g2.val = g3.val) := fun g2 => ⟨⟨g2.val, BW.out.trans (g2.ok.mono BW.out.size)⟩, rfl⟩
      clear hW
      obtain ⟨pv, hpv⟩ : ∃ pv, p l[k] = pv := ⟨_, rfl⟩
      have HPV := Lib.hid hpv
      simp only [hpv] at HMW
      clear hpv
      cases pv with
      | false =>
        have E : Hid (r = false) := by
          show _ = _
          rw [← HK.out]; exact rowMB_no hkl (fun h => by rw [hx, HPV.out] at h; cases h.1)
        clear hcell
        generalize l[k] = x at *
        obtain ⟨x1, x2⟩ := x
        simp only at hc0 hc1 L0 L1 HW HMW
        go_upto_region 4 with fail
        rw [HW.out]
        refine Gr.region (by kernel_rfl) (by kernel_rfl) (Gr.draw0 _) ?_
        repeat (go_big_quiet_step ((go_at_call 57; exact Gr.calls _ (HMW.out _))))
        refine wpQuiet_nil ?_
        rintro _ ⟨g2, rfl⟩
        obtain ⟨g3, hg3⟩ := HGR.out g2
        rw [hg3]
        go_wp2
        go_ret
        exact ⟨ret_bool E.out.symm, g3.ok⟩
      | true =>
        by_cases hk0 : k = 0
        · have E : Hid (rowMB p ordD l (0, 0) (k + 1) = r) := by
            show _ = _
            rw [← HK.out]; exact (rowMB_yes ⟨by rw [hx]; exact HPV.out, .inl hk0⟩).symm
          have hkn : ¬ 0 < k := by omega
          have hkz : decide (0 < k) = false := decide_eq_false hkn
          have hkz' : decide ((0 : Int) < k) = false := decide_eq_false (by omega)
          clear hk0 hcell
          generalize l[k] = x at *
          obtain ⟨x1, x2⟩ := x
          simp only at hc0 hc1 L0 L1 HW HMW
          go_upto_region 4 with fail
          rw [HW.out]
          refine Gr.region (by kernel_rfl) (by kernel_rfl) (Gr.draw0 _) ?_
          repeat (go_big_quiet_step ((go_at_call 57; exact Gr.calls _ (HMW.out _))))
          refine wpQuiet_nil ?_
          rintro _ ⟨g2, rfl⟩
          obtain ⟨g3, hg3⟩ := HGR.out g2
          rw [hg3]
          go_wp2
          go_roundw
          case rel => exact ⟨g3, k + 1, rfl, by go_num, by omega, E⟩
          case measure => simp [intOf]; omega
        · have hk1 : k - 1 < l.length := by omega
          have hkp : (0 : Int) < k := by omega
          have hkpn : 0 < k := by omega
          have hx1 : l.getD (k - 1) (0, 0) = l[k - 1] := by simp [hk1]
          obtain ⟨b2, off2, e2, hb2, hcell2⟩ := HS.out.spanG (l := l) (i := k - 1) (s := l[k - 1]) (by simp [hk1])
          obtain ⟨rfl, rfl⟩ : b2 = b ∧ off2 = off := by simp only [Option.some.injEq, Addr.mk.injEq, and_true] at e2; exact ⟨e2.1.symm, e2.2.symm⟩
          have hn1 : ((k : Int) - 1).toNat = k - 1 := by omega
          have hw1 : IntKind.i64.wrap ((k : Int) - 1) = (k : Int) - 1 := IntWalk.i64_in _ (by omega)
          have hp1 : (0 : Int) ≤ (k : Int) - 1 := by omega
          have hp2 : (k : Int) - 1 < n := by omega
          have M0 : ∀ g2 : Gr W, g2.val.cell? ⟨b2, off2 + (k - 1) * 2, none⟩ = some (.int .i64 l[k - 1].1) := fun g2 => by obtain ⟨g3, hg3⟩ := HGR.out g2; rw [hg3]; exact (hcell2 g3).1
          have M1 : ∀ g2 : Gr W, g2.val.cell? ⟨b2, off2 + (k - 1) * 2 + 1, none⟩ = some (.int .i64 l[k - 1].2) := fun g2 => by obtain ⟨g3, hg3⟩ := HGR.out g2; rw [hg3]; exact (hcell2 g3).2
          have HC := Lib.hid (fun w => ordD_any l[k - 1] l[k] w)
          by_cases hc : ordD l[k - 1] l[k] < 0
          · have E : Hid (rowMB p ordD l (0, 0) (k + 1) = r) := by
              show _ = _
              rw [← HK.out]; exact (rowMB_yes ⟨by rw [hx]; exact HPV.out, .inr (by rw [hx, hx1]; exact hc)⟩).symm
            clear hcell hcell2
            have hcb : ¬ (0 : Int) ≤ ordD l[k - 1] l[k] := by omega
            have hcb2 : decide ((0 : Int) ≤ ordD l[k - 1] l[k]) = false := decide_eq_false hcb
            generalize ordD l[k - 1] l[k] = cc at *
            generalize l[k] = x at *
            generalize l[k - 1] = y at *
            obtain ⟨x1, x2⟩ := x
            obtain ⟨y1, y2⟩ := y
            simp only at hc0 hc1 L0 L1 M0 M1 HW HMW HC
            go_upto_region 4 with fail
            rw [HW.out]
            refine Gr.region (by kernel_rfl) (by kernel_rfl) (Gr.draw0 _) ?_
            repeat (go_big_quiet_step (first | (go_at_call 57; exact Gr.calls _ (HMW.out _)) | (go_at_call 56; exact Gr.calls _ (HC.out _))))
            refine wpQuiet_nil ?_
            rintro _ ⟨g2, rfl⟩
            obtain ⟨g3, hg3⟩ := HGR.out g2
            rw [hg3]
            go_wp2
            go_roundw
            case rel => exact ⟨g3, k + 1, rfl, by go_num, by omega, E⟩
            case measure => simp [intOf]; omega
          · have E : Hid (r = false) := by
              show _ = _
              rw [← HK.out]; exact rowMB_no hkl (fun h => by rw [hx, hx1] at h; rcases h.2 with h | h <;> omega)
            clear hcell hcell2
            have hcb : (0 : Int) ≤ ordD l[k - 1] l[k] := by omega
            have hcb2 : decide ((0 : Int) ≤ ordD l[k - 1] l[k]) = true := decide_eq_true hcb
            generalize ordD l[k - 1] l[k] = cc at *
            generalize l[k] = x at *
            generalize l[k - 1] = y at *
            obtain ⟨x1, x2⟩ := x
            obtain ⟨y1, y2⟩ := y
            simp only at hc0 hc1 L0 L1 M0 M1 HW HMW HC
            go_upto_region 4 with fail
            rw [HW.out]
            refine Gr.region (by kernel_rfl) (by kernel_rfl) (Gr.draw0 _) ?_
            repeat (go_big_quiet_step (first | (go_at_call 57; exact Gr.calls _ (HMW.out _)) | (go_at_call 56; exact Gr.calls _ (HC.out _))))
            refine wpQuiet_nil ?_
            rintro _ ⟨g2, rfl⟩
            obtain ⟨g3, hg3⟩ := HGR.out g2
            rw [hg3]
            go_wp2
            go_ret
            exact ⟨ret_bool E.out.symm, g3.ok⟩
    · have E : Hid (r = true) := by
        show _ = _
        rw [← HK.out]; exact rowMB_end (by rw [HN.out]; omega)
      go_wp2
      go_ret
      exact ⟨ret_bool E.out.symm, g.ok⟩
end Go.Proofs.YtfjmofefciopmaaGreat
end
