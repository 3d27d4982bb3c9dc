import Derived.Test.YtfjmofefciopmaaGreatRows
import Derived.Test.YtfjmofefciopmaaGreatZShelf
import Derived.Test.YtfjmofefciopmaaGreatZQW5
import Derived.Test.YtfjmofefciopmaaGreatZMD
/- Contracts of the program's rules: small tests. -/
section
namespace Go.Proofs.YtfjmofefciopmaaGreat
open Go.ChangeShapes Go.WideShapes Go.ChangeAt Go.RowKit Qr Ck
def fromB (a n b : Int) : Bool := decide (a ≤ n) && decide (n ≤ b)
theorem fromB_iff {a n b : Int} : fromB a n b = true ↔ a ≤ n ∧ n ≤ b := by unfold fromB; simp
theorem isFrom_any (a n b : Int) (w : World) :
    Calls Tryz.prog 49 #[.int .i64 a, .int .i64 n, .int .i64 b] w fun e w' => e = .returned (.bool (fromB a n b)) ∧ w = w' := by
  obtain ⟨q, hq⟩ : ∃ q, fromB a n b = q := ⟨_, rfl⟩
  rw [hq]
  by_cases h1 : a ≤ n
  · by_cases h2 : n ≤ b
    · have E : Hid (q = true) := by show _ = _; rw [← hq, fromB_iff]; exact ⟨h1, h2⟩
      clear hq
      go_enter Tryz.func49, Tryz.ntmps49
      go_wp2
      go_ret
      exact ⟨ret_bool E.out.symm, rfl⟩
    · have E : Hid (q = false) := by show _ = _; rw [← hq]; unfold fromB; simp; omega
      clear hq
      go_enter Tryz.func49, Tryz.ntmps49
      go_wp2
      go_ret
      exact ⟨ret_bool E.out.symm, rfl⟩
  · have E : Hid (q = false) := by show _ = _; rw [← hq]; unfold fromB; simp; omega
    have h1b : decide (a ≤ n) = false := decide_eq_false h1
    clear hq
    go_enter Tryz.func49, Tryz.ntmps49
    go_wp2
    go_ret
    exact ⟨ret_bool E.out.symm, rfl⟩
def placeB (most n : Int) : Bool := decide (n ≠ 0) && fromB (-most) n most
theorem isPlace_any (most : Int) (w : World) :
    Calls Tryz.prog 54 #[.int .i64 most] w fun e w' => e = .returned (.func (.func 87) #[] #[.pointer (some ⟨w.heap.size, 0, none⟩)]) ∧ w' = w.alloc (.cells #[.int .i64 most] 3) := by
  go_enter Tryz.func54, Tryz.ntmps54
  go_wp2
  go_ret
  exact ⟨rfl, rfl⟩
theorem isPlace1_any (most n : Int) (b : Nat) (w : World) (h0 : 0 ≤ most ∧ most ≤ 1000) (hc : w.cell? ⟨b, 0, none⟩ = some (.int .i64 most)) :
    Calls Tryz.prog 87 #[.int .i64 n, .pointer (some ⟨b, 0, none⟩)] w fun e w' => e = .returned (.bool (placeB most n)) ∧ w = w' := by
  obtain ⟨q, hq⟩ : ∃ q, placeB most n = q := ⟨_, rfl⟩
  rw [hq]
  obtain ⟨m0, m1⟩ := h0
  by_cases h1 : n = 0
  · have E : Hid (q = false) := by show _ = _; rw [← hq]; unfold placeB; simp [h1]
    subst h1
    clear hq
    go_enter Tryz.func87, Tryz.ntmps87
    go_wp2
    go_ret
    exact ⟨ret_bool E.out.symm, rfl⟩
  · have E : Hid (fromB (-most) n most = q) := by show _ = _; rw [← hq]; unfold placeB; simp [h1]
    have h1b : (n != 0) = true := by simpa using h1
    have HF := Lib.hid (fun w => isFrom_any (-most) n most w)
    clear hq
    rw [E.out] at HF
    go_enter Tryz.func87, Tryz.ntmps87
    go_wp2_with (go_at_call 49; (with_reducible refine (HF.out _).mono ?_); rintro e w' ⟨rfl, rfl⟩)
    go_ret
    exact ⟨ret_bool rfl, rfl⟩
theorem may1_any (n : Int) (w : World) :
    Calls Tryz.prog 53 #[.int .i64 n] w fun e w' => e = .returned (.bool (fromB 1 n 12)) ∧ w = w' := by
  have HF := Lib.hid (fun w => isFrom_any 1 n 12 w)
  generalize fromB 1 n 12 = q at *
  go_enter Tryz.func53, Tryz.ntmps53
  go_wp2_with (go_at_call 49; (with_reducible refine (HF.out _).mono ?_); rintro e w' ⟨rfl, rfl⟩)
  go_ret
  exact ⟨ret_bool rfl, rfl⟩
theorem cmp_any (x y : Int) (w : World) : Calls Tryz.prog 52 #[.int .i64 x, .int .i64 y] w fun e w' => e = .returned (.int .i64 (Lib.compareInt x y)) ∧ w = w' :=
  (Tryz.cmp_Compare_int x y w).mono fun _ _ ⟨h1, h2⟩ => ⟨h1, h2.symm⟩
def ordD (a b : Int × Int) : Int := if a.1 ≠ b.1 then Lib.compareInt a.1 b.1 else Lib.compareInt a.2 b.2
theorem ordD_any (a b : Int × Int) (w : World) :
    Calls Tryz.prog 56 #[.agg #[.int .i64 a.1, .int .i64 a.2], .agg #[.int .i64 b.1, .int .i64 b.2]] w fun e w' => e = .returned (.int .i64 (ordD a b)) ∧ Below w.heap.size w w' := by
  obtain ⟨a1, a2⟩ := a
  obtain ⟨b1, b2⟩ := b
  simp only
  obtain ⟨q, hq⟩ : ∃ q, ordD (a1, a2) (b1, b2) = q := ⟨_, rfl⟩
  rw [hq]
  have HB : ∀ o1 o2 : Obj, Below w.heap.size w ((w.alloc o1).alloc o2) := fun o1 o2 => ((Below.refl _ w).alloc (Nat.le_refl _) _).alloc (by simp) _
  have HBh := Lib.hid HB
  clear HB
  by_cases h1 : a1 = b1
  · have E : Hid (Lib.compareInt a2 b2 = q) := by show _ = _; rw [← hq]; unfold ordD; simp [h1]
    subst h1
    have HF := Lib.hid (fun w => cmp_any a2 b2 w)
    clear hq
    rw [E.out] at HF
    go_enter Tryz.func56, Tryz.ntmps56
    go_wp2_with (go_at_call 52; (with_reducible refine (HF.out _).mono ?_); rintro e w' ⟨rfl, rfl⟩)
    go_ret
    exact ⟨ret_int rfl, HBh.out _ _⟩
  · have E : Hid (Lib.compareInt a1 b1 = q) := by show _ = _; rw [← hq]; unfold ordD; simp [h1]
    have h1b : (a1 != b1) = true := by simpa using h1
    have HF := Lib.hid (fun w => cmp_any a1 b1 w)
    clear hq
    rw [E.out] at HF
    go_enter Tryz.func56, Tryz.ntmps56
    go_wp2_with (go_at_call 52; (with_reducible refine (HF.out _).mono ?_); rintro e w' ⟨rfl, rfl⟩)
    go_ret
    exact ⟨ret_int rfl, HBh.out _ _⟩
end Go.Proofs.YtfjmofefciopmaaGreat
end
