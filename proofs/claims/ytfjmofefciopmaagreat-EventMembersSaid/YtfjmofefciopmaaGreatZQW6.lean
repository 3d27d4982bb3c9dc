import Derived.Test.YtfjmofefciopmaaGreatZQW4
/- Contracts of the document's rules: the same rules; great ones. -/
section
namespace Go.Proofs.YtfjmofefciopmaaGreat
open Go.ChangeShapes Go.WideShapes Go.ChangeAt Go.RowKit Qr Ck
def greatB (r : R) : Bool := decide (100 < r.bm.length ∨ 100 < r.bd.length ∨ 200 < r.bw.length ∨ 900 < r.bs.length)
theorem rgreat_any (r : R) (A1 A2 A3 A4 : Option Addr) (c1 c2 c3 c4 : Nat) (w : World) (hs : RAt w r A1 A2 A3 A4 c1 c2 c3 c4) :
    Calls Tryz.prog 19 #[.agg (rcells r A1 A2 A3 A4 c1 c2 c3 c4)] w fun e w' => e = .returned (.bool (greatB r)) ∧ Below w.heap.size w w' := by
  have hl1 : r.bm.length ≤ 9223372036854775807 := Nat.le_trans hs.s1.le hs.s1.cap
  have hl2 : r.bd.length ≤ 9223372036854775807 := Nat.le_trans hs.s2.le hs.s2.cap
  have hl3 : r.bw.length ≤ 9223372036854775807 := Nat.le_trans hs.s3.le hs.s3.cap
  have hl4 : r.bs.length ≤ 9223372036854775807 := Nat.le_trans hs.s4.le hs.s4.cap
  obtain ⟨q, hq⟩ : ∃ q, greatB r = q := ⟨_, rfl⟩
  have hG : decide (100 < r.bm.length ∨ 100 < r.bd.length ∨ 200 < r.bw.length ∨ 900 < r.bs.length) = q := hq
  rw [hq]
  clear hq hs
  unfold rcells
  obtain ⟨freq, iv_, count, until_, bm, bd, bw, bs, start⟩ := r
  simp only at *
  generalize bm.length = n1 at *
  generalize bd.length = n2 at *
  generalize bw.length = n3 at *
  generalize bs.length = n4 at *
  have hc : ((100 : Int) < n1 ∧ Hid (q = true)) ∨ (¬ (100 : Int) < n1 ∧ (100 : Int) < n2 ∧ Hid (q = true)) ∨ (¬ (100 : Int) < n1 ∧ ¬ (100 : Int) < n2 ∧ (200 : Int) < n3 ∧ Hid (q = true)) ∨ (¬ (100 : Int) < n1 ∧ ¬ (100 : Int) < n2 ∧ ¬ (200 : Int) < n3 ∧ (900 : Int) < n4 ∧ Hid (q = true)) ∨ (¬ (100 : Int) < n1 ∧ ¬ (100 : Int) < n2 ∧ ¬ (200 : Int) < n3 ∧ ¬ (900 : Int) < n4 ∧ Hid (q = false)) := by
    have hy : (100 < n1 ∨ 100 < n2 ∨ 200 < n3 ∨ 900 < n4) → q = true := fun h => by rw [← hG]; exact decide_eq_true h
    have hn : ¬ (100 < n1 ∨ 100 < n2 ∨ 200 < n3 ∨ 900 < n4) → q = false := fun h => by rw [← hG]; exact decide_eq_false h
    by_cases a1 : 100 < n1
    · exact .inl ⟨by omega, hy (by omega)⟩
    · by_cases a2 : 100 < n2
      · exact .inr (.inl ⟨by omega, by omega, hy (by omega)⟩)
      · by_cases a3 : 200 < n3
        · exact .inr (.inr (.inl ⟨by omega, by omega, by omega, hy (by omega)⟩))
        · by_cases a4 : 900 < n4
          · exact .inr (.inr (.inr (.inl ⟨by omega, by omega, by omega, by omega, hy (by omega)⟩)))
          · exact .inr (.inr (.inr (.inr ⟨by omega, by omega, by omega, by omega, hn (by omega)⟩)))
  clear hG
  rcases hc with ⟨a1, E⟩ | ⟨a1, a2, E⟩ | ⟨a1, a2, a3, E⟩ | ⟨a1, a2, a3, a4, E⟩ | ⟨a1, a2, a3, a4, E⟩
  all_goals
    go_enter Tryz.func19, Tryz.ntmps19
    go_wp2_with fail
    go_ret
    first
      | exact ⟨ret_bool E.out.symm, (Below.refl _ _).alloc (Nat.le_refl _) _⟩
      | exact ⟨ret_bool ((decide_eq_true (by omega)).trans E.out.symm), (Below.refl _ _).alloc (Nat.le_refl _) _⟩
      | exact ⟨ret_bool ((decide_eq_false (by omega)).trans E.out.symm), (Below.refl _ _).alloc (Nat.le_refl _) _⟩
end Go.Proofs.YtfjmofefciopmaaGreat
end
