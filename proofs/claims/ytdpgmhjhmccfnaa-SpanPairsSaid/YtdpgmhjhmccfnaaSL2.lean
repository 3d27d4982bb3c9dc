/- SpanPairs, walked. -/
import Derived.Test.YtdpgmhjhmccfnaaSL1
namespace Go.Proofs.Ytdpgmhjhmccfnaa
open Go.ChangeShapes Go.WideShapes Go.ChangeAt Go.RowKit Go.Joins Sp

set_option maxRecDepth 100000 in
set_option maxHeartbeats 8000000 in
theorem spanPairs_any (K : SpK) (a b : List Spn) (A B : Option Addr) (c d : Nat) (m : Int) (hm : Int64P m) (ha : In64 a) (hb : In64 b) (w : World) (hsa : Sl w A a.length c (sv a)) (hsb : Sl w B b.length d (sv b)) :
    Calls Try.prog 4 #[.slice A a.length c, .slice B b.length d, .int .i64 m] w fun e w' => e = .returned (.bool true) ∧ Below w.heap.size w w' := by
  have HFX := Lib.hid (fun V : World => fixed13_any K V)
  have hac : (a.length : Int) ≤ 9223372036854775807 := by have := hsa.le; have := hsa.cap; unfold maxLen at this; omega
  have hbc : (b.length : Int) ≤ 9223372036854775807 := by have := hsb.le; have := hsb.cap; unfold maxLen at this; omega
  have hways : (decide ((40 : Int) < a.length) = true ∨ decide ((40 : Int) < a.length) = false ∧ decide ((40 : Int) < b.length) = true) ∨ (a.length ≤ 40 ∧ b.length ≤ 40) ∧ decide ((40 : Int) < a.length) = false ∧ decide ((40 : Int) < b.length) = false := by
    by_cases q1 : 40 < a.length
    · exact .inl (.inl (decide_eq_true (by omega)))
    · by_cases q2 : 40 < b.length
      · exact .inl (.inr ⟨decide_eq_false (by omega), decide_eq_true (by omega)⟩)
      · exact .inr ⟨⟨by omega, by omega⟩, decide_eq_false (by omega), decide_eq_false (by omega)⟩
  rcases hways with hways | ⟨⟨hla, hlb⟩, q1, q2⟩
  · clear hsa hsb ha hb
    rcases hways with q1 | ⟨q1, q2⟩
    all_goals
      go_enter Try.func4, Try.ntmps4
      go_wp2_with fail
      go_at_call 8
      refine (HFX.out _).mono ?_
      rintro e w2 ⟨rfl, hb⟩
      obtain ⟨g, rfl⟩ := Gr.of hb
      clear hb
      go_wp2_with fail
      go_ret
      exact ⟨rfl, g.ok⟩
  have hla1 : a.length ≤ 1000 := by omega
  have hlb1 : b.length ≤ 1000 := by omega
  have hpl : ∀ k, (pair (cW k) a b).length ≤ 1000 := fun k => Nat.le_trans (pair_len (cW k) a b) (by omega)
  have C0 : Hid (∀ (V : World), Sl V A a.length c (sv a) → Sl V B b.length d (sv b) → Calls Try.prog 16 #[.slice A a.length c, .slice B b.length d] V (RetS (pair (cW 0) a b) V)) := fun V h1 h2 => K.union a b A B c d V hla1 hlb1 ha hb h1 h2
  have R0 : Hid (∀ (V : World), Sl V A a.length c (sv a) → Sl V B b.length d (sv b) → Calls Try.prog 19 #[.slice A a.length c, .slice B b.length d, .int .i64 0] V (RetS (pair (cW 0) a b) V)) := fun V h1 h2 => rpair_any a b A B c d 0 V hla1 hlb1 h1 h2
  have E0 : Hid (∀ (V : World) (A B : Option Addr) (c d : Nat), Sl V A (pair (cW 0) a b).length c (sv (pair (cW 0) a b)) → Sl V B (pair (cW 0) a b).length d (sv (pair (cW 0) a b)) → Calls Try.prog 10 #[.slice A (pair (cW 0) a b).length c, .slice B (pair (cW 0) a b).length d] V fun e w' => e = .returned (.bool true) ∧ Below V.heap.size V w') := fun V A B c d h1 h2 => by
    have := rsame_any _ _ A B c d V h1 h2; rwa [decide_eq_true rfl] at this
  have M0 : Hid (∀ (V : World) (A : Option Addr) (c : Nat), Sl V A (pair (cW 0) a b).length c (sv (pair (cW 0) a b)) → Calls Try.prog 14 #[.slice A (pair (cW 0) a b).length c, .int .i64 m] V fun e w' => e = .returned (.bool (cW 0 (hasB a m) (hasB b m))) ∧ Below V.heap.size V w') := fun V A c h => by
    have := K.has (pair (cW 0) a b) m A c V (hpl 0) hm h; rwa [pairW_hasB] at this
  have C1 : Hid (∀ (V : World), Sl V A a.length c (sv a) → Sl V B b.length d (sv b) → Calls Try.prog 17 #[.slice A a.length c, .slice B b.length d] V (RetS (pair (cW 1) a b) V)) := fun V h1 h2 => K.meet a b A B c d V hla1 hlb1 ha hb h1 h2
  have R1 : Hid (∀ (V : World), Sl V A a.length c (sv a) → Sl V B b.length d (sv b) → Calls Try.prog 19 #[.slice A a.length c, .slice B b.length d, .int .i64 1] V (RetS (pair (cW 1) a b) V)) := fun V h1 h2 => rpair_any a b A B c d 1 V hla1 hlb1 h1 h2
  have E1 : Hid (∀ (V : World) (A B : Option Addr) (c d : Nat), Sl V A (pair (cW 1) a b).length c (sv (pair (cW 1) a b)) → Sl V B (pair (cW 1) a b).length d (sv (pair (cW 1) a b)) → Calls Try.prog 10 #[.slice A (pair (cW 1) a b).length c, .slice B (pair (cW 1) a b).length d] V fun e w' => e = .returned (.bool true) ∧ Below V.heap.size V w') := fun V A B c d h1 h2 => by
    have := rsame_any _ _ A B c d V h1 h2; rwa [decide_eq_true rfl] at this
  have M1 : Hid (∀ (V : World) (A : Option Addr) (c : Nat), Sl V A (pair (cW 1) a b).length c (sv (pair (cW 1) a b)) → Calls Try.prog 14 #[.slice A (pair (cW 1) a b).length c, .int .i64 m] V fun e w' => e = .returned (.bool (cW 1 (hasB a m) (hasB b m))) ∧ Below V.heap.size V w') := fun V A c h => by
    have := K.has (pair (cW 1) a b) m A c V (hpl 1) hm h; rwa [pairW_hasB] at this
  have C2 : Hid (∀ (V : World), Sl V A a.length c (sv a) → Sl V B b.length d (sv b) → Calls Try.prog 18 #[.slice A a.length c, .slice B b.length d] V (RetS (pair (cW 2) a b) V)) := fun V h1 h2 => K.minus a b A B c d V hla1 hlb1 ha hb h1 h2
  have R2 : Hid (∀ (V : World), Sl V A a.length c (sv a) → Sl V B b.length d (sv b) → Calls Try.prog 19 #[.slice A a.length c, .slice B b.length d, .int .i64 2] V (RetS (pair (cW 2) a b) V)) := fun V h1 h2 => rpair_any a b A B c d 2 V hla1 hlb1 h1 h2
  have E2 : Hid (∀ (V : World) (A B : Option Addr) (c d : Nat), Sl V A (pair (cW 2) a b).length c (sv (pair (cW 2) a b)) → Sl V B (pair (cW 2) a b).length d (sv (pair (cW 2) a b)) → Calls Try.prog 10 #[.slice A (pair (cW 2) a b).length c, .slice B (pair (cW 2) a b).length d] V fun e w' => e = .returned (.bool true) ∧ Below V.heap.size V w') := fun V A B c d h1 h2 => by
    have := rsame_any _ _ A B c d V h1 h2; rwa [decide_eq_true rfl] at this
  have M2 : Hid (∀ (V : World) (A : Option Addr) (c : Nat), Sl V A (pair (cW 2) a b).length c (sv (pair (cW 2) a b)) → Calls Try.prog 14 #[.slice A (pair (cW 2) a b).length c, .int .i64 m] V fun e w' => e = .returned (.bool (cW 2 (hasB a m) (hasB b m))) ∧ Below V.heap.size V w') := fun V A c h => by
    have := K.has (pair (cW 2) a b) m A c V (hpl 2) hm h; rwa [pairW_hasB] at this
  have HA : Hid (∀ (V : World), Sl V A a.length c (sv a) → Calls Try.prog 15 #[.slice A a.length c, .int .i64 m] V fun e w' => e = .returned (.bool (hasB a m)) ∧ V = w') := fun V h => rhas_any a A c m V h
  have HB : Hid (∀ (V : World), Sl V B b.length d (sv b) → Calls Try.prog 15 #[.slice B b.length d, .int .i64 m] V fun e w' => e = .returned (.bool (hasB b m)) ∧ V = w') := fun V h => rhas_any b B d m V h
  have Sa := Lib.hid hsa
  have Sb := Lib.hid hsb
  clear hsa hsb ha hb hm hpl hla hlb hla1 hlb1
  generalize pair (cW 0) a b = P0 at *
  generalize pair (cW 1) a b = P1 at *
  generalize pair (cW 2) a b = P2 at *
  generalize hasB a m = x at *
  generalize hasB b m = y at *
  go_enter Try.func4, Try.ntmps4
  go_wp2_with fail
  go_at_call 16
  refine (C0.out _ Sa.out Sb.out).mono ?_
  rintro e w5 ⟨Au, cu, rfl, hs, hb⟩
  have Sa := Lib.hid (Sa.out.below hb (Nat.le_refl _))
  have Sb := Lib.hid (Sb.out.below hb (Nat.le_refl _))
  have Su := Lib.hid hs
  obtain ⟨g, rfl⟩ : ∃ g5 : Gr w, w5 = g5.val := ⟨⟨w5, hb⟩, rfl⟩
  clear hb hs
  go_wp2_with fail
  go_at_call 17
  refine (C1.out _ Sa.out Sb.out).mono ?_
  rintro e w5 ⟨Av, cv, rfl, hs, hb⟩
  have Sa := Lib.hid (Sa.out.below hb (Nat.le_refl _))
  have Sb := Lib.hid (Sb.out.below hb (Nat.le_refl _))
  have Su := Lib.hid (Su.out.below hb (Nat.le_refl _))
  have Sv := Lib.hid hs
  obtain ⟨g, rfl⟩ : ∃ g5 : Gr w, w5 = g5.val := Gr.on g hb
  clear hb hs
  go_wp2_with fail
  go_at_call 18
  refine (C2.out _ Sa.out Sb.out).mono ?_
  rintro e w5 ⟨Az, cz, rfl, hs, hb⟩
  have Sa := Lib.hid (Sa.out.below hb (Nat.le_refl _))
  have Sb := Lib.hid (Sb.out.below hb (Nat.le_refl _))
  have Su := Lib.hid (Su.out.below hb (Nat.le_refl _))
  have Sv := Lib.hid (Sv.out.below hb (Nat.le_refl _))
  have Sz := Lib.hid hs
  obtain ⟨g, rfl⟩ : ∃ g5 : Gr w, w5 = g5.val := Gr.on g hb
  clear hb hs
  go_wp2_with fail
  go_at_call 19
  refine (R0.out _ Sa.out Sb.out).mono ?_
  rintro e w5 ⟨Ar, cr, rfl, hs, hb⟩
  have Sa := Lib.hid (Sa.out.below hb (Nat.le_refl _))
  have Sb := Lib.hid (Sb.out.below hb (Nat.le_refl _))
  have Su := Lib.hid (Su.out.below hb (Nat.le_refl _))
  have Sv := Lib.hid (Sv.out.below hb (Nat.le_refl _))
  have Sz := Lib.hid (Sz.out.below hb (Nat.le_refl _))
  have Sr := Lib.hid hs
  obtain ⟨g, rfl⟩ : ∃ g5 : Gr w, w5 = g5.val := Gr.on g hb
  clear hb hs
  go_wp2_with fail
  go_at_call 10
  refine (E0.out _ _ _ _ _ Su.out Sr.out).mono ?_
  rintro e w5 ⟨rfl, hb⟩
  have Sa := Lib.hid (Sa.out.below hb (Nat.le_refl _))
  have Sb := Lib.hid (Sb.out.below hb (Nat.le_refl _))
  have Su := Lib.hid (Su.out.below hb (Nat.le_refl _))
  have Sv := Lib.hid (Sv.out.below hb (Nat.le_refl _))
  have Sz := Lib.hid (Sz.out.below hb (Nat.le_refl _))
  obtain ⟨g, rfl⟩ : ∃ g5 : Gr w, w5 = g5.val := Gr.on g hb
  clear hb
  go_wp2_with fail
  go_at_call 19
  refine (R1.out _ Sa.out Sb.out).mono ?_
  rintro e w5 ⟨Ar, cr, rfl, hs, hb⟩
  have Sa := Lib.hid (Sa.out.below hb (Nat.le_refl _))
  have Sb := Lib.hid (Sb.out.below hb (Nat.le_refl _))
  have Su := Lib.hid (Su.out.below hb (Nat.le_refl _))
  have Sv := Lib.hid (Sv.out.below hb (Nat.le_refl _))
  have Sz := Lib.hid (Sz.out.below hb (Nat.le_refl _))
  have Sr := Lib.hid hs
  obtain ⟨g, rfl⟩ : ∃ g5 : Gr w, w5 = g5.val := Gr.on g hb
  clear hb hs
  go_wp2_with fail
  go_at_call 10
  refine (E1.out _ _ _ _ _ Sv.out Sr.out).mono ?_
  rintro e w5 ⟨rfl, hb⟩
  have Sa := Lib.hid (Sa.out.below hb (Nat.le_refl _))
  have Sb := Lib.hid (Sb.out.below hb (Nat.le_refl _))
  have Su := Lib.hid (Su.out.below hb (Nat.le_refl _))
  have Sv := Lib.hid (Sv.out.below hb (Nat.le_refl _))
  have Sz := Lib.hid (Sz.out.below hb (Nat.le_refl _))
  obtain ⟨g, rfl⟩ : ∃ g5 : Gr w, w5 = g5.val := Gr.on g hb
  clear hb
  go_wp2_with fail
  go_at_call 19
  refine (R2.out _ Sa.out Sb.out).mono ?_
  rintro e w5 ⟨Ar, cr, rfl, hs, hb⟩
  have Sa := Lib.hid (Sa.out.below hb (Nat.le_refl _))
  have Sb := Lib.hid (Sb.out.below hb (Nat.le_refl _))
  have Su := Lib.hid (Su.out.below hb (Nat.le_refl _))
  have Sv := Lib.hid (Sv.out.below hb (Nat.le_refl _))
  have Sz := Lib.hid (Sz.out.below hb (Nat.le_refl _))
  have Sr := Lib.hid hs
  obtain ⟨g, rfl⟩ : ∃ g5 : Gr w, w5 = g5.val := Gr.on g hb
  clear hb hs
  go_wp2_with fail
  go_at_call 10
  refine (E2.out _ _ _ _ _ Sz.out Sr.out).mono ?_
  rintro e w5 ⟨rfl, hb⟩
  have Sa := Lib.hid (Sa.out.below hb (Nat.le_refl _))
  have Sb := Lib.hid (Sb.out.below hb (Nat.le_refl _))
  have Su := Lib.hid (Su.out.below hb (Nat.le_refl _))
  have Sv := Lib.hid (Sv.out.below hb (Nat.le_refl _))
  have Sz := Lib.hid (Sz.out.below hb (Nat.le_refl _))
  obtain ⟨g, rfl⟩ : ∃ g5 : Gr w, w5 = g5.val := Gr.on g hb
  clear hb
  go_wp2_with fail
  go_at_call 15
  refine (HA.out _ Sa.out).mono ?_
  rintro e w5 ⟨rfl, rfl⟩
  go_wp2_with fail
  go_at_call 15
  refine (HB.out _ Sb.out).mono ?_
  rintro e w5 ⟨rfl, rfl⟩
  go_wp2_with fail
  cases x <;> cases y
  all_goals
    go_at_call 8
    refine (HFX.out _).mono ?_
    rintro e w5 ⟨rfl, hb⟩
    have Su := Lib.hid (Su.out.below hb (Nat.le_refl _))
    have Sv := Lib.hid (Sv.out.below hb (Nat.le_refl _))
    have Sz := Lib.hid (Sz.out.below hb (Nat.le_refl _))
    obtain ⟨g, rfl⟩ : ∃ g5 : Gr w, w5 = g5.val := Gr.on g hb
    clear hb
    go_wp2_with fail
    go_at_call 14
    refine (M0.out _ _ _ Su.out).mono ?_
    rintro e w5 ⟨rfl, hb⟩
    have Sv := Lib.hid (Sv.out.below hb (Nat.le_refl _))
    have Sz := Lib.hid (Sz.out.below hb (Nat.le_refl _))
    obtain ⟨g, rfl⟩ : ∃ g5 : Gr w, w5 = g5.val := Gr.on g hb
    clear hb
    go_wp2_with fail
    go_at_call 14
    refine (M1.out _ _ _ Sv.out).mono ?_
    rintro e w5 ⟨rfl, hb⟩
    have Sz := Lib.hid (Sz.out.below hb (Nat.le_refl _))
    obtain ⟨g, rfl⟩ : ∃ g5 : Gr w, w5 = g5.val := Gr.on g hb
    clear hb
    go_wp2_with fail
    go_at_call 14
    refine (M2.out _ _ _ Sz.out).mono ?_
    rintro e w5 ⟨rfl, hb⟩
    obtain ⟨g, rfl⟩ : ∃ g5 : Gr w, w5 = g5.val := Gr.on g hb
    clear hb
    go_wp2_with fail
    go_ret
    exact ⟨by simp [cW], g.ok⟩
end Go.Proofs.Ytdpgmhjhmccfnaa
