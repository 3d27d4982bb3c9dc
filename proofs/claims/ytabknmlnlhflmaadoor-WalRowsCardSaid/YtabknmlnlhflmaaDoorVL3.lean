/- The laws' walks: the chapter's example. -/
import Derived.Test.YtabknmlnlhflmaaDoorVL2
namespace Go.Proofs.YtabknmlnlhflmaaDoor
open Go.ChangeShapes Go.WideShapes Go.ChangeAt Go.RowKit Go.Joins Dm Fr Vl

/-- A new disk's log. -/
def newL (n : Nat) : Lg := ⟨0, n / 2, 1, [], [], 16⟩
def newD (n : Nat) : Dk := { Dk.new n with laid := over (over (zeros n) (n / 2, zeros (n / 2))) (n / 2, putT 1 0 []) }
theorem new_good {n : Nat} (hn : n ≤ 4194304) (h64 : 64 ≤ n / 2) : Vl.Good (newL n) (newD n) := (openM_new hn h64).2
theorem open_new (n D : Nat) (F : Nat → Prop) (hn : n ≤ 4194304) (h64 : 64 ≤ n / 2) (w : World) (hd : DiskAt w D (Dk.new n) F) (hH : Halves w) :
    Calls Tryd.prog 7 #[.pointer (some ⟨D, 0, none⟩)] w fun e w' => ∃ P, e = .returned (.tuple #[.pointer (some ⟨P, 0, none⟩), .int .i64 0]) ∧ OpenTo w w' P D (newL n) (newD n) F := by
  have hM := (openM_new hn h64).1
  refine (open_ok D (Dk.new n) F (by simp [Dk.new]; omega) (by simp [Dk.new]) w hd rfl hH).mono ?_
  rintro e w' (⟨_, P, h1, h2⟩ | ⟨h0, _⟩)
  · rw [hM] at h2; exact ⟨P, h1, h2⟩
  · rw [hM] at h0; exact absurd rfl h0
/-- An open log, on a disk; all of it lies behind a base. -/
structure Up (w0 w : World) (P D : Nat) (lg : Lg) (m : Dk) (K F : Nat → Prop) : Prop where
  log : LogAt w P D lg K
  disk : DiskAt w D m F
  apart : ∀ k, K k → ¬ F k
  kB : ∀ k, K k → w0.heap.size ≤ k
  fB : ∀ k, F k → w0.heap.size ≤ k
  below : Below w0.heap.size w0 w
theorem Up.grow {w0 w w' : World} {P D : Nat} {lg : Lg} {m : Dk} {K F : Nat → Prop} (h : Up w0 w P D lg m K F) (hb : Below w.heap.size w w') : Up w0 w' P D lg m K F :=
  ⟨h.log.below hb, h.disk.below hb, h.apart, h.kB, h.fB, h.below.trans (hb.mono h.below.size)⟩
theorem Up.to {w0 w w' : World} {P D : Nat} {lg lg' : Lg} {m m' : Dk} {K F : Nat → Prop} (h : Up w0 w P D lg m K F) (hT : LogTo w w' P D lg' m' K F) : ∃ K' F', Up w0 w' P D lg' m' K' F' := by
  obtain ⟨K2, F2, h1, h2, h3, h4, h5, h6⟩ := hT
  have hs := h.below.size
  exact ⟨K2, F2, h1, h2, h3, fun k hk => (h5 k hk).elim (h.kB k) fun h => by omega, fun k hk => (h6 k hk).elim (h.fB k) fun h => by omega, ((Off.of_below h.below).trans h4 fun k hk => .inr (hk.elim (h.kB k) (h.fB k))).toBelow (F := fun k => w0.heap.size ≤ k) (Nat.le_refl _) fun k hk => hk⟩
theorem Halves.up {w0 w : World} {P D : Nat} {lg : Lg} {m : Dk} {K F : Nat → Prop} (hH : Halves w0) (h : Up w0 w P D lg m K F) : Halves w := hH.below h.below

theorem new_up (n : Nat) (hn : n ≤ 4194304) (h64 : 64 ≤ n / 2) (w : World) (hH : Halves w) (w1 w2 : World) (D P : Nat) (F : Nat → Prop) (h1 : DiskAt w1 D (Dk.new n) F) (b1 : Below w.heap.size w w1) (f1 : ∀ b, F b → w.heap.size ≤ b) (hO : OpenTo w1 w2 P D (newL n) (newD n) F) :
    ∃ K F', Up w w2 P D (newL n) (newD n) K F' := by
  obtain ⟨K, F2, h2, h3, h4, h5, h6, h7⟩ := hO
  have hs := b1.size
  exact ⟨K, F2, h2, h3, h4, fun k hk => Nat.le_trans hs (h6 k hk), fun k hk => (h7 k hk).elim (f1 k) fun h => by omega, ((Off.of_below b1).trans' h5).toBelow (Nat.le_refl _) f1⟩

set_option maxRecDepth 100000 in
set_option maxHeartbeats 1000000 in
theorem fixed7_any (w : World) (hH : Halves w) :
    Calls Tryd.prog 5 #[] w fun e w' => e = .returned (.bool true) ∧ Below w.heap.size w w' := by
  have HN := Lib.hid (disk_new_any 200 (by omega) w)
  rw [show (min (max (200 : Int) 0) 4194304).toNat = 200 by decide] at HN
  have HH := Lib.hid hH
  clear hH
  go_enter Tryd.func5, Tryd.ntmps5
  go_wp2_with fail
  go_at_call 6
  refine HN.out.mono ?_
  rintro e w1 ⟨D, F, rfl, h1, b1, f1⟩
  have HO := Lib.hid (open_new 200 D F (by omega) (by omega) w1 h1 (HH.out.below b1))
  have HU : Hid (∀ w2 P, OpenTo w1 w2 P D (newL 200) (newD 200) F → ∃ K F', Up w w2 P D (newL 200) (newD 200) K F') := fun w2 P h => new_up 200 (by omega) (by omega) w HH.out w1 w2 D P F h1 b1 f1 h
  clear h1 b1 f1
  go_wp2_with fail
  go_at_call 7
  refine HO.out.mono ?_
  rintro e w2 ⟨P, rfl, hO⟩
  obtain ⟨K, F2, hU⟩ := HU.out w2 P hO
  have HUp := Lib.hid hU
  have HG := Lib.hid (Gen_any P D (newL 200) K w2 hU.log)
  rw [show ((newL 200).gen : Int) = 1 from rfl] at HG
  have HR := Lib.hid (Records_any P D (newL 200) K (fun p hp => by simp [newL] at hp) w2 hU.log)
  rw [show (newL 200).recs.length = 0 from rfl] at HR
  clear hO hU
  go_wp2_with fail
  go_at_call 11
  refine HG.out.mono ?_
  rintro e w' ⟨rfl, rfl⟩
  go_wp2_with fail
  go_at_call 14
  refine HR.out.mono ?_
  rintro e w3 ⟨rfl, _, hb⟩
  have HB := Lib.hid hb
  have HRo := Lib.hid (Room_any P D (newL 200) K w3 (HUp.out.log.below hb))
  rw [show roomI (newL 200).half (newL 200).end_ = 68 by decide] at HRo
  clear hb
  go_wp2_with fail
  go_at_call 8
  refine HRo.out.mono ?_
  rintro e w' ⟨rfl, rfl⟩
  go_wp2_with fail
  go_ret
  exact ⟨rfl, HUp.out.below.trans (HB.out.mono HUp.out.below.size)⟩
end Go.Proofs.YtabknmlnlhflmaaDoor
