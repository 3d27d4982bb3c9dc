/- Contracts: the places of turns, clocks at a turn, how a local time stands. -/
import Derived.Test.YtdboeeeoekffnaaZW1
import Derived.Test.YtdboeeeoekffnaaKit2
namespace Go.Proofs.Ytdboeeeoekffnaa
open Go.ChangeShapes Go.WideShapes Go.ChangeAt Go.RowKit Zn

theorem cell_old {w w' : World} {b k : Nat} {v : Value} (h : w.cell? ⟨b, k, none⟩ = some v) (hb : Below w.heap.size w w') : w'.cell? ⟨b, k, none⟩ = some v := by
  have hl : b < w.heap.size := World.block_lt_of_cell? _ _ h
  rw [hb.cell (p := ⟨b, k, none⟩) hl]; exact h
theorem Gr.lay2 (w : World) (x y : Value) (t : TypeId) :
    (∀ g : Gr (w.alloc (.cells #[x, y] t)), g.val.cell? ⟨w.heap.size, 0, none⟩ = some x) ∧ (∀ g : Gr (w.alloc (.cells #[x, y] t)), g.val.cell? ⟨w.heap.size, 1, none⟩ = some y) :=
  ⟨fun g => g.cell1 0 x rfl, fun g => g.cell1 1 y rfl⟩
theorem Gr.layOld {w : World} {b k : Nat} {v : Value} (h : w.cell? ⟨b, k, none⟩ = some v) (o : Obj) : ∀ g : Gr (w.alloc o), g.val.cell? ⟨b, k, none⟩ = some v :=
  fun g => cell_old h g.below1
theorem Gr.layZ {w : World} {A : Option Addr} {z : Z} (h : ZAt w A z) (o : Obj) : ∀ g : Gr (w.alloc o), ZAt g.val A z := fun g => h.below g.below1

theorem fb_any (w : World) (A : Option Addr) (z : Z) (c : Nat) (u : Int) (hm : mayP z) (hz : ZAt w A z) :
    Calls Try.prog 21 #[.agg #[.int .i64 z.base, .slice A z.n c], .int .i64 u] w fun e w' => e = .returned (.int .i64 (fb z u)) ∧ Below w.heap.size w w' := by
  obtain ⟨W0, hW0⟩ : ∃ W0, W0 = (w.alloc (.cells #[.int .i64 z.base, .slice A z.n c] 24)).alloc (.cells #[.int .i64 u] 2) := ⟨_, rfl⟩
  have hB : Below w.heap.size w W0 := by rw [hW0]; exact ((Below.refl _ w).alloc (Nat.le_refl _) _).alloc (by simp) _
  have hn := hm.2.2.1
  have c1 : W0.cell? ⟨w.heap.size, 1, none⟩ = some (.slice A z.n c) := by rw [hW0]; simp [go_sem]
  have c2 : W0.cell? ⟨w.heap.size + 1, 0, none⟩ = some (.int .i64 u) := by rw [hW0]; simp [go_sem]
  have HS := search_fb #[.pointer (some ⟨w.heap.size, 0, none⟩), .pointer (some ⟨w.heap.size + 1, 0, none⟩)] z.n (fun i => decide (u < z.t i)) (fb z u) W0 (by omega) (fb_le z u)
    (fun i hi => by have := fb_no hi; simp; omega) (fun i hi hin => by have := fb_all hm hi hin; simpa using this)
    (fun g i hi => fbc_any g.val A z c i w.heap.size (w.heap.size + 1) u hi (by omega) (hz.below (hB.trans (g.ok.mono hB.size))) (cell_old c1 g.ok) (cell_old c2 g.ok))
  clear hz c1 c2
  have HB := Lib.hid hB
  clear hB
  go_enter Try.func21, Try.ntmps21
  go_wp2_with (go_at_call 24; rw [← hW0]; refine HS.mono ?_; rintro e w' ⟨rfl, hb⟩)
  go_ret
  exact ⟨rfl, HB.out.trans (hb.mono HB.out.size)⟩

set_option maxHeartbeats 1000000 in
theorem clocks_any (w : World) (A : Option Addr) (z : Z) (c p : Nat) (hp : p < z.n) (hm : mayP z) (hz : ZAt w A z) :
    Calls Try.prog 27 #[.agg #[.int .i64 z.base, .slice A z.n c], .int .i64 p] w fun e w' => e = .returned (.tuple #[.int .i64 (z.t p + ah z p), .int .i64 (z.t p + z.o p)]) ∧ Below w.heap.size w w' := by
  obtain ⟨b, off, rfl, hb, h1, h2⟩ := hz.at_ hp
  have hn := hm.2.2.1
  have ⟨b1, b2⟩ := ah_bd hm p (by omega)
  have ⟨b3, b4⟩ := o_bd hm hp
  have ⟨b5, b6⟩ := t_bd hm hp
  have e1 := Gr.layOld h1 (.cells #[.int .i64 z.base, .slice (some ⟨b, off, none⟩) z.n c] 24)
  have e2 := Gr.layOld h2 (.cells #[.int .i64 z.base, .slice (some ⟨b, off, none⟩) z.n c] 24)
  obtain ⟨e3, e4⟩ := Gr.lay2 w (.int .i64 z.base) (.slice (some ⟨b, off, none⟩) z.n c) 24
  have HZ := Lib.hid (Gr.layZ hz (.cells #[.int .i64 z.base, .slice (some ⟨b, off, none⟩) z.n c] 24))
  clear hz
  have hiz : (p : Int) < (z.n : Int) := by omega
  have hp' : p ≤ z.n := by omega
  have hn' : z.n ≤ 1000 := by omega
  clear hm
  go_enter Try.func27, Try.ntmps27
  go_wp2
  refine Gr.region (by kernel_rfl) (by kernel_rfl) (Gr.draw0 _) ?_
  repeat (go_big_quiet_step ((go_at_call 20; exact Gr.calls _ (ahead_any _ _ z c p hp' hn' (HZ.out _)))))
  refine wpQuiet_nil ?_
  rintro _ ⟨g, rfl⟩
  go_wp2
  go_ret2
  exact ⟨rfl, g.below1⟩

theorem npc_any (w : World) (A : Option Addr) (z : Z) (c i zb ub : Nat) (l : Int) (hi : i < z.n) (hm : mayP z) (hz : ZAt w A z)
    (h0 : w.cell? ⟨zb, 0, none⟩ = some (.int .i64 z.base)) (h1 : w.cell? ⟨zb, 1, none⟩ = some (.slice A z.n c)) (hu : w.cell? ⟨ub, 0, none⟩ = some (.int .i64 l)) :
    Calls Try.prog 26 (#[.int .i64 i] ++ #[.pointer (some ⟨zb, 0, none⟩), .pointer (some ⟨ub, 0, none⟩)]) w fun e w' => e = .returned (.bool (npB z l i)) ∧ Below w.heap.size w w' := by
  have HC := Lib.hid (clocks_any w A z c i hi hm hz)
  have HU := fun (g : Gr w) => cell_old hu g.ok
  have ⟨b1, b2⟩ := ah_bd hm i (by omega)
  have ⟨b3, b4⟩ := o_bd hm hi
  have ⟨b5, b6⟩ := t_bd hm hi
  clear hm hz
  unfold npB
  go_enter Try.func26, Try.ntmps26
  go_wp2_with (go_at_call 27; (with_reducible refine HC.out.mono ?_); rintro e w' ⟨rfl, hb⟩; obtain ⟨g, rfl⟩ := Gr.of hb; clear hb)
  all_goals go_ret
  all_goals refine ⟨?_, g.ok⟩
  all_goals simp_all

theorem np_any (w : World) (A : Option Addr) (z : Z) (c : Nat) (l : Int) (hm : mayP z) (hz : ZAt w A z) :
    Calls Try.prog 22 #[.agg #[.int .i64 z.base, .slice A z.n c], .int .i64 l] w fun e w' => e = .returned (.int .i64 (np z l)) ∧ Below w.heap.size w w' := by
  obtain ⟨W0, hW0⟩ : ∃ W0, W0 = (w.alloc (.cells #[.int .i64 z.base, .slice A z.n c] 24)).alloc (.cells #[.int .i64 l] 2) := ⟨_, rfl⟩
  have hB : Below w.heap.size w W0 := by rw [hW0]; exact ((Below.refl _ w).alloc (Nat.le_refl _) _).alloc (by simp) _
  have hn := hm.2.2.1
  have c0 : W0.cell? ⟨w.heap.size, 0, none⟩ = some (.int .i64 z.base) := by rw [hW0]; simp [go_sem]
  have c1 : W0.cell? ⟨w.heap.size, 1, none⟩ = some (.slice A z.n c) := by rw [hW0]; simp [go_sem]
  have c2 : W0.cell? ⟨w.heap.size + 1, 0, none⟩ = some (.int .i64 l) := by rw [hW0]; simp [go_sem]
  have HS := search_np #[.pointer (some ⟨w.heap.size, 0, none⟩), .pointer (some ⟨w.heap.size + 1, 0, none⟩)] z.n (npB z l) (np z l) W0 (by omega) (np_le z l)
    (fun i hi => np_none hi) (fun i hi hin => np_all hm hi hin)
    (fun g i hi => npc_any g.val A z c i w.heap.size (w.heap.size + 1) l hi hm (hz.below (hB.trans (g.ok.mono hB.size))) (cell_old c0 g.ok) (cell_old c1 g.ok) (cell_old c2 g.ok))
  clear hz c0 c1 c2
  have HB := Lib.hid hB
  clear hB
  go_enter Try.func22, Try.ntmps22
  go_wp2_with (go_at_call 24; rw [← hW0]; refine HS.mono ?_; rintro e w' ⟨rfl, hb⟩)
  go_ret
  exact ⟨rfl, HB.out.trans (hb.mono HB.out.size)⟩

theorem standing_any (w : World) (A : Option Addr) (z : Z) (c p : Nat) (l : Int) (hp : p ≤ z.n) (hm : mayP z) (hz : ZAt w A z) :
    Calls Try.prog 23 #[.agg #[.int .i64 z.base, .slice A z.n c], .int .i64 p, .int .i64 l] w fun e w' => e = .returned (.int .i64 (kindI z l p)) ∧ Below w.heap.size w w' := by
  have hn := hm.2.2.1
  have HZ := Gr.layZ hz (.cells #[.int .i64 z.base, .slice A z.n c] 24)
  by_cases h : p = z.n
  · rw [show kindI z l p = 0 by unfold kindI; rw [if_pos h]]
    clear hz HZ hm
    have h' : ((p : Int) == (z.n : Int)) = true := by simp; omega
    go_enter Try.func23, Try.ntmps23
    go_wp2
    go_ret
    exact ⟨rfl, (Below.refl _ _).alloc (Nat.le_refl _) _⟩
  · have HC := Lib.hid (fun (g : Gr (w.alloc (.cells #[.int .i64 z.base, .slice A z.n c] 24))) => clocks_any g.val A z c p (by omega) hm (HZ g))
    have ⟨b1, b2⟩ := ah_bd hm p (by omega)
    have ⟨b3, b4⟩ := o_bd hm (p := p) (by omega)
    have ⟨b5, b6⟩ := t_bd hm (p := p) (by omega)
    have h' : ((p : Int) == (z.n : Int)) = false := by simp; omega
    obtain ⟨g0, hg0⟩ := Gr.start (w.alloc (.cells #[.int .i64 z.base, .slice A z.n c] 24))
    have HC0 := Lib.hid (HC.out g0)
    rw [← hg0] at HC0
    clear hm hz HZ HC hg0 g0
    have KI : Hid (kindI z l p = if z.t p + ah z p ≤ l then 1 else if z.t p + z.o p ≤ l then 2 else 0) := by show _ = _; unfold kindI; rw [if_neg h]
    by_cases d1 : z.t p + ah z p ≤ l
    · rw [show kindI z l p = 1 by rw [KI.out, if_pos d1]]
      clear KI
      go_enter Try.func23, Try.ntmps23
      go_wp2_with (go_at_call 27; (with_reducible refine HC0.out.mono ?_); rintro e w' ⟨rfl, hb⟩; obtain ⟨g, rfl⟩ := Gr.of hb; clear hb)
      go_ret
      exact ⟨rfl, g.below1⟩
    · by_cases d2 : z.t p + z.o p ≤ l
      · rw [show kindI z l p = 2 by rw [KI.out, if_neg d1, if_pos d2]]
        clear KI
        go_enter Try.func23, Try.ntmps23
        go_wp2_with (go_at_call 27; (with_reducible refine HC0.out.mono ?_); rintro e w' ⟨rfl, hb⟩; obtain ⟨g, rfl⟩ := Gr.of hb; clear hb)
        go_ret
        exact ⟨rfl, g.below1⟩
      · rw [show kindI z l p = 0 by rw [KI.out, if_neg d1, if_neg d2]]
        clear KI
        go_enter Try.func23, Try.ntmps23
        go_wp2_with (go_at_call 27; (with_reducible refine HC0.out.mono ?_); rintro e w' ⟨rfl, hb⟩; obtain ⟨g, rfl⟩ := Gr.of hb; clear hb)
        go_ret
        exact ⟨rfl, g.below1⟩
end Go.Proofs.Ytdboeeeoekffnaa
