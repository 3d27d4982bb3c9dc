/- Contracts of the program's frames: what is put. -/
import Derived.Test.YtabknmlnlhflmaaDoorFW3
import Derived.Laws.MakeOwn
namespace Go.Proofs.YtabknmlnlhflmaaDoor
open Go.ChangeShapes Go.WideShapes Go.ChangeAt Go.RowKit Go.Joins Fr

theorem put_no (gen number : Nat) (l : List UInt8) (A : Option Addr) (c : Nat) (h : gen = 0 ∨ 1048576 < l.length) (w : World) :
    Calls Tryd.prog 23 #[.int .u32 gen, .int .u32 number, .slice A l.length c] w fun e w' => e = .returned (.tuple #[.slice none 0 0, .int .i64 2]) ∧ w = w' := by
  have HM := Lib.hid (may_be gen l.length w)
  rw [show decide (0 < gen ∧ (l.length : Int) ≤ 1048576) = false by simp; omega] at HM
  clear h
  go_enter Tryd.func23, Tryd.ntmps23
  go_wp2_with fail
  go_at_call 33
  refine HM.out.mono ?_
  rintro e w' ⟨rfl, rfl⟩
  go_wp2_with fail
  go_ret2
  exact ⟨rfl, rfl⟩

set_option maxHeartbeats 1000000 in
theorem put_yes (gen number : Nat) (l : List UInt8) (A : Option Addr) (c : Nat) (hg : gen ≠ 0) (hg2 : gen < 4294967296) (hn : number < 4294967296) (hl : l.length ≤ 1048576) (hc : l.length ≤ c) (hcm : c ≤ maxLen) (hz : A = none → c = 0) (w : World) (hB : BAt w A l) (hH : Halves w) :
    Calls Tryd.prog 23 #[.int .u32 gen, .int .u32 number, .slice A l.length c] w fun e w' => ∃ A c, e = .returned (.tuple #[.slice A (16 + l.length) c, .int .i64 0]) ∧ Fresh w w' A (16 + l.length) c (putT gen number l) := by
  have HM := Lib.hid (may_be gen l.length w)
  rw [show decide (0 < gen ∧ (l.length : Int) ≤ 1048576) = true by simp; omega] at HM
  obtain ⟨i0, hi0, hq0, hq1, hq2⟩ := info_parts u8_info
  obtain ⟨n, hnl⟩ : ∃ n, l.length = n := ⟨_, rfl⟩
  rw [hnl] at HM hl hc ⊢
  have hmk : ∃ cs : Array Value, cs.size = 16 + n ∧ ∀ w' : World, (Instr.makeSlice 23 (.int .i64 0) (.int .i64 (12 + (n : Int) + 4))).run Tryd.prog w' = .ok (.slice (some ⟨w'.heap.size, 0, none⟩) 0 (16 + n)) (w'.alloc (.cells cs 5)) := by
    refine ⟨madeCells (Value.int .u8 0).cells (16 + n), by simp [madeCells, Value.cells], fun w' => ?_⟩
    rw [run_make (P := Tryd.prog) w' 23 5 i0 _ Tryd.underlying23 hi0 hq0 .i64 .i64 0 (12 + (n : Int) + 4) (by omega) (by omega) (by rw [hq2]; omega) (by omega), hq1, show (12 + (n : Int) + 4).toNat = 16 + n by omega]
    simp
  obtain ⟨cs, hcs, hmk⟩ := hmk
  have hnz : (n : Int) ≤ 1048576 := by omega
  have HB := Lib.hid hB
  have HH := Lib.hid hH
  have HP : Hid (putT gen number l = headT gen number l ++ four (Rc.sum (bn (headT gen number l)))) := putT_yes hg (by omega)
  have HHd : Hid (headT gen number l = four n ++ (four gen ++ four number) ++ l) := by show _ = _; unfold headT; rw [hnl]; simp
  have HHl : Hid ((headT gen number l).length = 12 + n) := by show _ = _; rw [headT_len, hnl]
  have HMU : Hid (w.heap.size ≤ w.heap.size) := Nat.le_refl _
  have HS : Hid (Sl w A n c (bl l)) := by show Sl _ _ _ _ _; rw [← hnl]; exact Sl.of_bytes hB (by omega) hcm hz
  clear hB hH
  go_enter Tryd.func23, Tryd.ntmps23
  go_wp2_with fail
  go_at_call 33
  refine HM.out.mono ?_
  rintro e w' ⟨rfl, rfl⟩
  go_wp2_with fail
  have H1 := Lib.hid (add_word w.heap.size 0 4 (16 + n) [] n w.heap.size (by omega) rfl (by omega) (w.alloc (.cells cs 5)) (by simp) (World.ownsRow_made (base := w.heap.size) w cs (16 + n) (Nat.le_refl _) (by unfold maxLen; omega) (by omega)))
  have hW1 := Lib.hid ((Below.refl w.heap.size w).alloc (Nat.le_refl _) (.cells cs 5))
  go_at_call 34
  refine H1.out.mono ?_
  rintro e w1 ⟨g1, c1, rfl, o1, b1⟩
  have W1 := Lib.hid (hW1.out.trans b1)
  have H2 := Lib.hid (add_word g1 4 8 c1 _ gen w.heap.size hg2 rfl (by omega) w1 W1.out.size o1)
  clear o1 b1 H1 hW1
  go_wp2_with fail
  go_at_call 34
  refine H2.out.mono ?_
  rintro e w2 ⟨g2, c2, rfl, o2, b2⟩
  have W2 := Lib.hid (W1.out.trans b2)
  have H3 := Lib.hid (add_word g2 8 12 c2 _ number w.heap.size hn rfl (by omega) w2 W2.out.size o2)
  clear o2 b2 H2 W1
  go_wp2_with fail
  go_at_call 34
  refine H3.out.mono ?_
  rintro e w3 ⟨g3, c3, rfl, o3, b3⟩
  have W3 := Lib.hid (W2.out.trans b3)
  have O3 := Lib.hid o3
  have S3 := Lib.hid (HS.out.below W3.out (Nat.le_refl _))
  have h1 := Lib.hid (bl_one l)
  clear o3 b3 H3 W2
  go_wp2_with (at_builtin; refine wpList_append_sl rfl _ _ _ (by rfl) w.heap.size 5 i0 _ 1 1 Tryd.underlying23 hi0 hq0 hq1 hq2 rfl (by decide) (.slice (some ⟨g3, 0, none⟩) 12 c3) 12 _ (by rfl) O3.out A n c (bl l) (by rfl) S3.out (by rw [bl_len]; omega) h1.out (by unfold maxLen; omega) (by omega) W3.out.size ?_)
  intro v4 w4 o4 gr4
  have W4 : Hid (Below w.heap.size w w4) := W3.out.grown gr4 W3.out.size fun k hk => (O3.out.lt k hk).1
  rw [← bl_app, ← HHd.out] at o4
  obtain ⟨g4, c4, rfl, hc4, hm4⟩ := o4.form (by omega)
  have hB4 : BAt w4 (some ⟨g4, 0, none⟩) (headT gen number l) := by
    have o5 := o4
    rw [← HHl.out] at o5
    obtain ⟨A', c', e', _, _, q, _⟩ := BAt.of_own o5
    simp only [Value.slice.injEq, true_and] at e'
    rw [e'.1]; exact q
  have HSU := Lib.hid (sum_n (headT gen number l) (12 + n) HHl.out (some ⟨g4, 0, none⟩) c4 (by omega) w4 hB4 (HH.out.below W4.out))
  have H5 := Lib.hid (add_word g4 (12 + n) (16 + n) c4 _ (Rc.sum (bn (headT gen number l))) w.heap.size (sum_lt _) (by omega) (by omega) w4 W4.out.size o4)
  rw [← HP.out] at H5
  have HPl : Hid ((putT gen number l).length = 16 + n) := by show _ = _; rw [putT_len hg (by omega), hnl]
  generalize Rc.sum (bn (headT gen number l)) = su at *
  clear gr4 o4 hB4
  go_wp2_with fail
  go_at_call 35
  refine HSU.out.mono ?_
  rintro e w5 ⟨rfl, rfl⟩
  go_wp2_with fail
  go_at_call 34
  refine H5.out.mono ?_
  rintro e w5 ⟨g5, c5, rfl, o5, b5⟩
  go_wp2_with fail
  go_ret2
  have o6 := o5
  rw [← HPl.out] at o6
  obtain ⟨A', c', e', q1, q2, q3, q4, _⟩ := BAt.of_own o6
  simp only [Value.slice.injEq, true_and] at e'
  obtain ⟨rfl, rfl⟩ := e'
  rw [HPl.out] at q1
  exact ⟨_, _, rfl, HPl.out, q1, q2, q4, ⟨q3, fun _ ad had => by obtain rfl := Option.some.inj had; exact (o5.lt g5 rfl).1⟩, W4.out.trans b5⟩
end Go.Proofs.YtabknmlnlhflmaaDoor
