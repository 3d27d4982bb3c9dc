/- Contracts of the program's frames: what is read. -/
import Derived.Test.YtabknmlnlhflmaaDoorFW4
namespace Go.Proofs.YtabknmlnlhflmaaDoor
open Go.ChangeShapes Go.WideShapes Go.ChangeAt Go.RowKit Go.Joins Fr

theorem take_split (l : List UInt8) (a b : Nat) : l.take (a + b) = l.take a ++ (l.drop a).take b := List.take_add
theorem four_drop (l : List UInt8) (a : Nat) (h : a + 4 ≤ l.length) : four (rd4 (l.drop a)) = (l.drop a).take 4 := four_rd4 (by simp; omega)
theorem headT_of (l : List UInt8) (h : 16 ≤ l.length) (hr : rd4 l + 16 ≤ l.length) : headT (rd4 (l.drop 4)) (rd4 (l.drop 8)) (getP l) = l.take (12 + rd4 l) := by
  have hl : (getP l).length = rd4 l := by unfold getP; simp; omega
  unfold headT
  rw [hl, four_rd4 (by omega), four_drop l 4 (by omega), four_drop l 8 (by omega)]
  unfold getP
  rw [take_split l 12, show (12 : Nat) = 4 + 4 + 4 from rfl, take_split l (4 + 4), take_split l 4]
/-- When bytes begin with a frame. -/
theorem getB_ways {gen number : Nat} {l : List UInt8} (hg : gen < 4294967296) (hn : number < 4294967296) :
    getB gen number l = true ↔ 16 ≤ l.length ∧ rd4 (l.drop 4) = gen ∧ rd4 (l.drop 8) = number ∧ 0 < gen ∧ rd4 l ≤ 1048576 ∧ rd4 l + 16 ≤ l.length ∧ Rc.sum (bn (l.take (12 + rd4 l))) = rd4 (l.drop (12 + rd4 l)) := by
  constructor
  · intro h
    obtain ⟨h1, h2, h3, h4, h5⟩ := getB_iff.1 h
    have hs := getB_split h
    have hp : (getP l).length = rd4 l := getP_len h
    have hy := putT_yes (number := number) h2 (show (getP l).length ≤ 1048576 by omega)
    have e : l = four (getP l).length ++ (four gen ++ (four number ++ (getP l ++ (four (Rc.sum (bn (headT gen number (getP l)))) ++ l.drop (16 + rd4 l))))) := by
      have := hs
      rw [hy] at this
      unfold headT at this ⊢
      simpa only [List.append_assoc] using this
    have hH : headT gen number (getP l) = l.take (12 + rd4 l) := by
      have : (headT gen number (getP l)).length = 12 + rd4 l := by rw [headT_len, hp]
      have hT : l.take (12 + rd4 l) = (putT gen number (getP l) ++ l.drop (16 + rd4 l)).take (12 + rd4 l) := congrArg _ hs
      rw [hT, hy, List.append_assoc, List.take_append_of_le_length (by omega), List.take_of_length_le (by omega)]
    have d4 : l.drop 4 = four gen ++ (four number ++ (getP l ++ (four (Rc.sum (bn (headT gen number (getP l)))) ++ l.drop (16 + rd4 l)))) := by
      conv => lhs; rw [e]
      rfl
    have d8 : l.drop 8 = four number ++ (getP l ++ (four (Rc.sum (bn (headT gen number (getP l)))) ++ l.drop (16 + rd4 l))) := by
      conv => lhs; rw [e]
      rfl
    have d12 : l.drop (12 + rd4 l) = four (Rc.sum (bn (headT gen number (getP l)))) ++ l.drop (16 + rd4 l) := by
      rw [← List.drop_drop]
      have : l.drop 12 = getP l ++ (four (Rc.sum (bn (headT gen number (getP l)))) ++ l.drop (16 + rd4 l)) := by
        conv => lhs; rw [e]
        rfl
      rw [this, List.drop_append_of_le_length (by omega), List.drop_of_length_le (by omega)]
      rfl
    refine ⟨h1, by rw [d4, rd4_four hg], by rw [d8, rd4_four hn], by omega, h3, h4, ?_⟩
    rw [d12, rd4_four (sum_lt _), hH]
  · rintro ⟨h1, h2, h3, h4, h5, h6, h7⟩
    have hp : (getP l).length = rd4 l := by unfold getP; simp; omega
    refine getB_iff.2 ⟨h1, by omega, h5, h6, ?_⟩
    rw [putT_yes (by omega) (by omega)]
    have hH := headT_of l h1 h6
    rw [h2, h3] at hH
    rw [hH, h7, four_drop l _ (by omega), show 16 + rd4 l = (12 + rd4 l) + 4 by omega, take_split l (12 + rd4 l) 4]
theorem getB_none {gen number : Nat} {l : List UInt8} (hg : gen < 4294967296) (hn : number < 4294967296) (h : ¬ (16 ≤ l.length ∧ rd4 (l.drop 4) = gen ∧ rd4 (l.drop 8) = number ∧ 0 < gen ∧ rd4 l ≤ 1048576 ∧ rd4 l + 16 ≤ l.length ∧ Rc.sum (bn (l.take (12 + rd4 l))) = rd4 (l.drop (12 + rd4 l)))) : getB gen number l = false := by
  cases e : getB gen number l with
  | false => rfl
  | true => exact absurd ((getB_ways hg hn).1 e) h

/-- What is answered. -/
def GetP (gen number : Nat) (l : List UInt8) (w : World) (e : Ending) (w' : World) : Prop :=
  (getB gen number l = false ∧ e = .returned (.tuple #[.slice none 0 0, .int .i64 0, .bool false]) ∧ Below w.heap.size w w') ∨
  (getB gen number l = true ∧ ∃ A c, e = .returned (.tuple #[.slice A (rd4 l) c, .int .i64 ((16 : Int) + rd4 l), .bool true]) ∧ Fresh w w' A (rd4 l) c (getP l))

set_option maxHeartbeats 1000000 in
theorem get_any (gen number n : Nat) (l : List UInt8) (A : Option Addr) (c : Nat) (hg : gen < 4294967296) (hn : number < 4294967296) (hnl : l.length = n) (hc : n ≤ c) (hcm : c ≤ maxLen) (w : World) (hB : BAt w A l) (hH : Halves w) :
    Calls Tryd.prog 31 #[.slice A n c, .int .u32 gen, .int .u32 number] w (GetP gen number l w) := by
  have hcm' : c ≤ 9223372036854775807 := hcm
  by_cases h16 : n < 16
  · have hz : (n : Int) < 16 := by omega
    have E := Lib.hid (getB_none (l := l) hg hn (by omega))
    clear hB hH hnl
    go_enter Tryd.func31, Tryd.ntmps31
    go_wp2
    go_ret3
    exact .inl ⟨E.out, rfl, Below.refl _ _⟩
  have hz : ¬ (n : Int) < 16 := by omega
  have hW4 := word_at l A n c 4 hnl (by omega) (by omega) w hB
  have hW8 := fun g : Gr w => word_at l A n c 8 hnl (by omega) (by omega) g.val (hB.gr g)
  have hW0 := fun g : Gr w => word_at l A n c 0 hnl (by omega) (by omega) g.val (hB.gr g)
  rw [show ((4 : Nat) : Int) = 4 from rfl] at hW4
  simp only [show ((8 : Nat) : Int) = 8 from rfl] at hW8
  simp only [show ((0 : Nat) : Int) = 0 from rfl, List.drop_zero] at hW0
  have HW4 := Lib.hid hW4
  have HW8 := Lib.hid hW8
  have HW0 := Lib.hid hW0
  clear hW4 hW8 hW0
  have HB := Lib.hid hB
  have HH := Lib.hid hH
  clear hB hH
  by_cases h4 : rd4 (l.drop 4) = gen
  case neg =>
    have E := Lib.hid (getB_none (l := l) (number := number) hg hn (fun h => h4 h.2.1))
    have hq : (((rd4 (l.drop 4) : Nat) : Int) != (gen : Int)) = true := by simp; omega
    generalize rd4 (l.drop 4) = x4 at *
    clear hnl h4
    go_enter Tryd.func31, Tryd.ntmps31
    go_wp2_with fail
    go_at_call 40
    refine HW4.out.mono ?_
    rintro e w' ⟨rfl, hb⟩
    obtain ⟨g, rfl⟩ := Gr.of hb
    clear hb
    go_wp2_with fail
    go_ret3
    exact .inl ⟨E.out, rfl, g.ok⟩
  rw [h4] at HW4
  by_cases h8 : rd4 (l.drop 8) = number
  case neg =>
    have E := Lib.hid (getB_none (l := l) (gen := gen) hg hn (fun h => h8 h.2.2.1))
    have hq : (((rd4 (l.drop 8) : Nat) : Int) != (number : Int)) = true := by simp; omega
    generalize rd4 (l.drop 8) = x8 at *
    clear hnl h8 h4
    go_enter Tryd.func31, Tryd.ntmps31
    go_wp2_with fail
    go_at_call 40
    refine HW4.out.mono ?_
    rintro e w' ⟨rfl, hb⟩
    obtain ⟨g, rfl⟩ := Gr.of hb
    clear hb
    go_wp2_with fail
    go_at_call 40
    refine (HW8.out g).mono ?_
    rintro e w' ⟨rfl, hb⟩
    obtain ⟨g, rfl⟩ := g.on hb
    clear hb
    go_wp2_with fail
    go_ret3
    exact .inl ⟨E.out, rfl, g.ok⟩
  rw [h8] at HW8
  have hr := rd4_lt l
  have HM := Lib.hid (fun g : Gr w => may_be gen (rd4 l : Nat) g.val)
  by_cases hm : ¬ (0 < gen ∧ rd4 l ≤ 1048576) ∨ n < rd4 l + 16
  case pos =>
    have E := Lib.hid (getB_none (l := l) (gen := gen) (number := number) hg hn (by omega))
    have hz2 : decide (0 < gen ∧ ((rd4 l : Nat) : Int) ≤ 1048576) = false ∨ decide (0 < gen ∧ ((rd4 l : Nat) : Int) ≤ 1048576) = true ∧ (n : Int) - 12 - 4 < ((rd4 l : Nat) : Int) := by
      by_cases h : 0 < gen ∧ rd4 l ≤ 1048576
      · exact .inr ⟨decide_eq_true (by omega), by omega⟩
      · exact .inl (decide_eq_false (by omega))
    generalize rd4 l = r at *
    clear hnl h8 h4 hm
    rcases hz2 with hz2 | ⟨hz2, hz3⟩
    all_goals
      rw [hz2] at HM
      clear hz2
      go_enter Tryd.func31, Tryd.ntmps31
      go_wp2_with fail
      go_at_call 40
      refine HW4.out.mono ?_
      rintro e w' ⟨rfl, hb⟩
      obtain ⟨g, rfl⟩ := Gr.of hb
      clear hb
      go_wp2_with fail
      go_at_call 40
      refine (HW8.out g).mono ?_
      rintro e w' ⟨rfl, hb⟩
      obtain ⟨g, rfl⟩ := g.on hb
      clear hb
      go_wp2_with fail
      go_at_call 40
      refine (HW0.out g).mono ?_
      rintro e w' ⟨rfl, hb⟩
      obtain ⟨g, rfl⟩ := g.on hb
      clear hb
      go_wp2_with fail
      go_at_call 33
      refine (HM.out g).mono ?_
      rintro e w' ⟨rfl, rfl⟩
      go_wp2_with fail
      go_ret3
      exact .inl ⟨E.out, rfl, g.ok⟩
  rw [show decide (0 < gen ∧ ((rd4 l : Nat) : Int) ≤ 1048576) = true from decide_eq_true (by omega)] at HM
  have hz3 : ¬ (n : Int) - 12 - 4 < ((rd4 l : Nat) : Int) := by omega
  have hrl : 12 + rd4 l ≤ l.length := by omega
  have hcast : ((12 + rd4 l : Nat) : Int) = 12 + ((rd4 l : Nat) : Int) := by omega
  obtain ⟨A1, A2, hs1, _, hB1, _⟩ := HB.out.cut (P := Tryd.prog) (t := 23) (ca := c) hrl (by omega) (by kernel_rfl) (fun w' => by kernel_rfl)
  rw [hcast, hnl] at hs1
  have hpl : (getP l).length = rd4 l := by unfold getP; simp; omega
  obtain ⟨A3, hs3, hB3, hz6⟩ : ∃ A3, (∀ w' : World, (Instr.sliceAt 23 (.slice A n c) (some (.int .i64 12)) (some (.int .i64 (12 + ((rd4 l : Nat) : Int)))) none).run Tryd.prog w' = .ok (.slice A3 (rd4 l) (c - 12)) w') ∧ BAt w A3 (getP l) ∧ A3 ≠ none := by
    obtain ⟨b, off, rfl, hbs, hcell⟩ := HB.out (by omega)
    refine ⟨some ⟨b, off + 12, none⟩, fun w' => ?_, ?_, by simp⟩
    · rw [run_sliceAt_slice w' 23 _ _ _ _ (by kernel_rfl), run_slice_lh w' 23 _ n c (by kernel_rfl) .i64 .i64 12 (12 + ((rd4 l : Nat) : Int)) (by omega) (by omega) (by omega), show (sizeOf (Tryd.prog.elem 23)).run Tryd.prog w' = .ok 1 w' by kernel_rfl]
      simp only [Result.andThen, sliced]
      congr 1
      simp [Addr.add]
      omega
    · intro hn0
      refine ⟨b, off + 12, rfl, hbs, fun i u hi => ?_⟩
      unfold getP at hi
      rw [List.getElem?_take] at hi
      split at hi
      · rw [List.getElem?_drop] at hi
        rw [Nat.add_assoc]
        exact hcell _ _ hi
      · cases hi
  have hSU := fun g : Gr w => sum_n (l.take (12 + rd4 l)) (12 + rd4 l) (by simp; omega) A1 c (by omega) g.val (hB1.gr g) (HH.out.gr g)
  have hWE := fun g : Gr w => word_at l A n c (12 + rd4 l) hnl (by omega) (by omega) g.val (HB.out.gr g)
  simp only [hcast] at hWE
  have HSU := Lib.hid hSU
  have HWE := Lib.hid hWE
  have HCL := Lib.hid (fun g : Gr w => clone_any A3 (c - 12) (getP l) (by omega) (by unfold maxLen; omega) (fun h => absurd h hz6) (by omega) g.val (hB3.gr g))
  clear hSU hWE hB1 hB3 hcast
  by_cases h7 : Rc.sum (bn (l.take (12 + rd4 l))) = rd4 (l.drop (12 + rd4 l))
  case neg =>
    have E := Lib.hid (getB_none (l := l) (gen := gen) (number := number) hg hn (fun h => h7 h.2.2.2.2.2.2))
    have hq : (((Rc.sum (bn (l.take (12 + rd4 l))) : Nat) : Int) != ((rd4 (l.drop (12 + rd4 l)) : Nat) : Int)) = true := by simp; omega
    clear h7 HCL hs3
    generalize rd4 (l.drop (12 + rd4 l)) = x7 at *
    generalize Rc.sum (bn (l.take (12 + rd4 l))) = x6 at *
    generalize rd4 l = r at *
    clear hnl h8 h4 hm
    go_enter Tryd.func31, Tryd.ntmps31
    go_wp2_with fail
    go_at_call 40
    refine HW4.out.mono ?_
    rintro e w' ⟨rfl, hb⟩
    obtain ⟨g, rfl⟩ := Gr.of hb
    clear hb
    go_wp2_with fail
    go_at_call 40
    refine (HW8.out g).mono ?_
    rintro e w' ⟨rfl, hb⟩
    obtain ⟨g, rfl⟩ := g.on hb
    clear hb
    go_wp2_with fail
    go_at_call 40
    refine (HW0.out g).mono ?_
    rintro e w' ⟨rfl, hb⟩
    obtain ⟨g, rfl⟩ := g.on hb
    clear hb
    go_wp2_with fail
    go_at_call 33
    refine (HM.out g).mono ?_
    rintro e w' ⟨rfl, rfl⟩
    go_wp2_with fail
    go_at_call 35
    refine (HSU.out g).mono ?_
    rintro e w' ⟨rfl, rfl⟩
    go_wp2_with fail
    go_at_call 40
    refine (HWE.out g).mono ?_
    rintro e w' ⟨rfl, hb⟩
    obtain ⟨g, rfl⟩ := g.on hb
    clear hb
    go_wp2_with fail
    go_ret3
    exact .inl ⟨E.out, rfl, g.ok⟩
  have E := Lib.hid ((getB_ways (l := l) hg hn).2 ⟨by omega, h4, h8, by omega, by omega, by omega, h7⟩)
  rw [h7] at HSU
  have HPL := Lib.hid hpl
  clear h7
  have hfin : ∀ (g : Gr w) (e : Ending) (w' : World), RetB (getP l) g.val e w' → ∃ A c, e = .returned (.slice A (rd4 l) c) ∧ Fresh w w' A (rd4 l) c (getP l) := fun g e w' h => by
    obtain ⟨A, c, he, hf⟩ := h.fresh
    rw [hpl] at he hf
    refine ⟨A, c, he, hf.len, hf.le, hf.cap, hf.nil, hf.at_.mono (fun b _ hb => Nat.le_trans g.size hb), g.ok.trans (hf.below.mono g.size)⟩
  have HF := Lib.hid hfin
  clear hfin
  generalize rd4 (l.drop (12 + rd4 l)) = x7 at *
  unfold GetP
  rw [hpl] at HCL
  generalize rd4 l = r at *
  have hadd : (12 : Int) + r + 4 = 16 + r := by omega
  clear hnl h8 h4 hm
  go_enter Tryd.func31, Tryd.ntmps31
  go_wp2_with fail
  go_at_call 40
  refine HW4.out.mono ?_
  rintro e w' ⟨rfl, hb⟩
  obtain ⟨g, rfl⟩ := Gr.of hb
  clear hb
  go_wp2_with fail
  go_at_call 40
  refine (HW8.out g).mono ?_
  rintro e w' ⟨rfl, hb⟩
  obtain ⟨g, rfl⟩ := g.on hb
  clear hb
  go_wp2_with fail
  go_at_call 40
  refine (HW0.out g).mono ?_
  rintro e w' ⟨rfl, hb⟩
  obtain ⟨g, rfl⟩ := g.on hb
  clear hb
  go_wp2_with fail
  go_at_call 33
  refine (HM.out g).mono ?_
  rintro e w' ⟨rfl, rfl⟩
  go_wp2_with fail
  go_at_call 35
  refine (HSU.out g).mono ?_
  rintro e w' ⟨rfl, rfl⟩
  go_wp2_with fail
  go_at_call 40
  refine (HWE.out g).mono ?_
  rintro e w' ⟨rfl, hb⟩
  obtain ⟨g, rfl⟩ := g.on hb
  clear hb
  go_wp2_with fail
  go_at_call 26
  refine (HCL.out g).mono ?_
  intro e w' hret
  obtain ⟨A4, c4, rfl, hf⟩ := HF.out g e w' hret
  clear hret
  have HFr := Lib.hid hf
  clear hf
  go_wp2_with fail
  go_ret3
  exact .inr ⟨E.out, A4, c4, rfl, HFr.out⟩

theorem gen_short (n : Nat) (A : Option Addr) (c : Nat) (h : n < 16) (w : World) :
    Calls Tryd.prog 30 #[.slice A n c] w fun e w' => e = .returned (.int .u32 0) ∧ w = w' := by
  have hz : (n : Int) < 16 := by omega
  go_enter Tryd.func30, Tryd.ntmps30
  go_wp2
  go_ret
  exact ⟨rfl, rfl⟩
theorem gen_any (l : List UInt8) (n : Nat) (A : Option Addr) (c : Nat) (hnl : l.length = n) (h : 16 ≤ n) (hn : n ≤ 9223372036854775807) (w : World) (hB : BAt w A l) :
    Calls Tryd.prog 30 #[.slice A n c] w fun e w' => e = .returned (.int .u32 (rd4 (l.drop 4) : Nat)) ∧ Below w.heap.size w w' := by
  have hz : ¬ (n : Int) < 16 := by omega
  have hW4 := word_at l A n c 4 hnl (by omega) (by omega) w hB
  rw [show ((4 : Nat) : Int) = 4 from rfl] at hW4
  have HW4 := Lib.hid hW4
  clear hW4 hB hnl
  go_enter Tryd.func30, Tryd.ntmps30
  go_wp2_with fail
  go_at_call 40
  refine HW4.out.mono ?_
  rintro e w' ⟨rfl, hb⟩
  go_wp2_with fail
  go_ret
  exact ⟨rfl, hb⟩
end Go.Proofs.YtabknmlnlhflmaaDoor
