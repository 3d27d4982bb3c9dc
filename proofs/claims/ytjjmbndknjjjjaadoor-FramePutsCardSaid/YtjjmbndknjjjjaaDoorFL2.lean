/- The laws' walks: two frames. -/
import Derived.Test.YtjjmbndknjjjjaaDoorFL1
namespace Go.Proofs.YtjjmbndknjjjjaaDoor
open Go.ChangeShapes Go.WideShapes Go.ChangeAt Go.RowKit Go.Joins Fr

theorem putT_tells {gen number : Nat} {p r : List UInt8} (h : gen ≠ 0) (hg : gen < 4294967296) (hn : number < 4294967296) (hl : p.length ≤ 1048576) :
    rd4 ((putT gen number p ++ r).drop 4) = gen ∧ rd4 ((putT gen number p ++ r).drop 8) = number ∧ getP (putT gen number p ++ r) = p := by
  obtain ⟨h1, h2, h3⟩ := getB_put (number := number) (r := r) h hl
  have := (getB_ways hg hn).1 h1
  exact ⟨this.2.1, this.2.2.1, h2⟩
theorem putT_inj {g m h n : Nat} {a b : List UInt8} (hg : g ≠ 0) (hh : h ≠ 0) (hg2 : g < 4294967296) (hh2 : h < 4294967296) (hm : m < 4294967296) (hn : n < 4294967296) (ha : a.length ≤ 1048576) (hb : b.length ≤ 1048576) :
    putT g m a = putT h n b ↔ g = h ∧ m = n ∧ a = b := by
  constructor
  · intro e
    have x := putT_tells (r := []) hg hg2 hm ha
    have y := putT_tells (r := []) hh hh2 hn hb
    rw [e] at x
    exact ⟨x.1.symm.trans y.1, x.2.1.symm.trans y.2.1, x.2.2.symm.trans y.2.2⟩
  · rintro ⟨rfl, rfl, rfl⟩; rfl
theorem BAt.conv_n {P : Program} {w : World} {A : Option Addr} {l : List UInt8} (h : BAt w A l) (c n : Nat) (hn : l.length = n) {src dst e : TypeId} (hs : P.underlying src = some (.slice e)) (he : P.underlying e = some (.int .u8)) (hd : P.underlying dst = some .string) :
    (convert src dst (.slice A n c)).run P w = .ok (.string ⟨l.toArray⟩) w := by subst hn; exact h.conv c hs he hd

set_option maxHeartbeats 1000000 in
theorem frameApart_walk (g h m n : Nat) (a b : List UInt8) (A B : Option Addr) (ca cb : Nat) (w : World) (hg : g < 4294967296) (hh : h < 4294967296) (hm : m < 4294967296) (hn : n < 4294967296) (ha : a.length ≤ ca) (hca : ca ≤ maxLen) (hza : A = none → ca = 0) (hb : b.length ≤ cb) (hcb : cb ≤ maxLen) (hzb : B = none → cb = 0) (hA : BAt w A a) (hB : BAt w B b) (hH : Halves w) :
    Calls Tryd.prog 7 #[.int .u32 g, .int .u32 h, .int .u32 m, .int .u32 n, .slice A a.length ca, .slice B b.length cb] w fun e w' => e = .returned (.bool true) ∧ Below w.heap.size w w' := by
  have HH := Lib.hid hH
  clear hH
  have HF := Lib.hid (fun G : Gr w => fixed6_any G.val (HH.out.gr G))
  have hlm : maxLen = 9223372036854775807 := rfl
  have hza1 : (a.length : Int) ≤ 9223372036854775807 := by omega
  have hzb1 : (b.length : Int) ≤ 9223372036854775807 := by omega
  by_cases h1 : 3000 < a.length ∨ 3000 < b.length
  · have HF := Lib.hid (fixed6_any w HH.out)
    have hz : (decide ((3000 : Int) < a.length) = true) ∨ (decide ((3000 : Int) < a.length) = false ∧ decide ((3000 : Int) < b.length) = true) := by
      by_cases h : 3000 < a.length
      · exact Or.inl (decide_eq_true (by omega))
      · exact Or.inr ⟨decide_eq_false (by omega), decide_eq_true (by omega)⟩
    clear h1
    rcases hz with hz | ⟨hz, hz2⟩
    all_goals
      go_enter Tryd.func7, Tryd.ntmps7
      go_wp2_with fail
      go_at_call 8
      refine HF.out.mono ?_
      rintro e w' ⟨rfl, hb⟩
      go_wp2_with fail
      go_ret
      exact ⟨rfl, hb⟩
  have hz1 : decide ((3000 : Int) < a.length) = false := decide_eq_false (by omega)
  have hz2 : decide ((3000 : Int) < b.length) = false := decide_eq_false (by omega)
  have la : a.length ≤ 3000 := by omega
  have lb : b.length ≤ 3000 := by omega
  clear h1 hlm
  by_cases hg0 : g = 0
  · subst hg0
    have HX := Lib.hid (put_no 0 m a A ca (.inl rfl) w)
    rw [show ((0 : Nat) : Int) = 0 from rfl] at HX ⊢
    by_cases hh0 : h = 0
    · subst hh0
      have HY := Lib.hid (put_no 0 n b B cb (.inl rfl) w)
      rw [show ((0 : Nat) : Int) = 0 from rfl] at HY ⊢
      clear hA hB ha hb
      go_enter Tryd.func7, Tryd.ntmps7
      go_wp2_with fail
      go_at_call 9
      refine HX.out.mono ?_
      rintro e w' ⟨rfl, rfl⟩
      go_wp2_with fail
      go_at_call 9
      refine HY.out.mono ?_
      rintro e w' ⟨rfl, rfl⟩
      go_wp2_with fail
      go_at_call 8
      refine (fixed6_any _ HH.out).mono ?_
      rintro e w' ⟨rfl, hb⟩
      go_wp2_with fail
      go_ret
      exact ⟨rfl, hb⟩
    · have HY := Lib.hid (put_yes h n b B cb hh0 hh hn (by omega) hb hcb hzb w hB HH.out)
      clear hA hB ha hb
      go_enter Tryd.func7, Tryd.ntmps7
      go_wp2_with fail
      go_at_call 9
      refine HX.out.mono ?_
      rintro e w' ⟨rfl, rfl⟩
      go_wp2_with fail
      go_at_call 9
      refine HY.out.mono ?_
      rintro e w' ⟨A2, c2, rfl, hf⟩
      obtain ⟨G, rfl⟩ := Gr.of hf.below
      clear hf
      go_wp2_with fail
      go_at_call 8
      refine (HF.out G).mono ?_
      rintro e w' ⟨rfl, hb⟩
      go_wp2_with fail
      go_ret
      exact ⟨rfl, G.ok.trans (hb.mono G.size)⟩
  have HX := Lib.hid (put_yes g m a A ca hg0 hg hm (by omega) ha hca hza w hA HH.out)
  have hg0z : ((g : Int) == 0) = false := beq_false_of_ne (by omega)
  by_cases hh0 : h = 0
  · subst hh0
    have HY := Lib.hid (fun w : World => put_no 0 n b B cb (.inl rfl) w)
    simp only [show ((0 : Nat) : Int) = 0 from rfl] at HY ⊢
    clear hA hB ha hb
    go_enter Tryd.func7, Tryd.ntmps7
    go_wp2_with fail
    go_at_call 9
    refine HX.out.mono ?_
    rintro e w' ⟨A2, c2, rfl, hf⟩
    obtain ⟨G, rfl⟩ := Gr.of hf.below
    clear hf
    go_wp2_with fail
    go_at_call 9
    refine (HY.out _).mono ?_
    rintro e w' ⟨rfl, rfl⟩
    go_wp2_with fail
    go_at_call 8
    refine (HF.out G).mono ?_
    rintro e w' ⟨rfl, hb⟩
    go_wp2_with fail
    go_ret
    exact ⟨rfl, G.ok.trans (hb.mono G.size)⟩
  have HY := Lib.hid (fun G : Gr w => put_yes h n b B cb hh0 hh hn (by omega) hb hcb hzb G.val (hB.gr G) (HH.out.gr G))
  have HI := Lib.hid (putT_inj hg0 hh0 hg hh hm hn (show a.length ≤ 1048576 by omega) (show b.length ≤ 1048576 by omega))
  have HA := Lib.hid hA
  have HB := Lib.hid hB
  generalize putT g m a = X at *
  generalize putT h n b = Y at *
  clear hA hB ha hb
  go_enter Tryd.func7, Tryd.ntmps7
  go_wp2_with fail
  go_at_call 9
  refine HX.out.mono ?_
  rintro e w' ⟨A2, c2, rfl, hf⟩
  obtain ⟨G, rfl⟩ := Gr.of hf.below
  go_wp2_with fail
  go_at_call 9
  refine (HY.out G).mono ?_
  rintro e w' ⟨A3, c3, rfl, hf2⟩
  obtain ⟨G2, rfl⟩ := G.on hf2.below
  have HX3 := Lib.hid (hf.at_.1.below hf2.below (Nat.le_refl _))
  have HY3 := Lib.hid hf2.at_.1
  have lx := hf.len
  have ly := hf2.len
  clear hf hf2
  go_wp2_with fail
  go_at_call 8
  refine (HF.out G2).mono ?_
  rintro e w4 ⟨rfl, hb4⟩
  have hcx := (HX3.out.below hb4 (Nat.le_refl _)).conv_n (P := Tryd.prog) c2 _ lx (dst := 9) Tryd.underlying23 Tryd.underlying5 Tryd.underlying9
  have hcy := (HY3.out.below hb4 (Nat.le_refl _)).conv_n (P := Tryd.prog) c3 _ ly (dst := 9) Tryd.underlying23 Tryd.underlying5 Tryd.underlying9
  have hca := ((HA.out.gr G2).below hb4 (Nat.le_refl _)).conv (P := Tryd.prog) ca (dst := 9) Tryd.underlying23 Tryd.underlying5 Tryd.underlying9
  have hcb := ((HB.out.gr G2).below hb4 (Nat.le_refl _)).conv (P := Tryd.prog) cb (dst := 9) Tryd.underlying23 Tryd.underlying5 Tryd.underlying9
  have HBL := Lib.hid (G2.ok.trans (hb4.mono G2.size))
  clear HX HY HF HA HB HH hb4 HX3 HY3 hza hzb hza1 hzb1 hz1 hz2 lx ly
  go_wp2_with fail
  all_goals go_ret
  all_goals refine ⟨ret_bool ?_, HBL.out⟩
  all_goals have hi := HI.out
  all_goals clear HI HBL
  all_goals by_cases e : X = Y
  all_goals by_cases e2 : a = b
  all_goals simp [e, e2] at hi ⊢
  all_goals first | omega | rw [beq_false_of_ne e, beq_false_of_ne e2]
end Go.Proofs.YtjjmbndknjjjjaaDoor
