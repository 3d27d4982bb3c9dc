/- The laws' walks: there and back. -/
import Derived.Test.YtjjmbndknjjjjaaDoorFL3
namespace Go.Proofs.YtjjmbndknjjjjaaDoor
open Go.ChangeShapes Go.WideShapes Go.ChangeAt Go.RowKit Go.Joins Fr

theorem Fresh.sl {w w' : World} {A : Option Addr} {n c : Nat} {l : List UInt8} (h : Fresh w w' A n c l) : Sl w' A n c (bl l) := by
  have := Sl.of_bytes h.at_.1 (by rw [h.len]; exact h.le) h.cap h.nil
  rwa [h.len] at this
theorem putT_gen0 (number : Nat) (l : List UInt8) : putT 0 number l = [] := by unfold putT; rw [if_pos (.inl rfl)]

set_option maxHeartbeats 1000000 in
theorem framePuts_walk (gen number : Nat) (l r : List UInt8) (A B : Option Addr) (c cb : Nat) (w : World) (hg : gen < 4294967296) (hn : number < 4294967296) (hl : l.length ≤ c) (hc : c ≤ maxLen) (hz : A = none → c = 0) (hr : r.length ≤ cb) (hcb : cb ≤ maxLen) (hzb : B = none → cb = 0) (hA : BAt w A l) (hB : BAt w B r) (hH : Halves w) :
    Calls Tryd.prog 3 #[.int .u32 gen, .int .u32 number, .slice A l.length c, .slice B r.length cb] w fun e w' => e = .returned (.bool true) ∧ Below w.heap.size w w' := by
  have HH := Lib.hid hH
  clear hH
  by_cases h1 : 5000 < l.length ∨ 5000 < r.length
  · have HF := Lib.hid (fixed6_any w HH.out)
    have hz : (decide ((5000 : Int) < l.length) = true) ∨ (decide ((5000 : Int) < l.length) = false ∧ decide ((5000 : Int) < r.length) = true) := by
      by_cases h : 5000 < l.length
      · exact Or.inl (decide_eq_true (by omega))
      · exact Or.inr ⟨decide_eq_false (by omega), decide_eq_true (by omega)⟩
    clear h1
    rcases hz with hz | ⟨hz, hz2⟩
    all_goals
      go_enter Tryd.func3, Tryd.ntmps3
      go_wp2_with fail
      go_at_call 8
      refine HF.out.mono ?_
      rintro e w' ⟨rfl, hb⟩
      go_wp2_with fail
      go_ret
      exact ⟨rfl, hb⟩
  have hz1 : decide ((5000 : Int) < l.length) = false := decide_eq_false (by omega)
  have hz2 : decide ((5000 : Int) < r.length) = false := decide_eq_false (by omega)
  have ll : l.length ≤ 5000 := by omega
  have lr : r.length ≤ 5000 := by omega
  have HR := Lib.hid (fun w : World => rput_any gen number ⟨l.toArray⟩ hg hn (by simp [ByteArray.size]; omega) w)
  clear h1
  by_cases hg0 : gen = 0
  · subst hg0
    have HX := Lib.hid (put_no 0 number l A c (.inl rfl) w)
    rw [putT_gen0] at HR
    simp only [show ((0 : Nat) : Int) = 0 from rfl] at HX HR ⊢
    have cvA := fun (g : Gr w) => (hA.gr g).conv (P := Tryd.prog) c (dst := 9) Tryd.underlying23 Tryd.underlying5 Tryd.underlying9
    have cv0 := fun (g : Gr w) => (BAt.nil g.val none).conv_n (P := Tryd.prog) 0 0 rfl (dst := 9) Tryd.underlying23 Tryd.underlying5 Tryd.underlying9
    clear hA hB hl hz hr hzb
    go_enter Tryd.func3, Tryd.ntmps3
    go_wp2_with fail
    go_at_call 9
    refine HX.out.mono ?_
    rintro e w' ⟨rfl, rfl⟩
    go_wp2_with fail
    refine Gr.region (by kernel_rfl) (by kernel_rfl) (Gr.draw0 _) ?_
    repeat (go_big_quiet_step (fail))
    go_big_quiet_step ((go_at_call 10; exact Gr.calls _ (HR.out _)))
    repeat (go_big_quiet_step (fail))
    refine wpQuiet_nil ?_
    rintro _ ⟨g, rfl⟩
    go_wp2_with fail
    go_at_call 8
    refine (fixed6_any _ (HH.out.gr g)).mono ?_
    rintro e w' ⟨rfl, hb⟩
    go_wp2_with fail
    go_ret
    exact ⟨rfl, g.ok.trans (hb.mono g.size)⟩
  have hg0z : ((gen : Int) == 0) = false := beq_false_of_ne (by omega)
  have hg0p : decide (0 < gen) = true := decide_eq_true (by omega)
  have HX := Lib.hid (put_yes gen number l A c hg0 hg hn (by omega) hl hc hz w hA HH.out)
  have hpl := putT_len (number := number) hg0 (show l.length ≤ 1048576 by omega)
  have HT := Lib.hid (putT_tells (r := []) hg0 hg hn (show l.length ≤ 1048576 by omega))
  have HGP := Lib.hid (getB_put (gen := gen) (number := number) (r := r) hg0 (show l.length ≤ 1048576 by omega))
  rw [List.append_nil] at HT
  obtain ⟨m, hm⟩ : ∃ m, 16 + l.length = m := ⟨_, rfl⟩
  have hmz : (m : Int) = 16 + (l.length : Int) := by omega
  have hml : m ≤ 5016 := by omega
  rw [hm] at HX hpl
  obtain ⟨i0, hi0, hq0, hq1, hq2⟩ := info_parts u8_info
  have HA := Lib.hid hA
  have HB := Lib.hid (Sl.of_bytes hB hr hcb hzb)
  have e1 : (⟨l.toArray⟩ : ByteArray).data.toList = l := rfl
  rw [e1] at HR
  clear e1 hA hB
  generalize putT gen number l = X at *
  go_enter Tryd.func3, Tryd.ntmps3
  go_wp2_with fail
  go_at_call 9
  refine HX.out.mono ?_
  rintro e w1 ⟨A1, c1, rfl, hf⟩
  have W1 := Lib.hid hf.below
  have HX1 := Lib.hid hf.at_.1
  have HS1 := Lib.hid hf.sl
  have hc1 := hf.le
  have hm1 : c1 ≤ maxLen := hf.cap
  have HH1 := Lib.hid (HH.out.below W1.out)
  have HA1 := Lib.hid (HA.out.below W1.out (Nat.le_refl _))
  have HB1 := Lib.hid (HB.out.below W1.out (Nat.le_refl _))
  clear hf
  have cvA := fun (g : Gr w1) => (HA1.out.gr g).conv (P := Tryd.prog) c (dst := 9) Tryd.underlying23 Tryd.underlying5 Tryd.underlying9
  have cvX := fun (g : Gr w1) => (HX1.out.gr g).conv_n (P := Tryd.prog) c1 _ hpl (dst := 9) Tryd.underlying23 Tryd.underlying5 Tryd.underlying9
  go_wp2_with fail
  refine Gr.region (by kernel_rfl) (by kernel_rfl) (Gr.draw0 _) ?_
  repeat (go_big_quiet_step (fail))
  go_big_quiet_step ((go_at_call 10; exact Gr.calls _ (HR.out _)))
  repeat (go_big_quiet_step (fail))
  refine wpQuiet_nil ?_
  rintro _ ⟨g, rfl⟩
  have h1x := Lib.hid (bl_one X)
  have h1r := Lib.hid (bl_one r)
  have hmx : 0 + m ≤ maxLen := by unfold maxLen; omega
  have hmx2 : m + r.length ≤ maxLen := by unfold maxLen; omega
  go_wp2_with (at_builtin; refine wpList_append_sl rfl _ _ _ (by rfl) g.val.heap.size 5 i0 _ 1 1 Tryd.underlying23 hi0 hq0 hq1 hq2 rfl (by decide) (.slice (some ⟨g.val.heap.size, 0, none⟩) 0 0) 0 [] (by rfl) (World.ownsRow_made (base := g.val.heap.size) g.val #[] 0 (Nat.le_refl _) (by decide) rfl) A1 m c1 (bl X) (by rfl) ((HS1.out.gr g).alloc _) (by rw [bl_len]; omega) h1x.out hmx (by omega) (by simp) ?_)
  intro v2 w2 o2 gr2
  have W2 : Hid (Below g.val.heap.size g.val w2) := ((Below.refl _ _).alloc (Nat.le_refl _) _).grown gr2 (by simp) (by simp [Value.ownBlock])
  have o2' : w2.ownsRow g.val.heap.size 5 1 v2 m (bl X) := by simpa using o2
  have O2 := Lib.hid o2'
  clear o2 o2' gr2
  go_wp2_with (at_builtin; refine wpList_append_sl rfl _ _ _ (by rfl) g.val.heap.size 5 i0 _ 1 1 Tryd.underlying23 hi0 hq0 hq1 hq2 rfl (by decide) v2 m (bl X) (by rfl) O2.out B r.length cb (bl r) (by rfl) ((HB1.out.gr g).below W2.out (Nat.le_refl _)) (by rw [bl_len]; omega) h1r.out hmx2 (by omega) W2.out.size ?_)
  intro v3 w3 o3 gr3
  have W3 : Hid (Below g.val.heap.size g.val w3) := W2.out.grown gr3 W2.out.size fun k hk => (O2.out.lt k hk).1
  rw [← bl_app] at o3
  have hxr : (X ++ r).length = m + r.length := by simp [hpl]
  have o3' := o3
  rw [← hxr] at o3'
  obtain ⟨A3, c3, rfl, q1, q2, q3, q4, _⟩ := BAt.of_own o3'
  rw [hxr] at q1 ⊢
  obtain ⟨g3, rfl⟩ := g.on W3.out
  have HG := Lib.hid (get_any gen number (m + r.length) (X ++ r) A3 c3 hg hn hxr q1 q2 g3.val q3 (HH1.out.gr g3))
  clear q3 o3 o3' gr3 O2 W2 HS1 HB1 HB h1x h1r W3 hxr q1 q2
  go_wp2_with fail
  go_at_call 11
  refine HG.out.mono ?_
  rintro e w4 (⟨hno, _⟩ | ⟨_, A4, c4, rfl, hf⟩)
  case inl => rw [HGP.out.1] at hno; cases hno
  rw [HGP.out.2.1, HGP.out.2.2] at hf
  rw [HGP.out.2.2]
  obtain ⟨g4, rfl⟩ := g3.on hf.below
  have HP4 := Lib.hid hf.at_.1
  clear hf HG
  go_wp2_with fail
  go_at_call 8
  refine (fixed6_any _ (HH1.out.gr g4)).mono ?_
  rintro e w5 ⟨rfl, hb⟩
  have HP5 := Lib.hid (HP4.out.below hb (Nat.le_refl _))
  obtain ⟨g5, rfl⟩ := g4.on hb
  have cvP := HP5.out.conv (P := Tryd.prog) c4 (dst := 9) Tryd.underlying23 Tryd.underlying5 Tryd.underlying9
  have HN := Lib.hid (gen_any X m A1 c1 hpl (by omega) (by omega) g5.val (HX1.out.gr g5))
  rw [HT.out.1] at HN
  clear hb HP4
  go_wp2_with fail
  go_at_call 12
  refine HN.out.mono ?_
  rintro e w5 ⟨rfl, hb⟩
  obtain ⟨g6, rfl⟩ := g5.on hb
  go_wp2_with fail
  go_ret
  exact ⟨rfl, W1.out.trans (g6.ok.mono W1.out.size)⟩
end Go.Proofs.YtjjmbndknjjjjaaDoor
