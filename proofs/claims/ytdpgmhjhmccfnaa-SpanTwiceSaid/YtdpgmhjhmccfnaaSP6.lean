/- Contracts of the program's rows of spans: rows one behind the other; the minutes in one of two rows. -/
import Derived.Test.YtdpgmhjhmccfnaaSP4
import Derived.Lib.AppendZeros
namespace Go.Proofs.Ytdpgmhjhmccfnaa
open Go.ChangeShapes Go.WideShapes Go.ChangeAt Go.RowKit Go.Joins Sp

set_option maxRecDepth 100000 in
set_option maxHeartbeats 1000000 in
theorem proom13_any (n : Nat) (hn : n ≤ 4000000) (w : World) :
    Calls Try.prog 39 #[.slice none 0 0, .int .i64 n] w fun e w' => (∃ v, e = .returned v ∧ w'.ownsRow w.heap.size 32 2 v 0 []) ∧ Below w.heap.size w w' := by
  have hnz : (n : Int) ≤ 4000000 := by omega
  rcases Nat.eq_zero_or_pos n with rfl | h0
  · go_enter Try.func39, Try.ntmps39
    go_wp2_with fail
    go_ret
    exact ⟨⟨_, rfl, World.ownsRow_nil _ _ _ _⟩, Below.refl _ _⟩
  · obtain ⟨i0, hi0, hq0, hq1, hq2⟩ := info_parts span_info
    have hpos : (0 : Int) < n := by omega
    have hnn : ¬ (n : Int) < 0 := by omega
    have hrz : ∀ ty, (Builtin.append_ #[22, 3] ty #[.slice none 0 0, .int .i64 n]).run Try.prog w = .ok (.slice (some ⟨w.heap.size, 0, none⟩) n (grownCap w n 0 32)) (w.drew.alloc (.cells (Builtin.zeroCells #[.int .i64 0, .int .i64 0] n ++ Builtin.zeroCells #[.int .i64 0, .int .i64 0] (grownCap w n 0 32 - n)) 32)) := fun ty =>
      Lib.run_append_nil_zeros w 22 3 ty 32 i0 (.agg #[.int .i64 0, .int .i64 0]) .i64 .i64 Try.underlying22 Try.underlying3 hi0 hq0 n h0 (by rw [hq1]; decide) (by omega) (by rw [hq2]; omega)
    have hge : n ≤ grownCap w n 0 32 := grownCap_ge w _ _ _
    have hle : grownCap w n 0 32 ≤ maxLen := grownCap_le_maxLen w _ _ _ (by unfold maxLen; omega)
    generalize grownCap w n 0 32 = C at *
    have hsz : (Builtin.zeroCells #[.int .i64 0, .int .i64 0] n ++ Builtin.zeroCells #[.int .i64 0, .int .i64 0] (C - n)).size = C * 2 := by simp [Builtin.zeroCells]; omega
    generalize (Builtin.zeroCells #[.int .i64 0, .int .i64 0] n ++ Builtin.zeroCells #[.int .i64 0, .int .i64 0] (C - n)) = Z at *
    have HR := Lib.hid hrz
    have HZ := Lib.hid hsz
    have hCz : (C : Int) ≤ 9223372036854775807 := by unfold maxLen at hle; omega
    have hs0 : ∀ w' : World, (sizeOf (Try.prog.elem 22)).run Try.prog w' = .ok 2 w' := fun w' => by kernel_rfl
    have h00 : ∀ w' : World, (Instr.sliceAt 22 (.slice none 0 0) none (some (.int .i64 0)) none).run Try.prog w' = .ok (.slice none 0 0) w' := fun w' => by
      rw [run_sliceAt_slice w' 22 _ _ _ _ Try.underlying22, run_slice_h w' 22 _ 0 0 Try.underlying22 .i64 0 (by omega) (by omega), hs0]
      simp [Result.andThen, sliced]
    have hsl : ∀ w' : World, (Instr.sliceAt 22 (.slice (some ⟨w.heap.size, 0, none⟩) n C) none (some (.int .i64 0)) none).run Try.prog w' = .ok (.slice (some ⟨w.heap.size, 0, none⟩) 0 C) w' := fun w' => by
      rw [run_sliceAt_slice w' 22 _ _ _ _ Try.underlying22, run_slice_h w' 22 _ n C Try.underlying22 .i64 0 (by omega) (by omega), hs0]
      simp [Result.andThen, sliced, Addr.add]
    clear hrz hsz hs0
    go_enter Try.func39, Try.ntmps39
    go_wp2_with (refine Lib.wpList_append_run _ rfl _ _ _ _ rfl _ _ rfl rfl _ _ (HR.out _) ?_)
    go_ret
    refine ⟨⟨_, rfl, ⟨rfl, .inr ⟨w.heap.size, C, Z, rfl, Nat.le_refl _, heap_alloc_new w.drew _, Nat.zero_le _, hle, HZ.out, rfl⟩⟩⟩, (Below.refl _ _).drew.alloc (Nat.le_refl _) _⟩

set_option maxRecDepth 100000 in
set_option maxHeartbeats 2000000 in
theorem pconcat13_any (a b : List Spn) (A B : Option Addr) (ca cb K : Nat) (w : World) (hla : a.length ≤ 1000000) (hlb : b.length ≤ 1000000) (hK : w.heap[K]? = some (.cells #[.slice A a.length ca, .slice B b.length cb] 22 (0, 0))) (ha : Sl w A a.length ca (sv a)) (hb : Sl w B b.length cb (sv b)) :
    Calls Try.prog 31 #[.slice (some ⟨K, 0, none⟩) 2 2] w (RetO (a ++ b) w) := by
  obtain ⟨i0, hi0, hq0, hq1, hq2⟩ := info_parts span_info
  have HA := Lib.hid ha
  have HB := Lib.hid hb
  have HG := Lib.hid (proom13_any (a.length + b.length) (by omega) w)
  have haz : (a.length : Int) ≤ 1000000 := by omega
  have hbz : (b.length : Int) ≤ 1000000 := by omega
  have ha0 : (0 : Int) ≤ a.length := by omega
  have hb0 : (0 : Int) ≤ b.length := by omega
  have hc : ∀ g : Gr w, g.val.cell? ⟨K, 0, none⟩ = some (.slice A a.length ca) ∧ g.val.cell? ⟨K, 1, none⟩ = some (.slice B b.length cb) := fun g => ⟨cell_old (blk_cell hK rfl) g.ok, cell_old (blk_cell hK rfl) g.ok⟩
  obtain ⟨c0, c1⟩ := hc ⟨w, Below.refl _ _⟩
  simp only at c0 c1
  have HCC := Lib.hid hc
  have w1 : IntKind.i64.wrap ((0 : Int) + a.length) = a.length := by rw [IntKind.wrap_i64]; omega
  have w2 : IntKind.i64.wrap ((a.length : Int) + b.length) = ((a.length + b.length : Nat) : Int) := by rw [IntKind.wrap_i64]; omega
  have n1 : ¬ (a.length : Int) < 0 := by omega
  have n2 : ¬ ((a.length + b.length : Nat) : Int) < 0 := by omega
  obtain ⟨S, hS⟩ : ∃ S, a.length + b.length = S := ⟨_, rfl⟩
  rw [hS] at HG w2 n2
  have HSS := Lib.hid hS
  clear ha hb hc hK hS
  go_enter Try.func31, Try.ntmps31
  go_wp2_with fail
  go_loopw [3, 11] (fun s3 s11 wr => wr = w ∧ (s3 = .int .i64 0 ∧ s11 = .int .i64 0 ∨ s3 = .int .i64 a.length ∧ s11 = .int .i64 1 ∨ s3 = .int .i64 S ∧ s11 = .int .i64 2)) (fun _ s11 _ => 2 - (intOf s11).toNat)
  case atStart => exact ⟨rfl, .inl ⟨rfl, rfl⟩⟩
  case round =>
    obtain ⟨hw, hrel⟩ := hrel
    have hw2 := hw.symm
    clear hw
    subst hw2
    rcases hrel with ⟨rfl, rfl⟩ | ⟨rfl, rfl⟩ | ⟨rfl, rfl⟩
    · go_wp2_with fail
      go_roundw
      case rel => exact ⟨by trivial, .inr (.inl ⟨by first | rfl | simp, by rfl⟩)⟩
      case measure => simp [intOf]
    · go_wp2_with fail
      go_roundw
      case rel => exact ⟨by trivial, .inr (.inr ⟨by first | rfl | simp, by rfl⟩)⟩
      case measure => simp [intOf]
    · go_wp2_with fail
      go_at_call 39
      refine HG.out.mono ?_
      rintro e w1 ⟨⟨v, rfl, hown⟩, hbel⟩
      obtain ⟨g1, rfl⟩ := Gr.of hbel
      obtain ⟨Av, cv, rfl, _⟩ := Sl.of_own (xs := []) hown
      have HO1 := Lib.hid hown
      clear hown hbel HG
      go_wp2_with fail
      go_loopw [6, 27] (fun s6 s27 wr => ∃ (Av : Option Addr) (nv cv : Nat) (l : List Spn) (g : Gr w) (i : Nat), wr = g.val ∧ s6 = .slice Av nv cv ∧ s27 = .int .i64 i ∧ i ≤ 2 ∧ Hid (g.val.ownsRow w.heap.size 32 2 (.slice Av nv cv) l.length (sv l) ∧ (i = 0 ∧ l = [] ∨ i = 1 ∧ l = a ∨ i = 2 ∧ l = a ++ b))) (fun _ s27 _ => 2 - (intOf s27).toNat)
      case atStart => exact ⟨Av, 0, cv, [], g1, 0, rfl, rfl, rfl, by omega, HO1.out, .inl ⟨rfl, rfl⟩⟩
      case round =>
        obtain ⟨Av, nv, cv, l, g, i, rfl, rfl, rfl, hi, HL⟩ := hrel
        obtain ⟨k0, k1⟩ := HCC.out g
        have hways : i = 0 ∨ i = 1 ∨ i = 2 := by omega
        rcases hways with rfl | rfl | rfl
        · have HV : Hid (g.val.ownsRow w.heap.size 32 2 (.slice Av nv cv) 0 []) := by
            obtain ⟨h1, h2⟩ := HL.out
            rcases h2 with ⟨_, rfl⟩ | ⟨q, _⟩ | ⟨q, _⟩
            · exact h1
            · omega
            · omega
          have hmx : 0 + a.length ≤ maxLen := by unfold maxLen; omega
          have H1 := Lib.hid (sv_one (l := a))
          have HGS := Lib.hid g.size
          go_wp2_with (refine wpList_append_sl rfl _ _ _ (by rfl) w.heap.size 32 i0 _ 2 16 Try.underlying22 hi0 hq0 hq1 hq2 rfl (by decide) (.slice Av nv cv) 0 [] (by rfl) HV.out A a.length ca (sv a) (by rfl) (HA.out.gr g) (sv_len a) H1.out hmx (by omega) HGS.out ?_; intro v' w' hown hgr)
          have hB5 : Below w.heap.size w w' := g.ok.grown hgr HGS.out (fun kk hk => (HV.out.lt kk hk).1)
          obtain ⟨g5, rfl⟩ := Gr.of hB5
          obtain ⟨A5, c5, rfl, _⟩ := Sl.of_own hown
          have HW5 := Lib.hid hown
          clear hown hgr hB5
          go_wp2_with fail
          go_roundw
          case rel => exact ⟨A5, _, c5, a, g5, 1, rfl, rfl, by first | rfl | go_num, by omega, by have := HW5.out; simp only [Nat.zero_add, List.nil_append] at this ⊢; exact this, .inr (.inl ⟨rfl, rfl⟩)⟩
          case measure => simp [intOf]
        · have HV : Hid (g.val.ownsRow w.heap.size 32 2 (.slice Av nv cv) a.length (sv a)) := by
            obtain ⟨h1, h2⟩ := HL.out
            rcases h2 with ⟨q, _⟩ | ⟨_, rfl⟩ | ⟨q, _⟩
            · omega
            · exact h1
            · omega
          have hmx : a.length + b.length ≤ maxLen := by unfold maxLen; omega
          have H1 := Lib.hid (sv_one (l := b))
          have HGS := Lib.hid g.size
          go_wp2_with (refine wpList_append_sl rfl _ _ _ (by rfl) w.heap.size 32 i0 _ 2 16 Try.underlying22 hi0 hq0 hq1 hq2 rfl (by decide) (.slice Av nv cv) a.length (sv a) (by rfl) HV.out B b.length cb (sv b) (by rfl) (HB.out.gr g) (sv_len b) H1.out hmx (by omega) HGS.out ?_; intro v' w' hown hgr)
          have hB5 : Below w.heap.size w w' := g.ok.grown hgr HGS.out (fun kk hk => (HV.out.lt kk hk).1)
          obtain ⟨g5, rfl⟩ := Gr.of hB5
          obtain ⟨A5, c5, rfl, _⟩ := Sl.of_own hown
          have HW5 := Lib.hid hown
          clear hown hgr hB5
          go_wp2_with fail
          go_roundw
          case rel => exact ⟨A5, _, c5, a ++ b, g5, 2, rfl, rfl, by first | rfl | go_num, by omega, by rw [List.length_append, sv_app]; exact HW5.out, .inr (.inr ⟨rfl, rfl⟩)⟩
          case measure => simp [intOf]
        · have HV : Hid (g.val.ownsRow w.heap.size 32 2 (.slice Av nv cv) (a ++ b).length (sv (a ++ b))) := by
            obtain ⟨h1, h2⟩ := HL.out
            rcases h2 with ⟨q, _⟩ | ⟨q, _⟩ | ⟨_, rfl⟩
            · omega
            · omega
            · exact h1
          go_wp2_with fail
          go_ret
          exact ⟨_, rfl, HV.out, g.ok⟩

set_option maxHeartbeats 1000000 in
theorem punion13_any (a b : List Spn) (A B : Option Addr) (ca cb : Nat) (w : World) (hla : a.length ≤ 100000) (hlb : b.length ≤ 100000) (ha : Sl w A a.length ca (sv a)) (hb : Sl w B b.length cb (sv b)) :
    Calls Try.prog 16 #[.slice A a.length ca, .slice B b.length cb] w (RetS (pair (cW 0) a b) w) := by
  obtain ⟨W1, hW1⟩ : ∃ W1, w.alloc (.cells #[.slice A a.length ca, .slice B b.length cb] 22) = W1 := ⟨_, rfl⟩
  have hB : Below w.heap.size w W1 := by rw [← hW1]; exact (Below.refl _ _).alloc (Nat.le_refl _) _
  have hblk : W1.heap[w.heap.size]? = some (.cells #[.slice A a.length ca, .slice B b.length cb] 22 (0, 0)) := by rw [← hW1]; exact heap_alloc_new _ _
  have HC := Lib.hid (pconcat13_any a b A B ca cb w.heap.size W1 (by omega) (by omega) hblk (ha.below hB (Nat.le_refl _)) (hb.below hB (Nat.le_refl _)))
  have hlen : (a ++ b).length ≤ 1000000 := by rw [List.length_append]; omega
  have HE := Lib.hid (union_form a b)
  have E1 := Lib.hid hW1
  have HB := Lib.hid hB
  generalize a ++ b = q at *
  clear ha hb hW1 hB hblk
  go_enter Try.func16, Try.ntmps16
  go_wp2_with fail
  rw [E1.out]
  go_at_call 31
  refine HC.out.mono ?_
  rintro e w2 ⟨v, rfl, hown, hb⟩
  obtain ⟨A2, c2, rfl, hsl⟩ := Sl.of_own hown
  have HF := Lib.hid (pform13_any q A2 c2 w2 hlen hsl)
  have HB2 := Lib.hid (HB.out.trans (hb.mono HB.out.size))
  clear hown hb hsl HC
  go_wp2_with fail
  go_at_call 9
  refine HF.out.mono ?_
  rintro e w3 ⟨v3, rfl, hown, hb⟩
  obtain ⟨A3, c3, rfl, hsl⟩ := Sl.of_own hown
  have HS3 := Lib.hid hsl
  have HB3 := Lib.hid (HB2.out.trans (hb.mono HB2.out.size))
  clear hown hb hsl HF
  go_wp2_with fail
  go_ret
  rw [HE.out]
  exact ⟨_, _, rfl, HS3.out, HB3.out⟩
end Go.Proofs.Ytdpgmhjhmccfnaa
