/- What layer 13's statements share: the chapter's example; SpanForms, walked. -/
import Derived.Test.YtdpgmhjhmccfnaaSPK
import Derived.Test.YtdpgmhjhmccfnaaSW4
import Derived.Deep.Cut
namespace Go.Proofs.Ytdpgmhjhmccfnaa
open Go.ChangeShapes Go.WideShapes Go.ChangeAt Go.RowKit Go.Joins Sp

theorem fixed13_any (K : SpK) (w : World) : Calls Try.prog 8 #[] w fun e w' => e = .returned (.bool true) ∧ Below w.heap.size w w' := by
  obtain ⟨W1, hW1⟩ : ∃ W1, w.alloc (.cells #[.int .i64 3, .int .i64 5, .int .i64 1, .int .i64 3] 32) = W1 := ⟨_, rfl⟩
  have hB : Below w.heap.size w W1 := by rw [← hW1]; exact (Below.refl _ _).alloc (Nat.le_refl _) _
  have hs1 : Sl W1 (some ⟨w.heap.size, 0, none⟩) 2 2 (sv [(3, 5), (1, 3)]) := by
    rw [← hW1]; exact Sl.new w (sv [(3, 5), (1, 3)]) 2 32 (0, 0) (by decide)
  have hP := K.form [(3, 5), (1, 3)] (some ⟨w.heap.size, 0, none⟩) 2 W1 (by decide) (by intro s hs; simp at hs; rcases hs with rfl | rfl <;> decide) hs1
  rw [show formL [(3, 5), (1, 3)] = [(1, 5)] by decide +kernel] at hP
  have HP := Lib.hid hP
  have E1 := Lib.hid hW1
  have HB := Lib.hid hB
  clear hP hs1 hW1 hB
  go_enter Try.func8, Try.ntmps8
  go_wp2_with fail
  go_at_call 9
  rw [E1.out]
  refine HP.out.mono ?_
  rintro e w2 ⟨A, c, rfl, hsl, hb⟩
  obtain ⟨b, off, rfl, hbs, g1, g2⟩ := Sl.span (l := [(1, 5)]) (i := 0) (s := (1, 5)) hsl rfl
  simp only [Nat.zero_mul, Nat.add_zero, Nat.zero_add] at g1 g2
  go_wp2_with fail
  go_ret
  exact ⟨rfl, HB.out.trans (hb.mono HB.out.size)⟩

set_option maxRecDepth 100000 in
set_option maxHeartbeats 4000000 in
theorem spanForms_any (K : SpK) (l : List Spn) (A : Option Addr) (c : Nat) (m : Int) (hm : Int64P m) (hin : In64 l) (w : World) (hs : Sl w A l.length c (sv l)) :
    Calls Try.prog 3 #[.slice A l.length c, .int .i64 m] w fun e w' => e = .returned (.bool true) ∧ Below w.heap.size w w' := by
  have HFX := Lib.hid (fun V : World => fixed13_any K V)
  have hlc : (l.length : Int) ≤ 9223372036854775807 := by have := hs.le; have := hs.cap; unfold maxLen at this; omega
  by_cases hl : 60 < l.length
  · have hlz : decide ((60 : Int) < l.length) = true := decide_eq_true (by omega)
    clear hl hs hin
    go_enter Try.func3, Try.ntmps3
    go_wp2_with fail
    go_at_call 8
    refine (HFX.out _).mono ?_
    rintro e w2 ⟨rfl, hb⟩
    obtain ⟨g, rfl⟩ := Gr.of hb
    clear hb
    go_wp2_with fail
    go_ret
    exact ⟨rfl, g.ok⟩
  have hlz : decide ((60 : Int) < l.length) = false := decide_eq_false (by omega)
  have hl1 : l.length ≤ 1000 := by omega
  have hF1 : (formL l).length ≤ 1000 := Nat.le_trans (form_len l) hl1
  have C1 : Hid (∀ (V : World) (A : Option Addr) (c : Nat), Sl V A l.length c (sv l) → Calls Try.prog 9 #[.slice A l.length c] V (RetS (formL l) V)) := fun V A c h => K.form l A c V hl1 hin h
  have C2 : Hid (∀ (V : World) (A B : Option Addr) (c d : Nat), Sl V A l.length c (sv l) → Sl V B l.length d (sv l) → Calls Try.prog 10 #[.slice A l.length c, .slice B l.length d] V fun e w' => e = .returned (.bool true) ∧ Below V.heap.size V w') := fun V A B c d h1 h2 => by
    have := rsame_any l l A B c d V h1 h2; rwa [decide_eq_true rfl] at this
  have C3 : Hid (∀ (V : World) (A : Option Addr) (c : Nat), Sl V A l.length c (sv l) → Calls Try.prog 11 #[.slice A l.length c] V (RetS (formL l) V)) := fun V A c h => rform_any l A c V hl1 h
  have C4 : Hid (∀ (V : World) (A B : Option Addr) (c d : Nat), Sl V A (formL l).length c (sv (formL l)) → Sl V B (formL l).length d (sv (formL l)) → Calls Try.prog 10 #[.slice A (formL l).length c, .slice B (formL l).length d] V fun e w' => e = .returned (.bool true) ∧ Below V.heap.size V w') := fun V A B c d h1 h2 => by
    have := rsame_any _ _ A B c d V h1 h2; rwa [decide_eq_true rfl] at this
  obtain ⟨bm, hbm⟩ : ∃ bm, decide (formL l = l) = bm := ⟨_, rfl⟩
  have C5 : Hid (∀ (V : World) (A : Option Addr) (c : Nat), Sl V A l.length c (sv l) → Calls Try.prog 12 #[.slice A l.length c] V fun e w' => e = .returned (.bool bm) ∧ Below V.heap.size V w') := fun V A c h => by
    have := K.may l A c V hl1 hin h; rwa [hbm] at this
  have C6 : Hid (∀ (V : World) (A : Option Addr) (c : Nat), Sl V A l.length c (sv l) → Calls Try.prog 13 #[.slice A l.length c] V fun e w' => e = .returned (.bool bm) ∧ Below V.heap.size V w') := fun V A c h => by
    have := rmay_any l A c V hl1 h; rw [← hbm]; exact this
  have C7 : Hid (∀ (V : World) (A : Option Addr) (c : Nat), Sl V A (formL l).length c (sv (formL l)) → Calls Try.prog 12 #[.slice A (formL l).length c] V fun e w' => e = .returned (.bool true) ∧ Below V.heap.size V w') := fun V A c h => by
    have := K.may (formL l) A c V hF1 hin.form h; rwa [decide_eq_true (formL_twice l)] at this
  have C8 : Hid (∀ (V : World) (A : Option Addr) (c : Nat), Sl V A l.length c (sv l) → Calls Try.prog 14 #[.slice A l.length c, .int .i64 m] V fun e w' => e = .returned (.bool (hasB l m)) ∧ Below V.heap.size V w') := fun V A c h => K.has l m A c V hl1 hm h
  have C9 : Hid (∀ (V : World) (A : Option Addr) (c : Nat), Sl V A l.length c (sv l) → Calls Try.prog 15 #[.slice A l.length c, .int .i64 m] V fun e w' => e = .returned (.bool (hasB l m)) ∧ V = w') := fun V A c h => rhas_any l A c m V h
  have C10 : Hid (∀ (V : World) (A : Option Addr) (c : Nat), Sl V A (formL l).length c (sv (formL l)) → Calls Try.prog 14 #[.slice A (formL l).length c, .int .i64 m] V fun e w' => e = .returned (.bool (hasB l m)) ∧ Below V.heap.size V w') := fun V A c h => by
    have := K.has (formL l) m A c V hF1 hm h; rwa [formL_hasB] at this
  have H := Lib.hid hs
  have h1 := Lib.hid (sv_one (l := l))
  obtain ⟨i0, hi0, hq0, hq1, hq2⟩ := info_parts span_info
  have hmx : 0 + l.length ≤ maxLen := by unfold maxLen; omega
  clear hbm hs hin hm
  generalize formL l = F at *
  generalize hasB l m = hm at *
  go_enter Try.func3, Try.ntmps3
  go_upto_region 4 with (refine wpList_append_sl rfl _ _ _ (by rfl) w.heap.size 32 i0 _ 2 16 Try.underlying22 hi0 hq0 hq1 hq2 rfl (by decide) (.slice (some ⟨w.heap.size, 0, none⟩) 0 0) 0 [] (by rfl) (World.ownsRow_made (base := w.heap.size) w #[] 0 (Nat.le_refl _) (by decide) rfl) A l.length c (sv l) (by rfl) (H.out.alloc _) (sv_len l) h1.out hmx (by omega) (by simp) ?_; intro v' w1 hown hgr)
  rw [Nat.zero_add, List.nil_append] at hown
  have hB1 : Below w.heap.size w w1 := ⟨hgr.os, hgr.tape, hgr.output, by have := hgr.size; simp at this; omega, fun k hk => by rw [hgr.block k (by simp; omega) (by simp [Value.ownBlock]; omega)]; exact Below.heap_alloc _ _ _ hk⟩
  obtain ⟨Ao, co, rfl, hso⟩ := Sl.of_own hown
  have So := Lib.hid hso
  have Sl0 := Lib.hid (H.out.below hB1 (Nat.le_refl _))
  obtain ⟨g, hg⟩ : ∃ g : Gr w, w1 = g.val := Gr.of hB1
  subst hg
  clear hown hgr hB1 hso
  go_wp2_with fail
  go_at_call 9
  refine (C1.out _ _ _ So.out).mono ?_
  rintro e w5 ⟨Af, cf, rfl, hs, hb⟩
  have So := Lib.hid (So.out.below hb (Nat.le_refl _))
  have Sl0 := Lib.hid (Sl0.out.below hb (Nat.le_refl _))
  have Sf := Lib.hid hs
  obtain ⟨g, rfl⟩ : ∃ g5 : Gr w, w5 = g5.val := Gr.on g hb
  clear hb hs
  go_wp2_with fail
  go_at_call 10
  refine (C2.out _ _ _ _ _ So.out Sl0.out).mono ?_
  rintro e w5 ⟨rfl, hb⟩
  have Sl0 := Lib.hid (Sl0.out.below hb (Nat.le_refl _))
  have Sf := Lib.hid (Sf.out.below hb (Nat.le_refl _))
  obtain ⟨g, rfl⟩ : ∃ g5 : Gr w, w5 = g5.val := Gr.on g hb
  clear hb
  go_wp2_with fail
  go_at_call 11
  refine (C3.out _ _ _ Sl0.out).mono ?_
  rintro e w5 ⟨Ar, cr, rfl, hs, hb⟩
  have Sl0 := Lib.hid (Sl0.out.below hb (Nat.le_refl _))
  have Sf := Lib.hid (Sf.out.below hb (Nat.le_refl _))
  have Sr := Lib.hid hs
  obtain ⟨g, rfl⟩ : ∃ g5 : Gr w, w5 = g5.val := Gr.on g hb
  clear hb hs
  go_wp2_with fail
  go_at_call 10
  refine (C4.out _ _ _ _ _ Sf.out Sr.out).mono ?_
  rintro e w5 ⟨rfl, hb⟩
  have Sl0 := Lib.hid (Sl0.out.below hb (Nat.le_refl _))
  have Sf := Lib.hid (Sf.out.below hb (Nat.le_refl _))
  obtain ⟨g, rfl⟩ : ∃ g5 : Gr w, w5 = g5.val := Gr.on g hb
  clear hb
  go_wp2_with fail
  go_at_call 12
  refine (C5.out _ _ _ Sl0.out).mono ?_
  rintro e w5 ⟨rfl, hb⟩
  have Sl0 := Lib.hid (Sl0.out.below hb (Nat.le_refl _))
  have Sf := Lib.hid (Sf.out.below hb (Nat.le_refl _))
  obtain ⟨g, rfl⟩ : ∃ g5 : Gr w, w5 = g5.val := Gr.on g hb
  clear hb
  go_wp2_with fail
  go_at_call 13
  refine (C6.out _ _ _ Sl0.out).mono ?_
  rintro e w5 ⟨rfl, hb⟩
  have Sl0 := Lib.hid (Sl0.out.below hb (Nat.le_refl _))
  have Sf := Lib.hid (Sf.out.below hb (Nat.le_refl _))
  obtain ⟨g, rfl⟩ : ∃ g5 : Gr w, w5 = g5.val := Gr.on g hb
  clear hb
  go_wp2_with fail
  go_at_call 12
  refine (C7.out _ _ _ Sf.out).mono ?_
  rintro e w5 ⟨rfl, hb⟩
  have Sl0 := Lib.hid (Sl0.out.below hb (Nat.le_refl _))
  have Sf := Lib.hid (Sf.out.below hb (Nat.le_refl _))
  obtain ⟨g, rfl⟩ : ∃ g5 : Gr w, w5 = g5.val := Gr.on g hb
  clear hb
  go_wp2_with fail
  go_at_call 8
  refine (HFX.out _).mono ?_
  rintro e w5 ⟨rfl, hb⟩
  have Sl0 := Lib.hid (Sl0.out.below hb (Nat.le_refl _))
  have Sf := Lib.hid (Sf.out.below hb (Nat.le_refl _))
  obtain ⟨g, rfl⟩ : ∃ g5 : Gr w, w5 = g5.val := Gr.on g hb
  clear hb
  go_wp2_with fail
  go_at_call 14
  refine (C8.out _ _ _ Sl0.out).mono ?_
  rintro e w5 ⟨rfl, hb⟩
  have Sl0 := Lib.hid (Sl0.out.below hb (Nat.le_refl _))
  have Sf := Lib.hid (Sf.out.below hb (Nat.le_refl _))
  obtain ⟨g, rfl⟩ : ∃ g5 : Gr w, w5 = g5.val := Gr.on g hb
  clear hb
  go_wp2_with fail
  go_at_call 15
  refine (C9.out _ _ _ Sl0.out).mono ?_
  rintro e w5 ⟨rfl, rfl⟩
  go_wp2_with fail
  go_at_call 14
  refine (C10.out _ _ _ Sf.out).mono ?_
  rintro e w5 ⟨rfl, hb⟩
  have Sl0 := Lib.hid (Sl0.out.below hb (Nat.le_refl _))
  have Sf := Lib.hid (Sf.out.below hb (Nat.le_refl _))
  obtain ⟨g, rfl⟩ : ∃ g5 : Gr w, w5 = g5.val := Gr.on g hb
  clear hb
  go_wp2_with fail
  go_at_call 15
  refine (C9.out _ _ _ Sl0.out).mono ?_
  rintro e w5 ⟨rfl, rfl⟩
  go_wp2_with fail
  go_ret
  exact ⟨by simp, g.ok⟩
end Go.Proofs.Ytdpgmhjhmccfnaa
