/- SpanMinutes, walked. -/
import Derived.Test.YtdpgmhjhmccfnaaSL1
import Derived.Test.YtdpgmhjhmccfnaaHMath5
import Derived.Deep.RegionHeld3
namespace Go.Proofs.Ytdpgmhjhmccfnaa
open Go.ChangeShapes Go.WideShapes Go.ChangeAt Go.RowKit Go.Joins Sp

theorem u64_diff13 {x y : Int} (hx : -9223372036854775808 ≤ x ∧ x ≤ 9223372036854775807) (hy : -9223372036854775808 ≤ y ∧ y ≤ 9223372036854775807) (h : x < y) : IntKind.u64.wrap (IntKind.u64.wrap y - IntKind.u64.wrap x) = y - x := by
  rw [IntKind.wrap_u64, IntKind.wrap_u64, IntKind.wrap_u64]; omega
theorem below_go {a V w' : World} (h1 : Below a.heap.size a V) (h2 : Below V.heap.size V w') : Below a.heap.size a w' := h1.trans (h2.mono h1.size)
theorem below_al13 {w w' : World} (h : Below w.heap.size w w') (o : Obj) : Below w.heap.size w (w'.alloc o) := h.alloc h.size o
set_option maxRecDepth 100000 in
set_option maxHeartbeats 8000000 in
theorem spanMinutes_any (K : SpK) (l : List Spn) (A : Option Addr) (c : Nat) (x1 x2 : Int) (hx1 : Int64P x1) (hx2 : Int64P x2) (hin : In64 l) (w : World) (hs : Sl w A l.length c (sv l)) :
    Calls Try.prog 5 #[.slice A l.length c, .agg #[.int .i64 x1, .int .i64 x2]] w fun e w' => e = .returned (.bool true) ∧ Below w.heap.size w w' := by
  have HFX := Lib.hid (fun V : World => fixed13_any K V)
  have hlc : (l.length : Int) ≤ 9223372036854775807 := by have := hs.le; have := hs.cap; unfold maxLen at this; omega
  obtain ⟨W1, hW1⟩ : ∃ W1, w.alloc (.cells #[.int .i64 x1, .int .i64 x2] 32) = W1 := ⟨_, rfl⟩
  have hB : Below w.heap.size w W1 := by rw [← hW1]; exact (Below.refl _ _).alloc (Nat.le_refl _) _
  have hc : ∀ V : World, Below W1.heap.size W1 V → V.cell? ⟨w.heap.size, 0, none⟩ = some (.int .i64 x1) ∧ V.cell? ⟨w.heap.size, 1, none⟩ = some (.int .i64 x2) := fun V hV => by
    refine ⟨cell_old ?_ hV, cell_old ?_ hV⟩
    all_goals (rw [← hW1]; simp [go_sem])
  have HC := Lib.hid hc
  have E1 := Lib.hid hW1
  have HB0 := Lib.hid hB
  have hsl := hs.below hB (Nat.le_refl _)
  by_cases hl : 60 < l.length
  · have hlz : decide ((60 : Int) < l.length) = true := decide_eq_true (by omega)
    clear hl hs hin hW1 hB hc hsl
    go_enter Try.func5, Try.ntmps5
    go_upto_region 1 with fail
    rw [E1.out]
    go_wp2_with fail
    go_at_call 8
    refine (HFX.out _).mono ?_
    rintro e w2 ⟨rfl, hb⟩
    obtain ⟨g, rfl⟩ := Gr.of hb
    clear hb
    go_wp2_with fail
    go_ret
    exact ⟨rfl, HB0.out.trans (g.ok.mono HB0.out.size)⟩
  have hlz : decide ((60 : Int) < l.length) = false := decide_eq_false (by omega)
  have hl1 : l.length ≤ 1000 := by omega
  have hpl : ∀ k, (pair (cW k) l [(x1, x2)]).length ≤ 1000 := fun k => Nat.le_trans (pair_len (cW k) l [(x1, x2)]) (by simp; omega)
  have h1in := In64.one hx1 hx2
  obtain ⟨e1, e2⟩ := len_two hin.bd h1in.bd
  have hX := len_u64 hin
  have CF : Hid (∀ (V : World), Sl V A l.length c (sv l) → Calls Try.prog 11 #[.slice A l.length c] V (RetS (formL l) V)) := fun V h => rform_any l A c V hl1 h
  have CC : Hid (∀ (V : World), Sl V A l.length c (sv l) → Calls Try.prog 20 #[.slice A l.length c, .agg #[.int .i64 x1, .int .i64 x2]] V (RetS (pair (cW 1) l [(x1, x2)]) V)) := fun V h => K.cut l x1 x2 A c V hl1 hin hx1 hx2 h
  have CM : Hid (∀ (V : World), Sl V A l.length c (sv l) → Calls Try.prog 21 #[.slice A l.length c] V fun e w' => e = .returned (.int .u64 (len (formL l))) ∧ Below V.heap.size V w') := fun V h => K.minutes l A c V hl1 hin h
  have CP : Hid (∀ (V : World) (B : Option Addr) (d : Nat), Sl V A l.length c (sv l) → Sl V B 1 d (sv [(x1, x2)]) → Calls Try.prog 19 #[.slice A l.length c, .slice B 1 d, .int .i64 1] V (RetS (pair (cW 1) l [(x1, x2)]) V)) := fun V B d h1 h2 => rpair_any l [(x1, x2)] A B c d 1 V hl1 (by simp) h1 h2
  have CN : Hid (∀ (V : World) (B : Option Addr) (d : Nat), Sl V A l.length c (sv l) → Sl V B 1 d (sv [(x1, x2)]) → Calls Try.prog 18 #[.slice A l.length c, .slice B 1 d] V (RetS (pair (cW 2) l [(x1, x2)]) V)) := fun V B d h1 h2 => K.minus l [(x1, x2)] A B c d V hl1 (by simp) hin h1in h1 h2
  have C1 : Hid (∀ (V : World) (A : Option Addr) (c : Nat), Sl V A (pair (cW 1) l [(x1, x2)]).length c (sv (pair (cW 1) l [(x1, x2)])) → Calls Try.prog 21 #[.slice A (pair (cW 1) l [(x1, x2)]).length c] V fun e w' => e = .returned (.int .u64 (len (pair (cW 1) l [(x1, x2)]))) ∧ Below V.heap.size V w') := fun V A c h => by
    have := K.minutes _ A c V (hpl 1) (In64.pairW 1 hin h1in) h; rwa [formL_id (pair_form _ _ _)] at this
  have C2 : Hid (∀ (V : World) (A : Option Addr) (c : Nat), Sl V A (pair (cW 2) l [(x1, x2)]).length c (sv (pair (cW 2) l [(x1, x2)])) → Calls Try.prog 21 #[.slice A (pair (cW 2) l [(x1, x2)]).length c] V fun e w' => e = .returned (.int .u64 (len (pair (cW 2) l [(x1, x2)]))) ∧ Below V.heap.size V w') := fun V A c h => by
    have := K.minutes _ A c V (hpl 2) (In64.pairW 2 hin h1in) h; rwa [formL_id (pair_form _ _ _)] at this
  have CS : Hid (∀ (r : List Spn) (V : World) (A B : Option Addr) (c d : Nat), Sl V A r.length c (sv r) → Sl V B r.length d (sv r) → Calls Try.prog 10 #[.slice A r.length c, .slice B r.length d] V fun e w' => e = .returned (.bool true) ∧ Below V.heap.size V w') := fun r V A B c d h1 h2 => by
    have := rsame_any _ _ A B c d V h1 h2; rwa [decide_eq_true rfl] at this
  have HPT : Hid (∀ k : Nat, 0 ≤ len ((formL l).take k) ∧ len ((formL l).take k) ≤ len (formL l)) := fun k => len_part (fun s hs => form_pos (formL_form l) hs) k
  have HBD : Hid (∀ (k : Nat) (s : Spn), (formL l)[k]? = some s → s.1 < s.2 ∧ Int64P s.1 ∧ Int64P s.2) := fun k s q => ⟨form_pos (formL_form l) (List.mem_of_getElem? q), (hin.form s (List.mem_of_getElem? q)).1, (hin.form s (List.mem_of_getElem? q)).2⟩
  have Sl0 := Lib.hid hsl
  obtain ⟨X, hXe⟩ : ∃ X, len (formL l) = X := ⟨_, rfl⟩
  have HLX : Hid (len (formL l) = X) := hXe
  rw [hXe] at hX e1 e2 CM HPT
  clear hXe hsl hs hin h1in hpl hW1 hB hc e1
  generalize len (pair (cW 1) l [(x1, x2)]) = M1 at *
  generalize len (pair (cW 2) l [(x1, x2)]) = D1 at *
  generalize pair (cW 1) l [(x1, x2)] = P1 at *
  generalize pair (cW 2) l [(x1, x2)] = P2 at *
  generalize formL l = F at *
  have wx : IntKind.u64.wrap X = X := by rw [IntKind.wrap_u64]; omega
  go_enter Try.func5, Try.ntmps5
  go_upto_region 1 with fail
  rw [E1.out]
  go_wp2_with fail
  go_at_call 11
  refine (CF.out _ Sl0.out).mono ?_
  rintro e w5 ⟨Af, cf, rfl, hsf, hb⟩
  obtain ⟨g, hg⟩ : ∃ g : Gr W1, w5 = g.val := ⟨⟨w5, hb⟩, rfl⟩
  subst hg
  have SF := Lib.hid hsf
  have hfz : (F.length : Int) ≤ 9223372036854775807 := by have := hsf.le; have := hsf.cap; unfold maxLen at this; omega
  clear hb hsf
  go_wp2_with fail
  go_loopw [5, 16] (fun s5 s16 wr => ∃ (k : Nat) (v : Int) (g5 : Gr g.val), wr = g5.val ∧ s16 = .int .i64 k ∧ s5 = .int .u64 v ∧ k ≤ F.length ∧ 0 ≤ v ∧ v ≤ X ∧ Hid (len (F.take k) = v)) (fun _ s16 _ => F.length - (intOf s16).toNat)
  case atStart => exact ⟨0, 0, ⟨_, Below.refl _ _⟩, rfl, rfl, rfl, Nat.zero_le _, Int.le_refl _, hX.1, rfl⟩
  case round =>
    obtain ⟨k, v, g5, rfl, rfl, rfl, hk, hv0, hv1, HV⟩ := hrel
    by_cases hlt : k < F.length
    · have hkz : (k : Int) < F.length := by omega
      have hwk1 : IntKind.i64.wrap ((k : Int) + 1) = k + 1 := by rw [IntKind.wrap_i64]; omega
      obtain ⟨s, hs⟩ : ∃ s, F[k]? = some s := ⟨_, List.getElem?_eq_getElem hlt⟩
      obtain ⟨bb, off, rfl, hbs, q1, q2⟩ := (SF.out.gr g5).span hs
      obtain ⟨p1, p2, p3⟩ := HBD.out k s hs
      have HT := Lib.hid (len_take hs)
      rw [HV.out] at HT
      have hp := HPT.out (k + 1)
      rw [HT.out] at hp
      obtain ⟨s1, s2⟩ := s
      simp only at q1 q2 p1 p2 p3 HT hp
      have w1 := u64_diff13 p2 p3 p1
      have w3 : IntKind.u64.wrap (v + (s2 - s1)) = v + (s2 - s1) := by rw [IntKind.wrap_u64]; omega
      obtain ⟨g2, hg2⟩ := g5.up0 (o := .cells #[.int .i64 s1, .int .i64 s2] 32)
      have HG2 := Lib.hid hg2
      clear hs hg2 p2 p3
      go_wp2_with fail
      go_roundw
      case rel => exact ⟨k + 1, v + (s2 - s1), g2, HG2.out, by go_num, rfl, hlt, hp.1, hp.2, HT.out⟩
      case measure => simp [intOf]; omega
    · obtain rfl : k = F.length := by omega
      rw [List.take_length] at HV
      have hvX : v = X := by rw [← HV.out, HLX.out]
      subst hvX
      obtain ⟨G, hG⟩ : ∃ G : Gr W1, g5.val = G.val := g.on g5.ok
      rw [hG]
      have SL := Lib.hid (Sl0.out.gr G)
      obtain ⟨k1, k2⟩ := HC.out _ G.ok
      clear hG SF HV HPT HBD HLX
      go_wp2_with fail
      go_at_call 20
      refine (CC.out _ SL.out).mono ?_
      rintro e w6 ⟨Ac, cc, rfl, hsc, hb⟩
      have SL6 := Lib.hid (SL.out.below hb (Nat.le_refl _))
      have SC6 := Lib.hid hsc
      obtain ⟨G6, hG6⟩ : ∃ G6 : Gr W1, w6 = G6.val := G.on hb
      subst hG6
      clear hb hsc k1 k2 SL
      have HCC : Hid (∀ V : World, Below G6.val.heap.size G6.val V → V.cell? ⟨w.heap.size, 0, none⟩ = some (.int .i64 x1) ∧ V.cell? ⟨w.heap.size, 1, none⟩ = some (.int .i64 x2)) := fun V q => HC.out V (G6.ok.trans (q.mono G6.size))
      have HSL : Hid (∀ V : World, Below G6.val.heap.size G6.val V → Sl V A l.length c (sv l)) := fun V q => SL6.out.below q (Nat.le_refl _)
      have HSC : Hid (∀ V : World, Below G6.val.heap.size G6.val V → Sl V Ac P1.length cc (sv P1)) := fun V q => SC6.out.below q (Nat.le_refl _)
      have HNW : Hid (∀ V : World, Sl (V.alloc (.cells #[.int .i64 x1, .int .i64 x2] 32)) (some ⟨V.heap.size, 0, none⟩) 1 1 (sv [(x1, x2)])) := fun V => Sl.new V (sv [(x1, x2)]) 1 32 (0, 0) (by decide)
      have HFIN : Hid (∀ V : World, Below G6.val.heap.size G6.val V → Below w.heap.size w V) := fun V q => HB0.out.trans ((G6.ok.trans (q.mono G6.size)).mono HB0.out.size)
      go_wp2_with fail
      go_region_held3 (fun V => V.cell? ⟨w.heap.size, 0, none⟩ = some (.int .i64 x1) ∧ V.cell? ⟨w.heap.size, 1, none⟩ = some (.int .i64 x2))
        ((refine HCC.out _ ?_; (repeat (first | exact HB7.out | exact HB6.out | exact HB5.out | exact HB4.out | exact HB3.out | exact HB2.out | exact HB1.out | exact Below.refl _ _ | refine Below.drew ?_ | refine below_al13 ?_ _))))
        (first
          | (go_at_call 8; refine (HFX.out _).mono ?_; rintro e wf ⟨rfl, hb⟩; have HB1 : Hid (Below G6.val.heap.size G6.val wf) := below_go (by (repeat (first | exact HB7.out | exact HB6.out | exact HB5.out | exact HB4.out | exact HB3.out | exact HB2.out | exact HB1.out | exact Below.refl _ _ | refine Below.drew ?_ | refine below_al13 ?_ _))) hb; clear hb)
          | (go_at_call_of 21 A; refine (CM.out _ (HSL.out _ (by (repeat (first | exact HB7.out | exact HB6.out | exact HB5.out | exact HB4.out | exact HB3.out | exact HB2.out | exact HB1.out | exact Below.refl _ _ | refine Below.drew ?_ | refine below_al13 ?_ _))))).mono ?_; rintro e wa ⟨rfl, hb⟩; have HB2 : Hid (Below G6.val.heap.size G6.val wa) := below_go (by (repeat (first | exact HB7.out | exact HB6.out | exact HB5.out | exact HB4.out | exact HB3.out | exact HB2.out | exact HB1.out | exact Below.refl _ _ | refine Below.drew ?_ | refine below_al13 ?_ _))) hb; clear hb)
          | (go_at_call 19; refine (CP.out _ _ _ (HSL.out _ (by (repeat (first | exact HB7.out | exact HB6.out | exact HB5.out | exact HB4.out | exact HB3.out | exact HB2.out | exact HB1.out | exact Below.refl _ _ | refine Below.drew ?_ | refine below_al13 ?_ _)))) (HNW.out _)).mono ?_; rintro e wp ⟨Ap, cp, rfl, hsp, hb⟩; have SP := Lib.hid hsp; have HB3 : Hid (Below G6.val.heap.size G6.val wp) := below_go (by (repeat (first | exact HB7.out | exact HB6.out | exact HB5.out | exact HB4.out | exact HB3.out | exact HB2.out | exact HB1.out | exact Below.refl _ _ | refine Below.drew ?_ | refine below_al13 ?_ _))) hb; clear hb hsp)
          | (go_at_call 10; refine (CS.out _ _ _ _ _ _ (HSC.out _ (by (repeat (first | exact HB7.out | exact HB6.out | exact HB5.out | exact HB4.out | exact HB3.out | exact HB2.out | exact HB1.out | exact Below.refl _ _ | refine Below.drew ?_ | refine below_al13 ?_ _)))) SP.out).mono ?_; rintro e ws ⟨rfl, hb⟩; have HB4 : Hid (Below G6.val.heap.size G6.val ws) := below_go (by (repeat (first | exact HB7.out | exact HB6.out | exact HB5.out | exact HB4.out | exact HB3.out | exact HB2.out | exact HB1.out | exact Below.refl _ _ | refine Below.drew ?_ | refine below_al13 ?_ _))) hb; clear hb)
          | (go_at_call_of 21 Ac; refine (C1.out _ _ _ (HSC.out _ (by (repeat (first | exact HB7.out | exact HB6.out | exact HB5.out | exact HB4.out | exact HB3.out | exact HB2.out | exact HB1.out | exact Below.refl _ _ | refine Below.drew ?_ | refine below_al13 ?_ _))))).mono ?_; rintro e wc ⟨rfl, hb⟩; have HB5 : Hid (Below G6.val.heap.size G6.val wc) := below_go (by (repeat (first | exact HB7.out | exact HB6.out | exact HB5.out | exact HB4.out | exact HB3.out | exact HB2.out | exact HB1.out | exact Below.refl _ _ | refine Below.drew ?_ | refine below_al13 ?_ _))) hb; have HBc := Lib.hid hb; clear hb)
          | (go_at_call 18; refine (CN.out _ _ _ (HSL.out _ (by (repeat (first | exact HB7.out | exact HB6.out | exact HB5.out | exact HB4.out | exact HB3.out | exact HB2.out | exact HB1.out | exact Below.refl _ _ | refine Below.drew ?_ | refine below_al13 ?_ _)))) (by first | exact HNW.out _ | exact (HNW.out _).below HBc.out (Nat.le_refl _))).mono ?_; rintro e wm ⟨Am, cm, rfl, hsm, hb⟩; have SM := Lib.hid hsm; have HB6 : Hid (Below G6.val.heap.size G6.val wm) := below_go (by (repeat (first | exact HB7.out | exact HB6.out | exact HB5.out | exact HB4.out | exact HB3.out | exact HB2.out | exact HB1.out | exact Below.refl _ _ | refine Below.drew ?_ | refine below_al13 ?_ _))) hb; clear hb hsm)
          | (go_at_call_of 21 Am; refine (C2.out _ _ _ SM.out).mono ?_; rintro e wn ⟨rfl, hb⟩; have HB7 : Hid (Below G6.val.heap.size G6.val wn) := below_go (by (repeat (first | exact HB7.out | exact HB6.out | exact HB5.out | exact HB4.out | exact HB3.out | exact HB2.out | exact HB1.out | exact Below.refl _ _ | refine Below.drew ?_ | refine below_al13 ?_ _))) hb; clear hb))
      all_goals go_wp2_with fail
      all_goals go_ret
      all_goals exact ⟨by simp, HFIN.out _ (by (repeat (first | exact HB7.out | exact HB6.out | exact HB5.out | exact HB4.out | exact HB3.out | exact HB2.out | exact HB1.out | exact Below.refl _ _ | refine Below.drew ?_ | refine below_al13 ?_ _)))⟩
end Go.Proofs.Ytdpgmhjhmccfnaa
