/- SpanCounts, walked. -/
import Derived.Test.YtdpgmhjhmccfnaaSL1
namespace Go.Proofs.Ytdpgmhjhmccfnaa
open Go.ChangeShapes Go.WideShapes Go.ChangeAt Go.RowKit Go.Joins Sp

set_option maxRecDepth 100000 in
set_option maxHeartbeats 8000000 in
theorem spanCounts_any (K : SpK) (a b : List Spn) (A B : Option Addr) (c d : Nat) (ha : In64 a) (hb : In64 b) (w : World) (hsa : Sl w A a.length c (sv a)) (hsb : Sl w B b.length d (sv b)) :
    Calls Try.prog 6 #[.slice A a.length c, .slice B b.length d] w fun e w' => e = .returned (.bool true) ∧ Below w.heap.size w w' := by
  have HFX := Lib.hid (fun V : World => fixed13_any K V)
  have hac : (a.length : Int) ≤ 9223372036854775807 := by have := hsa.le; have := hsa.cap; unfold maxLen at this; omega
  have hbc : (b.length : Int) ≤ 9223372036854775807 := by have := hsb.le; have := hsb.cap; unfold maxLen at this; omega
  have hways : (decide ((40 : Int) < a.length) = true ∨ decide ((40 : Int) < a.length) = false ∧ decide ((40 : Int) < b.length) = true) ∨ (a.length ≤ 40 ∧ b.length ≤ 40) ∧ decide ((40 : Int) < a.length) = false ∧ decide ((40 : Int) < b.length) = false := by
    by_cases q1 : 40 < a.length
    · exact .inl (.inl (decide_eq_true (by omega)))
    · by_cases q2 : 40 < b.length
      · exact .inl (.inr ⟨decide_eq_false (by omega), decide_eq_true (by omega)⟩)
      · exact .inr ⟨⟨by omega, by omega⟩, decide_eq_false (by omega), decide_eq_false (by omega)⟩
  rcases hways with hways | ⟨⟨hla, hlb⟩, q1, q2⟩
  · clear hsa hsb ha hb
    rcases hways with q1 | ⟨q1, q2⟩
    all_goals
      go_enter Try.func6, Try.ntmps6
      go_wp2_with fail
      go_at_call 8
      refine (HFX.out _).mono ?_
      rintro e w2 ⟨rfl, hb⟩
      obtain ⟨g, rfl⟩ := Gr.of hb
      clear hb
      go_wp2_with fail
      go_ret
      exact ⟨rfl, g.ok⟩
  have hla1 : a.length ≤ 1000 := by omega
  have hlb1 : b.length ≤ 1000 := by omega
  obtain ⟨W1, hW1⟩ : ∃ W1, w.alloc (.cells #[.slice A a.length c, .slice B b.length d] 22) = W1 := ⟨_, rfl⟩
  have hB : Below w.heap.size w W1 := by rw [← hW1]; exact (Below.refl _ _).alloc (Nat.le_refl _) _
  have hc : ∀ V : World, Below W1.heap.size W1 V → V.cell? ⟨w.heap.size, 0, none⟩ = some (.slice A a.length c) ∧ V.cell? ⟨w.heap.size, 1, none⟩ = some (.slice B b.length d) := fun V hV => by
    refine ⟨cell_old ?_ hV, cell_old ?_ hV⟩
    all_goals (rw [← hW1]; simp [go_sem])
  have HC := Lib.hid hc
  have SA : Hid (∀ V : World, Below W1.heap.size W1 V → Sl V A a.length c (sv a)) := fun V q => (hsa.below hB (Nat.le_refl _)).below q (Nat.le_refl _)
  have SB : Hid (∀ V : World, Below W1.heap.size W1 V → Sl V B b.length d (sv b)) := fun V q => (hsb.below hB (Nat.le_refl _)).below q (Nat.le_refl _)
  have HIA := Lib.hid ha
  have HIB := Lib.hid hb
  have E1 := Lib.hid hW1
  have HB0 := Lib.hid hB
  have HLA := Lib.hid (And.intro hla1 hlb1)
  clear hc hsa hsb ha hb hW1 hB hla1 hlb1
  go_enter Try.func6, Try.ntmps6
  go_upto_region 4 with fail
  rw [E1.out]
  go_wp2_with fail
  go_loopw [25] (fun s25 wr => ∃ (i : Nat) (g : Gr W1), wr = g.val ∧ s25 = .int .i64 i ∧ i ≤ 2 ∧ Hid ((1 ≤ i → ∀ s ∈ a, ((-1152921504606846976 : Int) ≤ s.1 ∧ s.2 ≤ 1152921504606846976)) ∧ (2 ≤ i → ∀ s ∈ b, ((-1152921504606846976 : Int) ≤ s.1 ∧ s.2 ≤ 1152921504606846976)))) (fun s25 _ => 2 - (intOf s25).toNat)
  case atStart => exact ⟨0, ⟨_, Below.refl _ _⟩, rfl, rfl, Nat.zero_le _, ⟨fun q => absurd q (by omega), fun q => absurd q (by omega)⟩⟩
  case round =>
    obtain ⟨i, g, rfl, rfl, hi, HO⟩ := hrel
    by_cases hit : i < 2
    · have hiz : (i : Int) < 2 := by omega
      have hwi : IntKind.i64.wrap ((i : Int) + 1) = i + 1 := by rw [IntKind.wrap_i64]; omega
      have hrow : ∃ (r : List Spn) (Ar : Option Addr) (cr : Nat), (∀ G : Gr W1, G.val.cell? ⟨w.heap.size, i, none⟩ = some (.slice Ar r.length cr)) ∧ (∀ V : World, Below W1.heap.size W1 V → Sl V Ar r.length cr (sv r)) ∧ ((∀ s ∈ r, ((-1152921504606846976 : Int) ≤ s.1 ∧ s.2 ≤ 1152921504606846976)) → (1 ≤ i + 1 → ∀ s ∈ a, ((-1152921504606846976 : Int) ≤ s.1 ∧ s.2 ≤ 1152921504606846976)) ∧ (2 ≤ i + 1 → ∀ s ∈ b, ((-1152921504606846976 : Int) ≤ s.1 ∧ s.2 ≤ 1152921504606846976))) ∧ (r.length : Int) ≤ 9223372036854775807 := by
        have : i = 0 ∨ i = 1 := by omega
        rcases this with rfl | rfl
        · exact ⟨a, A, c, fun G => (HC.out _ G.ok).1, SA.out, fun q => ⟨fun _ => q, fun z => absurd z (by omega)⟩, hac⟩
        · exact ⟨b, B, d, fun G => (HC.out _ G.ok).2, SB.out, fun q => ⟨fun _ => HO.out.1 (Nat.le_refl _), fun _ => q⟩, hbc⟩
      obtain ⟨r, Ar, cr, hcl, hsr, hnx, hrc⟩ := hrow
      have k0 := hcl g
      have HSR := Lib.hid hsr
      have HNX := Lib.hid hnx
      clear hcl hsr hnx HO
      go_wp2_with fail
      go_loopw [31] (fun s31 wr => ∃ (k : Nat) (g : Gr W1), wr = g.val ∧ s31 = .int .i64 k ∧ k ≤ r.length ∧ Hid (∀ s ∈ r.take k, ((-1152921504606846976 : Int) ≤ s.1 ∧ s.2 ≤ 1152921504606846976))) (fun s31 _ => r.length - (intOf s31).toNat)
      case atStart => exact ⟨0, g, rfl, rfl, Nat.zero_le _, fun s hs => by simp at hs⟩
      case round =>
        clear k0
        obtain ⟨k, g, rfl, rfl, hk, HB⟩ := hrel
        by_cases hlt : k < r.length
        · have hkz : (k : Int) < r.length := by omega
          have hwk : IntKind.i64.wrap ((k : Int) + 1) = k + 1 := by rw [IntKind.wrap_i64]; omega
          obtain ⟨s, hs⟩ : ∃ s, r[k]? = some s := ⟨_, List.getElem?_eq_getElem hlt⟩
          obtain ⟨bb, off, rfl, hbs, q1, q2⟩ := (HSR.out _ g.ok).span hs
          have HTK : Hid (∀ t ∈ r.take (k + 1), t ∈ r.take k ∨ t = s) := fun t ht => by
            rw [List.take_add_one, hs] at ht
            rcases List.mem_append.1 ht with z | z
            · exact .inl z
            · exact .inr (by simpa using z)
          obtain ⟨s1, s2⟩ := s
          simp only at q1 q2
          obtain ⟨g2, hg2⟩ := g.up0 (o := .cells #[.int .i64 s1, .int .i64 s2] 32)
          have HG2 := Lib.hid hg2
          have hw4 : (decide (s1 < -1152921504606846976) = true ∨ decide (s1 < -1152921504606846976) = false ∧ decide (1152921504606846976 < s2) = true) ∨ decide (s1 < -1152921504606846976) = false ∧ decide (1152921504606846976 < s2) = false := by
            cases decide (s1 < -1152921504606846976) <;> cases decide (1152921504606846976 < s2) <;> simp
          clear hs hg2
          rcases hw4 with hw4 | ⟨e1, e2⟩
          · rcases hw4 with e1 | ⟨e1, e2⟩
            all_goals
              go_wp2_with fail
              go_at_call 8
              refine (HFX.out _).mono ?_
              rw [HG2.out]
              rintro e w5 ⟨rfl, hb⟩
              obtain ⟨g5, rfl⟩ : ∃ g5 : Gr W1, w5 = g5.val := Gr.on g2 hb
              clear hb
              go_wp2_with fail
              go_ret
              exact ⟨rfl, HB0.out.trans (g5.ok.mono HB0.out.size)⟩
          · go_wp2_with fail
            go_roundw
            case rel => exact ⟨k + 1, g2, HG2.out, by go_num, hlt, fun t ht => (HTK.out t ht).elim (HB.out t) fun z => by rw [z]; exact ⟨by have := of_decide_eq_false e1; simp only; omega, by have := of_decide_eq_false e2; simp only; omega⟩⟩
            case measure => simp [intOf]; omega
        · obtain rfl : k = r.length := by omega
          have hnx := HNX.out (by have := HB.out; rwa [List.take_length] at this)
          have HNX2 := Lib.hid hnx
          clear hnx
          go_wp2_with fail
          go_roundw
          case rel => exact ⟨i + 1, g, rfl, by go_num, hit, HNX2.out⟩
          case measure => simp [intOf]; omega
    · obtain rfl : i = 2 := by omega
      have hba := HO.out.1 (by omega)
      have hbb := HO.out.2 (by omega)
      have hpl : ∀ k, (pair (cW k) a b).length ≤ 1000 := fun k => Nat.le_trans (pair_len (cW k) a b) (by omega)
      have hb1 : ∀ s ∈ a, (-1152921504606846976 : Int) ≤ s.1 ∧ s.2 ≤ -1152921504606846976 + (2305843009213693952 : Nat) := fun s hs => by have := hba s hs; omega
      have hb2 : ∀ s ∈ b, (-1152921504606846976 : Int) ≤ s.1 ∧ s.2 ≤ -1152921504606846976 + (2305843009213693952 : Nat) := fun s hs => by have := hbb s hs; omega
      obtain ⟨e1, e2⟩ := len_two hb1 hb2
      have hpb : ∀ k, 0 ≤ len (pair (cW k) a b) ∧ len (pair (cW k) a b) ≤ 2305843009213693952 := fun k => ⟨len_nn (pair_form _ _ _), by rw [len_pairW k hb1 hb2]; have := cnt_le13 (fun m => cW k (hasB a m) (hasB b m)) (-1152921504606846976) 2305843009213693952; omega⟩
      have hxa : 0 ≤ len (formL a) ∧ len (formL a) ≤ 2305843009213693952 := ⟨len_nn (formL_form a), by rw [len_is hb1]; have := cnt_le13 (hasB a) (-1152921504606846976) 2305843009213693952; omega⟩
      have hxb : 0 ≤ len (formL b) ∧ len (formL b) ≤ 2305843009213693952 := ⟨len_nn (formL_form b), by rw [len_is hb2]; have := cnt_le13 (hasB b) (-1152921504606846976) 2305843009213693952; omega⟩
      have C0 : Hid (∀ (V : World), Sl V A a.length c (sv a) → Sl V B b.length d (sv b) → Calls Try.prog 16 #[.slice A a.length c, .slice B b.length d] V (RetS (pair (cW 0) a b) V)) := fun V h1 h2 => K.union a b A B c d V HLA.out.1 HLA.out.2 HIA.out HIB.out h1 h2
      have N0 : Hid (∀ (V : World) (A : Option Addr) (c : Nat), Sl V A (pair (cW 0) a b).length c (sv (pair (cW 0) a b)) → Calls Try.prog 21 #[.slice A (pair (cW 0) a b).length c] V fun e w' => e = .returned (.int .u64 (len (pair (cW 0) a b))) ∧ Below V.heap.size V w') := fun V A c h => by
        have := K.minutes (pair (cW 0) a b) A c V (hpl 0) (In64.pairW 0 HIA.out HIB.out) h; rwa [formL_id (pair_form _ _ _)] at this
      have b0 := hpb 0
      have C1 : Hid (∀ (V : World), Sl V A a.length c (sv a) → Sl V B b.length d (sv b) → Calls Try.prog 17 #[.slice A a.length c, .slice B b.length d] V (RetS (pair (cW 1) a b) V)) := fun V h1 h2 => K.meet a b A B c d V HLA.out.1 HLA.out.2 HIA.out HIB.out h1 h2
      have N1 : Hid (∀ (V : World) (A : Option Addr) (c : Nat), Sl V A (pair (cW 1) a b).length c (sv (pair (cW 1) a b)) → Calls Try.prog 21 #[.slice A (pair (cW 1) a b).length c] V fun e w' => e = .returned (.int .u64 (len (pair (cW 1) a b))) ∧ Below V.heap.size V w') := fun V A c h => by
        have := K.minutes (pair (cW 1) a b) A c V (hpl 1) (In64.pairW 1 HIA.out HIB.out) h; rwa [formL_id (pair_form _ _ _)] at this
      have b1 := hpb 1
      have C2 : Hid (∀ (V : World), Sl V A a.length c (sv a) → Sl V B b.length d (sv b) → Calls Try.prog 18 #[.slice A a.length c, .slice B b.length d] V (RetS (pair (cW 2) a b) V)) := fun V h1 h2 => K.minus a b A B c d V HLA.out.1 HLA.out.2 HIA.out HIB.out h1 h2
      have N2 : Hid (∀ (V : World) (A : Option Addr) (c : Nat), Sl V A (pair (cW 2) a b).length c (sv (pair (cW 2) a b)) → Calls Try.prog 21 #[.slice A (pair (cW 2) a b).length c] V fun e w' => e = .returned (.int .u64 (len (pair (cW 2) a b))) ∧ Below V.heap.size V w') := fun V A c h => by
        have := K.minutes (pair (cW 2) a b) A c V (hpl 2) (In64.pairW 2 HIA.out HIB.out) h; rwa [formL_id (pair_form _ _ _)] at this
      have b2 := hpb 2
      have NA : Hid (∀ (V : World), Sl V A a.length c (sv a) → Calls Try.prog 21 #[.slice A a.length c] V fun e w' => e = .returned (.int .u64 (len (formL a))) ∧ Below V.heap.size V w') := fun V h => K.minutes a A c V HLA.out.1 HIA.out h
      have NB : Hid (∀ (V : World), Sl V B b.length d (sv b) → Calls Try.prog 21 #[.slice B b.length d] V fun e w' => e = .returned (.int .u64 (len (formL b))) ∧ Below V.heap.size V w') := fun V h => K.minutes b B d V HLA.out.2 HIB.out h
      have Sa := Lib.hid (SA.out _ g.ok)
      have Sb := Lib.hid (SB.out _ g.ok)
      obtain ⟨g, hg⟩ : ∃ g5 : Gr w, g.val = g5.val := ⟨⟨_, HB0.out.trans (g.ok.mono HB0.out.size)⟩, rfl⟩
      rw [hg] at Sa Sb ⊢
      clear hg HO hba hbb hb1 hb2 hpl hpb SA SB HC HB0 E1
      generalize len (formL a) = X at *
      generalize len (formL b) = Y at *
      generalize len (pair (cW 0) a b) = U1 at *
      generalize len (pair (cW 1) a b) = M1 at *
      generalize len (pair (cW 2) a b) = D1 at *
      generalize pair (cW 0) a b = P0 at *
      generalize pair (cW 1) a b = P1 at *
      generalize pair (cW 2) a b = P2 at *
      have wxy : IntKind.u64.wrap (X + Y) = X + Y := by rw [IntKind.wrap_u64]; omega
      have wx : IntKind.u64.wrap X = X := by rw [IntKind.wrap_u64]; omega
      go_wp2_with fail
      go_at_call 21
      refine (NA.out _ Sa.out).mono ?_
      rintro e w5 ⟨rfl, hb⟩
      have Sa := Lib.hid (Sa.out.below hb (Nat.le_refl _))
      have Sb := Lib.hid (Sb.out.below hb (Nat.le_refl _))
      obtain ⟨g, rfl⟩ : ∃ g5 : Gr w, w5 = g5.val := Gr.on g hb
      clear hb
      go_wp2_with fail
      go_at_call 21
      refine (NB.out _ Sb.out).mono ?_
      rintro e w5 ⟨rfl, hb⟩
      have Sa := Lib.hid (Sa.out.below hb (Nat.le_refl _))
      have Sb := Lib.hid (Sb.out.below hb (Nat.le_refl _))
      obtain ⟨g, rfl⟩ : ∃ g5 : Gr w, w5 = g5.val := Gr.on g hb
      clear hb
      go_wp2_with fail
      go_at_call 17
      refine (C1.out _ Sa.out Sb.out).mono ?_
      rintro e w5 ⟨Av, cv, rfl, hs, hb⟩
      have Sa := Lib.hid (Sa.out.below hb (Nat.le_refl _))
      have Sb := Lib.hid (Sb.out.below hb (Nat.le_refl _))
      have Sv := Lib.hid hs
      obtain ⟨g, rfl⟩ : ∃ g5 : Gr w, w5 = g5.val := Gr.on g hb
      clear hb hs
      go_wp2_with fail
      go_at_call 21
      refine (N1.out _ _ _ Sv.out).mono ?_
      rintro e w5 ⟨rfl, hb⟩
      have Sa := Lib.hid (Sa.out.below hb (Nat.le_refl _))
      have Sb := Lib.hid (Sb.out.below hb (Nat.le_refl _))
      obtain ⟨g, rfl⟩ : ∃ g5 : Gr w, w5 = g5.val := Gr.on g hb
      clear hb
      go_wp2_with fail
      go_at_call 8
      refine (HFX.out _).mono ?_
      rintro e w5 ⟨rfl, hb⟩
      have Sa := Lib.hid (Sa.out.below hb (Nat.le_refl _))
      have Sb := Lib.hid (Sb.out.below hb (Nat.le_refl _))
      obtain ⟨g, rfl⟩ : ∃ g5 : Gr w, w5 = g5.val := Gr.on g hb
      clear hb
      go_wp2_with fail
      go_at_call 16
      refine (C0.out _ Sa.out Sb.out).mono ?_
      rintro e w5 ⟨Au, cu, rfl, hs, hb⟩
      have Sa := Lib.hid (Sa.out.below hb (Nat.le_refl _))
      have Sb := Lib.hid (Sb.out.below hb (Nat.le_refl _))
      have Su := Lib.hid hs
      obtain ⟨g, rfl⟩ : ∃ g5 : Gr w, w5 = g5.val := Gr.on g hb
      clear hb hs
      go_wp2_with fail
      go_at_call 21
      refine (N0.out _ _ _ Su.out).mono ?_
      rintro e w5 ⟨rfl, hb⟩
      have Sa := Lib.hid (Sa.out.below hb (Nat.le_refl _))
      have Sb := Lib.hid (Sb.out.below hb (Nat.le_refl _))
      obtain ⟨g, rfl⟩ : ∃ g5 : Gr w, w5 = g5.val := Gr.on g hb
      clear hb
      go_wp2_with fail
      go_at_call 18
      refine (C2.out _ Sa.out Sb.out).mono ?_
      rintro e w5 ⟨Az, cz, rfl, hs, hb⟩
      have Sa := Lib.hid (Sa.out.below hb (Nat.le_refl _))
      have Sb := Lib.hid (Sb.out.below hb (Nat.le_refl _))
      have Sz := Lib.hid hs
      obtain ⟨g, rfl⟩ : ∃ g5 : Gr w, w5 = g5.val := Gr.on g hb
      clear hb hs
      go_wp2_with fail
      go_at_call 21
      refine (N2.out _ _ _ Sz.out).mono ?_
      rintro e w5 ⟨rfl, hb⟩
      have Sa := Lib.hid (Sa.out.below hb (Nat.le_refl _))
      have Sb := Lib.hid (Sb.out.below hb (Nat.le_refl _))
      obtain ⟨g, rfl⟩ : ∃ g5 : Gr w, w5 = g5.val := Gr.on g hb
      clear hb
      go_wp2_with fail
      go_ret
      exact ⟨by simp, g.ok⟩
end Go.Proofs.Ytdpgmhjhmccfnaa
