import Derived.Test.YtgmcacmdiiogmaaZCV1
/- CursorGaps, walked. -/
section
namespace Sp
theorem gaps_twice (l : List Spn) (w : Spn) : gapsL (gapsL (formL l) w) w = meetL [formL l, formL [w]] := by
  refine form_unique _ _ (pair_form (cW 2) _ _) (pair_form (cW 1) _ _) fun m => ?_
  have h1 : has (gapsL (gapsL (formL l) w) w) m ↔ has [w] m ∧ ¬ has (gapsL (formL l) w) m := by
    show has (pair (cW 2) [w] _) m ↔ _
    rw [pairW_has, ← hasB_iff, ← hasB_iff]
    cases hasB [w] m <;> cases hasB (gapsL (formL l) w) m <;> simp [cW]
  have h2 : has (gapsL (formL l) w) m ↔ has [w] m ∧ ¬ has l m := by
    show has (pair (cW 2) [w] _) m ↔ _
    rw [pairW_has, formL_hasB, ← hasB_iff, ← hasB_iff]
    cases hasB [w] m <;> cases hasB l m <;> simp [cW]
  have h3 : has (pair (cW 1) (formL (formL l)) (formL [w])) m ↔ has l m ∧ has [w] m := by
    rw [pairW_has, formL_hasB, formL_hasB, formL_hasB, ← hasB_iff, ← hasB_iff]
    cases hasB [w] m <;> cases hasB l m <;> simp [cW]
  rw [h1, h2]
  show _ ↔ has (pair (cW 1) (formL (formL l)) (formL [w])) m
  rw [h3]
  by_cases q : has l m <;> simp [q]
end Sp
namespace Go.Proofs.Ytgmcacmdiiogmaa
open Go.ChangeShapes Go.WideShapes Go.ChangeAt Go.RowKit Go.Joins Sp

/-- Two streams, by their place. -/
def two (F G : Nat → Prop) (i : Nat) : Nat → Prop := fun b => i = 0 ∧ F b ∨ i = 1 ∧ G b

theorem sl_two {V : World} {b : Nat} {p q : Value} {t : TypeId} (h : V.heap[b]? = some (.cells #[p, q] t (0, 0))) : Sl V (some ⟨b, 0, none⟩) 2 2 [p, q] :=
  ⟨Nat.le_refl _, by decide, (fun h => by cases h), fun _ => ⟨b, 0, rfl, heap_lt h, fun i v hi => by
    rw [Nat.zero_add]
    exact blk_cell h (by simpa using hi)⟩⟩
/-- What two streams have in common. -/
theorem CuK.meet2 {St : StP} {Ct : CtP} (K : CuK St Ct) {V : World} {c p q : Value} {L M : List Spn} {n m : Nat} {F G : Nat → Prop} (h1 : St V c p L n F) (h2 : St V c q M m G) (hd : ∀ b, F b → ¬ G b) {b : Nat} {t : TypeId} (hb : V.heap[b]? = some (.cells #[p, q] t (0, 0))) (hF : ¬ F b) (hG : ¬ G b) :
    Calls Try.prog 21 #[.slice (some ⟨b, 0, none⟩) 2 2] V fun e w' => ∃ r F', e = .returned r ∧ St w' c r (meetL [L, M]) (n + m) F' ∧ (∀ b, F' b → (F b ∨ G b) ∨ V.heap.size ≤ b) ∧ Off (fun b => F b ∨ G b) V w' := by
  have h := K.meet V c [p, q] [L, M] [n, m] (two F G) (some ⟨b, 0, none⟩) 2 (by simp) rfl rfl (fun i p' L' n' e1 e2 e3 => by
    have hi := (List.getElem?_eq_some_iff.1 e1).1
    have : i = 0 ∨ i = 1 := by simp at hi; omega
    rcases this with rfl | rfl
    · simp at e1 e2 e3
      subst e1 e2 e3
      exact K.mono h1 (fun b h => .inl ⟨rfl, h⟩) fun b h => K.lt h1 b (by rcases h with h | h; exact h.2; exact absurd h.1 (by decide))
    · simp at e1 e2 e3
      subst e1 e2 e3
      exact K.mono h2 (fun b h => .inr ⟨rfl, h⟩) fun b h => K.lt h2 b (by rcases h with h | h; exact absurd h.1 (by decide); exact h.2)) (fun i j b e1 e2 => by
    rcases e1 with ⟨rfl, e1⟩ | ⟨rfl, e1⟩ <;> rcases e2 with ⟨rfl, e2⟩ | ⟨rfl, e2⟩
    · rfl
    · exact absurd e2 (hd b e1)
    · exact absurd e1 (hd b e2)
    · rfl) (fun a ha i _ h => by
    obtain rfl := Option.some.inj ha
    rcases h with h | h
    · exact hF h.2
    · exact hG h.2) (sl_two hb)
  refine h.mono ?_
  rintro e w' ⟨r, F', rfl, hs, hF', ho⟩
  have key : ∀ b, (∃ i, i < [p, q].length ∧ two F G i b) → F b ∨ G b := fun b ⟨i, _, h⟩ => h.imp And.right And.right
  refine ⟨r, F', rfl, by simpa using hs, fun b hb => (hF' b hb).imp (key b) id, ⟨ho.os, ho.tape, ho.output, ho.size, fun k hk hn => ho.block k hk fun h => hn (key k h)⟩⟩

set_option maxRecDepth 100000 in
set_option maxHeartbeats 4000000 in
theorem cursorGaps_any {St : StP} {Ct : CtP} (K : CuK St Ct) (l : List Spn) (A : Option Addr) (d : Nat) (x1 x2 : Int) (w : World) (hin : In64 l) (b1 : Int64P x1) (b2 : Int64P x2) (hs : Sl w A l.length d (sv l)) :
    Calls Try.prog 6 #[.slice A l.length d, .agg #[.int .i64 x1, .int .i64 x2]] w fun e w' => e = .returned (.bool true) ∧ Below w.heap.size w w' := by
  have HFX := Lib.hid (fun V : World => fixed14_any K V)
  have hcap : (l.length : Int) ≤ 9223372036854775807 := by have := hs.le; have := hs.cap; unfold maxLen at this; omega
  obtain ⟨W1, hW1⟩ : ∃ W1, w.alloc (.cells #[.int .i64 x1, .int .i64 x2] 33) = W1 := ⟨_, rfl⟩
  have hB : Below w.heap.size w W1 := by rw [← hW1]; exact (Below.refl _ _).alloc (Nat.le_refl _) _
  have hblk : W1.heap[w.heap.size]? = some (.cells #[.int .i64 x1, .int .i64 x2] 33 (0, 0)) := by rw [← hW1]; exact heap_alloc_new _ _
  have E1 := Lib.hid hW1
  have HB := Lib.hid hB
  by_cases h40 : (40 : Int) < l.length
  · clear hs hin hW1 hB hblk
    go_enter Try.func6, Try.ntmps6
    go_upto_region 1 with fail
    rw [E1.out]
    go_wp2_with fail
    go_at_call 9
    refine (HFX.out _).mono ?_
    rintro e w2 ⟨rfl, hb⟩
    have HB2 := Lib.hid (HB.out.trans (hb.mono HB.out.size))
    clear hb
    go_wp2_with fail
    go_ret
    exact ⟨rfl, HB2.out⟩
  have HKB : Hid (∀ V, Below W1.heap.size W1 V → V.cell? ⟨w.heap.size, 0, none⟩ = some (.int .i64 x1) ∧ V.cell? ⟨w.heap.size, 1, none⟩ = some (.int .i64 x2)) := fun V hV => ⟨cell_old (blk_cell hblk rfl) hV, cell_old (blk_cell hblk rfl) hV⟩
  have hl40 : l.length ≤ 1000 := by omega
  have HLN : Hid ((gapsL (gapsL (formL l) (x1, x2)) (x1, x2)).length ≤ 100000 ∧ (meetL [formL l, formL [(x1, x2)]]).length ≤ 100000) := by
    have q1 := gaps_len (gapsL (formL l) (x1, x2)) (x1, x2)
    have q2 := gaps_len (formL l) (x1, x2)
    have q3 := form_len l
    have q4 := meet_len [formL l, formL [(x1, x2)]]
    have q5 := form_len [(x1, x2)]
    simp only [total, List.map_cons, List.map_nil, List.sum_cons, List.sum_nil, List.length_cons, List.length_nil] at q4 q5
    exact ⟨by omega, by omega⟩
  have HR : Hid (∀ V, Below W1.heap.size W1 V → Calls Try.prog 18 #[.pointer none, .slice A l.length d] V fun e w' => ∃ p F, e = .returned p ∧ St w' (.pointer none) p (formL l) (l.length + 1) F ∧ (∀ b, F b → V.heap.size ≤ b) ∧ Below V.heap.size V w') := fun V hV =>
    K.row V (.pointer none) 0 _ l A d hl40 hin (K.nilC V) ((hs.below hB (Nat.le_refl _)).below hV (Nat.le_refl _))
  have HG : Hid (∀ V p L n F, St V (.pointer none) p L n F → Calls Try.prog 20 #[p, .agg #[.int .i64 x1, .int .i64 x2]] V fun e w' => ∃ p' F', e = .returned p' ∧ St w' (.pointer none) p' (gapsL L (x1, x2)) n F' ∧ (∀ b, F' b → F b ∨ V.heap.size ≤ b) ∧ Off F V w') := fun V p L n F h => K.gaps V (.pointer none) p L n F x1 x2 b1 b2 h
  have HA1 : Hid (∀ V p n F, St V (.pointer none) p (gapsL (gapsL (formL l) (x1, x2)) (x1, x2)) n F → Calls Try.prog 12 #[p] V fun e w' => ∃ (A : Option Addr) (d n' k' : Nat) (F' : Nat → Prop), e = .returned (.slice A (gapsL (gapsL (formL l) (x1, x2)) (x1, x2)).length d) ∧ Sl w' A (gapsL (gapsL (formL l) (x1, x2)) (x1, x2)).length d (sv (gapsL (gapsL (formL l) (x1, x2)) (x1, x2))) ∧ (∀ a, A = some a → V.heap.size ≤ a.block ∧ ¬ F' a.block) ∧ St w' (.pointer none) p [] n' F' ∧ Ct w' (.pointer none) k' (fun _ => False) ∧ k' + n' ≤ 0 + n ∧ (∀ b, F' b → F b ∨ V.heap.size ≤ b) ∧ Off (fun b => F b ∨ False) V w') := fun V p n F h => K.all V (.pointer none) p _ n F 0 _ HLN.out.1 h (K.nilC V) fun _ _ => id
  have HA2 : Hid (∀ V p n F, St V (.pointer none) p (meetL [formL l, formL [(x1, x2)]]) n F → Calls Try.prog 12 #[p] V fun e w' => ∃ (A : Option Addr) (d n' k' : Nat) (F' : Nat → Prop), e = .returned (.slice A (meetL [formL l, formL [(x1, x2)]]).length d) ∧ Sl w' A (meetL [formL l, formL [(x1, x2)]]).length d (sv (meetL [formL l, formL [(x1, x2)]])) ∧ (∀ a, A = some a → V.heap.size ≤ a.block ∧ ¬ F' a.block) ∧ St w' (.pointer none) p [] n' F' ∧ Ct w' (.pointer none) k' (fun _ => False) ∧ k' + n' ≤ 0 + n ∧ (∀ b, F' b → F b ∨ V.heap.size ≤ b) ∧ Off (fun b => F b ∨ False) V w') := fun V p n F h => K.all V (.pointer none) p _ n F 0 _ HLN.out.2 h (K.nilC V) fun _ _ => id
  have HE := Lib.hid (gaps_twice l (x1, x2))
  clear hs hin hW1 hB hblk
  go_enter Try.func6, Try.ntmps6
  go_upto_region 1 with fail
  rw [E1.out]
  go_upto_region 3 with fail
  go_cut [5] from 6 (fun s5 wx => ∃ (A3 : Option Addr) (d3 n3 : Nat), s5 = .slice A3 n3 d3 ∧ Hid (Below W1.heap.size W1 wx ∧ n3 = (gapsL (gapsL (formL l) (x1, x2)) (x1, x2)).length ∧ Sl wx A3 n3 d3 (sv (gapsL (gapsL (formL l) (x1, x2)) (x1, x2)))))
  case first =>
    go_region_held3 (fun V => V.cell? ⟨w.heap.size, 0, none⟩ = some (.int .i64 x1) ∧ V.cell? ⟨w.heap.size, 1, none⟩ = some (.int .i64 x2)) (first | exact HKB.out _ hB5.out | exact HKB.out _ hB4.out | exact HKB.out _ hB3.out | exact HKB.out _ hB2.out | (refine HKB.out _ ?_; (repeat (first | exact Below.refl _ _ | refine Below.drew ?_)); done)) (first
      | (go_at_call 18; refine (HR.out _ (by (repeat (first | exact Below.refl _ _ | refine Below.drew ?_)))).mono ?_; rintro e w2 ⟨p2, F2, rfl, hst2, hF2, hb2⟩; have hB2 : Hid (Below W1.heap.size W1 w2) := ⟨hb2.os, hb2.tape, hb2.output, hb2.size, hb2.block⟩; have hF2' : Hid (∀ b, F2 b → W1.heap.size ≤ b) := hF2)
      | (go_at_call 20; refine (HG.out _ _ _ _ _ hst2).mono ?_; rintro e w3 ⟨p3, F3, rfl, hst3, hF3, ho3⟩; have hB3 := Lib.hid (hB2.out.trans (ho3.toBelow hB2.out.size hF2'.out)); have hF3' : Hid (∀ b, F3 b → W1.heap.size ≤ b) := fun b h => (hF3 b h).elim (hF2'.out b) fun q => Nat.le_trans hB2.out.size q)
      | (go_at_call 20; refine (HG.out _ _ _ _ _ hst3).mono ?_; rintro e w4 ⟨p4, F4, rfl, hst4, hF4, ho4⟩; have hB4 := Lib.hid (hB3.out.trans (ho4.toBelow hB3.out.size hF3'.out)); have hF4' : Hid (∀ b, F4 b → W1.heap.size ≤ b) := fun b h => (hF4 b h).elim (hF3'.out b) fun q => Nat.le_trans hB3.out.size q)
      | (go_at_call 12; refine (HA1.out _ _ _ _ hst4).mono ?_; rintro e w5 ⟨A5, d5, n5, k5, F5, rfl, hs5, _, _, _, _, _, ho5⟩; have hB5 := Lib.hid (hB4.out.trans (ho5.toBelow hB4.out.size fun b h => h.elim (hF4'.out b) False.elim))))
    all_goals
      have HS5 := Lib.hid hs5
      clear hs5 ho5 hst2 hst3 hst4 hF2 hF3 hF4 ho3 ho4
      go_wp2_with fail
      go_meet
      case rel => exact ⟨A5, d5, _, rfl, hB5.out, rfl, HS5.out⟩
  case rest =>
  obtain ⟨A3, d3, n3, rfl, HC3⟩ := hcut
  have HRc : Hid (∀ V, Below wc.heap.size wc V → Calls Try.prog 18 #[.pointer none, .slice A l.length d] V fun e w' => ∃ p F, e = .returned p ∧ St w' (.pointer none) p (formL l) (l.length + 1) F ∧ (∀ b, F b → V.heap.size ≤ b) ∧ Below V.heap.size V w') := fun V hV => HR.out V (HC3.out.1.trans (hV.mono HC3.out.1.size))
  have HR2 : Hid (∀ V b, V.heap[b]? = some (.cells #[.int .i64 x1, .int .i64 x2] 33 (0, 0)) → Calls Try.prog 18 #[.pointer none, .slice (some ⟨b, 0, none⟩) 1 1] V fun e w' => ∃ p F, e = .returned p ∧ St w' (.pointer none) p (formL [(x1, x2)]) 2 F ∧ (∀ b, F b → V.heap.size ≤ b) ∧ Below V.heap.size V w') := fun V b hb =>
    K.row V (.pointer none) 0 _ [(x1, x2)] (some ⟨b, 0, none⟩) 1 (by simp) (In64.one b1 b2) (K.nilC V) ⟨Nat.le_refl _, by decide, (fun h => by cases h), (sl_two hb).on⟩
  have HKc : Hid (∀ V, Below wc.heap.size wc V → V.cell? ⟨w.heap.size, 0, none⟩ = some (.int .i64 x1) ∧ V.cell? ⟨w.heap.size, 1, none⟩ = some (.int .i64 x2)) := fun V hV => HKB.out V (HC3.out.1.trans (hV.mono HC3.out.1.size))
  go_upto_region 4 with fail
  go_cut [6] from 7 (fun s6 wx => ∃ (A4 : Option Addr) (d4 n4 : Nat), s6 = .slice A4 n4 d4 ∧ Hid (Below wc.heap.size wc wx ∧ n4 = (meetL [formL l, formL [(x1, x2)]]).length ∧ Sl wx A4 n4 d4 (sv (meetL [formL l, formL [(x1, x2)]]))))
  case first =>
    go_region_held3 (fun V => V.cell? ⟨w.heap.size, 0, none⟩ = some (.int .i64 x1) ∧ V.cell? ⟨w.heap.size, 1, none⟩ = some (.int .i64 x2)) (first | exact HKc.out _ hB5.out | exact HKc.out _ hB4.out | exact HKc.out _ (bel_al hB3.out _) | exact HKc.out _ hB3.out | exact HKc.out _ (bel_al hB2.out _) | exact HKc.out _ hB2.out | (refine HKc.out _ ?_; (repeat (first | exact Below.refl _ _ | refine Below.drew ?_ | refine bel_al ?_ _)); done)) (first
      | (go_at_call 18; (with_reducible refine (HRc.out _ ?hbl).mono ?_); (case hbl => (repeat (first | exact Below.refl _ _ | refine Below.drew ?_ | refine bel_al ?_ _))); rintro e w2 ⟨p2, F2, rfl, hst2, hF2, hb2⟩; obtain ⟨pa2, rfl⟩ := K.ptr hst2; have hB2 : Hid (Below wc.heap.size wc w2) := (show Below wc.heap.size wc _ from (by (repeat (first | exact Below.refl _ _ | refine Below.drew ?_ | refine bel_al ?_ _)))).trans (hb2.mono (by first | exact Nat.le_refl _ | simp)); have hF2' : Hid (∀ b, F2 b → wc.heap.size ≤ b) := fun b h => Nat.le_trans (by first | exact Nat.le_refl _ | simp) (hF2 b h))
      | (go_at_call 18; refine (HR2.out _ _ (by first | exact heap_alloc_new _ _ | (rw [hb2.block _ (by simp)]; exact heap_alloc_new _ _))).mono ?_; rintro e w3 ⟨p3, F3, rfl, hst3, hF3, hb3⟩; obtain ⟨pa3, rfl⟩ := K.ptr hst3; have hb23 : Below w2.heap.size w2 w3 := (by first | exact (bel_al (Below.refl _ _) _).trans (hb3.mono (by simp)) | exact hb3); have hst2b := K.off hst2 (.of_below (F := fun _ => False) hb23) (fun _ _ => id); have hdis : ∀ b, F2 b → ¬ F3 b := (fun b h1 h2 => by have q1 := K.lt hst2 b h1; have q2 := Nat.le_trans (by simp : w2.heap.size ≤ _) (hF3 b h2); omega); have hB3 := Lib.hid (hB2.out.trans (hb23.mono hB2.out.size)); have hF3' : Hid (∀ b, F3 b → wc.heap.size ≤ b) := fun b h => Nat.le_trans hB2.out.size (Nat.le_trans (by simp : w2.heap.size ≤ _) (hF3 b h)))
      | (go_at_call 21; refine (K.meet2 (K.off hst2b (.of_below (F := fun _ => False) (bel_al (Below.refl _ _) _)) (fun _ _ => id)) (K.off hst3 (.of_below (F := fun _ => False) (bel_al (Below.refl _ _) _)) (fun _ _ => id)) hdis (heap_alloc_new _ _) (fun h => by have := K.lt hst2b _ h; omega) (fun h => by have := K.lt hst3 _ h; omega)).mono ?_; rintro e w4 ⟨p4, F4, rfl, hst4, hF4, ho4⟩; have hB4 := Lib.hid (bel_al hB3.out (.cells #[.pointer pa2, .pointer pa3] 27) |>.trans (ho4.toBelow (bel_al hB3.out (.cells #[.pointer pa2, .pointer pa3] 27)).size fun b h => h.elim (hF2'.out b) (hF3'.out b))); have hF4' : Hid (∀ b, F4 b → wc.heap.size ≤ b) := fun b h => (hF4 b h).elim (fun h => h.elim (hF2'.out b) (hF3'.out b)) fun q => Nat.le_trans hB3.out.size (Nat.le_trans (by simp) q))
      | (go_at_call 12; refine (HA2.out _ _ _ _ hst4).mono ?_; rintro e w5 ⟨A5, d5, n5, k5, F5, rfl, hs5, _, _, _, _, _, ho5⟩; have hB5 := Lib.hid (hB4.out.trans (ho5.toBelow hB4.out.size fun b h => h.elim (hF4'.out b) False.elim))))
    all_goals
      have HS5 := Lib.hid hs5
      clear hs5 ho5
      go_wp2_with fail
      go_meet
      case rel => exact ⟨A5, d5, _, rfl, hB5.out, rfl, HS5.out⟩
  case rest =>
  obtain ⟨A4, d4, n4, rfl, HC4⟩ := hcut
  have HSM : Hid (∀ V, Below wc.heap.size wc V → Calls Try.prog 14 #[.slice A3 n3 d3, .slice A4 n4 d4] V fun e w' => e = .returned (.bool true) ∧ Below V.heap.size V w') := fun V hV => by
    have h3 := (HC3.out.2.2.below HC4.out.1 (Nat.le_refl _)).below hV (Nat.le_refl _)
    have h4 := HC4.out.2.2.below hV (Nat.le_refl _)
    rw [HC3.out.2.1] at h3 ⊢
    rw [HC4.out.2.1, ← HE.out] at h4 ⊢
    have := rsame_any _ _ A3 A4 d3 d4 V h3 h4
    rwa [decide_eq_true rfl] at this
  have HBE : Hid (Below w.heap.size w wc) := HB.out.trans ((HC3.out.1.trans (HC4.out.1.mono HC3.out.1.size)).mono HB.out.size)
  clear HC3 HC4 HRc HR2 HKc HKB HR HG HA1 HA2 HLN
  go_wp2_with fail
  go_at_call 9
  refine (HFX.out _).mono ?_
  rintro e w5 ⟨rfl, hb⟩
  have HB5 := Lib.hid hb
  clear hb
  go_wp2_with fail
  go_at_call 14
  refine (HSM.out _ HB5.out).mono ?_
  rintro e w6 ⟨rfl, hb⟩
  have HB6 := Lib.hid (HBE.out.trans ((HB5.out.trans (hb.mono HB5.out.size)).mono HBE.out.size))
  clear hb
  go_wp2_with fail
  go_ret
  exact ⟨rfl, HB6.out⟩
end Go.Proofs.Ytgmcacmdiiogmaa
end
