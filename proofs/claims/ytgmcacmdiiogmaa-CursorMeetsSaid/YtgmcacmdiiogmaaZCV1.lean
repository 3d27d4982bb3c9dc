import Derived.Test.YtgmcacmdiiogmaaZCUB
import Derived.Test.YtgmcacmdiiogmaaZMD
/- What layer 14's statements share: the chapter's example; whether operations are gone through; CursorAll, walked. -/
section
namespace Go.Proofs.Ytgmcacmdiiogmaa
open Go.ChangeShapes Go.WideShapes Go.ChangeAt Go.RowKit Go.Joins Sp

theorem Sl.offs {w w' : World} {A : Option Addr} {n c : Nat} {l : List Spn} {G : Nat → Prop} (h : Sl w A n c (sv l)) (ho : Off G w w') (hA : 0 < l.length → ∀ a, A = some a → ¬ G a.block) : Sl w' A n c (sv l) :=
  ⟨h.le, h.cap, h.nil, fun hn => by
    obtain ⟨b, off, rfl, hlt, hc⟩ := h.on hn
    rw [sv_len] at hn
    exact ⟨b, off, rfl, Nat.lt_of_lt_of_le hlt ho.size, fun i v hi => ho.cell (hc i v hi) (hA (by omega) _ rfl)⟩⟩
theorem Sl.in_ {w : World} {A : Option Addr} {n c : Nat} {l : List Spn} (h : Sl w A n c (sv l)) (hl : 0 < l.length) {a : Addr} (ha : A = some a) : a.block < w.heap.size := by
  obtain ⟨b, off, e, hlt, _⟩ := h.on (by rw [sv_len]; omega)
  rw [ha] at e
  obtain rfl := Option.some.inj e
  exact hlt

set_option maxHeartbeats 1000000 in
theorem fixed14_any {St : StP} {Ct : CtP} (K : CuK St Ct) (w : World) : Calls Try.prog 9 #[] w fun e w' => e = .returned (.bool true) ∧ Below w.heap.size w w' := by
  obtain ⟨W1, hW1⟩ : ∃ W1, w.alloc (.cells #[.int .i64 2, .int .i64 4] 33) = W1 := ⟨_, rfl⟩
  have hB : Below w.heap.size w W1 := by rw [← hW1]; exact (Below.refl _ _).alloc (Nat.le_refl _) _
  have hs1 : Sl W1 (some ⟨w.heap.size, 0, none⟩) 1 1 (sv [(2, 4)]) := by
    rw [← hW1]; exact Sl.new w (sv [(2, 4)]) 1 33 (0, 0) (by decide)
  have hP := K.row W1 (.pointer none) 0 _ [(2, 4)] (some ⟨w.heap.size, 0, none⟩) 1 (by decide) (by intro s hs; simp at hs; rcases hs with rfl; decide) (K.nilC W1) hs1
  rw [show formL [(2, 4)] = [(2, 4)] by decide +kernel] at hP
  have HP := Lib.hid hP
  have HG : Hid (∀ V p n F, St V (.pointer none) p [(2, 4)] n F → Calls Try.prog 20 #[p, .agg #[.int .i64 0, .int .i64 9]] V fun e w' => ∃ p' F', e = .returned p' ∧ St w' (.pointer none) p' [(0, 2), (4, 9)] n F' ∧ (∀ b, F' b → F b ∨ V.heap.size ≤ b) ∧ Off F V w') := fun V p n F h => by
    have := K.gaps V (.pointer none) p [(2, 4)] n F 0 9 (by unfold Int64P; decide) (by unfold Int64P; decide) h
    rwa [show gapsL [(2, 4)] (0, 9) = [(0, 2), (4, 9)] by decide +kernel] at this
  have HA : Hid (∀ V p n F, St V (.pointer none) p [(0, 2), (4, 9)] n F → Calls Try.prog 12 #[p] V fun e w' => ∃ (A : Option Addr) (d n' k' : Nat) (F' : Nat → Prop), e = .returned (.slice A 2 d) ∧ Sl w' A 2 d (sv [(0, 2), (4, 9)]) ∧ (∀ a, A = some a → V.heap.size ≤ a.block ∧ ¬ F' a.block) ∧ St w' (.pointer none) p [] n' F' ∧ Ct w' (.pointer none) k' (fun _ => False) ∧ k' + n' ≤ 0 + n ∧ (∀ b, F' b → F b ∨ V.heap.size ≤ b) ∧ Off (fun b => F b ∨ False) V w') := fun V p n F h => K.all V (.pointer none) p _ n F 0 _ (by simp) h (K.nilC V) fun _ _ => id
  have E1 := Lib.hid hW1
  have HB := Lib.hid hB
  clear hP hs1 hW1 hB
  go_enter Try.func9, Try.ntmps9
  go_wp2_with fail
  go_at_call 18
  rw [E1.out]
  refine HP.out.mono ?_
  rintro e w2 ⟨p, F, rfl, hst, hF, hb⟩
  have HS2 := Lib.hid hst
  have HF2 := Lib.hid (fun b (h : F b) => (Nat.le_trans HB.out.size (hF b h) : w.heap.size ≤ b))
  have HB2 := Lib.hid (HB.out.trans (hb.mono HB.out.size))
  clear hst hF hb
  go_wp2_with fail
  go_at_call 20
  refine (HG.out _ _ _ _ HS2.out).mono ?_
  rintro e w3 ⟨p3, F3, rfl, hst, hF, ho⟩
  have HS3 := Lib.hid hst
  have HF3 : Hid (∀ b, F3 b → w.heap.size ≤ b) := fun b h => (hF b h).elim (HF2.out b) fun q => Nat.le_trans HB2.out.size q
  have HB3 := Lib.hid (HB2.out.trans (ho.toBelow HB2.out.size HF2.out))
  clear hst hF ho
  go_wp2_with fail
  go_at_call 12
  refine (HA.out _ _ _ _ HS3.out).mono ?_
  rintro e w4 ⟨A, d, n', k', F4, rfl, hsl, _, _, _, _, _, ho⟩
  have HB4 := Lib.hid (HB3.out.trans (ho.toBelow HB3.out.size fun b q => q.elim (HF3.out b) False.elim))
  obtain ⟨b, off, rfl, hbs, g1, g2⟩ := Sl.span (l := [(0, 2), (4, 9)]) (i := 0) (s := (0, 2)) hsl rfl
  obtain ⟨b', off', e', _, g3, g4⟩ := Sl.span (l := [(0, 2), (4, 9)]) (i := 1) (s := (4, 9)) hsl rfl
  obtain ⟨rfl, rfl⟩ : b = b' ∧ off = off' := by simpa using e'
  simp only [Nat.zero_mul, Nat.add_zero, Nat.one_mul] at g1 g2 g3 g4
  clear hsl ho
  go_wp2_with fail
  go_ret
  exact ⟨rfl, HB4.out⟩

set_option maxHeartbeats 1000000 in
theorem great14_any (ops : List Op14) (A : Option Addr) (d : Nat) (w : World) (hl : (ops.length : Int) ≤ 9223372036854775807) (hops : OpsAt w A ops) :
    Calls Try.prog 8 #[.slice A ops.length d] w fun e w' => (∃ b : Bool, e = .returned (.bool b) ∧ (b = false → ops.length ≤ 20 ∧ ∀ o ∈ ops, o.l.length ≤ 12)) ∧ Below w.heap.size w w' := by
  by_cases h20 : 20 < ops.length
  · have hz : (20 : Int) < ops.length := by omega
    clear hops h20
    go_enter Try.func8, Try.ntmps8
    go_wp2_with fail
    go_ret
    exact ⟨⟨true, rfl, fun h => by cases h⟩, Below.refl _ _⟩
  have hz : ¬ (20 : Int) < ops.length := by omega
  have HOP := Lib.hid hops
  have H20 : Hid (ops.length ≤ 20) := by show _ ≤ _; omega
  clear hops h20
  go_enter Try.func8, Try.ntmps8
  go_wp2_with fail
  go_loopw [10] (fun s10 wr => ∃ (i : Nat) (g : Gr w), wr = g.val ∧ i ≤ ops.length ∧ s10 = .int .i64 i ∧ Hid (∀ k o, k < i → ops[k]? = some o → o.l.length ≤ 12)) (fun s10 _ => ops.length - (intOf s10).toNat)
  case atStart => exact ⟨0, ⟨w, Below.refl _ _⟩, rfl, Nat.zero_le _, rfl, fun k o h => absurd h (Nat.not_lt_zero _)⟩
  case round =>
    obtain ⟨i, g, rfl, hi, rfl, HI⟩ := hrel
    by_cases hlt : i < ops.length
    · have hiz : (i : Int) < ops.length := by omega
      have hw1 : IntKind.i64.wrap ((i : Int) + 1) = i + 1 := by rw [IntKind.wrap_i64]; omega
      obtain ⟨o, ho⟩ : ∃ o, ops[i]? = some o := ⟨_, List.getElem?_eq_getElem hlt⟩
      obtain ⟨bo, offo, Ai, di, rfl, hsl, hcell⟩ := HOP.out.at_ ho
      obtain ⟨p0, p1, p2, p3, p4, p5, p6⟩ := hcell g
      have hcap : (o.l.length : Int) ≤ 9223372036854775807 := by have := hsl.le; have := hsl.cap; unfold maxLen at this; omega
      have HN : Hid (o.l.length ≤ 12 → ∀ k o, k < i + 1 → ops[k]? = some o → o.l.length ≤ 12) := fun h k o' hk hk2 => by
        by_cases e : k = i
        · subst e; rw [ho] at hk2; cases hk2; exact h
        · exact HI.out k o' (by omega) hk2
      obtain ⟨ok, ol, on, ow1, ow2, oa, ob⟩ := o
      simp only at p0 p1 p2 p3 p4 p5 p6 hcap HN
      clear hcell hsl ho
      by_cases h12 : 12 < ol.length
      · have hz2 : (12 : Int) < ol.length := by omega
        go_wp2_with fail
        go_ret
        exact ⟨⟨true, rfl, fun h => by cases h⟩, g.ok.alloc g.size _⟩
      · have hz2 : ¬ (12 : Int) < ol.length := by omega
        have HN2 := Lib.hid (HN.out (by omega))
        clear HN
        go_wp2_with fail
        go_roundw
        case rel => exact ⟨i + 1, ⟨_, g.ok.alloc g.size _⟩, rfl, by omega, by go_num, HN2.out⟩
        case measure => simp [intOf]; omega
    · obtain rfl : i = ops.length := by omega
      have hiz : ¬ (ops.length : Int) < ops.length := by omega
      go_wp2_with fail
      go_ret
      have hall : ∀ o ∈ ops, o.l.length ≤ 12 := fun o ho => by
        obtain ⟨k, hk⟩ := List.getElem?_of_mem ho
        exact HI.out k o (List.getElem?_eq_some_iff.1 hk).1 hk
      first
      | exact ⟨⟨false, rfl, fun _ => ⟨H20.out, hall⟩⟩, g.ok⟩
      | exact ⟨.inl ⟨rfl, H20.out, hall⟩, g.ok⟩

set_option maxRecDepth 100000 in
set_option maxHeartbeats 4000000 in
theorem cursorAll_any {St : StP} {Ct : CtP} (K : CuK St Ct) (ops : List Op14) (A : Option Addr) (d : Nat) (w : World) (hl : (ops.length : Int) ≤ 9223372036854775807) (hok : ∀ o ∈ ops, o.Ok) (hops : OpsAt w A ops) :
    Calls Try.prog 3 #[.slice A ops.length d] w fun e w' => e = .returned (.bool true) ∧ Below w.heap.size w w' := by
  have HFX := Lib.hid (fun V : World => fixed14_any K V)
  have HGR := Lib.hid (great14_any ops A d w hl hops)
  have HOP := Lib.hid hops
  have HOK := Lib.hid hok
  clear hops hok
  go_enter Try.func3, Try.ntmps3
  go_wp2_with fail
  go_at_call 8
  refine HGR.out.mono ?_
  rintro e w1 ⟨⟨bb, rfl, hbb⟩, hb1⟩
  have HB1 := Lib.hid hb1
  clear hb1 HGR
  cases bb with
  | true =>
    clear hbb
    go_wp2_with fail
    go_at_call 9
    refine (HFX.out _).mono ?_
    rintro e w2 ⟨rfl, hb⟩
    have HB2 := Lib.hid (HB1.out.trans (hb.mono HB1.out.size))
    clear hb
    go_wp2_with fail
    go_ret
    exact ⟨rfl, HB2.out⟩
  | false =>
    obtain ⟨h20, h12⟩ := hbb rfl
    have HNC := Lib.hid (K.newC w1)
    have H12 := Lib.hid h12
    clear hbb h12
    go_wp2_with fail
    go_at_call 10
    refine HNC.out.mono ?_
    rintro e w2 ⟨c, C, rfl, hct, hC, hb2⟩
    have HB2 := Lib.hid (HB1.out.trans (hb2.mono HB1.out.size))
    have HC : Hid (∀ b, C b → w.heap.size ≤ b ∧ b < w2.heap.size) := fun b h => ⟨Nat.le_trans HB1.out.size (hC b h), K.clt hct b h⟩
    have HBU := Lib.hid (build_any K c 0 C ops A d w2 h20 (fun o ho => ⟨HOK.out o ho, H12.out o ho⟩) hct (HOP.out.below HB2.out))
    have HCT := Lib.hid hct
    clear hct hC hb2
    go_wp2_with fail
    go_at_call 11
    refine HBU.out.mono ?_
    rintro e w3 ⟨p, A3, d3, L, q, most, F, rfl, hst, hq, hmost, hL, hsl, hA3, hF, hb3⟩
    have HB3 := Lib.hid (HB2.out.trans (hb3.mono HB2.out.size))
    have hct3 := K.coff HCT.out (.of_below (F := fun _ => False) hb3) fun _ _ => id
    have HS3 : Hid (Sl w3 A3 L.length d3 (sv L) ∧ (0 < L.length → ∀ a, A3 = some a → ¬ F a.block ∧ ¬ C a.block ∧ a.block < w3.heap.size)) := ⟨hsl, fun hn a ha => by
      have h1 := hA3 hn a ha
      refine ⟨h1.2, fun hc => ?_, hsl.in_ hn ha⟩
      have := (HC.out _ hc).2
      omega⟩
    have HF3 : Hid (∀ b, F b → w2.heap.size ≤ b) := hF
    have HAL := Lib.hid (K.all w3 c p L q F 0 C (by omega) hst hct3 fun b h1 h2 => by have := hF b h1; have := (HC.out b h2).2; omega)
    have HQ := Lib.hid hq
    have hlz : (L.length : Int) ≤ 1000 := by omega
    have hmz : (most : Int) ≤ 1000 := by omega
    have H23 := Lib.hid hb3.size
    clear hst hct3 hsl hA3 hF hb3 hq HBU HCT
    go_wp2_with fail
    go_at_call 12
    refine HAL.out.mono ?_
    rintro e w4 ⟨A4, d4, n4, k4, F4, rfl, hs4, hA4, hst4, hct4, hk4, hF4, ho4⟩
    have HS4 : Hid (Sl w4 A3 L.length d3 (sv L) ∧ Sl w4 A4 L.length d4 (sv L)) := ⟨HS3.out.1.offs ho4 fun hn a ha h => h.elim (HS3.out.2 hn a ha).1 (HS3.out.2 hn a ha).2.1, hs4⟩
    have HN4 : Hid (0 < L.length → (∀ a, A3 = some a → ¬ (F4 a.block ∨ C a.block)) ∧ ∀ a, A4 = some a → ¬ (F4 a.block ∨ C a.block)) := fun hn => ⟨fun a ha h => by
      have q := HS3.out.2 hn a ha
      rcases h with h | h
      · rcases hF4 _ h with h | h
        · exact q.1 h
        · have := q.2.2; omega
      · exact q.2.1 h, fun a ha h => by
      have q := hA4 a ha
      rcases h with h | h
      · exact q.2 h
      · have := (HC.out _ h).2
        have := H23.out
        omega⟩
    have HB4 := Lib.hid (HB3.out.trans (ho4.toBelow HB3.out.size fun b h => h.elim (fun h => Nat.le_trans HB2.out.size (HF3.out b h)) fun h => (HC.out b h).1))
    have HF4 : Hid (∀ b, F4 b → w.heap.size ≤ b) := fun b h => (hF4 b h).elim (fun h => Nat.le_trans HB2.out.size (HF3.out b h)) fun h => Nat.le_trans HB3.out.size h
    have HNX := Lib.hid (K.next w4 c p [] n4 F4 k4 C hst4 hct4 fun b h1 h2 => by
      have q := (HC.out b h2).2
      rcases hF4 b h1 with h | h
      · have := HF3.out b h; omega
      · have := H23.out; omega)
    have HK4 := Lib.hid hk4
    clear hs4 hA4 hst4 hct4 hk4 hF4 ho4 HAL HS3
    go_wp2_with fail
    go_at_call 13
    refine HNX.out.mono ?_
    rintro e w5 ⟨L5, n5, k5, F5, x1, x2, ok, rfl, hw, hst5, hct5, hk5, hF5, ho5⟩
    have hok : ok = false := by
      rcases hw with h | h
      · exact h.2.2.2.2
      · cases h.1
    subst hok
    have HS5 : Hid (Sl w5 A3 L.length d3 (sv L) ∧ Sl w5 A4 L.length d4 (sv L)) := ⟨HS4.out.1.offs ho5 fun hn a ha => (HN4.out hn).1 a ha, HS4.out.2.offs ho5 fun hn a ha => (HN4.out hn).2 a ha⟩
    have HB5 := Lib.hid (HB4.out.trans (ho5.toBelow HB4.out.size fun b h => h.elim (HF4.out b) fun h => (HC.out b h).1))
    have HCT5 : Hid (∀ V, Below w5.heap.size w5 V → Ct V c k5 C) := fun V hV => K.coff hct5 (.of_below (F := fun _ => False) hV) fun _ _ => id
    have hkm : (k5 : Int) ≤ most := by have := HK4.out; have := HQ.out; omega
    clear hw hst5 hct5 hk5 hF5 ho5 HNX HS4 HN4
    go_wp2_with fail
    go_at_call 9
    refine (HFX.out _).mono ?_
    rintro e w6 ⟨rfl, hb6⟩
    have hb56 : Below w5.heap.size w5 w6 := (bel_al (Below.refl _ _) _).trans (hb6.mono (by simp))
    have HB6 := Lib.hid hb56
    have HSM : Hid (Calls Try.prog 14 #[.slice A4 L.length d4, .slice A3 L.length d3] w6 fun e w' => e = .returned (.bool true) ∧ Below w6.heap.size w6 w') := by
      have := rsame_any L L A4 A3 d4 d3 w6 (HS5.out.2.below hb56 (Nat.le_refl _)) (HS5.out.1.below hb56 (Nat.le_refl _))
      rwa [decide_eq_true rfl] at this
    clear hb6 hb56
    go_wp2_with fail
    go_at_call 14
    refine HSM.out.mono ?_
    rintro e w7 ⟨rfl, hb7⟩
    have HB7 := Lib.hid (HB6.out.trans (hb7.mono HB6.out.size))
    have HST := Lib.hid (K.steps w7 c k5 C (by omega) (HCT5.out w7 HB7.out))
    clear hb7
    go_wp2_with fail
    go_at_call 15
    refine HST.out.mono ?_
    rintro e w8 ⟨rfl, hb8⟩
    have HB8 := Lib.hid (HB5.out.trans ((HB7.out.trans (hb8.mono HB7.out.size)).mono HB5.out.size))
    clear hb8
    go_wp2_with fail
    go_ret
    exact ⟨by first | rfl | simp [hkm], HB8.out⟩
end Go.Proofs.Ytgmcacmdiiogmaa
end
