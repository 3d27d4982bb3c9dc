import Derived.Test.YtibnbpiachdmdaaZEV1
/- ErodeFiner, walked. -/
section
namespace Go.Proofs.Ytibnbpiachdmdaa
open Go.ChangeShapes Go.WideShapes Go.ChangeAt Go.RowKit Go.Joins Sp
/-- Starts on a wider grid, or for more minutes, are among those on one that divides it, for fewer. -/
theorem finer_is {L : List Spn} {n more : Nat} {D Q x : Int} (hD : 1 ≤ D ∧ D ≤ 60) (hQ : 1 ≤ Q ∧ Q ≤ 5) (hn : n ≤ 255) (hm : more ≤ 255) (h : Est L (kN ((n : Int) + more)) (kN (D * Q)) x) : Est L (kN n) (kN D) x := by
  have h1 : 1 ≤ D * Q ∧ D * Q ≤ 300 := by
    have a := Int.mul_le_mul hD.2 hQ.2 (by omega) (by omega)
    have b := Int.mul_le_mul hD.1 hQ.1 (by omega) (by omega)
    omega
  have e1 : kN (D * Q) = D * Q := by unfold kN; omega
  have e2 : kN D = D := by unfold kN; omega
  rw [e1] at h
  rw [e2]
  refine ⟨?_, fun y y1 y2 => h.2 y y1 (by unfold kN at y2 ⊢; omega)⟩
  obtain ⟨t, ht⟩ := Int.dvd_of_emod_eq_zero h.1
  exact Int.emod_eq_zero_of_dvd ⟨Q * t, by rw [ht, Int.mul_assoc]⟩
/-- What stands in memory while starts are picked. -/
def FinIn (Pk : PkP) (P : Value) (r : List Int) (w2 : World) (i : Nat) (wr : World) : Prop := Below w2.heap.size w2 wr ∧ ∃ E F, Pk wr (.pointer none) P E F ∧ (∀ b, F b → w2.heap.size ≤ b) ∧ ∀ x ∈ r.drop i, E x
set_option maxRecDepth 100000 in
set_option maxHeartbeats 4000000 in
theorem erodeFiner_any {St : StP} {Ct : CtP} {Pk : PkP} (K : CuR St Ct) (EK : ErK St Ct Pk) (l : List Spn) (A : Option Addr) (d : Nat) (n g more k : Nat) (hn : n < 256) (hg : g < 256) (hmo : more < 256) (hk : k < 256) (hin : In64 l) (w : World) (hs : Sl w A l.length d (sv l)) :
    Calls Try.prog 6 #[.slice A l.length d, .int .u8 n, .int .u8 g, .int .u8 more, .int .u8 k] w fun e w' => e = .returned (.bool true) ∧ Below w.heap.size w w' := by
  have HFX := Lib.hid (fun V : World => fixed15_any EK V)
  have hcl : (l.length : Int) ≤ 9223372036854775807 := by have := hs.le; have := hs.cap; unfold maxLen at this; omega
  by_cases h30 : (30 : Int) < l.length
  · clear hs hin
    go_enter Try.func6, Try.ntmps6
    go_wp2_with fail
    go_at_call 7
    refine (HFX.out _).mono ?_
    rintro e w3 ⟨rfl, hb⟩
    have HB := Lib.hid hb
    clear hb
    go_wp2_with fail
    go_ret
    exact ⟨rfl, HB.out⟩
  · have e1 : (g : Int).tmod 60 = (g : Int) % 60 := Int.tmod_eq_emod_of_nonneg (by omega)
    have e2 : (k : Int).tmod 5 = (k : Int) % 5 := Int.tmod_eq_emod_of_nonneg (by omega)
    obtain ⟨g6, hg6⟩ : ∃ v, (g : Int) % 60 = v := ⟨_, rfl⟩
    obtain ⟨k5, hk5⟩ : ∃ v, (k : Int) % 5 = v := ⟨_, rfl⟩
    rw [hg6] at e1
    rw [hk5] at e2
    obtain ⟨D, hD⟩ : ∃ v, 1 + g6 = v := ⟨_, rfl⟩
    obtain ⟨Q, hQ⟩ : ∃ v, 1 + k5 = v := ⟨_, rfl⟩
    have hD1 : 1 ≤ D ∧ D ≤ 60 := by omega
    have hQ1 : 1 ≤ Q ∧ Q ≤ 5 := by omega
    have w1 : IntKind.i64.wrap (1 + g6) = D := by rw [IntKind.wrap_i64]; omega
    have w2 : IntKind.i64.wrap (1 + k5) = Q := by rw [IntKind.wrap_i64]; omega
    obtain ⟨DQ, hDQ⟩ : ∃ v, D * Q = v := ⟨_, rfl⟩
    have hDQ1 : 1 ≤ DQ ∧ DQ ≤ 300 := by
      have a := Int.mul_le_mul hD1.2 hQ1.2 (by omega) (by omega)
      have b := Int.mul_le_mul hD1.1 hQ1.1 (by omega) (by omega)
      omega
    have w3 : IntKind.i64.wrap (D * Q) = DQ := by rw [hDQ, IntKind.wrap_i64]; omega
    have w4 : IntKind.i64.wrap ((n : Int) + more) = (n : Int) + more := by rw [IntKind.wrap_i64]; omega
    have HFI : Hid (∀ x, Est (formL l) (kN ((n : Int) + more)) (kN DQ) x → Est (formL l) (kN n) (kN D) x) := fun x hx => by
      rw [← hDQ] at hx
      exact finer_is hD1 hQ1 (by omega) (by omega) hx
    have HIN := Lib.hid hin
    have HS := Lib.hid hs
    clear hs hin hD hQ hg6 hk5 hDQ
    go_enter Try.func6, Try.ntmps6
    go_wp2_with fail
    go_loopw [30] (fun s30 wr => ∃ (i : Nat) (G : Gr w), wr = G.val ∧ i ≤ l.length ∧ s30 = .int .i64 i) (fun s30 _ => l.length - (intOf s30).toNat)
    case atStart => exact ⟨0, ⟨w, Below.refl _ _⟩, rfl, Nat.zero_le _, rfl⟩
    case round =>
      obtain ⟨i, G, rfl, hi, rfl⟩ := hrel
      by_cases hlt : i < l.length
      · have hiz : (i : Int) < l.length := by omega
        have hw1 : IntKind.i64.wrap ((i : Int) + 1) = i + 1 := by rw [IntKind.wrap_i64]; omega
        obtain ⟨s, hsi⟩ : ∃ s, l[i]? = some s := ⟨_, List.getElem?_eq_getElem hlt⟩
        obtain ⟨b, off, rfl, _, hc⟩ := HS.out.spanG hsi
        obtain ⟨c0, c1⟩ := hc G
        obtain ⟨s1, s2⟩ := s
        simp only at c0 c1
        have HG2 : Hid (Below w.heap.size w (G.val.alloc (.cells #[.int .i64 s1, .int .i64 s2] 26))) := G.ok.alloc G.size _
        clear hc
        have hways : decide (s1 < -100000) = true ∨ decide (s1 < -100000) = false ∧ decide ((100000 : Int) < s2) = true ∨ decide (s1 < -100000) = false ∧ decide ((100000 : Int) < s2) = false := by
          cases decide (s1 < -100000) <;> cases decide ((100000 : Int) < s2) <;> simp
        rcases hways with q | ⟨q, q2⟩ | ⟨q, q2⟩
        · go_wp2_with fail
          go_at_call 7
          refine (HFX.out _).mono ?_
          rintro e w3 ⟨rfl, hb⟩
          have HB := Lib.hid (HG2.out.trans (hb.mono HG2.out.size))
          clear hb
          go_wp2_with fail
          go_ret
          exact ⟨rfl, HB.out⟩
        · go_wp2_with fail
          go_at_call 7
          refine (HFX.out _).mono ?_
          rintro e w3 ⟨rfl, hb⟩
          have HB := Lib.hid (HG2.out.trans (hb.mono HG2.out.size))
          clear hb
          go_wp2_with fail
          go_ret
          exact ⟨rfl, HB.out⟩
        · go_wp2_with fail
          go_roundw
          case rel => exact ⟨i + 1, ⟨_, HG2.out⟩, rfl, hlt, by go_num⟩
          case measure => simp [intOf]; omega
      · obtain rfl : i = l.length := by omega
        have hiz : ¬ (l.length : Int) < l.length := by omega
        have HST := Lib.hid (EK.starts G.val l A d ((n : Int) + more) DQ 200 (by omega) HIN.out (by unfold Int64P; omega) (by unfold Int64P; omega) (by omega) (by omega) (HS.out.gr G))
        go_wp2_with fail
        go_at_call 9
        refine HST.out.mono ?_
        rintro e w2 ⟨r, A2, d2, rfl, hr, hfi, hr64, _, hb2⟩
        have HB2 := Lib.hid (G.ok.trans (hb2.mono G.size))
        have HR := Lib.hid hr
        have HFR := Lib.hid hfi
        have hrl : (r.length : Int) ≤ 200 := by have := hfi.le; omega
        have HRO := Lib.hid (K.row w2 (.pointer none) 0 _ l A d (by omega) HIN.out (K.nilC w2) (HS.out.below HB2.out (Nat.le_refl _)))
        have HR64 := Lib.hid hr64
        clear hr hfi hb2 hr64
        go_wp2_with fail
        go_at_call 11
        refine HRO.out.mono ?_
        rintro e w3 ⟨p, F, rfl, hst, hF, hb3⟩
        obtain ⟨pa, rfl⟩ := K.ptr hst
        have HPI := Lib.hid (EK.pick w3 (.pointer none) (.pointer pa) (formL l) (l.length + 1) F n D (by unfold Int64P; omega) (by unfold Int64P; omega) hst)
        have HB3 := Lib.hid hb3
        have HF3 := Lib.hid hF
        clear hst hF hb3
        go_wp2_with fail
        go_at_call 10
        refine HPI.out.mono ?_
        rintro e w4 ⟨P, F4, rfl, hpk, hF4, ho4⟩
        obtain ⟨qa, rfl⟩ := EK.ptr hpk
        have HI : Hid (FinIn Pk (.pointer qa) r w2 0 w4) := by
          refine ⟨HB3.out.trans (ho4.toBelow HB3.out.size HF3.out), _, F4, hpk, fun b hb => ?_, fun x hx => HFI.out x (HFR.out.in_ x (by simpa using hx))⟩
          rcases hF4 b hb with h | h
          · exact HF3.out b h
          · exact Nat.le_trans HB3.out.size h
        clear hpk hF4 ho4
        go_wp2_with fail
        go_loopw [65] (fun s65 wr => ∃ i : Nat, i ≤ r.length ∧ s65 = .int .i64 i ∧ Hid (FinIn Pk (.pointer qa) r w2 i wr)) (fun s65 _ => r.length - (intOf s65).toNat)
        case atStart => exact ⟨0, Nat.zero_le _, rfl, HI.out⟩
        case round =>
          obtain ⟨i, hi2, rfl, HI⟩ := hrel
          obtain ⟨hbr, E, F5, hp5, hF5, hall⟩ := HI.out
          by_cases hlt2 : i < r.length
          · have hiz2 : (i : Int) < r.length := by omega
            have hw2 : IntKind.i64.wrap ((i : Int) + 1) = i + 1 := by rw [IntKind.wrap_i64]; omega
            obtain ⟨x, hx⟩ : ∃ x, r[i]? = some x := ⟨_, List.getElem?_eq_getElem hlt2⟩
            have hxm : x ∈ r := List.mem_of_getElem? hx
            have hdr : r.drop i = x :: r.drop (i + 1) := by rw [drop_step hlt2]; congr 1; exact Option.some.inj ((List.getElem?_eq_getElem hlt2).symm.trans hx)
            have HEx : Hid (E x) := hall x (by rw [hdr]; simp)
            have HNX : Hid (∀ z ∈ r.drop (i + 1), E z ∧ x < z) := fun z hz => by
              refine ⟨hall z (by rw [hdr]; simp [hz]), ?_⟩
              have := HFR.out.up
              rw [← List.take_append_drop i r, hdr, List.pairwise_append] at this
              exact (List.pairwise_cons.1 this.2.1).1 z hz
            obtain ⟨b, off, rfl, _, hc⟩ := HR.out.intG hx
            have c0 : wr.cell? ⟨b, off + i, none⟩ = some (.int .i64 x) := hc ⟨wr, hbr⟩
            have HSK := Lib.hid (EK.skip wr (.pointer none) (.pointer qa) E F5 x (HR64.out x hxm) hp5)
            have HBR := Lib.hid hbr
            have HF5 := Lib.hid hF5
            clear hc hdr hp5 hF5 hbr hall hxm
            go_wp2_with fail
            go_at_call 12
            refine HSK.out.mono ?_
            rintro e w6 ⟨F6, rfl, hp6, hF6, ho6⟩
            have HB6 := Lib.hid (HBR.out.trans (ho6.toBelow HBR.out.size HF5.out))
            have HF6 : Hid (∀ b, F6 b → w2.heap.size ≤ b) := fun b h => (hF6 b h).elim (HF5.out b) fun q => Nat.le_trans HBR.out.size q
            have HN := Lib.hid (EK.next w6 (.pointer none) (.pointer qa) _ F6 0 (fun _ => False) hp6 (K.nilC w6) fun _ _ h => h)
            clear hp6 hF6 ho6
            go_wp2_with fail
            go_at_call 13
            refine HN.out.mono ?_
            rintro e w7 ⟨y, k7, F7, ⟨rfl, _, q1, q2, hp7⟩ | ⟨rfl, q1, _⟩, _, hF7, ho7⟩
            · obtain rfl : y = x := by have := q2 x ⟨HEx.out, Int.le_refl _⟩; have := q1.2; omega
              have HT : Hid (FinIn Pk (.pointer qa) r w2 (i + 1) w7) := by
                refine ⟨HB6.out.trans (ho7.toBelow HB6.out.size fun b h => h.elim (HF6.out b) False.elim), _, F7, hp7, fun b hb => (hF7 b hb).elim (HF6.out b) fun q => Nat.le_trans HB6.out.size q, fun z hz => ?_⟩
                have := HNX.out z hz
                exact ⟨⟨this.1, by omega⟩, this.2⟩
              clear q1 q2 hp7 hF7 ho7
              go_wp2_with fail
              go_roundw
              case rel => exact ⟨i + 1, hlt2, by go_num, HT.out⟩
              case measure => simp [intOf]; omega
            · exact absurd ⟨HEx.out, Int.le_refl _⟩ (q1 x)
          · obtain rfl : i = r.length := by omega
            have hiz2 : ¬ (r.length : Int) < r.length := by omega
            have HBR := Lib.hid (HB2.out.trans (hbr.mono HB2.out.size))
            clear hbr hp5 hF5 hall
            go_wp2_with fail
            go_at_call 7
            refine (HFX.out _).mono ?_
            rintro e w8 ⟨rfl, hb⟩
            have HB := Lib.hid (HBR.out.trans (hb.mono HBR.out.size))
            clear hb
            go_wp2_with fail
            go_ret
            exact ⟨rfl, HB.out⟩
end Go.Proofs.Ytibnbpiachdmdaa
end
