import Derived.Test.YtibnbpiachdmdaaZEV2
/- ErodeStarts, walked. -/
section
namespace Go.Proofs.Ytibnbpiachdmdaa
open Go.ChangeShapes Go.WideShapes Go.ChangeAt Go.RowKit Go.Joins Sp
/-- What stands in memory while the starts of a row are asked for. -/
def StaIn (Pk : PkP) (P : Value) (W : List Int) (sk : Int) (w3 : World) (i : Nat) (wr : World) : Prop := Below w3.heap.size w3 wr ∧ ∃ F, Pk wr (.pointer none) P (fun x => x ∈ W.drop i ∧ sk ≤ x) F ∧ ∀ b, F b → w3.heap.size ≤ b
theorem drop_one {W : List Int} (hp : W.Pairwise (· < ·)) {i : Nat} (hlt : i < W.length) {x : Int} (hx : W[i]? = some x) : W.drop i = x :: W.drop (i + 1) ∧ ∀ z ∈ W.drop (i + 1), x < z := by
  have hdr : W.drop i = x :: W.drop (i + 1) := by rw [drop_step hlt]; congr 1; exact Option.some.inj ((List.getElem?_eq_getElem hlt).symm.trans hx)
  refine ⟨hdr, fun z hz => ?_⟩
  rw [← List.take_append_drop i W, hdr, List.pairwise_append] at hp
  exact (List.pairwise_cons.1 hp.2.1).1 z hz
set_option maxRecDepth 100000 in
set_option maxHeartbeats 4000000 in
theorem erodeStarts_any {St : StP} {Ct : CtP} {Pk : PkP} (K : CuR St Ct) (EK : ErK St Ct Pk) (l : List Spn) (A : Option Addr) (d : Nat) (n g most : Nat) (sk : Int) (hn : n < 256) (hg : g < 256) (hmo : most < 65536) (hsk : Int64P sk) (hin : In64 l) (w : World) (hs : Sl w A l.length d (sv l)) :
    Calls Try.prog 3 #[.slice A l.length d, .int .u8 n, .int .u8 g, .int .u16 most, .int .i64 sk] w fun e w' => e = .returned (.bool true) ∧ Below w.heap.size w w' := by
  have HFX := Lib.hid (fun V : World => fixed15_any EK V)
  have hcl : (l.length : Int) ≤ 9223372036854775807 := by have := hs.le; have := hs.cap; unfold maxLen at this; omega
  have e1 : (n : Int).tmod 100 = (n : Int) % 100 := Int.tmod_eq_emod_of_nonneg (by omega)
  have e2 : (g : Int).tmod 200 = (g : Int) % 200 := Int.tmod_eq_emod_of_nonneg (by omega)
  obtain ⟨n1, hn1⟩ : ∃ v, (n : Int) % 100 = v := ⟨_, rfl⟩
  obtain ⟨g2, hg2⟩ : ∃ v, (g : Int) % 200 = v := ⟨_, rfl⟩
  rw [hn1] at e1
  rw [hg2] at e2
  obtain ⟨kk, hkk⟩ : ∃ kk : Nat, (kk : Int) = 1 + n1 := ⟨(1 + n1).toNat, by omega⟩
  obtain ⟨D, hD⟩ : ∃ v, 1 + g2 = v := ⟨_, rfl⟩
  have hk1 : 1 ≤ kk ∧ kk ≤ 100 := by omega
  have hD1 : 1 ≤ D ∧ D ≤ 200 := by omega
  have w1 : IntKind.i64.wrap (1 + n1) = (kk : Int) := by rw [IntKind.wrap_i64]; omega
  have w2 : IntKind.i64.wrap (1 + g2) = D := by rw [IntKind.wrap_i64]; omega
  clear hn1 hg2 hkk hD
  by_cases h30 : (30 : Int) < l.length
  · clear hs hin
    go_enter Try.func3, Try.ntmps3
    go_wp2_with fail
    go_at_call 7
    refine (HFX.out _).mono ?_
    rintro e w3 ⟨rfl, hb⟩
    have HB := Lib.hid hb
    clear hb
    go_wp2_with fail
    go_ret
    exact ⟨rfl, HB.out⟩
  · have HIN := Lib.hid hin
    have HS := Lib.hid hs
    have HSK := Lib.hid hsk
    clear hs hin hsk
    go_enter Try.func3, Try.ntmps3
    go_wp2_with fail
    go_loopw [39] (fun s39 wr => ∃ (i : Nat) (G : Gr w), wr = G.val ∧ i ≤ l.length ∧ s39 = .int .i64 i ∧ Hid (∀ s ∈ l.take i, 0 ≤ s.1 ∧ s.2 ≤ 2000)) (fun s39 _ => l.length - (intOf s39).toNat)
    case atStart => exact ⟨0, ⟨w, Below.refl _ _⟩, rfl, Nat.zero_le _, rfl, fun s hs => by simp at hs⟩
    case round =>
      obtain ⟨i, G, rfl, hi, rfl, HL⟩ := hrel
      by_cases hlt : i < l.length
      · have hiz : (i : Int) < l.length := by omega
        have hw1 : IntKind.i64.wrap ((i : Int) + 1) = i + 1 := by rw [IntKind.wrap_i64]; omega
        obtain ⟨s, hsi⟩ : ∃ s, l[i]? = some s := ⟨_, List.getElem?_eq_getElem hlt⟩
        obtain ⟨b, off, rfl, _, hc⟩ := HS.out.spanG hsi
        obtain ⟨c0, c1⟩ := hc G
        obtain ⟨s1, s2⟩ := s
        simp only at c0 c1
        have HSI := Lib.hid hsi
        have HG2 : Hid (Below w.heap.size w (G.val.alloc (.cells #[.int .i64 s1, .int .i64 s2] 26))) := G.ok.alloc G.size _
        clear hc hsi
        have hways : decide (s1 < 0) = true ∨ decide (s1 < 0) = false ∧ decide ((2000 : Int) < s2) = true ∨ decide (s1 < 0) = false ∧ decide ((2000 : Int) < s2) = false := by
          cases decide (s1 < 0) <;> cases decide ((2000 : Int) < s2) <;> simp
        rcases hways with q | ⟨q, q2⟩ | ⟨q, q2⟩
        · go_wp2_with fail
          go_at_call 7
          refine (HFX.out _).mono ?_
          rintro e w3 ⟨rfl, hb⟩
          have HB := Lib.hid (HG2.out.trans (hb.mono HG2.out.size))
          clear hb
          go_wp2_with fail
          go_ret
          exact ⟨rfl, HB.out⟩
        · go_wp2_with fail
          go_at_call 7
          refine (HFX.out _).mono ?_
          rintro e w3 ⟨rfl, hb⟩
          have HB := Lib.hid (HG2.out.trans (hb.mono HG2.out.size))
          clear hb
          go_wp2_with fail
          go_ret
          exact ⟨rfl, HB.out⟩
        · have HL2 : Hid (∀ s ∈ l.take (i + 1), 0 ≤ s.1 ∧ s.2 ≤ 2000) := fun s hs => by
            rw [List.take_add_one, HSI.out, List.mem_append] at hs
            rcases hs with h | h
            · exact HL.out s h
            · obtain rfl : s = (s1, s2) := by simpa using h
              have := of_decide_eq_false q
              have := of_decide_eq_false q2
              dsimp only
              omega
          go_wp2_with fail
          go_roundw
          case rel => exact ⟨i + 1, ⟨_, HG2.out⟩, rfl, hlt, by go_num, HL2.out⟩
          case measure => simp [intOf]; omega
      · obtain rfl : i = l.length := by omega
        have hiz : ¬ (l.length : Int) < l.length := by omega
        have hl2 : ∀ s ∈ l, 0 ≤ s.1 ∧ s.2 ≤ 2000 := by have := HL.out; rwa [List.take_length] at this
        have HRS := Lib.hid (rstarts15_any l A d kk D G.val (by omega) (by omega) (HS.out.gr G))
        have hwp := st15_pw l kk hD1.1 2001 0
        have hwl := st15_len l kk D 2001 0
        have hwm : ∀ x, x ∈ st15 l kk D 2001 0 ↔ Est (formL l) (kN kk) (kN D) x := fun x => by
          rw [st15_is hl2 hk1.1 hD1.1, show kN (kk : Int) = kk by unfold kN; omega, show kN D = D by unfold kN; omega]
        generalize st15 l kk D 2001 0 = W at *
        have HWP := Lib.hid hwp
        have HWM := Lib.hid hwm
        clear hwp hwm hl2
        go_wp2_with fail
        go_at_call 8
        refine HRS.out.mono ?_
        rintro e w2 ⟨A1, d1, rfl, hsw, hb1⟩
        have HB1 := Lib.hid (G.ok.trans (hb1.mono G.size))
        have HSW := Lib.hid hsw
        have HST := Lib.hid (EK.starts w2 l A d kk D most (by omega) HIN.out (by unfold Int64P; omega) (by unfold Int64P; omega) (by omega) (by omega) (HS.out.below HB1.out (Nat.le_refl _)))
        have hwz : IntKind.i64.wrap (most : Int) = most := by rw [IntKind.wrap_i64]; omega
        clear hsw hb1
        go_wp2_with fail
        go_at_call 9
        refine HST.out.mono ?_
        rintro e w3 ⟨r, A2, d2, rfl, hr, hfi, _, _, hb2⟩
        have hrW : r = W.take most := by
          have := hfi.is HWP.out HWM.out
          rwa [show (max 0 (most : Int)).toNat = most by omega] at this
        have HRW := Lib.hid hrW
        have hrl : r.length = min most W.length := by rw [hrW, List.length_take]
        have HR := Lib.hid hr
        have HB3 := Lib.hid (HB1.out.trans (hb2.mono HB1.out.size))
        have HSW3 := Lib.hid (HSW.out.below hb2 (Nat.le_refl _))
        obtain ⟨wl, hwl2⟩ : ∃ wl, W.length = wl := ⟨_, rfl⟩
        obtain ⟨rl, hrl2⟩ : ∃ rl, r.length = rl := ⟨_, rfl⟩
        have HWL := Lib.hid hwl2
        have HRL := Lib.hid hrl2
        rw [hwl2] at hwl hrl
        rw [hrl2] at hrl
        obtain ⟨x, hx, x1, x2, x3, x4⟩ : ∃ x : Int, min (wl : Int) most = x ∧ (if (wl : Int) < most then (wl : Int) else most) = x ∧ (if (wl : Int) ≤ most then (wl : Int) else most) = x ∧ (if (most : Int) < wl then (most : Int) else wl) = x ∧ (if (most : Int) ≤ wl then (most : Int) else wl) = x := ⟨min (wl : Int) most, rfl, by split <;> omega, by split <;> omega, by split <;> omega, by split <;> omega⟩
        have hxr : x = (rl : Int) := by omega
        rw [hxr] at hx x1 x2 x3 x4
        have y1 : (if wl < most then (wl : Int) else most) = rl := by split <;> omega
        have y2 : (if wl ≤ most then (wl : Int) else most) = rl := by split <;> omega
        have y3 : (if most < wl then (most : Int) else wl) = rl := by split <;> omega
        have y4 : (if most ≤ wl then (most : Int) else wl) = rl := by split <;> omega
        have hrw : rl ≤ wl := by omega
        rw [hwl2, hrl2]
        clear hr hfi hb2 hrW hwl2 hrl2 hxr hrl
        go_wp2_with fail
        go_loopw [73] (fun s73 wr => ∃ (i : Nat) (G : Gr w3), wr = G.val ∧ i ≤ rl ∧ s73 = .int .i64 i) (fun s73 _ => rl - (intOf s73).toNat)
        case atStart => exact ⟨0, ⟨w3, Below.refl _ _⟩, rfl, Nat.zero_le _, rfl⟩
        case round =>
          obtain ⟨i, G3, rfl, hi3, rfl⟩ := hrel
          by_cases hlt3 : i < rl
          · have hiz3 : (i : Int) < rl := by omega
            have hiw : (i : Int) < wl := by omega
            have hw3 : IntKind.i64.wrap ((i : Int) + 1) = i + 1 := by rw [IntKind.wrap_i64]; omega
            obtain ⟨y, hy⟩ : ∃ y, r[i]? = some y := ⟨_, List.getElem?_eq_getElem (by rw [HRL.out]; exact hlt3)⟩
            have hyW : W[i]? = some y := by
              rw [HRW.out, List.getElem?_take] at hy
              split at hy
              · exact hy
              · cases hy
            obtain ⟨b1, o1, rfl, _, q1⟩ := HR.out.intG hy
            obtain ⟨b2, o2, rfl, _, q2⟩ := HSW3.out.intG hyW
            have c1 := q1 G3
            have c2 := q2 G3
            have Q := Lib.hid (And.intro q1 q2)
            clear hy hyW q1 q2
            go_wp2_with fail
            go_quiet (fail)
            obtain ⟨g4, hg4⟩ : ∃ g4 : Gr w3, G3.val.drewN nq = g4.val := G3.on (drewN_below _ _)
            rw [hg4]
            clear hg4
            go_wp2_with fail
            go_roundw
            case rel => exact ⟨i + 1, g4, rfl, hlt3, by go_num⟩
            case measure => simp [intOf]; omega
          · obtain rfl : i = rl := by omega
            have hiz3 : ¬ (i : Int) < i := by omega
            have HBG : Hid (Below w.heap.size w G3.val) := HB3.out.trans (G3.ok.mono HB3.out.size)
            have HRO := Lib.hid (K.row G3.val (.pointer none) 0 _ l A d (by omega) HIN.out (K.nilC _) (HS.out.below HBG.out (Nat.le_refl _)))
            have HSG := Lib.hid (HSW3.out.gr G3)
            generalize G3.val = V at *
            go_wp2_with fail
            go_at_call 11
            refine HRO.out.mono ?_
            rintro e w5 ⟨p, F, rfl, hst, hF, hb5⟩
            obtain ⟨pa, rfl⟩ := K.ptr hst
            have HPI := Lib.hid (EK.pick w5 (.pointer none) (.pointer pa) (formL l) (l.length + 1) F kk D (by unfold Int64P; omega) (by unfold Int64P; omega) hst)
            have HB5 := Lib.hid hb5
            have HF5 := Lib.hid hF
            clear hst hF hb5
            go_wp2_with fail
            go_at_call 10
            refine HPI.out.mono ?_
            rintro e w6 ⟨P, F6, rfl, hpk, hF6, ho6⟩
            obtain ⟨qa, rfl⟩ := EK.ptr hpk
            have HB6 := Lib.hid (HB5.out.trans (ho6.toBelow HB5.out.size HF5.out))
            have HF6 : Hid (∀ b, F6 b → V.heap.size ≤ b) := fun b h => (hF6 b h).elim (HF5.out b) fun q => Nat.le_trans HB5.out.size q
            have HSP := Lib.hid (EK.skip w6 (.pointer none) (.pointer qa) _ F6 sk HSK.out hpk)
            clear hpk hF6 ho6
            go_wp2_with fail
            go_at_call 12
            refine HSP.out.mono ?_
            rintro e w7 ⟨F7, rfl, hp7, hF7, ho7⟩
            have HI : Hid (StaIn Pk (.pointer qa) W sk V 0 w7) := by
              refine ⟨HB6.out.trans (ho7.toBelow HB6.out.size HF6.out), F7, EK.congr hp7 fun x => ?_, fun b h => (hF7 b h).elim (HF6.out b) fun q => Nat.le_trans HB6.out.size q⟩
              rw [List.drop_zero, HWM.out]
            clear hp7 hF7 ho7
            go_wp2_with fail
            go_loopw [96] (fun s96 wr => ∃ i : Nat, i ≤ wl ∧ s96 = .int .i64 i ∧ Hid (StaIn Pk (.pointer qa) W sk V i wr)) (fun s96 _ => wl - (intOf s96).toNat)
            case atStart => exact ⟨0, Nat.zero_le _, rfl, HI.out⟩
            case round =>
              obtain ⟨j, hj, rfl, HJ⟩ := hrel
              obtain ⟨hbr, F8, hp8, hF8⟩ := HJ.out
              by_cases hlt8 : j < wl
              · have hjz : (j : Int) < wl := by omega
                have hw8 : IntKind.i64.wrap ((j : Int) + 1) = j + 1 := by rw [IntKind.wrap_i64]; omega
                obtain ⟨y, hy⟩ : ∃ y, W[j]? = some y := ⟨_, List.getElem?_eq_getElem (by rw [HWL.out]; exact hlt8)⟩
                obtain ⟨hdr, hgt⟩ := drop_one HWP.out (by rw [HWL.out]; exact hlt8) hy
                obtain ⟨b1, o1, rfl, _, q1⟩ := HSG.out.intG hy
                have c1 : wr.cell? ⟨b1, o1 + j, none⟩ = some (.int .i64 y) := q1 ⟨wr, hbr⟩
                have HDR := Lib.hid (And.intro hdr hgt)
                have HBR := Lib.hid hbr
                have HF8 := Lib.hid hF8
                have HP8 := Lib.hid hp8
                clear hy hdr hgt q1 hbr hp8 hF8
                by_cases hys : y < sk
                · have HT : Hid (StaIn Pk (.pointer qa) W sk V (j + 1) wr) := by
                    refine ⟨HBR.out, F8, EK.congr HP8.out fun x => ?_, HF8.out⟩
                    rw [HDR.out.1, List.mem_cons]
                    exact ⟨fun ⟨h1, h2⟩ => ⟨.inr h1, h2⟩, fun ⟨h1, h2⟩ => ⟨h1.elim (fun e => by omega) id, h2⟩⟩
                  go_wp2_with fail
                  go_roundw
                  case rel => exact ⟨j + 1, hlt8, by go_num, HT.out⟩
                  case measure => simp [intOf]; omega
                · have HN := Lib.hid (EK.next wr (.pointer none) (.pointer qa) _ F8 0 (fun _ => False) HP8.out (K.nilC wr) fun _ _ h => h)
                  have HYS := Lib.hid hys
                  go_wp2_with fail
                  go_at_call 13
                  refine HN.out.mono ?_
                  rintro e w9 ⟨z, k9, F9, ⟨rfl, _, q1, q2, hp9⟩ | ⟨rfl, q1, _⟩, _, hF9, ho9⟩
                  · obtain rfl : z = y := by
                      have h1 := q2 y ⟨by rw [HDR.out.1]; simp, by have := HYS.out; omega⟩
                      have h2 := q1.1
                      rw [HDR.out.1, List.mem_cons] at h2
                      rcases h2 with e | e
                      · exact e
                      · have := HDR.out.2 z e; omega
                    have HT : Hid (StaIn Pk (.pointer qa) W sk V (j + 1) w9) := by
                      refine ⟨HBR.out.trans (ho9.toBelow HBR.out.size fun b h => h.elim (HF8.out b) False.elim), F9, EK.congr hp9 fun x => ?_, fun b hb => (hF9 b hb).elim (HF8.out b) fun q => Nat.le_trans HBR.out.size q⟩
                      rw [HDR.out.1, List.mem_cons]
                      constructor
                      · rintro ⟨h1, h2⟩
                        exact ⟨⟨.inr h1, h2⟩, HDR.out.2 x h1⟩
                      · rintro ⟨⟨h1, h2⟩, h3⟩
                        exact ⟨h1.elim (fun e => by omega) id, h2⟩
                    clear q1 q2 hp9 hF9 ho9
                    go_wp2_with fail
                    go_roundw
                    case rel => exact ⟨j + 1, hlt8, by go_num, HT.out⟩
                    case measure => simp [intOf]; omega
                  · exact absurd ⟨by rw [HDR.out.1]; simp, by have := HYS.out; omega⟩ (q1 y)
              · obtain rfl : j = wl := by omega
                have hjz : ¬ (j : Int) < j := by omega
                have HN := Lib.hid (EK.next wr (.pointer none) (.pointer qa) _ F8 0 (fun _ => False) hp8 (K.nilC wr) fun _ _ h => h)
                have HBR := Lib.hid hbr
                have HF8 := Lib.hid hF8
                clear hbr hp8 hF8
                go_wp2_with fail
                go_at_call 13
                refine HN.out.mono ?_
                rintro e w9 ⟨z, k9, F9, ⟨rfl, _, q1, _, _⟩ | ⟨rfl, _, _⟩, _, _, ho9⟩
                · have h2 := q1.1
                  rw [List.drop_of_length_le (by rw [HWL.out]; exact Nat.le_refl _)] at h2
                  cases h2
                · have HB9 := Lib.hid (HBR.out.trans (ho9.toBelow HBR.out.size fun b h => h.elim (HF8.out b) False.elim))
                  clear ho9
                  go_wp2_with fail
                  go_at_call 7
                  refine (HFX.out _).mono ?_
                  rintro e w10 ⟨rfl, hb⟩
                  have HB := Lib.hid (HBG.out.trans ((HB9.out.trans (hb.mono HB9.out.size)).mono HBG.out.size))
                  clear hb
                  go_wp2_with fail
                  go_ret
                  exact ⟨rfl, HB.out⟩
end Go.Proofs.Ytibnbpiachdmdaa
end
