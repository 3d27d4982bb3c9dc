import Derived.Test.YtibnbpiachdmdaaZEV3
import Derived.Deep.LoopGhost
/- ErodeSkips, walked. -/
section
namespace Go.Proofs.Ytibnbpiachdmdaa
open Go.ChangeShapes Go.WideShapes Go.ChangeAt Go.RowKit Go.Joins Sp
/-- What stands in memory between moves: a picker, and what is left of the document's starts. -/
structure SkIn (Pk : PkP) (P : Value) (V : World) (A : Option Addr) (d : Nat) (Lr : List Int) (wr : World) : Prop where
  bel : Below V.heap.size V wr
  sl : Sl V A Lr.length d (iv Lr)
  up : Lr.Pairwise (· < ·)
  le : Lr.length ≤ 2001
  pk : ∃ F, Pk wr (.pointer none) P (fun x => x ∈ Lr) F ∧ ∀ b, F b → V.heap.size ≤ b
/-- The first start is left out of those that are left. -/
theorem left_tail {V : World} {A : Option Addr} {d : Nat} {x : Int} {t : List Int} (h : Sl V A (t.length + 1) d (iv (x :: t))) :
    ∃ A2 d2, (∀ w' : World, (Instr.sliceAt 27 (.slice A (t.length + 1) d) (some (.int .i64 1)) none none).run Try.prog w' = .ok (.slice A2 t.length d2) w') ∧ Sl V A2 t.length d2 (iv t) := by
  obtain ⟨_, A2, _, h2, _, h4⟩ := h.cut (P := Try.prog) (k := 1) (s := 1) (t := 27) (by omega) (by simp [iv_len]) (by kernel_rfl) (fun w' => by kernel_rfl)
  exact ⟨A2, d - 1, fun w' => h2 w', h4⟩
set_option maxRecDepth 100000 in
set_option maxHeartbeats 8000000 in
theorem erodeSkips_any {St : StP} {Ct : CtP} {Pk : PkP} (K : CuR St Ct) (EK : ErK St Ct Pk) (l : List Spn) (A : Option Addr) (d : Nat) (n g : Nat) (mv : List Int) (B : Option Addr) (e : Nat) (hn : n < 256) (hg : g < 256) (hmv : ∀ x ∈ mv, Int64P x) (hin : In64 l) (w : World) (hs : Sl w A l.length d (sv l)) (hms : Sl w B mv.length e (iv mv)) :
    Calls Try.prog 4 #[.slice A l.length d, .int .u8 n, .int .u8 g, .slice B mv.length e] w fun e w' => e = .returned (.bool true) ∧ Below w.heap.size w w' := by
  have HFX := Lib.hid (fun V : World => fixed15_any EK V)
  have hcl : (l.length : Int) ≤ 9223372036854775807 := by have := hs.le; have := hs.cap; unfold maxLen at this; omega
  have hcm : (mv.length : Int) ≤ 9223372036854775807 := by have := hms.le; have := hms.cap; unfold maxLen at this; omega
  have e1 : (n : Int).tmod 100 = (n : Int) % 100 := Int.tmod_eq_emod_of_nonneg (by omega)
  have e2 : (g : Int).tmod 200 = (g : Int) % 200 := Int.tmod_eq_emod_of_nonneg (by omega)
  obtain ⟨n1, hn1⟩ : ∃ v, (n : Int) % 100 = v := ⟨_, rfl⟩
  obtain ⟨g2, hg2⟩ : ∃ v, (g : Int) % 200 = v := ⟨_, rfl⟩
  rw [hn1] at e1
  rw [hg2] at e2
  obtain ⟨kk, hkk⟩ : ∃ kk : Nat, (kk : Int) = 1 + n1 := ⟨(1 + n1).toNat, by omega⟩
  obtain ⟨D, hD⟩ : ∃ v, 1 + g2 = v := ⟨_, rfl⟩
  have hk1 : 1 ≤ kk ∧ kk ≤ 100 := by omega
  have hD1 : 1 ≤ D ∧ D ≤ 200 := by omega
  have w1 : IntKind.i64.wrap (1 + n1) = (kk : Int) := by rw [IntKind.wrap_i64]; omega
  have w2 : IntKind.i64.wrap (1 + g2) = D := by rw [IntKind.wrap_i64]; omega
  clear hn1 hg2 hkk hD
  have hways : ((30 : Int) < l.length ∧ decide ((30 : Int) < l.length) = true) ∨ (¬ (30 : Int) < l.length ∧ decide ((30 : Int) < l.length) = false ∧ (40 : Int) < mv.length) ∨ (¬ (30 : Int) < l.length ∧ decide ((30 : Int) < l.length) = false ∧ ¬ (40 : Int) < mv.length) := by
    by_cases q : (30 : Int) < l.length
    · exact .inl ⟨q, decide_eq_true q⟩
    · by_cases q2 : (40 : Int) < mv.length
      · exact .inr (.inl ⟨q, decide_eq_false q, q2⟩)
      · exact .inr (.inr ⟨q, decide_eq_false q, q2⟩)
  rcases hways with ⟨h30, h30b⟩ | ⟨h30, h30b, h40⟩ | ⟨h30, h30b, h40⟩
  case inr.inr =>
    have HIN := Lib.hid hin
    have HS := Lib.hid hs
    have HMV := Lib.hid hmv
    have HMS := Lib.hid hms
    clear hs hin hmv hms
    go_enter Try.func4, Try.ntmps4
    go_wp2_with fail
    go_loopw [38] (fun s38 wr => ∃ (i : Nat) (G : Gr w), wr = G.val ∧ i ≤ l.length ∧ s38 = .int .i64 i ∧ Hid (∀ s ∈ l.take i, 0 ≤ s.1 ∧ s.2 ≤ 2000)) (fun s38 _ => l.length - (intOf s38).toNat)
    case atStart => exact ⟨0, ⟨w, Below.refl _ _⟩, rfl, Nat.zero_le _, rfl, fun s hs => by simp at hs⟩
    case round =>
      obtain ⟨i, G, rfl, hi, rfl, HL⟩ := hrel
      by_cases hlt : i < l.length
      · have hiz : (i : Int) < l.length := by omega
        have hw1 : IntKind.i64.wrap ((i : Int) + 1) = i + 1 := by rw [IntKind.wrap_i64]; omega
        obtain ⟨s, hsi⟩ : ∃ s, l[i]? = some s := ⟨_, List.getElem?_eq_getElem hlt⟩
        obtain ⟨b, off, rfl, _, hc⟩ := HS.out.spanG hsi
        obtain ⟨c0, c1⟩ := hc G
        obtain ⟨s1, s2⟩ := s
        simp only at c0 c1
        have HSI := Lib.hid hsi
        have HG2 : Hid (Below w.heap.size w (G.val.alloc (.cells #[.int .i64 s1, .int .i64 s2] 26))) := G.ok.alloc G.size _
        clear hc hsi
        have hways : decide (s1 < 0) = true ∨ decide (s1 < 0) = false ∧ decide ((2000 : Int) < s2) = true ∨ decide (s1 < 0) = false ∧ decide ((2000 : Int) < s2) = false := by
          cases decide (s1 < 0) <;> cases decide ((2000 : Int) < s2) <;> simp
        rcases hways with q | ⟨q, q2⟩ | ⟨q, q2⟩
        · go_wp2_with fail
          go_at_call 7
          refine (HFX.out _).mono ?_
          rintro e w3 ⟨rfl, hb⟩
          have HB := Lib.hid (HG2.out.trans (hb.mono HG2.out.size))
          clear hb
          go_wp2_with fail
          go_ret
          exact ⟨rfl, HB.out⟩
        · go_wp2_with fail
          go_at_call 7
          refine (HFX.out _).mono ?_
          rintro e w3 ⟨rfl, hb⟩
          have HB := Lib.hid (HG2.out.trans (hb.mono HG2.out.size))
          clear hb
          go_wp2_with fail
          go_ret
          exact ⟨rfl, HB.out⟩
        · have HL2 : Hid (∀ s ∈ l.take (i + 1), 0 ≤ s.1 ∧ s.2 ≤ 2000) := fun s hs => by
            rw [List.take_add_one, HSI.out, List.mem_append] at hs
            rcases hs with h | h
            · exact HL.out s h
            · obtain rfl : s = (s1, s2) := by simpa using h
              have := of_decide_eq_false q
              have := of_decide_eq_false q2
              dsimp only
              omega
          go_wp2_with fail
          go_roundw
          case rel => exact ⟨i + 1, ⟨_, HG2.out⟩, rfl, hlt, by go_num, HL2.out⟩
          case measure => simp [intOf]; omega
      · obtain rfl : i = l.length := by omega
        have hiz : ¬ (l.length : Int) < l.length := by omega
        have hl2 : ∀ s ∈ l, 0 ≤ s.1 ∧ s.2 ≤ 2000 := by have := HL.out; rwa [List.take_length] at this
        have HRS := Lib.hid (rstarts15_any l A d kk D G.val (by omega) (by omega) (HS.out.gr G))
        have hwp := st15_pw l kk hD1.1 2001 0
        have hwl := st15_len l kk D 2001 0
        have hwm : ∀ x, x ∈ st15 l kk D 2001 0 ↔ Est (formL l) (kN kk) (kN D) x := fun x => by
          rw [st15_is hl2 hk1.1 hD1.1, show kN (kk : Int) = kk by unfold kN; omega, show kN D = D by unfold kN; omega]
        generalize st15 l kk D 2001 0 = W at *
        have HWP := Lib.hid hwp
        have HWM := Lib.hid hwm
        clear hwp hwm hl2
        go_wp2_with fail
        go_at_call 8
        refine HRS.out.mono ?_
        rintro e w2 ⟨A1, d1, rfl, hsw, hb1⟩
        have HB1 := Lib.hid (G.ok.trans (hb1.mono G.size))
        have HSW := Lib.hid hsw
        have HRO := Lib.hid (K.row w2 (.pointer none) 0 _ l A d (by omega) HIN.out (K.nilC _) (HS.out.below HB1.out (Nat.le_refl _)))
        clear hsw hb1
        go_wp2_with fail
        go_at_call 11
        refine HRO.out.mono ?_
        rintro e w5 ⟨p, F, rfl, hst, hF, hb5⟩
        obtain ⟨pa, rfl⟩ := K.ptr hst
        have HPI := Lib.hid (EK.pick w5 (.pointer none) (.pointer pa) (formL l) (l.length + 1) F kk D (by unfold Int64P; omega) (by unfold Int64P; omega) hst)
        have HB5 := Lib.hid hb5
        have HF5 := Lib.hid hF
        clear hst hF hb5
        go_wp2_with fail
        go_at_call 10
        refine HPI.out.mono ?_
        rintro e w6 ⟨P, F6, rfl, hpk, hF6, ho6⟩
        obtain ⟨qa, rfl⟩ := EK.ptr hpk
        have HI : Hid (SkIn Pk (.pointer qa) w2 A1 d1 W w6) := by
          refine ⟨HB5.out.trans (ho6.toBelow HB5.out.size HF5.out), HSW.out, HWP.out, hwl, F6, EK.congr hpk fun x => HWM.out x, fun b h => (hF6 b h).elim (HF5.out b) fun q => Nat.le_trans HB5.out.size q⟩
        clear hpk hF6 ho6
        go_wp2_with fail
        go_loopw [13, 63] (fun s13 s63 wr => ∃ (i nl d3 : Nat) (A3 : Option Addr) (Lr : List Int), i ≤ mv.length ∧ s63 = .int .i64 i ∧ s13 = .slice A3 nl d3 ∧ Hid (Lr.length = nl) ∧ Hid (SkIn Pk (.pointer qa) w2 A3 d3 Lr wr)) (fun _ s63 _ => mv.length - (intOf s63).toNat)
        case atStart => exact ⟨0, _, d1, A1, W, Nat.zero_le _, rfl, rfl, rfl, HI.out⟩
        case round =>
          obtain ⟨i, nl, d3, A3, Lr, hi7, rfl, rfl, HNL, HK⟩ := hrel
          by_cases hlt7 : i < mv.length
          · have hiz7 : (i : Int) < mv.length := by omega
            have hw7 : IntKind.i64.wrap ((i : Int) + 1) = i + 1 := by rw [IntKind.wrap_i64]; omega
            obtain ⟨m, hm⟩ : ∃ m, mv[i]? = some m := ⟨_, List.getElem?_eq_getElem hlt7⟩
            have hm64 := HMV.out m (List.mem_of_getElem? hm)
            obtain ⟨bm, om, rfl, _, qm⟩ := HMS.out.intG hm
            have cm : wr.cell? ⟨bm, om + i, none⟩ = some (.int .i64 m) := qm ⟨wr, HB1.out.trans (HK.out.bel.mono HB1.out.size)⟩
            obtain ⟨F7, hp7, hF7⟩ := HK.out.pk
            have HF7 := Lib.hid hF7
            have HP7 := Lib.hid hp7
            clear qm hm hp7 hF7
            by_cases hm0 : 0 ≤ m
            · have HSP := Lib.hid (EK.skip wr (.pointer none) (.pointer qa) _ F7 m hm64 HP7.out)
              go_wp2_with fail
              go_at_call 12
              refine HSP.out.mono ?_
              rintro e w8 ⟨F8, rfl, hp8, hF8, ho8⟩
              have HB8 := Lib.hid (HK.out.bel.trans (ho8.toBelow HK.out.bel.size HF7.out))
              have HF8 : Hid (∀ b, F8 b → w2.heap.size ≤ b) := fun b h => (hF8 b h).elim (HF7.out b) fun q => Nat.le_trans HK.out.bel.size q
              have HP8 := Lib.hid hp8
              clear hp8 hF8 ho8 cm
              have HST : Hid (∃ (A4 : Option Addr) (n4 d4 : Nat) (L4 : List Int), L4.length = n4 ∧ Value.slice A3 nl d3 = .slice A4 n4 d4 ∧ Sl w2 A4 L4.length d4 (iv L4) ∧ L4.Pairwise (· < ·) ∧ L4.length ≤ 2001 ∧ ∀ x, (x ∈ Lr ∧ m ≤ x) ↔ (x ∈ L4 ∧ m ≤ x)) := ⟨A3, nl, d3, Lr, HNL.out, rfl, HK.out.sl, HK.out.up, HK.out.le, fun _ => Iff.rfl⟩
              go_wp2_with fail
              go_loopg [13] nl (fun j s13 wq => wq = w8 ∧ ∃ (A4 : Option Addr) (d4 : Nat), s13 = .slice A4 j d4 ∧ Hid (∃ L4 : List Int, L4.length = j ∧ Sl w2 A4 L4.length d4 (iv L4) ∧ L4.Pairwise (· < ·) ∧ L4.length ≤ 2001 ∧ ∀ x, (x ∈ Lr ∧ m ≤ x) ↔ (x ∈ L4 ∧ m ≤ x)))
              case atStart => exact ⟨rfl, A3, d3, rfl, Lr, HNL.out, HK.out.sl, HK.out.up, HK.out.le, fun _ => Iff.rfl⟩
              case round =>
                obtain ⟨rfl, A4, d4, rfl, HQ⟩ := hrel
                obtain ⟨L4, hl4, hs4, hu4, hle4, hx4⟩ := HQ.out
                cases L4 with
                | nil =>
                  obtain rfl : 0 = gk := hl4
                  have HT : Hid (SkIn Pk (.pointer qa) w2 A4 d4 [] wr) := ⟨HB8.out, hs4, List.Pairwise.nil, Nat.zero_le _, F8, EK.congr HP8.out fun x => ⟨fun h => (by cases h), fun h => absurd ((hx4 x).1 h).1 (by simp)⟩, HF8.out⟩
                  clear hs4 hu4 hx4
                  go_wp2_with fail
                  go_roundw
                  case rel => exact ⟨i + 1, 0, d4, A4, [], hlt7, by go_num, rfl, rfl, HT.out⟩
                  case measure => simp [intOf]; omega
                | cons y t =>
                  have hgk : t.length + 1 = gk := hl4
                  obtain ⟨b4, o4, rfl, _, q4⟩ := hs4.intG (i := 0) (x := y) rfl
                  have c4 : wr.cell? ⟨b4, o4, none⟩ = some (.int .i64 y) := q4 ⟨wr, HB8.out⟩
                  obtain ⟨A5, d5, hrun, hs5⟩ := left_tail hs4
                  rw [hgk] at hrun
                  have hgz : (0 : Int) < gk := by omega
                  have hgn : 0 < gk := by omega
                  obtain ⟨hu5, hu6⟩ := List.pairwise_cons.1 hu4
                  by_cases hym : y < m
                  · have HT : Hid (∃ L4 : List Int, L4.length = t.length ∧ Sl w2 A5 L4.length d5 (iv L4) ∧ L4.Pairwise (· < ·) ∧ L4.length ≤ 2001 ∧ ∀ x, (x ∈ Lr ∧ m ≤ x) ↔ (x ∈ L4 ∧ m ≤ x)) := by
                      refine ⟨t, rfl, hs5, hu6, by simp at hle4; omega, fun x => (hx4 x).trans ⟨fun ⟨h1, h2⟩ => ⟨(List.mem_cons.1 h1).elim (fun e => by omega) id, h2⟩, fun ⟨h1, h2⟩ => ⟨by simp [h1], h2⟩⟩⟩
                    have hyb : decide (y < m) = true := decide_eq_true hym
                    have HGK := Lib.hid hgk
                    clear hs4 hu4 hx4 hs5 hu5 hu6 q4 hl4 hgk hle4
                    go_wp2_with fail
                    go_roundg t.length
                    case measure => have := HGK.out; omega
                    case rel => exact ⟨rfl, A5, d5, rfl, HT.out⟩
                  · have HT : Hid (SkIn Pk (.pointer qa) w2 (some ⟨b4, o4, none⟩) d4 (y :: t) wr) := by
                      refine ⟨HB8.out, hs4, hu4, hle4, F8, EK.congr HP8.out fun x => ?_, HF8.out⟩
                      rw [hx4 x]
                      exact ⟨fun h => ⟨h, (List.mem_cons.1 h).elim (fun e => by omega) fun e => by have := hu5 x e; omega⟩, fun h => h.1⟩
                    have hyb : decide (y < m) = false := decide_eq_false hym
                    have HGK : Hid ((y :: t).length = gk) := hl4
                    clear hs4 hu4 hx4 hs5 hu5 hu6 q4 hl4 hgk hle4 hrun
                    go_wp2_with fail
                    go_roundw
                    case rel => exact ⟨i + 1, gk, d4, _, y :: t, hlt7, by go_num, rfl, HGK.out, HT.out⟩
                    case measure => simp [intOf]; omega
            · have HN := Lib.hid (EK.next wr (.pointer none) (.pointer qa) _ F7 0 (fun _ => False) HP7.out (K.nilC wr) fun _ _ h => h)
              have HM0 := Lib.hid hm0
              go_wp2_with fail
              go_at_call 13
              refine HN.out.mono ?_
              rintro e w8 ⟨z, k9, F9, ⟨rfl, _, q1, q2, hp9⟩ | ⟨rfl, q1, hp9⟩, _, hF9, ho9⟩
              · cases Lr with
                | nil => cases q1
                | cons y t =>
                  have hu4 := HK.out.up
                  obtain ⟨hu5, hu6⟩ := List.pairwise_cons.1 hu4
                  obtain rfl : z = y := by
                    have h1 := q2 y (by simp)
                    rcases List.mem_cons.1 q1 with e | e
                    · exact e
                    · have := hu5 z e; omega
                  have hgk : t.length + 1 = nl := HNL.out
                  obtain ⟨b4, o4, rfl, _, q4⟩ := HK.out.sl.intG (i := 0) (x := z) rfl
                  obtain ⟨A5, d5, hrun, hs5⟩ := left_tail HK.out.sl
                  rw [hgk] at hrun
                  have hgz : (0 : Int) < nl := by omega
                  have hgn : 0 < nl := by omega
                  have hb8 := HK.out.bel.trans (ho9.toBelow HK.out.bel.size fun b h => h.elim (HF7.out b) False.elim)
                  have c4 : w8.cell? ⟨b4, o4, none⟩ = some (.int .i64 z) := q4 ⟨w8, hb8⟩
                  have HT : Hid (SkIn Pk (.pointer qa) w2 A5 d5 t w8) := by
                    refine ⟨hb8, hs5, hu6, by have := HK.out.le; simp at this; omega, F9, EK.congr hp9 fun x => ?_, fun b hb => (hF9 b hb).elim (HF7.out b) fun q => Nat.le_trans HK.out.bel.size q⟩
                    rw [List.mem_cons]
                    exact ⟨fun h => ⟨.inr h, hu5 x h⟩, fun ⟨h1, h2⟩ => h1.elim (fun e => by omega) id⟩
                  have HGK := Lib.hid hgk
                  clear hu4 hu5 hu6 q1 q2 q4 hs5 hb8 hp9 hF9 ho9 hgk
                  go_wp2_with fail
                  go_roundw
                  case rel => exact ⟨i + 1, t.length, d5, A5, t, hlt7, by go_num, by have := HGK.out; first | rfl | simp, rfl, HT.out⟩
                  case measure => simp [intOf]; omega
              · have hnil : Lr = [] := List.eq_nil_iff_forall_not_mem.2 q1
                have hn0 : nl = 0 := by rw [← HNL.out, hnil]; rfl
                have HT : Hid (SkIn Pk (.pointer qa) w2 A3 d3 Lr w8) := ⟨HK.out.bel.trans (ho9.toBelow HK.out.bel.size fun b h => h.elim (HF7.out b) False.elim), HK.out.sl, HK.out.up, HK.out.le, F9, hp9, fun b hb => (hF9 b hb).elim (HF7.out b) fun q => Nat.le_trans HK.out.bel.size q⟩
                have HNL2 : Hid (Lr.length = 0) := by show _ = _; rw [hnil]; rfl
                clear q1 hp9 hF9 ho9 hnil
                subst hn0
                go_wp2_with fail
                go_roundw
                case rel => exact ⟨i + 1, 0, d3, A3, Lr, hlt7, by go_num, rfl, HNL2.out, HT.out⟩
                case measure => simp [intOf]; omega
          · obtain rfl : i = mv.length := by omega
            have hiz7 : ¬ (mv.length : Int) < mv.length := by omega
            have HBR := Lib.hid (HB1.out.trans (HK.out.bel.mono HB1.out.size))
            go_wp2_with fail
            go_at_call 7
            refine (HFX.out _).mono ?_
            rintro e w10 ⟨rfl, hb⟩
            have HB := Lib.hid (HBR.out.trans (hb.mono HBR.out.size))
            clear hb
            go_wp2_with fail
            go_ret
            exact ⟨rfl, HB.out⟩
  all_goals
    clear hs hin hmv hms
    go_enter Try.func4, Try.ntmps4
    go_wp2_with fail
    go_at_call 7
    refine (HFX.out _).mono ?_
    rintro e w3 ⟨rfl, hb⟩
    have HB := Lib.hid hb
    clear hb
    go_wp2_with fail
    go_ret
    exact ⟨rfl, HB.out⟩
end Go.Proofs.Ytibnbpiachdmdaa
end
