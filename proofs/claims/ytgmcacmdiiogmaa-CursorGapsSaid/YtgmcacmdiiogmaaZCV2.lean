import Derived.Test.YtgmcacmdiiogmaaZCV1
import Derived.BigQuiet
/- CursorMoves, walked. -/
section
namespace Go.Proofs.Ytgmcacmdiiogmaa
open Go.ChangeShapes Go.WideShapes Go.ChangeAt Go.RowKit Go.Joins Sp

/-- Moves as cells. -/
def mvv : List (Bool × Int) → List Value
  | [] => []
  | s :: r => .bool s.1 :: .int .i64 s.2 :: mvv r
theorem mvv_len (l : List (Bool × Int)) : (mvv l).length = l.length * 2 := by induction l with | nil => rfl | cons s r ih => simp [mvv, ih]; omega
theorem mvv_at : ∀ {l : List (Bool × Int)} {i : Nat} {s : Bool × Int}, l[i]? = some s → (mvv l)[i * 2]? = some (.bool s.1) ∧ (mvv l)[i * 2 + 1]? = some (.int .i64 s.2)
  | x :: r, 0, s, h => by obtain rfl : x = s := by simpa using h
                          exact ⟨rfl, rfl⟩
  | x :: r, i + 1, s, h => by
    have ih := mvv_at (l := r) (i := i) (s := s) (by simpa using h)
    rw [show (i + 1) * 2 = i * 2 + 1 + 1 by omega]
    exact ⟨by simpa [mvv] using ih.1, by simpa [mvv] using ih.2⟩
theorem Sl.moveG {w : World} {A : Option Addr} {n c : Nat} {l : List (Bool × Int)} (h : Sl w A n c (mvv l)) {i : Nat} {s : Bool × Int} (hi : l[i]? = some s) :
    ∃ b off, A = some ⟨b, off, none⟩ ∧ b < w.heap.size ∧ ∀ g : Gr w, g.val.cell? ⟨b, off + i * 2, none⟩ = some (.bool s.1) ∧ g.val.cell? ⟨b, off + i * 2 + 1, none⟩ = some (.int .i64 s.2) := by
  obtain ⟨h1, h2⟩ := mvv_at hi
  obtain ⟨b, off, e, hb, g1, g2⟩ := h.at2 h1 h2
  exact ⟨b, off, e, hb, fun g => ⟨cell_old g1 g.ok, by rw [Nat.add_assoc]; exact cell_old g2 g.ok⟩⟩
/-- A stream, and the document's row of what is left. -/
structure Mo (St : StP) (Ct : CtP) (w wr : World) (c p : Value) (C : Nat → Prop) (most nl d : Nat) (A : Option Addr) (L : List Spn) (n k : Nat) (F : Nat → Prop) : Prop where
  bel : Below w.heap.size w wr
  st : St wr c p L n F
  ct : Ct wr c k C
  le : k + n ≤ most
  sl : Sl wr A nl d (sv L)
  len : L.length = nl
  apart : 0 < L.length → ∀ a, A = some a → ¬ F a.block ∧ ¬ C a.block
  fw : ∀ b, F b → w.heap.size ≤ b ∧ ¬ C b
  cw : ∀ b, C b → w.heap.size ≤ b
theorem Mo.up {St : StP} {Ct : CtP} (K : CuK St Ct) {w wr w' : World} {c p : Value} {C : Nat → Prop} {most nl d : Nat} {A : Option Addr} {L : List Spn} {n k : Nat} {F : Nat → Prop} (h : Mo St Ct w wr c p C most nl d A L n k F) (hb : Below wr.heap.size wr w') : Mo St Ct w w' c p C most nl d A L n k F := by
  have ho := Off.of_below (F := fun _ => False) hb
  exact ⟨h.bel.trans (hb.mono h.bel.size), K.off h.st ho fun _ _ => id, K.coff h.ct ho fun _ _ => id, h.le, h.sl.below hb (Nat.le_refl _), h.len, h.apart, h.fw, h.cw⟩
set_option maxRecDepth 100000 in
/-- A row's rest behind its first span. -/
theorem tail14 {w : World} {x : Spn} {l : List Spn} {A : Option Addr} {n c : Nat} (h : n = l.length) (hs : Sl w A (n + 1) c (sv (x :: l))) :
    ∃ A2, (∀ w' : World, (Instr.sliceAt 28 (.slice A (n + 1) c) (some (.int .i64 1)) none none).run Try.prog w' = .ok (.slice A2 n (c - 1)) w') ∧ Sl w A2 n (c - 1) (sv l) ∧ (0 < l.length → ∀ a2, A2 = some a2 → ∃ a, A = some a ∧ a2.block = a.block) := by
  have hle := hs.le
  have hcap := hs.cap
  obtain ⟨b, off, rfl, hlt, hc⟩ := hs.on (by simp [sv])
  refine ⟨if c = 1 then some ⟨b, off, none⟩ else some ⟨b, off + 2, none⟩, fun w' => ?_, ⟨by omega, by omega, (fun hn => by split at hn <;> cases hn), fun hn => ?_⟩, fun hn a2 ha => ?_⟩
  · rw [run_sliceAt_slice w' _ _ _ _ _ Try.underlying28, run_slice_l w' _ _ (n + 1) c Try.underlying28 .i64 1 (by omega) (by omega), show (sizeOf (Try.prog.elem 28)).run Try.prog w' = .ok 2 w' by kernel_rfl]
    simp [Result.andThen, sliced, Addr.add]
  · rw [sv_len] at hn
    have hc1 : ¬ c = 1 := by omega
    refine ⟨b, off + 2, by rw [if_neg hc1], hlt, fun i v hi => ?_⟩
    have := hc (2 + i) v (by rw [Nat.add_comm]; exact hi)
    rw [← Nat.add_assoc] at this
    exact this
  · refine ⟨_, rfl, ?_⟩
    split at ha <;> (cases ha; rfl)
theorem behind_len (L : List Spn) (m : Int) : (behindL L m).length ≤ L.length := List.length_filterMap_le _ _

set_option maxRecDepth 100000 in
set_option maxHeartbeats 8000000 in
theorem cursorMoves_any {St : StP} {Ct : CtP} (K : CuK St Ct) (ops : List Op14) (A : Option Addr) (d : Nat) (mvs : List (Bool × Int)) (B : Option Addr) (dm : Nat) (w : World) (hl : (ops.length : Int) ≤ 9223372036854775807) (hok : ∀ o ∈ ops, o.Ok) (hmv : ∀ m ∈ mvs, Int64P m.2) (hops : OpsAt w A ops) (hms : Sl w B mvs.length dm (mvv mvs)) :
    Calls Try.prog 4 #[.slice A ops.length d, .slice B mvs.length dm] w fun e w' => e = .returned (.bool true) ∧ Below w.heap.size w w' := by
  have HFX := Lib.hid (fun V : World => fixed14_any K V)
  have HGR := Lib.hid (great14_any ops A d w hl hops)
  have HOP := Lib.hid hops
  have HOK := Lib.hid hok
  have HMV := Lib.hid hmv
  have HMS := Lib.hid hms
  have hml : (mvs.length : Int) ≤ 9223372036854775807 := by have := hms.le; have := hms.cap; unfold maxLen at this; omega
  clear hops hok hmv hms
  go_enter Try.func4, Try.ntmps4
  go_wp2_with fail
  go_at_call 8
  refine HGR.out.mono ?_
  rintro e w1 ⟨⟨bb, rfl, hbb⟩, hb1⟩
  have HB1 := Lib.hid hb1
  clear hb1 HGR
  have hways : bb = true ∨ bb = false ∧ (60 : Int) < mvs.length ∨ bb = false ∧ ¬ (60 : Int) < mvs.length := by
    cases bb with
    | true => exact .inl rfl
    | false =>
      by_cases q : (60 : Int) < mvs.length
      · exact .inr (.inl ⟨rfl, q⟩)
      · exact .inr (.inr ⟨rfl, q⟩)
  rcases hways with rfl | ⟨rfl, h60⟩ | ⟨rfl, h60⟩
  case inr.inr =>
    obtain ⟨h20, h12⟩ := hbb rfl
    have HNC := Lib.hid (K.newC w1)
    have H12 := Lib.hid h12
    clear hbb h12
    go_wp2_with fail
    go_at_call 10
    refine HNC.out.mono ?_
    rintro e w2 ⟨c, C, rfl, hct, hC, hb2⟩
    have HB2 := Lib.hid (HB1.out.trans (hb2.mono HB1.out.size))
    have HC : Hid (∀ b, C b → w.heap.size ≤ b ∧ b < w2.heap.size) := fun b h => ⟨Nat.le_trans HB1.out.size (hC b h), K.clt hct b h⟩
    have HBU := Lib.hid (build_any K c 0 C ops A d w2 h20 (fun o ho => ⟨HOK.out o ho, H12.out o ho⟩) hct (HOP.out.below HB2.out))
    have HCT := Lib.hid hct
    clear hct hC hb2
    go_wp2_with fail
    go_at_call 11
    refine HBU.out.mono ?_
    rintro e w3 ⟨p, A3, d3, L3, q, most, F3, rfl, hst, hq, hmost, hL, hsl, hA3, hF, hb3⟩
    have HM3 : Hid (∃ n k F, Mo St Ct w w3 c p C most L3.length d3 A3 L3 n k F) := by
      have hct3 := K.coff HCT.out (.of_below (F := fun _ => False) hb3) fun _ _ => id
      refine ⟨q, 0, F3, HB2.out.trans (hb3.mono HB2.out.size), hst, hct3, by omega, hsl, rfl, fun hn a ha => ?_, fun b h => ?_, fun b h => (HC.out b h).1⟩
      · have h1 := hA3 hn a ha
        exact ⟨h1.2, fun hc => by have := (HC.out _ hc).2; omega⟩
      · have h1 := hF b h
        exact ⟨Nat.le_trans HB2.out.size h1, fun hc => by have := (HC.out _ hc).2; omega⟩
    have hmz : (most : Int) ≤ 1000 := by omega
    obtain ⟨nl3, hnl3⟩ : ∃ nl3, L3.length = nl3 := ⟨_, rfl⟩
    have hnlb : nl3 ≤ 1000 := by omega
    rw [hnl3] at HM3 ⊢
    have HB3 : Hid (Below w.heap.size w w3) := by obtain ⟨n, k, F, h⟩ := HM3.out; exact h.bel
    clear hst hq hL hsl hA3 hF hb3 HBU HCT HC hnl3
    go_wp2_with fail
    go_loopw [7, 31] (fun s7 s31 wr => ∃ (i nl d : Nat) (A : Option Addr) (g : Gr w), wr = g.val ∧ i ≤ mvs.length ∧ nl ≤ 1000 ∧ s31 = .int .i64 i ∧ s7 = .slice A nl d ∧ Hid (∃ L n k F, Mo St Ct w g.val c p C most nl d A L n k F)) (fun _ s31 _ => mvs.length - (intOf s31).toNat)
    case atStart => exact ⟨0, nl3, d3, A3, ⟨w3, HB3.out⟩, rfl, Nat.zero_le _, hnlb, rfl, rfl, L3, HM3.out⟩
    case round =>
      obtain ⟨i, nl, d, A, g, rfl, hi, hnl, rfl, rfl, HM⟩ := hrel
      by_cases hlt : i < mvs.length
      · have hiz : (i : Int) < mvs.length := by omega
        have hw1 : IntKind.i64.wrap ((i : Int) + 1) = i + 1 := by rw [IntKind.wrap_i64]; omega
        obtain ⟨⟨sk, mi⟩, hmi⟩ : ∃ m, mvs[i]? = some m := ⟨_, List.getElem?_eq_getElem hlt⟩
        have hmi64 := HMV.out _ (List.mem_of_getElem? hmi)
        obtain ⟨bm, om, rfl, hbm, hcell⟩ := HMS.out.moveG hmi
        obtain ⟨q1, q2⟩ := hcell g
        obtain ⟨W1, hW1⟩ : ∃ W1, g.val.alloc (.cells #[.bool sk, .int .i64 mi] 40) = W1 := ⟨_, rfl⟩
        have hB : Below g.val.heap.size g.val W1 := by rw [← hW1]; exact (Below.refl _ _).alloc (Nat.le_refl _) _
        have hblk : W1.heap[g.val.heap.size]? = some (.cells #[.bool sk, .int .i64 mi] 40 (0, 0)) := by rw [← hW1]; exact heap_alloc_new _ _
        obtain ⟨L, n, k, F, hm0⟩ := HM.out
        have hm := hm0.up K hB
        have HM1 := Lib.hid hm
        have HFL : Hid (∀ b, F b → b < g.val.heap.size) := K.lt hm0.st
        have HCL : Hid (∀ b, C b → b < g.val.heap.size) := K.clt hm0.ct
        have k0 : W1.cell? ⟨g.val.heap.size, 0, none⟩ = some (.bool sk) := blk_cell hblk rfl
        have k1 : W1.cell? ⟨g.val.heap.size, 1, none⟩ = some (.int .i64 mi) := blk_cell hblk rfl
        have HK1 := Lib.hid k1
        have HBS := Lib.hid hB.size
        have E1 := Lib.hid hW1
        clear hmi hcell hW1 hblk hm0 HM
        cases sk with
        | true =>
          have HSK := Lib.hid (K.skip W1 c p L n F mi hmi64 hm.st)
          clear hm hB
          go_upto_region 8 with fail
          rw [E1.out]
          clear q1 q2
          go_wp2_with fail
          go_at_call 16
          refine HSK.out.mono ?_
          rintro e w4 ⟨F4, rfl, hst4, hF4, ho4⟩
          have hnb : ¬ F g.val.heap.size := fun h => by have := HFL.out _ h; omega
          have j1 : w4.cell? ⟨g.val.heap.size, 1, none⟩ = some (.int .i64 mi) := ho4.cell k1 hnb
          have hsl4 := HM1.out.sl.offs ho4 fun hn a ha => (HM1.out.apart hn a ha).1
          have hbh := rbehindN_any L mi A d w4 (by have := HM1.out.len; omega) (by rw [HM1.out.len]; exact hsl4)
          rw [HM1.out.len] at hbh
          have HBH := Lib.hid hbh
          have hct4 := K.coff HM1.out.ct ho4 fun b hb hf => (HM1.out.fw b hf).2 hb
          have HM4 : Hid (Below w.heap.size w w4 ∧ St w4 c p (behindL L mi) n F4 ∧ Ct w4 c k C ∧ ∀ b, F4 b → w.heap.size ≤ b ∧ ¬ C b) := ⟨HM1.out.bel.trans (ho4.toBelow HM1.out.bel.size fun b hb => (HM1.out.fw b hb).1), hst4, hct4, fun b hb => (hF4 b hb).elim (fun h => HM1.out.fw b h) fun h => ⟨Nat.le_trans HM1.out.bel.size h, fun hc => by have := HCL.out b hc; have := HBS.out; omega⟩⟩
          clear hst4 hF4 ho4 hsl4 hbh hct4 HSK k0 k1 hnb
          go_wp2_with fail
          go_at_call 17
          refine HBH.out.mono ?_
          rintro e w5 ⟨A5, d5, rfl, hs5, hn5, hb5⟩
          have HM5 : Hid (Mo St Ct w w5 c p C most (behindL L mi).length d5 A5 (behindL L mi) n k F4) := by
            obtain ⟨m1, m2, m3, m4⟩ := HM4.out
            have ho := Off.of_below (F := fun _ => False) hb5
            exact ⟨m1.trans (hb5.mono m1.size), K.off m2 ho fun _ _ => id, K.coff m3 ho fun _ _ => id, HM1.out.le, hs5, rfl, fun hn a ha => ⟨fun h => by have := hn5 a ha; have := K.lt m2 _ h; omega, fun h => by have := hn5 a ha; have := K.clt m3 _ h; omega⟩, m4, HM1.out.cw⟩
          have hbl : (behindL L mi).length ≤ 1000 := Nat.le_trans (behind_len L mi) (by have := HM1.out.len; omega)
          clear hs5 hn5 hb5 HBH
          go_wp2_with fail
          go_roundw
          case rel => exact ⟨i + 1, _, d5, A5, ⟨w5, HM5.out.bel⟩, rfl, by omega, hbl, by go_num, rfl, _, n, k, F4, HM5.out⟩
          case measure => simp [intOf]; omega
        | false =>
          have HNX := Lib.hid (K.next W1 c p L n F k C hm.st hm.ct fun b h1 h2 => (hm.fw b h1).2 h2)
          clear hm hB
          go_upto_region 8 with fail
          rw [E1.out]
          clear q1 q2
          go_wp2_with fail
          go_at_call 13
          refine HNX.out.mono ?_
          rintro e w4 ⟨L4, n4, k4, F4, x1, x2, ok, rfl, hw, hst4, hct4, hk4, hF4, ho4⟩
          have hsl4 := HM1.out.sl.offs ho4 fun hn a ha h => h.elim (HM1.out.apart hn a ha).1 (HM1.out.apart hn a ha).2
          have HF4 : Hid (∀ b, F4 b → w.heap.size ≤ b ∧ ¬ C b) := fun b hb => (hF4 b hb).elim (fun h => HM1.out.fw b h) fun h => ⟨Nat.le_trans HM1.out.bel.size h, fun hc => by have := HCL.out b hc; have := HBS.out; omega⟩
          have HAP : Hid (0 < L.length → ∀ a, A = some a → ¬ F4 a.block ∧ ¬ C a.block) := fun hn a ha => ⟨fun h => (hF4 _ h).elim (HM1.out.apart hn a ha).1 fun q => by have := HM1.out.sl.in_ (by have := HM1.out.len; omega) ha; omega, (HM1.out.apart hn a ha).2⟩
          have HM4 : Hid (Below w.heap.size w w4 ∧ St w4 c p L4 n4 F4 ∧ Ct w4 c k4 C ∧ k4 + n4 ≤ most) := ⟨HM1.out.bel.trans (ho4.toBelow HM1.out.bel.size fun b hb => hb.elim (fun h => (HM1.out.fw b h).1) (HM1.out.cw b)), hst4, hct4, Nat.le_trans hk4 HM1.out.le⟩
          have HSL4 := Lib.hid hsl4
          have HLEN := Lib.hid HM1.out.len
          obtain ⟨W5, hW5⟩ : ∃ W5, w4.alloc (.cells #[.int .i64 x1, .int .i64 x2] 33) = W5 := ⟨_, rfl⟩
          have hB5 : Below w4.heap.size w4 W5 := by rw [← hW5]; exact (Below.refl _ _).alloc (Nat.le_refl _) _
          have hblk5 : W5.heap[w4.heap.size]? = some (.cells #[.int .i64 x1, .int .i64 x2] 33 (0, 0)) := by rw [← hW5]; exact heap_alloc_new _ _
          have y0 : W5.cell? ⟨w4.heap.size, 0, none⟩ = some (.int .i64 x1) := blk_cell hblk5 rfl
          have y1 : W5.cell? ⟨w4.heap.size, 1, none⟩ = some (.int .i64 x2) := blk_cell hblk5 rfl
          have E5 := Lib.hid hW5
          have HB5 := Lib.hid hB5
          have HUP : Hid (∀ nq, Below w4.heap.size w4 (W5.drewN nq)) := fun nq => hB5.trans ((drewN_below _ _).mono hB5.size)
          clear hst4 hct4 hk4 hF4 ho4 hsl4 HNX k0 k1 hW5 hblk5
          have hend : ∀ (A' : Option Addr) (nl' d' : Nat) (V : World), Below w4.heap.size w4 V → L4.length = nl' → Sl w4 A' nl' d' (sv L4) → (0 < L4.length → ∀ a, A' = some a → ¬ F4 a.block ∧ ¬ C a.block) → Mo St Ct w V c p C most nl' d' A' L4 n4 k4 F4 := fun A' nl' d' V hV h1 h2 h3 => Mo.up K ⟨HM4.out.1, HM4.out.2.1, HM4.out.2.2.1, HM4.out.2.2.2, h2, h1, h3, HF4.out, HM1.out.cw⟩ hV
          have HEND := Lib.hid hend
          clear hend
          rcases hw with ⟨rfl, rfl, rfl, rfl, rfl⟩ | ⟨rfl, rfl⟩
          · obtain rfl : nl = 0 := HLEN.out.symm
            go_upto_region 12 with fail
            rw [E5.out]
            go_quiet (fail)
            have hnew := HUP.out nq
            obtain ⟨W6, hW6⟩ : ∃ W6, W5.drewN nq = W6 := ⟨_, rfl⟩
            rw [hW6] at hnew ⊢
            have HNW := Lib.hid (HEND.out A 0 d W6 hnew rfl HSL4.out fun h => absurd h (by simp))
            clear hW6 hnew y0 y1
            go_wp2_with fail
            go_roundw
            case rel => exact ⟨i + 1, 0, d, A, ⟨W6, HNW.out.bel⟩, rfl, by omega, by omega, by go_num, rfl, [], n4, k4, F4, HNW.out⟩
            case measure => simp [intOf]; omega
          · obtain ⟨m, hm⟩ : ∃ m, L4.length = m := ⟨_, rfl⟩
            obtain rfl : nl = m + 1 := by have := HLEN.out; simp at this; omega
            obtain ⟨A2, e2, hs2, hb2⟩ := tail14 hm.symm HSL4.out
            obtain ⟨ba, oa, rfl, hba, z1, z2⟩ := Sl.span (l := (x1, x2) :: L4) (i := 0) (s := (x1, x2)) (n := m + 1) HSL4.out rfl
            simp only [Nat.zero_mul, Nat.add_zero] at z1 z2
            have z1' := cell_old z1 hB5
            have z2' := cell_old z2 hB5
            have HS2 := Lib.hid (And.intro hs2 (And.intro hb2 hm))
            have hz : (0 : Int) < (m : Int) + 1 := by omega
            have hzb : decide ((0 : Int) < (m : Int) + 1) = true := decide_eq_true hz
            clear hs2 hb2 hm z1 z2
            go_upto_region 12 with fail
            rw [E5.out]
            go_quiet (fail)
            have hnew := HUP.out nq
            obtain ⟨W6, hW6⟩ : ∃ W6, W5.drewN nq = W6 := ⟨_, rfl⟩
            rw [hW6] at hnew ⊢
            have HNW := Lib.hid (HEND.out A2 m (d - 1) W6 hnew HS2.out.2.2 HS2.out.1 fun hn a2 ha => by
              obtain ⟨a, h1, h2⟩ := HS2.out.2.1 hn a2 ha
              rw [h2]
              exact HAP.out (by simp) a h1)
            clear hW6 hnew y0 y1 z1' z2'
            go_wp2_with fail
            go_roundw
            case rel => exact ⟨i + 1, m, d - 1, A2, ⟨W6, HNW.out.bel⟩, rfl, by omega, by omega, by go_num, by first | rfl | simp, L4, n4, k4, F4, HNW.out⟩
            case measure => simp [intOf]; omega
      · obtain rfl : i = mvs.length := by omega
        have hiz : ¬ (mvs.length : Int) < mvs.length := by omega
        obtain ⟨L, n, k, F, hm⟩ := HM.out
        have HST : Hid (∀ V, Below g.val.heap.size g.val V → Calls Try.prog 15 #[c] V fun e w' => e = .returned (.int .i64 k) ∧ Below V.heap.size V w') := fun V hV => K.steps V c k C (by have := hm.le; omega) (K.coff hm.ct (.of_below (F := fun _ => False) hV) fun _ _ => id)
        have hkm : (k : Int) ≤ most := by have := hm.le; omega
        clear hm
        go_wp2_with fail
        go_at_call 9
        refine (HFX.out _).mono ?_
        rintro e w5 ⟨rfl, hb⟩
        have HB5 := Lib.hid hb
        clear hb
        go_wp2_with fail
        go_at_call 15
        refine (HST.out _ HB5.out).mono ?_
        rintro e w6 ⟨rfl, hb⟩
        have HB6 := Lib.hid (g.ok.trans ((HB5.out.trans (hb.mono HB5.out.size)).mono g.size))
        clear hb
        go_wp2_with fail
        go_ret
        exact ⟨by first | rfl | simp [hkm], HB6.out⟩
  all_goals
    clear hbb
    go_wp2_with fail
    go_at_call 9
    refine (HFX.out _).mono ?_
    rintro e w2 ⟨rfl, hb⟩
    have HB2 := Lib.hid (HB1.out.trans (hb.mono HB1.out.size))
    clear hb
    go_wp2_with fail
    go_ret
    exact ⟨rfl, HB2.out⟩
end Go.Proofs.Ytgmcacmdiiogmaa
end
