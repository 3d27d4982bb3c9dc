/- Contract of the document's hours: the minutes of a window that are worked. -/
import Derived.Test.YtkfmigpdmolmaaaHW2
import Derived.Test.YtkfmigpdmolmaaaHMath2
import Derived.Test.YtkfmigpdmolmaaaSW4
import Derived.Test.YtkfmigpdmolmaaaOff
import Derived.Deep.AppendLies
namespace Go.Proofs.Ytkfmigpdmolmaaa
open Go.ChangeShapes Go.WideShapes Go.ChangeAt Go.RowKit Go.Joins Hr Zn Sp

/-- A row is handed back that has just these minutes of a window. -/
def RetW (a b : Int) (p : Int → Bool) (w : World) (e : Ending) (w' : World) : Prop := ∃ l, RetS l w e w' ∧ form l ∧ ∀ x, has l x ↔ a ≤ x ∧ x < b ∧ p x = true
def opB (o : Bool) (q : Int → Prop) (a m f : Int) (l : List Spn) : Prop := if o then OpnR q a m f l else ShutR q a m l

set_option maxRecDepth 100000 in
set_option maxHeartbeats 4000000 in
theorem rspans12_no (z : Z) (A : Option Addr) (c : Nat) (h : H) (A1 A2 : Option Addr) (c1 c2 : Nat) (a b : Int) (w : World) (hm : ¬ (Hr.mayH h ∧ Zn.mayP z)) (hzw : ZWf z) (hz : ZAt w A z) (hs : HAt w h A1 A2 c1 c2) :
    Calls Try.prog 15 #[.agg #[.int .i64 z.base, .slice A z.n c], .agg #[.slice A1 h.shifts.length c1, .slice A2 h.off.length c2], .agg #[.int .i64 a, .int .i64 b]] w (RetS [] w) := by
  obtain ⟨W1, hW1⟩ : ∃ W1, (((w.alloc (.cells #[.int .i64 z.base, .slice A z.n c] 24)).alloc (.cells #[.slice A1 h.shifts.length c1, .slice A2 h.off.length c2] 28)).alloc (.cells #[.int .i64 a, .int .i64 b] 30)).alloc (.cells #[] 30) = W1 := ⟨_, rfl⟩
  have hW0 : Below w.heap.size w W1 := by rw [← hW1]; exact ((((Below.refl _ _).alloc (Nat.le_refl _) _).alloc (by simp) _).alloc (by simp; omega) _).alloc (by simp; omega) _
  have hZ0 : ∀ G : Gr W1, G.val.cell? ⟨w.heap.size, 0, none⟩ = some (.int .i64 z.base) ∧ G.val.cell? ⟨w.heap.size, 1, none⟩ = some (.slice A z.n c) ∧ G.val.cell? ⟨w.heap.size + 1, 0, none⟩ = some (.slice A1 h.shifts.length c1) ∧ G.val.cell? ⟨w.heap.size + 1, 1, none⟩ = some (.slice A2 h.off.length c2) := fun G => by
    refine ⟨cell_old ?_ G.ok, cell_old ?_ G.ok, cell_old ?_ G.ok, cell_old ?_ G.ok⟩
    all_goals (rw [← hW1]; simp [go_sem])
  have HM := Lib.hid (rmay12_any h A1 A2 c1 c2 W1 (hs.below hW0))
  have HZ := Lib.hid (fun G : Gr W1 => rzmay_any G.val A z c hzw (hz.below (hW0.trans (G.ok.mono hW0.size))))
  have HZ0 := Lib.hid hZ0
  have E1 := Lib.hid hW1
  have HW0 := Lib.hid hW0
  obtain ⟨k1, k2, k3, k4⟩ := hZ0 ⟨W1, Below.refl _ _⟩
  simp only at k1 k2 k3 k4
  have hways : mayHB h = false ∨ mayHB h = true ∧ Zn.mayB z = false := by
    by_cases q : Hr.mayH h
    · exact .inr ⟨may_yes q, Zn.may_no.2 fun p => hm ⟨q, p⟩⟩
    · exact .inl (may_no q)
  clear hm hz hs hW1 hW0 hZ0
  generalize mayHB h = b1 at *
  generalize Zn.mayB z = b2 at *
  rcases hways with rfl | ⟨rfl, rfl⟩
  · go_enter Try.func15, Try.ntmps15
    go_upto_region 2 with fail
    rw [E1.out]
    go_wp2_with fail
    go_at_call 11
    refine HM.out.mono ?_
    rintro e w2 ⟨rfl, hb⟩
    go_wp2_with fail
    go_ret
    exact ⟨some ⟨w.heap.size + 3, 0, none⟩, 0, rfl, ⟨Nat.le_refl _, Nat.zero_le _, (fun h => by cases h), fun h => absurd h (by simp [sv])⟩, HW0.out.trans (hb.mono HW0.out.size)⟩
  · go_enter Try.func15, Try.ntmps15
    go_upto_region 2 with fail
    rw [E1.out]
    go_wp2_with fail
    go_at_call 11
    refine HM.out.mono ?_
    rintro e w2 ⟨rfl, hb⟩
    obtain ⟨g, rfl⟩ := Gr.of hb
    clear k1 k2 k3 k4 hb
    obtain ⟨k1, k2, k3, k4⟩ := HZ0.out g
    go_wp2_with fail
    go_at_call 13
    refine (HZ.out g).mono ?_
    rintro e w3 ⟨rfl, hb⟩
    obtain ⟨g3, rfl⟩ := g.on hb
    go_wp2_with fail
    go_ret
    exact ⟨some ⟨w.heap.size + 3, 0, none⟩, 0, rfl, ⟨Nat.le_refl _, Nat.zero_le _, (fun h => by cases h), fun h => absurd h (by simp [sv])⟩, HW0.out.trans (g3.ok.mono HW0.out.size)⟩

set_option maxRecDepth 100000 in
set_option maxHeartbeats 8000000 in
theorem rspans12_yes (z : Z) (A : Option Addr) (c : Nat) (h : H) (A1 A2 : Option Addr) (c1 c2 : Nat) (a b : Int) (w : World) (hm : Hr.mayH h) (hzm : Zn.mayP z) (hzw : ZWf z) (ha : -4611686018427387904 ≤ a ∧ a ≤ 4611686018427387904) (hb : -4611686018427387904 ≤ b ∧ b ≤ 4611686018427387904) (hlen : b - a ≤ 2000000) (hz : ZAt w A z) (hs : HAt w h A1 A2 c1 c2) :
    Calls Try.prog 15 #[.agg #[.int .i64 z.base, .slice A z.n c], .agg #[.slice A1 h.shifts.length c1, .slice A2 h.off.length c2], .agg #[.int .i64 a, .int .i64 b]] w (RetW a b (worksB h (Zn.off z)) w) := by
  obtain ⟨i0, hi0, hq0, hq1, hq2⟩ := info_parts span_info
  obtain ⟨W3, hW3⟩ : ∃ W3, ((w.alloc (.cells #[.int .i64 z.base, .slice A z.n c] 24)).alloc (.cells #[.slice A1 h.shifts.length c1, .slice A2 h.off.length c2] 28)).alloc (.cells #[.int .i64 a, .int .i64 b] 30) = W3 := ⟨_, rfl⟩
  have hsz : W3.heap.size = w.heap.size + 3 := by rw [← hW3]; simp
  have hW0 : Below w.heap.size w W3 := by rw [← hW3]; exact (((Below.refl _ _).alloc (Nat.le_refl _) _).alloc (by simp) _).alloc (by simp; omega) _
  have hZ0 : ∀ G : Gr W3, G.val.cell? ⟨w.heap.size, 0, none⟩ = some (.int .i64 z.base) ∧ G.val.cell? ⟨w.heap.size, 1, none⟩ = some (.slice A z.n c) ∧ G.val.cell? ⟨w.heap.size + 1, 0, none⟩ = some (.slice A1 h.shifts.length c1) ∧ G.val.cell? ⟨w.heap.size + 1, 1, none⟩ = some (.slice A2 h.off.length c2) ∧ G.val.cell? ⟨w.heap.size + 2, 0, none⟩ = some (.int .i64 a) ∧ G.val.cell? ⟨w.heap.size + 2, 1, none⟩ = some (.int .i64 b) := fun G => by
    refine ⟨cell_old ?_ G.ok, cell_old ?_ G.ok, cell_old ?_ G.ok, cell_old ?_ G.ok, cell_old ?_ G.ok, cell_old ?_ G.ok⟩
    all_goals (rw [← hW3]; simp [go_sem])
  have HWG : Hid (∀ G : Gr W3, Below w.heap.size w G.val) := fun G => hW0.trans (G.ok.mono hW0.size)
  have hMay : ∀ G : Gr W3, Calls Try.prog 11 #[.agg #[.slice A1 h.shifts.length c1, .slice A2 h.off.length c2]] G.val fun e w' => e = .returned (.bool true) ∧ Below G.val.heap.size G.val w' := fun G => by
    have := rmay12_any h A1 A2 c1 c2 G.val (hs.below (HWG.out G))
    rwa [may_yes hm] at this
  have hZMay : ∀ G : Gr W3, Calls Try.prog 13 #[.agg #[.int .i64 z.base, .slice A z.n c]] G.val fun e w' => e = .returned (.bool true) ∧ Below G.val.heap.size G.val w' := fun G => by
    have := rzmay_any G.val A z c hzw (hz.below (HWG.out G))
    rwa [Zn.may_iff.2 hzm] at this
  have HM := Lib.hid hMay
  have HZ := Lib.hid hZMay
  obtain ⟨p, hp⟩ : ∃ p, worksB h (Zn.off z) = p := ⟨_, rfl⟩
  rw [hp]
  have HWk : Hid (∀ (G : Gr W3) (u : Int), -9223372036854775808 ≤ u ∧ u ≤ 9223372036854775807 → Calls Try.prog 17 #[.agg #[.int .i64 z.base, .slice A z.n c], .agg #[.slice A1 h.shifts.length c1, .slice A2 h.off.length c2], .int .i64 u] G.val fun e w' => e = .returned (.bool (p u)) ∧ Below G.val.heap.size G.val w') := fun G u hu => by
    rw [← hp]; exact rworks_any z A c h A1 A2 c1 c2 u G.val hu hm hzm (hz.below (HWG.out G)) (hs.below (HWG.out G))
  have HZ0 := Lib.hid hZ0
  have hO0 := World.ownsRow_made (base := W3.heap.size) (e := 30) (size := 2) W3 #[] 0 (Nat.le_refl _) (by decide) rfl
  have hG0 : ∃ G : Gr W3, W3.alloc (.cells #[] 30) = G.val := ⟨⟨_, (Below.refl _ _).alloc (Nat.le_refl _) _⟩, rfl⟩
  obtain ⟨G0, hG0⟩ := hG0
  rw [hG0] at hO0
  have HO0 := Lib.hid hO0
  have E1 : Hid ((((w.alloc (.cells #[.int .i64 z.base, .slice A z.n c] 24)).alloc (.cells #[.slice A1 h.shifts.length c1, .slice A2 h.off.length c2] 28)).alloc (.cells #[.int .i64 a, .int .i64 b] 30)).alloc (.cells #[] 30) = G0.val) := by show _ = _; rw [hW3, hG0]
  have HSZ := Lib.hid hsz
  obtain ⟨k1, k2, k3, k4, k5, k6⟩ := hZ0 G0
  clear hm hz hs hW3 hW0 hZ0 hMay hZMay hp hO0 hG0 hsz hzm hzw
  go_enter Try.func15, Try.ntmps15
  go_upto_region 2 with fail
  rw [E1.out]
  go_wp2_with fail
  go_at_call 11
  refine (HM.out G0).mono ?_
  rintro e w2 ⟨rfl, hb2⟩
  have HB2 := Lib.hid hb2
  obtain ⟨g, hg⟩ := G0.on hb2
  subst hg
  clear k1 k2 k3 k4 k5 k6 hb2
  obtain ⟨k1, k2, k3, k4, k5, k6⟩ := HZ0.out g
  go_wp2_with fail
  go_at_call 13
  refine (HZ.out g).mono ?_
  rintro e w3 ⟨rfl, hb3⟩
  have HO1 : Hid (w3.ownsRow W3.heap.size 30 2 (.slice (some ⟨w.heap.size + 3, 0, none⟩) 0 0) 0 (sv [])) := by
    show World.ownsRow _ _ _ _ _ _ _
    have := own_off (own_off HO0.out (F := fun _ => False) (.of_below HB2.out) (fun _ _ => id)) (F := fun _ => False) (.of_below hb3) (fun _ _ => id)
    rw [← HSZ.out]; exact this
  obtain ⟨g, rfl⟩ := g.on hb3
  clear k1 k2 k3 k4 k5 k6 hb3 HB2 HO0
  obtain ⟨k1, k2, k3, k4, k5, k6⟩ := HZ0.out g
  go_wp2_with fail
  go_loopw [7, 8, 9, 10] (fun s7 s8 s9 s10 wr => ∃ (m f : Int) (o : Bool) (l : List Spn) (gb cap k : Nat) (g : Gr W3), wr = g.val ∧ s10 = .int .i64 m ∧ s9 = .int .i64 f ∧ s8 = .bool o ∧ s7 = .slice (some ⟨gb, 0, none⟩) k cap ∧ a ≤ m ∧ (m ≤ b + 1 ∨ m = a) ∧ (o = true → m ≤ b) ∧ (k : Int) ≤ m - a ∧ Hid (g.val.ownsRow W3.heap.size 30 2 (.slice (some ⟨gb, 0, none⟩) k cap) k (sv l)) ∧ Hid (opB o (fun x => x < b ∧ p x = true) a m f l)) (fun _ _ _ s10 _ => (b + 1 - intOf s10).toNat)
  case atStart => exact ⟨a, 0, false, [], w.heap.size + 3, 0, 0, g, rfl, rfl, rfl, rfl, rfl, Int.le_refl _, .inr rfl, (fun h => by cases h), by omega, HO1.out, ShutR.start _ _⟩
  case round =>
    obtain ⟨m, f, o, l, gb, cap, k, g, rfl, rfl, rfl, rfl, rfl, ham, hmb, hob, hkm, HOW, HI⟩ := hrel
    clear k1 k2 k3 k4 k5 k6
    obtain ⟨k1, k2, k3, k4, k5, k6⟩ := HZ0.out g
    by_cases hle : m ≤ b
    · have hw1 : IntKind.i64.wrap (m + 1) = m + 1 := by rw [IntKind.wrap_i64]; omega
      by_cases hlt : m < b
      · have hltb : decide (m < b) = true := decide_eq_true hlt
        have HC := Lib.hid (HWk.out g m (by omega))
        cases hpm : p m with
        | true =>
          rw [hpm] at HC
          have hq : (fun x => x < b ∧ p x = true) m := ⟨hlt, hpm⟩
          cases o with
          | false =>
            have HI2 : Hid (opB true (fun x => x < b ∧ p x = true) a (m + 1) m l) := ShutR.opens HI.out ham hq
            go_wp2_with fail
            go_at_call 17
            refine HC.out.mono ?_
            rintro e w4 ⟨rfl, hb4⟩
            have HOW2 := Lib.hid (own_off HOW.out (F := fun _ => False) (.of_below hb4) (fun _ _ => id))
            obtain ⟨g2, rfl⟩ := g.on hb4
            clear hb4 k1 k2 k3 k4 k5 k6
            obtain ⟨k1, k2, k3, k4, k5, k6⟩ := HZ0.out g2
            go_wp2_with fail
            go_roundw
            case rel => exact ⟨m + 1, m, true, l, gb, cap, k, g2, rfl, by go_num, rfl, rfl, rfl, by omega, .inl (by omega), fun _ => by omega, by omega, HOW2.out, HI2.out⟩
            case measure => simp [intOf]; omega
          | true =>
            have HI2 : Hid (opB true (fun x => x < b ∧ p x = true) a (m + 1) f l) := OpnR.goes HI.out ham hq
            go_wp2_with fail
            go_at_call 17
            refine HC.out.mono ?_
            rintro e w4 ⟨rfl, hb4⟩
            have HOW2 := Lib.hid (own_off HOW.out (F := fun _ => False) (.of_below hb4) (fun _ _ => id))
            obtain ⟨g2, rfl⟩ := g.on hb4
            clear hb4 k1 k2 k3 k4 k5 k6
            obtain ⟨k1, k2, k3, k4, k5, k6⟩ := HZ0.out g2
            go_wp2_with fail
            go_roundw
            case rel => exact ⟨m + 1, f, true, l, gb, cap, k, g2, rfl, by go_num, rfl, rfl, rfl, by omega, .inl (by omega), fun _ => by omega, by omega, HOW2.out, HI2.out⟩
            case measure => simp [intOf]; omega
        | false =>
          rw [hpm] at HC
          have hq : ¬ (fun x => x < b ∧ p x = true) m := fun h => by have := h.2; rw [hpm] at this; cases this
          cases o with
          | false =>
            have HI2 : Hid (opB false (fun x => x < b ∧ p x = true) a (m + 1) f l) := ShutR.stays HI.out hq
            go_wp2_with fail
            go_at_call 17
            refine HC.out.mono ?_
            rintro e w4 ⟨rfl, hb4⟩
            have HOW2 := Lib.hid (own_off HOW.out (F := fun _ => False) (.of_below hb4) (fun _ _ => id))
            obtain ⟨g2, rfl⟩ := g.on hb4
            clear hb4 k1 k2 k3 k4 k5 k6
            obtain ⟨k1, k2, k3, k4, k5, k6⟩ := HZ0.out g2
            go_wp2_with fail
            go_roundw
            case rel => exact ⟨m + 1, f, false, l, gb, cap, k, g2, rfl, by go_num, rfl, rfl, rfl, by omega, .inl (by omega), (fun h => by cases h), by omega, HOW2.out, HI2.out⟩
            case measure => simp [intOf]; omega
          | true =>
            have HI2 : Hid (opB false (fun x => x < b ∧ p x = true) a (m + 1) f (l ++ [(f, m)])) := OpnR.shuts HI.out hq
            go_wp2_with fail
            go_at_call 17
            refine HC.out.mono ?_
            rintro e w4 ⟨rfl, hb4⟩
            have HOW2 := Lib.hid (own_off HOW.out (F := fun _ => False) (.of_below hb4) (fun _ _ => id))
            obtain ⟨g2, rfl⟩ := g.on hb4
            clear hb4 k1 k2 k3 k4 k5 k6
            obtain ⟨k1, k2, k3, k4, k5, k6⟩ := HZ0.out g2
            have hmx : k + 1 ≤ maxLen := by unfold maxLen; omega
            have hby : (k + 1) * 16 ≤ 140737488355328 := by omega
            have HGS := Lib.hid g2.size
            go_wp2_with (refine wpList_append_lies _ rfl _ _ _ (by rfl) W3.heap.size 30 i0 _ 2 16 Try.underlying34 hi0 hq0 hq1 hq2 rfl (by decide) (.slice (some ⟨gb, 0, none⟩) k cap) k _ (by rfl) (HOW2.out.alloc _) ⟨g2.val.heap.size, 0, none⟩ 1 1 [.int .i64 f, .int .i64 m] (by rfl) (by rfl) (World.news_of_block (cs := #[.int .i64 f, .int .i64 m]) (t := 30) (fr := (0, 0)) (heap_alloc_new _ _)) (by simp [Value.oneCell']) (Nat.lt_succ_self 0) hmx hby (by simp; have := HGS.out; omega) _ rfl ?_; intro gg cap2 w5 hown3 hgr3 hat3 hlt3)
            have hB3 : Below W3.heap.size W3 w5 := (g2.ok.alloc HGS.out _).grown hgr3 (by simp; have := HGS.out; omega) (fun kk hk => (HOW2.out.lt kk hk).1)
            have HO3 : Hid (w5.ownsRow W3.heap.size 30 2 (.slice (some ⟨gg, 0, none⟩) (k + 1) cap2) (k + 1) (sv (l ++ [(f, m)]))) := by show World.ownsRow _ _ _ _ _ _ _; rw [sv_app]; exact hown3
            obtain ⟨g3, rfl⟩ := Gr.of hB3
            clear hown3 hgr3 hat3 hB3
            go_wp2_with fail
            go_roundw
            case rel => exact ⟨m + 1, f, false, l ++ [(f, m)], gg, cap2, k + 1, g3, rfl, by go_num, rfl, rfl, rfl, by omega, .inl (by omega), (fun h => by cases h), by omega, HO3.out, HI2.out⟩
            case measure => simp [intOf]; omega
      · have hltb : decide (m < b) = false := decide_eq_false hlt
        have hq : ¬ (fun x => x < b ∧ p x = true) m := fun h => hlt h.1
        cases o with
        | false =>
          have HI2 : Hid (opB false (fun x => x < b ∧ p x = true) a (m + 1) f l) := ShutR.stays HI.out hq
          go_wp2_with fail
          go_roundw
          case rel => exact ⟨m + 1, f, false, l, gb, cap, k, g, rfl, by go_num, rfl, rfl, rfl, by omega, .inl (by omega), (fun h => by cases h), by omega, HOW.out, HI2.out⟩
          case measure => simp [intOf]; omega
        | true =>
          have HI2 : Hid (opB false (fun x => x < b ∧ p x = true) a (m + 1) f (l ++ [(f, m)])) := OpnR.shuts HI.out hq
          have hmx : k + 1 ≤ maxLen := by unfold maxLen; omega
          have hby : (k + 1) * 16 ≤ 140737488355328 := by omega
          have HGS := Lib.hid g.size
          go_wp2_with (refine wpList_append_lies _ rfl _ _ _ (by rfl) W3.heap.size 30 i0 _ 2 16 Try.underlying34 hi0 hq0 hq1 hq2 rfl (by decide) (.slice (some ⟨gb, 0, none⟩) k cap) k _ (by rfl) (HOW.out.alloc _) ⟨g.val.heap.size, 0, none⟩ 1 1 [.int .i64 f, .int .i64 m] (by rfl) (by rfl) (World.news_of_block (cs := #[.int .i64 f, .int .i64 m]) (t := 30) (fr := (0, 0)) (heap_alloc_new _ _)) (by simp [Value.oneCell']) (Nat.lt_succ_self 0) hmx hby (by simp; have := HGS.out; omega) _ rfl ?_; intro gg cap2 w5 hown3 hgr3 hat3 hlt3)
          have hB3 : Below W3.heap.size W3 w5 := (g.ok.alloc HGS.out _).grown hgr3 (by simp; have := HGS.out; omega) (fun kk hk => (HOW.out.lt kk hk).1)
          have HO3 : Hid (w5.ownsRow W3.heap.size 30 2 (.slice (some ⟨gg, 0, none⟩) (k + 1) cap2) (k + 1) (sv (l ++ [(f, m)]))) := by show World.ownsRow _ _ _ _ _ _ _; rw [sv_app]; exact hown3
          obtain ⟨g3, rfl⟩ := Gr.of hB3
          clear hown3 hgr3 hat3 hB3
          go_wp2_with fail
          go_roundw
          case rel => exact ⟨m + 1, f, false, l ++ [(f, m)], gg, cap2, k + 1, g3, rfl, by go_num, rfl, rfl, rfl, by omega, .inl (by omega), (fun h => by cases h), by omega, HO3.out, HI2.out⟩
          case measure => simp [intOf]; omega
    · have hE : o = false := by cases o with
        | false => rfl
        | true => exact absurd (hob rfl) hle
      subst hE
      have HS : Hid (ShutR (fun x => x < b ∧ p x = true) a m l) := HI.out
      have hk2 : k = l.length := by have := HOW.out.1; rw [sv_len] at this; omega
      subst hk2
      have HOS := Lib.hid (Sl.own_ HOW.out)
      go_wp2_with fail
      go_ret
      refine ⟨l, ⟨_, _, rfl, HOS.out, HWG.out g⟩, HS.out.form, fun x => ?_⟩
      rw [HS.out.has]
      constructor
      · rintro ⟨h1, _, h2, h3⟩; exact ⟨h1, h2, h3⟩
      · rintro ⟨h1, h2, h3⟩; exact ⟨h1, by omega, h2, h3⟩
end Go.Proofs.Ytkfmigpdmolmaaa
