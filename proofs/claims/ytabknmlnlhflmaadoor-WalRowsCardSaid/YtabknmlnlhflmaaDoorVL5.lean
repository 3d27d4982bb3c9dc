/- The laws' walks: does a log have just what it should have? -/
import Derived.Test.YtabknmlnlhflmaaDoorVL3
import Derived.Deep.CutRange
namespace Go.Proofs.YtabknmlnlhflmaaDoor
open Go.ChangeShapes Go.WideShapes Go.ChangeAt Go.RowKit Go.Joins Dm Fr Vl

set_option maxRecDepth 100000 in
set_option maxHeartbeats 4000000 in
theorem same_any (P D gen : Nat) (lg : Lg) (K : Nat → Prop) (s : List UInt8) (ls : List (List UInt8)) (hgen : lg.gen = gen) (hs : lg.snap = s) (hls : lg.recs = ls) (A : Option Addr) (c : Nat) (hsn : s.length ≤ 140737488355328) (hrc : ∀ p ∈ ls, p.length ≤ 140737488355328) (w : World) (hl : LogAt w P D lg K) (hS : Sl w A ls.length c (strV ls)) :
    Calls Tryd.prog 13 #[.agg #[.int .u32 gen, .string ⟨s.toArray⟩, .slice A ls.length c], .pointer (some ⟨P, 0, none⟩)] w fun e w' => e = .returned (.bool true) ∧ Below w.heap.size w w' := by
  have hn : ls.length ≤ 131072 := by have := hl.ok.half; have := hl.ok.end_; have := hl.ok.many; rw [hls] at this; omega
  obtain ⟨W1, hW1⟩ : ∃ W1, w.alloc (.cells #[.int .u32 gen, .string ⟨s.toArray⟩, .slice A ls.length c] 39) = W1 := ⟨_, rfl⟩
  have b1 : Below w.heap.size w W1 := by rw [← hW1]; exact (Below.refl _ w).alloc (Nat.le_refl _) _
  have k0 : W1.cell? ⟨w.heap.size, 0, none⟩ = some (.int .u32 gen) := by rw [← hW1]; simp [go_sem]
  have k1 : W1.cell? ⟨w.heap.size, 1, none⟩ = some (.string ⟨s.toArray⟩) := by rw [← hW1]; simp [go_sem]
  have k2 : W1.cell? ⟨w.heap.size, 2, none⟩ = some (.slice A ls.length c) := by rw [← hW1]; simp [go_sem]
  have HRE := Lib.hid (Records_any P D lg K (by rw [hls]; exact hrc) W1 (hl.below b1))
  rw [hls] at HRE
  have HL1 := Lib.hid (hl.below b1)
  have HSL := Lib.hid (hS.below b1 (Nat.le_refl _))
  have HKK : Hid (∀ w', Below W1.heap.size W1 w' → w'.cell? ⟨w.heap.size, 0, none⟩ = some (.int .u32 gen) ∧ w'.cell? ⟨w.heap.size, 1, none⟩ = some (.string ⟨s.toArray⟩) ∧ w'.cell? ⟨w.heap.size, 2, none⟩ = some (.slice A ls.length c)) := fun w' h => ⟨cell_old k0 h, cell_old k1 h, cell_old k2 h⟩
  have HB1 := Lib.hid b1
  have HW := Lib.hid hW1
  have HGEN := Lib.hid hgen
  have HSE := Lib.hid hs
  have HSN := Lib.hid hsn
  clear hl hS b1 k0 k1 k2 hW1 hgen hs hls hsn hrc
  go_enter Tryd.func13, Tryd.ntmps13
  go_upto_region 1 with fail
  rw [HW.out]
  go_wp2_with fail
  go_at_call 14
  refine HRE.out.mono ?_
  rintro e w2 ⟨rfl, hro, hb2⟩
  have HRO := Lib.hid hro
  have HB2 := Lib.hid hb2
  have HL2 := Lib.hid (HL1.out.below hb2)
  have HK2 : Hid (∀ w', Below w2.heap.size w2 w' → w'.cell? ⟨w.heap.size, 0, none⟩ = some (.int .u32 gen) ∧ w'.cell? ⟨w.heap.size, 1, none⟩ = some (.string ⟨s.toArray⟩) ∧ w'.cell? ⟨w.heap.size, 2, none⟩ = some (.slice A ls.length c)) := fun w' h => HKK.out w' (HB2.out.trans (h.mono HB2.out.size))
  have HGE := Lib.hid (Gen_any P D lg K w2.drew (HL2.out.below (drew_below w2)))
  rw [HGEN.out] at HGE
  have HSP := Lib.hid (Snapshot_any P D lg K (by rw [HSE.out]; exact HSN.out) w2.drew (HL2.out.below (drew_below w2)))
  rw [HSE.out] at HSP
  clear hro hb2
  go_upto_region 2 with fail
  go_cut [29] from 30 (fun s29 wx => s29 = .bool false ∧ Hid (Below w2.heap.size w2 wx))
  case first =>
    obtain ⟨x0, x1, x2⟩ := HK2.out _ (drew_below w2)
    go_region_with (first
      | (go_at_call 11; refine HGE.out.mono ?_; rintro e w' ⟨rfl, rfl⟩)
      | (go_at_call 27; refine HSP.out.mono ?_; intro e w3 hret; obtain ⟨A2, c2, rfl, hf⟩ := hret.fresh; have hcv := hf.at_.1.conv c2 Tryd.underlying23 Tryd.underlying5 Tryd.underlying9; obtain ⟨y0, y1, y2⟩ := HK2.out _ ((drew_below w2).trans hf.below)))
    all_goals
      have HF : Hid (Below w2.heap.size w2 w3) := (drew_below w2).trans hf.below
      clear hf hret
      go_wp2_with fail
      go_meet
      case rel => exact ⟨rfl, HF.out⟩
  case rest =>
    obtain ⟨rfl, HBc⟩ := hcut
    have HRc := Lib.hid HRO.out
    go_wp2_with fail
    go_loopw [32] (fun s32 wr => ∃ i : Nat, i ≤ ls.length ∧ s32 = .int .i64 i ∧ Hid (Below w2.heap.size w2 wr)) (fun s32 _ => ls.length - (intOf s32).toNat)
    case atStart => exact ⟨0, Nat.zero_le _, rfl, HBc.out⟩
    case round =>
      obtain ⟨i, hi, rfl, HB⟩ := hrel
      by_cases hlt : i < ls.length
      · have hiz : (i : Int) < ls.length := by omega
        have hw1 : IntKind.i64.wrap ((i : Int) + 1) = i + 1 := by rw [IntKind.wrap_i64]; omega
        obtain ⟨p, hp⟩ : ∃ p, ls[i]? = some p := ⟨_, List.getElem?_eq_getElem hlt⟩
        obtain ⟨cs, hcs, hcn, hrecs⟩ := HRc.out
        obtain ⟨v, hx, hv⟩ := hrecs.at_ hp
        obtain ⟨A3, c3, rfl, h1, h2, h3, h4⟩ := hv
        obtain ⟨b, off, e0, hbl, hcell⟩ := HSL.out.at_ (strV_at hp)
        have hc1 : w2.cell? ⟨W1.heap.size, i, none⟩ = some (.slice A3 p.length c3) := by simp [World.cell?, hcs]; simpa using hx
        have hd1 : Below w2.heap.size w2 wr.drew := HB.out.trans ((drew_below wr).mono HB.out.size)
        have d1 := cell_old hc1 hd1
        have d2 := cell_old hcell (HB2.out.trans (hd1.mono HB2.out.size))
        obtain ⟨f0, f1, f2⟩ := HK2.out _ hd1
        have hba := h4.1.below hd1 (Nat.le_refl _)
        have hcv : ∀ w', BAt w' A3 p → (convert 23 9 (.slice A3 p.length c3)).run Tryd.prog w' = .ok (.string ⟨p.toArray⟩) w' := fun w' h => h.conv c3 Tryd.underlying23 Tryd.underlying5 Tryd.underlying9
        subst e0
        have HX := Lib.hid (And.intro d1 (And.intro d2 (And.intro f2 hba)))
        clear hp hcs hcn hrecs hx h1 h2 h3 h4 hcell hc1
        go_upto_region 7 with fail
        go_cut [45] from 46 to 46 (fun s45 wx => s45 = .bool false ∧ Hid (Below w2.heap.size w2 wx))
        case first =>
          go_region_held3 (fun w' => w'.cell? ⟨W1.heap.size, i, none⟩ = some (.slice A3 p.length c3) ∧ w'.cell? ⟨b, off + i, none⟩ = some (.string ⟨p.toArray⟩) ∧ w'.cell? ⟨w.heap.size, 2, none⟩ = some (.slice (some ⟨b, off, none⟩) ls.length c) ∧ BAt w' A3 p) (exact HX.out) (fail)
          all_goals
            go_wp2_with fail
            go_meet
            case rel => exact ⟨rfl, hd1⟩
        case rest =>
          obtain ⟨rfl, HBB⟩ := hcut
          go_wp2_with fail
          go_roundw
          case rel => exact ⟨i + 1, hlt, by go_num, HBB.out⟩
          case measure => simp [intOf]; omega
      · have hiz : ¬ (i : Int) < ls.length := by omega
        go_wp2_with fail
        go_ret
        exact ⟨rfl, HB1.out.trans ((HB2.out.trans (HB.out.mono HB2.out.size)).mono HB1.out.size)⟩
end Go.Proofs.YtabknmlnlhflmaaDoor
