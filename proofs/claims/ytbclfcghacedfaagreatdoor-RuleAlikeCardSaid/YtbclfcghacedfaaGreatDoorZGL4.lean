import Derived.Test.YtbclfcghacedfaaGreatDoorZGL3
/- The laws' walks: two rules. (Written by gen/gen_gl4.py.) -/
section
namespace Go.Proofs.YtbclfcghacedfaaGreatDoor
open Go.ChangeShapes Go.WideShapes Go.ChangeAt Go.RowKit Go.Joins Qr Ck Sp

def W2 (w : World) (o o2 : Obj) : World := (w.alloc o).alloc o2
theorem W2.below {w : World} {o o2 : Obj} (g : Gr (W2 w o o2)) : Below w.heap.size w g.val := by
  have h : Below w.heap.size w (W2 w o o2) := ((Below.refl _ w).alloc (Nat.le_refl _) o).alloc (by simp) o2
  exact h.trans (g.ok.mono h.size)
theorem text_ways (r : R) (A1 A2 A3 A4 : Option Addr) (c1 c2 c3 c4 : Nat) : ∃ (t : List UInt8) (k : Bool), (k = true → mayP r ∧ t = textT r) ∧ t.length ≤ 100000 ∧ ∀ V : World, RAt V r A1 A2 A3 A4 c1 c2 c3 c4 → Env9 V →
    Calls Tryz.prog 9 #[.agg (rcells r A1 A2 A3 A4 c1 c2 c3 c4)] V fun e w' => e = .returned (.tuple #[.string ⟨t.toArray⟩, .bool k]) ∧ Below V.heap.size V w' := by
  cases hm : mayB r with
  | true => exact ⟨textT r, true, fun _ => ⟨of_decide_eq_true hm, rfl⟩, text_short (of_decide_eq_true hm), fun V h hE => text_yes r A1 A2 A3 A4 c1 c2 c3 c4 V h (of_decide_eq_true hm) hE⟩
  | false => exact ⟨[], false, (fun h => by cases h), Nat.zero_le _, fun V h _ => text_no r A1 A2 A3 A4 c1 c2 c3 c4 V h hm⟩

set_option maxRecDepth 100000 in
set_option maxHeartbeats 8000000 in
theorem ruleAlike_walk (a : R) (A1 A2 A3 A4 : Option Addr) (c1 c2 c3 c4 : Nat) (b : R) (B1 B2 B3 B4 : Option Addr) (d1 d2 d3 d4 : Nat) (w : World) (ha : RAt w a A1 A2 A3 A4 c1 c2 c3 c4) (hb : RAt w b B1 B2 B3 B4 d1 d2 d3 d4) (hE : Env9 w) :
    Calls Tryz.prog 5 #[.agg (rcells a A1 A2 A3 A4 c1 c2 c3 c4), .agg (rcells b B1 B2 B3 B4 d1 d2 d3 d4)] w fun e w' => e = .returned (.bool true) ∧ Below w.heap.size w w' := by
  have HFX := Lib.hid (fun w hE => fixed9_any w hE)
  have HRA : Hid (∀ g : Gr (W2 w (.cells (rcells a A1 A2 A3 A4 c1 c2 c3 c4) 25) (.cells (rcells b B1 B2 B3 B4 d1 d2 d3 d4) 25)), RAt g.val a A1 A2 A3 A4 c1 c2 c3 c4) := fun g => ha.below (W2.below g) (Nat.le_refl _)
  have HRB : Hid (∀ g : Gr (W2 w (.cells (rcells a A1 A2 A3 A4 c1 c2 c3 c4) 25) (.cells (rcells b B1 B2 B3 B4 d1 d2 d3 d4) 25)), RAt g.val b B1 B2 B3 B4 d1 d2 d3 d4) := fun g => hb.below (W2.below g) (Nat.le_refl _)
  have HE : Hid (∀ g : Gr (W2 w (.cells (rcells a A1 A2 A3 A4 c1 c2 c3 c4) 25) (.cells (rcells b B1 B2 B3 B4 d1 d2 d3 d4) 25)), Env9 g.val) := fun g => hE.below (W2.below g)
  have HB : Hid (∀ g : Gr (W2 w (.cells (rcells a A1 A2 A3 A4 c1 c2 c3 c4) 25) (.cells (rcells b B1 B2 B3 B4 d1 d2 d3 d4) 25)), Below w.heap.size w g.val) := fun g => W2.below g
  have HU := Lib.hid (fun (k : Nat) (v : Value) (h : (rcells a A1 A2 A3 A4 c1 c2 c3 c4)[k]? = some v) (g : Gr (W2 w (.cells (rcells a A1 A2 A3 A4 c1 c2 c3 c4) 25) (.cells (rcells b B1 B2 B3 B4 d1 d2 d3 d4) 25))) => (show g.val.cell? ⟨w.heap.size, k, none⟩ = some v from box_at h ⟨g.val, ((Below.refl _ (w.alloc (.cells (rcells a A1 A2 A3 A4 c1 c2 c3 c4) 25))).alloc (Nat.le_refl _) (.cells (rcells b B1 B2 B3 B4 d1 d2 d3 d4) 25)).trans (g.ok.mono (by unfold W2; simp))⟩))
  have HX := Lib.hid (fun (k : Nat) (v : Value) (h : (rcells b B1 B2 B3 B4 d1 d2 d3 d4)[k]? = some v) (g : Gr (W2 w (.cells (rcells a A1 A2 A3 A4 c1 c2 c3 c4) 25) (.cells (rcells b B1 B2 B3 B4 d1 d2 d3 d4) 25))) => (show g.val.cell? ⟨w.heap.size + 1, k, none⟩ = some v by have := box_at (w := w.alloc (.cells (rcells a A1 A2 A3 A4 c1 c2 c3 c4) 25)) h g; simpa using this))
  have HGA := Lib.hid (fun (V : World) (h : RAt V a A1 A2 A3 A4 c1 c2 c3 c4) => rgreat_any a A1 A2 A3 A4 c1 c2 c3 c4 V h)
  have HGB := Lib.hid (fun (V : World) (h : RAt V b B1 B2 B3 B4 d1 d2 d3 d4) => rgreat_any b B1 B2 B3 B4 d1 d2 d3 d4 V h)
  obtain ⟨ga, hga⟩ : ∃ q, greatB a = q := ⟨_, rfl⟩
  obtain ⟨gb, hgb⟩ : ∃ q, greatB b = q := ⟨_, rfl⟩
  rw [hga] at HGA
  rw [hgb] at HGB
  obtain ⟨ta, ka, fa, la, HTA⟩ := text_ways a A1 A2 A3 A4 c1 c2 c3 c4
  obtain ⟨tb, kb, fb, lb, HTB⟩ := text_ways b B1 B2 B3 B4 d1 d2 d3 d4
  have HTA := Lib.hid HTA
  have HTB := Lib.hid HTB
  have HS := Lib.hid (fun (V : World) (h : RAt V a A1 A2 A3 A4 c1 c2 c3 c4) (h2 : RAt V b B1 B2 B3 B4 d1 d2 d3 d4) => same9_any a b A1 A2 A3 A4 c1 c2 c3 c4 B1 B2 B3 B4 d1 d2 d3 d4 V h h2)
  have HRS := Lib.hid (fun (V : World) (h : RAt V a A1 A2 A3 A4 c1 c2 c3 c4) (h2 : RAt V b B1 B2 B3 B4 d1 d2 d3 d4) => rsame9_any a b A1 A2 A3 A4 c1 c2 c3 c4 B1 B2 B3 B4 d1 d2 d3 d4 V h h2)
  have hk : Hid (ka = true → kb = true → (ta == tb) = sameB a b) := fun h1 h2 => by
    obtain ⟨ma, rfl⟩ := fa h1
    obtain ⟨mb, rfl⟩ := fb h2
    by_cases e : a = b
    · subst e
      rw [beq_self_eq_true]; exact (decide_eq_true (sameP_iff.2 rfl)).symm
    · rw [beq_eq_false_iff_ne.2 (fun h => e (textT_inj ma mb h))]; exact (decide_eq_false (fun h => e (sameP_iff.1 h))).symm
  generalize sameB a b = s at *
  clear ha hb hE hga hgb fa fb
  have HW : Hid (((w.alloc (.cells (rcells a A1 A2 A3 A4 c1 c2 c3 c4) 25)).alloc (.cells (rcells b B1 B2 B3 B4 d1 d2 d3 d4) 25)) = W2 w (.cells (rcells a A1 A2 A3 A4 c1 c2 c3 c4) 25) (.cells (rcells b B1 B2 B3 B4 d1 d2 d3 d4) 25)) := rfl
  generalize W2 w (.cells (rcells a A1 A2 A3 A4 c1 c2 c3 c4) 25) (.cells (rcells b B1 B2 B3 B4 d1 d2 d3 d4) 25) = W at *
  unfold rcells at *

  cases ga with
  | true =>
    go_enter Tryz.func5, Tryz.ntmps5
    go_upto_region 1 with fail
    rw [HW.out]
    have u0 := HU.out 0 _ rfl ⟨W, Below.refl _ _⟩
    have u1 := HU.out 1 _ rfl ⟨W, Below.refl _ _⟩
    have u2 := HU.out 2 _ rfl ⟨W, Below.refl _ _⟩
    have u3 := HU.out 3 _ rfl ⟨W, Below.refl _ _⟩
    have u4 := HU.out 4 _ rfl ⟨W, Below.refl _ _⟩
    have u5 := HU.out 5 _ rfl ⟨W, Below.refl _ _⟩
    have u6 := HU.out 6 _ rfl ⟨W, Below.refl _ _⟩
    have u7 := HU.out 7 _ rfl ⟨W, Below.refl _ _⟩
    have u8 := HU.out 8 _ rfl ⟨W, Below.refl _ _⟩
    have x0 := HX.out 0 _ rfl ⟨W, Below.refl _ _⟩
    have x1 := HX.out 1 _ rfl ⟨W, Below.refl _ _⟩
    have x2 := HX.out 2 _ rfl ⟨W, Below.refl _ _⟩
    have x3 := HX.out 3 _ rfl ⟨W, Below.refl _ _⟩
    have x4 := HX.out 4 _ rfl ⟨W, Below.refl _ _⟩
    have x5 := HX.out 5 _ rfl ⟨W, Below.refl _ _⟩
    have x6 := HX.out 6 _ rfl ⟨W, Below.refl _ _⟩
    have x7 := HX.out 7 _ rfl ⟨W, Below.refl _ _⟩
    have x8 := HX.out 8 _ rfl ⟨W, Below.refl _ _⟩
    go_wp2_with fail
    go_at_call 7
    refine (HGA.out _ (HRA.out ⟨W, Below.refl _ _⟩)).mono ?_
    rintro e w1 ⟨rfl, hb⟩
    obtain ⟨g, rfl⟩ := Gr.of hb
    clear hb
    clear u0 u1 u2 u3 u4 u5 u6 u7 u8 x0 x1 x2 x3 x4 x5 x6 x7 x8
    go_wp2_with fail
    go_at_call 8
    refine (HFX.out _ (HE.out g)).mono ?_
    rintro e w1 ⟨rfl, hb⟩
    obtain ⟨g, rfl⟩ := g.on hb
    clear hb
    go_wp2_with fail
    go_ret
    exact ⟨rfl, HB.out g⟩
  | false =>
  go_enter Tryz.func5, Tryz.ntmps5
  go_upto_region 1 with fail
  rw [HW.out]
  have u0 := HU.out 0 _ rfl ⟨W, Below.refl _ _⟩
  have u1 := HU.out 1 _ rfl ⟨W, Below.refl _ _⟩
  have u2 := HU.out 2 _ rfl ⟨W, Below.refl _ _⟩
  have u3 := HU.out 3 _ rfl ⟨W, Below.refl _ _⟩
  have u4 := HU.out 4 _ rfl ⟨W, Below.refl _ _⟩
  have u5 := HU.out 5 _ rfl ⟨W, Below.refl _ _⟩
  have u6 := HU.out 6 _ rfl ⟨W, Below.refl _ _⟩
  have u7 := HU.out 7 _ rfl ⟨W, Below.refl _ _⟩
  have u8 := HU.out 8 _ rfl ⟨W, Below.refl _ _⟩
  have x0 := HX.out 0 _ rfl ⟨W, Below.refl _ _⟩
  have x1 := HX.out 1 _ rfl ⟨W, Below.refl _ _⟩
  have x2 := HX.out 2 _ rfl ⟨W, Below.refl _ _⟩
  have x3 := HX.out 3 _ rfl ⟨W, Below.refl _ _⟩
  have x4 := HX.out 4 _ rfl ⟨W, Below.refl _ _⟩
  have x5 := HX.out 5 _ rfl ⟨W, Below.refl _ _⟩
  have x6 := HX.out 6 _ rfl ⟨W, Below.refl _ _⟩
  have x7 := HX.out 7 _ rfl ⟨W, Below.refl _ _⟩
  have x8 := HX.out 8 _ rfl ⟨W, Below.refl _ _⟩
  go_wp2_with fail
  go_at_call 7
  refine (HGA.out _ (HRA.out ⟨W, Below.refl _ _⟩)).mono ?_
  rintro e w1 ⟨rfl, hb⟩
  obtain ⟨g, rfl⟩ := Gr.of hb
  clear hb
  clear u0 u1 u2 u3 u4 u5 u6 u7 u8 x0 x1 x2 x3 x4 x5 x6 x7 x8
  have u0 := HU.out 0 _ rfl g
  have u1 := HU.out 1 _ rfl g
  have u2 := HU.out 2 _ rfl g
  have u3 := HU.out 3 _ rfl g
  have u4 := HU.out 4 _ rfl g
  have u5 := HU.out 5 _ rfl g
  have u6 := HU.out 6 _ rfl g
  have u7 := HU.out 7 _ rfl g
  have u8 := HU.out 8 _ rfl g
  have x0 := HX.out 0 _ rfl g
  have x1 := HX.out 1 _ rfl g
  have x2 := HX.out 2 _ rfl g
  have x3 := HX.out 3 _ rfl g
  have x4 := HX.out 4 _ rfl g
  have x5 := HX.out 5 _ rfl g
  have x6 := HX.out 6 _ rfl g
  have x7 := HX.out 7 _ rfl g
  have x8 := HX.out 8 _ rfl g
  go_wp2_with fail
  go_at_call 7
  refine (HGB.out _ (HRB.out g)).mono ?_
  rintro e w1 ⟨rfl, hb⟩
  obtain ⟨g, rfl⟩ := g.on hb
  clear hb
  clear u0 u1 u2 u3 u4 u5 u6 u7 u8 x0 x1 x2 x3 x4 x5 x6 x7 x8
  cases gb with
  | true =>
    go_wp2_with fail
    go_at_call 8
    refine (HFX.out _ (HE.out g)).mono ?_
    rintro e w1 ⟨rfl, hb⟩
    obtain ⟨g, rfl⟩ := g.on hb
    clear hb
    go_wp2_with fail
    go_ret
    exact ⟨rfl, HB.out g⟩
  | false =>
  have u0 := HU.out 0 _ rfl g
  have u1 := HU.out 1 _ rfl g
  have u2 := HU.out 2 _ rfl g
  have u3 := HU.out 3 _ rfl g
  have u4 := HU.out 4 _ rfl g
  have u5 := HU.out 5 _ rfl g
  have u6 := HU.out 6 _ rfl g
  have u7 := HU.out 7 _ rfl g
  have u8 := HU.out 8 _ rfl g
  have x0 := HX.out 0 _ rfl g
  have x1 := HX.out 1 _ rfl g
  have x2 := HX.out 2 _ rfl g
  have x3 := HX.out 3 _ rfl g
  have x4 := HX.out 4 _ rfl g
  have x5 := HX.out 5 _ rfl g
  have x6 := HX.out 6 _ rfl g
  have x7 := HX.out 7 _ rfl g
  have x8 := HX.out 8 _ rfl g
  go_wp2_with fail
  go_at_call 9
  refine (HTA.out _ (HRA.out g) (HE.out g)).mono ?_
  rintro e w1 ⟨rfl, hb⟩
  obtain ⟨g, rfl⟩ := g.on hb
  clear hb
  clear u0 u1 u2 u3 u4 u5 u6 u7 u8 x0 x1 x2 x3 x4 x5 x6 x7 x8
  have u0 := HU.out 0 _ rfl g
  have u1 := HU.out 1 _ rfl g
  have u2 := HU.out 2 _ rfl g
  have u3 := HU.out 3 _ rfl g
  have u4 := HU.out 4 _ rfl g
  have u5 := HU.out 5 _ rfl g
  have u6 := HU.out 6 _ rfl g
  have u7 := HU.out 7 _ rfl g
  have u8 := HU.out 8 _ rfl g
  have x0 := HX.out 0 _ rfl g
  have x1 := HX.out 1 _ rfl g
  have x2 := HX.out 2 _ rfl g
  have x3 := HX.out 3 _ rfl g
  have x4 := HX.out 4 _ rfl g
  have x5 := HX.out 5 _ rfl g
  have x6 := HX.out 6 _ rfl g
  have x7 := HX.out 7 _ rfl g
  have x8 := HX.out 8 _ rfl g
  go_wp2_with fail
  go_at_call 9
  refine (HTB.out _ (HRB.out g) (HE.out g)).mono ?_
  rintro e w1 ⟨rfl, hb⟩
  obtain ⟨g, rfl⟩ := g.on hb
  clear hb
  clear u0 u1 u2 u3 u4 u5 u6 u7 u8 x0 x1 x2 x3 x4 x5 x6 x7 x8
  have HK : ∃ q, (ta == tb) = q := ⟨_, rfl⟩
  obtain ⟨q, HK⟩ := HK
  rw [HK] at hk
  go_upto_region 5 with fail
  have u0 := HU.out 0 _ rfl
  have u1 := HU.out 1 _ rfl
  have u2 := HU.out 2 _ rfl
  have u3 := HU.out 3 _ rfl
  have u4 := HU.out 4 _ rfl
  have u5 := HU.out 5 _ rfl
  have u6 := HU.out 6 _ rfl
  have u7 := HU.out 7 _ rfl
  have u8 := HU.out 8 _ rfl
  have x0 := HX.out 0 _ rfl
  have x1 := HX.out 1 _ rfl
  have x2 := HX.out 2 _ rfl
  have x3 := HX.out 3 _ rfl
  have x4 := HX.out 4 _ rfl
  have x5 := HX.out 5 _ rfl
  have x6 := HX.out 6 _ rfl
  have x7 := HX.out 7 _ rfl
  have x8 := HX.out 8 _ rfl
  have hk2 : ka = false ∨ kb = false ∨ q = s := by
    cases ka with
    | false => exact .inl rfl
    | true => cases kb with
      | false => exact .inr (.inl rfl)
      | true => exact .inr (.inr (hk.out rfl rfl))
  clear hk
  refine Gr.region (by kernel_rfl) (by kernel_rfl) g.draw ?_
  cases ka <;> cases kb <;> cases s <;> cases q
  all_goals first | (exfalso; revert hk2; decide) | skip
  all_goals clear hk2
  all_goals
    repeat (go_big_quiet_step ((first
      | (go_at_call 8; exact Gr.calls _ (HFX.out _ (HE.out _)))
      | (go_at_call 15; exact Gr.calls _ (HS.out _ (HRA.out _) (HRB.out _)))
      | (go_at_call 14; exact Gr.calls _ (HRS.out _ (HRA.out _) (HRB.out _))))))
    refine wpQuiet_nil ?_
    rintro _ ⟨g, rfl⟩
    clear u0 u1 u2 u3 u4 u5 u6 u7 u8 x0 x1 x2 x3 x4 x5 x6 x7 x8
    go_wp2_with fail
    go_ret
    exact ⟨rfl, HB.out g⟩
end Go.Proofs.YtbclfcghacedfaaGreatDoor
end
