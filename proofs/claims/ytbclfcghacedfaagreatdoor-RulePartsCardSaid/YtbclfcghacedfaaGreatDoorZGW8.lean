import Derived.Test.YtbclfcghacedfaaGreatDoorZGW7
import Derived.Deep.Cut
/- Contracts of the program's rules: texts of ends and days, rows' texts; pieces of a text. -/
section
namespace Go.Proofs.YtbclfcghacedfaaGreatDoor
open Go.ChangeShapes Go.WideShapes Go.ChangeAt Go.RowKit Qr Ck

theorem bsize (l : List UInt8) : (ByteArray.mk l.toArray).size = l.length := by show l.toArray.size = _; simp
theorem bdata (l : List UInt8) : (ByteArray.mk l.toArray).data.toList = l := by simp
theorem less_any (c : UInt8) (l : List UInt8) (hl : l.length ≤ 1000) (w : World) (hE : Env w) :
    Calls Tryz.prog 46 #[.string ⟨l.toArray⟩, .string ⟨#[c]⟩, .string ⟨#[]⟩] w fun e w' => e = .returned (.string ⟨(less c l).toArray⟩) ∧ Below w.heap.size w w' := by
  obtain ⟨m, hm⟩ := hE.ml
  have h := Tryz.strings_ReplaceAll ⟨l.toArray⟩ ⟨#[c]⟩ ⟨#[]⟩ m w (by rw [bsize]; omega) hm (Nat.le_refl 1) (by rw [bsize]; show l.length + _ * 0 ≤ _; omega)
  rw [bdata] at h
  exact h
set_option maxHeartbeats 1000000 in
theorem untilText_any (u : Int) (h0 : 0 ≤ u) (h1 : u ≤ 158310720) (w : World) (hE : Env9 w) :
    Calls Tryz.prog 17 #[.int .i64 u] w fun e w' => e = .returned (.string ⟨(untilL u).toArray⟩) ∧ Below w.heap.size w w' := by
  have HS := Lib.hid (stamp_yes u h0 h1 w hE.env)
  have hsl := stampT_len u
  have h45 : (less 45 (stampT u)).length ≤ 1000 := by
    obtain ⟨a, b, c, d, e, h, ha, hb, hc, hd, he, hg⟩ := stamp_form u
    have n45 : ∀ l : List UInt8, (∀ x ∈ l, dgt x = true) → (45 : UInt8) ∉ l := fun l hl hm => by have := hl _ hm; revert this; decide
    simp only [List.mem_append] at hg
    have hl : less 45 (c ++ 84 :: (d ++ 58 :: e)) = c ++ 84 :: (d ++ 58 :: e) := less_none (by
      simp only [List.mem_append, List.mem_cons, not_or]
      exact ⟨n45 c (fun x hx => hg x (by simp [hx])), by decide, n45 d (fun x hx => hg x (by simp [hx])), by decide, n45 e (fun x hx => hg x (by simp [hx]))⟩)
    rw [h, show a ++ [45] ++ b ++ [45] ++ c ++ [84] ++ (d ++ [58] ++ e) = a ++ 45 :: (b ++ 45 :: (c ++ 84 :: (d ++ 58 :: e))) by simp, less_first a _ (n45 a (fun x hx => hg x (by simp [hx]))), less_first b _ (n45 b (fun x hx => hg x (by simp [hx]))), hl]
    simp; omega
  have H1 := Lib.hid (fun g : Gr w => less_any 45 (stampT u) (by omega) g.val (hE.env.gr g))
  have H2 := Lib.hid (fun g : Gr w => less_any 58 (less 45 (stampT u)) h45 g.val (hE.env.gr g))
  rw [less_until] at H2
  clear hsl h45 hE h0 h1
  generalize less 45 (stampT u) = a at *
  generalize stampT u = b at *
  generalize untilL u = c at *
  go_enter Tryz.func17, Tryz.ntmps17
  go_wp2_with (go_at_call 45; (with_reducible refine HS.out.mono ?_); rintro e w' ⟨rfl, hb⟩; obtain ⟨g, rfl⟩ := Gr.of hb; clear hb)
  go_at_call 46
  (with_reducible refine (H1.out g).mono ?_)
  rintro e w' ⟨rfl, hb⟩
  obtain ⟨g2, rfl⟩ := g.on hb
  clear hb
  go_wp2_with fail
  go_at_call 46
  (with_reducible refine (H2.out g2).mono ?_)
  rintro e w' ⟨rfl, hb⟩
  obtain ⟨g3, rfl⟩ := g2.on hb
  clear hb
  go_wp2
  go_ret
  exact ⟨rfl, g3.ok⟩

theorem itoaI_any (n : Int) (h : -1000000 ≤ n ∧ n ≤ 1000000) (w : World) (hE : Env w) :
    Calls Tryz.prog 16 #[.int .i64 n] w fun e w' => e = .returned (.string ⟨(decI n).toArray⟩) ∧ Below w.heap.size w w' := by
  have := (Tryz.strconv_Itoa n (by omega) (by omega) w hE.pow).mono fun e w' ⟨he, k, os, hw⟩ => (show e = Ending.returned (.string ⟨(Lib.itoa n).toArray⟩) ∧ Below w.heap.size w w' from ⟨he, by rw [hw]; exact below_grow6 w k os⟩)
  rw [itoa_decI] at this
  exact this

set_option maxHeartbeats 1000000 in
theorem dayText_any (d : Int × Int) (h : 0 ≤ d.2 ∧ d.2 ≤ 6 ∧ -5 ≤ d.1 ∧ d.1 ≤ 5) (w : World) (hE : Env9 w) :
    Calls Tryz.prog 20 #[.agg #[.int .i64 d.1, .int .i64 d.2]] w fun e w' => e = .returned (.string ⟨(oneD d).toArray⟩) ∧ Below w.heap.size w w' := by
  obtain ⟨n, k⟩ := d
  obtain ⟨a1, a2, a3, a4⟩ := h
  simp only at a1 a2 a3 a4
  obtain ⟨j, rfl⟩ : ∃ j : Nat, k = j := ⟨k.toNat, by omega⟩
  obtain ⟨W, hW⟩ : ∃ W, w.alloc (.cells #[.int .i64 n, .int .i64 j] 36) = W := ⟨_, rfl⟩
  have HW := Lib.hid hW
  have BW : Hid (Below w.heap.size w W) := by show Below _ _ _; rw [← hW]; exact (Below.refl _ w).alloc (Nat.le_refl _) _
  have L0 : ∀ g : Gr W, g.val.cell? ⟨w.heap.size, 0, none⟩ = some (.int .i64 n) := fun g => cell_old (w := W) (by rw [← hW]; exact box_at (w := w) (t := 36) (C := #[.int .i64 n, .int .i64 j]) rfl ⟨_, Below.refl _ _⟩) g.ok
  have L1 : ∀ g : Gr W, g.val.cell? ⟨w.heap.size, 1, none⟩ = some (.int .i64 j) := fun g => cell_old (w := W) (by rw [← hW]; exact box_at (w := w) (t := 36) (C := #[.int .i64 n, .int .i64 j]) rfl ⟨_, Below.refl _ _⟩) g.ok
  have HWK := Lib.hid (fun g : Gr W => wkText_any j (by omega) g.val ((hE.below (BW.out.mono (Nat.le_refl _))).gr g))
  have HIT := Lib.hid (fun g : Gr W => itoaI_any n (by omega) g.val ((hE.env.below (BW.out.mono (Nat.le_refl _))).gr g))
  have l0 := L0 ⟨W, Below.refl _ _⟩
  have l1 := L1 ⟨W, Below.refl _ _⟩
  have hdl := dayName_len j
  have hil : (decI n).length ≤ 8 := decI_len (by omega) (by omega)
  simp only at l0 l1
  clear hW hE a1 a2
  by_cases hn : n = 0
  · have E : Hid (oneD (n, (j : Int)) = dayName j) := by show _ = _; unfold oneD; simp [hn]
    have hW0 := HWK.out ⟨W, Below.refl _ _⟩
    have HW0 := Lib.hid hW0
    clear hW0
    subst hn
    go_enter Tryz.func20, Tryz.ntmps20
    go_upto_region 1 with fail
    rw [HW.out]
    go_wp2_with (go_at_call 21; (with_reducible refine HW0.out.mono ?_); rintro e w' ⟨rfl, hb⟩; obtain ⟨g, rfl⟩ := Gr.of hb; clear hb)
    go_ret
    exact ⟨by rw [E.out]; rfl, BW.out.trans (g.ok.mono BW.out.size)⟩
  · have E : Hid (oneD (n, (j : Int)) = decI n ++ dayName j) := by show _ = _; unfold oneD; simp [hn]
    have hnb : (n == 0) = false := by simpa using hn
    generalize decI n = a at *
    generalize dayName j = b at *
    go_enter Tryz.func20, Tryz.ntmps20
    go_upto_region 1 with fail
    rw [HW.out]
    go_upto_region 3 with fail
    refine Gr.region (by kernel_rfl) (by kernel_rfl) (Gr.draw0 _) ?_
    repeat (go_big_quiet_step (first | (go_at_call 16; exact Gr.calls _ (HIT.out _)) | (go_at_call 21; exact Gr.calls _ (HWK.out _))))
    refine wpQuiet_nil ?_
    rintro _ ⟨g2, rfl⟩
    go_wp2
    go_ret
    exact ⟨by rw [E.out]; exact congrArg (fun x => Ending.returned (Value.string x)) (ByteArray.mk_append_mk a b), BW.out.trans (g2.ok.mono BW.out.size)⟩
end Go.Proofs.YtbclfcghacedfaaGreatDoor
end
