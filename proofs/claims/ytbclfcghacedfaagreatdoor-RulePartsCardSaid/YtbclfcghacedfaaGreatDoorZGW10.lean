import Derived.Test.YtbclfcghacedfaaGreatDoorZGW9
import Derived.Test.YtbclfcghacedfaaGreatDoorZGW5c
/- Contract of the program's Text: it is the document's. -/
section
namespace Go.Proofs.YtbclfcghacedfaaGreatDoor
open Go.ChangeShapes Go.WideShapes Go.ChangeAt Go.RowKit Qr Ck Sp

theorem rowT_prt (nm : List UInt8) (l : List Int) : rowT (59 :: nm ++ [61]) decI l = prt nm l := by
  unfold rowT prt
  cases l with
  | nil => rfl
  | cons x r =>
    rw [if_neg (by simp), if_neg (by simp), List.map_cons, join_glue]
    simp only [nums, tail_, List.flatMap_map, List.append_assoc, List.cons_append, List.nil_append]
theorem rowT_daysT (l : List (Int × Int)) : rowT [59, 66, 89, 68, 65, 89, 61] oneD l = daysT l := by
  unfold rowT
  cases l with
  | nil => rfl
  | cons x r =>
    rw [if_neg (by simp), List.map_cons, join_glue]
    simp only [daysT, tailD, List.flatMap_map, List.append_assoc]
theorem rowT_bd {α : Type} {nm : List UInt8} {f : α → List UInt8} {l : List α} {k : Nat} (h : ∀ x ∈ l, (f x).length ≤ k) : (rowT nm f l).length ≤ nm.length + (k + 1) * l.length := by
  unfold rowT
  split
  · simp
  · have := join_bd (l.map f) k (fun p hp => by obtain ⟨x, hx, rfl⟩ := List.mem_map.1 hp; exact h x hx)
    rw [List.length_map] at this
    rw [List.length_append]; omega

theorem text_no (r : R) (A1 A2 A3 A4 : Option Addr) (c1 c2 c3 c4 : Nat) (w : World) (hs : RAt w r A1 A2 A3 A4 c1 c2 c3 c4) (hm : mayB r = false) :
    Calls Tryz.prog 9 #[.agg (rcells r A1 A2 A3 A4 c1 c2 c3 c4)] w fun e w' => e = .returned (.tuple #[.string ⟨#[]⟩, .bool false]) ∧ Below w.heap.size w w' := by
  obtain ⟨W, hW⟩ : ∃ W, w.alloc (.cells (rcells r A1 A2 A3 A4 c1 c2 c3 c4) 25) = W := ⟨_, rfl⟩
  have HW := Lib.hid hW
  have BW : Hid (Below w.heap.size w W) := by show Below _ _ _; rw [← hW]; exact (Below.refl _ w).alloc (Nat.le_refl _) _
  have HM := Lib.hid (pmay_any r A1 A2 A3 A4 c1 c2 c3 c4 W (hs.below BW.out (Nat.le_refl _)))
  rw [hm] at HM
  have hbx : BoxAt r.freq r.iv r.count r.until_ A1 A2 A3 A4 r.bm.length r.bd.length r.bw.length r.bs.length c1 c2 c3 c4 r.start W w.heap.size := fun k v h => by rw [← hW]; exact box_at (w := w) (t := 25) h ⟨_, Below.refl _ _⟩
  obtain ⟨b0, b1, b2, b3, b4, b5, b6, b7, b8⟩ := hbx.nine
  clear hW hbx hs hm
  unfold rcells at *
  generalize r.bm.length = n1 at *
  generalize r.bd.length = n2 at *
  generalize r.bw.length = n3 at *
  generalize r.bs.length = n4 at *
  go_enter Tryz.func9, Tryz.ntmps9
  go_upto_region 1 with fail
  rw [HW.out]
  go_wp2_with (go_at_call 10; (with_reducible refine HM.out.mono ?_); rintro e w' ⟨rfl, hb⟩; obtain ⟨g, rfl⟩ := Gr.of hb; clear hb)
  go_ret2
  exact ⟨rfl, BW.out.trans (g.ok.mono BW.out.size)⟩

set_option maxRecDepth 100000 in
set_option maxHeartbeats 8000000 in
theorem text_yes (r : R) (A1 A2 A3 A4 : Option Addr) (c1 c2 c3 c4 : Nat) (w : World) (hs : RAt w r A1 A2 A3 A4 c1 c2 c3 c4) (hm : mayP r) (hE : Env9 w) :
    Calls Tryz.prog 9 #[.agg (rcells r A1 A2 A3 A4 c1 c2 c3 c4)] w fun e w' => e = .returned (.tuple #[.string ⟨(textT r).toArray⟩, .bool true]) ∧ Below w.heap.size w w' := by
  obtain ⟨W, hW⟩ : ∃ W, w.alloc (.cells (rcells r A1 A2 A3 A4 c1 c2 c3 c4) 25) = W := ⟨_, rfl⟩
  have HW := Lib.hid hW
  have BW : Hid (Below w.heap.size w W) := by show Below _ _ _; rw [← hW]; exact (Below.refl _ w).alloc (Nat.le_refl _) _
  have hsW := hs.below BW.out (Nat.le_refl _)
  have hEW := hE.below BW.out
  have HM := Lib.hid (pmay_any r A1 A2 A3 A4 c1 c2 c3 c4 W hsW)
  rw [show mayB r = true from decide_eq_true hm] at HM
  have hbx : ∀ g : Gr W, BoxAt r.freq r.iv r.count r.until_ A1 A2 A3 A4 r.bm.length r.bd.length r.bw.length r.bs.length c1 c2 c3 c4 r.start g.val w.heap.size := fun g => BoxAt.up (w := W) (fun k v h => by rw [← hW]; exact box_at (w := w) (t := 25) h ⟨_, Below.refl _ _⟩) g.ok
  have b0 := fun g => (hbx g).nine.1
  have b1 := fun g => (hbx g).nine.2.1
  have b2 := fun g => (hbx g).nine.2.2.1
  have b3 := fun g => (hbx g).nine.2.2.2.1
  have b4 := fun g => (hbx g).nine.2.2.2.2.1
  have b5 := fun g => (hbx g).nine.2.2.2.2.2.1
  have b6 := fun g => (hbx g).nine.2.2.2.2.2.2.1
  have b7 := fun g => (hbx g).nine.2.2.2.2.2.2.2.1
  have b8 := fun g => (hbx g).nine.2.2.2.2.2.2.2.2
  obtain ⟨v0, v1, v2, v3, v4, v5, v6, v7, v8⟩ := (hbx ⟨W, Below.refl _ _⟩).nine
  simp only at v0 v1 v2 v3 v4 v5 v6 v7 v8
  obtain ⟨l1, l2, l3, l4⟩ := may_lens hm
  obtain ⟨⟨f1, f2, i1, i2, k1, k2, s1, s2⟩, hu, ⟨hbm, hbd, hbs, hbw⟩, _, _⟩ := hm
  have rb1 := rowB_bd hbm (by omega)
  have rb2 := rowB_bd hbd (by omega)
  have rb4 := rowB_bd hbs (by omega)
  have rb3 := daysB_bd hbw
  obtain ⟨fq, hfq⟩ : ∃ fq : Nat, r.freq = fq := ⟨r.freq.toNat, by omega⟩
  obtain ⟨st, hst⟩ : ∃ st : Nat, r.start = st := ⟨r.start.toNat, by omega⟩
  have HI := Lib.hid (fun g : Gr W => itoaI_any r.iv (by omega) g.val (hEW.env.gr g))
  have HC := Lib.hid (fun g : Gr W => itoaI_any r.count (by omega) g.val (hEW.env.gr g))
  have HU := Lib.hid (fun (h0 : 0 ≤ r.until_) (g : Gr W) => untilText_any r.until_ h0 (by omega) g.val (hEW.gr g))
  have HK := Lib.hid (fun g : Gr W => wkText_any st (by omega) g.val (hEW.gr g))
  have H1 := Lib.hid (fun g : Gr W => rowText_int [59, 66, 89, 77, 79, 78, 84, 72, 61] r.bm A1 c1 g.val (by decide) (by omega) rb1 (hsW.s1.gr g) (hEW.env.gr g))
  have H2 := Lib.hid (fun g : Gr W => rowText_int [59, 66, 89, 77, 79, 78, 84, 72, 68, 65, 89, 61] r.bd A2 c2 g.val (by decide) (by omega) rb2 (hsW.s2.gr g) (hEW.env.gr g))
  have H3 := Lib.hid (fun g : Gr W => rowText_days [59, 66, 89, 68, 65, 89, 61] r.bw A3 c3 g.val (by decide) (by omega) rb3 (hsW.s3.gr g) (hEW.gr g))
  have H4 := Lib.hid (fun g : Gr W => rowText_int [59, 66, 89, 83, 69, 84, 80, 79, 83, 61] r.bs A4 c4 g.val (by decide) (by omega) rb4 (hsW.s4.gr g) (hEW.env.gr g))
  have hc := fun g : Gr W => (hEW.gr g).freqs (fq - 1) (by omega)
  rw [show fq - 1 + 1 = fq by omega] at hc
  have L1 : (rowT [59, 66, 89, 77, 79, 78, 84, 72, 61] decI r.bm).length ≤ 20000 := by have := rowT_bd (nm := [59, 66, 89, 77, 79, 78, 84, 72, 61]) (f := decI) (l := r.bm) (k := 8) (fun x hx => decI_len (rb1 x hx).1 (rb1 x hx).2); simp only [List.length_cons, List.length_nil] at this; omega
  have L2 : (rowT [59, 66, 89, 77, 79, 78, 84, 72, 68, 65, 89, 61] decI r.bd).length ≤ 20000 := by have := rowT_bd (nm := [59, 66, 89, 77, 79, 78, 84, 72, 68, 65, 89, 61]) (f := decI) (l := r.bd) (k := 8) (fun x hx => decI_len (rb2 x hx).1 (rb2 x hx).2); simp only [List.length_cons, List.length_nil] at this; omega
  have L3 : (rowT [59, 66, 89, 68, 65, 89, 61] oneD r.bw).length ≤ 20000 := by have := rowT_bd (nm := [59, 66, 89, 68, 65, 89, 61]) (f := oneD) (l := r.bw) (k := 10) (fun x hx => oneD_len (rb3 x hx)); simp only [List.length_cons, List.length_nil] at this; omega
  have L4 : (rowT [59, 66, 89, 83, 69, 84, 80, 79, 83, 61] decI r.bs).length ≤ 20000 := by have := rowT_bd (nm := [59, 66, 89, 83, 69, 84, 80, 79, 83, 61]) (f := decI) (l := r.bs) (k := 8) (fun x hx => decI_len (rb4 x hx).1 (rb4 x hx).2); simp only [List.length_cons, List.length_nil] at this; omega
  have L5 : (decI r.iv).length ≤ 8 := decI_len (by omega) (by omega)
  have L6 : (decI r.count).length ≤ 8 := decI_len (by omega) (by omega)
  have L7 := untilL_len r.until_
  have L8 := dayName_len st
  have L9 := freqName_len fq
  have HT : Hid (textT r = [70, 82, 69, 81, 61] ++ freqName fq ++ (if r.iv = 1 then [] else [59, 73, 78, 84, 69, 82, 86, 65, 76, 61] ++ decI r.iv) ++ (if r.count = 0 then [] else [59, 67, 79, 85, 78, 84, 61] ++ decI r.count) ++
      (if r.until_ = -1 then [] else [59, 85, 78, 84, 73, 76, 61] ++ untilL r.until_) ++ rowT [59, 66, 89, 77, 79, 78, 84, 72, 61] decI r.bm ++ rowT [59, 66, 89, 77, 79, 78, 84, 72, 68, 65, 89, 61] decI r.bd ++
      rowT [59, 66, 89, 68, 65, 89, 61] oneD r.bw ++ rowT [59, 66, 89, 83, 69, 84, 80, 79, 83, 61] decI r.bs ++ (if st = 0 then [] else [59, 87, 75, 83, 84, 61] ++ dayName st)) := by
    show _ = _
    have a1 : rowT [59, 66, 89, 77, 79, 78, 84, 72, 61] decI r.bm = prt [66, 89, 77, 79, 78, 84, 72] r.bm := rowT_prt [66, 89, 77, 79, 78, 84, 72] r.bm
    have a2 : rowT [59, 66, 89, 77, 79, 78, 84, 72, 68, 65, 89, 61] decI r.bd = prt [66, 89, 77, 79, 78, 84, 72, 68, 65, 89] r.bd := rowT_prt [66, 89, 77, 79, 78, 84, 72, 68, 65, 89] r.bd
    have a4 : rowT [59, 66, 89, 83, 69, 84, 80, 79, 83, 61] decI r.bs = prt [66, 89, 83, 69, 84, 80, 79, 83] r.bs := rowT_prt [66, 89, 83, 69, 84, 80, 79, 83] r.bs
    rw [a1, a2, a4, rowT_daysT]
    have e1 : ivT r = if r.iv = 1 then [] else [59, 73, 78, 84, 69, 82, 86, 65, 76, 61] ++ decI r.iv := by
      unfold ivT
      by_cases h : r.iv = 1
      · rw [if_neg (by omega), if_pos h]
      · rw [if_pos (by omega), if_neg h]
    have e2 : ctT r = if r.count = 0 then [] else [59, 67, 79, 85, 78, 84, 61] ++ decI r.count := by
      unfold ctT
      by_cases h : r.count = 0
      · rw [if_neg (by omega), if_pos h]
      · rw [if_pos (by omega), if_neg h]
    have e3 : unT r = if r.until_ = -1 then [] else [59, 85, 78, 84, 73, 76, 61] ++ untilL r.until_ := by
      unfold unT
      by_cases h : r.until_ = -1
      · rw [if_neg (by omega), if_pos h]
      · rw [if_pos (by omega), if_neg h]; unfold untilT untilL; simp only [List.append_assoc]
    have e4 : wkT r = if st = 0 then [] else [59, 87, 75, 83, 84, 61] ++ dayName st := by
      unfold wkT
      rw [hst]
      by_cases h : st = 0
      · rw [if_neg (by omega), if_pos h]
      · rw [if_pos (by omega), if_neg h]; rfl
    unfold textT preT midT
    rw [e1, e2, e3, e4, hfq]
    simp only [List.append_assoc, Int.toNat_natCast]
  rw [HT.out]
  clear HT hW hbx hsW hEW hs hE rb1 rb2 rb3 rb4 hbm hbd hbs hbw l1 l2 l3 l4
  unfold rcells at *
  rw [hfq, hst] at HM HW ⊢
  simp only [hfq] at b0 v0
  simp only [hst] at b8 v8
  have fq1 : 1 ≤ fq := by omega
  have fq4 : fq ≤ 4 := by omega
  have st6 : st ≤ 6 := by omega
  clear hfq hst
  generalize rowT [59, 66, 89, 77, 79, 78, 84, 72, 61] decI r.bm = t1 at *
  generalize rowT [59, 66, 89, 77, 79, 78, 84, 72, 68, 65, 89, 61] decI r.bd = t2 at *
  generalize rowT [59, 66, 89, 68, 65, 89, 61] oneD r.bw = t3 at *
  generalize rowT [59, 66, 89, 83, 69, 84, 80, 79, 83, 61] decI r.bs = t4 at *
  generalize decI r.iv = ti at *
  generalize decI r.count = tc at *
  generalize untilL r.until_ = tu at *
  generalize dayName st = tk at *
  generalize freqName fq = tf at *
  generalize r.bm.length = n1 at *
  generalize r.bd.length = n2 at *
  generalize r.bw.length = n3 at *
  generalize r.bs.length = n4 at *
  generalize r.iv = iv_ at *
  generalize r.count = ct at *
  generalize r.until_ = un at *
  have hf1 : ((fq : Int) - 1).toNat = fq - 1 := by omega
  have hf2 : (0 : Int) ≤ (fq : Int) - 1 := by omega
  have hf3 : (fq : Int) - 1 < 4 := by omega
  have hf4 : 1 ≤ (fq : Int) := by omega
  have hst0 : (0 : Int) ≤ st := by omega
  have hst6 : (st : Int) ≤ 6 := by omega
  obtain ⟨qi, hqi⟩ : ∃ q : Bool, q = decide (iv_ = 1) := ⟨_, rfl⟩
  obtain ⟨qc, hqc⟩ : ∃ q : Bool, q = decide (ct = 0) := ⟨_, rfl⟩
  obtain ⟨qu, hqu⟩ : ∃ q : Bool, q = decide (un = -1) := ⟨_, rfl⟩
  obtain ⟨qs, hqs⟩ : ∃ q : Bool, q = decide (st = 0) := ⟨_, rfl⟩
  have HIF : Hid (∀ a b c d : List UInt8, (if iv_ = 1 then [] else a) = (if qi = true then [] else a) ∧ (if ct = 0 then [] else b) = (if qc = true then [] else b) ∧ (if un = -1 then [] else c) = (if qu = true then [] else c) ∧ (if st = 0 then [] else d) = (if qs = true then [] else d)) := by
    intro a b c d
    subst hqi hqc hqu hqs
    simp only [decide_eq_true_eq, and_self]
  have HUU : Hid (qu = false → 0 ≤ un) := fun h => by rw [h] at hqu; have := of_decide_eq_false hqu.symm; omega
  have hbi : (iv_ != 1) = !qi := by rw [hqi]; rfl
  have hbc : (ct != 0) = !qc := by rw [hqc]; rfl
  have hbu : (un != -1) = !qu := by rw [hqu]; rfl
  have hbs : ((st : Int) != 0) = !qs := by rw [hqs]; by_cases h : st = 0 <;> simp [h]
  rw [(HIF.out _ [] [] []).1, (HIF.out [] _ [] []).2.1, (HIF.out [] [] _ []).2.2.1, (HIF.out [] [] [] _).2.2.2]
  clear HIF hqi hqc hqu hqs hu
  cases qi <;> cases qc <;> cases qu <;> cases qs
  all_goals
    simp only [Bool.not_true, Bool.not_false, Bool.false_eq_true, ↓reduceIte] at hbi hbc hbu hbs ⊢
    go_enter Tryz.func9, Tryz.ntmps9
    go_upto_region 1 with fail
    rw [HW.out]
    go_wp2_with (first
      | (go_at_call 10; (with_reducible refine HM.out.mono ?_); rintro e w' ⟨rfl, hb⟩; obtain ⟨g, rfl⟩ := Gr.of hb; clear hb; have hcf := hc g)
      | (go_at_call 16; (first | (with_reducible refine (HI.out g).mono ?_) | (with_reducible refine (HC.out g).mono ?_)); rintro e w' ⟨rfl, hb⟩; obtain ⟨g, rfl⟩ := g.on hb; clear hb)
      | (go_at_call 17; (with_reducible refine (HU.out (HUU.out (by first | exact trivial | rfl)) g).mono ?_); rintro e w' ⟨rfl, hb⟩; obtain ⟨g, rfl⟩ := g.on hb; clear hb)
      | (go_at_call 21; (with_reducible refine (HK.out g).mono ?_); rintro e w' ⟨rfl, hb⟩; obtain ⟨g, rfl⟩ := g.on hb; clear hb)
      | (go_at_call 19; (with_reducible refine (H3.out g).mono ?_); rintro e w' ⟨rfl, hb⟩; obtain ⟨g, rfl⟩ := g.on hb; clear hb)
      | (go_at_call 18; (first | (with_reducible refine (H1.out g).mono ?_) | (with_reducible refine (H2.out g).mono ?_) | (with_reducible refine (H4.out g).mono ?_)); rintro e w' ⟨rfl, hb⟩; obtain ⟨g, rfl⟩ := g.on hb; clear hb))
    go_ret2
    refine ⟨congrArg (fun x => Ending.returned (Value.tuple #[.string x, .bool true])) ?_, BW.out.trans (g.ok.mono BW.out.size)⟩
    apply ByteArray.ext
    apply Array.toList_inj.1
    simp only [ByteArray.data_append, Array.toList_append, List.append_assoc, List.append_nil] <;> rfl
end Go.Proofs.YtbclfcghacedfaaGreatDoor
end
