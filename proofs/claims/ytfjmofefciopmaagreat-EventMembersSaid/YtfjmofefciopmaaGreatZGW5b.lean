import Derived.Test.YtfjmofefciopmaaGreatZGW5
/- Contract of the program's May: ways with month days. (Written by gen/gen_gw5.py.) -/
section
namespace Go.Proofs.YtfjmofefciopmaaGreat
open Go.ChangeShapes Go.WideShapes Go.ChangeAt Go.RowKit Qr Ck Sp
section
variable (fq iv_ ct un : Int) (A1 A2 A3 A4 : Option Addr) (n1 n2 n3 n4 c1 c2 c3 c4 : Nat) (st : Int)
set_option maxRecDepth 100000 in
set_option maxHeartbeats 8000000 in
theorem pmay_w7b (W w : World) (b1 b2 b3 b4 b5 b7 b8 b9 b10 : Bool) (hb1 : b1 = true) (hb2 : b2 = true) (hb3 : b3 = true) (hb4 : b4 = true) (hb5 : b5 = true) (hb7 : b7 = false) (hl2 : n2 ≠ 0) (hf2 : fq ≠ 2)  (hW : w.alloc (.cells #[.int .i64 fq, .int .i64 iv_, .int .i64 ct, .int .i64 un, .slice A1 n1 c1, .slice A2 n2 c2, .slice A3 n3 c3, .slice A4 n4 c4, .int .i64 st] 28) = W)
    (q1 : fromB 1 fq 4 = b1) (q2 : fromB 1 iv_ 999 = b2) (q3 : endB un ct = b3) (_q9 : saysB n1 n2 n3 = b9) (_q10 : fromB 0 st 6 = b10)
    (H4 : Hid (∀ V, SM fq iv_ ct un A1 A2 A3 A4 n1 n2 n3 n4 c1 c2 c3 c4 st W w.heap.size V → Calls Tryz.prog 51 #[.slice A1 n1 c1, .func (.func 52) #[] #[], .func (.func 53) #[] #[]] V fun e w' => e = .returned (.bool b4) ∧ Below V.heap.size V w'))
    (H5 : Hid (∀ V, SM fq iv_ ct un A1 A2 A3 A4 n1 n2 n3 n4 c1 c2 c3 c4 st W w.heap.size V → Calls Tryz.prog 51 #[.slice A2 n2 c2, .func (.func 52) #[] #[], .func (.func 87) #[] #[.pointer (some ⟨V.heap.size, 0, none⟩)]] (V.alloc (.cells #[.int .i64 31] 3)) fun e w' => e = .returned (.bool b5) ∧ Below (V.alloc (.cells #[.int .i64 31] 3)).heap.size (V.alloc (.cells #[.int .i64 31] 3)) w'))
    (H7 : Hid (∀ V, SM fq iv_ ct un A1 A2 A3 A4 n1 n2 n3 n4 c1 c2 c3 c4 st W w.heap.size V → Calls Tryz.prog 55 #[.slice A3 n3 c3, .func (.func 56) #[] #[], .func (.func 57) #[] #[.pointer (some ⟨w.heap.size, 0, none⟩)]] V fun e w' => e = .returned (.bool b7) ∧ Below V.heap.size V w'))
    (_H8 : Hid (∀ V, SM fq iv_ ct un A1 A2 A3 A4 n1 n2 n3 n4 c1 c2 c3 c4 st W w.heap.size V → Calls Tryz.prog 51 #[.slice A4 n4 c4, .func (.func 52) #[] #[], .func (.func 87) #[] #[.pointer (some ⟨V.heap.size, 0, none⟩)]] (V.alloc (.cells #[.int .i64 366] 3)) fun e w' => e = .returned (.bool b8) ∧ Below (V.alloc (.cells #[.int .i64 366] 3)).heap.size (V.alloc (.cells #[.int .i64 366] 3)) w')) :
    Calls Tryz.prog 22 #[.agg #[.int .i64 fq, .int .i64 iv_, .int .i64 ct, .int .i64 un, .slice A1 n1 c1, .slice A2 n2 c2, .slice A3 n3 c3, .slice A4 n4 c4, .int .i64 st]] w fun e w' => e = .returned (.bool false) ∧ Below w.heap.size w w' := by
  have HW := Lib.hid hW
  have BW : Hid (Below w.heap.size w W) := by show Below _ _ _; rw [← hW]; exact (Below.refl _ w).alloc (Nat.le_refl _) _
  have HBX : Hid (BoxAt fq iv_ ct un A1 A2 A3 A4 n1 n2 n3 n4 c1 c2 c3 c4 st W w.heap.size) := fun k v h => by rw [← hW]; exact box_at (w := w) (t := 28) h ⟨_, Below.refl _ _⟩
  have HF1 := Lib.hid (fun w => isFrom_any 1 fq 4 w)
  have HF2 := Lib.hid (fun w => isFrom_any 1 iv_ 999 w)
  have HF3 := Lib.hid (fun w => isFrom_any 0 st 6 w)
  have HE := Lib.hid (fun w => mayEnd_any fq iv_ ct un A1 A2 A3 A4 n1 n2 n3 n4 c1 c2 c3 c4 st w)
  have HSD := Lib.hid (fun w => saysDays_any fq iv_ ct un A1 A2 A3 A4 n1 n2 n3 n4 c1 c2 c3 c4 st w)
  unfold rc9 at HE HSD
  try rw [q1] at HF1
  try rw [q2] at HF2
  try rw [q10] at HF3
  try rw [q3] at HE
  try rw [q9] at HSD
  clear hW
  try clear q1
  try clear q2
  try clear q3
  try clear q9
  try clear q10
  obtain rfl : b1 = true := hb1
  obtain rfl : b2 = true := hb2
  obtain rfl : b3 = true := hb3
  obtain rfl : b4 = true := hb4
  obtain rfl : b5 = true := hb5
  obtain rfl : b7 = false := hb7
  have hl2a : ((n2 : Int) == 0) = false := by simpa using hl2
  have hl2b : (n2 == 0) = false := by simpa using hl2
  clear hl2
  have hf2a : (fq != 2) = true := by simpa using hf2
  clear hf2
  go_enter Tryz.func22, Tryz.ntmps22
  go_upto_region 1 with fail
  rw [HW.out]
  have hS0 : SM fq iv_ ct un A1 A2 A3 A4 n1 n2 n3 n4 c1 c2 c3 c4 st W w.heap.size W.drew := ⟨HBX.out.up (drew_below W), drew_below W⟩
  refine wp_region_lexH (SM fq iv_ ct un A1 A2 A3 A4 n1 n2 n3 n4 c1 c2 c3 c4 st W w.heap.size) callsM (by kernel_rfl) (by kernel_rfl) heldM (fun _ _ _ _ _ h => h) hS0 ?_
  generalize W.drew = V at *
  repeat (first
    | (refine wpH_no rfl rfl ?_; simp only [Act.put, List.setIfInBounds_toArray, List.set_cons_zero, List.set_cons_succ])
    | (refine wpH_callNo rfl rfl hS0 ?_; simp only [Act.put, List.setIfInBounds_toArray, List.set_cons_zero, List.set_cons_succ])
    | (refine wpH_yes (v := ?_) rfl rfl (fun w' hS => ?_) ?_; rotate_left; (obtain ⟨b0, b1, b2, b3, b4, b5, b6, b7, b8⟩ := hS.box.nine; go_simp; with_reducible rfl); (try simp only [Act.put, List.setIfInBounds_toArray, List.set_cons_zero, List.set_cons_succ]))
    | (refine wpH_callYes rfl rfl (fun K hK => ?_); go_simp; (first
      | (go_at_call 49; (first | (with_reducible refine (HF1.out _).mono ?_) | (with_reducible refine (HF2.out _).mono ?_) | (with_reducible refine (HF3.out _).mono ?_)); rintro e w2 ⟨rfl, rfl⟩; refine hK.out _ _ hS0 (fun _ => ?_))
      | (go_at_call 50; (with_reducible refine (HE.out _).mono ?_); rintro e w2 ⟨rfl, hb⟩; have hS0 := hS0.up hb; clear hb; refine hK.out _ _ hS0 (fun _ => ?_))
      | (go_at_call 59; (with_reducible refine (HSD.out _).mono ?_); rintro e w2 ⟨rfl, hb⟩; have hS0 := hS0.up hb; clear hb; refine hK.out _ _ hS0 (fun _ => ?_))
      | (go_at_call 55; (with_reducible refine (H7.out _ hS0).mono ?_); rintro e w2 ⟨rfl, hb⟩; have hS0 := hS0.up hb; clear hb; refine hK.out _ _ hS0 (fun _ => ?_))
      | (go_at_call 54; (with_reducible refine (isPlace_any 31 _).mono ?_); rintro e w2 ⟨rfl, rfl⟩; have hP0 := hS0; have hS0 := hS0.up (below1 _ (.cells #[.int .i64 31] 3)); refine hK.out _ _ hS0 (fun _ => ?_))
      | (go_at_call 54; (with_reducible refine (isPlace_any 366 _).mono ?_); rintro e w2 ⟨rfl, rfl⟩; have hP0 := hS0; have hS0 := hS0.up (below1 _ (.cells #[.int .i64 366] 3)); refine hK.out _ _ hS0 (fun _ => ?_))
      | (go_at_call 51; (first | (with_reducible refine (H4.out _ hS0).mono ?_) | (with_reducible refine (H5.out _ hP0).mono ?_) | (with_reducible refine (H8.out _ hP0).mono ?_)); rintro e w2 ⟨rfl, hb⟩; have hS0 := hS0.up hb; clear hb; refine hK.out _ _ hS0 (fun _ => ?_))); (try simp only [Act.put, List.setIfInBounds_toArray, List.set_cons_zero, List.set_cons_succ]); clear hK K))
  have HX : Hid (Below w.heap.size w _) := BW.out.trans (hS0.below.mono BW.out.size)
  clear hS0 HBX
  show Exit.then _ _ _ _ _
  go_wp2
  go_ret
  exact ⟨ret_bool rfl, HX.out⟩
set_option maxRecDepth 100000 in
set_option maxHeartbeats 8000000 in
theorem pmay_w8b (W w : World) (b1 b2 b3 b4 b5 b7 b8 b9 b10 : Bool) (hb1 : b1 = true) (hb2 : b2 = true) (hb3 : b3 = true) (hb4 : b4 = true) (hb5 : b5 = true) (hb7 : b7 = true) (hb8 : b8 = false) (hl2 : n2 ≠ 0) (hf2 : fq ≠ 2)  (hW : w.alloc (.cells #[.int .i64 fq, .int .i64 iv_, .int .i64 ct, .int .i64 un, .slice A1 n1 c1, .slice A2 n2 c2, .slice A3 n3 c3, .slice A4 n4 c4, .int .i64 st] 28) = W)
    (q1 : fromB 1 fq 4 = b1) (q2 : fromB 1 iv_ 999 = b2) (q3 : endB un ct = b3) (_q9 : saysB n1 n2 n3 = b9) (_q10 : fromB 0 st 6 = b10)
    (H4 : Hid (∀ V, SM fq iv_ ct un A1 A2 A3 A4 n1 n2 n3 n4 c1 c2 c3 c4 st W w.heap.size V → Calls Tryz.prog 51 #[.slice A1 n1 c1, .func (.func 52) #[] #[], .func (.func 53) #[] #[]] V fun e w' => e = .returned (.bool b4) ∧ Below V.heap.size V w'))
    (H5 : Hid (∀ V, SM fq iv_ ct un A1 A2 A3 A4 n1 n2 n3 n4 c1 c2 c3 c4 st W w.heap.size V → Calls Tryz.prog 51 #[.slice A2 n2 c2, .func (.func 52) #[] #[], .func (.func 87) #[] #[.pointer (some ⟨V.heap.size, 0, none⟩)]] (V.alloc (.cells #[.int .i64 31] 3)) fun e w' => e = .returned (.bool b5) ∧ Below (V.alloc (.cells #[.int .i64 31] 3)).heap.size (V.alloc (.cells #[.int .i64 31] 3)) w'))
    (H7 : Hid (∀ V, SM fq iv_ ct un A1 A2 A3 A4 n1 n2 n3 n4 c1 c2 c3 c4 st W w.heap.size V → Calls Tryz.prog 55 #[.slice A3 n3 c3, .func (.func 56) #[] #[], .func (.func 57) #[] #[.pointer (some ⟨w.heap.size, 0, none⟩)]] V fun e w' => e = .returned (.bool b7) ∧ Below V.heap.size V w'))
    (H8 : Hid (∀ V, SM fq iv_ ct un A1 A2 A3 A4 n1 n2 n3 n4 c1 c2 c3 c4 st W w.heap.size V → Calls Tryz.prog 51 #[.slice A4 n4 c4, .func (.func 52) #[] #[], .func (.func 87) #[] #[.pointer (some ⟨V.heap.size, 0, none⟩)]] (V.alloc (.cells #[.int .i64 366] 3)) fun e w' => e = .returned (.bool b8) ∧ Below (V.alloc (.cells #[.int .i64 366] 3)).heap.size (V.alloc (.cells #[.int .i64 366] 3)) w')) :
    Calls Tryz.prog 22 #[.agg #[.int .i64 fq, .int .i64 iv_, .int .i64 ct, .int .i64 un, .slice A1 n1 c1, .slice A2 n2 c2, .slice A3 n3 c3, .slice A4 n4 c4, .int .i64 st]] w fun e w' => e = .returned (.bool false) ∧ Below w.heap.size w w' := by
  have HW := Lib.hid hW
  have BW : Hid (Below w.heap.size w W) := by show Below _ _ _; rw [← hW]; exact (Below.refl _ w).alloc (Nat.le_refl _) _
  have HBX : Hid (BoxAt fq iv_ ct un A1 A2 A3 A4 n1 n2 n3 n4 c1 c2 c3 c4 st W w.heap.size) := fun k v h => by rw [← hW]; exact box_at (w := w) (t := 28) h ⟨_, Below.refl _ _⟩
  have HF1 := Lib.hid (fun w => isFrom_any 1 fq 4 w)
  have HF2 := Lib.hid (fun w => isFrom_any 1 iv_ 999 w)
  have HF3 := Lib.hid (fun w => isFrom_any 0 st 6 w)
  have HE := Lib.hid (fun w => mayEnd_any fq iv_ ct un A1 A2 A3 A4 n1 n2 n3 n4 c1 c2 c3 c4 st w)
  have HSD := Lib.hid (fun w => saysDays_any fq iv_ ct un A1 A2 A3 A4 n1 n2 n3 n4 c1 c2 c3 c4 st w)
  unfold rc9 at HE HSD
  try rw [q1] at HF1
  try rw [q2] at HF2
  try rw [q10] at HF3
  try rw [q3] at HE
  try rw [q9] at HSD
  clear hW
  try clear q1
  try clear q2
  try clear q3
  try clear q9
  try clear q10
  obtain rfl : b1 = true := hb1
  obtain rfl : b2 = true := hb2
  obtain rfl : b3 = true := hb3
  obtain rfl : b4 = true := hb4
  obtain rfl : b5 = true := hb5
  obtain rfl : b7 = true := hb7
  obtain rfl : b8 = false := hb8
  have hl2a : ((n2 : Int) == 0) = false := by simpa using hl2
  have hl2b : (n2 == 0) = false := by simpa using hl2
  clear hl2
  have hf2a : (fq != 2) = true := by simpa using hf2
  clear hf2
  go_enter Tryz.func22, Tryz.ntmps22
  go_upto_region 1 with fail
  rw [HW.out]
  have hS0 : SM fq iv_ ct un A1 A2 A3 A4 n1 n2 n3 n4 c1 c2 c3 c4 st W w.heap.size W.drew := ⟨HBX.out.up (drew_below W), drew_below W⟩
  refine wp_region_lexH (SM fq iv_ ct un A1 A2 A3 A4 n1 n2 n3 n4 c1 c2 c3 c4 st W w.heap.size) callsM (by kernel_rfl) (by kernel_rfl) heldM (fun _ _ _ _ _ h => h) hS0 ?_
  generalize W.drew = V at *
  repeat (first
    | (refine wpH_no rfl rfl ?_; simp only [Act.put, List.setIfInBounds_toArray, List.set_cons_zero, List.set_cons_succ])
    | (refine wpH_callNo rfl rfl hS0 ?_; simp only [Act.put, List.setIfInBounds_toArray, List.set_cons_zero, List.set_cons_succ])
    | (refine wpH_yes (v := ?_) rfl rfl (fun w' hS => ?_) ?_; rotate_left; (obtain ⟨b0, b1, b2, b3, b4, b5, b6, b7, b8⟩ := hS.box.nine; go_simp; with_reducible rfl); (try simp only [Act.put, List.setIfInBounds_toArray, List.set_cons_zero, List.set_cons_succ]))
    | (refine wpH_callYes rfl rfl (fun K hK => ?_); go_simp; (first
      | (go_at_call 49; (first | (with_reducible refine (HF1.out _).mono ?_) | (with_reducible refine (HF2.out _).mono ?_) | (with_reducible refine (HF3.out _).mono ?_)); rintro e w2 ⟨rfl, rfl⟩; refine hK.out _ _ hS0 (fun _ => ?_))
      | (go_at_call 50; (with_reducible refine (HE.out _).mono ?_); rintro e w2 ⟨rfl, hb⟩; have hS0 := hS0.up hb; clear hb; refine hK.out _ _ hS0 (fun _ => ?_))
      | (go_at_call 59; (with_reducible refine (HSD.out _).mono ?_); rintro e w2 ⟨rfl, hb⟩; have hS0 := hS0.up hb; clear hb; refine hK.out _ _ hS0 (fun _ => ?_))
      | (go_at_call 55; (with_reducible refine (H7.out _ hS0).mono ?_); rintro e w2 ⟨rfl, hb⟩; have hS0 := hS0.up hb; clear hb; refine hK.out _ _ hS0 (fun _ => ?_))
      | (go_at_call 54; (with_reducible refine (isPlace_any 31 _).mono ?_); rintro e w2 ⟨rfl, rfl⟩; have hP0 := hS0; have hS0 := hS0.up (below1 _ (.cells #[.int .i64 31] 3)); refine hK.out _ _ hS0 (fun _ => ?_))
      | (go_at_call 54; (with_reducible refine (isPlace_any 366 _).mono ?_); rintro e w2 ⟨rfl, rfl⟩; have hP0 := hS0; have hS0 := hS0.up (below1 _ (.cells #[.int .i64 366] 3)); refine hK.out _ _ hS0 (fun _ => ?_))
      | (go_at_call 51; (first | (with_reducible refine (H4.out _ hS0).mono ?_) | (with_reducible refine (H5.out _ hP0).mono ?_) | (with_reducible refine (H8.out _ hP0).mono ?_)); rintro e w2 ⟨rfl, hb⟩; have hS0 := hS0.up hb; clear hb; refine hK.out _ _ hS0 (fun _ => ?_))); (try simp only [Act.put, List.setIfInBounds_toArray, List.set_cons_zero, List.set_cons_succ]); clear hK K))
  have HX : Hid (Below w.heap.size w _) := BW.out.trans (hS0.below.mono BW.out.size)
  clear hS0 HBX
  show Exit.then _ _ _ _ _
  go_wp2
  go_ret
  exact ⟨ret_bool rfl, HX.out⟩
set_option maxRecDepth 100000 in
set_option maxHeartbeats 8000000 in
theorem pmay_w9b (W w : World) (b1 b2 b3 b4 b5 b7 b8 b9 b10 : Bool) (hb1 : b1 = true) (hb2 : b2 = true) (hb3 : b3 = true) (hb4 : b4 = true) (hb5 : b5 = true) (hb7 : b7 = true) (hb8 : b8 = true) (hb9 : b9 = false) (hl2 : n2 ≠ 0) (hf2 : fq ≠ 2) (hl4 : n4 ≠ 0)  (hW : w.alloc (.cells #[.int .i64 fq, .int .i64 iv_, .int .i64 ct, .int .i64 un, .slice A1 n1 c1, .slice A2 n2 c2, .slice A3 n3 c3, .slice A4 n4 c4, .int .i64 st] 28) = W)
    (q1 : fromB 1 fq 4 = b1) (q2 : fromB 1 iv_ 999 = b2) (q3 : endB un ct = b3) (q9 : saysB n1 n2 n3 = b9) (_q10 : fromB 0 st 6 = b10)
    (H4 : Hid (∀ V, SM fq iv_ ct un A1 A2 A3 A4 n1 n2 n3 n4 c1 c2 c3 c4 st W w.heap.size V → Calls Tryz.prog 51 #[.slice A1 n1 c1, .func (.func 52) #[] #[], .func (.func 53) #[] #[]] V fun e w' => e = .returned (.bool b4) ∧ Below V.heap.size V w'))
    (H5 : Hid (∀ V, SM fq iv_ ct un A1 A2 A3 A4 n1 n2 n3 n4 c1 c2 c3 c4 st W w.heap.size V → Calls Tryz.prog 51 #[.slice A2 n2 c2, .func (.func 52) #[] #[], .func (.func 87) #[] #[.pointer (some ⟨V.heap.size, 0, none⟩)]] (V.alloc (.cells #[.int .i64 31] 3)) fun e w' => e = .returned (.bool b5) ∧ Below (V.alloc (.cells #[.int .i64 31] 3)).heap.size (V.alloc (.cells #[.int .i64 31] 3)) w'))
    (H7 : Hid (∀ V, SM fq iv_ ct un A1 A2 A3 A4 n1 n2 n3 n4 c1 c2 c3 c4 st W w.heap.size V → Calls Tryz.prog 55 #[.slice A3 n3 c3, .func (.func 56) #[] #[], .func (.func 57) #[] #[.pointer (some ⟨w.heap.size, 0, none⟩)]] V fun e w' => e = .returned (.bool b7) ∧ Below V.heap.size V w'))
    (H8 : Hid (∀ V, SM fq iv_ ct un A1 A2 A3 A4 n1 n2 n3 n4 c1 c2 c3 c4 st W w.heap.size V → Calls Tryz.prog 51 #[.slice A4 n4 c4, .func (.func 52) #[] #[], .func (.func 87) #[] #[.pointer (some ⟨V.heap.size, 0, none⟩)]] (V.alloc (.cells #[.int .i64 366] 3)) fun e w' => e = .returned (.bool b8) ∧ Below (V.alloc (.cells #[.int .i64 366] 3)).heap.size (V.alloc (.cells #[.int .i64 366] 3)) w')) :
    Calls Tryz.prog 22 #[.agg #[.int .i64 fq, .int .i64 iv_, .int .i64 ct, .int .i64 un, .slice A1 n1 c1, .slice A2 n2 c2, .slice A3 n3 c3, .slice A4 n4 c4, .int .i64 st]] w fun e w' => e = .returned (.bool false) ∧ Below w.heap.size w w' := by
  have HW := Lib.hid hW
  have BW : Hid (Below w.heap.size w W) := by show Below _ _ _; rw [← hW]; exact (Below.refl _ w).alloc (Nat.le_refl _) _
  have HBX : Hid (BoxAt fq iv_ ct un A1 A2 A3 A4 n1 n2 n3 n4 c1 c2 c3 c4 st W w.heap.size) := fun k v h => by rw [← hW]; exact box_at (w := w) (t := 28) h ⟨_, Below.refl _ _⟩
  have HF1 := Lib.hid (fun w => isFrom_any 1 fq 4 w)
  have HF2 := Lib.hid (fun w => isFrom_any 1 iv_ 999 w)
  have HF3 := Lib.hid (fun w => isFrom_any 0 st 6 w)
  have HE := Lib.hid (fun w => mayEnd_any fq iv_ ct un A1 A2 A3 A4 n1 n2 n3 n4 c1 c2 c3 c4 st w)
  have HSD := Lib.hid (fun w => saysDays_any fq iv_ ct un A1 A2 A3 A4 n1 n2 n3 n4 c1 c2 c3 c4 st w)
  unfold rc9 at HE HSD
  try rw [q1] at HF1
  try rw [q2] at HF2
  try rw [q10] at HF3
  try rw [q3] at HE
  try rw [q9] at HSD
  clear hW
  try clear q1
  try clear q2
  try clear q3
  try clear q9
  try clear q10
  obtain rfl : b1 = true := hb1
  obtain rfl : b2 = true := hb2
  obtain rfl : b3 = true := hb3
  obtain rfl : b4 = true := hb4
  obtain rfl : b5 = true := hb5
  obtain rfl : b7 = true := hb7
  obtain rfl : b8 = true := hb8
  obtain rfl : b9 = false := hb9
  have hl2a : ((n2 : Int) == 0) = false := by simpa using hl2
  have hl2b : (n2 == 0) = false := by simpa using hl2
  clear hl2
  have hf2a : (fq != 2) = true := by simpa using hf2
  clear hf2
  have hl4a : ((n4 : Int) == 0) = false := by simpa using hl4
  have hl4b : (n4 == 0) = false := by simpa using hl4
  clear hl4
  go_enter Tryz.func22, Tryz.ntmps22
  go_upto_region 1 with fail
  rw [HW.out]
  have hS0 : SM fq iv_ ct un A1 A2 A3 A4 n1 n2 n3 n4 c1 c2 c3 c4 st W w.heap.size W.drew := ⟨HBX.out.up (drew_below W), drew_below W⟩
  refine wp_region_lexH (SM fq iv_ ct un A1 A2 A3 A4 n1 n2 n3 n4 c1 c2 c3 c4 st W w.heap.size) callsM (by kernel_rfl) (by kernel_rfl) heldM (fun _ _ _ _ _ h => h) hS0 ?_
  generalize W.drew = V at *
  repeat (first
    | (refine wpH_no rfl rfl ?_; simp only [Act.put, List.setIfInBounds_toArray, List.set_cons_zero, List.set_cons_succ])
    | (refine wpH_callNo rfl rfl hS0 ?_; simp only [Act.put, List.setIfInBounds_toArray, List.set_cons_zero, List.set_cons_succ])
    | (refine wpH_yes (v := ?_) rfl rfl (fun w' hS => ?_) ?_; rotate_left; (obtain ⟨b0, b1, b2, b3, b4, b5, b6, b7, b8⟩ := hS.box.nine; go_simp; with_reducible rfl); (try simp only [Act.put, List.setIfInBounds_toArray, List.set_cons_zero, List.set_cons_succ]))
    | (refine wpH_callYes rfl rfl (fun K hK => ?_); go_simp; (first
      | (go_at_call 49; (first | (with_reducible refine (HF1.out _).mono ?_) | (with_reducible refine (HF2.out _).mono ?_) | (with_reducible refine (HF3.out _).mono ?_)); rintro e w2 ⟨rfl, rfl⟩; refine hK.out _ _ hS0 (fun _ => ?_))
      | (go_at_call 50; (with_reducible refine (HE.out _).mono ?_); rintro e w2 ⟨rfl, hb⟩; have hS0 := hS0.up hb; clear hb; refine hK.out _ _ hS0 (fun _ => ?_))
      | (go_at_call 59; (with_reducible refine (HSD.out _).mono ?_); rintro e w2 ⟨rfl, hb⟩; have hS0 := hS0.up hb; clear hb; refine hK.out _ _ hS0 (fun _ => ?_))
      | (go_at_call 55; (with_reducible refine (H7.out _ hS0).mono ?_); rintro e w2 ⟨rfl, hb⟩; have hS0 := hS0.up hb; clear hb; refine hK.out _ _ hS0 (fun _ => ?_))
      | (go_at_call 54; (with_reducible refine (isPlace_any 31 _).mono ?_); rintro e w2 ⟨rfl, rfl⟩; have hP0 := hS0; have hS0 := hS0.up (below1 _ (.cells #[.int .i64 31] 3)); refine hK.out _ _ hS0 (fun _ => ?_))
      | (go_at_call 54; (with_reducible refine (isPlace_any 366 _).mono ?_); rintro e w2 ⟨rfl, rfl⟩; have hP0 := hS0; have hS0 := hS0.up (below1 _ (.cells #[.int .i64 366] 3)); refine hK.out _ _ hS0 (fun _ => ?_))
      | (go_at_call 51; (first | (with_reducible refine (H4.out _ hS0).mono ?_) | (with_reducible refine (H5.out _ hP0).mono ?_) | (with_reducible refine (H8.out _ hP0).mono ?_)); rintro e w2 ⟨rfl, hb⟩; have hS0 := hS0.up hb; clear hb; refine hK.out _ _ hS0 (fun _ => ?_))); (try simp only [Act.put, List.setIfInBounds_toArray, List.set_cons_zero, List.set_cons_succ]); clear hK K))
  have HX : Hid (Below w.heap.size w _) := BW.out.trans (hS0.below.mono BW.out.size)
  clear hS0 HBX
  show Exit.then _ _ _ _ _
  go_wp2
  go_ret
  exact ⟨ret_bool rfl, HX.out⟩
set_option maxRecDepth 100000 in
set_option maxHeartbeats 8000000 in
theorem pmay_w10ba (W w : World) (b1 b2 b3 b4 b5 b7 b8 b9 b10 : Bool) (hb1 : b1 = true) (hb2 : b2 = true) (hb3 : b3 = true) (hb4 : b4 = true) (hb5 : b5 = true) (hb7 : b7 = true) (hb8 : b8 = true) (hb10 : b10 = false) (hl2 : n2 ≠ 0) (hf2 : fq ≠ 2) (hl4 : n4 = 0)  (hW : w.alloc (.cells #[.int .i64 fq, .int .i64 iv_, .int .i64 ct, .int .i64 un, .slice A1 n1 c1, .slice A2 n2 c2, .slice A3 n3 c3, .slice A4 n4 c4, .int .i64 st] 28) = W)
    (q1 : fromB 1 fq 4 = b1) (q2 : fromB 1 iv_ 999 = b2) (q3 : endB un ct = b3) (_q9 : saysB n1 n2 n3 = b9) (q10 : fromB 0 st 6 = b10)
    (H4 : Hid (∀ V, SM fq iv_ ct un A1 A2 A3 A4 n1 n2 n3 n4 c1 c2 c3 c4 st W w.heap.size V → Calls Tryz.prog 51 #[.slice A1 n1 c1, .func (.func 52) #[] #[], .func (.func 53) #[] #[]] V fun e w' => e = .returned (.bool b4) ∧ Below V.heap.size V w'))
    (H5 : Hid (∀ V, SM fq iv_ ct un A1 A2 A3 A4 n1 n2 n3 n4 c1 c2 c3 c4 st W w.heap.size V → Calls Tryz.prog 51 #[.slice A2 n2 c2, .func (.func 52) #[] #[], .func (.func 87) #[] #[.pointer (some ⟨V.heap.size, 0, none⟩)]] (V.alloc (.cells #[.int .i64 31] 3)) fun e w' => e = .returned (.bool b5) ∧ Below (V.alloc (.cells #[.int .i64 31] 3)).heap.size (V.alloc (.cells #[.int .i64 31] 3)) w'))
    (H7 : Hid (∀ V, SM fq iv_ ct un A1 A2 A3 A4 n1 n2 n3 n4 c1 c2 c3 c4 st W w.heap.size V → Calls Tryz.prog 55 #[.slice A3 n3 c3, .func (.func 56) #[] #[], .func (.func 57) #[] #[.pointer (some ⟨w.heap.size, 0, none⟩)]] V fun e w' => e = .returned (.bool b7) ∧ Below V.heap.size V w'))
    (H8 : Hid (∀ V, SM fq iv_ ct un A1 A2 A3 A4 n1 n2 n3 n4 c1 c2 c3 c4 st W w.heap.size V → Calls Tryz.prog 51 #[.slice A4 n4 c4, .func (.func 52) #[] #[], .func (.func 87) #[] #[.pointer (some ⟨V.heap.size, 0, none⟩)]] (V.alloc (.cells #[.int .i64 366] 3)) fun e w' => e = .returned (.bool b8) ∧ Below (V.alloc (.cells #[.int .i64 366] 3)).heap.size (V.alloc (.cells #[.int .i64 366] 3)) w')) :
    Calls Tryz.prog 22 #[.agg #[.int .i64 fq, .int .i64 iv_, .int .i64 ct, .int .i64 un, .slice A1 n1 c1, .slice A2 n2 c2, .slice A3 n3 c3, .slice A4 n4 c4, .int .i64 st]] w fun e w' => e = .returned (.bool false) ∧ Below w.heap.size w w' := by
  have HW := Lib.hid hW
  have BW : Hid (Below w.heap.size w W) := by show Below _ _ _; rw [← hW]; exact (Below.refl _ w).alloc (Nat.le_refl _) _
  have HBX : Hid (BoxAt fq iv_ ct un A1 A2 A3 A4 n1 n2 n3 n4 c1 c2 c3 c4 st W w.heap.size) := fun k v h => by rw [← hW]; exact box_at (w := w) (t := 28) h ⟨_, Below.refl _ _⟩
  have HF1 := Lib.hid (fun w => isFrom_any 1 fq 4 w)
  have HF2 := Lib.hid (fun w => isFrom_any 1 iv_ 999 w)
  have HF3 := Lib.hid (fun w => isFrom_any 0 st 6 w)
  have HE := Lib.hid (fun w => mayEnd_any fq iv_ ct un A1 A2 A3 A4 n1 n2 n3 n4 c1 c2 c3 c4 st w)
  have HSD := Lib.hid (fun w => saysDays_any fq iv_ ct un A1 A2 A3 A4 n1 n2 n3 n4 c1 c2 c3 c4 st w)
  unfold rc9 at HE HSD
  try rw [q1] at HF1
  try rw [q2] at HF2
  try rw [q10] at HF3
  try rw [q3] at HE
  try rw [q9] at HSD
  clear hW
  try clear q1
  try clear q2
  try clear q3
  try clear q9
  try clear q10
  obtain rfl : b1 = true := hb1
  obtain rfl : b2 = true := hb2
  obtain rfl : b3 = true := hb3
  obtain rfl : b4 = true := hb4
  obtain rfl : b5 = true := hb5
  obtain rfl : b7 = true := hb7
  obtain rfl : b8 = true := hb8
  obtain rfl : b10 = false := hb10
  have hl2a : ((n2 : Int) == 0) = false := by simpa using hl2
  have hl2b : (n2 == 0) = false := by simpa using hl2
  clear hl2
  have hf2a : (fq != 2) = true := by simpa using hf2
  clear hf2
  have hl4a : ((n4 : Int) == 0) = true := by simpa using hl4
  have hl4b : (n4 == 0) = true := by simpa using hl4
  clear hl4
  go_enter Tryz.func22, Tryz.ntmps22
  go_upto_region 1 with fail
  rw [HW.out]
  have hS0 : SM fq iv_ ct un A1 A2 A3 A4 n1 n2 n3 n4 c1 c2 c3 c4 st W w.heap.size W.drew := ⟨HBX.out.up (drew_below W), drew_below W⟩
  refine wp_region_lexH (SM fq iv_ ct un A1 A2 A3 A4 n1 n2 n3 n4 c1 c2 c3 c4 st W w.heap.size) callsM (by kernel_rfl) (by kernel_rfl) heldM (fun _ _ _ _ _ h => h) hS0 ?_
  generalize W.drew = V at *
  repeat (first
    | (refine wpH_no rfl rfl ?_; simp only [Act.put, List.setIfInBounds_toArray, List.set_cons_zero, List.set_cons_succ])
    | (refine wpH_callNo rfl rfl hS0 ?_; simp only [Act.put, List.setIfInBounds_toArray, List.set_cons_zero, List.set_cons_succ])
    | (refine wpH_yes (v := ?_) rfl rfl (fun w' hS => ?_) ?_; rotate_left; (obtain ⟨b0, b1, b2, b3, b4, b5, b6, b7, b8⟩ := hS.box.nine; go_simp; with_reducible rfl); (try simp only [Act.put, List.setIfInBounds_toArray, List.set_cons_zero, List.set_cons_succ]))
    | (refine wpH_callYes rfl rfl (fun K hK => ?_); go_simp; (first
      | (go_at_call 49; (first | (with_reducible refine (HF1.out _).mono ?_) | (with_reducible refine (HF2.out _).mono ?_) | (with_reducible refine (HF3.out _).mono ?_)); rintro e w2 ⟨rfl, rfl⟩; refine hK.out _ _ hS0 (fun _ => ?_))
      | (go_at_call 50; (with_reducible refine (HE.out _).mono ?_); rintro e w2 ⟨rfl, hb⟩; have hS0 := hS0.up hb; clear hb; refine hK.out _ _ hS0 (fun _ => ?_))
      | (go_at_call 59; (with_reducible refine (HSD.out _).mono ?_); rintro e w2 ⟨rfl, hb⟩; have hS0 := hS0.up hb; clear hb; refine hK.out _ _ hS0 (fun _ => ?_))
      | (go_at_call 55; (with_reducible refine (H7.out _ hS0).mono ?_); rintro e w2 ⟨rfl, hb⟩; have hS0 := hS0.up hb; clear hb; refine hK.out _ _ hS0 (fun _ => ?_))
      | (go_at_call 54; (with_reducible refine (isPlace_any 31 _).mono ?_); rintro e w2 ⟨rfl, rfl⟩; have hP0 := hS0; have hS0 := hS0.up (below1 _ (.cells #[.int .i64 31] 3)); refine hK.out _ _ hS0 (fun _ => ?_))
      | (go_at_call 54; (with_reducible refine (isPlace_any 366 _).mono ?_); rintro e w2 ⟨rfl, rfl⟩; have hP0 := hS0; have hS0 := hS0.up (below1 _ (.cells #[.int .i64 366] 3)); refine hK.out _ _ hS0 (fun _ => ?_))
      | (go_at_call 51; (first | (with_reducible refine (H4.out _ hS0).mono ?_) | (with_reducible refine (H5.out _ hP0).mono ?_) | (with_reducible refine (H8.out _ hP0).mono ?_)); rintro e w2 ⟨rfl, hb⟩; have hS0 := hS0.up hb; clear hb; refine hK.out _ _ hS0 (fun _ => ?_))); (try simp only [Act.put, List.setIfInBounds_toArray, List.set_cons_zero, List.set_cons_succ]); clear hK K))
  have HX : Hid (Below w.heap.size w _) := BW.out.trans (hS0.below.mono BW.out.size)
  clear hS0 HBX
  show Exit.then _ _ _ _ _
  go_wp2
  go_ret
  exact ⟨ret_bool rfl, HX.out⟩
set_option maxRecDepth 100000 in
set_option maxHeartbeats 8000000 in
theorem pmay_w11ba (W w : World) (b1 b2 b3 b4 b5 b7 b8 b9 b10 : Bool) (hb1 : b1 = true) (hb2 : b2 = true) (hb3 : b3 = true) (hb4 : b4 = true) (hb5 : b5 = true) (hb7 : b7 = true) (hb8 : b8 = true) (hb10 : b10 = true) (hl2 : n2 ≠ 0) (hf2 : fq ≠ 2) (hl4 : n4 = 0)  (hW : w.alloc (.cells #[.int .i64 fq, .int .i64 iv_, .int .i64 ct, .int .i64 un, .slice A1 n1 c1, .slice A2 n2 c2, .slice A3 n3 c3, .slice A4 n4 c4, .int .i64 st] 28) = W)
    (q1 : fromB 1 fq 4 = b1) (q2 : fromB 1 iv_ 999 = b2) (q3 : endB un ct = b3) (_q9 : saysB n1 n2 n3 = b9) (q10 : fromB 0 st 6 = b10)
    (H4 : Hid (∀ V, SM fq iv_ ct un A1 A2 A3 A4 n1 n2 n3 n4 c1 c2 c3 c4 st W w.heap.size V → Calls Tryz.prog 51 #[.slice A1 n1 c1, .func (.func 52) #[] #[], .func (.func 53) #[] #[]] V fun e w' => e = .returned (.bool b4) ∧ Below V.heap.size V w'))
    (H5 : Hid (∀ V, SM fq iv_ ct un A1 A2 A3 A4 n1 n2 n3 n4 c1 c2 c3 c4 st W w.heap.size V → Calls Tryz.prog 51 #[.slice A2 n2 c2, .func (.func 52) #[] #[], .func (.func 87) #[] #[.pointer (some ⟨V.heap.size, 0, none⟩)]] (V.alloc (.cells #[.int .i64 31] 3)) fun e w' => e = .returned (.bool b5) ∧ Below (V.alloc (.cells #[.int .i64 31] 3)).heap.size (V.alloc (.cells #[.int .i64 31] 3)) w'))
    (H7 : Hid (∀ V, SM fq iv_ ct un A1 A2 A3 A4 n1 n2 n3 n4 c1 c2 c3 c4 st W w.heap.size V → Calls Tryz.prog 55 #[.slice A3 n3 c3, .func (.func 56) #[] #[], .func (.func 57) #[] #[.pointer (some ⟨w.heap.size, 0, none⟩)]] V fun e w' => e = .returned (.bool b7) ∧ Below V.heap.size V w'))
    (H8 : Hid (∀ V, SM fq iv_ ct un A1 A2 A3 A4 n1 n2 n3 n4 c1 c2 c3 c4 st W w.heap.size V → Calls Tryz.prog 51 #[.slice A4 n4 c4, .func (.func 52) #[] #[], .func (.func 87) #[] #[.pointer (some ⟨V.heap.size, 0, none⟩)]] (V.alloc (.cells #[.int .i64 366] 3)) fun e w' => e = .returned (.bool b8) ∧ Below (V.alloc (.cells #[.int .i64 366] 3)).heap.size (V.alloc (.cells #[.int .i64 366] 3)) w')) :
    Calls Tryz.prog 22 #[.agg #[.int .i64 fq, .int .i64 iv_, .int .i64 ct, .int .i64 un, .slice A1 n1 c1, .slice A2 n2 c2, .slice A3 n3 c3, .slice A4 n4 c4, .int .i64 st]] w fun e w' => e = .returned (.bool true) ∧ Below w.heap.size w w' := by
  have HW := Lib.hid hW
  have BW : Hid (Below w.heap.size w W) := by show Below _ _ _; rw [← hW]; exact (Below.refl _ w).alloc (Nat.le_refl _) _
  have HBX : Hid (BoxAt fq iv_ ct un A1 A2 A3 A4 n1 n2 n3 n4 c1 c2 c3 c4 st W w.heap.size) := fun k v h => by rw [← hW]; exact box_at (w := w) (t := 28) h ⟨_, Below.refl _ _⟩
  have HF1 := Lib.hid (fun w => isFrom_any 1 fq 4 w)
  have HF2 := Lib.hid (fun w => isFrom_any 1 iv_ 999 w)
  have HF3 := Lib.hid (fun w => isFrom_any 0 st 6 w)
  have HE := Lib.hid (fun w => mayEnd_any fq iv_ ct un A1 A2 A3 A4 n1 n2 n3 n4 c1 c2 c3 c4 st w)
  have HSD := Lib.hid (fun w => saysDays_any fq iv_ ct un A1 A2 A3 A4 n1 n2 n3 n4 c1 c2 c3 c4 st w)
  unfold rc9 at HE HSD
  try rw [q1] at HF1
  try rw [q2] at HF2
  try rw [q10] at HF3
  try rw [q3] at HE
  try rw [q9] at HSD
  clear hW
  try clear q1
  try clear q2
  try clear q3
  try clear q9
  try clear q10
  obtain rfl : b1 = true := hb1
  obtain rfl : b2 = true := hb2
  obtain rfl : b3 = true := hb3
  obtain rfl : b4 = true := hb4
  obtain rfl : b5 = true := hb5
  obtain rfl : b7 = true := hb7
  obtain rfl : b8 = true := hb8
  obtain rfl : b10 = true := hb10
  have hl2a : ((n2 : Int) == 0) = false := by simpa using hl2
  have hl2b : (n2 == 0) = false := by simpa using hl2
  clear hl2
  have hf2a : (fq != 2) = true := by simpa using hf2
  clear hf2
  have hl4a : ((n4 : Int) == 0) = true := by simpa using hl4
  have hl4b : (n4 == 0) = true := by simpa using hl4
  clear hl4
  go_enter Tryz.func22, Tryz.ntmps22
  go_upto_region 1 with fail
  rw [HW.out]
  have hS0 : SM fq iv_ ct un A1 A2 A3 A4 n1 n2 n3 n4 c1 c2 c3 c4 st W w.heap.size W.drew := ⟨HBX.out.up (drew_below W), drew_below W⟩
  refine wp_region_lexH (SM fq iv_ ct un A1 A2 A3 A4 n1 n2 n3 n4 c1 c2 c3 c4 st W w.heap.size) callsM (by kernel_rfl) (by kernel_rfl) heldM (fun _ _ _ _ _ h => h) hS0 ?_
  generalize W.drew = V at *
  repeat (first
    | (refine wpH_no rfl rfl ?_; simp only [Act.put, List.setIfInBounds_toArray, List.set_cons_zero, List.set_cons_succ])
    | (refine wpH_callNo rfl rfl hS0 ?_; simp only [Act.put, List.setIfInBounds_toArray, List.set_cons_zero, List.set_cons_succ])
    | (refine wpH_yes (v := ?_) rfl rfl (fun w' hS => ?_) ?_; rotate_left; (obtain ⟨b0, b1, b2, b3, b4, b5, b6, b7, b8⟩ := hS.box.nine; go_simp; with_reducible rfl); (try simp only [Act.put, List.setIfInBounds_toArray, List.set_cons_zero, List.set_cons_succ]))
    | (refine wpH_callYes rfl rfl (fun K hK => ?_); go_simp; (first
      | (go_at_call 49; (first | (with_reducible refine (HF1.out _).mono ?_) | (with_reducible refine (HF2.out _).mono ?_) | (with_reducible refine (HF3.out _).mono ?_)); rintro e w2 ⟨rfl, rfl⟩; refine hK.out _ _ hS0 (fun _ => ?_))
      | (go_at_call 50; (with_reducible refine (HE.out _).mono ?_); rintro e w2 ⟨rfl, hb⟩; have hS0 := hS0.up hb; clear hb; refine hK.out _ _ hS0 (fun _ => ?_))
      | (go_at_call 59; (with_reducible refine (HSD.out _).mono ?_); rintro e w2 ⟨rfl, hb⟩; have hS0 := hS0.up hb; clear hb; refine hK.out _ _ hS0 (fun _ => ?_))
      | (go_at_call 55; (with_reducible refine (H7.out _ hS0).mono ?_); rintro e w2 ⟨rfl, hb⟩; have hS0 := hS0.up hb; clear hb; refine hK.out _ _ hS0 (fun _ => ?_))
      | (go_at_call 54; (with_reducible refine (isPlace_any 31 _).mono ?_); rintro e w2 ⟨rfl, rfl⟩; have hP0 := hS0; have hS0 := hS0.up (below1 _ (.cells #[.int .i64 31] 3)); refine hK.out _ _ hS0 (fun _ => ?_))
      | (go_at_call 54; (with_reducible refine (isPlace_any 366 _).mono ?_); rintro e w2 ⟨rfl, rfl⟩; have hP0 := hS0; have hS0 := hS0.up (below1 _ (.cells #[.int .i64 366] 3)); refine hK.out _ _ hS0 (fun _ => ?_))
      | (go_at_call 51; (first | (with_reducible refine (H4.out _ hS0).mono ?_) | (with_reducible refine (H5.out _ hP0).mono ?_) | (with_reducible refine (H8.out _ hP0).mono ?_)); rintro e w2 ⟨rfl, hb⟩; have hS0 := hS0.up hb; clear hb; refine hK.out _ _ hS0 (fun _ => ?_))); (try simp only [Act.put, List.setIfInBounds_toArray, List.set_cons_zero, List.set_cons_succ]); clear hK K))
  have HX : Hid (Below w.heap.size w _) := BW.out.trans (hS0.below.mono BW.out.size)
  clear hS0 HBX
  show Exit.then _ _ _ _ _
  go_wp2
  go_ret
  exact ⟨ret_bool rfl, HX.out⟩
set_option maxRecDepth 100000 in
set_option maxHeartbeats 8000000 in
theorem pmay_w10bb (W w : World) (b1 b2 b3 b4 b5 b7 b8 b9 b10 : Bool) (hb1 : b1 = true) (hb2 : b2 = true) (hb3 : b3 = true) (hb4 : b4 = true) (hb5 : b5 = true) (hb7 : b7 = true) (hb8 : b8 = true) (hb9 : b9 = true) (hb10 : b10 = false) (hl2 : n2 ≠ 0) (hf2 : fq ≠ 2) (hl4 : n4 ≠ 0)  (hW : w.alloc (.cells #[.int .i64 fq, .int .i64 iv_, .int .i64 ct, .int .i64 un, .slice A1 n1 c1, .slice A2 n2 c2, .slice A3 n3 c3, .slice A4 n4 c4, .int .i64 st] 28) = W)
    (q1 : fromB 1 fq 4 = b1) (q2 : fromB 1 iv_ 999 = b2) (q3 : endB un ct = b3) (q9 : saysB n1 n2 n3 = b9) (q10 : fromB 0 st 6 = b10)
    (H4 : Hid (∀ V, SM fq iv_ ct un A1 A2 A3 A4 n1 n2 n3 n4 c1 c2 c3 c4 st W w.heap.size V → Calls Tryz.prog 51 #[.slice A1 n1 c1, .func (.func 52) #[] #[], .func (.func 53) #[] #[]] V fun e w' => e = .returned (.bool b4) ∧ Below V.heap.size V w'))
    (H5 : Hid (∀ V, SM fq iv_ ct un A1 A2 A3 A4 n1 n2 n3 n4 c1 c2 c3 c4 st W w.heap.size V → Calls Tryz.prog 51 #[.slice A2 n2 c2, .func (.func 52) #[] #[], .func (.func 87) #[] #[.pointer (some ⟨V.heap.size, 0, none⟩)]] (V.alloc (.cells #[.int .i64 31] 3)) fun e w' => e = .returned (.bool b5) ∧ Below (V.alloc (.cells #[.int .i64 31] 3)).heap.size (V.alloc (.cells #[.int .i64 31] 3)) w'))
    (H7 : Hid (∀ V, SM fq iv_ ct un A1 A2 A3 A4 n1 n2 n3 n4 c1 c2 c3 c4 st W w.heap.size V → Calls Tryz.prog 55 #[.slice A3 n3 c3, .func (.func 56) #[] #[], .func (.func 57) #[] #[.pointer (some ⟨w.heap.size, 0, none⟩)]] V fun e w' => e = .returned (.bool b7) ∧ Below V.heap.size V w'))
    (H8 : Hid (∀ V, SM fq iv_ ct un A1 A2 A3 A4 n1 n2 n3 n4 c1 c2 c3 c4 st W w.heap.size V → Calls Tryz.prog 51 #[.slice A4 n4 c4, .func (.func 52) #[] #[], .func (.func 87) #[] #[.pointer (some ⟨V.heap.size, 0, none⟩)]] (V.alloc (.cells #[.int .i64 366] 3)) fun e w' => e = .returned (.bool b8) ∧ Below (V.alloc (.cells #[.int .i64 366] 3)).heap.size (V.alloc (.cells #[.int .i64 366] 3)) w')) :
    Calls Tryz.prog 22 #[.agg #[.int .i64 fq, .int .i64 iv_, .int .i64 ct, .int .i64 un, .slice A1 n1 c1, .slice A2 n2 c2, .slice A3 n3 c3, .slice A4 n4 c4, .int .i64 st]] w fun e w' => e = .returned (.bool false) ∧ Below w.heap.size w w' := by
  have HW := Lib.hid hW
  have BW : Hid (Below w.heap.size w W) := by show Below _ _ _; rw [← hW]; exact (Below.refl _ w).alloc (Nat.le_refl _) _
  have HBX : Hid (BoxAt fq iv_ ct un A1 A2 A3 A4 n1 n2 n3 n4 c1 c2 c3 c4 st W w.heap.size) := fun k v h => by rw [← hW]; exact box_at (w := w) (t := 28) h ⟨_, Below.refl _ _⟩
  have HF1 := Lib.hid (fun w => isFrom_any 1 fq 4 w)
  have HF2 := Lib.hid (fun w => isFrom_any 1 iv_ 999 w)
  have HF3 := Lib.hid (fun w => isFrom_any 0 st 6 w)
  have HE := Lib.hid (fun w => mayEnd_any fq iv_ ct un A1 A2 A3 A4 n1 n2 n3 n4 c1 c2 c3 c4 st w)
  have HSD := Lib.hid (fun w => saysDays_any fq iv_ ct un A1 A2 A3 A4 n1 n2 n3 n4 c1 c2 c3 c4 st w)
  unfold rc9 at HE HSD
  try rw [q1] at HF1
  try rw [q2] at HF2
  try rw [q10] at HF3
  try rw [q3] at HE
  try rw [q9] at HSD
  clear hW
  try clear q1
  try clear q2
  try clear q3
  try clear q9
  try clear q10
  obtain rfl : b1 = true := hb1
  obtain rfl : b2 = true := hb2
  obtain rfl : b3 = true := hb3
  obtain rfl : b4 = true := hb4
  obtain rfl : b5 = true := hb5
  obtain rfl : b7 = true := hb7
  obtain rfl : b8 = true := hb8
  obtain rfl : b9 = true := hb9
  obtain rfl : b10 = false := hb10
  have hl2a : ((n2 : Int) == 0) = false := by simpa using hl2
  have hl2b : (n2 == 0) = false := by simpa using hl2
  clear hl2
  have hf2a : (fq != 2) = true := by simpa using hf2
  clear hf2
  have hl4a : ((n4 : Int) == 0) = false := by simpa using hl4
  have hl4b : (n4 == 0) = false := by simpa using hl4
  clear hl4
  go_enter Tryz.func22, Tryz.ntmps22
  go_upto_region 1 with fail
  rw [HW.out]
  have hS0 : SM fq iv_ ct un A1 A2 A3 A4 n1 n2 n3 n4 c1 c2 c3 c4 st W w.heap.size W.drew := ⟨HBX.out.up (drew_below W), drew_below W⟩
  refine wp_region_lexH (SM fq iv_ ct un A1 A2 A3 A4 n1 n2 n3 n4 c1 c2 c3 c4 st W w.heap.size) callsM (by kernel_rfl) (by kernel_rfl) heldM (fun _ _ _ _ _ h => h) hS0 ?_
  generalize W.drew = V at *
  repeat (first
    | (refine wpH_no rfl rfl ?_; simp only [Act.put, List.setIfInBounds_toArray, List.set_cons_zero, List.set_cons_succ])
    | (refine wpH_callNo rfl rfl hS0 ?_; simp only [Act.put, List.setIfInBounds_toArray, List.set_cons_zero, List.set_cons_succ])
    | (refine wpH_yes (v := ?_) rfl rfl (fun w' hS => ?_) ?_; rotate_left; (obtain ⟨b0, b1, b2, b3, b4, b5, b6, b7, b8⟩ := hS.box.nine; go_simp; with_reducible rfl); (try simp only [Act.put, List.setIfInBounds_toArray, List.set_cons_zero, List.set_cons_succ]))
    | (refine wpH_callYes rfl rfl (fun K hK => ?_); go_simp; (first
      | (go_at_call 49; (first | (with_reducible refine (HF1.out _).mono ?_) | (with_reducible refine (HF2.out _).mono ?_) | (with_reducible refine (HF3.out _).mono ?_)); rintro e w2 ⟨rfl, rfl⟩; refine hK.out _ _ hS0 (fun _ => ?_))
      | (go_at_call 50; (with_reducible refine (HE.out _).mono ?_); rintro e w2 ⟨rfl, hb⟩; have hS0 := hS0.up hb; clear hb; refine hK.out _ _ hS0 (fun _ => ?_))
      | (go_at_call 59; (with_reducible refine (HSD.out _).mono ?_); rintro e w2 ⟨rfl, hb⟩; have hS0 := hS0.up hb; clear hb; refine hK.out _ _ hS0 (fun _ => ?_))
      | (go_at_call 55; (with_reducible refine (H7.out _ hS0).mono ?_); rintro e w2 ⟨rfl, hb⟩; have hS0 := hS0.up hb; clear hb; refine hK.out _ _ hS0 (fun _ => ?_))
      | (go_at_call 54; (with_reducible refine (isPlace_any 31 _).mono ?_); rintro e w2 ⟨rfl, rfl⟩; have hP0 := hS0; have hS0 := hS0.up (below1 _ (.cells #[.int .i64 31] 3)); refine hK.out _ _ hS0 (fun _ => ?_))
      | (go_at_call 54; (with_reducible refine (isPlace_any 366 _).mono ?_); rintro e w2 ⟨rfl, rfl⟩; have hP0 := hS0; have hS0 := hS0.up (below1 _ (.cells #[.int .i64 366] 3)); refine hK.out _ _ hS0 (fun _ => ?_))
      | (go_at_call 51; (first | (with_reducible refine (H4.out _ hS0).mono ?_) | (with_reducible refine (H5.out _ hP0).mono ?_) | (with_reducible refine (H8.out _ hP0).mono ?_)); rintro e w2 ⟨rfl, hb⟩; have hS0 := hS0.up hb; clear hb; refine hK.out _ _ hS0 (fun _ => ?_))); (try simp only [Act.put, List.setIfInBounds_toArray, List.set_cons_zero, List.set_cons_succ]); clear hK K))
  have HX : Hid (Below w.heap.size w _) := BW.out.trans (hS0.below.mono BW.out.size)
  clear hS0 HBX
  show Exit.then _ _ _ _ _
  go_wp2
  go_ret
  exact ⟨ret_bool rfl, HX.out⟩
set_option maxRecDepth 100000 in
set_option maxHeartbeats 8000000 in
theorem pmay_w11bb (W w : World) (b1 b2 b3 b4 b5 b7 b8 b9 b10 : Bool) (hb1 : b1 = true) (hb2 : b2 = true) (hb3 : b3 = true) (hb4 : b4 = true) (hb5 : b5 = true) (hb7 : b7 = true) (hb8 : b8 = true) (hb9 : b9 = true) (hb10 : b10 = true) (hl2 : n2 ≠ 0) (hf2 : fq ≠ 2) (hl4 : n4 ≠ 0)  (hW : w.alloc (.cells #[.int .i64 fq, .int .i64 iv_, .int .i64 ct, .int .i64 un, .slice A1 n1 c1, .slice A2 n2 c2, .slice A3 n3 c3, .slice A4 n4 c4, .int .i64 st] 28) = W)
    (q1 : fromB 1 fq 4 = b1) (q2 : fromB 1 iv_ 999 = b2) (q3 : endB un ct = b3) (q9 : saysB n1 n2 n3 = b9) (q10 : fromB 0 st 6 = b10)
    (H4 : Hid (∀ V, SM fq iv_ ct un A1 A2 A3 A4 n1 n2 n3 n4 c1 c2 c3 c4 st W w.heap.size V → Calls Tryz.prog 51 #[.slice A1 n1 c1, .func (.func 52) #[] #[], .func (.func 53) #[] #[]] V fun e w' => e = .returned (.bool b4) ∧ Below V.heap.size V w'))
    (H5 : Hid (∀ V, SM fq iv_ ct un A1 A2 A3 A4 n1 n2 n3 n4 c1 c2 c3 c4 st W w.heap.size V → Calls Tryz.prog 51 #[.slice A2 n2 c2, .func (.func 52) #[] #[], .func (.func 87) #[] #[.pointer (some ⟨V.heap.size, 0, none⟩)]] (V.alloc (.cells #[.int .i64 31] 3)) fun e w' => e = .returned (.bool b5) ∧ Below (V.alloc (.cells #[.int .i64 31] 3)).heap.size (V.alloc (.cells #[.int .i64 31] 3)) w'))
    (H7 : Hid (∀ V, SM fq iv_ ct un A1 A2 A3 A4 n1 n2 n3 n4 c1 c2 c3 c4 st W w.heap.size V → Calls Tryz.prog 55 #[.slice A3 n3 c3, .func (.func 56) #[] #[], .func (.func 57) #[] #[.pointer (some ⟨w.heap.size, 0, none⟩)]] V fun e w' => e = .returned (.bool b7) ∧ Below V.heap.size V w'))
    (H8 : Hid (∀ V, SM fq iv_ ct un A1 A2 A3 A4 n1 n2 n3 n4 c1 c2 c3 c4 st W w.heap.size V → Calls Tryz.prog 51 #[.slice A4 n4 c4, .func (.func 52) #[] #[], .func (.func 87) #[] #[.pointer (some ⟨V.heap.size, 0, none⟩)]] (V.alloc (.cells #[.int .i64 366] 3)) fun e w' => e = .returned (.bool b8) ∧ Below (V.alloc (.cells #[.int .i64 366] 3)).heap.size (V.alloc (.cells #[.int .i64 366] 3)) w')) :
    Calls Tryz.prog 22 #[.agg #[.int .i64 fq, .int .i64 iv_, .int .i64 ct, .int .i64 un, .slice A1 n1 c1, .slice A2 n2 c2, .slice A3 n3 c3, .slice A4 n4 c4, .int .i64 st]] w fun e w' => e = .returned (.bool true) ∧ Below w.heap.size w w' := by
  have HW := Lib.hid hW
  have BW : Hid (Below w.heap.size w W) := by show Below _ _ _; rw [← hW]; exact (Below.refl _ w).alloc (Nat.le_refl _) _
  have HBX : Hid (BoxAt fq iv_ ct un A1 A2 A3 A4 n1 n2 n3 n4 c1 c2 c3 c4 st W w.heap.size) := fun k v h => by rw [← hW]; exact box_at (w := w) (t := 28) h ⟨_, Below.refl _ _⟩
  have HF1 := Lib.hid (fun w => isFrom_any 1 fq 4 w)
  have HF2 := Lib.hid (fun w => isFrom_any 1 iv_ 999 w)
  have HF3 := Lib.hid (fun w => isFrom_any 0 st 6 w)
  have HE := Lib.hid (fun w => mayEnd_any fq iv_ ct un A1 A2 A3 A4 n1 n2 n3 n4 c1 c2 c3 c4 st w)
  have HSD := Lib.hid (fun w => saysDays_any fq iv_ ct un A1 A2 A3 A4 n1 n2 n3 n4 c1 c2 c3 c4 st w)
  unfold rc9 at HE HSD
  try rw [q1] at HF1
  try rw [q2] at HF2
  try rw [q10] at HF3
  try rw [q3] at HE
  try rw [q9] at HSD
  clear hW
  try clear q1
  try clear q2
  try clear q3
  try clear q9
  try clear q10
  obtain rfl : b1 = true := hb1
  obtain rfl : b2 = true := hb2
  obtain rfl : b3 = true := hb3
  obtain rfl : b4 = true := hb4
  obtain rfl : b5 = true := hb5
  obtain rfl : b7 = true := hb7
  obtain rfl : b8 = true := hb8
  obtain rfl : b9 = true := hb9
  obtain rfl : b10 = true := hb10
  have hl2a : ((n2 : Int) == 0) = false := by simpa using hl2
  have hl2b : (n2 == 0) = false := by simpa using hl2
  clear hl2
  have hf2a : (fq != 2) = true := by simpa using hf2
  clear hf2
  have hl4a : ((n4 : Int) == 0) = false := by simpa using hl4
  have hl4b : (n4 == 0) = false := by simpa using hl4
  clear hl4
  go_enter Tryz.func22, Tryz.ntmps22
  go_upto_region 1 with fail
  rw [HW.out]
  have hS0 : SM fq iv_ ct un A1 A2 A3 A4 n1 n2 n3 n4 c1 c2 c3 c4 st W w.heap.size W.drew := ⟨HBX.out.up (drew_below W), drew_below W⟩
  refine wp_region_lexH (SM fq iv_ ct un A1 A2 A3 A4 n1 n2 n3 n4 c1 c2 c3 c4 st W w.heap.size) callsM (by kernel_rfl) (by kernel_rfl) heldM (fun _ _ _ _ _ h => h) hS0 ?_
  generalize W.drew = V at *
  repeat (first
    | (refine wpH_no rfl rfl ?_; simp only [Act.put, List.setIfInBounds_toArray, List.set_cons_zero, List.set_cons_succ])
    | (refine wpH_callNo rfl rfl hS0 ?_; simp only [Act.put, List.setIfInBounds_toArray, List.set_cons_zero, List.set_cons_succ])
    | (refine wpH_yes (v := ?_) rfl rfl (fun w' hS => ?_) ?_; rotate_left; (obtain ⟨b0, b1, b2, b3, b4, b5, b6, b7, b8⟩ := hS.box.nine; go_simp; with_reducible rfl); (try simp only [Act.put, List.setIfInBounds_toArray, List.set_cons_zero, List.set_cons_succ]))
    | (refine wpH_callYes rfl rfl (fun K hK => ?_); go_simp; (first
      | (go_at_call 49; (first | (with_reducible refine (HF1.out _).mono ?_) | (with_reducible refine (HF2.out _).mono ?_) | (with_reducible refine (HF3.out _).mono ?_)); rintro e w2 ⟨rfl, rfl⟩; refine hK.out _ _ hS0 (fun _ => ?_))
      | (go_at_call 50; (with_reducible refine (HE.out _).mono ?_); rintro e w2 ⟨rfl, hb⟩; have hS0 := hS0.up hb; clear hb; refine hK.out _ _ hS0 (fun _ => ?_))
      | (go_at_call 59; (with_reducible refine (HSD.out _).mono ?_); rintro e w2 ⟨rfl, hb⟩; have hS0 := hS0.up hb; clear hb; refine hK.out _ _ hS0 (fun _ => ?_))
      | (go_at_call 55; (with_reducible refine (H7.out _ hS0).mono ?_); rintro e w2 ⟨rfl, hb⟩; have hS0 := hS0.up hb; clear hb; refine hK.out _ _ hS0 (fun _ => ?_))
      | (go_at_call 54; (with_reducible refine (isPlace_any 31 _).mono ?_); rintro e w2 ⟨rfl, rfl⟩; have hP0 := hS0; have hS0 := hS0.up (below1 _ (.cells #[.int .i64 31] 3)); refine hK.out _ _ hS0 (fun _ => ?_))
      | (go_at_call 54; (with_reducible refine (isPlace_any 366 _).mono ?_); rintro e w2 ⟨rfl, rfl⟩; have hP0 := hS0; have hS0 := hS0.up (below1 _ (.cells #[.int .i64 366] 3)); refine hK.out _ _ hS0 (fun _ => ?_))
      | (go_at_call 51; (first | (with_reducible refine (H4.out _ hS0).mono ?_) | (with_reducible refine (H5.out _ hP0).mono ?_) | (with_reducible refine (H8.out _ hP0).mono ?_)); rintro e w2 ⟨rfl, hb⟩; have hS0 := hS0.up hb; clear hb; refine hK.out _ _ hS0 (fun _ => ?_))); (try simp only [Act.put, List.setIfInBounds_toArray, List.set_cons_zero, List.set_cons_succ]); clear hK K))
  have HX : Hid (Below w.heap.size w _) := BW.out.trans (hS0.below.mono BW.out.size)
  clear hS0 HBX
  show Exit.then _ _ _ _ _
  go_wp2
  go_ret
  exact ⟨ret_bool rfl, HX.out⟩
end
end Go.Proofs.YtfjmofefciopmaaGreat
end
