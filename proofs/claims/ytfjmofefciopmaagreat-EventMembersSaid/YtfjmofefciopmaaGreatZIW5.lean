import Derived.Test.YtfjmofefciopmaaGreatZIW4
import Derived.Test.YtfjmofefciopmaaGreatZMY
/- Contracts of the program's events: may an event be. -/
section
namespace Go.Proofs.YtfjmofefciopmaaGreat
open Go.ChangeShapes Go.WideShapes Go.ChangeAt Go.RowKit Go.Joins Sp Ev Qr
theorem okC_iff {l : List (Int × Int × Int)} : (l.length ≤ 50 ∧ ∀ i, i < l.length → okC l i) ↔ rowAB l = true ∧ ¬ ∃ x ∈ l, chB x.2.1 x.2.2 = false := by
  rw [show (rowAB l = true) ↔ rowAP l from decide_eq_true_iff]
  unfold rowAP
  have hget : ∀ i (hi : i < l.length), l.getD i (0, 0, 0) = l[i] := fun i hi => by rw [List.getD_eq_getElem?_getD, List.getElem?_eq_getElem hi]; rfl
  constructor
  · rintro ⟨h1, h2⟩
    refine ⟨⟨fun i hi => ⟨(h2 i hi).1, (h2 i hi).2.2.2.2⟩, h1⟩, ?_⟩
    rintro ⟨x, hx, q⟩
    obtain ⟨i, hi, rfl⟩ := List.mem_iff_getElem.1 hx
    have := h2 i hi
    unfold okC at this
    rw [hget i hi] at this
    unfold chB at q
    rw [this.2.1, decide_eq_true this.2.2.1, decide_eq_true this.2.2.2.1] at q
    cases q
  · rintro ⟨⟨h1, h2⟩, h3⟩
    refine ⟨h2, fun i hi => ?_⟩
    have a := h1 i hi
    have b : chB (l[i]).2.1 (l[i]).2.2 = true := by
      cases hh : chB (l[i]).2.1 (l[i]).2.2 with
      | true => rfl
      | false => exact absurd ⟨_, List.getElem_mem hi, hh⟩ h3
    unfold chB at b
    simp only [Bool.and_eq_true, decide_eq_true_eq] at b
    unfold okC
    unfold okA at a
    rw [hget i hi] at a ⊢
    exact ⟨a.1, b.1, b.2.1, b.2.2, a.2⟩
def BoxE (e : Evt) (A1 A2 A3 A4 A5 A6 A7 : Option Addr) (c1 c2 c3 c4 c5 c6 c7 : Nat) (W : World) (b : Nat) : Prop := ∀ (G : Gr W) (k : Nat) (v : Value), (ecells e A1 A2 A3 A4 A5 A6 A7 c1 c2 c3 c4 c5 c6 c7)[k]? = some v → G.val.cell? ⟨b, k, none⟩ = some v
theorem boxE (e : Evt) (A1 A2 A3 A4 A5 A6 A7 : Option Addr) (c1 c2 c3 c4 c5 c6 c7 : Nat) (w : World) : BoxE e A1 A2 A3 A4 A5 A6 A7 c1 c2 c3 c4 c5 c6 c7 (w.alloc (.cells (ecells e A1 A2 A3 A4 A5 A6 A7 c1 c2 c3 c4 c5 c6 c7) 32)) w.heap.size := fun G k v hv => cell_old (blk_cell (heap_alloc_new _ _) hv) G.ok
set_option maxRecDepth 100000 in
set_option maxHeartbeats 4000000 in
theorem m11_w1 (start long : Int) (world again : Bool) (fq iv_ ct un : Int) (A1 A2 A3 A4 : Option Addr) (n1 n2 n3 n4 c1 c2 c3 c4 : Nat) (st : Int) (A5 A6 A7 : Option Addr) (n5 n6 n7 c5 c6 c7 : Nat) (w : World) (G0 : Gr w) (W : World)
    (q1 q2 q3 q4 q5 q6 q7 : Bool) (hW : w.alloc (.cells #[.int .i64 start, .int .i64 long, .bool world, .bool again, .int .i64 fq, .int .i64 iv_, .int .i64 ct, .int .i64 un, .slice A1 n1 c1, .slice A2 n2 c2, .slice A3 n3 c3, .slice A4 n4 c4, .int .i64 st, .slice A5 n5 c5, .slice A6 n6 c6, .slice A7 n7 c7] 32) = W) (hG : Hid (∀ g : Gr W, Below w.heap.size w g.val))
    (HB : ∀ (G : Gr W) (k : Nat) (v : Value), (#[.int .i64 start, .int .i64 long, .bool world, .bool again, .int .i64 fq, .int .i64 iv_, .int .i64 ct, .int .i64 un, .slice A1 n1 c1, .slice A2 n2 c2, .slice A3 n3 c3, .slice A4 n4 c4, .int .i64 st, .slice A5 n5 c5, .slice A6 n6 c6, .slice A7 n7 c7] : Array Value)[k]? = some v → G.val.cell? ⟨w.heap.size, k, none⟩ = some v)
    (HM : Hid (∀ g : Gr W, Calls Tryz.prog 20 #[.int .i64 start] g.val fun e w' => e = .returned (.bool q1) ∧ Below g.val.heap.size g.val w'))
    (HS : Hid (∀ g : Gr W, Calls Tryz.prog 21 #[.agg #[.int .i64 fq, .int .i64 iv_, .int .i64 ct, .int .i64 un, .slice A1 n1 c1, .slice A2 n2 c2, .slice A3 n3 c3, .slice A4 n4 c4, .int .i64 st], .agg #[.int .i64 0, .int .i64 0, .int .i64 0, .int .i64 0, .slice none 0 0, .slice none 0 0, .slice none 0 0, .slice none 0 0, .int .i64 0]] g.val fun e w' => e = .returned (.bool q2) ∧ Below g.val.heap.size g.val w'))
    (HR : Hid (∀ g : Gr W, Calls Tryz.prog 22 #[.agg #[.int .i64 fq, .int .i64 iv_, .int .i64 ct, .int .i64 un, .slice A1 n1 c1, .slice A2 n2 c2, .slice A3 n3 c3, .slice A4 n4 c4, .int .i64 st]] g.val fun e w' => e = .returned (.bool q3) ∧ Below g.val.heap.size g.val w'))
    (H5 : Hid (∀ g : Gr W, Calls Tryz.prog 23 #[.slice A5 n5 c5, .func (.func 24) #[] #[]] g.val fun e w' => e = .returned (.bool q4) ∧ Below g.val.heap.size g.val w'))
    (H6 : Hid (∀ g : Gr W, Calls Tryz.prog 23 #[.slice A6 n6 c6, .func (.func 25) #[] #[]] g.val fun e w' => e = .returned (.bool q5) ∧ Below g.val.heap.size g.val w'))
    (H7 : Hid (∀ g : Gr W, Calls Tryz.prog 26 #[.slice A7 n7 c7, .func (.func 27) #[] #[]] g.val fun e w' => e = .returned (.bool q6) ∧ Below g.val.heap.size g.val w'))
    (HC : Hid (∀ g : Gr W, Calls Tryz.prog 28 #[.slice A7 n7 c7, .func (.func 29) #[] #[]] g.val fun e w' => e = .returned (.bool q7) ∧ Below g.val.heap.size g.val w'))
    (hq1 : q1 = false)  :
    Calls Tryz.prog 10 #[.agg #[.int .i64 start, .int .i64 long, .bool world, .bool again, .int .i64 fq, .int .i64 iv_, .int .i64 ct, .int .i64 un, .slice A1 n1 c1, .slice A2 n2 c2, .slice A3 n3 c3, .slice A4 n4 c4, .int .i64 st, .slice A5 n5 c5, .slice A6 n6 c6, .slice A7 n7 c7]] w fun e w' => e = .returned (.bool false) ∧ Below w.heap.size w w' := by
  obtain rfl : q1 = false := hq1
  obtain ⟨g0, hg0⟩ := Gr.start W
  have E1 := Lib.hid (hW.trans hg0)
  have b0 := fun G => HB G 0 _ rfl
  have b1 := fun G => HB G 1 _ rfl
  have b2 := fun G => HB G 2 _ rfl
  have b3 := fun G => HB G 3 _ rfl
  have b4 := fun G => HB G 4 _ rfl
  have b5 := fun G => HB G 5 _ rfl
  have b6 := fun G => HB G 6 _ rfl
  have b7 := fun G => HB G 7 _ rfl
  have b8 := fun G => HB G 8 _ rfl
  have b9 := fun G => HB G 9 _ rfl
  have b10 := fun G => HB G 10 _ rfl
  have b11 := fun G => HB G 11 _ rfl
  have b12 := fun G => HB G 12 _ rfl
  have b13 := fun G => HB G 13 _ rfl
  have b14 := fun G => HB G 14 _ rfl
  have b15 := fun G => HB G 15 _ rfl
  clear HB hW hg0 G0
  go_enter Tryz.func10, Tryz.ntmps10
  go_upto_region 1 with fail
  rw [E1.out]
  go_wp2_with (first | (go_at_call 20; (with_reducible refine (HM.out _).mono ?_); rintro e w' ⟨rfl, hb⟩; obtain ⟨g', rfl⟩ := Gr.on _ hb; clear hb) | (go_at_call 21; (with_reducible refine (HS.out _).mono ?_); rintro e w' ⟨rfl, hb⟩; obtain ⟨g', rfl⟩ := Gr.on _ hb; clear hb) | (go_at_call 22; (with_reducible refine (HR.out _).mono ?_); rintro e w' ⟨rfl, hb⟩; obtain ⟨g', rfl⟩ := Gr.on _ hb; clear hb) | (go_at_call 26; (with_reducible refine (H7.out _).mono ?_); rintro e w' ⟨rfl, hb⟩; obtain ⟨g', rfl⟩ := Gr.on _ hb; clear hb) | (go_at_call 28; (with_reducible refine (HC.out _).mono ?_); rintro e w' ⟨rfl, hb⟩; obtain ⟨g', rfl⟩ := Gr.on _ hb; clear hb) | (go_at_call 23; (first | (with_reducible refine (H5.out _).mono ?_) | (with_reducible refine (H6.out _).mono ?_)); rintro e w' ⟨rfl, hb⟩; obtain ⟨g', rfl⟩ := Gr.on _ hb; clear hb))
  go_ret
  exact ⟨rfl, hG.out _⟩
set_option maxRecDepth 100000 in
set_option maxHeartbeats 4000000 in
theorem m11_w2 (start long : Int) (world again : Bool) (fq iv_ ct un : Int) (A1 A2 A3 A4 : Option Addr) (n1 n2 n3 n4 c1 c2 c3 c4 : Nat) (st : Int) (A5 A6 A7 : Option Addr) (n5 n6 n7 c5 c6 c7 : Nat) (w : World) (G0 : Gr w) (W : World)
    (q1 q2 q3 q4 q5 q6 q7 : Bool) (hW : w.alloc (.cells #[.int .i64 start, .int .i64 long, .bool world, .bool again, .int .i64 fq, .int .i64 iv_, .int .i64 ct, .int .i64 un, .slice A1 n1 c1, .slice A2 n2 c2, .slice A3 n3 c3, .slice A4 n4 c4, .int .i64 st, .slice A5 n5 c5, .slice A6 n6 c6, .slice A7 n7 c7] 32) = W) (hG : Hid (∀ g : Gr W, Below w.heap.size w g.val))
    (HB : ∀ (G : Gr W) (k : Nat) (v : Value), (#[.int .i64 start, .int .i64 long, .bool world, .bool again, .int .i64 fq, .int .i64 iv_, .int .i64 ct, .int .i64 un, .slice A1 n1 c1, .slice A2 n2 c2, .slice A3 n3 c3, .slice A4 n4 c4, .int .i64 st, .slice A5 n5 c5, .slice A6 n6 c6, .slice A7 n7 c7] : Array Value)[k]? = some v → G.val.cell? ⟨w.heap.size, k, none⟩ = some v)
    (HM : Hid (∀ g : Gr W, Calls Tryz.prog 20 #[.int .i64 start] g.val fun e w' => e = .returned (.bool q1) ∧ Below g.val.heap.size g.val w'))
    (HS : Hid (∀ g : Gr W, Calls Tryz.prog 21 #[.agg #[.int .i64 fq, .int .i64 iv_, .int .i64 ct, .int .i64 un, .slice A1 n1 c1, .slice A2 n2 c2, .slice A3 n3 c3, .slice A4 n4 c4, .int .i64 st], .agg #[.int .i64 0, .int .i64 0, .int .i64 0, .int .i64 0, .slice none 0 0, .slice none 0 0, .slice none 0 0, .slice none 0 0, .int .i64 0]] g.val fun e w' => e = .returned (.bool q2) ∧ Below g.val.heap.size g.val w'))
    (HR : Hid (∀ g : Gr W, Calls Tryz.prog 22 #[.agg #[.int .i64 fq, .int .i64 iv_, .int .i64 ct, .int .i64 un, .slice A1 n1 c1, .slice A2 n2 c2, .slice A3 n3 c3, .slice A4 n4 c4, .int .i64 st]] g.val fun e w' => e = .returned (.bool q3) ∧ Below g.val.heap.size g.val w'))
    (H5 : Hid (∀ g : Gr W, Calls Tryz.prog 23 #[.slice A5 n5 c5, .func (.func 24) #[] #[]] g.val fun e w' => e = .returned (.bool q4) ∧ Below g.val.heap.size g.val w'))
    (H6 : Hid (∀ g : Gr W, Calls Tryz.prog 23 #[.slice A6 n6 c6, .func (.func 25) #[] #[]] g.val fun e w' => e = .returned (.bool q5) ∧ Below g.val.heap.size g.val w'))
    (H7 : Hid (∀ g : Gr W, Calls Tryz.prog 26 #[.slice A7 n7 c7, .func (.func 27) #[] #[]] g.val fun e w' => e = .returned (.bool q6) ∧ Below g.val.heap.size g.val w'))
    (HC : Hid (∀ g : Gr W, Calls Tryz.prog 28 #[.slice A7 n7 c7, .func (.func 29) #[] #[]] g.val fun e w' => e = .returned (.bool q7) ∧ Below g.val.heap.size g.val w'))
    (hq1 : q1 = true) (hl1 : long < 1)  :
    Calls Tryz.prog 10 #[.agg #[.int .i64 start, .int .i64 long, .bool world, .bool again, .int .i64 fq, .int .i64 iv_, .int .i64 ct, .int .i64 un, .slice A1 n1 c1, .slice A2 n2 c2, .slice A3 n3 c3, .slice A4 n4 c4, .int .i64 st, .slice A5 n5 c5, .slice A6 n6 c6, .slice A7 n7 c7]] w fun e w' => e = .returned (.bool false) ∧ Below w.heap.size w w' := by
  obtain rfl : q1 = true := hq1
  have l1 : decide (long < 1) = true := decide_eq_true hl1
  obtain ⟨g0, hg0⟩ := Gr.start W
  have E1 := Lib.hid (hW.trans hg0)
  have b0 := fun G => HB G 0 _ rfl
  have b1 := fun G => HB G 1 _ rfl
  have b2 := fun G => HB G 2 _ rfl
  have b3 := fun G => HB G 3 _ rfl
  have b4 := fun G => HB G 4 _ rfl
  have b5 := fun G => HB G 5 _ rfl
  have b6 := fun G => HB G 6 _ rfl
  have b7 := fun G => HB G 7 _ rfl
  have b8 := fun G => HB G 8 _ rfl
  have b9 := fun G => HB G 9 _ rfl
  have b10 := fun G => HB G 10 _ rfl
  have b11 := fun G => HB G 11 _ rfl
  have b12 := fun G => HB G 12 _ rfl
  have b13 := fun G => HB G 13 _ rfl
  have b14 := fun G => HB G 14 _ rfl
  have b15 := fun G => HB G 15 _ rfl
  clear HB hW hg0 G0
  go_enter Tryz.func10, Tryz.ntmps10
  go_upto_region 1 with fail
  rw [E1.out]
  go_wp2_with (first | (go_at_call 20; (with_reducible refine (HM.out _).mono ?_); rintro e w' ⟨rfl, hb⟩; obtain ⟨g', rfl⟩ := Gr.on _ hb; clear hb) | (go_at_call 21; (with_reducible refine (HS.out _).mono ?_); rintro e w' ⟨rfl, hb⟩; obtain ⟨g', rfl⟩ := Gr.on _ hb; clear hb) | (go_at_call 22; (with_reducible refine (HR.out _).mono ?_); rintro e w' ⟨rfl, hb⟩; obtain ⟨g', rfl⟩ := Gr.on _ hb; clear hb) | (go_at_call 26; (with_reducible refine (H7.out _).mono ?_); rintro e w' ⟨rfl, hb⟩; obtain ⟨g', rfl⟩ := Gr.on _ hb; clear hb) | (go_at_call 28; (with_reducible refine (HC.out _).mono ?_); rintro e w' ⟨rfl, hb⟩; obtain ⟨g', rfl⟩ := Gr.on _ hb; clear hb) | (go_at_call 23; (first | (with_reducible refine (H5.out _).mono ?_) | (with_reducible refine (H6.out _).mono ?_)); rintro e w' ⟨rfl, hb⟩; obtain ⟨g', rfl⟩ := Gr.on _ hb; clear hb))
  go_ret
  exact ⟨rfl, hG.out _⟩
set_option maxRecDepth 100000 in
set_option maxHeartbeats 4000000 in
theorem m11_w3 (start long : Int) (world again : Bool) (fq iv_ ct un : Int) (A1 A2 A3 A4 : Option Addr) (n1 n2 n3 n4 c1 c2 c3 c4 : Nat) (st : Int) (A5 A6 A7 : Option Addr) (n5 n6 n7 c5 c6 c7 : Nat) (w : World) (G0 : Gr w) (W : World)
    (q1 q2 q3 q4 q5 q6 q7 : Bool) (hW : w.alloc (.cells #[.int .i64 start, .int .i64 long, .bool world, .bool again, .int .i64 fq, .int .i64 iv_, .int .i64 ct, .int .i64 un, .slice A1 n1 c1, .slice A2 n2 c2, .slice A3 n3 c3, .slice A4 n4 c4, .int .i64 st, .slice A5 n5 c5, .slice A6 n6 c6, .slice A7 n7 c7] 32) = W) (hG : Hid (∀ g : Gr W, Below w.heap.size w g.val))
    (HB : ∀ (G : Gr W) (k : Nat) (v : Value), (#[.int .i64 start, .int .i64 long, .bool world, .bool again, .int .i64 fq, .int .i64 iv_, .int .i64 ct, .int .i64 un, .slice A1 n1 c1, .slice A2 n2 c2, .slice A3 n3 c3, .slice A4 n4 c4, .int .i64 st, .slice A5 n5 c5, .slice A6 n6 c6, .slice A7 n7 c7] : Array Value)[k]? = some v → G.val.cell? ⟨w.heap.size, k, none⟩ = some v)
    (HM : Hid (∀ g : Gr W, Calls Tryz.prog 20 #[.int .i64 start] g.val fun e w' => e = .returned (.bool q1) ∧ Below g.val.heap.size g.val w'))
    (HS : Hid (∀ g : Gr W, Calls Tryz.prog 21 #[.agg #[.int .i64 fq, .int .i64 iv_, .int .i64 ct, .int .i64 un, .slice A1 n1 c1, .slice A2 n2 c2, .slice A3 n3 c3, .slice A4 n4 c4, .int .i64 st], .agg #[.int .i64 0, .int .i64 0, .int .i64 0, .int .i64 0, .slice none 0 0, .slice none 0 0, .slice none 0 0, .slice none 0 0, .int .i64 0]] g.val fun e w' => e = .returned (.bool q2) ∧ Below g.val.heap.size g.val w'))
    (HR : Hid (∀ g : Gr W, Calls Tryz.prog 22 #[.agg #[.int .i64 fq, .int .i64 iv_, .int .i64 ct, .int .i64 un, .slice A1 n1 c1, .slice A2 n2 c2, .slice A3 n3 c3, .slice A4 n4 c4, .int .i64 st]] g.val fun e w' => e = .returned (.bool q3) ∧ Below g.val.heap.size g.val w'))
    (H5 : Hid (∀ g : Gr W, Calls Tryz.prog 23 #[.slice A5 n5 c5, .func (.func 24) #[] #[]] g.val fun e w' => e = .returned (.bool q4) ∧ Below g.val.heap.size g.val w'))
    (H6 : Hid (∀ g : Gr W, Calls Tryz.prog 23 #[.slice A6 n6 c6, .func (.func 25) #[] #[]] g.val fun e w' => e = .returned (.bool q5) ∧ Below g.val.heap.size g.val w'))
    (H7 : Hid (∀ g : Gr W, Calls Tryz.prog 26 #[.slice A7 n7 c7, .func (.func 27) #[] #[]] g.val fun e w' => e = .returned (.bool q6) ∧ Below g.val.heap.size g.val w'))
    (HC : Hid (∀ g : Gr W, Calls Tryz.prog 28 #[.slice A7 n7 c7, .func (.func 29) #[] #[]] g.val fun e w' => e = .returned (.bool q7) ∧ Below g.val.heap.size g.val w'))
    (hq1 : q1 = true) (hl1 : 1 ≤ long) (hl2 : 10080 < long)  :
    Calls Tryz.prog 10 #[.agg #[.int .i64 start, .int .i64 long, .bool world, .bool again, .int .i64 fq, .int .i64 iv_, .int .i64 ct, .int .i64 un, .slice A1 n1 c1, .slice A2 n2 c2, .slice A3 n3 c3, .slice A4 n4 c4, .int .i64 st, .slice A5 n5 c5, .slice A6 n6 c6, .slice A7 n7 c7]] w fun e w' => e = .returned (.bool false) ∧ Below w.heap.size w w' := by
  obtain rfl : q1 = true := hq1
  have l1 : decide (long < 1) = false := decide_eq_false (by omega)
  have l1n : ¬ long < 1 := by omega
  have l2 : decide (10080 < long) = true := decide_eq_true hl2
  clear hl1
  obtain ⟨g0, hg0⟩ := Gr.start W
  have E1 := Lib.hid (hW.trans hg0)
  have b0 := fun G => HB G 0 _ rfl
  have b1 := fun G => HB G 1 _ rfl
  have b2 := fun G => HB G 2 _ rfl
  have b3 := fun G => HB G 3 _ rfl
  have b4 := fun G => HB G 4 _ rfl
  have b5 := fun G => HB G 5 _ rfl
  have b6 := fun G => HB G 6 _ rfl
  have b7 := fun G => HB G 7 _ rfl
  have b8 := fun G => HB G 8 _ rfl
  have b9 := fun G => HB G 9 _ rfl
  have b10 := fun G => HB G 10 _ rfl
  have b11 := fun G => HB G 11 _ rfl
  have b12 := fun G => HB G 12 _ rfl
  have b13 := fun G => HB G 13 _ rfl
  have b14 := fun G => HB G 14 _ rfl
  have b15 := fun G => HB G 15 _ rfl
  clear HB hW hg0 G0
  go_enter Tryz.func10, Tryz.ntmps10
  go_upto_region 1 with fail
  rw [E1.out]
  go_wp2_with (first | (go_at_call 20; (with_reducible refine (HM.out _).mono ?_); rintro e w' ⟨rfl, hb⟩; obtain ⟨g', rfl⟩ := Gr.on _ hb; clear hb) | (go_at_call 21; (with_reducible refine (HS.out _).mono ?_); rintro e w' ⟨rfl, hb⟩; obtain ⟨g', rfl⟩ := Gr.on _ hb; clear hb) | (go_at_call 22; (with_reducible refine (HR.out _).mono ?_); rintro e w' ⟨rfl, hb⟩; obtain ⟨g', rfl⟩ := Gr.on _ hb; clear hb) | (go_at_call 26; (with_reducible refine (H7.out _).mono ?_); rintro e w' ⟨rfl, hb⟩; obtain ⟨g', rfl⟩ := Gr.on _ hb; clear hb) | (go_at_call 28; (with_reducible refine (HC.out _).mono ?_); rintro e w' ⟨rfl, hb⟩; obtain ⟨g', rfl⟩ := Gr.on _ hb; clear hb) | (go_at_call 23; (first | (with_reducible refine (H5.out _).mono ?_) | (with_reducible refine (H6.out _).mono ?_)); rintro e w' ⟨rfl, hb⟩; obtain ⟨g', rfl⟩ := Gr.on _ hb; clear hb))
  go_ret
  exact ⟨rfl, hG.out _⟩
set_option maxRecDepth 100000 in
set_option maxHeartbeats 4000000 in
theorem m11_s1 (start long : Int) (world again : Bool) (fq iv_ ct un : Int) (A1 A2 A3 A4 : Option Addr) (n1 n2 n3 n4 c1 c2 c3 c4 : Nat) (st : Int) (A5 A6 A7 : Option Addr) (n5 n6 n7 c5 c6 c7 : Nat) (w : World) (G0 : Gr w) (W : World)
    (q1 q2 q3 q4 q5 q6 q7 : Bool) (hW : w.alloc (.cells #[.int .i64 start, .int .i64 long, .bool world, .bool again, .int .i64 fq, .int .i64 iv_, .int .i64 ct, .int .i64 un, .slice A1 n1 c1, .slice A2 n2 c2, .slice A3 n3 c3, .slice A4 n4 c4, .int .i64 st, .slice A5 n5 c5, .slice A6 n6 c6, .slice A7 n7 c7] 32) = W) (hG : Hid (∀ g : Gr W, Below w.heap.size w g.val))
    (HB : ∀ (G : Gr W) (k : Nat) (v : Value), (#[.int .i64 start, .int .i64 long, .bool world, .bool again, .int .i64 fq, .int .i64 iv_, .int .i64 ct, .int .i64 un, .slice A1 n1 c1, .slice A2 n2 c2, .slice A3 n3 c3, .slice A4 n4 c4, .int .i64 st, .slice A5 n5 c5, .slice A6 n6 c6, .slice A7 n7 c7] : Array Value)[k]? = some v → G.val.cell? ⟨w.heap.size, k, none⟩ = some v)
    (HM : Hid (∀ g : Gr W, Calls Tryz.prog 20 #[.int .i64 start] g.val fun e w' => e = .returned (.bool q1) ∧ Below g.val.heap.size g.val w'))
    (HS : Hid (∀ g : Gr W, Calls Tryz.prog 21 #[.agg #[.int .i64 fq, .int .i64 iv_, .int .i64 ct, .int .i64 un, .slice A1 n1 c1, .slice A2 n2 c2, .slice A3 n3 c3, .slice A4 n4 c4, .int .i64 st], .agg #[.int .i64 0, .int .i64 0, .int .i64 0, .int .i64 0, .slice none 0 0, .slice none 0 0, .slice none 0 0, .slice none 0 0, .int .i64 0]] g.val fun e w' => e = .returned (.bool q2) ∧ Below g.val.heap.size g.val w'))
    (HR : Hid (∀ g : Gr W, Calls Tryz.prog 22 #[.agg #[.int .i64 fq, .int .i64 iv_, .int .i64 ct, .int .i64 un, .slice A1 n1 c1, .slice A2 n2 c2, .slice A3 n3 c3, .slice A4 n4 c4, .int .i64 st]] g.val fun e w' => e = .returned (.bool q3) ∧ Below g.val.heap.size g.val w'))
    (H5 : Hid (∀ g : Gr W, Calls Tryz.prog 23 #[.slice A5 n5 c5, .func (.func 24) #[] #[]] g.val fun e w' => e = .returned (.bool q4) ∧ Below g.val.heap.size g.val w'))
    (H6 : Hid (∀ g : Gr W, Calls Tryz.prog 23 #[.slice A6 n6 c6, .func (.func 25) #[] #[]] g.val fun e w' => e = .returned (.bool q5) ∧ Below g.val.heap.size g.val w'))
    (H7 : Hid (∀ g : Gr W, Calls Tryz.prog 26 #[.slice A7 n7 c7, .func (.func 27) #[] #[]] g.val fun e w' => e = .returned (.bool q6) ∧ Below g.val.heap.size g.val w'))
    (HC : Hid (∀ g : Gr W, Calls Tryz.prog 28 #[.slice A7 n7 c7, .func (.func 29) #[] #[]] g.val fun e w' => e = .returned (.bool q7) ∧ Below g.val.heap.size g.val w'))
    (hq1 : q1 = true) (hl1 : 1 ≤ long) (hl2 : long ≤ 10080) (ha : again = false) (hq2 : q2 = false)  :
    Calls Tryz.prog 10 #[.agg #[.int .i64 start, .int .i64 long, .bool world, .bool again, .int .i64 fq, .int .i64 iv_, .int .i64 ct, .int .i64 un, .slice A1 n1 c1, .slice A2 n2 c2, .slice A3 n3 c3, .slice A4 n4 c4, .int .i64 st, .slice A5 n5 c5, .slice A6 n6 c6, .slice A7 n7 c7]] w fun e w' => e = .returned (.bool false) ∧ Below w.heap.size w w' := by
  obtain rfl : q1 = true := hq1
  have l1 : decide (long < 1) = false := decide_eq_false (by omega)
  have l2 : decide (10080 < long) = false := decide_eq_false (by omega)
  have l1n : ¬ long < 1 := by omega
  have l2n : ¬ 10080 < long := by omega
  clear hl1 hl2
  obtain rfl : again = false := ha
  obtain rfl : q2 = false := hq2
  obtain ⟨g0, hg0⟩ := Gr.start W
  have E1 := Lib.hid (hW.trans hg0)
  have b0 := fun G => HB G 0 _ rfl
  have b1 := fun G => HB G 1 _ rfl
  have b2 := fun G => HB G 2 _ rfl
  have b3 := fun G => HB G 3 _ rfl
  have b4 := fun G => HB G 4 _ rfl
  have b5 := fun G => HB G 5 _ rfl
  have b6 := fun G => HB G 6 _ rfl
  have b7 := fun G => HB G 7 _ rfl
  have b8 := fun G => HB G 8 _ rfl
  have b9 := fun G => HB G 9 _ rfl
  have b10 := fun G => HB G 10 _ rfl
  have b11 := fun G => HB G 11 _ rfl
  have b12 := fun G => HB G 12 _ rfl
  have b13 := fun G => HB G 13 _ rfl
  have b14 := fun G => HB G 14 _ rfl
  have b15 := fun G => HB G 15 _ rfl
  clear HB hW hg0 G0
  go_enter Tryz.func10, Tryz.ntmps10
  go_upto_region 1 with fail
  rw [E1.out]
  go_wp2_with (first | (go_at_call 20; (with_reducible refine (HM.out _).mono ?_); rintro e w' ⟨rfl, hb⟩; obtain ⟨g', rfl⟩ := Gr.on _ hb; clear hb) | (go_at_call 21; (with_reducible refine (HS.out _).mono ?_); rintro e w' ⟨rfl, hb⟩; obtain ⟨g', rfl⟩ := Gr.on _ hb; clear hb) | (go_at_call 22; (with_reducible refine (HR.out _).mono ?_); rintro e w' ⟨rfl, hb⟩; obtain ⟨g', rfl⟩ := Gr.on _ hb; clear hb) | (go_at_call 26; (with_reducible refine (H7.out _).mono ?_); rintro e w' ⟨rfl, hb⟩; obtain ⟨g', rfl⟩ := Gr.on _ hb; clear hb) | (go_at_call 28; (with_reducible refine (HC.out _).mono ?_); rintro e w' ⟨rfl, hb⟩; obtain ⟨g', rfl⟩ := Gr.on _ hb; clear hb) | (go_at_call 23; (first | (with_reducible refine (H5.out _).mono ?_) | (with_reducible refine (H6.out _).mono ?_)); rintro e w' ⟨rfl, hb⟩; obtain ⟨g', rfl⟩ := Gr.on _ hb; clear hb))
  go_ret
  exact ⟨rfl, hG.out _⟩
set_option maxRecDepth 100000 in
set_option maxHeartbeats 4000000 in
theorem m11_s2 (start long : Int) (world again : Bool) (fq iv_ ct un : Int) (A1 A2 A3 A4 : Option Addr) (n1 n2 n3 n4 c1 c2 c3 c4 : Nat) (st : Int) (A5 A6 A7 : Option Addr) (n5 n6 n7 c5 c6 c7 : Nat) (w : World) (G0 : Gr w) (W : World)
    (q1 q2 q3 q4 q5 q6 q7 : Bool) (hW : w.alloc (.cells #[.int .i64 start, .int .i64 long, .bool world, .bool again, .int .i64 fq, .int .i64 iv_, .int .i64 ct, .int .i64 un, .slice A1 n1 c1, .slice A2 n2 c2, .slice A3 n3 c3, .slice A4 n4 c4, .int .i64 st, .slice A5 n5 c5, .slice A6 n6 c6, .slice A7 n7 c7] 32) = W) (hG : Hid (∀ g : Gr W, Below w.heap.size w g.val))
    (HB : ∀ (G : Gr W) (k : Nat) (v : Value), (#[.int .i64 start, .int .i64 long, .bool world, .bool again, .int .i64 fq, .int .i64 iv_, .int .i64 ct, .int .i64 un, .slice A1 n1 c1, .slice A2 n2 c2, .slice A3 n3 c3, .slice A4 n4 c4, .int .i64 st, .slice A5 n5 c5, .slice A6 n6 c6, .slice A7 n7 c7] : Array Value)[k]? = some v → G.val.cell? ⟨w.heap.size, k, none⟩ = some v)
    (HM : Hid (∀ g : Gr W, Calls Tryz.prog 20 #[.int .i64 start] g.val fun e w' => e = .returned (.bool q1) ∧ Below g.val.heap.size g.val w'))
    (HS : Hid (∀ g : Gr W, Calls Tryz.prog 21 #[.agg #[.int .i64 fq, .int .i64 iv_, .int .i64 ct, .int .i64 un, .slice A1 n1 c1, .slice A2 n2 c2, .slice A3 n3 c3, .slice A4 n4 c4, .int .i64 st], .agg #[.int .i64 0, .int .i64 0, .int .i64 0, .int .i64 0, .slice none 0 0, .slice none 0 0, .slice none 0 0, .slice none 0 0, .int .i64 0]] g.val fun e w' => e = .returned (.bool q2) ∧ Below g.val.heap.size g.val w'))
    (HR : Hid (∀ g : Gr W, Calls Tryz.prog 22 #[.agg #[.int .i64 fq, .int .i64 iv_, .int .i64 ct, .int .i64 un, .slice A1 n1 c1, .slice A2 n2 c2, .slice A3 n3 c3, .slice A4 n4 c4, .int .i64 st]] g.val fun e w' => e = .returned (.bool q3) ∧ Below g.val.heap.size g.val w'))
    (H5 : Hid (∀ g : Gr W, Calls Tryz.prog 23 #[.slice A5 n5 c5, .func (.func 24) #[] #[]] g.val fun e w' => e = .returned (.bool q4) ∧ Below g.val.heap.size g.val w'))
    (H6 : Hid (∀ g : Gr W, Calls Tryz.prog 23 #[.slice A6 n6 c6, .func (.func 25) #[] #[]] g.val fun e w' => e = .returned (.bool q5) ∧ Below g.val.heap.size g.val w'))
    (H7 : Hid (∀ g : Gr W, Calls Tryz.prog 26 #[.slice A7 n7 c7, .func (.func 27) #[] #[]] g.val fun e w' => e = .returned (.bool q6) ∧ Below g.val.heap.size g.val w'))
    (HC : Hid (∀ g : Gr W, Calls Tryz.prog 28 #[.slice A7 n7 c7, .func (.func 29) #[] #[]] g.val fun e w' => e = .returned (.bool q7) ∧ Below g.val.heap.size g.val w'))
    (hq1 : q1 = true) (hl1 : 1 ≤ long) (hl2 : long ≤ 10080) (ha : again = false) (hq2 : q2 = true) (hz5 : ¬ n5 = 0)  :
    Calls Tryz.prog 10 #[.agg #[.int .i64 start, .int .i64 long, .bool world, .bool again, .int .i64 fq, .int .i64 iv_, .int .i64 ct, .int .i64 un, .slice A1 n1 c1, .slice A2 n2 c2, .slice A3 n3 c3, .slice A4 n4 c4, .int .i64 st, .slice A5 n5 c5, .slice A6 n6 c6, .slice A7 n7 c7]] w fun e w' => e = .returned (.bool false) ∧ Below w.heap.size w w' := by
  obtain rfl : q1 = true := hq1
  have l1 : decide (long < 1) = false := decide_eq_false (by omega)
  have l2 : decide (10080 < long) = false := decide_eq_false (by omega)
  have l1n : ¬ long < 1 := by omega
  have l2n : ¬ 10080 < long := by omega
  clear hl1 hl2
  obtain rfl : again = false := ha
  obtain rfl : q2 = true := hq2
  have z5 : ((n5 : Int) == 0) = false := beq_eq_false_iff_ne.2 (by omega)
  have y5 : (n5 == 0) = false := beq_eq_false_iff_ne.2 hz5
  obtain ⟨g0, hg0⟩ := Gr.start W
  have E1 := Lib.hid (hW.trans hg0)
  have b0 := fun G => HB G 0 _ rfl
  have b1 := fun G => HB G 1 _ rfl
  have b2 := fun G => HB G 2 _ rfl
  have b3 := fun G => HB G 3 _ rfl
  have b4 := fun G => HB G 4 _ rfl
  have b5 := fun G => HB G 5 _ rfl
  have b6 := fun G => HB G 6 _ rfl
  have b7 := fun G => HB G 7 _ rfl
  have b8 := fun G => HB G 8 _ rfl
  have b9 := fun G => HB G 9 _ rfl
  have b10 := fun G => HB G 10 _ rfl
  have b11 := fun G => HB G 11 _ rfl
  have b12 := fun G => HB G 12 _ rfl
  have b13 := fun G => HB G 13 _ rfl
  have b14 := fun G => HB G 14 _ rfl
  have b15 := fun G => HB G 15 _ rfl
  clear HB hW hg0 G0
  go_enter Tryz.func10, Tryz.ntmps10
  go_upto_region 1 with fail
  rw [E1.out]
  go_wp2_with (first | (go_at_call 20; (with_reducible refine (HM.out _).mono ?_); rintro e w' ⟨rfl, hb⟩; obtain ⟨g', rfl⟩ := Gr.on _ hb; clear hb) | (go_at_call 21; (with_reducible refine (HS.out _).mono ?_); rintro e w' ⟨rfl, hb⟩; obtain ⟨g', rfl⟩ := Gr.on _ hb; clear hb) | (go_at_call 22; (with_reducible refine (HR.out _).mono ?_); rintro e w' ⟨rfl, hb⟩; obtain ⟨g', rfl⟩ := Gr.on _ hb; clear hb) | (go_at_call 26; (with_reducible refine (H7.out _).mono ?_); rintro e w' ⟨rfl, hb⟩; obtain ⟨g', rfl⟩ := Gr.on _ hb; clear hb) | (go_at_call 28; (with_reducible refine (HC.out _).mono ?_); rintro e w' ⟨rfl, hb⟩; obtain ⟨g', rfl⟩ := Gr.on _ hb; clear hb) | (go_at_call 23; (first | (with_reducible refine (H5.out _).mono ?_) | (with_reducible refine (H6.out _).mono ?_)); rintro e w' ⟨rfl, hb⟩; obtain ⟨g', rfl⟩ := Gr.on _ hb; clear hb))
  go_ret
  exact ⟨rfl, hG.out _⟩
set_option maxRecDepth 100000 in
set_option maxHeartbeats 4000000 in
theorem m11_s3 (start long : Int) (world again : Bool) (fq iv_ ct un : Int) (A1 A2 A3 A4 : Option Addr) (n1 n2 n3 n4 c1 c2 c3 c4 : Nat) (st : Int) (A5 A6 A7 : Option Addr) (n5 n6 n7 c5 c6 c7 : Nat) (w : World) (G0 : Gr w) (W : World)
    (q1 q2 q3 q4 q5 q6 q7 : Bool) (hW : w.alloc (.cells #[.int .i64 start, .int .i64 long, .bool world, .bool again, .int .i64 fq, .int .i64 iv_, .int .i64 ct, .int .i64 un, .slice A1 n1 c1, .slice A2 n2 c2, .slice A3 n3 c3, .slice A4 n4 c4, .int .i64 st, .slice A5 n5 c5, .slice A6 n6 c6, .slice A7 n7 c7] 32) = W) (hG : Hid (∀ g : Gr W, Below w.heap.size w g.val))
    (HB : ∀ (G : Gr W) (k : Nat) (v : Value), (#[.int .i64 start, .int .i64 long, .bool world, .bool again, .int .i64 fq, .int .i64 iv_, .int .i64 ct, .int .i64 un, .slice A1 n1 c1, .slice A2 n2 c2, .slice A3 n3 c3, .slice A4 n4 c4, .int .i64 st, .slice A5 n5 c5, .slice A6 n6 c6, .slice A7 n7 c7] : Array Value)[k]? = some v → G.val.cell? ⟨w.heap.size, k, none⟩ = some v)
    (HM : Hid (∀ g : Gr W, Calls Tryz.prog 20 #[.int .i64 start] g.val fun e w' => e = .returned (.bool q1) ∧ Below g.val.heap.size g.val w'))
    (HS : Hid (∀ g : Gr W, Calls Tryz.prog 21 #[.agg #[.int .i64 fq, .int .i64 iv_, .int .i64 ct, .int .i64 un, .slice A1 n1 c1, .slice A2 n2 c2, .slice A3 n3 c3, .slice A4 n4 c4, .int .i64 st], .agg #[.int .i64 0, .int .i64 0, .int .i64 0, .int .i64 0, .slice none 0 0, .slice none 0 0, .slice none 0 0, .slice none 0 0, .int .i64 0]] g.val fun e w' => e = .returned (.bool q2) ∧ Below g.val.heap.size g.val w'))
    (HR : Hid (∀ g : Gr W, Calls Tryz.prog 22 #[.agg #[.int .i64 fq, .int .i64 iv_, .int .i64 ct, .int .i64 un, .slice A1 n1 c1, .slice A2 n2 c2, .slice A3 n3 c3, .slice A4 n4 c4, .int .i64 st]] g.val fun e w' => e = .returned (.bool q3) ∧ Below g.val.heap.size g.val w'))
    (H5 : Hid (∀ g : Gr W, Calls Tryz.prog 23 #[.slice A5 n5 c5, .func (.func 24) #[] #[]] g.val fun e w' => e = .returned (.bool q4) ∧ Below g.val.heap.size g.val w'))
    (H6 : Hid (∀ g : Gr W, Calls Tryz.prog 23 #[.slice A6 n6 c6, .func (.func 25) #[] #[]] g.val fun e w' => e = .returned (.bool q5) ∧ Below g.val.heap.size g.val w'))
    (H7 : Hid (∀ g : Gr W, Calls Tryz.prog 26 #[.slice A7 n7 c7, .func (.func 27) #[] #[]] g.val fun e w' => e = .returned (.bool q6) ∧ Below g.val.heap.size g.val w'))
    (HC : Hid (∀ g : Gr W, Calls Tryz.prog 28 #[.slice A7 n7 c7, .func (.func 29) #[] #[]] g.val fun e w' => e = .returned (.bool q7) ∧ Below g.val.heap.size g.val w'))
    (hq1 : q1 = true) (hl1 : 1 ≤ long) (hl2 : long ≤ 10080) (ha : again = false) (hq2 : q2 = true) (hz5 : n5 = 0) (hz6 : ¬ n6 = 0)  :
    Calls Tryz.prog 10 #[.agg #[.int .i64 start, .int .i64 long, .bool world, .bool again, .int .i64 fq, .int .i64 iv_, .int .i64 ct, .int .i64 un, .slice A1 n1 c1, .slice A2 n2 c2, .slice A3 n3 c3, .slice A4 n4 c4, .int .i64 st, .slice A5 n5 c5, .slice A6 n6 c6, .slice A7 n7 c7]] w fun e w' => e = .returned (.bool false) ∧ Below w.heap.size w w' := by
  obtain rfl : q1 = true := hq1
  have l1 : decide (long < 1) = false := decide_eq_false (by omega)
  have l2 : decide (10080 < long) = false := decide_eq_false (by omega)
  have l1n : ¬ long < 1 := by omega
  have l2n : ¬ 10080 < long := by omega
  clear hl1 hl2
  obtain rfl : again = false := ha
  obtain rfl : q2 = true := hq2
  have z5 : ((n5 : Int) == 0) = true := by rw [hz5]; rfl
  obtain rfl : n5 = 0 := hz5
  have z6 : ((n6 : Int) == 0) = false := beq_eq_false_iff_ne.2 (by omega)
  have y6 : (n6 == 0) = false := beq_eq_false_iff_ne.2 hz6
  obtain ⟨g0, hg0⟩ := Gr.start W
  have E1 := Lib.hid (hW.trans hg0)
  have b0 := fun G => HB G 0 _ rfl
  have b1 := fun G => HB G 1 _ rfl
  have b2 := fun G => HB G 2 _ rfl
  have b3 := fun G => HB G 3 _ rfl
  have b4 := fun G => HB G 4 _ rfl
  have b5 := fun G => HB G 5 _ rfl
  have b6 := fun G => HB G 6 _ rfl
  have b7 := fun G => HB G 7 _ rfl
  have b8 := fun G => HB G 8 _ rfl
  have b9 := fun G => HB G 9 _ rfl
  have b10 := fun G => HB G 10 _ rfl
  have b11 := fun G => HB G 11 _ rfl
  have b12 := fun G => HB G 12 _ rfl
  have b13 := fun G => HB G 13 _ rfl
  have b14 := fun G => HB G 14 _ rfl
  have b15 := fun G => HB G 15 _ rfl
  clear HB hW hg0 G0
  go_enter Tryz.func10, Tryz.ntmps10
  go_upto_region 1 with fail
  rw [E1.out]
  go_wp2_with (first | (go_at_call 20; (with_reducible refine (HM.out _).mono ?_); rintro e w' ⟨rfl, hb⟩; obtain ⟨g', rfl⟩ := Gr.on _ hb; clear hb) | (go_at_call 21; (with_reducible refine (HS.out _).mono ?_); rintro e w' ⟨rfl, hb⟩; obtain ⟨g', rfl⟩ := Gr.on _ hb; clear hb) | (go_at_call 22; (with_reducible refine (HR.out _).mono ?_); rintro e w' ⟨rfl, hb⟩; obtain ⟨g', rfl⟩ := Gr.on _ hb; clear hb) | (go_at_call 26; (with_reducible refine (H7.out _).mono ?_); rintro e w' ⟨rfl, hb⟩; obtain ⟨g', rfl⟩ := Gr.on _ hb; clear hb) | (go_at_call 28; (with_reducible refine (HC.out _).mono ?_); rintro e w' ⟨rfl, hb⟩; obtain ⟨g', rfl⟩ := Gr.on _ hb; clear hb) | (go_at_call 23; (first | (with_reducible refine (H5.out _).mono ?_) | (with_reducible refine (H6.out _).mono ?_)); rintro e w' ⟨rfl, hb⟩; obtain ⟨g', rfl⟩ := Gr.on _ hb; clear hb))
  go_ret
  exact ⟨rfl, hG.out _⟩
set_option maxRecDepth 100000 in
set_option maxHeartbeats 4000000 in
theorem m11_s4 (start long : Int) (world again : Bool) (fq iv_ ct un : Int) (A1 A2 A3 A4 : Option Addr) (n1 n2 n3 n4 c1 c2 c3 c4 : Nat) (st : Int) (A5 A6 A7 : Option Addr) (n5 n6 n7 c5 c6 c7 : Nat) (w : World) (G0 : Gr w) (W : World)
    (q1 q2 q3 q4 q5 q6 q7 : Bool) (hW : w.alloc (.cells #[.int .i64 start, .int .i64 long, .bool world, .bool again, .int .i64 fq, .int .i64 iv_, .int .i64 ct, .int .i64 un, .slice A1 n1 c1, .slice A2 n2 c2, .slice A3 n3 c3, .slice A4 n4 c4, .int .i64 st, .slice A5 n5 c5, .slice A6 n6 c6, .slice A7 n7 c7] 32) = W) (hG : Hid (∀ g : Gr W, Below w.heap.size w g.val))
    (HB : ∀ (G : Gr W) (k : Nat) (v : Value), (#[.int .i64 start, .int .i64 long, .bool world, .bool again, .int .i64 fq, .int .i64 iv_, .int .i64 ct, .int .i64 un, .slice A1 n1 c1, .slice A2 n2 c2, .slice A3 n3 c3, .slice A4 n4 c4, .int .i64 st, .slice A5 n5 c5, .slice A6 n6 c6, .slice A7 n7 c7] : Array Value)[k]? = some v → G.val.cell? ⟨w.heap.size, k, none⟩ = some v)
    (HM : Hid (∀ g : Gr W, Calls Tryz.prog 20 #[.int .i64 start] g.val fun e w' => e = .returned (.bool q1) ∧ Below g.val.heap.size g.val w'))
    (HS : Hid (∀ g : Gr W, Calls Tryz.prog 21 #[.agg #[.int .i64 fq, .int .i64 iv_, .int .i64 ct, .int .i64 un, .slice A1 n1 c1, .slice A2 n2 c2, .slice A3 n3 c3, .slice A4 n4 c4, .int .i64 st], .agg #[.int .i64 0, .int .i64 0, .int .i64 0, .int .i64 0, .slice none 0 0, .slice none 0 0, .slice none 0 0, .slice none 0 0, .int .i64 0]] g.val fun e w' => e = .returned (.bool q2) ∧ Below g.val.heap.size g.val w'))
    (HR : Hid (∀ g : Gr W, Calls Tryz.prog 22 #[.agg #[.int .i64 fq, .int .i64 iv_, .int .i64 ct, .int .i64 un, .slice A1 n1 c1, .slice A2 n2 c2, .slice A3 n3 c3, .slice A4 n4 c4, .int .i64 st]] g.val fun e w' => e = .returned (.bool q3) ∧ Below g.val.heap.size g.val w'))
    (H5 : Hid (∀ g : Gr W, Calls Tryz.prog 23 #[.slice A5 n5 c5, .func (.func 24) #[] #[]] g.val fun e w' => e = .returned (.bool q4) ∧ Below g.val.heap.size g.val w'))
    (H6 : Hid (∀ g : Gr W, Calls Tryz.prog 23 #[.slice A6 n6 c6, .func (.func 25) #[] #[]] g.val fun e w' => e = .returned (.bool q5) ∧ Below g.val.heap.size g.val w'))
    (H7 : Hid (∀ g : Gr W, Calls Tryz.prog 26 #[.slice A7 n7 c7, .func (.func 27) #[] #[]] g.val fun e w' => e = .returned (.bool q6) ∧ Below g.val.heap.size g.val w'))
    (HC : Hid (∀ g : Gr W, Calls Tryz.prog 28 #[.slice A7 n7 c7, .func (.func 29) #[] #[]] g.val fun e w' => e = .returned (.bool q7) ∧ Below g.val.heap.size g.val w'))
    (hq1 : q1 = true) (hl1 : 1 ≤ long) (hl2 : long ≤ 10080) (ha : again = false) (hq2 : q2 = true) (hz5 : n5 = 0) (hz6 : n6 = 0) (hz7 : ¬ n7 = 0)  :
    Calls Tryz.prog 10 #[.agg #[.int .i64 start, .int .i64 long, .bool world, .bool again, .int .i64 fq, .int .i64 iv_, .int .i64 ct, .int .i64 un, .slice A1 n1 c1, .slice A2 n2 c2, .slice A3 n3 c3, .slice A4 n4 c4, .int .i64 st, .slice A5 n5 c5, .slice A6 n6 c6, .slice A7 n7 c7]] w fun e w' => e = .returned (.bool false) ∧ Below w.heap.size w w' := by
  obtain rfl : q1 = true := hq1
  have l1 : decide (long < 1) = false := decide_eq_false (by omega)
  have l2 : decide (10080 < long) = false := decide_eq_false (by omega)
  have l1n : ¬ long < 1 := by omega
  have l2n : ¬ 10080 < long := by omega
  clear hl1 hl2
  obtain rfl : again = false := ha
  obtain rfl : q2 = true := hq2
  have z5 : ((n5 : Int) == 0) = true := by rw [hz5]; rfl
  obtain rfl : n5 = 0 := hz5
  have z6 : ((n6 : Int) == 0) = true := by rw [hz6]; rfl
  obtain rfl : n6 = 0 := hz6
  have z7 : ((n7 : Int) == 0) = false := beq_eq_false_iff_ne.2 (by omega)
  have y7 : (n7 == 0) = false := beq_eq_false_iff_ne.2 hz7
  obtain ⟨g0, hg0⟩ := Gr.start W
  have E1 := Lib.hid (hW.trans hg0)
  have b0 := fun G => HB G 0 _ rfl
  have b1 := fun G => HB G 1 _ rfl
  have b2 := fun G => HB G 2 _ rfl
  have b3 := fun G => HB G 3 _ rfl
  have b4 := fun G => HB G 4 _ rfl
  have b5 := fun G => HB G 5 _ rfl
  have b6 := fun G => HB G 6 _ rfl
  have b7 := fun G => HB G 7 _ rfl
  have b8 := fun G => HB G 8 _ rfl
  have b9 := fun G => HB G 9 _ rfl
  have b10 := fun G => HB G 10 _ rfl
  have b11 := fun G => HB G 11 _ rfl
  have b12 := fun G => HB G 12 _ rfl
  have b13 := fun G => HB G 13 _ rfl
  have b14 := fun G => HB G 14 _ rfl
  have b15 := fun G => HB G 15 _ rfl
  clear HB hW hg0 G0
  go_enter Tryz.func10, Tryz.ntmps10
  go_upto_region 1 with fail
  rw [E1.out]
  go_wp2_with (first | (go_at_call 20; (with_reducible refine (HM.out _).mono ?_); rintro e w' ⟨rfl, hb⟩; obtain ⟨g', rfl⟩ := Gr.on _ hb; clear hb) | (go_at_call 21; (with_reducible refine (HS.out _).mono ?_); rintro e w' ⟨rfl, hb⟩; obtain ⟨g', rfl⟩ := Gr.on _ hb; clear hb) | (go_at_call 22; (with_reducible refine (HR.out _).mono ?_); rintro e w' ⟨rfl, hb⟩; obtain ⟨g', rfl⟩ := Gr.on _ hb; clear hb) | (go_at_call 26; (with_reducible refine (H7.out _).mono ?_); rintro e w' ⟨rfl, hb⟩; obtain ⟨g', rfl⟩ := Gr.on _ hb; clear hb) | (go_at_call 28; (with_reducible refine (HC.out _).mono ?_); rintro e w' ⟨rfl, hb⟩; obtain ⟨g', rfl⟩ := Gr.on _ hb; clear hb) | (go_at_call 23; (first | (with_reducible refine (H5.out _).mono ?_) | (with_reducible refine (H6.out _).mono ?_)); rintro e w' ⟨rfl, hb⟩; obtain ⟨g', rfl⟩ := Gr.on _ hb; clear hb))
  go_ret
  exact ⟨rfl, hG.out _⟩
set_option maxRecDepth 100000 in
set_option maxHeartbeats 4000000 in
theorem m11_s5 (start long : Int) (world again : Bool) (fq iv_ ct un : Int) (A1 A2 A3 A4 : Option Addr) (n1 n2 n3 n4 c1 c2 c3 c4 : Nat) (st : Int) (A5 A6 A7 : Option Addr) (n5 n6 n7 c5 c6 c7 : Nat) (w : World) (G0 : Gr w) (W : World)
    (q1 q2 q3 q4 q5 q6 q7 : Bool) (hW : w.alloc (.cells #[.int .i64 start, .int .i64 long, .bool world, .bool again, .int .i64 fq, .int .i64 iv_, .int .i64 ct, .int .i64 un, .slice A1 n1 c1, .slice A2 n2 c2, .slice A3 n3 c3, .slice A4 n4 c4, .int .i64 st, .slice A5 n5 c5, .slice A6 n6 c6, .slice A7 n7 c7] 32) = W) (hG : Hid (∀ g : Gr W, Below w.heap.size w g.val))
    (HB : ∀ (G : Gr W) (k : Nat) (v : Value), (#[.int .i64 start, .int .i64 long, .bool world, .bool again, .int .i64 fq, .int .i64 iv_, .int .i64 ct, .int .i64 un, .slice A1 n1 c1, .slice A2 n2 c2, .slice A3 n3 c3, .slice A4 n4 c4, .int .i64 st, .slice A5 n5 c5, .slice A6 n6 c6, .slice A7 n7 c7] : Array Value)[k]? = some v → G.val.cell? ⟨w.heap.size, k, none⟩ = some v)
    (HM : Hid (∀ g : Gr W, Calls Tryz.prog 20 #[.int .i64 start] g.val fun e w' => e = .returned (.bool q1) ∧ Below g.val.heap.size g.val w'))
    (HS : Hid (∀ g : Gr W, Calls Tryz.prog 21 #[.agg #[.int .i64 fq, .int .i64 iv_, .int .i64 ct, .int .i64 un, .slice A1 n1 c1, .slice A2 n2 c2, .slice A3 n3 c3, .slice A4 n4 c4, .int .i64 st], .agg #[.int .i64 0, .int .i64 0, .int .i64 0, .int .i64 0, .slice none 0 0, .slice none 0 0, .slice none 0 0, .slice none 0 0, .int .i64 0]] g.val fun e w' => e = .returned (.bool q2) ∧ Below g.val.heap.size g.val w'))
    (HR : Hid (∀ g : Gr W, Calls Tryz.prog 22 #[.agg #[.int .i64 fq, .int .i64 iv_, .int .i64 ct, .int .i64 un, .slice A1 n1 c1, .slice A2 n2 c2, .slice A3 n3 c3, .slice A4 n4 c4, .int .i64 st]] g.val fun e w' => e = .returned (.bool q3) ∧ Below g.val.heap.size g.val w'))
    (H5 : Hid (∀ g : Gr W, Calls Tryz.prog 23 #[.slice A5 n5 c5, .func (.func 24) #[] #[]] g.val fun e w' => e = .returned (.bool q4) ∧ Below g.val.heap.size g.val w'))
    (H6 : Hid (∀ g : Gr W, Calls Tryz.prog 23 #[.slice A6 n6 c6, .func (.func 25) #[] #[]] g.val fun e w' => e = .returned (.bool q5) ∧ Below g.val.heap.size g.val w'))
    (H7 : Hid (∀ g : Gr W, Calls Tryz.prog 26 #[.slice A7 n7 c7, .func (.func 27) #[] #[]] g.val fun e w' => e = .returned (.bool q6) ∧ Below g.val.heap.size g.val w'))
    (HC : Hid (∀ g : Gr W, Calls Tryz.prog 28 #[.slice A7 n7 c7, .func (.func 29) #[] #[]] g.val fun e w' => e = .returned (.bool q7) ∧ Below g.val.heap.size g.val w'))
    (hq1 : q1 = true) (hl1 : 1 ≤ long) (hl2 : long ≤ 10080) (ha : again = false) (hq2 : q2 = true) (hz5 : n5 = 0) (hz6 : n6 = 0) (hz7 : n7 = 0)  :
    Calls Tryz.prog 10 #[.agg #[.int .i64 start, .int .i64 long, .bool world, .bool again, .int .i64 fq, .int .i64 iv_, .int .i64 ct, .int .i64 un, .slice A1 n1 c1, .slice A2 n2 c2, .slice A3 n3 c3, .slice A4 n4 c4, .int .i64 st, .slice A5 n5 c5, .slice A6 n6 c6, .slice A7 n7 c7]] w fun e w' => e = .returned (.bool true) ∧ Below w.heap.size w w' := by
  obtain rfl : q1 = true := hq1
  have l1 : decide (long < 1) = false := decide_eq_false (by omega)
  have l2 : decide (10080 < long) = false := decide_eq_false (by omega)
  have l1n : ¬ long < 1 := by omega
  have l2n : ¬ 10080 < long := by omega
  clear hl1 hl2
  obtain rfl : again = false := ha
  obtain rfl : q2 = true := hq2
  have z5 : ((n5 : Int) == 0) = true := by rw [hz5]; rfl
  obtain rfl : n5 = 0 := hz5
  have z6 : ((n6 : Int) == 0) = true := by rw [hz6]; rfl
  obtain rfl : n6 = 0 := hz6
  have z7 : ((n7 : Int) == 0) = true := by rw [hz7]; rfl
  obtain rfl : n7 = 0 := hz7
  obtain ⟨g0, hg0⟩ := Gr.start W
  have E1 := Lib.hid (hW.trans hg0)
  have b0 := fun G => HB G 0 _ rfl
  have b1 := fun G => HB G 1 _ rfl
  have b2 := fun G => HB G 2 _ rfl
  have b3 := fun G => HB G 3 _ rfl
  have b4 := fun G => HB G 4 _ rfl
  have b5 := fun G => HB G 5 _ rfl
  have b6 := fun G => HB G 6 _ rfl
  have b7 := fun G => HB G 7 _ rfl
  have b8 := fun G => HB G 8 _ rfl
  have b9 := fun G => HB G 9 _ rfl
  have b10 := fun G => HB G 10 _ rfl
  have b11 := fun G => HB G 11 _ rfl
  have b12 := fun G => HB G 12 _ rfl
  have b13 := fun G => HB G 13 _ rfl
  have b14 := fun G => HB G 14 _ rfl
  have b15 := fun G => HB G 15 _ rfl
  clear HB hW hg0 G0
  go_enter Tryz.func10, Tryz.ntmps10
  go_upto_region 1 with fail
  rw [E1.out]
  go_wp2_with (first | (go_at_call 20; (with_reducible refine (HM.out _).mono ?_); rintro e w' ⟨rfl, hb⟩; obtain ⟨g', rfl⟩ := Gr.on _ hb; clear hb) | (go_at_call 21; (with_reducible refine (HS.out _).mono ?_); rintro e w' ⟨rfl, hb⟩; obtain ⟨g', rfl⟩ := Gr.on _ hb; clear hb) | (go_at_call 22; (with_reducible refine (HR.out _).mono ?_); rintro e w' ⟨rfl, hb⟩; obtain ⟨g', rfl⟩ := Gr.on _ hb; clear hb) | (go_at_call 26; (with_reducible refine (H7.out _).mono ?_); rintro e w' ⟨rfl, hb⟩; obtain ⟨g', rfl⟩ := Gr.on _ hb; clear hb) | (go_at_call 28; (with_reducible refine (HC.out _).mono ?_); rintro e w' ⟨rfl, hb⟩; obtain ⟨g', rfl⟩ := Gr.on _ hb; clear hb) | (go_at_call 23; (first | (with_reducible refine (H5.out _).mono ?_) | (with_reducible refine (H6.out _).mono ?_)); rintro e w' ⟨rfl, hb⟩; obtain ⟨g', rfl⟩ := Gr.on _ hb; clear hb))
  go_ret
  exact ⟨rfl, hG.out _⟩
set_option maxRecDepth 100000 in
set_option maxHeartbeats 4000000 in
theorem m11_a1 (start long : Int) (world again : Bool) (fq iv_ ct un : Int) (A1 A2 A3 A4 : Option Addr) (n1 n2 n3 n4 c1 c2 c3 c4 : Nat) (st : Int) (A5 A6 A7 : Option Addr) (n5 n6 n7 c5 c6 c7 : Nat) (w : World) (G0 : Gr w) (W : World)
    (q1 q2 q3 q4 q5 q6 q7 : Bool) (hW : w.alloc (.cells #[.int .i64 start, .int .i64 long, .bool world, .bool again, .int .i64 fq, .int .i64 iv_, .int .i64 ct, .int .i64 un, .slice A1 n1 c1, .slice A2 n2 c2, .slice A3 n3 c3, .slice A4 n4 c4, .int .i64 st, .slice A5 n5 c5, .slice A6 n6 c6, .slice A7 n7 c7] 32) = W) (hG : Hid (∀ g : Gr W, Below w.heap.size w g.val))
    (HB : ∀ (G : Gr W) (k : Nat) (v : Value), (#[.int .i64 start, .int .i64 long, .bool world, .bool again, .int .i64 fq, .int .i64 iv_, .int .i64 ct, .int .i64 un, .slice A1 n1 c1, .slice A2 n2 c2, .slice A3 n3 c3, .slice A4 n4 c4, .int .i64 st, .slice A5 n5 c5, .slice A6 n6 c6, .slice A7 n7 c7] : Array Value)[k]? = some v → G.val.cell? ⟨w.heap.size, k, none⟩ = some v)
    (HM : Hid (∀ g : Gr W, Calls Tryz.prog 20 #[.int .i64 start] g.val fun e w' => e = .returned (.bool q1) ∧ Below g.val.heap.size g.val w'))
    (HS : Hid (∀ g : Gr W, Calls Tryz.prog 21 #[.agg #[.int .i64 fq, .int .i64 iv_, .int .i64 ct, .int .i64 un, .slice A1 n1 c1, .slice A2 n2 c2, .slice A3 n3 c3, .slice A4 n4 c4, .int .i64 st], .agg #[.int .i64 0, .int .i64 0, .int .i64 0, .int .i64 0, .slice none 0 0, .slice none 0 0, .slice none 0 0, .slice none 0 0, .int .i64 0]] g.val fun e w' => e = .returned (.bool q2) ∧ Below g.val.heap.size g.val w'))
    (HR : Hid (∀ g : Gr W, Calls Tryz.prog 22 #[.agg #[.int .i64 fq, .int .i64 iv_, .int .i64 ct, .int .i64 un, .slice A1 n1 c1, .slice A2 n2 c2, .slice A3 n3 c3, .slice A4 n4 c4, .int .i64 st]] g.val fun e w' => e = .returned (.bool q3) ∧ Below g.val.heap.size g.val w'))
    (H5 : Hid (∀ g : Gr W, Calls Tryz.prog 23 #[.slice A5 n5 c5, .func (.func 24) #[] #[]] g.val fun e w' => e = .returned (.bool q4) ∧ Below g.val.heap.size g.val w'))
    (H6 : Hid (∀ g : Gr W, Calls Tryz.prog 23 #[.slice A6 n6 c6, .func (.func 25) #[] #[]] g.val fun e w' => e = .returned (.bool q5) ∧ Below g.val.heap.size g.val w'))
    (H7 : Hid (∀ g : Gr W, Calls Tryz.prog 26 #[.slice A7 n7 c7, .func (.func 27) #[] #[]] g.val fun e w' => e = .returned (.bool q6) ∧ Below g.val.heap.size g.val w'))
    (HC : Hid (∀ g : Gr W, Calls Tryz.prog 28 #[.slice A7 n7 c7, .func (.func 29) #[] #[]] g.val fun e w' => e = .returned (.bool q7) ∧ Below g.val.heap.size g.val w'))
    (hq1 : q1 = true) (hl1 : 1 ≤ long) (hl2 : long ≤ 10080) (ha : again = true) (hw : world = true)  :
    Calls Tryz.prog 10 #[.agg #[.int .i64 start, .int .i64 long, .bool world, .bool again, .int .i64 fq, .int .i64 iv_, .int .i64 ct, .int .i64 un, .slice A1 n1 c1, .slice A2 n2 c2, .slice A3 n3 c3, .slice A4 n4 c4, .int .i64 st, .slice A5 n5 c5, .slice A6 n6 c6, .slice A7 n7 c7]] w fun e w' => e = .returned (.bool false) ∧ Below w.heap.size w w' := by
  obtain rfl : q1 = true := hq1
  have l1 : decide (long < 1) = false := decide_eq_false (by omega)
  have l2 : decide (10080 < long) = false := decide_eq_false (by omega)
  have l1n : ¬ long < 1 := by omega
  have l2n : ¬ 10080 < long := by omega
  clear hl1 hl2
  obtain rfl : again = true := ha
  obtain rfl : world = true := hw
  obtain ⟨g0, hg0⟩ := Gr.start W
  have E1 := Lib.hid (hW.trans hg0)
  have b0 := fun G => HB G 0 _ rfl
  have b1 := fun G => HB G 1 _ rfl
  have b2 := fun G => HB G 2 _ rfl
  have b3 := fun G => HB G 3 _ rfl
  have b4 := fun G => HB G 4 _ rfl
  have b5 := fun G => HB G 5 _ rfl
  have b6 := fun G => HB G 6 _ rfl
  have b7 := fun G => HB G 7 _ rfl
  have b8 := fun G => HB G 8 _ rfl
  have b9 := fun G => HB G 9 _ rfl
  have b10 := fun G => HB G 10 _ rfl
  have b11 := fun G => HB G 11 _ rfl
  have b12 := fun G => HB G 12 _ rfl
  have b13 := fun G => HB G 13 _ rfl
  have b14 := fun G => HB G 14 _ rfl
  have b15 := fun G => HB G 15 _ rfl
  clear HB hW hg0 G0
  go_enter Tryz.func10, Tryz.ntmps10
  go_upto_region 1 with fail
  rw [E1.out]
  go_wp2_with (first | (go_at_call 20; (with_reducible refine (HM.out _).mono ?_); rintro e w' ⟨rfl, hb⟩; obtain ⟨g', rfl⟩ := Gr.on _ hb; clear hb) | (go_at_call 21; (with_reducible refine (HS.out _).mono ?_); rintro e w' ⟨rfl, hb⟩; obtain ⟨g', rfl⟩ := Gr.on _ hb; clear hb) | (go_at_call 22; (with_reducible refine (HR.out _).mono ?_); rintro e w' ⟨rfl, hb⟩; obtain ⟨g', rfl⟩ := Gr.on _ hb; clear hb) | (go_at_call 26; (with_reducible refine (H7.out _).mono ?_); rintro e w' ⟨rfl, hb⟩; obtain ⟨g', rfl⟩ := Gr.on _ hb; clear hb) | (go_at_call 28; (with_reducible refine (HC.out _).mono ?_); rintro e w' ⟨rfl, hb⟩; obtain ⟨g', rfl⟩ := Gr.on _ hb; clear hb) | (go_at_call 23; (first | (with_reducible refine (H5.out _).mono ?_) | (with_reducible refine (H6.out _).mono ?_)); rintro e w' ⟨rfl, hb⟩; obtain ⟨g', rfl⟩ := Gr.on _ hb; clear hb))
  go_ret
  exact ⟨rfl, hG.out _⟩
set_option maxRecDepth 100000 in
set_option maxHeartbeats 4000000 in
theorem m11_a2 (start long : Int) (world again : Bool) (fq iv_ ct un : Int) (A1 A2 A3 A4 : Option Addr) (n1 n2 n3 n4 c1 c2 c3 c4 : Nat) (st : Int) (A5 A6 A7 : Option Addr) (n5 n6 n7 c5 c6 c7 : Nat) (w : World) (G0 : Gr w) (W : World)
    (q1 q2 q3 q4 q5 q6 q7 : Bool) (hW : w.alloc (.cells #[.int .i64 start, .int .i64 long, .bool world, .bool again, .int .i64 fq, .int .i64 iv_, .int .i64 ct, .int .i64 un, .slice A1 n1 c1, .slice A2 n2 c2, .slice A3 n3 c3, .slice A4 n4 c4, .int .i64 st, .slice A5 n5 c5, .slice A6 n6 c6, .slice A7 n7 c7] 32) = W) (hG : Hid (∀ g : Gr W, Below w.heap.size w g.val))
    (HB : ∀ (G : Gr W) (k : Nat) (v : Value), (#[.int .i64 start, .int .i64 long, .bool world, .bool again, .int .i64 fq, .int .i64 iv_, .int .i64 ct, .int .i64 un, .slice A1 n1 c1, .slice A2 n2 c2, .slice A3 n3 c3, .slice A4 n4 c4, .int .i64 st, .slice A5 n5 c5, .slice A6 n6 c6, .slice A7 n7 c7] : Array Value)[k]? = some v → G.val.cell? ⟨w.heap.size, k, none⟩ = some v)
    (HM : Hid (∀ g : Gr W, Calls Tryz.prog 20 #[.int .i64 start] g.val fun e w' => e = .returned (.bool q1) ∧ Below g.val.heap.size g.val w'))
    (HS : Hid (∀ g : Gr W, Calls Tryz.prog 21 #[.agg #[.int .i64 fq, .int .i64 iv_, .int .i64 ct, .int .i64 un, .slice A1 n1 c1, .slice A2 n2 c2, .slice A3 n3 c3, .slice A4 n4 c4, .int .i64 st], .agg #[.int .i64 0, .int .i64 0, .int .i64 0, .int .i64 0, .slice none 0 0, .slice none 0 0, .slice none 0 0, .slice none 0 0, .int .i64 0]] g.val fun e w' => e = .returned (.bool q2) ∧ Below g.val.heap.size g.val w'))
    (HR : Hid (∀ g : Gr W, Calls Tryz.prog 22 #[.agg #[.int .i64 fq, .int .i64 iv_, .int .i64 ct, .int .i64 un, .slice A1 n1 c1, .slice A2 n2 c2, .slice A3 n3 c3, .slice A4 n4 c4, .int .i64 st]] g.val fun e w' => e = .returned (.bool q3) ∧ Below g.val.heap.size g.val w'))
    (H5 : Hid (∀ g : Gr W, Calls Tryz.prog 23 #[.slice A5 n5 c5, .func (.func 24) #[] #[]] g.val fun e w' => e = .returned (.bool q4) ∧ Below g.val.heap.size g.val w'))
    (H6 : Hid (∀ g : Gr W, Calls Tryz.prog 23 #[.slice A6 n6 c6, .func (.func 25) #[] #[]] g.val fun e w' => e = .returned (.bool q5) ∧ Below g.val.heap.size g.val w'))
    (H7 : Hid (∀ g : Gr W, Calls Tryz.prog 26 #[.slice A7 n7 c7, .func (.func 27) #[] #[]] g.val fun e w' => e = .returned (.bool q6) ∧ Below g.val.heap.size g.val w'))
    (HC : Hid (∀ g : Gr W, Calls Tryz.prog 28 #[.slice A7 n7 c7, .func (.func 29) #[] #[]] g.val fun e w' => e = .returned (.bool q7) ∧ Below g.val.heap.size g.val w'))
    (hq1 : q1 = true) (hl1 : 1 ≤ long) (hl2 : long ≤ 10080) (ha : again = true) (hw : world = false) (hq3 : q3 = false)  :
    Calls Tryz.prog 10 #[.agg #[.int .i64 start, .int .i64 long, .bool world, .bool again, .int .i64 fq, .int .i64 iv_, .int .i64 ct, .int .i64 un, .slice A1 n1 c1, .slice A2 n2 c2, .slice A3 n3 c3, .slice A4 n4 c4, .int .i64 st, .slice A5 n5 c5, .slice A6 n6 c6, .slice A7 n7 c7]] w fun e w' => e = .returned (.bool false) ∧ Below w.heap.size w w' := by
  obtain rfl : q1 = true := hq1
  have l1 : decide (long < 1) = false := decide_eq_false (by omega)
  have l2 : decide (10080 < long) = false := decide_eq_false (by omega)
  have l1n : ¬ long < 1 := by omega
  have l2n : ¬ 10080 < long := by omega
  clear hl1 hl2
  obtain rfl : again = true := ha
  obtain rfl : world = false := hw
  obtain rfl : q3 = false := hq3
  obtain ⟨g0, hg0⟩ := Gr.start W
  have E1 := Lib.hid (hW.trans hg0)
  have b0 := fun G => HB G 0 _ rfl
  have b1 := fun G => HB G 1 _ rfl
  have b2 := fun G => HB G 2 _ rfl
  have b3 := fun G => HB G 3 _ rfl
  have b4 := fun G => HB G 4 _ rfl
  have b5 := fun G => HB G 5 _ rfl
  have b6 := fun G => HB G 6 _ rfl
  have b7 := fun G => HB G 7 _ rfl
  have b8 := fun G => HB G 8 _ rfl
  have b9 := fun G => HB G 9 _ rfl
  have b10 := fun G => HB G 10 _ rfl
  have b11 := fun G => HB G 11 _ rfl
  have b12 := fun G => HB G 12 _ rfl
  have b13 := fun G => HB G 13 _ rfl
  have b14 := fun G => HB G 14 _ rfl
  have b15 := fun G => HB G 15 _ rfl
  clear HB hW hg0 G0
  go_enter Tryz.func10, Tryz.ntmps10
  go_upto_region 1 with fail
  rw [E1.out]
  go_wp2_with (first | (go_at_call 20; (with_reducible refine (HM.out _).mono ?_); rintro e w' ⟨rfl, hb⟩; obtain ⟨g', rfl⟩ := Gr.on _ hb; clear hb) | (go_at_call 21; (with_reducible refine (HS.out _).mono ?_); rintro e w' ⟨rfl, hb⟩; obtain ⟨g', rfl⟩ := Gr.on _ hb; clear hb) | (go_at_call 22; (with_reducible refine (HR.out _).mono ?_); rintro e w' ⟨rfl, hb⟩; obtain ⟨g', rfl⟩ := Gr.on _ hb; clear hb) | (go_at_call 26; (with_reducible refine (H7.out _).mono ?_); rintro e w' ⟨rfl, hb⟩; obtain ⟨g', rfl⟩ := Gr.on _ hb; clear hb) | (go_at_call 28; (with_reducible refine (HC.out _).mono ?_); rintro e w' ⟨rfl, hb⟩; obtain ⟨g', rfl⟩ := Gr.on _ hb; clear hb) | (go_at_call 23; (first | (with_reducible refine (H5.out _).mono ?_) | (with_reducible refine (H6.out _).mono ?_)); rintro e w' ⟨rfl, hb⟩; obtain ⟨g', rfl⟩ := Gr.on _ hb; clear hb))
  go_ret
  exact ⟨rfl, hG.out _⟩
set_option maxRecDepth 100000 in
set_option maxHeartbeats 4000000 in
theorem m11_a3 (start long : Int) (world again : Bool) (fq iv_ ct un : Int) (A1 A2 A3 A4 : Option Addr) (n1 n2 n3 n4 c1 c2 c3 c4 : Nat) (st : Int) (A5 A6 A7 : Option Addr) (n5 n6 n7 c5 c6 c7 : Nat) (w : World) (G0 : Gr w) (W : World)
    (q1 q2 q3 q4 q5 q6 q7 : Bool) (hW : w.alloc (.cells #[.int .i64 start, .int .i64 long, .bool world, .bool again, .int .i64 fq, .int .i64 iv_, .int .i64 ct, .int .i64 un, .slice A1 n1 c1, .slice A2 n2 c2, .slice A3 n3 c3, .slice A4 n4 c4, .int .i64 st, .slice A5 n5 c5, .slice A6 n6 c6, .slice A7 n7 c7] 32) = W) (hG : Hid (∀ g : Gr W, Below w.heap.size w g.val))
    (HB : ∀ (G : Gr W) (k : Nat) (v : Value), (#[.int .i64 start, .int .i64 long, .bool world, .bool again, .int .i64 fq, .int .i64 iv_, .int .i64 ct, .int .i64 un, .slice A1 n1 c1, .slice A2 n2 c2, .slice A3 n3 c3, .slice A4 n4 c4, .int .i64 st, .slice A5 n5 c5, .slice A6 n6 c6, .slice A7 n7 c7] : Array Value)[k]? = some v → G.val.cell? ⟨w.heap.size, k, none⟩ = some v)
    (HM : Hid (∀ g : Gr W, Calls Tryz.prog 20 #[.int .i64 start] g.val fun e w' => e = .returned (.bool q1) ∧ Below g.val.heap.size g.val w'))
    (HS : Hid (∀ g : Gr W, Calls Tryz.prog 21 #[.agg #[.int .i64 fq, .int .i64 iv_, .int .i64 ct, .int .i64 un, .slice A1 n1 c1, .slice A2 n2 c2, .slice A3 n3 c3, .slice A4 n4 c4, .int .i64 st], .agg #[.int .i64 0, .int .i64 0, .int .i64 0, .int .i64 0, .slice none 0 0, .slice none 0 0, .slice none 0 0, .slice none 0 0, .int .i64 0]] g.val fun e w' => e = .returned (.bool q2) ∧ Below g.val.heap.size g.val w'))
    (HR : Hid (∀ g : Gr W, Calls Tryz.prog 22 #[.agg #[.int .i64 fq, .int .i64 iv_, .int .i64 ct, .int .i64 un, .slice A1 n1 c1, .slice A2 n2 c2, .slice A3 n3 c3, .slice A4 n4 c4, .int .i64 st]] g.val fun e w' => e = .returned (.bool q3) ∧ Below g.val.heap.size g.val w'))
    (H5 : Hid (∀ g : Gr W, Calls Tryz.prog 23 #[.slice A5 n5 c5, .func (.func 24) #[] #[]] g.val fun e w' => e = .returned (.bool q4) ∧ Below g.val.heap.size g.val w'))
    (H6 : Hid (∀ g : Gr W, Calls Tryz.prog 23 #[.slice A6 n6 c6, .func (.func 25) #[] #[]] g.val fun e w' => e = .returned (.bool q5) ∧ Below g.val.heap.size g.val w'))
    (H7 : Hid (∀ g : Gr W, Calls Tryz.prog 26 #[.slice A7 n7 c7, .func (.func 27) #[] #[]] g.val fun e w' => e = .returned (.bool q6) ∧ Below g.val.heap.size g.val w'))
    (HC : Hid (∀ g : Gr W, Calls Tryz.prog 28 #[.slice A7 n7 c7, .func (.func 29) #[] #[]] g.val fun e w' => e = .returned (.bool q7) ∧ Below g.val.heap.size g.val w'))
    (hq1 : q1 = true) (hl1 : 1 ≤ long) (hl2 : long ≤ 10080) (ha : again = true) (hw : world = false) (hq3 : q3 = true) (hq4 : q4 = false)  :
    Calls Tryz.prog 10 #[.agg #[.int .i64 start, .int .i64 long, .bool world, .bool again, .int .i64 fq, .int .i64 iv_, .int .i64 ct, .int .i64 un, .slice A1 n1 c1, .slice A2 n2 c2, .slice A3 n3 c3, .slice A4 n4 c4, .int .i64 st, .slice A5 n5 c5, .slice A6 n6 c6, .slice A7 n7 c7]] w fun e w' => e = .returned (.bool false) ∧ Below w.heap.size w w' := by
  obtain rfl : q1 = true := hq1
  have l1 : decide (long < 1) = false := decide_eq_false (by omega)
  have l2 : decide (10080 < long) = false := decide_eq_false (by omega)
  have l1n : ¬ long < 1 := by omega
  have l2n : ¬ 10080 < long := by omega
  clear hl1 hl2
  obtain rfl : again = true := ha
  obtain rfl : world = false := hw
  obtain rfl : q3 = true := hq3
  obtain rfl : q4 = false := hq4
  obtain ⟨g0, hg0⟩ := Gr.start W
  have E1 := Lib.hid (hW.trans hg0)
  have b0 := fun G => HB G 0 _ rfl
  have b1 := fun G => HB G 1 _ rfl
  have b2 := fun G => HB G 2 _ rfl
  have b3 := fun G => HB G 3 _ rfl
  have b4 := fun G => HB G 4 _ rfl
  have b5 := fun G => HB G 5 _ rfl
  have b6 := fun G => HB G 6 _ rfl
  have b7 := fun G => HB G 7 _ rfl
  have b8 := fun G => HB G 8 _ rfl
  have b9 := fun G => HB G 9 _ rfl
  have b10 := fun G => HB G 10 _ rfl
  have b11 := fun G => HB G 11 _ rfl
  have b12 := fun G => HB G 12 _ rfl
  have b13 := fun G => HB G 13 _ rfl
  have b14 := fun G => HB G 14 _ rfl
  have b15 := fun G => HB G 15 _ rfl
  clear HB hW hg0 G0
  go_enter Tryz.func10, Tryz.ntmps10
  go_upto_region 1 with fail
  rw [E1.out]
  go_wp2_with (first | (go_at_call 20; (with_reducible refine (HM.out _).mono ?_); rintro e w' ⟨rfl, hb⟩; obtain ⟨g', rfl⟩ := Gr.on _ hb; clear hb) | (go_at_call 21; (with_reducible refine (HS.out _).mono ?_); rintro e w' ⟨rfl, hb⟩; obtain ⟨g', rfl⟩ := Gr.on _ hb; clear hb) | (go_at_call 22; (with_reducible refine (HR.out _).mono ?_); rintro e w' ⟨rfl, hb⟩; obtain ⟨g', rfl⟩ := Gr.on _ hb; clear hb) | (go_at_call 26; (with_reducible refine (H7.out _).mono ?_); rintro e w' ⟨rfl, hb⟩; obtain ⟨g', rfl⟩ := Gr.on _ hb; clear hb) | (go_at_call 28; (with_reducible refine (HC.out _).mono ?_); rintro e w' ⟨rfl, hb⟩; obtain ⟨g', rfl⟩ := Gr.on _ hb; clear hb) | (go_at_call 23; (first | (with_reducible refine (H5.out _).mono ?_) | (with_reducible refine (H6.out _).mono ?_)); rintro e w' ⟨rfl, hb⟩; obtain ⟨g', rfl⟩ := Gr.on _ hb; clear hb))
  go_ret
  exact ⟨rfl, hG.out _⟩
set_option maxRecDepth 100000 in
set_option maxHeartbeats 4000000 in
theorem m11_a4 (start long : Int) (world again : Bool) (fq iv_ ct un : Int) (A1 A2 A3 A4 : Option Addr) (n1 n2 n3 n4 c1 c2 c3 c4 : Nat) (st : Int) (A5 A6 A7 : Option Addr) (n5 n6 n7 c5 c6 c7 : Nat) (w : World) (G0 : Gr w) (W : World)
    (q1 q2 q3 q4 q5 q6 q7 : Bool) (hW : w.alloc (.cells #[.int .i64 start, .int .i64 long, .bool world, .bool again, .int .i64 fq, .int .i64 iv_, .int .i64 ct, .int .i64 un, .slice A1 n1 c1, .slice A2 n2 c2, .slice A3 n3 c3, .slice A4 n4 c4, .int .i64 st, .slice A5 n5 c5, .slice A6 n6 c6, .slice A7 n7 c7] 32) = W) (hG : Hid (∀ g : Gr W, Below w.heap.size w g.val))
    (HB : ∀ (G : Gr W) (k : Nat) (v : Value), (#[.int .i64 start, .int .i64 long, .bool world, .bool again, .int .i64 fq, .int .i64 iv_, .int .i64 ct, .int .i64 un, .slice A1 n1 c1, .slice A2 n2 c2, .slice A3 n3 c3, .slice A4 n4 c4, .int .i64 st, .slice A5 n5 c5, .slice A6 n6 c6, .slice A7 n7 c7] : Array Value)[k]? = some v → G.val.cell? ⟨w.heap.size, k, none⟩ = some v)
    (HM : Hid (∀ g : Gr W, Calls Tryz.prog 20 #[.int .i64 start] g.val fun e w' => e = .returned (.bool q1) ∧ Below g.val.heap.size g.val w'))
    (HS : Hid (∀ g : Gr W, Calls Tryz.prog 21 #[.agg #[.int .i64 fq, .int .i64 iv_, .int .i64 ct, .int .i64 un, .slice A1 n1 c1, .slice A2 n2 c2, .slice A3 n3 c3, .slice A4 n4 c4, .int .i64 st], .agg #[.int .i64 0, .int .i64 0, .int .i64 0, .int .i64 0, .slice none 0 0, .slice none 0 0, .slice none 0 0, .slice none 0 0, .int .i64 0]] g.val fun e w' => e = .returned (.bool q2) ∧ Below g.val.heap.size g.val w'))
    (HR : Hid (∀ g : Gr W, Calls Tryz.prog 22 #[.agg #[.int .i64 fq, .int .i64 iv_, .int .i64 ct, .int .i64 un, .slice A1 n1 c1, .slice A2 n2 c2, .slice A3 n3 c3, .slice A4 n4 c4, .int .i64 st]] g.val fun e w' => e = .returned (.bool q3) ∧ Below g.val.heap.size g.val w'))
    (H5 : Hid (∀ g : Gr W, Calls Tryz.prog 23 #[.slice A5 n5 c5, .func (.func 24) #[] #[]] g.val fun e w' => e = .returned (.bool q4) ∧ Below g.val.heap.size g.val w'))
    (H6 : Hid (∀ g : Gr W, Calls Tryz.prog 23 #[.slice A6 n6 c6, .func (.func 25) #[] #[]] g.val fun e w' => e = .returned (.bool q5) ∧ Below g.val.heap.size g.val w'))
    (H7 : Hid (∀ g : Gr W, Calls Tryz.prog 26 #[.slice A7 n7 c7, .func (.func 27) #[] #[]] g.val fun e w' => e = .returned (.bool q6) ∧ Below g.val.heap.size g.val w'))
    (HC : Hid (∀ g : Gr W, Calls Tryz.prog 28 #[.slice A7 n7 c7, .func (.func 29) #[] #[]] g.val fun e w' => e = .returned (.bool q7) ∧ Below g.val.heap.size g.val w'))
    (hq1 : q1 = true) (hl1 : 1 ≤ long) (hl2 : long ≤ 10080) (ha : again = true) (hw : world = false) (hq3 : q3 = true) (hq4 : q4 = true) (hq5 : q5 = false)  :
    Calls Tryz.prog 10 #[.agg #[.int .i64 start, .int .i64 long, .bool world, .bool again, .int .i64 fq, .int .i64 iv_, .int .i64 ct, .int .i64 un, .slice A1 n1 c1, .slice A2 n2 c2, .slice A3 n3 c3, .slice A4 n4 c4, .int .i64 st, .slice A5 n5 c5, .slice A6 n6 c6, .slice A7 n7 c7]] w fun e w' => e = .returned (.bool false) ∧ Below w.heap.size w w' := by
  obtain rfl : q1 = true := hq1
  have l1 : decide (long < 1) = false := decide_eq_false (by omega)
  have l2 : decide (10080 < long) = false := decide_eq_false (by omega)
  have l1n : ¬ long < 1 := by omega
  have l2n : ¬ 10080 < long := by omega
  clear hl1 hl2
  obtain rfl : again = true := ha
  obtain rfl : world = false := hw
  obtain rfl : q3 = true := hq3
  obtain rfl : q4 = true := hq4
  obtain rfl : q5 = false := hq5
  obtain ⟨g0, hg0⟩ := Gr.start W
  have E1 := Lib.hid (hW.trans hg0)
  have b0 := fun G => HB G 0 _ rfl
  have b1 := fun G => HB G 1 _ rfl
  have b2 := fun G => HB G 2 _ rfl
  have b3 := fun G => HB G 3 _ rfl
  have b4 := fun G => HB G 4 _ rfl
  have b5 := fun G => HB G 5 _ rfl
  have b6 := fun G => HB G 6 _ rfl
  have b7 := fun G => HB G 7 _ rfl
  have b8 := fun G => HB G 8 _ rfl
  have b9 := fun G => HB G 9 _ rfl
  have b10 := fun G => HB G 10 _ rfl
  have b11 := fun G => HB G 11 _ rfl
  have b12 := fun G => HB G 12 _ rfl
  have b13 := fun G => HB G 13 _ rfl
  have b14 := fun G => HB G 14 _ rfl
  have b15 := fun G => HB G 15 _ rfl
  clear HB hW hg0 G0
  go_enter Tryz.func10, Tryz.ntmps10
  go_upto_region 1 with fail
  rw [E1.out]
  go_wp2_with (first | (go_at_call 20; (with_reducible refine (HM.out _).mono ?_); rintro e w' ⟨rfl, hb⟩; obtain ⟨g', rfl⟩ := Gr.on _ hb; clear hb) | (go_at_call 21; (with_reducible refine (HS.out _).mono ?_); rintro e w' ⟨rfl, hb⟩; obtain ⟨g', rfl⟩ := Gr.on _ hb; clear hb) | (go_at_call 22; (with_reducible refine (HR.out _).mono ?_); rintro e w' ⟨rfl, hb⟩; obtain ⟨g', rfl⟩ := Gr.on _ hb; clear hb) | (go_at_call 26; (with_reducible refine (H7.out _).mono ?_); rintro e w' ⟨rfl, hb⟩; obtain ⟨g', rfl⟩ := Gr.on _ hb; clear hb) | (go_at_call 28; (with_reducible refine (HC.out _).mono ?_); rintro e w' ⟨rfl, hb⟩; obtain ⟨g', rfl⟩ := Gr.on _ hb; clear hb) | (go_at_call 23; (first | (with_reducible refine (H5.out _).mono ?_) | (with_reducible refine (H6.out _).mono ?_)); rintro e w' ⟨rfl, hb⟩; obtain ⟨g', rfl⟩ := Gr.on _ hb; clear hb))
  go_ret
  exact ⟨rfl, hG.out _⟩
set_option maxRecDepth 100000 in
set_option maxHeartbeats 4000000 in
theorem m11_a5 (start long : Int) (world again : Bool) (fq iv_ ct un : Int) (A1 A2 A3 A4 : Option Addr) (n1 n2 n3 n4 c1 c2 c3 c4 : Nat) (st : Int) (A5 A6 A7 : Option Addr) (n5 n6 n7 c5 c6 c7 : Nat) (w : World) (G0 : Gr w) (W : World)
    (q1 q2 q3 q4 q5 q6 q7 : Bool) (hW : w.alloc (.cells #[.int .i64 start, .int .i64 long, .bool world, .bool again, .int .i64 fq, .int .i64 iv_, .int .i64 ct, .int .i64 un, .slice A1 n1 c1, .slice A2 n2 c2, .slice A3 n3 c3, .slice A4 n4 c4, .int .i64 st, .slice A5 n5 c5, .slice A6 n6 c6, .slice A7 n7 c7] 32) = W) (hG : Hid (∀ g : Gr W, Below w.heap.size w g.val))
    (HB : ∀ (G : Gr W) (k : Nat) (v : Value), (#[.int .i64 start, .int .i64 long, .bool world, .bool again, .int .i64 fq, .int .i64 iv_, .int .i64 ct, .int .i64 un, .slice A1 n1 c1, .slice A2 n2 c2, .slice A3 n3 c3, .slice A4 n4 c4, .int .i64 st, .slice A5 n5 c5, .slice A6 n6 c6, .slice A7 n7 c7] : Array Value)[k]? = some v → G.val.cell? ⟨w.heap.size, k, none⟩ = some v)
    (HM : Hid (∀ g : Gr W, Calls Tryz.prog 20 #[.int .i64 start] g.val fun e w' => e = .returned (.bool q1) ∧ Below g.val.heap.size g.val w'))
    (HS : Hid (∀ g : Gr W, Calls Tryz.prog 21 #[.agg #[.int .i64 fq, .int .i64 iv_, .int .i64 ct, .int .i64 un, .slice A1 n1 c1, .slice A2 n2 c2, .slice A3 n3 c3, .slice A4 n4 c4, .int .i64 st], .agg #[.int .i64 0, .int .i64 0, .int .i64 0, .int .i64 0, .slice none 0 0, .slice none 0 0, .slice none 0 0, .slice none 0 0, .int .i64 0]] g.val fun e w' => e = .returned (.bool q2) ∧ Below g.val.heap.size g.val w'))
    (HR : Hid (∀ g : Gr W, Calls Tryz.prog 22 #[.agg #[.int .i64 fq, .int .i64 iv_, .int .i64 ct, .int .i64 un, .slice A1 n1 c1, .slice A2 n2 c2, .slice A3 n3 c3, .slice A4 n4 c4, .int .i64 st]] g.val fun e w' => e = .returned (.bool q3) ∧ Below g.val.heap.size g.val w'))
    (H5 : Hid (∀ g : Gr W, Calls Tryz.prog 23 #[.slice A5 n5 c5, .func (.func 24) #[] #[]] g.val fun e w' => e = .returned (.bool q4) ∧ Below g.val.heap.size g.val w'))
    (H6 : Hid (∀ g : Gr W, Calls Tryz.prog 23 #[.slice A6 n6 c6, .func (.func 25) #[] #[]] g.val fun e w' => e = .returned (.bool q5) ∧ Below g.val.heap.size g.val w'))
    (H7 : Hid (∀ g : Gr W, Calls Tryz.prog 26 #[.slice A7 n7 c7, .func (.func 27) #[] #[]] g.val fun e w' => e = .returned (.bool q6) ∧ Below g.val.heap.size g.val w'))
    (HC : Hid (∀ g : Gr W, Calls Tryz.prog 28 #[.slice A7 n7 c7, .func (.func 29) #[] #[]] g.val fun e w' => e = .returned (.bool q7) ∧ Below g.val.heap.size g.val w'))
    (hq1 : q1 = true) (hl1 : 1 ≤ long) (hl2 : long ≤ 10080) (ha : again = true) (hw : world = false) (hq3 : q3 = true) (hq4 : q4 = true) (hq5 : q5 = true) (hq6 : q6 = false)  :
    Calls Tryz.prog 10 #[.agg #[.int .i64 start, .int .i64 long, .bool world, .bool again, .int .i64 fq, .int .i64 iv_, .int .i64 ct, .int .i64 un, .slice A1 n1 c1, .slice A2 n2 c2, .slice A3 n3 c3, .slice A4 n4 c4, .int .i64 st, .slice A5 n5 c5, .slice A6 n6 c6, .slice A7 n7 c7]] w fun e w' => e = .returned (.bool false) ∧ Below w.heap.size w w' := by
  obtain rfl : q1 = true := hq1
  have l1 : decide (long < 1) = false := decide_eq_false (by omega)
  have l2 : decide (10080 < long) = false := decide_eq_false (by omega)
  have l1n : ¬ long < 1 := by omega
  have l2n : ¬ 10080 < long := by omega
  clear hl1 hl2
  obtain rfl : again = true := ha
  obtain rfl : world = false := hw
  obtain rfl : q3 = true := hq3
  obtain rfl : q4 = true := hq4
  obtain rfl : q5 = true := hq5
  obtain rfl : q6 = false := hq6
  obtain ⟨g0, hg0⟩ := Gr.start W
  have E1 := Lib.hid (hW.trans hg0)
  have b0 := fun G => HB G 0 _ rfl
  have b1 := fun G => HB G 1 _ rfl
  have b2 := fun G => HB G 2 _ rfl
  have b3 := fun G => HB G 3 _ rfl
  have b4 := fun G => HB G 4 _ rfl
  have b5 := fun G => HB G 5 _ rfl
  have b6 := fun G => HB G 6 _ rfl
  have b7 := fun G => HB G 7 _ rfl
  have b8 := fun G => HB G 8 _ rfl
  have b9 := fun G => HB G 9 _ rfl
  have b10 := fun G => HB G 10 _ rfl
  have b11 := fun G => HB G 11 _ rfl
  have b12 := fun G => HB G 12 _ rfl
  have b13 := fun G => HB G 13 _ rfl
  have b14 := fun G => HB G 14 _ rfl
  have b15 := fun G => HB G 15 _ rfl
  clear HB hW hg0 G0
  go_enter Tryz.func10, Tryz.ntmps10
  go_upto_region 1 with fail
  rw [E1.out]
  go_wp2_with (first | (go_at_call 20; (with_reducible refine (HM.out _).mono ?_); rintro e w' ⟨rfl, hb⟩; obtain ⟨g', rfl⟩ := Gr.on _ hb; clear hb) | (go_at_call 21; (with_reducible refine (HS.out _).mono ?_); rintro e w' ⟨rfl, hb⟩; obtain ⟨g', rfl⟩ := Gr.on _ hb; clear hb) | (go_at_call 22; (with_reducible refine (HR.out _).mono ?_); rintro e w' ⟨rfl, hb⟩; obtain ⟨g', rfl⟩ := Gr.on _ hb; clear hb) | (go_at_call 26; (with_reducible refine (H7.out _).mono ?_); rintro e w' ⟨rfl, hb⟩; obtain ⟨g', rfl⟩ := Gr.on _ hb; clear hb) | (go_at_call 28; (with_reducible refine (HC.out _).mono ?_); rintro e w' ⟨rfl, hb⟩; obtain ⟨g', rfl⟩ := Gr.on _ hb; clear hb) | (go_at_call 23; (first | (with_reducible refine (H5.out _).mono ?_) | (with_reducible refine (H6.out _).mono ?_)); rintro e w' ⟨rfl, hb⟩; obtain ⟨g', rfl⟩ := Gr.on _ hb; clear hb))
  go_ret
  exact ⟨rfl, hG.out _⟩
set_option maxRecDepth 100000 in
set_option maxHeartbeats 4000000 in
theorem m11_a6 (start long : Int) (world again : Bool) (fq iv_ ct un : Int) (A1 A2 A3 A4 : Option Addr) (n1 n2 n3 n4 c1 c2 c3 c4 : Nat) (st : Int) (A5 A6 A7 : Option Addr) (n5 n6 n7 c5 c6 c7 : Nat) (w : World) (G0 : Gr w) (W : World)
    (q1 q2 q3 q4 q5 q6 q7 : Bool) (hW : w.alloc (.cells #[.int .i64 start, .int .i64 long, .bool world, .bool again, .int .i64 fq, .int .i64 iv_, .int .i64 ct, .int .i64 un, .slice A1 n1 c1, .slice A2 n2 c2, .slice A3 n3 c3, .slice A4 n4 c4, .int .i64 st, .slice A5 n5 c5, .slice A6 n6 c6, .slice A7 n7 c7] 32) = W) (hG : Hid (∀ g : Gr W, Below w.heap.size w g.val))
    (HB : ∀ (G : Gr W) (k : Nat) (v : Value), (#[.int .i64 start, .int .i64 long, .bool world, .bool again, .int .i64 fq, .int .i64 iv_, .int .i64 ct, .int .i64 un, .slice A1 n1 c1, .slice A2 n2 c2, .slice A3 n3 c3, .slice A4 n4 c4, .int .i64 st, .slice A5 n5 c5, .slice A6 n6 c6, .slice A7 n7 c7] : Array Value)[k]? = some v → G.val.cell? ⟨w.heap.size, k, none⟩ = some v)
    (HM : Hid (∀ g : Gr W, Calls Tryz.prog 20 #[.int .i64 start] g.val fun e w' => e = .returned (.bool q1) ∧ Below g.val.heap.size g.val w'))
    (HS : Hid (∀ g : Gr W, Calls Tryz.prog 21 #[.agg #[.int .i64 fq, .int .i64 iv_, .int .i64 ct, .int .i64 un, .slice A1 n1 c1, .slice A2 n2 c2, .slice A3 n3 c3, .slice A4 n4 c4, .int .i64 st], .agg #[.int .i64 0, .int .i64 0, .int .i64 0, .int .i64 0, .slice none 0 0, .slice none 0 0, .slice none 0 0, .slice none 0 0, .int .i64 0]] g.val fun e w' => e = .returned (.bool q2) ∧ Below g.val.heap.size g.val w'))
    (HR : Hid (∀ g : Gr W, Calls Tryz.prog 22 #[.agg #[.int .i64 fq, .int .i64 iv_, .int .i64 ct, .int .i64 un, .slice A1 n1 c1, .slice A2 n2 c2, .slice A3 n3 c3, .slice A4 n4 c4, .int .i64 st]] g.val fun e w' => e = .returned (.bool q3) ∧ Below g.val.heap.size g.val w'))
    (H5 : Hid (∀ g : Gr W, Calls Tryz.prog 23 #[.slice A5 n5 c5, .func (.func 24) #[] #[]] g.val fun e w' => e = .returned (.bool q4) ∧ Below g.val.heap.size g.val w'))
    (H6 : Hid (∀ g : Gr W, Calls Tryz.prog 23 #[.slice A6 n6 c6, .func (.func 25) #[] #[]] g.val fun e w' => e = .returned (.bool q5) ∧ Below g.val.heap.size g.val w'))
    (H7 : Hid (∀ g : Gr W, Calls Tryz.prog 26 #[.slice A7 n7 c7, .func (.func 27) #[] #[]] g.val fun e w' => e = .returned (.bool q6) ∧ Below g.val.heap.size g.val w'))
    (HC : Hid (∀ g : Gr W, Calls Tryz.prog 28 #[.slice A7 n7 c7, .func (.func 29) #[] #[]] g.val fun e w' => e = .returned (.bool q7) ∧ Below g.val.heap.size g.val w'))
    (hq1 : q1 = true) (hl1 : 1 ≤ long) (hl2 : long ≤ 10080) (ha : again = true) (hw : world = false) (hq3 : q3 = true) (hq4 : q4 = true) (hq5 : q5 = true) (hq6 : q6 = true) (hq7 : q7 = true)  :
    Calls Tryz.prog 10 #[.agg #[.int .i64 start, .int .i64 long, .bool world, .bool again, .int .i64 fq, .int .i64 iv_, .int .i64 ct, .int .i64 un, .slice A1 n1 c1, .slice A2 n2 c2, .slice A3 n3 c3, .slice A4 n4 c4, .int .i64 st, .slice A5 n5 c5, .slice A6 n6 c6, .slice A7 n7 c7]] w fun e w' => e = .returned (.bool false) ∧ Below w.heap.size w w' := by
  obtain rfl : q1 = true := hq1
  have l1 : decide (long < 1) = false := decide_eq_false (by omega)
  have l2 : decide (10080 < long) = false := decide_eq_false (by omega)
  have l1n : ¬ long < 1 := by omega
  have l2n : ¬ 10080 < long := by omega
  clear hl1 hl2
  obtain rfl : again = true := ha
  obtain rfl : world = false := hw
  obtain rfl : q3 = true := hq3
  obtain rfl : q4 = true := hq4
  obtain rfl : q5 = true := hq5
  obtain rfl : q6 = true := hq6
  obtain rfl : q7 = true := hq7
  obtain ⟨g0, hg0⟩ := Gr.start W
  have E1 := Lib.hid (hW.trans hg0)
  have b0 := fun G => HB G 0 _ rfl
  have b1 := fun G => HB G 1 _ rfl
  have b2 := fun G => HB G 2 _ rfl
  have b3 := fun G => HB G 3 _ rfl
  have b4 := fun G => HB G 4 _ rfl
  have b5 := fun G => HB G 5 _ rfl
  have b6 := fun G => HB G 6 _ rfl
  have b7 := fun G => HB G 7 _ rfl
  have b8 := fun G => HB G 8 _ rfl
  have b9 := fun G => HB G 9 _ rfl
  have b10 := fun G => HB G 10 _ rfl
  have b11 := fun G => HB G 11 _ rfl
  have b12 := fun G => HB G 12 _ rfl
  have b13 := fun G => HB G 13 _ rfl
  have b14 := fun G => HB G 14 _ rfl
  have b15 := fun G => HB G 15 _ rfl
  clear HB hW hg0 G0
  go_enter Tryz.func10, Tryz.ntmps10
  go_upto_region 1 with fail
  rw [E1.out]
  go_wp2_with (first | (go_at_call 20; (with_reducible refine (HM.out _).mono ?_); rintro e w' ⟨rfl, hb⟩; obtain ⟨g', rfl⟩ := Gr.on _ hb; clear hb) | (go_at_call 21; (with_reducible refine (HS.out _).mono ?_); rintro e w' ⟨rfl, hb⟩; obtain ⟨g', rfl⟩ := Gr.on _ hb; clear hb) | (go_at_call 22; (with_reducible refine (HR.out _).mono ?_); rintro e w' ⟨rfl, hb⟩; obtain ⟨g', rfl⟩ := Gr.on _ hb; clear hb) | (go_at_call 26; (with_reducible refine (H7.out _).mono ?_); rintro e w' ⟨rfl, hb⟩; obtain ⟨g', rfl⟩ := Gr.on _ hb; clear hb) | (go_at_call 28; (with_reducible refine (HC.out _).mono ?_); rintro e w' ⟨rfl, hb⟩; obtain ⟨g', rfl⟩ := Gr.on _ hb; clear hb) | (go_at_call 23; (first | (with_reducible refine (H5.out _).mono ?_) | (with_reducible refine (H6.out _).mono ?_)); rintro e w' ⟨rfl, hb⟩; obtain ⟨g', rfl⟩ := Gr.on _ hb; clear hb))
  go_ret
  exact ⟨rfl, hG.out _⟩
set_option maxRecDepth 100000 in
set_option maxHeartbeats 4000000 in
theorem m11_a7 (start long : Int) (world again : Bool) (fq iv_ ct un : Int) (A1 A2 A3 A4 : Option Addr) (n1 n2 n3 n4 c1 c2 c3 c4 : Nat) (st : Int) (A5 A6 A7 : Option Addr) (n5 n6 n7 c5 c6 c7 : Nat) (w : World) (G0 : Gr w) (W : World)
    (q1 q2 q3 q4 q5 q6 q7 : Bool) (hW : w.alloc (.cells #[.int .i64 start, .int .i64 long, .bool world, .bool again, .int .i64 fq, .int .i64 iv_, .int .i64 ct, .int .i64 un, .slice A1 n1 c1, .slice A2 n2 c2, .slice A3 n3 c3, .slice A4 n4 c4, .int .i64 st, .slice A5 n5 c5, .slice A6 n6 c6, .slice A7 n7 c7] 32) = W) (hG : Hid (∀ g : Gr W, Below w.heap.size w g.val))
    (HB : ∀ (G : Gr W) (k : Nat) (v : Value), (#[.int .i64 start, .int .i64 long, .bool world, .bool again, .int .i64 fq, .int .i64 iv_, .int .i64 ct, .int .i64 un, .slice A1 n1 c1, .slice A2 n2 c2, .slice A3 n3 c3, .slice A4 n4 c4, .int .i64 st, .slice A5 n5 c5, .slice A6 n6 c6, .slice A7 n7 c7] : Array Value)[k]? = some v → G.val.cell? ⟨w.heap.size, k, none⟩ = some v)
    (HM : Hid (∀ g : Gr W, Calls Tryz.prog 20 #[.int .i64 start] g.val fun e w' => e = .returned (.bool q1) ∧ Below g.val.heap.size g.val w'))
    (HS : Hid (∀ g : Gr W, Calls Tryz.prog 21 #[.agg #[.int .i64 fq, .int .i64 iv_, .int .i64 ct, .int .i64 un, .slice A1 n1 c1, .slice A2 n2 c2, .slice A3 n3 c3, .slice A4 n4 c4, .int .i64 st], .agg #[.int .i64 0, .int .i64 0, .int .i64 0, .int .i64 0, .slice none 0 0, .slice none 0 0, .slice none 0 0, .slice none 0 0, .int .i64 0]] g.val fun e w' => e = .returned (.bool q2) ∧ Below g.val.heap.size g.val w'))
    (HR : Hid (∀ g : Gr W, Calls Tryz.prog 22 #[.agg #[.int .i64 fq, .int .i64 iv_, .int .i64 ct, .int .i64 un, .slice A1 n1 c1, .slice A2 n2 c2, .slice A3 n3 c3, .slice A4 n4 c4, .int .i64 st]] g.val fun e w' => e = .returned (.bool q3) ∧ Below g.val.heap.size g.val w'))
    (H5 : Hid (∀ g : Gr W, Calls Tryz.prog 23 #[.slice A5 n5 c5, .func (.func 24) #[] #[]] g.val fun e w' => e = .returned (.bool q4) ∧ Below g.val.heap.size g.val w'))
    (H6 : Hid (∀ g : Gr W, Calls Tryz.prog 23 #[.slice A6 n6 c6, .func (.func 25) #[] #[]] g.val fun e w' => e = .returned (.bool q5) ∧ Below g.val.heap.size g.val w'))
    (H7 : Hid (∀ g : Gr W, Calls Tryz.prog 26 #[.slice A7 n7 c7, .func (.func 27) #[] #[]] g.val fun e w' => e = .returned (.bool q6) ∧ Below g.val.heap.size g.val w'))
    (HC : Hid (∀ g : Gr W, Calls Tryz.prog 28 #[.slice A7 n7 c7, .func (.func 29) #[] #[]] g.val fun e w' => e = .returned (.bool q7) ∧ Below g.val.heap.size g.val w'))
    (hq1 : q1 = true) (hl1 : 1 ≤ long) (hl2 : long ≤ 10080) (ha : again = true) (hw : world = false) (hq3 : q3 = true) (hq4 : q4 = true) (hq5 : q5 = true) (hq6 : q6 = true) (hq7 : q7 = false)  :
    Calls Tryz.prog 10 #[.agg #[.int .i64 start, .int .i64 long, .bool world, .bool again, .int .i64 fq, .int .i64 iv_, .int .i64 ct, .int .i64 un, .slice A1 n1 c1, .slice A2 n2 c2, .slice A3 n3 c3, .slice A4 n4 c4, .int .i64 st, .slice A5 n5 c5, .slice A6 n6 c6, .slice A7 n7 c7]] w fun e w' => e = .returned (.bool true) ∧ Below w.heap.size w w' := by
  obtain rfl : q1 = true := hq1
  have l1 : decide (long < 1) = false := decide_eq_false (by omega)
  have l2 : decide (10080 < long) = false := decide_eq_false (by omega)
  have l1n : ¬ long < 1 := by omega
  have l2n : ¬ 10080 < long := by omega
  clear hl1 hl2
  obtain rfl : again = true := ha
  obtain rfl : world = false := hw
  obtain rfl : q3 = true := hq3
  obtain rfl : q4 = true := hq4
  obtain rfl : q5 = true := hq5
  obtain rfl : q6 = true := hq6
  obtain rfl : q7 = false := hq7
  obtain ⟨g0, hg0⟩ := Gr.start W
  have E1 := Lib.hid (hW.trans hg0)
  have b0 := fun G => HB G 0 _ rfl
  have b1 := fun G => HB G 1 _ rfl
  have b2 := fun G => HB G 2 _ rfl
  have b3 := fun G => HB G 3 _ rfl
  have b4 := fun G => HB G 4 _ rfl
  have b5 := fun G => HB G 5 _ rfl
  have b6 := fun G => HB G 6 _ rfl
  have b7 := fun G => HB G 7 _ rfl
  have b8 := fun G => HB G 8 _ rfl
  have b9 := fun G => HB G 9 _ rfl
  have b10 := fun G => HB G 10 _ rfl
  have b11 := fun G => HB G 11 _ rfl
  have b12 := fun G => HB G 12 _ rfl
  have b13 := fun G => HB G 13 _ rfl
  have b14 := fun G => HB G 14 _ rfl
  have b15 := fun G => HB G 15 _ rfl
  clear HB hW hg0 G0
  go_enter Tryz.func10, Tryz.ntmps10
  go_upto_region 1 with fail
  rw [E1.out]
  go_wp2_with (first | (go_at_call 20; (with_reducible refine (HM.out _).mono ?_); rintro e w' ⟨rfl, hb⟩; obtain ⟨g', rfl⟩ := Gr.on _ hb; clear hb) | (go_at_call 21; (with_reducible refine (HS.out _).mono ?_); rintro e w' ⟨rfl, hb⟩; obtain ⟨g', rfl⟩ := Gr.on _ hb; clear hb) | (go_at_call 22; (with_reducible refine (HR.out _).mono ?_); rintro e w' ⟨rfl, hb⟩; obtain ⟨g', rfl⟩ := Gr.on _ hb; clear hb) | (go_at_call 26; (with_reducible refine (H7.out _).mono ?_); rintro e w' ⟨rfl, hb⟩; obtain ⟨g', rfl⟩ := Gr.on _ hb; clear hb) | (go_at_call 28; (with_reducible refine (HC.out _).mono ?_); rintro e w' ⟨rfl, hb⟩; obtain ⟨g', rfl⟩ := Gr.on _ hb; clear hb) | (go_at_call 23; (first | (with_reducible refine (H5.out _).mono ?_) | (with_reducible refine (H6.out _).mono ?_)); rintro e w' ⟨rfl, hb⟩; obtain ⟨g', rfl⟩ := Gr.on _ hb; clear hb))
  go_ret
  exact ⟨rfl, hG.out _⟩
theorem pmay11_any (e : Evt) (A1 A2 A3 A4 A5 A6 A7 : Option Addr) (c1 c2 c3 c4 c5 c6 c7 : Nat) (w : World) (hx : e.ex.length ≤ 1000000) (hp : e.plus.length ≤ 1000000) (hc : e.ch.length ≤ 1000000) (h : EAt w e A1 A2 A3 A4 A5 A6 A7 c1 c2 c3 c4 c5 c6 c7) :
    Calls Tryz.prog 10 #[.agg (ecells e A1 A2 A3 A4 A5 A6 A7 c1 c2 c3 c4 c5 c6 c7)] w fun q w' => q = .returned (.bool (mayEB e)) ∧ Below w.heap.size w w' := by
  obtain ⟨W, hW⟩ : ∃ W, w.alloc (.cells (ecells e A1 A2 A3 A4 A5 A6 A7 c1 c2 c3 c4 c5 c6 c7) 32) = W := ⟨_, rfl⟩
  have hBW : Below w.heap.size w W := by rw [← hW]; exact (Below.refl _ w).alloc (Nat.le_refl _) _
  have HG : Hid (∀ g : Gr W, Below w.heap.size w g.val) := fun g => hBW.trans (g.ok.mono hBW.size)
  have HB : ∀ (G : Gr W) (k : Nat) (v : Value), (ecells e A1 A2 A3 A4 A5 A6 A7 c1 c2 c3 c4 c5 c6 c7)[k]? = some v → G.val.cell? ⟨w.heap.size, k, none⟩ = some v := by rw [← hW]; exact boxE e A1 A2 A3 A4 A5 A6 A7 c1 c2 c3 c4 c5 c6 c7 w
  have HE : ∀ g : Gr W, EAt g.val e A1 A2 A3 A4 A5 A6 A7 c1 c2 c3 c4 c5 c6 c7 := fun g => h.below (HG.out g)
  obtain ⟨q1, hq1⟩ : ∃ q, stampB e.start = q := ⟨_, rfl⟩
  obtain ⟨q2, hq2⟩ : ∃ q, sameB e.rule R0 = q := ⟨_, rfl⟩
  obtain ⟨q3, hq3⟩ : ∃ q, mayB e.rule = q := ⟨_, rfl⟩
  obtain ⟨q4, hq4⟩ : ∃ q, Ev.rowB e.ex = q := ⟨_, rfl⟩
  obtain ⟨q5, hq5⟩ : ∃ q, Ev.rowB e.plus = q := ⟨_, rfl⟩
  obtain ⟨q6, hq6⟩ : ∃ q, rowAB e.ch = q := ⟨_, rfl⟩
  obtain ⟨q7, hq7⟩ : ∃ q : Bool, q = true ↔ ∃ x ∈ e.ch, chB x.2.1 x.2.2 = false := by
    by_cases k : ∃ x ∈ e.ch, chB x.2.1 x.2.2 = false
    · exact ⟨true, by simpa using k⟩
    · exact ⟨false, by simpa using k⟩
  have HM : Hid (∀ g : Gr W, Calls Tryz.prog 20 #[.int .i64 e.start] g.val fun e w' => e = .returned (.bool q1) ∧ Below g.val.heap.size g.val w') := fun g => by rw [← hq1]; exact isMinute_g e.start g.val
  have HS : Hid (∀ g : Gr W, Calls Tryz.prog 21 #[.agg (rcells e.rule A1 A2 A3 A4 c1 c2 c3 c4), .agg (rcells R0 none none none none 0 0 0 0)] g.val fun e w' => e = .returned (.bool q2) ∧ Below g.val.heap.size g.val w') := fun g => by
    rw [← hq2]; exact same9_any e.rule R0 A1 A2 A3 A4 c1 c2 c3 c4 none none none none 0 0 0 0 g.val (HE g).r ⟨Sl.none_ _, Sl.none_ _, Sl.none_ _, Sl.none_ _⟩
  have HR : Hid (∀ g : Gr W, Calls Tryz.prog 22 #[.agg (rcells e.rule A1 A2 A3 A4 c1 c2 c3 c4)] g.val fun e w' => e = .returned (.bool q3) ∧ Below g.val.heap.size g.val w') := fun g => by rw [← hq3]; exact pmay_any e.rule A1 A2 A3 A4 c1 c2 c3 c4 g.val (HE g).r
  have H5 : Hid (∀ g : Gr W, Calls Tryz.prog 23 #[.slice A5 e.ex.length c5, .func (.func 24) #[] #[]] g.val fun e w' => e = .returned (.bool q4) ∧ Below g.val.heap.size g.val w') := fun g => by rw [← hq4]; exact prow1_any e.ex A5 c5 g.val hx (HE g).s5
  have H6 : Hid (∀ g : Gr W, Calls Tryz.prog 23 #[.slice A6 e.plus.length c6, .func (.func 25) #[] #[]] g.val fun e w' => e = .returned (.bool q5) ∧ Below g.val.heap.size g.val w') := fun g => by rw [← hq5]; exact prow2_any e.plus A6 c6 g.val hp (HE g).s6
  have H7 : Hid (∀ g : Gr W, Calls Tryz.prog 26 #[.slice A7 e.ch.length c7, .func (.func 27) #[] #[]] g.val fun e w' => e = .returned (.bool q6) ∧ Below g.val.heap.size g.val w') := fun g => by rw [← hq6]; exact prow3_any e.ch A7 c7 g.val hc (by have := (HE g).s7; rwa [cv_tv] at this)
  have HC : Hid (∀ g : Gr W, Calls Tryz.prog 28 #[.slice A7 e.ch.length c7, .func (.func 29) #[] #[]] g.val fun e w' => e = .returned (.bool q7) ∧ Below g.val.heap.size g.val w') := fun g => pcontC_any e.ch A7 c7 g.val (by have := (HE g).s7; rwa [cv_tv] at this) q7 hq7
  subst hW
  clear hBW HE h
  have hmf : ∀ {P : Prop}, (mayE e → P) → ¬ P → mayEB e = false := fun h1 h2 => decide_eq_false fun k => h2 (h1 k)
  have hokC := okC_iff (l := e.ch)
  obtain ⟨start, long, world, again, rule, ex, plus, ch⟩ := e
  unfold ecells at HB ⊢
  unfold rcells at HS HR
  simp only at *
  cases q1 with
  | false => rw [hmf (fun k => k.1) (by simp only [hq1]; simp)]; exact m11_w1 start long world again rule.freq rule.iv rule.count rule.until_ A1 A2 A3 A4 rule.bm.length rule.bd.length rule.bw.length rule.bs.length c1 c2 c3 c4 rule.start A5 A6 A7 ex.length plus.length ch.length c5 c6 c7 w ⟨w, Below.refl _ _⟩ _ _ q2 q3 q4 q5 q6 q7 rfl HG HB HM HS HR H5 H6 H7 HC rfl
  | true =>
  by_cases l1 : long < 1
  · rw [hmf (fun k => k.2.1) (by simp only; omega)]; exact m11_w2 start long world again rule.freq rule.iv rule.count rule.until_ A1 A2 A3 A4 rule.bm.length rule.bd.length rule.bw.length rule.bs.length c1 c2 c3 c4 rule.start A5 A6 A7 ex.length plus.length ch.length c5 c6 c7 w ⟨w, Below.refl _ _⟩ _ _ q2 q3 q4 q5 q6 q7 rfl HG HB HM HS HR H5 H6 H7 HC rfl l1
  by_cases l2 : 10080 < long
  · rw [hmf (fun k => k.2.2.1) (by simp only; omega)]; exact m11_w3 start long world again rule.freq rule.iv rule.count rule.until_ A1 A2 A3 A4 rule.bm.length rule.bd.length rule.bw.length rule.bs.length c1 c2 c3 c4 rule.start A5 A6 A7 ex.length plus.length ch.length c5 c6 c7 w ⟨w, Below.refl _ _⟩ _ _ q2 q3 q4 q5 q6 q7 rfl HG HB HM HS HR H5 H6 H7 HC rfl (by omega) l2
  cases again with
  | false =>
    cases q2 with
    | false => rw [hmf (fun k => (k.2.2.2.1 rfl).1) (by simp only [hq2]; simp)]; exact m11_s1 start long world _ rule.freq rule.iv rule.count rule.until_ A1 A2 A3 A4 rule.bm.length rule.bd.length rule.bw.length rule.bs.length c1 c2 c3 c4 rule.start A5 A6 A7 ex.length plus.length ch.length c5 c6 c7 w ⟨w, Below.refl _ _⟩ _ _ _ q3 q4 q5 q6 q7 rfl HG HB HM HS HR H5 H6 H7 HC rfl (by omega) (by omega) rfl rfl
    | true =>
    by_cases z5 : ex.length = 0
    · by_cases z6 : plus.length = 0
      · by_cases z7 : ch.length = 0
        · rw [show mayEB _ = true from decide_eq_true ⟨hq1, by simp only; omega, by simp only; omega, fun _ => ⟨hq2, z5, z6, z7⟩, fun k => by cases k⟩]
          exact m11_s5 start long world _ rule.freq rule.iv rule.count rule.until_ A1 A2 A3 A4 rule.bm.length rule.bd.length rule.bw.length rule.bs.length c1 c2 c3 c4 rule.start A5 A6 A7 ex.length plus.length ch.length c5 c6 c7 w ⟨w, Below.refl _ _⟩ _ _ _ q3 q4 q5 q6 q7 rfl HG HB HM HS HR H5 H6 H7 HC rfl (by omega) (by omega) rfl rfl z5 z6 z7
        · rw [hmf (fun k => (k.2.2.2.1 rfl).2.2.2) z7]; exact m11_s4 start long world _ rule.freq rule.iv rule.count rule.until_ A1 A2 A3 A4 rule.bm.length rule.bd.length rule.bw.length rule.bs.length c1 c2 c3 c4 rule.start A5 A6 A7 ex.length plus.length ch.length c5 c6 c7 w ⟨w, Below.refl _ _⟩ _ _ _ q3 q4 q5 q6 q7 rfl HG HB HM HS HR H5 H6 H7 HC rfl (by omega) (by omega) rfl rfl z5 z6 z7
      · rw [hmf (fun k => (k.2.2.2.1 rfl).2.2.1) z6]; exact m11_s3 start long world _ rule.freq rule.iv rule.count rule.until_ A1 A2 A3 A4 rule.bm.length rule.bd.length rule.bw.length rule.bs.length c1 c2 c3 c4 rule.start A5 A6 A7 ex.length plus.length ch.length c5 c6 c7 w ⟨w, Below.refl _ _⟩ _ _ _ q3 q4 q5 q6 q7 rfl HG HB HM HS HR H5 H6 H7 HC rfl (by omega) (by omega) rfl rfl z5 z6
    · rw [hmf (fun k => (k.2.2.2.1 rfl).2.1) z5]; exact m11_s2 start long world _ rule.freq rule.iv rule.count rule.until_ A1 A2 A3 A4 rule.bm.length rule.bd.length rule.bw.length rule.bs.length c1 c2 c3 c4 rule.start A5 A6 A7 ex.length plus.length ch.length c5 c6 c7 w ⟨w, Below.refl _ _⟩ _ _ _ q3 q4 q5 q6 q7 rfl HG HB HM HS HR H5 H6 H7 HC rfl (by omega) (by omega) rfl rfl z5
  | true =>
  cases world with
  | true => rw [hmf (fun k => (k.2.2.2.2 rfl).1) (by simp)]; exact m11_a1 start long _ _ rule.freq rule.iv rule.count rule.until_ A1 A2 A3 A4 rule.bm.length rule.bd.length rule.bw.length rule.bs.length c1 c2 c3 c4 rule.start A5 A6 A7 ex.length plus.length ch.length c5 c6 c7 w ⟨w, Below.refl _ _⟩ _ _ q2 q3 q4 q5 q6 q7 rfl HG HB HM HS HR H5 H6 H7 HC rfl (by omega) (by omega) rfl rfl
  | false =>
  cases q3 with
  | false => rw [hmf (fun k => (k.2.2.2.2 rfl).2.1) (by simp only [hq3]; simp)]; exact m11_a2 start long _ _ rule.freq rule.iv rule.count rule.until_ A1 A2 A3 A4 rule.bm.length rule.bd.length rule.bw.length rule.bs.length c1 c2 c3 c4 rule.start A5 A6 A7 ex.length plus.length ch.length c5 c6 c7 w ⟨w, Below.refl _ _⟩ _ _ q2 _ q4 q5 q6 q7 rfl HG HB HM HS HR H5 H6 H7 HC rfl (by omega) (by omega) rfl rfl rfl
  | true =>
  cases q4 with
  | false => rw [hmf (fun k => (k.2.2.2.2 rfl).2.2.1) (by simp only [hq4]; simp)]; exact m11_a3 start long _ _ rule.freq rule.iv rule.count rule.until_ A1 A2 A3 A4 rule.bm.length rule.bd.length rule.bw.length rule.bs.length c1 c2 c3 c4 rule.start A5 A6 A7 ex.length plus.length ch.length c5 c6 c7 w ⟨w, Below.refl _ _⟩ _ _ q2 _ _ q5 q6 q7 rfl HG HB HM HS HR H5 H6 H7 HC rfl (by omega) (by omega) rfl rfl rfl rfl
  | true =>
  cases q5 with
  | false => rw [hmf (fun k => (k.2.2.2.2 rfl).2.2.2.1) (by simp only [hq5]; simp)]; exact m11_a4 start long _ _ rule.freq rule.iv rule.count rule.until_ A1 A2 A3 A4 rule.bm.length rule.bd.length rule.bw.length rule.bs.length c1 c2 c3 c4 rule.start A5 A6 A7 ex.length plus.length ch.length c5 c6 c7 w ⟨w, Below.refl _ _⟩ _ _ q2 _ _ _ q6 q7 rfl HG HB HM HS HR H5 H6 H7 HC rfl (by omega) (by omega) rfl rfl rfl rfl rfl
  | true =>
  cases q6 with
  | false => rw [hmf (fun k => (hokC.1 (k.2.2.2.2 rfl).2.2.2.2).1) (by simp only [hq6]; simp)]; exact m11_a5 start long _ _ rule.freq rule.iv rule.count rule.until_ A1 A2 A3 A4 rule.bm.length rule.bd.length rule.bw.length rule.bs.length c1 c2 c3 c4 rule.start A5 A6 A7 ex.length plus.length ch.length c5 c6 c7 w ⟨w, Below.refl _ _⟩ _ _ q2 _ _ _ _ q7 rfl HG HB HM HS HR H5 H6 H7 HC rfl (by omega) (by omega) rfl rfl rfl rfl rfl rfl
  | true =>
  cases q7 with
  | true => rw [hmf (fun k => (hokC.1 (k.2.2.2.2 rfl).2.2.2.2).2) (by simpa using hq7)]; exact m11_a6 start long _ _ rule.freq rule.iv rule.count rule.until_ A1 A2 A3 A4 rule.bm.length rule.bd.length rule.bw.length rule.bs.length c1 c2 c3 c4 rule.start A5 A6 A7 ex.length plus.length ch.length c5 c6 c7 w ⟨w, Below.refl _ _⟩ _ _ q2 _ _ _ _ _ rfl HG HB HM HS HR H5 H6 H7 HC rfl (by omega) (by omega) rfl rfl rfl rfl rfl rfl rfl
  | false =>
    rw [show mayEB _ = true from decide_eq_true ⟨hq1, by simp only; omega, by simp only; omega, (fun k => by cases k), fun _ => ⟨rfl, hq3, hq4, hq5, hokC.2 ⟨hq6, by simpa using hq7⟩⟩⟩]
    exact m11_a7 start long _ _ rule.freq rule.iv rule.count rule.until_ A1 A2 A3 A4 rule.bm.length rule.bd.length rule.bw.length rule.bs.length c1 c2 c3 c4 rule.start A5 A6 A7 ex.length plus.length ch.length c5 c6 c7 w ⟨w, Below.refl _ _⟩ _ _ q2 _ _ _ _ _ rfl HG HB HM HS HR H5 H6 H7 HC rfl (by omega) (by omega) rfl rfl rfl rfl rfl rfl rfl
end Go.Proofs.YtfjmofefciopmaaGreat
end
