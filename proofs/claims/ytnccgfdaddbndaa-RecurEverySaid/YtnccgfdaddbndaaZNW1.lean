import Derived.Test.YtnccgfdaddbndaaZShelf
import Derived.Test.YtnccgfdaddbndaaZMN
import Derived.Test.YtnccgfdaddbndaaZTW4
/- Contracts of the program's times: places in a row; is a number among others; is a weekday one of a row. -/
section
namespace Go.Proofs.Ytnccgfdaddbndaa
open Go.ChangeShapes Go.WideShapes Go.ChangeAt Go.RowKit Go.Joins Qr Tm Cal

theorem contains_mem (l : List Int) (x : Int) : l.contains x = memB l x := by
  rw [Bool.eq_iff_iff, memB_iff]; simp
theorem sl_all {l : List Int} {w : World} {b off c n : Nat} (hs : Sl w (some ⟨b, off, none⟩) n c (iv l)) (_hl : 0 < l.length) : ∀ j, j < l.length → w.cell? ⟨b, off + j, none⟩ = some (.int .i64 (l.getD j 0)) := by
  intro j hj
  obtain ⟨b', off', e, _, hc⟩ := hs.at_ (iv_at (List.getElem?_eq_getElem hj))
  simp only [Option.some.injEq, Addr.mk.injEq, and_true] at e
  obtain ⟨rfl, rfl⟩ := e
  rw [hc, List.getD_eq_getElem?_getD, List.getElem?_eq_getElem hj]; rfl
theorem sl_some {l : List Int} {w : World} {A : Option Addr} {n c : Nat} (hs : Sl w A n c (iv l)) (hl : 0 < l.length) : ∃ b off, A = some ⟨b, off, none⟩ ∧ b < w.heap.size := by
  obtain ⟨b, off, e, hb, _⟩ := hs.at_ (iv_at (List.getElem?_eq_getElem hl))
  exact ⟨b, off, e, hb⟩
theorem pcontains_any (l : List Int) (A : Option Addr) (c : Nat) (x : Int) (hl : 0 < l.length) (w : World) (hs : Sl w A l.length c (iv l)) :
    Calls Try.prog 64 #[.slice A l.length c, .int .i64 x] w fun e w' => e = .returned (.bool (memB l x)) ∧ Below w.heap.size w w' := by
  obtain ⟨b, off, rfl, _⟩ := sl_some hs hl
  have h := Try.slices_Contains_int b off l.length c l x w (Nat.le_refl _) (Nat.le_trans hs.le hs.cap) (sl_all hs hl)
  refine h.mono ?_
  rintro e w' ⟨rfl, rfl⟩
  exact ⟨ret_bool (by rw [List.take_length, contains_mem]), Below.refl _ _⟩
theorem pbin_any (l : List Int) (A : Option Addr) (c : Nat) (x : Int) (hl : 0 < l.length) (hl2 : l.length ≤ 10000) (hp : l.Pairwise (· ≤ ·)) (w : World) (hs : Sl w A l.length c (iv l)) :
    Calls Try.prog 67 #[.slice A l.length c, .int .i64 x] w fun e w' => (∃ k : Nat, e = .returned (.tuple #[.int .i64 k, .bool (memB l x)])) ∧ Below w.heap.size w w' := by
  obtain ⟨b, off, rfl, _⟩ := sl_some hs hl
  have h := Try.slices_BinarySearch_int b off l.length c l x w (Nat.le_refl _) (by omega) (sl_all hs hl) (by rw [List.take_length]; exact hp)
  refine h.mono ?_
  rintro e w' ⟨rfl, q, rfl⟩
  exact ⟨⟨_, by rw [List.take_length, contains_mem]⟩, drewN_below _ _⟩

theorem plc_any (l : List Int) (A : Option Addr) (c : Nat) (n m : Int) (hl : 0 < l.length) (hl2 : l.length ≤ 10000) (hp : l.Pairwise (· ≤ ·)) (hn : 0 ≤ n ∧ n ≤ 100000) (hm : 0 ≤ m ∧ m ≤ 100000) (w : World) (hs : Sl w A l.length c (iv l)) :
    Calls Try.prog 60 #[.slice A l.length c, .int .i64 n, .int .i64 m] w fun e w' => e = .returned (.bool (plB l n m)) ∧ Below w.heap.size w w' := by
  have HC : Hid (∀ (x : Int) (g : Gr w), Calls Try.prog 67 #[.slice A l.length c, .int .i64 x] g.val fun e w' => (∃ k : Nat, e = .returned (.tuple #[.int .i64 k, .bool (memB l x)])) ∧ Below g.val.heap.size g.val w') := fun x g => pbin_any l A c x hl hl2 hp g.val (hs.gr g)
  have hw1 : IntKind.i64.wrap (n - m) = n - m := by rw [IntKind.wrap_i64]; omega
  have hw2 : IntKind.i64.wrap (n - m - 1) = n - m - 1 := by rw [IntKind.wrap_i64]; omega
  have H1 := Lib.hid (HC.out n)
  have H2 := Lib.hid (HC.out (n - m - 1))
  have HE : Hid (plB l n m = (memB l n || memB l (n - m - 1))) := rfl
  generalize plB l n m = q at *
  generalize memB l n = q1 at *
  generalize memB l (n - m - 1) = q2 at *
  clear HC hs hp
  go_enter Try.func60, Try.ntmps60
  go_wp2_with fail
  go_at_call 67
  refine (H1.out ⟨w, Below.refl _ _⟩).mono ?_
  rintro e w1 ⟨⟨k1, rfl⟩, hb1⟩
  obtain ⟨g1, rfl⟩ := Gr.of hb1
  clear hb1
  go_wp2_with fail
  go_at_call 67
  refine (H2.out g1).mono ?_
  rintro e w2 ⟨⟨k2, rfl⟩, hb2⟩
  obtain ⟨g2, rfl⟩ := g1.on hb2
  clear hb2
  cases q1 with
  | true =>
    go_wp2_with fail
    go_ret
    exact ⟨ret_bool (by rw [HE.out]; rfl), g2.ok⟩
  | false =>
    cases q2 with
    | true =>
      go_wp2_with fail
      go_ret
      exact ⟨ret_bool (by rw [HE.out]; rfl), g2.ok⟩
    | false =>
      go_wp2_with fail
      go_ret
      exact ⟨ret_bool (by rw [HE.out]; rfl), g2.ok⟩

/-- Three boxes of numbers. -/
def box3 (w : World) (a b c : Int) : World := ((w.alloc (.cells #[.int .i64 a] 3)).alloc (.cells #[.int .i64 b] 3)).alloc (.cells #[.int .i64 c] 3)
/-- What three boxes hold. -/
structure Box3 (w : World) (k : Nat) (a b c : Int) : Prop where
  c1 : w.cell? ⟨k, 0, none⟩ = some (.int .i64 a)
  c2 : w.cell? ⟨k + 1, 0, none⟩ = some (.int .i64 b)
  c3 : w.cell? ⟨k + 2, 0, none⟩ = some (.int .i64 c)
theorem box3_new (w : World) (a b c : Int) : Box3 (box3 w a b c) w.heap.size a b c := by
  unfold box3
  refine ⟨?_, ?_, ?_⟩
  · exact blk_cell (by rw [heap_alloc_old _ _ (by simp; omega), heap_alloc_old _ _ (by simp)]; exact heap_alloc_new _ _) rfl
  · exact blk_cell (by rw [heap_alloc_old _ _ (by simp)]; exact heap_alloc_new2 _ _ _) rfl
  · exact blk_cell (heap_alloc_new3 _ _ _ _) rfl
theorem box3_below (w : World) (a b c : Int) : Below w.heap.size w (box3 w a b c) := (((Below.refl _ w).alloc (Nat.le_refl _) _).alloc (by simp) _).alloc (by simp; omega) _
theorem Box3.up {w w' : World} {k : Nat} {a b c : Int} (h : Box3 w k a b c) (hb : Below w.heap.size w w') : Box3 w' k a b c := ⟨cell_old h.c1 hb, cell_old h.c2 hb, cell_old h.c3 hb⟩

theorem isOn_any (day d m : Int) (hd : 1 ≤ d ∧ d ≤ 31) (hm : 0 ≤ m ∧ m ≤ 31) (hdm : d ≤ m) (w : World) :
    Calls Try.prog 66 #[.int .i64 day, .int .i64 d, .int .i64 m] w fun e w' => e = .returned (.func (.func 72) #[] #[.pointer (some ⟨w.heap.size, 0, none⟩), .pointer (some ⟨w.heap.size + 1, 0, none⟩), .pointer (some ⟨w.heap.size + 2, 0, none⟩)]) ∧ w' = box3 w (day % 7) ((d - 1) / 7 + 1) ((m - d) / 7 + 1) := by
  have e1 : (d - 1).tdiv 7 = (d - 1) / 7 := Int.tdiv_eq_ediv_of_nonneg (by omega)
  have e2 : (m - d).tdiv 7 = (m - d) / 7 := Int.tdiv_eq_ediv_of_nonneg (by omega)
  have w1 : IntKind.i64.wrap ((d - 1) / 7) = (d - 1) / 7 := by rw [IntKind.wrap_i64]; omega
  have w2 : IntKind.i64.wrap ((m - d) / 7) = (m - d) / 7 := by rw [IntKind.wrap_i64]; omega
  have HC := Lib.hid (fun w => weekday_any day w)
  unfold box3
  generalize day % 7 = k at *
  go_enter Try.func66, Try.ntmps66
  go_wp2_with (go_at_call 47; (with_reducible refine (HC.out _).mono ?_); rintro e w' ⟨rfl, rfl⟩)
  go_ret
  exact ⟨rfl, rfl⟩
end Go.Proofs.Ytnccgfdaddbndaa
end
