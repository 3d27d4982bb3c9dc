import Derived.Test.YtfjmofefciopmaaGreatZShelf
import Derived.Test.YtfjmofefciopmaaGreatZMN
import Derived.Test.YtfjmofefciopmaaGreatZMT
import Derived.Test.YtfjmofefciopmaaGreatZTW5
import Derived.Test.YtfjmofefciopmaaGreatZMB
import Derived.Test.YtfjmofefciopmaaGreatZMD
/- Contracts of the program's times: places in a row; is a number among others; is a weekday one of a row. -/
section
namespace Go.Proofs.YtfjmofefciopmaaGreat
open Go.ChangeShapes Go.WideShapes Go.ChangeAt Go.RowKit Go.Joins Qr Tm Cal
theorem contains_mem (l : List Int) (x : Int) : l.contains x = memB l x := by
  rw [Bool.eq_iff_iff, memB_iff]; simp
theorem sl_all {l : List Int} {w : World} {b off c n : Nat} (hs : Sl w (some ⟨b, off, none⟩) n c (iv l)) (_hl : 0 < l.length) : ∀ j, j < l.length → w.cell? ⟨b, off + j, none⟩ = some (.int .i64 (l.getD j 0)) := by
  intro j hj
  obtain ⟨b', off', e, _, hc⟩ := hs.at_ (iv_at (List.getElem?_eq_getElem hj))
  simp only [Option.some.injEq, Addr.mk.injEq, and_true] at e
  obtain ⟨rfl, rfl⟩ := e
  rw [hc, List.getD_eq_getElem?_getD, List.getElem?_eq_getElem hj]; rfl
theorem sl_some {l : List Int} {w : World} {A : Option Addr} {n c : Nat} (hs : Sl w A n c (iv l)) (hl : 0 < l.length) : ∃ b off, A = some ⟨b, off, none⟩ ∧ b < w.heap.size := by
  obtain ⟨b, off, e, hb, _⟩ := hs.at_ (iv_at (List.getElem?_eq_getElem hl))
  exact ⟨b, off, e, hb⟩
theorem pcontains_any (l : List Int) (A : Option Addr) (c : Nat) (x : Int) (hl : 0 < l.length) (w : World) (hs : Sl w A l.length c (iv l)) :
    Calls Tryz.prog 159 #[.slice A l.length c, .int .i64 x] w fun e w' => e = .returned (.bool (memB l x)) ∧ Below w.heap.size w w' := by
  obtain ⟨b, off, rfl, _⟩ := sl_some hs hl
  have h := Tryz.slices_Contains_int b off l.length c l x w (Nat.le_refl _) (Nat.le_trans hs.le hs.cap) (sl_all hs hl)
  refine h.mono ?_
  rintro e w' ⟨rfl, rfl⟩
  exact ⟨ret_bool (by rw [List.take_length, contains_mem]), Below.refl _ _⟩
theorem pbin_any (l : List Int) (A : Option Addr) (c : Nat) (x : Int) (hl : 0 < l.length) (hl2 : l.length ≤ 10000) (hp : l.Pairwise (· ≤ ·)) (w : World) (hs : Sl w A l.length c (iv l)) :
    Calls Tryz.prog 162 #[.slice A l.length c, .int .i64 x] w fun e w' => (∃ k : Nat, e = .returned (.tuple #[.int .i64 k, .bool (memB l x)])) ∧ Below w.heap.size w w' := by
  obtain ⟨b, off, rfl, _⟩ := sl_some hs hl
  have h := Tryz.slices_BinarySearch_int b off l.length c l x w (Nat.le_refl _) (by omega) (sl_all hs hl) (by rw [List.take_length]; exact hp)
  refine h.mono ?_
  rintro e w' ⟨rfl, q, rfl⟩
  exact ⟨⟨_, by rw [List.take_length, contains_mem]⟩, drewN_below _ _⟩
theorem plc_any (l : List Int) (A : Option Addr) (c : Nat) (n m : Int) (hl : 0 < l.length) (hl2 : l.length ≤ 10000) (hp : l.Pairwise (· ≤ ·)) (hn : 0 ≤ n ∧ n ≤ 100000) (hm : 0 ≤ m ∧ m ≤ 100000) (w : World) (hs : Sl w A l.length c (iv l)) :
    Calls Tryz.prog 154 #[.slice A l.length c, .int .i64 n, .int .i64 m] w fun e w' => e = .returned (.bool (plB l n m)) ∧ Below w.heap.size w w' := by
  have HC : Hid (∀ (x : Int) (g : Gr w), Calls Tryz.prog 162 #[.slice A l.length c, .int .i64 x] g.val fun e w' => (∃ k : Nat, e = .returned (.tuple #[.int .i64 k, .bool (memB l x)])) ∧ Below g.val.heap.size g.val w') := fun x g => pbin_any l A c x hl hl2 hp g.val (hs.gr g)
  have hw1 : IntKind.i64.wrap (n - m) = n - m := by rw [IntKind.wrap_i64]; omega
  have hw2 : IntKind.i64.wrap (n - m - 1) = n - m - 1 := by rw [IntKind.wrap_i64]; omega
  have H1 := Lib.hid (HC.out n)
  have H2 := Lib.hid (HC.out (n - m - 1))
  have HE : Hid (plB l n m = (memB l n || memB l (n - m - 1))) := rfl
  generalize plB l n m = q at *
  generalize memB l n = q1 at *
  generalize memB l (n - m - 1) = q2 at *
  clear HC hs hp
  go_enter Tryz.func154, Tryz.ntmps154
  go_wp2_with fail
  go_at_call 162
  refine (H1.out ⟨w, Below.refl _ _⟩).mono ?_
  rintro e w1 ⟨⟨k1, rfl⟩, hb1⟩
  obtain ⟨g1, rfl⟩ := Gr.of hb1
  clear hb1
  go_wp2_with fail
  go_at_call 162
  refine (H2.out g1).mono ?_
  rintro e w2 ⟨⟨k2, rfl⟩, hb2⟩
  obtain ⟨g2, rfl⟩ := g1.on hb2
  clear hb2
  cases q1 with
  | true =>
    go_wp2_with fail
    go_ret
    exact ⟨ret_bool (by rw [HE.out]; rfl), g2.ok⟩
  | false =>
    cases q2 with
    | true =>
      go_wp2_with fail
      go_ret
      exact ⟨ret_bool (by rw [HE.out]; rfl), g2.ok⟩
    | false =>
      go_wp2_with fail
      go_ret
      exact ⟨ret_bool (by rw [HE.out]; rfl), g2.ok⟩
def box3 (w : World) (a b c : Int) : World := ((w.alloc (.cells #[.int .i64 a] 3)).alloc (.cells #[.int .i64 b] 3)).alloc (.cells #[.int .i64 c] 3)
structure Box3 (w : World) (k : Nat) (a b c : Int) : Prop where
  c1 : w.cell? ⟨k, 0, none⟩ = some (.int .i64 a)
  c2 : w.cell? ⟨k + 1, 0, none⟩ = some (.int .i64 b)
  c3 : w.cell? ⟨k + 2, 0, none⟩ = some (.int .i64 c)
theorem box3_new (w : World) (a b c : Int) : Box3 (box3 w a b c) w.heap.size a b c := by
  unfold box3
  refine ⟨?_, ?_, ?_⟩
  · exact blk_cell (by rw [heap_alloc_old _ _ (by simp; omega), heap_alloc_old _ _ (by simp)]; exact heap_alloc_new _ _) rfl
  · exact blk_cell (by rw [heap_alloc_old _ _ (by simp)]; exact heap_alloc_new2 _ _ _) rfl
  · exact blk_cell (heap_alloc_new3 _ _ _ _) rfl
theorem box3_below (w : World) (a b c : Int) : Below w.heap.size w (box3 w a b c) := (((Below.refl _ w).alloc (Nat.le_refl _) _).alloc (by simp) _).alloc (by simp; omega) _
theorem Box3.up {w w' : World} {k : Nat} {a b c : Int} (h : Box3 w k a b c) (hb : Below w.heap.size w w') : Box3 w' k a b c := ⟨cell_old h.c1 hb, cell_old h.c2 hb, cell_old h.c3 hb⟩
theorem isOn_any (day d m : Int) (hd : 1 ≤ d ∧ d ≤ 31) (hm : 0 ≤ m ∧ m ≤ 31) (hdm : d ≤ m) (w : World) :
    Calls Tryz.prog 161 #[.int .i64 day, .int .i64 d, .int .i64 m] w fun e w' => e = .returned (.func (.func 167) #[] #[.pointer (some ⟨w.heap.size, 0, none⟩), .pointer (some ⟨w.heap.size + 1, 0, none⟩), .pointer (some ⟨w.heap.size + 2, 0, none⟩)]) ∧ w' = box3 w (day % 7) ((d - 1) / 7 + 1) ((m - d) / 7 + 1) := by
  have e1 : (d - 1).tdiv 7 = (d - 1) / 7 := Int.tdiv_eq_ediv_of_nonneg (by omega)
  have e2 : (m - d).tdiv 7 = (m - d) / 7 := Int.tdiv_eq_ediv_of_nonneg (by omega)
  have w1 : IntKind.i64.wrap ((d - 1) / 7) = (d - 1) / 7 := by rw [IntKind.wrap_i64]; omega
  have w2 : IntKind.i64.wrap ((m - d) / 7) = (m - d) / 7 := by rw [IntKind.wrap_i64]; omega
  have HC := Lib.hid (fun w => weekday_any day w)
  unfold box3
  generalize day % 7 = k at *
  go_enter Tryz.func161, Tryz.ntmps161
  go_wp2_with (go_at_call 140; (with_reducible refine (HC.out _).mono ?_); rintro e w' ⟨rfl, rfl⟩)
  go_ret
  exact ⟨rfl, rfl⟩
end Go.Proofs.YtfjmofefciopmaaGreat
end
section
namespace Go.Proofs.YtfjmofefciopmaaGreat
open Go.ChangeShapes Go.WideShapes Go.ChangeAt Go.RowKit Go.Joins Qr Tm Cal
def onB (k up dn : Int) (x : Int × Int) : Bool := decide (x.2 = k) && (decide (x.1 = 0) || decide (x.1 = up) || decide (x.1 = -dn))
set_option maxRecDepth 100000 in
set_option maxHeartbeats 1000000 in
theorem isOn1_any (x1 x2 k up dn : Int) (K : Nat) (hdn : 0 ≤ dn ∧ dn ≤ 100) (w : World) (h : Box3 w K k up dn) :
    Calls Tryz.prog 167 #[.agg #[.int .i64 x1, .int .i64 x2], .pointer (some ⟨K, 0, none⟩), .pointer (some ⟨K + 1, 0, none⟩), .pointer (some ⟨K + 2, 0, none⟩)] w
      fun e w' => e = .returned (.bool (onB k up dn (x1, x2))) ∧ Below w.heap.size w w' := by
  obtain ⟨q, hq⟩ : ∃ q, onB k up dn (x1, x2) = q := ⟨_, rfl⟩
  have hQ : q = (decide (x2 = k) && (decide (x1 = 0) || decide (x1 = up) || decide (x1 = -dn))) := hq.symm
  rw [hq]
  have HQ := Lib.hid hQ
  clear hq hQ
  have c1 := Gr.layOld h.c1 (.cells #[.int .i64 x1, .int .i64 x2] 79)
  have c2 := Gr.layOld h.c2 (.cells #[.int .i64 x1, .int .i64 x2] 79)
  have c3 := Gr.layOld h.c3 (.cells #[.int .i64 x1, .int .i64 x2] 79)
  have p1 := c1 ⟨_, Below.refl _ _⟩
  have p2 := c2 ⟨_, Below.refl _ _⟩
  have p3 := c3 ⟨_, Below.refl _ _⟩
  simp only at p1 p2 p3
  have hB := Lib.hid ((Below.refl w.heap.size w).alloc (Nat.le_refl _) (.cells #[.int .i64 x1, .int .i64 x2] 79))
  have hneg : IntKind.i64.wrap (-dn) = -dn := by rw [IntKind.wrap_i64]; omega
  clear h c1 c2 c3
  by_cases e1 : x2 = k
  · have e1b : (x2 == k) = true := by simpa using e1
    subst e1
    by_cases e2 : x1 = 0
    · have E : Hid (q = true) := by show _ = _; rw [HQ.out]; simp [e2]
      subst e2
      clear HQ
      go_enter Tryz.func167, Tryz.ntmps167
      go_wp2_with fail
      go_ret
      exact ⟨ret_bool E.out.symm, hB.out⟩
    · have e2b : (x1 == 0) = false := by simpa using e2
      by_cases e3 : x1 = up
      · have E : Hid (q = true) := by show _ = _; rw [HQ.out]; simp [e3]
        have e3b : (x1 == up) = true := by simpa using e3
        subst e3
        clear HQ e2
        go_enter Tryz.func167, Tryz.ntmps167
        go_wp2_with fail
        go_ret
        exact ⟨ret_bool E.out.symm, hB.out⟩
      · have e3b : (x1 == up) = false := by simpa using e3
        by_cases e4 : x1 = -dn
        · have E : Hid (q = true) := by show _ = _; rw [HQ.out]; simp [e4]
          have e4b : (x1 == -dn) = true := by simpa using e4
          clear HQ e2 e3 e4
          go_enter Tryz.func167, Tryz.ntmps167
          go_wp2_with fail
          go_ret
          exact ⟨ret_bool E.out.symm, hB.out⟩
        · have E : Hid (q = false) := by show _ = _; rw [HQ.out]; simp [e2, e3, e4]
          have e4b : (x1 == -dn) = false := by simpa using e4
          clear HQ e2 e3 e4
          go_enter Tryz.func167, Tryz.ntmps167
          go_wp2_with fail
          go_ret
          exact ⟨ret_bool E.out.symm, hB.out⟩
  · have e1b : (x2 == k) = false := by simpa using e1
    have E : Hid (q = false) := by show _ = _; rw [HQ.out]; simp [e1]
    clear HQ e1
    go_enter Tryz.func167, Tryz.ntmps167
    go_wp2_with fail
    go_ret
    exact ⟨ret_bool E.out.symm, hB.out⟩
def fstB (p : Int × Int → Bool) : List (Int × Int) → Nat → Int
  | [], _ => -1
  | x :: l, i => if p x = true then i else fstB p l (i + 1)
theorem fstB_any (p : Int × Int → Bool) : ∀ (l : List (Int × Int)) (i : Nat), decide (0 ≤ fstB p l i) = l.any p
  | [], _ => rfl
  | x :: l, i => by
    unfold fstB
    rw [List.any_cons]
    cases h : p x with
    | true => simp
    | false => simpa using fstB_any p l (i + 1)
theorem fstB_bd (p : Int × Int → Bool) : ∀ (l : List (Int × Int)) (i : Nat), -1 ≤ fstB p l i ∧ fstB p l i ≤ i + l.length
  | [], i => by unfold fstB; exact ⟨by omega, by omega⟩
  | x :: l, i => by
    unfold fstB
    have := fstB_bd p l (i + 1)
    rw [List.length_cons]
    split <;> omega
set_option maxRecDepth 100000 in
set_option maxHeartbeats 1000000 in
theorem pindexF_any (l : List (Int × Int)) (A : Option Addr) (c : Nat) (k up dn : Int) (K : Nat) (hdn : 0 ≤ dn ∧ dn ≤ 100) (w : World) (hs : Sl w A l.length c (sv l)) (h : Box3 w K k up dn) :
    Calls Tryz.prog 166 #[.slice A l.length c, .func (.func 167) #[] #[.pointer (some ⟨K, 0, none⟩), .pointer (some ⟨K + 1, 0, none⟩), .pointer (some ⟨K + 2, 0, none⟩)]] w
      fun e w' => e = .returned (.int .i64 (fstB (onB k up dn) l 0)) ∧ Below w.heap.size w w' := by
  have hl : l.length ≤ 9223372036854775807 := Nat.le_trans hs.le hs.cap
  obtain ⟨r, hr⟩ : ∃ r, fstB (onB k up dn) l 0 = r := ⟨_, rfl⟩
  have HR : Hid (fstB (onB k up dn) (l.drop 0) 0 = r) := hr
  rw [hr]
  have HS := Lib.hid hs
  have HC : Hid (∀ (x1 x2 : Int) (g : Gr w), Calls Tryz.prog 167 #[.agg #[.int .i64 x1, .int .i64 x2], .pointer (some ⟨K, 0, none⟩), .pointer (some ⟨K + 1, 0, none⟩), .pointer (some ⟨K + 2, 0, none⟩)] g.val
      fun e w' => e = .returned (.bool (onB k up dn (x1, x2))) ∧ Below g.val.heap.size g.val w') := fun x1 x2 g => isOn1_any x1 x2 k up dn K hdn g.val (h.up g.ok)
  clear hr hs h
  go_enter Tryz.func166, Tryz.ntmps166
  go_wp2_with fail
  go_loopw [8] (fun s8 wr => ∃ (i : Nat) (g : Gr w), wr = g.val ∧ i ≤ l.length ∧ s8 = .int .i64 i ∧ Hid (fstB (onB k up dn) (l.drop i) i = r)) (fun s8 _ => l.length - (intOf s8).toNat)
  case atStart => exact ⟨0, ⟨w, Below.refl _ _⟩, rfl, Nat.zero_le _, rfl, HR⟩
  case round =>
    obtain ⟨i, g, rfl, hi, rfl, HI⟩ := hrel
    by_cases hlt : i < l.length
    · have hiz : (i : Int) < l.length := by omega
      have hw1 : IntKind.i64.wrap ((i : Int) + 1) = i + 1 := by rw [IntKind.wrap_i64]; omega
      obtain ⟨b, off, rfl, hbs, q⟩ := HS.out.spanG (List.getElem?_eq_getElem hlt)
      obtain ⟨q1', q2'⟩ := q g
      have HST : Hid ((if onB k up dn l[i] = true then (i : Int) else fstB (onB k up dn) (l.drop (i + 1)) (i + 1)) = r) := by
        show _ = _
        have := HI.out
        rw [drop_step hlt] at this
        exact this
      have HC1 := Lib.hid (fun y1 y2 => HC.out y1 y2 g)
      clear q HI
      generalize l[i] = x at *
      obtain ⟨x1, x2⟩ := x
      simp only at q1' q2' HST
      have HC2 := Lib.hid (HC1.out x1 x2)
      clear HC1
      generalize onB k up dn (x1, x2) = v at *
      cases v with
      | true =>
        have E : Hid ((i : Int) = r) := HST.out
        clear HST
        go_wp2_with fail
        go_at_call 167
        refine HC2.out.mono ?_
        rintro e w1 ⟨rfl, hb1⟩
        obtain ⟨g1, rfl⟩ := g.on hb1
        clear hb1
        go_wp2_with fail
        go_ret
        exact ⟨ret_int E.out, g1.ok⟩
      | false =>
        have E : Hid (fstB (onB k up dn) (l.drop (i + 1)) (i + 1) = r) := HST.out
        clear HST
        go_wp2_with fail
        go_at_call 167
        refine HC2.out.mono ?_
        rintro e w1 ⟨rfl, hb1⟩
        obtain ⟨g1, rfl⟩ := g.on hb1
        clear hb1
        go_wp2_with fail
        go_roundw
        case rel => exact ⟨i + 1, g1, rfl, by omega, by go_num, E⟩
        case measure => simp [intOf]; omega
    · have hiz : ¬ (i : Int) < l.length := by omega
      have E : Hid (r = -1) := by show _ = _; rw [← HI.out, List.drop_of_length_le (by omega)]; rfl
      go_wp2_with fail
      go_ret
      exact ⟨ret_int E.out.symm, g.ok⟩
theorem pcontF_any (l : List (Int × Int)) (A : Option Addr) (c : Nat) (k up dn : Int) (K : Nat) (hdn : 0 ≤ dn ∧ dn ≤ 100) (w : World) (hs : Sl w A l.length c (sv l)) (h : Box3 w K k up dn) :
    Calls Tryz.prog 160 #[.slice A l.length c, .func (.func 167) #[] #[.pointer (some ⟨K, 0, none⟩), .pointer (some ⟨K + 1, 0, none⟩), .pointer (some ⟨K + 2, 0, none⟩)]] w
      fun e w' => e = .returned (.bool (l.any (onB k up dn))) ∧ Below w.heap.size w w' := by
  have HC := Lib.hid (pindexF_any l A c k up dn K hdn w hs h)
  have HE := Lib.hid (fstB_any (onB k up dn) l 0)
  have hbd := fstB_bd (onB k up dn) l 0
  have hl : l.length ≤ 9223372036854775807 := Nat.le_trans hs.le hs.cap
  generalize fstB (onB k up dn) l 0 = z at *
  generalize l.any (onB k up dn) = q at *
  clear hs h
  by_cases hz : 0 ≤ z
  · have E : Hid (q = true) := by show _ = _; rw [← HE.out]; simp [hz]
    clear HE
    go_enter Tryz.func160, Tryz.ntmps160
    go_wp2_with (go_at_call 166; (with_reducible refine HC.out.mono ?_); rintro e w' ⟨rfl, hb⟩)
    go_ret
    exact ⟨ret_bool E.out.symm, hb⟩
  · have E : Hid (q = false) := by show _ = _; rw [← HE.out]; simp [hz]
    have hzb : decide (0 ≤ z) = false := decide_eq_false hz
    clear HE
    go_enter Tryz.func160, Tryz.ntmps160
    go_wp2_with (go_at_call 166; (with_reducible refine HC.out.mono ?_); rintro e w' ⟨rfl, hb⟩)
    go_ret
    exact ⟨ret_bool E.out.symm, hb⟩
end Go.Proofs.YtfjmofefciopmaaGreat
end
section
namespace Go.Proofs.YtfjmofefciopmaaGreat
open Go.ChangeShapes Go.WideShapes Go.ChangeAt Go.RowKit Go.Joins Qr Tm Cal
def callsA (k : Nat) : Bool := [9, 22, 37, 38].contains k
noncomputable def opsA : List Oper := match Tryz.f153.body with | some (.seq _ (.seq _ (.seq _ (.seq (.region _ ops _) _)))) => ops.toList | _ => []
theorem heldA : Region.heldB .any opsA.toArray callsA opsA.length 0 (Array.replicate opsA.length false) = true := by kernel_rfl
theorem nthB_on (l : List (Int × Int)) (t : Dt) (k up dn : Int) (hk : k = t.w) (hu : up = (t.d + 6) / 7) (hd : dn = (lenI t.y t.m - t.d) / 7 + 1) : l.any (onB k up dn) = nthB l t := by
  unfold nthB; congr 1; funext x; unfold onB nthOne; rw [hk, hu, hd]
set_option maxRecDepth 100000 in
set_option maxHeartbeats 8000000 in
theorem pas_any (r : R) (A1 A2 A3 A4 : Option Addr) (c1 c2 c3 c4 : Nat) (n : Nat) (hn : n ≤ 109937) (hb2 : r.bd.length ≤ 10000) (hp : r.bd.Pairwise (· ≤ ·)) (w : World) (hr : RAt w r A1 A2 A3 A4 c1 c2 c3 c4) :
    Calls Tryz.prog 153 #[.agg (rcells r A1 A2 A3 A4 c1 c2 c3 c4), .int .i64 n] w fun e w' => e = .returned (.bool (asB r (dt n))) ∧ Below w.heap.size w w' := by
  obtain ⟨hmay, _⟩ := dt_in hn
  have hmm := may_month hmay
  have hwk := dt_w n
  have hlen := len_bd (dt n).y (dt n).m
  obtain ⟨ay, by_, d1, d2⟩ := hmay
  have hdt : Hid (yOf (n : Int) = (dt n).y ∧ mOf (n : Int) = (dt n).m ∧ dOf (n : Int) = (dt n).d) := by show _ ∧ _; unfold dt; rw [if_pos hn]; exact ⟨rfl, rfl, rfl⟩
  have HD := Lib.hid (fun w => date_yes (n : Int) w (by omega) (by omega))
  obtain ⟨W, hW⟩ : ∃ W, w.alloc (.cells (rcells r A1 A2 A3 A4 c1 c2 c3 c4) 28) = W := ⟨_, rfl⟩
  have HW := Lib.hid hW
  have BW : Hid (Below w.heap.size w W) := by show Below _ _ _; rw [← hW]; exact (Below.refl _ w).alloc (Nat.le_refl _) _
  have HBK : Hid (W.heap[w.heap.size]? = some (.cells (rcells r A1 A2 A3 A4 c1 c2 c3 c4) 28 (0, 0))) := by show _ = _; rw [← hW, heap_alloc_new]
  have hrW : RAt W r A1 A2 A3 A4 c1 c2 c3 c4 := hr.below BW.out (Nat.le_refl _)
  have H1 : Hid (0 < r.bm.length → ∀ V, Below W.heap.size W V → Calls Tryz.prog 159 #[.slice A1 r.bm.length c1, .int .i64 (dt n).m] V fun e w' => e = .returned (.bool (memB r.bm (dt n).m)) ∧ Below V.heap.size V w') := fun h V hV => pcontains_any r.bm A1 c1 _ h V (hrW.below hV (Nat.le_refl _)).s1
  have H2 : Hid (0 < r.bd.length → ∀ V, Below W.heap.size W V → Calls Tryz.prog 154 #[.slice A2 r.bd.length c2, .int .i64 (dt n).d, .int .i64 (lenI (dt n).y (dt n).m)] V fun e w' => e = .returned (.bool (plB r.bd (dt n).d (lenI (dt n).y (dt n).m))) ∧ Below V.heap.size V w') :=
    fun h V hV => plc_any r.bd A2 c2 _ _ h hb2 hp (by omega) (by omega) V (hrW.below hV (Nat.le_refl _)).s2
  have H3 : Hid (∀ V, Calls Tryz.prog 161 #[.int .i64 n, .int .i64 (dt n).d, .int .i64 (lenI (dt n).y (dt n).m)] V fun e w' => e = .returned (.func (.func 167) #[] #[.pointer (some ⟨V.heap.size, 0, none⟩), .pointer (some ⟨V.heap.size + 1, 0, none⟩), .pointer (some ⟨V.heap.size + 2, 0, none⟩)]) ∧ w' = box3 V ((n : Int) % 7) (((dt n).d - 1) / 7 + 1) ((lenI (dt n).y (dt n).m - (dt n).d) / 7 + 1)) :=
    fun V => isOn_any n (dt n).d (lenI (dt n).y (dt n).m) (by omega) (by omega) d2 V
  have H4 : Hid (∀ V, Below W.heap.size W V → Calls Tryz.prog 160 #[.slice A3 r.bw.length c3, .func (.func 167) #[] #[.pointer (some ⟨V.heap.size, 0, none⟩), .pointer (some ⟨V.heap.size + 1, 0, none⟩), .pointer (some ⟨V.heap.size + 2, 0, none⟩)]]
      (box3 V ((n : Int) % 7) (((dt n).d - 1) / 7 + 1) ((lenI (dt n).y (dt n).m - (dt n).d) / 7 + 1)) fun e w' => e = .returned (.bool (nthB r.bw (dt n))) ∧ Below (box3 V ((n : Int) % 7) (((dt n).d - 1) / 7 + 1) ((lenI (dt n).y (dt n).m - (dt n).d) / 7 + 1)).heap.size (box3 V ((n : Int) % 7) (((dt n).d - 1) / 7 + 1) ((lenI (dt n).y (dt n).m - (dt n).d) / 7 + 1)) w') :=
    fun V hV => by
      have h := pcontF_any r.bw A3 c3 ((n : Int) % 7) (((dt n).d - 1) / 7 + 1) ((lenI (dt n).y (dt n).m - (dt n).d) / 7 + 1) V.heap.size (by omega) (box3 V ((n : Int) % 7) (((dt n).d - 1) / 7 + 1) ((lenI (dt n).y (dt n).m - (dt n).d) / 7 + 1))
        (((hrW.below hV (Nat.le_refl _)).s3).below (box3_below V _ _ _) (Nat.le_refl _)) (box3_new V _ _ _)
      rw [nthB_on r.bw (dt n) _ _ _ hwk.symm (by omega) rfl] at h
      exact h
  have HL := Lib.hid (fun w => length_any (dt n).y (dt n).m w)
  obtain ⟨q, hq⟩ : ∃ q, asB r (dt n) = q := ⟨_, rfl⟩
  have hQ : q = (((r.bm.length == 0) || memB r.bm (dt n).m) && ((r.bd.length == 0) || plB r.bd (dt n).d (lenI (dt n).y (dt n).m)) && ((r.bw.length == 0) || nthB r.bw (dt n))) := by
    show q = ((decide (r.bm.length = 0) || memB r.bm (dt n).m) && (decide (r.bd.length = 0) || plB r.bd (dt n).d (lenI (dt n).y (dt n).m)) && (decide (r.bw.length = 0) || nthB r.bw (dt n)))
    rw [← hq]; unfold asB
    have e : ∀ {α : Type} (l : List α), (l = []) = (l.length = 0) := fun l => propext List.length_eq_zero_iff.symm
    simp only [e]
  have HQ := Lib.hid hQ
  rw [hq]
  clear hr hrW hW hq hQ hp hb2 hwk
  obtain ⟨e1, e2, e3⟩ := hdt.out
  rw [e1, e2, e3] at HD
  unfold rcells at HW HBK
  clear e1 e2 e3 hdt
  have l1 := Nat.eq_zero_or_pos r.bm.length
  have l2 := Nat.eq_zero_or_pos r.bd.length
  have l3 := Nat.eq_zero_or_pos r.bw.length
  unfold rcells
  generalize memB r.bm (dt n).m = b1 at *
  generalize plB r.bd (dt n).d (lenI (dt n).y (dt n).m) = b2 at *
  generalize nthB r.bw (dt n) = b3 at *
  generalize lenI (dt n).y (dt n).m = L at *
  generalize (dt n).y = y at *
  generalize (dt n).m = m at *
  generalize (dt n).d = d at *
  generalize (n : Int) % 7 = k7 at *
  generalize (d - 1) / 7 + 1 = up at *
  generalize (L - d) / 7 + 1 = dn at *
  obtain ⟨fq, iv_, ct, un, bm, bd, bw, bs, st⟩ := r
  simp only at *
  generalize bm.length = n1 at *
  generalize bd.length = n2 at *
  generalize bw.length = n3 at *
  generalize bs.length = n4 at *
  have ways : ((0 < n1 ∧ b1 = false) ∨ ((n1 = 0 ∨ (0 < n1 ∧ b1 = true)) ∧ 0 < n2 ∧ b2 = false)) ∨ ((n1 = 0 ∨ (0 < n1 ∧ b1 = true)) ∧ (n2 = 0 ∨ (0 < n2 ∧ b2 = true)) ∧ (n3 = 0 ∨ (0 < n3 ∧ b3 = true) ∨ (0 < n3 ∧ b3 = false))) := by
    cases b1 <;> cases b2 <;> cases b3 <;> simp <;> omega
  rcases ways with (⟨g1, rfl⟩ | ⟨g1 | ⟨g1, rfl⟩, g2, rfl⟩) | ⟨g1 | ⟨g1, rfl⟩, g2 | ⟨g2, rfl⟩, g3 | ⟨g3, rfl⟩ | ⟨g3, rfl⟩⟩
  all_goals
    try (have z1 : ((n1 : Int) == 0) = false := beq_false_of_ne (by omega); have y1 : (n1 == 0) = false := beq_false_of_ne (by omega))
    try (have z1 : ((n1 : Int) == 0) = true := beq_iff_eq.2 (by omega); have y1 : (n1 == 0) = true := beq_iff_eq.2 (by omega))
    try (have z2 : ((n2 : Int) == 0) = false := beq_false_of_ne (by omega); have y2 : (n2 == 0) = false := beq_false_of_ne (by omega))
    try (have z2 : ((n2 : Int) == 0) = true := beq_iff_eq.2 (by omega); have y2 : (n2 == 0) = true := beq_iff_eq.2 (by omega))
    try (have z3 : ((n3 : Int) == 0) = false := beq_false_of_ne (by omega); have y3 : (n3 == 0) = false := beq_false_of_ne (by omega))
    try (have z3 : ((n3 : Int) == 0) = true := beq_iff_eq.2 (by omega); have y3 : (n3 == 0) = true := beq_iff_eq.2 (by omega))
    try replace H1 := Lib.hid (H1.out (by assumption))
    try replace H2 := Lib.hid (H2.out (by assumption))
    clear l1 l2 l3
    try clear g1
    try clear g2
    try clear g3
    go_enter Tryz.func153, Tryz.ntmps153
    go_upto_region 1 with fail
    rw [HW.out]
    go_upto_region 2 with (go_at_call 139; (with_reducible refine (HD.out _).mono ?_); rintro e w2 ⟨rfl, hb⟩)
    obtain ⟨W2, hW2⟩ : ∃ W2, w2.alloc (.cells #[.int .i64 y, .int .i64 m, .int .i64 d] 107) = W2 := ⟨_, rfl⟩
    rw [hW2]
    have hB2 : Below W.heap.size W W2 := by rw [← hW2]; exact hb.alloc hb.size _
    have D2 : W2.heap[w2.heap.size]? = some (.cells #[.int .i64 y, .int .i64 m, .int .i64 d] 107 (0, 0)) := by rw [← hW2, heap_alloc_new]
    have R2 := blk_below HBK.out hB2
    have d0 := blk_cell D2 (i := 0) rfl
    have dm := blk_cell D2 (i := 1) rfl
    have D2h := Lib.hid D2
    have R2h := Lib.hid R2
    have B2h := Lib.hid hB2
    clear hW2 D2 R2 hB2 hb
    go_upto_region 3 with (go_at_call 150; (with_reducible refine (HL.out _).mono ?_); rintro e w3 ⟨rfl, rfl⟩)
    clear d0 dm
    have hS0 : Below W2.heap.size W2 W2.drew := drew_below W2
    have HR0 : Hid (∀ V, Below W2.heap.size W2 V → Below W.heap.size W V) := fun V h => B2h.out.trans (h.mono B2h.out.size)
    have HKR : Hid (∀ V, Below W2.heap.size W2 V → V.cell? ⟨w.heap.size, 4, none⟩ = some (.slice A1 n1 c1) ∧ V.cell? ⟨w.heap.size, 5, none⟩ = some (.slice A2 n2 c2) ∧ V.cell? ⟨w.heap.size, 6, none⟩ = some (.slice A3 n3 c3)) := fun V h => ⟨blk_cell (blk_below R2h.out h) rfl, blk_cell (blk_below R2h.out h) rfl, blk_cell (blk_below R2h.out h) rfl⟩
    have HKD : Hid (∀ V, Below W2.heap.size W2 V → V.cell? ⟨w2.heap.size, 0, none⟩ = some (.int .i64 y) ∧ V.cell? ⟨w2.heap.size, 1, none⟩ = some (.int .i64 m) ∧ V.cell? ⟨w2.heap.size, 2, none⟩ = some (.int .i64 d)) := fun V h => ⟨blk_cell (blk_below D2h.out h) rfl, blk_cell (blk_below D2h.out h) rfl, blk_cell (blk_below D2h.out h) rfl⟩
    refine wp_region_lexH (fun V => Below W2.heap.size W2 V) callsA (by kernel_rfl) (by kernel_rfl) heldA (fun _ _ _ _ _ h => h) hS0 ?_
    generalize W2.drew = V at *
    repeat (first
      | (refine wpH_no rfl rfl ?_; simp only [Act.put, List.setIfInBounds_toArray, List.set_cons_zero, List.set_cons_succ])
      | (refine wpH_callNo rfl rfl hS0 ?_; simp only [Act.put, List.setIfInBounds_toArray, List.set_cons_zero, List.set_cons_succ])
      | (refine wpH_yes (v := ?_) rfl rfl (fun w' hS => ?_) ?_; rotate_left; (obtain ⟨b4, b5, b6⟩ := HKR.out _ hS; obtain ⟨t0, t1, t2⟩ := HKD.out _ hS; go_simp; with_reducible rfl); (try simp only [Act.put, List.setIfInBounds_toArray, List.set_cons_zero, List.set_cons_succ]))
      | (refine wpH_callYes rfl rfl (fun K hK => ?_); go_simp; (first
        | (go_at_call 159; (with_reducible refine (H1.out _ (HR0.out _ hS0)).mono ?_); rintro e w3 ⟨rfl, hb⟩; have hS0 := hS0.trans (hb.mono hS0.size); clear hb; refine hK.out _ _ hS0 (fun _ => ?_))
        | (go_at_call 154; (with_reducible refine (H2.out _ (HR0.out _ hS0)).mono ?_); rintro e w3 ⟨rfl, hb⟩; have hS0 := hS0.trans (hb.mono hS0.size); clear hb; refine hK.out _ _ hS0 (fun _ => ?_))
        | (go_at_call 161; (with_reducible refine (H3.out _).mono ?_); rintro e w3 ⟨rfl, rfl⟩; have hP0 := HR0.out _ hS0; have hS0 := hS0.trans ((box3_below _ k7 up dn).mono hS0.size); refine hK.out _ _ hS0 (fun _ => ?_))
        | (go_at_call 160; (with_reducible refine (H4.out _ hP0).mono ?_); rintro e w3 ⟨rfl, hb⟩; have hS0 := hS0.trans (hb.mono hS0.size); clear hb; refine hK.out _ _ hS0 (fun _ => ?_))); (try simp only [Act.put, List.setIfInBounds_toArray, List.set_cons_zero, List.set_cons_succ]); clear hK K))
    have HX : Hid (Below w.heap.size w _) := BW.out.trans ((HR0.out _ hS0).mono BW.out.size)
    clear hS0
    show Exit.then _ _ _ _ _
    go_wp2
    go_ret
    exact ⟨ret_bool (by rw [HQ.out]; (try rw [y1]); (try rw [y2]); (try rw [y3]); simp), HX.out⟩
end Go.Proofs.YtfjmofefciopmaaGreat
end
section
namespace Go.Proofs.YtfjmofefciopmaaGreat
open Go.ChangeShapes Go.WideShapes Go.ChangeAt Go.RowKit Go.Joins Qr Tm Cal
def ccells (r : R) (A1 A2 A3 A4 : Option Addr) (c1 c2 c3 c4 : Nat) (s : Int) : Array Value :=
  #[.int .i64 r.freq, .int .i64 r.iv, .int .i64 r.count, .int .i64 r.until_, .slice A1 r.bm.length c1, .slice A2 r.bd.length c2, .slice A3 r.bw.length c3, .slice A4 r.bs.length c4, .int .i64 r.start, .int .i64 s]
set_option maxHeartbeats 1000000 in
theorem bom_any (y m : Int) (hm : 1 ≤ m ∧ m ≤ 12) (w : World) :
    Calls Tryz.prog 152 #[.int .i64 y, .int .i64 m] w fun e w' => e = .returned (.int .i64 (bom y m)) ∧ Below w.heap.size w w' := by
  obtain ⟨q, hq⟩ : ∃ q, bom y m = q := ⟨_, rfl⟩
  rw [hq]
  have hp := len_pos y m hm.1 hm.2
  by_cases c : 1900 ≤ y ∧ y ≤ 2200
  · have E : Hid (numI y m 1 = q) := by show _ = _; rw [← hq]; unfold bom; rw [if_pos c]
    have HC := Lib.hid (fun w => number_yes y m 1 w ⟨c.1, c.2, by omega, by omega⟩)
    generalize numI y m 1 = z at *
    clear hq hp hm c
    go_enter Tryz.func152, Tryz.ntmps152
    go_wp2_with (go_at_call 158; (with_reducible refine (HC.out _).mono ?_); rintro e w' ⟨rfl, hb⟩)
    go_ret
    exact ⟨ret_int E.out, hb⟩
  · have E : Hid (q = 109938) := by show _ = _; rw [← hq]; unfold bom; rw [if_neg c]
    have HC := Lib.hid (fun w => number_no y m 1 w (may_no.2 fun h => c ⟨h.1, h.2.1⟩))
    clear hq hp hm c
    go_enter Tryz.func152, Tryz.ntmps152
    go_wp2_with (go_at_call 158; (with_reducible refine (HC.out _).mono ?_); rintro e w' ⟨rfl, hb⟩)
    go_ret
    exact ⟨ret_int E.out.symm, hb⟩
section
variable (r : R) (A1 A2 A3 A4 : Option Addr) (c1 c2 c3 c4 : Nat) (s : Int)
set_option maxRecDepth 100000 in
set_option maxHeartbeats 1000000 in
theorem pbegin_any (p : Int) (ho : Okr r) (hp : 0 ≤ p) (hp2 : p ≤ 1000000) (w : World) :
    Calls Tryz.prog 143 #[.agg (ccells r A1 A2 A3 A4 c1 c2 c3 c4 s), .int .i64 p] w fun e w' => e = .returned (.int .i64 (bg r p)) ∧ Below w.heap.size w w' := by
  obtain ⟨q, hq⟩ : ∃ q, bg r p = q := ⟨_, rfl⟩
  rw [hq]
  have hf := ho.f
  have hst := ho.s
  have K : ∀ (k : Nat) (v : Value), (ccells r A1 A2 A3 A4 c1 c2 c3 c4 s)[k]? = some v → ∀ g : Gr (w.alloc (.cells (ccells r A1 A2 A3 A4 c1 c2 c3 c4 s) 141)), g.val.cell? ⟨w.heap.size, k, none⟩ = some v := fun k v h g => g.cell1 k v h
  have K0 := K 0 (.int .i64 r.freq) rfl ⟨_, Below.refl _ _⟩
  have K8 := K 8 (.int .i64 r.start) rfl ⟨_, Below.refl _ _⟩
  have HB := Lib.hid ((Below.refl w.heap.size w).alloc (Nat.le_refl _) (.cells (ccells r A1 A2 A3 A4 c1 c2 c3 c4 s) 141))
  have HS : Hid (w.heap.size ≤ (w.alloc (.cells (ccells r A1 A2 A3 A4 c1 c2 c3 c4 s) 141)).heap.size) := by show _ ≤ _; simp
  clear K ho
  obtain ⟨fq, iv_, ct, un, bm, bd, bw, bs, st⟩ := r
  unfold bg at hq
  unfold ccells at *
  simp only at *
  by_cases f1 : fq = 1
  · rw [if_pos f1] at hq
    subst f1
    have E := Lib.hid hq
    clear hq
    go_enter Tryz.func143, Tryz.ntmps143
    go_wp2
    go_ret
    exact ⟨ret_int E.out, HB.out⟩
  · rw [if_neg f1] at hq
    have f1b : (fq == 1) = false := beq_false_of_ne f1
    by_cases f2 : fq = 2
    · rw [if_pos f2] at hq
      subst f2
      have E := Lib.hid hq
      have w1 : IntKind.i64.wrap (p - 1) = p - 1 := by rw [IntKind.wrap_i64]; omega
      have w2 : IntKind.i64.wrap ((p - 1) * 7) = (p - 1) * 7 := by rw [IntKind.wrap_i64]; omega
      have w3 : IntKind.i64.wrap ((p - 1) * 7 + st) = (p - 1) * 7 + st := by rw [IntKind.wrap_i64]; omega
      clear hq
      go_enter Tryz.func143, Tryz.ntmps143
      go_wp2
      go_ret
      exact ⟨ret_int E.out, HB.out⟩
    · rw [if_neg f2] at hq
      have f2b : (fq == 2) = false := beq_false_of_ne f2
      by_cases f3 : fq = 3
      · rw [if_pos f3] at hq
        subst f3
        have HC := Lib.hid (fun w => bom_any (p / 12) (p % 12 + 1) (by omega) w)
        rw [hq] at HC
        have w1 : p.tdiv 12 = p / 12 := Int.tdiv_eq_ediv_of_nonneg hp
        have w2 : p.tmod 12 = p % 12 := Int.tmod_eq_emod_of_nonneg hp
        have w3 : IntKind.i64.wrap (p / 12) = p / 12 := by rw [IntKind.wrap_i64]; omega
        have w4 : IntKind.i64.wrap (p % 12 + 1) = p % 12 + 1 := by rw [IntKind.wrap_i64]; omega
        clear hq
        go_enter Tryz.func143, Tryz.ntmps143
        go_wp2_with (go_at_call 152; (with_reducible refine (HC.out _).mono ?_); rintro e w' ⟨rfl, hb⟩)
        go_ret
        exact ⟨rfl, HB.out.trans (hb.mono HS.out)⟩
      · rw [if_neg f3] at hq
        have f3b : (fq == 3) = false := beq_false_of_ne f3
        have HC := Lib.hid (fun w => bom_any p 1 (by omega) w)
        rw [hq] at HC
        clear hq f1 f2 f3
        go_enter Tryz.func143, Tryz.ntmps143
        go_wp2_with (go_at_call 152; (with_reducible refine (HC.out _).mono ?_); rintro e w' ⟨rfl, hb⟩)
        go_ret
        exact ⟨rfl, HB.out.trans (hb.mono HS.out)⟩
set_option maxRecDepth 100000 in
set_option maxHeartbeats 1000000 in
theorem pperiod_any (n : Nat) (hn : n ≤ 109937) (ho : Okr r) (w : World) :
    Calls Tryz.prog 151 #[.agg (ccells r A1 A2 A3 A4 c1 c2 c3 c4 s), .int .i64 n] w fun e w' => e = .returned (.int .i64 (pp r (dt n))) ∧ Below w.heap.size w w' := by
  obtain ⟨q, hq⟩ : ∃ q, pp r (dt n) = q := ⟨_, rfl⟩
  rw [hq]
  have hst := ho.s
  obtain ⟨hmay, _⟩ := dt_in hn
  have hmm := may_month hmay
  obtain ⟨ay, by_, d1, d2⟩ := hmay
  have hdt : Hid (yOf (n : Int) = (dt n).y ∧ mOf (n : Int) = (dt n).m ∧ dOf (n : Int) = (dt n).d) := by show _ ∧ _; unfold dt; rw [if_pos hn]; exact ⟨rfl, rfl, rfl⟩
  have HD := Lib.hid (fun w => date_yes (n : Int) w (by omega) (by omega))
  obtain ⟨e1, e2, e3⟩ := hdt.out
  rw [e1, e2, e3] at HD
  obtain ⟨W, hW⟩ : ∃ W, w.alloc (.cells (ccells r A1 A2 A3 A4 c1 c2 c3 c4 s) 141) = W := ⟨_, rfl⟩
  have HW := Lib.hid hW
  have BW : Hid (Below w.heap.size w W) := by show Below _ _ _; rw [← hW]; exact (Below.refl _ w).alloc (Nat.le_refl _) _
  have HBK : Hid (W.heap[w.heap.size]? = some (.cells (ccells r A1 A2 A3 A4 c1 c2 c3 c4 s) 141 (0, 0))) := by show _ = _; rw [← hW, heap_alloc_new]
  have hdn := dt_n n
  unfold pp at hq
  rw [hdn] at hq
  obtain ⟨fq, iv_, ct, un, bm, bd, bw, bs, st⟩ := r
  unfold ccells at *
  simp only at *
  clear e1 e2 e3 hdt hW ho hdn
  generalize (dt n).y = y at *
  generalize (dt n).m = m at *
  generalize (dt n).d = d at *
  have way : (fq = 1 ∧ Hid ((n : Int) = q)) ∨ ((fq == 1) = false ∧ fq = 2 ∧ Hid (((n : Int) - st + 7) / 7 = q)) ∨ ((fq == 1) = false ∧ (fq == 2) = false ∧ fq = 3 ∧ Hid (y * 12 + m - 1 = q)) ∨ ((fq == 1) = false ∧ (fq == 2) = false ∧ (fq == 3) = false ∧ Hid (y = q)) := by
    by_cases f1 : fq = 1
    · rw [if_pos f1] at hq; exact .inl ⟨f1, hq⟩
    · rw [if_neg f1] at hq
      by_cases f2 : fq = 2
      · rw [if_pos f2] at hq; exact .inr (.inl ⟨beq_false_of_ne f1, f2, hq⟩)
      · rw [if_neg f2] at hq
        by_cases f3 : fq = 3
        · rw [if_pos f3] at hq; exact .inr (.inr (.inl ⟨beq_false_of_ne f1, beq_false_of_ne f2, f3, hq⟩))
        · rw [if_neg f3] at hq; exact .inr (.inr (.inr ⟨beq_false_of_ne f1, beq_false_of_ne f2, beq_false_of_ne f3, hq⟩))
  clear hq
  have w1 : IntKind.i64.wrap ((n : Int) - st) = n - st := by rw [IntKind.wrap_i64]; omega
  have w2 : IntKind.i64.wrap ((n : Int) - st + 7) = n - st + 7 := by rw [IntKind.wrap_i64]; omega
  have w3 : ((n : Int) - st + 7).tdiv 7 = (n - st + 7) / 7 := Int.tdiv_eq_ediv_of_nonneg (by omega)
  have w4 : IntKind.i64.wrap (((n : Int) - st + 7) / 7) = (n - st + 7) / 7 := by rw [IntKind.wrap_i64]; omega
  have w5 : IntKind.i64.wrap (y * 12) = y * 12 := by rw [IntKind.wrap_i64]; omega
  have w6 : IntKind.i64.wrap (y * 12 + m) = y * 12 + m := by rw [IntKind.wrap_i64]; omega
  have w7 : IntKind.i64.wrap (y * 12 + m - 1) = y * 12 + m - 1 := by rw [IntKind.wrap_i64]; omega
  rcases way with ⟨rfl, E⟩ | ⟨f1, rfl, E⟩ | ⟨f1, f2, rfl, E⟩ | ⟨f1, f2, f3, E⟩
  all_goals
    go_enter Tryz.func151, Tryz.ntmps151
    go_upto_region 1 with fail
    rw [HW.out]
    go_upto_region 2 with (go_at_call 139; (with_reducible refine (HD.out _).mono ?_); rintro e w2 ⟨rfl, hb⟩)
    obtain ⟨W2, hW2⟩ : ∃ W2, w2.alloc (.cells #[.int .i64 y, .int .i64 m, .int .i64 d] 107) = W2 := ⟨_, rfl⟩
    rw [hW2]
    have hB2 : Below W.heap.size W W2 := by rw [← hW2]; exact hb.alloc hb.size _
    have D2 : W2.heap[w2.heap.size]? = some (.cells #[.int .i64 y, .int .i64 m, .int .i64 d] 107 (0, 0)) := by rw [← hW2, heap_alloc_new]
    have R2 := blk_below HBK.out hB2
    have d0 := blk_cell D2 (i := 0) rfl
    have d1 := blk_cell D2 (i := 1) rfl
    have r0 := blk_cell R2 (i := 0) rfl
    have r8 := blk_cell R2 (i := 8) rfl
    have HX : Hid (Below w.heap.size w W2) := BW.out.trans (hB2.mono BW.out.size)
    clear hW2 D2 R2 hB2 hb
    go_wp2
    go_ret
    exact ⟨ret_int E.out, HX.out⟩
set_option maxRecDepth 100000 in
set_option maxHeartbeats 1000000 in
theorem pfirst_any (sn fn : Nat) (hs : sn ≤ 109937) (hf : fn ≤ 109937) (hsf : sn ≤ fn) (ho : Okr r) (hc : 0 ≤ r.count) (w : World) :
    Calls Tryz.prog 142 #[.agg (ccells r A1 A2 A3 A4 c1 c2 c3 c4 sn), .int .i64 fn] w fun e w' => e = .returned (.int .i64 (fstP r (dt sn) fn)) ∧ Below w.heap.size w w' := by
  obtain ⟨q, hq⟩ : ∃ q, fstP r (dt sn) fn = q := ⟨_, rfl⟩
  rw [hq]
  have HP1 := Lib.hid (fun w => pperiod_any r A1 A2 A3 A4 c1 c2 c3 c4 sn sn hs ho w)
  have HP2 := Lib.hid (fun w => pperiod_any r A1 A2 A3 A4 c1 c2 c3 c4 sn fn hf ho w)
  obtain ⟨b1, b2, b3, b4⟩ := fst_low ho hs hf hsf
  have hl := pp_low ho hs
  have hsm := bg_small ho (pp_low ho hf) (by have := (bg_pp ho hf (pp_low ho hf)).2 (Int.le_refl _); omega)
  have hl0 : 0 ≤ lowP r := by unfold lowP; split <;> (try split) <;> (try split) <;> omega
  have hi := ho.i
  have hmod := Int.emod_nonneg (pp r (dt fn) - pp r (dt sn)) (show r.iv ≠ 0 by omega)
  have hmod2 := Int.emod_lt_of_pos (pp r (dt fn) - pp r (dt sn)) (show 0 < r.iv by omega)
  have htm : (pp r (dt fn) - pp r (dt sn)).tmod r.iv = (pp r (dt fn) - pp r (dt sn)) % r.iv := Int.tmod_eq_emod_of_nonneg (by omega)
  have hb1 : pp r (dt sn) ≤ pp r (dt fn) := by omega
  unfold fstP at hq
  rw [Int.toNat_natCast] at hq
  clear b1 b2 b3 b4
  generalize pp r (dt sn) = P1 at *
  generalize pp r (dt fn) = P2 at *
  obtain ⟨W, hW⟩ : ∃ W, w.alloc (.cells (ccells r A1 A2 A3 A4 c1 c2 c3 c4 sn) 141) = W := ⟨_, rfl⟩
  have HW := Lib.hid hW
  have BW : Hid (Below w.heap.size w W) := by show Below _ _ _; rw [← hW]; exact (Below.refl _ w).alloc (Nat.le_refl _) _
  have HBK : Hid (W.heap[w.heap.size]? = some (.cells (ccells r A1 A2 A3 A4 c1 c2 c3 c4 sn) 141 (0, 0))) := by show _ = _; rw [← hW, heap_alloc_new]
  obtain ⟨fq, iv_, ct, un, bm, bd, bw, bs, st⟩ := r
  unfold ccells at *
  simp only at *
  have q0 := blk_cell HBK.out (i := 0) rfl
  have q1 := blk_cell HBK.out (i := 1) rfl
  have q2 := blk_cell HBK.out (i := 2) rfl
  have q3 := blk_cell HBK.out (i := 3) rfl
  have q4 := blk_cell HBK.out (i := 4) rfl
  have q5 := blk_cell HBK.out (i := 5) rfl
  have q6 := blk_cell HBK.out (i := 6) rfl
  have q7 := blk_cell HBK.out (i := 7) rfl
  have q8 := blk_cell HBK.out (i := 8) rfl
  have q9 := blk_cell HBK.out (i := 9) rfl
  clear hW ho
  have w1 : IntKind.i64.wrap (P2 - P1) = P2 - P1 := by rw [IntKind.wrap_i64]; omega
  have w2 : IntKind.i64.wrap (P1 + (P2 - P1)) = P1 + (P2 - P1) := by rw [IntKind.wrap_i64]; omega
  have w3 : IntKind.i64.wrap (P1 + (P2 - P1) - (P2 - P1) % iv_) = P1 + (P2 - P1) - (P2 - P1) % iv_ := by rw [IntKind.wrap_i64]; omega
  have hiv : (iv_ == 0) = false := beq_false_of_ne (by omega)
  by_cases hct : 0 < ct
  · rw [if_pos hct] at hq
    have E := Lib.hid hq
    clear hq
    go_enter Tryz.func142, Tryz.ntmps142
    go_upto_region 1 with fail
    rw [HW.out]
    go_wp2_with fail
    go_at_call 151
    refine (HP1.out _).mono ?_
    rintro e w2 ⟨rfl, hb⟩
    have R2 := blk_below HBK.out hb
    have d2 := blk_cell R2 (i := 2) rfl
    clear q0 q1 q2 q3 q4 q5 q6 q7 q8 q9 R2
    go_wp2
    go_ret
    exact ⟨ret_int E.out, BW.out.trans (hb.mono BW.out.size)⟩
  · rw [if_neg hct] at hq
    have hctb : decide (0 < ct) = false := decide_eq_false hct
    have E := Lib.hid hq
    clear hq
    go_enter Tryz.func142, Tryz.ntmps142
    go_upto_region 1 with fail
    rw [HW.out]
    go_wp2_with fail
    go_at_call 151
    refine (HP1.out _).mono ?_
    rintro e w2 ⟨rfl, hb⟩
    have R2 := blk_below HBK.out hb
    have H2 := Lib.hid R2
    have d2 := blk_cell R2 (i := 2) rfl
    have HX2 : Hid (Below W.heap.size W w2) := hb
    have l0 := blk_cell R2 (i := 0) rfl
    have l1 := blk_cell R2 (i := 1) rfl
    have l3 := blk_cell R2 (i := 3) rfl
    have l4 := blk_cell R2 (i := 4) rfl
    have l5 := blk_cell R2 (i := 5) rfl
    have l6 := blk_cell R2 (i := 6) rfl
    have l7 := blk_cell R2 (i := 7) rfl
    have l8 := blk_cell R2 (i := 8) rfl
    have l9 := blk_cell R2 (i := 9) rfl
    clear q0 q1 q2 q3 q4 q5 q6 q7 q8 q9 R2 hb
    go_wp2_with fail
    go_at_call 151
    refine (HP2.out _).mono ?_
    rintro e w3 ⟨rfl, hb⟩
    have R3 := blk_below H2.out hb
    have m1 := blk_cell R3 (i := 1) rfl
    have HX3 : Hid (Below w.heap.size w w3) := (BW.out.trans (HX2.out.mono BW.out.size)).trans (hb.mono (Nat.le_trans BW.out.size HX2.out.size))
    clear R3 hb d2 l0 l1 l3 l4 l5 l6 l7 l8 l9
    go_wp2
    go_ret
    exact ⟨ret_int E.out, HX3.out⟩
end
end Go.Proofs.YtfjmofefciopmaaGreat
end
section
namespace Go.Proofs.YtfjmofefciopmaaGreat
open Go.ChangeShapes Go.WideShapes Go.ChangeAt Go.RowKit Go.Joins Qr Tm Cal
theorem ownN_below {w w' : World} {base : Nat} {e : TypeId} {size : Nat} {v : Value} {n : Nat} {xs : List Value} (h : w.ownsRow base e size v n xs) (hb : Below w.heap.size w w') : w'.ownsRow base e size v n xs := by
  obtain ⟨hl, h | ⟨g, cap, cur, hv, hg, hc, r⟩⟩ := h
  · exact ⟨hl, .inl h⟩
  · refine ⟨hl, .inr ⟨g, cap, cur, hv, hg, ?_, r⟩⟩
    have : g < w.heap.size := by
      rcases Nat.lt_or_ge g w.heap.size with h | h
      · exact h
      · rw [Array.getElem?_eq_none h] at hc; cases hc
    rw [hb.block g this]; exact hc
theorem ownN_base {w : World} {base base' : Nat} {e : TypeId} {size : Nat} {v : Value} {n : Nat} {xs : List Value} (h : w.ownsRow base e size v n xs) (hb : base' ≤ base) : w.ownsRow base' e size v n xs := by
  obtain ⟨hl, h | ⟨g, cap, cur, hv, hg, r⟩⟩ := h
  · exact ⟨hl, .inl h⟩
  · exact ⟨hl, .inr ⟨g, cap, cur, hv, Nat.le_trans hb hg, r⟩⟩
def RetN (l : List Int) (w : World) (e : Ending) (w' : World) : Prop := ∃ v, e = .returned v ∧ w'.ownsRow w.heap.size 3 1 v l.length (iv l) ∧ Below w.heap.size w w'
section
variable (r : R) (A1 A2 A3 A4 : Option Addr) (c1 c2 c3 c4 : Nat) (s : Int)
set_option maxRecDepth 100000 in
set_option maxHeartbeats 4000000 in
theorem pdays_any (p : Int) (ho : Okr r) (hp : lowP r ≤ p) (hb : bg r p < 109938) (hb2 : r.bd.length ≤ 10000) (hp2 : r.bd.Pairwise (· ≤ ·)) (hb4 : r.bs.length ≤ 10000) (hp4 : r.bs.Pairwise (· ≤ ·)) (w : World) (hr : RAt w r A1 A2 A3 A4 c1 c2 c3 c4) :
    Calls Tryz.prog 144 #[.agg (ccells r A1 A2 A3 A4 c1 c2 c3 c4 s), .int .i64 p] w (RetN (dd r p) w) := by
  have hrise := bg_rise ho hp hb
  have hlow := bg_low ho hp
  have hnn := bg_nn ho hp
  have hsm := bg_small ho hp hb
  have hl0 : 0 ≤ lowP r := by unfold lowP; split <;> (try split) <;> (try split) <;> omega
  obtain ⟨i0, hi0, hz0, hz1, hz2⟩ := info_parts int_info10
  obtain ⟨W, hW⟩ : ∃ W, w.alloc (.cells (ccells r A1 A2 A3 A4 c1 c2 c3 c4 s) 141) = W := ⟨_, rfl⟩
  have HW := Lib.hid hW
  have BW : Hid (Below w.heap.size w W) := by show Below _ _ _; rw [← hW]; exact (Below.refl _ w).alloc (Nat.le_refl _) _
  have HBK : Hid (∀ g : Gr W, g.val.heap[w.heap.size]? = some (.cells (ccells r A1 A2 A3 A4 c1 c2 c3 c4 s) 141 (0, 0))) := fun g => blk_below (by rw [← hW, heap_alloc_new]) g.ok
  have hrW : RAt W r A1 A2 A3 A4 c1 c2 c3 c4 := hr.below BW.out (Nat.le_refl _)
  have HA : Hid (∀ (n : Nat) (_ : n ≤ 109937) (g : Gr W), Calls Tryz.prog 153 #[.agg (rcells r A1 A2 A3 A4 c1 c2 c3 c4), .int .i64 n] g.val fun e w' => e = .returned (.bool (asB r (dt n))) ∧ Below g.val.heap.size g.val w') :=
    fun n hn g => pas_any r A1 A2 A3 A4 c1 c2 c3 c4 n hn hb2 hp2 g.val (hrW.below g.ok (Nat.le_refl _))
  have HB0 := Lib.hid (fun w => pbegin_any r A1 A2 A3 A4 c1 c2 c3 c4 s p ho (by omega) (by omega) w)
  have HB1 := Lib.hid (fun w => pbegin_any r A1 A2 A3 A4 c1 c2 c3 c4 s (p + 1) ho (by omega) (by omega) w)
  have HS4 : Hid (∀ g : Gr W, Sl g.val A4 r.bs.length c4 (iv r.bs)) := fun g => hrW.s4.gr g
  have HDD : Hid (dd r p = keptL r ((fromTo (max (bg r p) 0) (min (bg r (p + 1)) 109938)).filter fun n => asB r (dt n.toNat))) := rfl
  have hwp : IntKind.i64.wrap (p + 1) = p + 1 := by rw [IntKind.wrap_i64]; omega
  have hmax : (if bg r p < 0 then 0 else bg r p) = max (bg r p) 0 := by omega
  obtain ⟨lo, hlo⟩ : ∃ lo, max (bg r p) 0 = lo := ⟨_, rfl⟩
  obtain ⟨hi, hhi⟩ : ∃ hi, min (bg r (p + 1)) 109938 = hi := ⟨_, rfl⟩
  have hmin1 : (if 109938 < bg r (p + 1) then 109938 else bg r (p + 1)) = hi := by omega
  have hmin2 : (if bg r (p + 1) < 109938 then bg r (p + 1) else 109938) = hi := by omega
  have hbd : 0 ≤ lo ∧ lo ≤ hi ∧ hi ≤ 109938 ∧ hi - lo ≤ 373 := by omega
  rw [hlo] at hmax HDD
  rw [hhi] at HDD
  obtain ⟨d, hd⟩ : ∃ d, dd r p = d := ⟨_, rfl⟩
  rw [hd] at HDD ⊢
  generalize bg r p = b0 at *
  generalize bg r (p + 1) = b1 at *
  clear hW hr hd
  have hMk := Lib.hid (⟨hb4, hp4⟩ : r.bs.length ≤ 10000 ∧ r.bs.Pairwise (· ≤ ·))
  unfold ccells rcells at *
  clear hrW hb2 hp2 hb4 hp4
  go_enter Tryz.func144, Tryz.ntmps144
  go_upto_region 2 with fail
  rw [HW.out]
  have q0 := HBK.out ⟨W, Below.refl _ _⟩
  simp only at q0
  have k0 := blk_cell q0 (i := 0) rfl
  have k1 := blk_cell q0 (i := 1) rfl
  have k2 := blk_cell q0 (i := 2) rfl
  have k3 := blk_cell q0 (i := 3) rfl
  have k4 := blk_cell q0 (i := 4) rfl
  have k5 := blk_cell q0 (i := 5) rfl
  have k6 := blk_cell q0 (i := 6) rfl
  have k7 := blk_cell q0 (i := 7) rfl
  have k8 := blk_cell q0 (i := 8) rfl
  have k9 := blk_cell q0 (i := 9) rfl
  clear q0
  go_wp2_with fail
  go_at_call 143
  refine (HB0.out _).mono ?_
  rintro e w1 ⟨rfl, hb⟩
  clear k0 k1 k2 k3 k4 k5 k6 k7 k8 k9
  obtain ⟨g1, rfl⟩ := Gr.of hb
  clear hb
  go_wp2_with fail
  obtain ⟨acc, hacc⟩ : ∃ acc : Int → List Int, acc = fun i => (fromTo lo i).filter fun n => asB r (dt n.toNat) := ⟨_, rfl⟩
  have HACC := Lib.hid hacc
  have HL : Hid (∀ i, i ≤ hi → (acc i).length ≤ 373) := fun i h => by
    have h2 : (acc i).length ≤ (fromTo lo i).length := by rw [hacc]; exact List.length_filter_le _ _
    rw [fromTo_len] at h2
    omega
  have HDD2 : Hid (d = keptL r (acc hi)) := by show _ = _; rw [hacc]; exact HDD.out
  have HC : Hid (∀ (g : Gr W) (k : Nat) (v : Value), (ccells r A1 A2 A3 A4 c1 c2 c3 c4 s)[k]? = some v → g.val.cell? ⟨w.heap.size, k, none⟩ = some v) := fun g k v h => by unfold ccells at h; exact blk_cell (HBK.out g) h
  clear hacc HDD
  unfold ccells at HC
  go_loopw [5, 6] (fun s5 s6 wr => ∃ (g : Gr W) (i : Int), wr = g.val ∧ lo ≤ i ∧ i ≤ hi ∧ s6 = .int .i64 i ∧ Hid (g.val.ownsRow W.heap.size 3 1 s5 (acc i).length (iv (acc i)))) (fun _ s6 _ => (hi - intOf s6).toNat)
  case atStart => exact ⟨g1, lo, rfl, Int.le_refl _, by omega, rfl, by show World.ownsRow _ _ _ _ _ _ _; rw [HACC.out, show ((fun i => (fromTo lo i).filter fun n => asB r (dt n.toNat)) : Int → List Int) lo = [] by simp [fromTo_none]]; exact World.ownsRow_nil _ _ _ _⟩
  case round =>
    obtain ⟨g, i, rfl, h1, h2, rfl, HOW⟩ := hrel
    have k0 := HC.out g 0 _ rfl
    have k1 := HC.out g 1 _ rfl
    have k2 := HC.out g 2 _ rfl
    have k3 := HC.out g 3 _ rfl
    have k4 := HC.out g 4 _ rfl
    have k5 := HC.out g 5 _ rfl
    have k6 := HC.out g 6 _ rfl
    have k7 := HC.out g 7 _ rfl
    have k8 := HC.out g 8 _ rfl
    have k9 := HC.out g 9 _ rfl
    by_cases hlt : i < hi
    · have hwi : IntKind.i64.wrap (i + 1) = i + 1 := by rw [IntKind.wrap_i64]; omega
      have hin : ((i.toNat : Nat) : Int) = i := by omega
      have HA1 := Lib.hid (HA.out i.toNat (by omega))
      rw [hin] at HA1
      have HST : Hid (acc (i + 1) = acc i ++ (if asB r (dt i.toNat) = true then [i] else [])) := by show _ = _; rw [HACC.out]; exact filter_snoc h1
      have hal := HL.out i h2
      generalize asB r (dt i.toNat) = v at *
      go_wp2_with fail
      go_at_call 143
      refine (HB1.out _).mono ?_
      rintro e w2 ⟨rfl, hb⟩
      have HOW2 := Lib.hid (ownN_below HOW.out hb)
      obtain ⟨g2, rfl⟩ := g.on hb
      clear hb k0 k1 k2 k3 k4 k5 k6 k7 k8 k9 HOW
      have k0 := HC.out g2 0 _ rfl
      have k1 := HC.out g2 1 _ rfl
      have k2 := HC.out g2 2 _ rfl
      have k3 := HC.out g2 3 _ rfl
      have k4 := HC.out g2 4 _ rfl
      have k5 := HC.out g2 5 _ rfl
      have k6 := HC.out g2 6 _ rfl
      have k7 := HC.out g2 7 _ rfl
      have k8 := HC.out g2 8 _ rfl
      go_wp2_with fail
      go_at_call 153
      refine (HA1.out g2).mono ?_
      rintro e w3 ⟨rfl, hb⟩
      have HOW3 := Lib.hid (ownN_below HOW2.out hb)
      obtain ⟨g3, rfl⟩ := g2.on hb
      clear hb k0 k1 k2 k3 k4 k5 k6 k7 k8 HOW2
      cases v with
      | true =>
        have hk1 : Hid (acc (i + 1) = acc i ++ [i]) := by show _ = _; rw [HST.out]; simp
        clear HST
        go_wp2_with (at_builtin; refine wpList_append_own _ rfl _ _ 25 rfl W.heap.size 3 i0 (.int .i64 0) 1 8 Tryz.underlying25 hi0 hz0 hz1 hz2 rfl (by decide) _ _ _ rfl (HOW3.out.alloc _) ⟨g3.val.heap.size, 0, none⟩ 1 1 [.int .i64 i] rfl rfl ?c1 ?c2 ?c3 ?c4 ?c5 ?_)
        case c1 =>
          intro j u hj
          match j, hj with
          | 0, hj => simp at hj; subst hj; simp [go_sem]
          | j + 1, hj => simp at hj
        case c2 => intro u hu; simp at hu; subst hu; rfl
        case c3 => simp only [maxLen]; omega
        case c4 => omega
        case c5 => have := g3.ok.size; simp; omega
        intro v' w4 hown' hgrow _
        have HB' : Hid (Below W.heap.size W w4) := (g3.ok.alloc g3.ok.size _).grown hgrow (by have := g3.ok.size; simp; omega) (fun k hk => (HOW3.out.lt k hk).1)
        have HOW4 : Hid (w4.ownsRow W.heap.size 3 1 v' (acc (i + 1)).length (iv (acc (i + 1)))) := by show World.ownsRow _ _ _ _ _ _ _; rw [hk1.out, List.length_append, iv_app]; exact hown'
        clear hown' hgrow
        obtain ⟨g4, rfl⟩ := Gr.of HB'.out
        go_wp2
        go_roundw
        case rel => exact ⟨g4, i + 1, rfl, by omega, by omega, by go_num, HOW4⟩
        case measure => simp [intOf]; omega
      | false =>
        have hk1 : Hid (acc (i + 1) = acc i) := by show _ = _; rw [HST.out]; simp
        clear HST
        go_wp2_with fail
        go_roundw
        case rel => exact ⟨g3, i + 1, rfl, by omega, by omega, by go_num, by show World.ownsRow _ _ _ _ _ _ _; rw [hk1.out]; exact HOW3.out⟩
        case measure => simp [intOf]; omega
    · obtain rfl : i = hi := by omega
      go_wp2_with fail
      go_at_call 143
      refine (HB1.out _).mono ?_
      rintro e w2 ⟨rfl, hb⟩
      have HOW2 := Lib.hid (ownN_below HOW.out hb)
      obtain ⟨g2, rfl⟩ := g.on hb
      clear hb k0 k1 k2 k3 k4 k5 k6 k7 k8 k9 HOW
      have k7 := HC.out g2 7 _ rfl
      have HX := Lib.hid (BW.out.trans (g2.ok.mono BW.out.size))
      by_cases hbs : r.bs.length = 0
      · have hz : ((r.bs.length : Int) == 0) = true := by rw [hbs]; rfl
        have E : Hid (d = acc i) := by show _ = _; rw [HDD2.out]; unfold keptL; rw [if_pos (List.eq_nil_of_length_eq_zero hbs)]
        clear hbs
        go_wp2_with fail
        go_ret
        refine ⟨_, rfl, ?_, HX.out⟩
        rw [E.out]
        exact ownN_base HOW2.out BW.out.size
      · have hz : ((r.bs.length : Int) == 0) = false := beq_false_of_ne (by omega)
        have HKP : Hid (∀ (g : Gr W) (j : Nat), j < (acc i).length → Calls Tryz.prog 154 #[.slice A4 r.bs.length c4, .int .i64 ((j : Int) + 1), .int .i64 (acc i).length] g.val fun e w' => e = .returned (.bool (okPos r (acc i).length j)) ∧ Below g.val.heap.size g.val w') := fun g j hj => by
          have hlen := HL.out i (Int.le_refl _)
          have h := plc_any r.bs A4 c4 ((j : Int) + 1) (acc i).length (by omega) hMk.out.1 hMk.out.2 (by omega) (by omega) g.val (HS4.out g)
          unfold plB at h
          rw [show (j : Int) + 1 - (acc i).length - 1 = j - (acc i).length by omega] at h
          exact h
        have E : Hid (d = keptTo r (acc i) (acc i).length) := by show _ = _; rw [HDD2.out]; unfold keptL; rw [if_neg (fun e => hbs (by rw [e]; rfl))]
        have hlen := HL.out i (Int.le_refl _)
        obtain ⟨A, c, rfl, hSl⟩ := Sl.of_own HOW2.out
        have HSL := Lib.hid hSl
        have HC7 : Hid (∀ g : Gr g2.val, g.val.cell? ⟨w.heap.size, 7, none⟩ = some (.slice A4 r.bs.length c4)) := fun g => cell_old k7 g.ok
        have HG : Hid (∀ g : Gr g2.val, ∃ g' : Gr W, g.val = g'.val) := fun g => g2.on g.ok
        clear hSl hbs HOW2 HDD2 HACC HL HA HB0 HB1 HC HBK
        generalize acc i = l at *
        go_wp2_with fail
        go_loopw [7, 39] (fun s7 s39 wr => ∃ (g : Gr g2.val) (j : Nat), wr = g.val ∧ j ≤ l.length ∧ s39 = .int .i64 j ∧ Hid (g.val.ownsRow g2.val.heap.size 3 1 s7 (keptTo r l j).length (iv (keptTo r l j)))) (fun _ s39 _ => l.length - (intOf s39).toNat)
        case atStart => exact ⟨⟨_, Below.refl _ _⟩, 0, rfl, Nat.zero_le _, rfl, World.ownsRow_nil _ _ _ _⟩
        case round =>
          obtain ⟨g, j, rfl, hj, rfl, HOW⟩ := hrel
          by_cases hlt2 : j < l.length
          · have hiz : (j : Int) < l.length := by omega
            have hw1 : IntKind.i64.wrap ((j : Int) + 1) = j + 1 := by rw [IntKind.wrap_i64]; omega
            have hkl := keptTo_len r l j
            obtain ⟨x, hx⟩ : ∃ x, l[j]? = some x := ⟨_, List.getElem?_eq_getElem hlt2⟩
            obtain ⟨pb, po, rfl, hpb, hpc⟩ := HSL.out.intG hx
            have hc0 := hpc g
            have c7 := HC7.out g
            have hgx : l.getD j 0 = x := by rw [List.getD_eq_getElem?_getD, hx]; rfl
            have HST : Hid (∀ b : Bool, okPos r l.length j = b → keptTo r l (j + 1) = keptTo r l j ++ (if b then [x] else [])) := fun b hb => by
              rw [show keptTo r l (j + 1) = keptTo r l j ++ (if okPos r l.length j then [l.getD j 0] else []) from rfl, hb, hgx]
            obtain ⟨gW, hgW⟩ := HG.out g
            have HP := Lib.hid (HKP.out gW j hlt2)
            rw [← hgW] at HP
            generalize okPos r l.length j = v at *
            clear hpc hgx hx hgW
            go_wp2_with fail
            go_at_call 154
            refine HP.out.mono ?_
            rintro e w3 ⟨rfl, hb⟩
            have HOW3 := Lib.hid (ownN_below HOW.out hb)
            obtain ⟨g3, rfl⟩ := g.on hb
            clear hb HOW hc0 c7
            cases v with
            | true =>
              have hk1 : Hid (keptTo r l (j + 1) = keptTo r l j ++ [x]) := by show _ = _; rw [HST.out true rfl]; rfl
              clear HST
              generalize keptTo r l j = ac at *
              go_wp2_with (at_builtin; refine wpList_append_own _ rfl _ _ 25 rfl g2.val.heap.size 3 i0 (.int .i64 0) 1 8 Tryz.underlying25 hi0 hz0 hz1 hz2 rfl (by decide) _ _ _ rfl (HOW3.out.alloc _) ⟨g3.val.heap.size, 0, none⟩ 1 1 [.int .i64 x] rfl rfl ?c1 ?c2 ?c3 ?c4 ?c5 ?_)
              case c1 =>
                intro j u hj
                match j, hj with
                | 0, hj => simp at hj; subst hj; simp [go_sem]
                | j + 1, hj => simp at hj
              case c2 => intro u hu; simp at hu; subst hu; rfl
              case c3 => simp only [maxLen]; omega
              case c4 => omega
              case c5 => have := g3.ok.size; simp; omega
              intro v' w4 hown' hgrow _
              have HB' : Hid (Below g2.val.heap.size g2.val w4) := (g3.ok.alloc g3.ok.size _).grown hgrow (by have := g3.ok.size; simp; omega) (fun k hk => (HOW3.out.lt k hk).1)
              have HOW4 : Hid (w4.ownsRow g2.val.heap.size 3 1 v' (keptTo r l (j + 1)).length (iv (keptTo r l (j + 1)))) := by show World.ownsRow _ _ _ _ _ _ _; rw [hk1.out, List.length_append, iv_app]; exact hown'
              clear hown' hgrow
              obtain ⟨g4, rfl⟩ := Gr.of HB'.out
              go_wp2
              go_roundw
              case rel => exact ⟨g4, j + 1, rfl, by omega, by go_num, HOW4⟩
              case measure => simp [intOf]; omega
            | false =>
              have hk1 : Hid (keptTo r l (j + 1) = keptTo r l j) := by show _ = _; rw [HST.out false rfl]; simp
              clear HST
              go_wp2_with fail
              go_roundw
              case rel => exact ⟨g3, j + 1, rfl, by omega, by go_num, by show World.ownsRow _ _ _ _ _ _ _; rw [hk1.out]; exact HOW3.out⟩
              case measure => simp [intOf]; omega
          · have hiz : ¬ (j : Int) < l.length := by omega
            obtain rfl : j = l.length := by omega
            have HF := Lib.hid (HX.out.trans (g.ok.mono HX.out.size))
            have hsz := HX.out.size
            go_wp2_with fail
            go_ret
            refine ⟨_, rfl, ?_, HF.out⟩
            rw [E.out]
            exact ownN_base HOW.out hsz
end
end Go.Proofs.YtfjmofefciopmaaGreat
end
section
namespace Go.Proofs.YtfjmofefciopmaaGreat
open Go.ChangeShapes Go.WideShapes Go.ChangeAt Go.RowKit Go.Joins Qr Tm Cal
theorem dayn_info10 : (Tryz.prog.info? 79).map (fun i => (i.zero, i.size, i.bytes)) = some (some (.agg #[.int .i64 0, .int .i64 0]), 2, 16) := by kernel_rfl
structure Sb (w : World) (B : Nat) (A : Option Addr) (n c : Nat) (xs : List Value) : Prop where
  sl : Sl w A n c xs
  up : ∀ a, A = some a → B ≤ a.block
theorem Sb.same {w w' : World} {B : Nat} {A : Option Addr} {n c : Nat} {xs : List Value} (h : Sb w B A n c xs) (hs : ∀ k, B ≤ k → k < w.heap.size → w'.heap[k]? = w.heap[k]?) (hz : w.heap.size ≤ w'.heap.size) : Sb w' B A n c xs := by
  refine ⟨⟨h.sl.le, h.sl.cap, h.sl.nil, fun hn => ?_⟩, h.up⟩
  obtain ⟨b, off, e, hlt, hc⟩ := h.sl.on hn
  refine ⟨b, off, e, by omega, fun i v hi => ?_⟩
  have := h.up _ e
  have h2 := hc i v hi
  unfold World.cell? at h2 ⊢
  simp only at h2 ⊢
  rw [hs b this hlt]; exact h2
theorem Sb.below {w w' : World} {B : Nat} {A : Option Addr} {n c : Nat} {xs : List Value} (h : Sb w B A n c xs) (hb : Below w.heap.size w w') : Sb w' B A n c xs := h.same (fun k _ hk => hb.block k hk) hb.size
theorem Sb.set {w : World} {B b i : Nat} {A : Option Addr} {n c : Nat} {xs : List Value} (h : Sb w B A n c xs) (hb : b < B) (v : Value) : Sb (w.setCell ⟨b, i, none⟩ v) B A n c xs :=
  h.same (fun k hk _ => Below.heap_setCell _ _ _ _ (by intro e; subst e; exact absurd hb (by simpa using hk))) (by simp [World.setCell])
theorem Sb.alloc {w : World} {B : Nat} {A : Option Addr} {n c : Nat} {xs : List Value} (h : Sb w B A n c xs) (o : Obj) : Sb (w.alloc o) B A n c xs := h.below ((Below.refl _ w).alloc (Nat.le_refl _) o)
theorem Sb.of_own {w : World} {B base size : Nat} {e : TypeId} {v : Value} {n : Nat} {xs : List Value} (h : w.ownsRow base e size v n xs) (hB : B ≤ base) : ∃ A c, v = .slice A n c ∧ Sb w B A n c xs := by
  obtain ⟨A, c, rfl, hs⟩ := Sl.of_own h
  refine ⟨A, c, rfl, hs, fun a ha => ?_⟩
  rcases h.2 with ⟨h0, _⟩ | ⟨g, cap, cur, hv, hb, _⟩
  · cases h0; cases ha
  · simp only [Value.slice.injEq] at hv; rw [hv.1] at ha; cases ha; show B ≤ g; omega
theorem Sb.new (w : World) (B : Nat) (hB : B ≤ w.heap.size) (xs : List Value) (n : Nat) (t : TypeId) (hn : n ≤ maxLen) : Sb (w.alloc (.cells xs.toArray t (0, 0))) B (some ⟨w.heap.size, 0, none⟩) n n xs :=
  ⟨Sl.new w xs n t (0, 0) hn, fun a h => by cases h; exact hB⟩
theorem pcloneI_any (l : List Int) (A : Option Addr) (c : Nat) (hl : l.length ≤ 10000) (w : World) (hs : Sl w A l.length c (iv l)) :
    Calls Tryz.prog 137 #[.slice A l.length c] w fun e w' => (∃ A' c', e = .returned (.slice A' l.length c') ∧ Sb w' w.heap.size A' l.length c' (iv l)) ∧ Below w.heap.size w w' := by
  cases A with
  | none =>
    have h0 : l = [] := List.eq_nil_of_length_eq_zero (by have := hs.nil rfl; have := hs.le; omega)
    subst h0
    refine (Tryz.slices_Clone_int_nil 0 c w).mono ?_
    rintro e w' ⟨rfl, rfl⟩
    exact ⟨⟨none, 0, rfl, Sl.none_ _, fun a h => by cases h⟩, Below.refl _ _⟩
  | some a =>
    by_cases h0 : l.length = 0
    · obtain rfl := List.eq_nil_of_length_eq_zero h0
      refine (Tryz.slices_Clone_int_zero a c w).mono ?_
      rintro e w' ⟨v, rfl, hown, _, hb⟩
      obtain ⟨A', c', rfl, hs'⟩ := Sb.of_own hown (Nat.le_refl _)
      exact ⟨⟨A', c', rfl, hs'⟩, hb⟩
    · obtain ⟨b, off, e, _⟩ := sl_some hs (by omega)
      cases e
      refine (Tryz.slices_Clone_int b off l.length c l w (Nat.le_refl _) (by omega) (sl_all hs (by omega))).mono ?_
      rintro e w' ⟨v, rfl, hown, _, hb⟩
      rw [List.take_length] at hown
      obtain ⟨A', c', rfl, hs'⟩ := Sb.of_own hown (Nat.le_refl _)
      exact ⟨⟨A', c', rfl, hs'⟩, hb⟩
set_option maxHeartbeats 1000000 in
theorem pcloneD_any (l : List (Int × Int)) (A : Option Addr) (c : Nat) (hl : l.length ≤ 10000) (w : World) (hs : Sl w A l.length c (sv l)) :
    Calls Tryz.prog 138 #[.slice A l.length c] w fun e w' => (∃ A' c', e = .returned (.slice A' l.length c') ∧ Sb w' w.heap.size A' l.length c' (sv l)) ∧ Below w.heap.size w w' := by
  have hnil : ∀ (w' : World) (A' : Option Addr) (n' c' : Nat), (binOp .eql 26 (.slice A' n' c') (.slice none 0 0)).run Tryz.prog w' = .ok (.bool A'.isNone) w' := fun w' A' n' c' => Lib.run_eql_slice_nil w' 26 79 A' n' c' 0 0 Tryz.underlying26
  cases A with
  | none =>
    have h0 : l = [] := List.eq_nil_of_length_eq_zero (by have := hs.nil rfl; have := hs.le; omega)
    subst h0
    go_enter Tryz.func138, Tryz.ntmps138
    go_wp2
    go_ret
    exact ⟨⟨none, 0, rfl, Sl.none_ _, fun a h => by cases h⟩, Below.refl _ _⟩
  | some a =>
    have H := Lib.hid hs
    clear hs
    obtain ⟨i0, hi0, hq0, hq1, hq2⟩ := info_parts dayn_info10
    have h1 := Lib.hid (sv_one (l := l))
    have hmx : 0 + l.length ≤ maxLen := by unfold maxLen; omega
    go_enter Tryz.func138, Tryz.ntmps138
    go_wp2_with (refine wpList_append_sl rfl _ _ _ (by rfl) w.heap.size 79 i0 _ 2 16 Tryz.underlying26 hi0 hq0 hq1 hq2 rfl (by decide) (.slice (some ⟨w.heap.size, 0, none⟩) 0 0) 0 [] (by rfl) (World.ownsRow_made (base := w.heap.size) w #[] 0 (Nat.le_refl _) (by decide) rfl) (some a) l.length c (sv l) (by rfl) (H.out.alloc _) (sv_len l) h1.out hmx (by omega) (by simp) ?_; intro v' w' hown hgr)
    rw [Nat.zero_add] at hown
    obtain ⟨A', c', rfl, hs'⟩ := Sb.of_own hown (Nat.le_refl _)
    go_ret
    refine ⟨⟨A', c', rfl, by simpa using hs'⟩, ?_⟩
    exact ⟨hgr.os, hgr.tape, hgr.output, by have := hgr.size; simp at this; omega, fun k hk => by rw [hgr.block k (by simp; omega) (by simp [Value.ownBlock]; omega)]; exact Below.heap_alloc _ _ _ hk⟩
end Go.Proofs.YtfjmofefciopmaaGreat
end
