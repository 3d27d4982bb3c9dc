import Derived.Test.YtnccgfdaddbndaaZNW1
import Derived.Test.YtnccgfdaddbndaaZTW5
/- Contracts of the program's times: is a weekday one of a row; is a day as a rule's rows say. -/
section
namespace Go.Proofs.Ytnccgfdaddbndaa
open Go.ChangeShapes Go.WideShapes Go.ChangeAt Go.RowKit Go.Joins Qr Tm Cal

/-- Is a weekday as one of a row says, by what it is of its month? -/
def onB (k up dn : Int) (x : Int × Int) : Bool := decide (x.2 = k) && (decide (x.1 = 0) || decide (x.1 = up) || decide (x.1 = -dn))

set_option maxRecDepth 100000 in
set_option maxHeartbeats 1000000 in
theorem isOn1_any (x1 x2 k up dn : Int) (K : Nat) (hdn : 0 ≤ dn ∧ dn ≤ 100) (w : World) (h : Box3 w K k up dn) :
    Calls Try.prog 72 #[.agg #[.int .i64 x1, .int .i64 x2], .pointer (some ⟨K, 0, none⟩), .pointer (some ⟨K + 1, 0, none⟩), .pointer (some ⟨K + 2, 0, none⟩)] w
      fun e w' => e = .returned (.bool (onB k up dn (x1, x2))) ∧ Below w.heap.size w w' := by
  obtain ⟨q, hq⟩ : ∃ q, onB k up dn (x1, x2) = q := ⟨_, rfl⟩
  have hQ : q = (decide (x2 = k) && (decide (x1 = 0) || decide (x1 = up) || decide (x1 = -dn))) := hq.symm
  rw [hq]
  have HQ := Lib.hid hQ
  clear hq hQ
  have c1 := Gr.layOld h.c1 (.cells #[.int .i64 x1, .int .i64 x2] 58)
  have c2 := Gr.layOld h.c2 (.cells #[.int .i64 x1, .int .i64 x2] 58)
  have c3 := Gr.layOld h.c3 (.cells #[.int .i64 x1, .int .i64 x2] 58)
  have p1 := c1 ⟨_, Below.refl _ _⟩
  have p2 := c2 ⟨_, Below.refl _ _⟩
  have p3 := c3 ⟨_, Below.refl _ _⟩
  simp only at p1 p2 p3
  have hB := Lib.hid ((Below.refl w.heap.size w).alloc (Nat.le_refl _) (.cells #[.int .i64 x1, .int .i64 x2] 58))
  have hneg : IntKind.i64.wrap (-dn) = -dn := by rw [IntKind.wrap_i64]; omega
  clear h c1 c2 c3
  by_cases e1 : x2 = k
  · have e1b : (x2 == k) = true := by simpa using e1
    subst e1
    by_cases e2 : x1 = 0
    · have E : Hid (q = true) := by show _ = _; rw [HQ.out]; simp [e2]
      subst e2
      clear HQ
      go_enter Try.func72, Try.ntmps72
      go_wp2_with fail
      go_ret
      exact ⟨ret_bool E.out.symm, hB.out⟩
    · have e2b : (x1 == 0) = false := by simpa using e2
      by_cases e3 : x1 = up
      · have E : Hid (q = true) := by show _ = _; rw [HQ.out]; simp [e3]
        have e3b : (x1 == up) = true := by simpa using e3
        subst e3
        clear HQ e2
        go_enter Try.func72, Try.ntmps72
        go_wp2_with fail
        go_ret
        exact ⟨ret_bool E.out.symm, hB.out⟩
      · have e3b : (x1 == up) = false := by simpa using e3
        by_cases e4 : x1 = -dn
        · have E : Hid (q = true) := by show _ = _; rw [HQ.out]; simp [e4]
          have e4b : (x1 == -dn) = true := by simpa using e4
          clear HQ e2 e3 e4
          go_enter Try.func72, Try.ntmps72
          go_wp2_with fail
          go_ret
          exact ⟨ret_bool E.out.symm, hB.out⟩
        · have E : Hid (q = false) := by show _ = _; rw [HQ.out]; simp [e2, e3, e4]
          have e4b : (x1 == -dn) = false := by simpa using e4
          clear HQ e2 e3 e4
          go_enter Try.func72, Try.ntmps72
          go_wp2_with fail
          go_ret
          exact ⟨ret_bool E.out.symm, hB.out⟩
  · have e1b : (x2 == k) = false := by simpa using e1
    have E : Hid (q = false) := by show _ = _; rw [HQ.out]; simp [e1]
    clear HQ e1
    go_enter Try.func72, Try.ntmps72
    go_wp2_with fail
    go_ret
    exact ⟨ret_bool E.out.symm, hB.out⟩

/-- The first one of a row that a test takes. -/
def fstB (p : Int × Int → Bool) : List (Int × Int) → Nat → Int
  | [], _ => -1
  | x :: l, i => if p x = true then i else fstB p l (i + 1)
theorem fstB_any (p : Int × Int → Bool) : ∀ (l : List (Int × Int)) (i : Nat), decide (0 ≤ fstB p l i) = l.any p
  | [], _ => rfl
  | x :: l, i => by
    unfold fstB
    rw [List.any_cons]
    cases h : p x with
    | true => simp
    | false => simpa using fstB_any p l (i + 1)
theorem fstB_bd (p : Int × Int → Bool) : ∀ (l : List (Int × Int)) (i : Nat), -1 ≤ fstB p l i ∧ fstB p l i ≤ i + l.length
  | [], i => by unfold fstB; exact ⟨by omega, by omega⟩
  | x :: l, i => by
    unfold fstB
    have := fstB_bd p l (i + 1)
    rw [List.length_cons]
    split <;> omega
set_option maxRecDepth 100000 in
set_option maxHeartbeats 1000000 in
theorem pindexF_any (l : List (Int × Int)) (A : Option Addr) (c : Nat) (k up dn : Int) (K : Nat) (hdn : 0 ≤ dn ∧ dn ≤ 100) (w : World) (hs : Sl w A l.length c (sv l)) (h : Box3 w K k up dn) :
    Calls Try.prog 71 #[.slice A l.length c, .func (.func 72) #[] #[.pointer (some ⟨K, 0, none⟩), .pointer (some ⟨K + 1, 0, none⟩), .pointer (some ⟨K + 2, 0, none⟩)]] w
      fun e w' => e = .returned (.int .i64 (fstB (onB k up dn) l 0)) ∧ Below w.heap.size w w' := by
  have hl : l.length ≤ 9223372036854775807 := Nat.le_trans hs.le hs.cap
  obtain ⟨r, hr⟩ : ∃ r, fstB (onB k up dn) l 0 = r := ⟨_, rfl⟩
  have HR : Hid (fstB (onB k up dn) (l.drop 0) 0 = r) := hr
  rw [hr]
  have HS := Lib.hid hs
  have HC : Hid (∀ (x1 x2 : Int) (g : Gr w), Calls Try.prog 72 #[.agg #[.int .i64 x1, .int .i64 x2], .pointer (some ⟨K, 0, none⟩), .pointer (some ⟨K + 1, 0, none⟩), .pointer (some ⟨K + 2, 0, none⟩)] g.val
      fun e w' => e = .returned (.bool (onB k up dn (x1, x2))) ∧ Below g.val.heap.size g.val w') := fun x1 x2 g => isOn1_any x1 x2 k up dn K hdn g.val (h.up g.ok)
  clear hr hs h
  go_enter Try.func71, Try.ntmps71
  go_wp2_with fail
  go_loopw [8] (fun s8 wr => ∃ (i : Nat) (g : Gr w), wr = g.val ∧ i ≤ l.length ∧ s8 = .int .i64 i ∧ Hid (fstB (onB k up dn) (l.drop i) i = r)) (fun s8 _ => l.length - (intOf s8).toNat)
  case atStart => exact ⟨0, ⟨w, Below.refl _ _⟩, rfl, Nat.zero_le _, rfl, HR⟩
  case round =>
    obtain ⟨i, g, rfl, hi, rfl, HI⟩ := hrel
    by_cases hlt : i < l.length
    · have hiz : (i : Int) < l.length := by omega
      have hw1 : IntKind.i64.wrap ((i : Int) + 1) = i + 1 := by rw [IntKind.wrap_i64]; omega
      obtain ⟨b, off, rfl, hbs, q⟩ := HS.out.spanG (List.getElem?_eq_getElem hlt)
      obtain ⟨q1', q2'⟩ := q g
      have HST : Hid ((if onB k up dn l[i] = true then (i : Int) else fstB (onB k up dn) (l.drop (i + 1)) (i + 1)) = r) := by
        show _ = _
        have := HI.out
        rw [drop_step hlt] at this
        exact this
      have HC1 := Lib.hid (fun y1 y2 => HC.out y1 y2 g)
      clear q HI
      generalize l[i] = x at *
      obtain ⟨x1, x2⟩ := x
      simp only at q1' q2' HST
      have HC2 := Lib.hid (HC1.out x1 x2)
      clear HC1
      generalize onB k up dn (x1, x2) = v at *
      cases v with
      | true =>
        have E : Hid ((i : Int) = r) := HST.out
        clear HST
        go_wp2_with fail
        go_at_call 72
        refine HC2.out.mono ?_
        rintro e w1 ⟨rfl, hb1⟩
        obtain ⟨g1, rfl⟩ := g.on hb1
        clear hb1
        go_wp2_with fail
        go_ret
        exact ⟨ret_int E.out, g1.ok⟩
      | false =>
        have E : Hid (fstB (onB k up dn) (l.drop (i + 1)) (i + 1) = r) := HST.out
        clear HST
        go_wp2_with fail
        go_at_call 72
        refine HC2.out.mono ?_
        rintro e w1 ⟨rfl, hb1⟩
        obtain ⟨g1, rfl⟩ := g.on hb1
        clear hb1
        go_wp2_with fail
        go_roundw
        case rel => exact ⟨i + 1, g1, rfl, by omega, by go_num, E⟩
        case measure => simp [intOf]; omega
    · have hiz : ¬ (i : Int) < l.length := by omega
      have E : Hid (r = -1) := by show _ = _; rw [← HI.out, List.drop_of_length_le (by omega)]; rfl
      go_wp2_with fail
      go_ret
      exact ⟨ret_int E.out.symm, g.ok⟩
theorem pcontF_any (l : List (Int × Int)) (A : Option Addr) (c : Nat) (k up dn : Int) (K : Nat) (hdn : 0 ≤ dn ∧ dn ≤ 100) (w : World) (hs : Sl w A l.length c (sv l)) (h : Box3 w K k up dn) :
    Calls Try.prog 65 #[.slice A l.length c, .func (.func 72) #[] #[.pointer (some ⟨K, 0, none⟩), .pointer (some ⟨K + 1, 0, none⟩), .pointer (some ⟨K + 2, 0, none⟩)]] w
      fun e w' => e = .returned (.bool (l.any (onB k up dn))) ∧ Below w.heap.size w w' := by
  have HC := Lib.hid (pindexF_any l A c k up dn K hdn w hs h)
  have HE := Lib.hid (fstB_any (onB k up dn) l 0)
  have hbd := fstB_bd (onB k up dn) l 0
  have hl : l.length ≤ 9223372036854775807 := Nat.le_trans hs.le hs.cap
  generalize fstB (onB k up dn) l 0 = z at *
  generalize l.any (onB k up dn) = q at *
  clear hs h
  by_cases hz : 0 ≤ z
  · have E : Hid (q = true) := by show _ = _; rw [← HE.out]; simp [hz]
    clear HE
    go_enter Try.func65, Try.ntmps65
    go_wp2_with (go_at_call 71; (with_reducible refine HC.out.mono ?_); rintro e w' ⟨rfl, hb⟩)
    go_ret
    exact ⟨ret_bool E.out.symm, hb⟩
  · have E : Hid (q = false) := by show _ = _; rw [← HE.out]; simp [hz]
    have hzb : decide (0 ≤ z) = false := decide_eq_false hz
    clear HE
    go_enter Try.func65, Try.ntmps65
    go_wp2_with (go_at_call 71; (with_reducible refine HC.out.mono ?_); rintro e w' ⟨rfl, hb⟩)
    go_ret
    exact ⟨ret_bool E.out.symm, hb⟩
end Go.Proofs.Ytnccgfdaddbndaa
end
