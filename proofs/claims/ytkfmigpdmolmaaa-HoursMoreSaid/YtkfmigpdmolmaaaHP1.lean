/- Contracts of the program's hours: days and minutes of a local time, weekdays, a number in a row, shifts by a test; whether hours may be. -/
import Derived.Test.YtkfmigpdmolmaaaHW2
import Derived.Test.YtkfmigpdmolmaaaHMath3
import Derived.Test.YtkfmigpdmolmaaaW1
namespace Go.Proofs.Ytkfmigpdmolmaaa
open Go.ChangeShapes Go.WideShapes Go.ChangeAt Go.RowKit Hr Zn

theorem pdayOf_any (l : Int) (h : -1440 ≤ l ∧ l ≤ 1000000000) (w : World) :
    Calls Try.prog 31 #[.int .i64 l] w fun e w' => e = .returned (.int .i64 (dyI l)) ∧ w = w' := by
  have q1 : (l + 1440).tdiv 1440 = (l + 1440) / 1440 := Int.tdiv_eq_ediv_of_nonneg (by omega)
  have q2 : IntKind.i64.wrap ((l + 1440) / 1440) = (l + 1440) / 1440 := by rw [IntKind.wrap_i64]; omega
  have E : Hid (dyI l = (l + 1440) / 1440 - 1) := by show _ = _; unfold dyI; omega
  go_enter Try.func31, Try.ntmps31
  go_wp2_with fail
  go_ret
  exact ⟨ret_int E.out.symm, rfl⟩
theorem pmidnight_any (d : Int) (h : -1000000 ≤ d ∧ d ≤ 1000000) (w : World) :
    Calls Try.prog 32 #[.int .i64 d] w fun e w' => e = .returned (.int .i64 (d * 1440)) ∧ w = w' := by
  go_enter Try.func32, Try.ntmps32
  go_wp2_with fail
  go_ret
  exact ⟨rfl, rfl⟩
/-- The first place of a number in a row. -/
def placeI (l : List Int) (x : Int) (i : Nat) : Int :=
  match l with
  | [] => -1
  | y :: r => if x = y then i else placeI r x (i + 1)
theorem place_any : ∀ (l : List Int) (x : Int) (i : Nat), decide (0 ≤ placeI l x i) = l.any fun y => decide (y = x)
  | [], _, _ => rfl
  | y :: r, x, i => by
    unfold placeI
    rw [List.any_cons]
    by_cases h : x = y
    · rw [if_pos h]; simp [h]
    · rw [if_neg h, place_any r x (i + 1), decide_eq_false (fun e => h e.symm), Bool.false_or]
theorem place_bd : ∀ (l : List Int) (x : Int) (i : Nat), -1 ≤ placeI l x i ∧ placeI l x i ≤ i + l.length
  | [], _, i => by unfold placeI; exact ⟨by omega, by omega⟩
  | y :: r, x, i => by
    unfold placeI
    have := place_bd r x (i + 1)
    rw [List.length_cons]
    split <;> omega
set_option maxHeartbeats 1000000 in
theorem pindexI_any (l : List Int) (A : Option Addr) (c : Nat) (x : Int) (w : World) (hs : Sl w A l.length c (iv l)) :
    Calls Try.prog 61 #[.slice A l.length c, .int .i64 x] w fun e w' => e = .returned (.int .i64 (placeI l x 0)) ∧ w = w' := by
  have hl : l.length ≤ 9223372036854775807 := Nat.le_trans hs.le hs.cap
  obtain ⟨r, hr⟩ : ∃ r, placeI l x 0 = r := ⟨_, rfl⟩
  have HR : Hid (placeI (l.drop 0) x 0 = r) := hr
  rw [hr]
  have HS := Lib.hid hs
  clear hr hs
  go_enter Try.func61, Try.ntmps61
  go_wp2_with fail
  go_loopw [8] (fun s8 wr => ∃ (i : Nat), wr = w ∧ i ≤ l.length ∧ s8 = .int .i64 i ∧ Hid (placeI (l.drop i) x i = r)) (fun s8 _ => l.length - (intOf s8).toNat)
  case atStart => exact ⟨0, rfl, Nat.zero_le _, rfl, HR⟩
  case round =>
    obtain ⟨i, rfl, hi, rfl, HI⟩ := hrel
    by_cases hlt : i < l.length
    · have hiz : (i : Int) < l.length := by omega
      have hw1 : IntKind.i64.wrap ((i : Int) + 1) = i + 1 := by rw [IntKind.wrap_i64]; omega
      obtain ⟨b, off, rfl, hbs, q⟩ := HS.out.intG (List.getElem?_eq_getElem hlt)
      have q1 := q ⟨_, Below.refl _ _⟩
      simp only at q1
      have HST : Hid ((if x = l[i] then (i : Int) else placeI (l.drop (i + 1)) x (i + 1)) = r) := by
        show _ = _
        have := HI.out
        rw [drop_step hlt] at this
        exact this
      clear q HI
      generalize l[i] = y at *
      by_cases e1 : x = y
      · have E : Hid ((i : Int) = r) := by show _ = _; rw [← HST.out, if_pos e1]
        have e1b : (x == y) = true := by simpa using e1
        clear HST e1
        go_wp2_with fail
        go_ret
        exact ⟨ret_int E.out, rfl⟩
      · have E : Hid (placeI (l.drop (i + 1)) x (i + 1) = r) := by show _ = _; rw [← HST.out, if_neg e1]
        have e1b : (x == y) = false := by simpa using e1
        clear HST e1
        go_wp2_with fail
        go_roundw
        case rel => exact ⟨i + 1, by trivial, by omega, by go_num, E⟩
        case measure => simp [intOf]; omega
    · have hiz : ¬ (i : Int) < l.length := by omega
      have E : Hid (r = -1) := by show _ = _; rw [← HI.out, List.drop_of_length_le (by omega)]; rfl
      go_wp2_with fail
      go_ret
      exact ⟨ret_int E.out.symm, rfl⟩
theorem pcontainsI_any (l : List Int) (A : Option Addr) (c : Nat) (x : Int) (w : World) (hs : Sl w A l.length c (iv l)) :
    Calls Try.prog 47 #[.slice A l.length c, .int .i64 x] w fun e w' => e = .returned (.bool (l.any fun y => decide (y = x))) ∧ w = w' := by
  have HC := Lib.hid (pindexI_any l A c x w hs)
  have HE := Lib.hid (place_any l x 0)
  have hbd := place_bd l x 0
  have hl : l.length ≤ 9223372036854775807 := Nat.le_trans hs.le hs.cap
  generalize placeI l x 0 = z at *
  generalize (l.any fun y => decide (y = x)) = q at *
  clear hs
  go_enter Try.func47, Try.ntmps47
  go_wp2_with (go_at_call 61; (with_reducible refine HC.out.mono ?_); rintro e w' ⟨rfl, rfl⟩)
  go_ret
  exact ⟨ret_bool HE.out, rfl⟩
theorem isOff_any (h : H) (A1 A2 : Option Addr) (c1 c2 : Nat) (d : Int) (w : World) (hs : Sl w A2 h.off.length c2 (iv h.off)) (n1 : Nat) :
    Calls Try.prog 33 #[.agg #[.slice A1 n1 c1, .slice A2 h.off.length c2], .int .i64 d] w fun e w' => e = .returned (.bool (h.off.any fun y => decide (y = d))) ∧ Below w.heap.size w w' := by
  have HC := Lib.hid (fun o : Obj => pcontainsI_any h.off A2 c2 d (w.alloc o) (hs.alloc o))
  have hl : h.off.length ≤ 9223372036854775807 := Nat.le_trans hs.le hs.cap
  generalize (h.off.any fun y => decide (y = d)) = q at *
  clear hs
  go_enter Try.func33, Try.ntmps33
  go_wp2_with (go_at_call 47; (with_reducible refine (HC.out _).mono ?_); rintro e w' ⟨rfl, rfl⟩)
  go_ret
  exact ⟨rfl, (Below.refl _ _).alloc (Nat.le_refl _) _⟩
theorem and_one12 (x : Int) (h0 : 0 ≤ x) (h1 : x < 2 ^ 62) : bits .and .i64 x 1 = x % 2 := by
  have := bits_mask .i64 62 (by decide) (fun (n : Int) h₀ h₁ => by rw [IntKind.wrap_i64]; omega) 1 (by decide) x h0 h1
  simpa using this
set_option maxHeartbeats 1000000 in
theorem isOn_any (ds f t d : Int) (hd : 1 ≤ ds ∧ ds ≤ 127) (w : World) :
    Calls Try.prog 35 #[.agg #[.int .i64 ds, .int .i64 f, .int .i64 t], .int .i64 d] w fun e w' => e = .returned (.bool (bitB ds ((d + 7) % 7).toNat)) ∧ Below w.heap.size w w' := by
  obtain ⟨k, hk⟩ : ∃ k : Nat, d % 7 = (k : Int) := ⟨(d % 7).toNat, by omega⟩
  have hk7 : k < 7 := by omega
  have hkz : (k : Int) < 7 := by omega
  have HC : Hid (∀ w : World, Calls Try.prog 48 #[.int .i64 d] w fun e w' => e = .returned (.int .i64 (k : Int)) ∧ w = w') := fun w => by rw [← hk]; exact weekday_any d w
  rw [show ((d + 7) % 7).toNat = k by omega]
  have h2 : 0 ≤ ds / 2 ^ k := Int.ediv_nonneg (by omega) (Int.le_of_lt (Int.pow_pos (by decide)))
  have h3 : ds / 2 ^ k ≤ ds := Int.ediv_le_self _ (by omega)
  have hand : bits .and .i64 (ds / 2 ^ k) 1 = (ds / 2 ^ k) % 2 := and_one12 _ h2 (by omega)
  have HE : Hid (bitB ds k = ((ds / 2 ^ k) % 2 == 1)) := by show _ = _; unfold bitB; rw [Bool.eq_iff_iff]; simp
  generalize bitB ds k = q at *
  obtain ⟨F0, F1, F2, F3⟩ := Gr.lay3 w (.int .i64 ds) (.int .i64 f) (.int .i64 t) 44
  clear hk
  go_enter Try.func35, Try.ntmps35
  go_wp2_with fail
  refine Gr.region (by kernel_rfl) (by kernel_rfl) (Gr.draw0 _) ?_
  repeat (go_big_quiet_step ((first
    | (go_at_call 48; exact Gr.calls_same _ (HC.out _)))))
  refine wpQuiet_nil ?_
  rintro _ ⟨g, rfl⟩
  go_wp2_with fail
  go_ret
  exact ⟨ret_bool HE.out.symm, g.below1⟩


theorem okS_ways (s : Int × Int × Int) : (decide (okS s)) = (decide (1 ≤ s.1) && decide (s.1 ≤ 127) && decide (0 ≤ s.2.1) && decide (s.2.1 < s.2.2) && decide (s.2.2 ≤ 1440)) := by
  rw [Bool.eq_iff_iff, decide_eq_true_eq]
  unfold okS
  simp [and_assoc]
set_option maxHeartbeats 1000000 in
theorem shiftMay_any (d f t : Int) (w : World) :
    Calls Try.prog 20 #[.agg #[.int .i64 d, .int .i64 f, .int .i64 t]] w fun e w' => e = .returned (.bool (decide (okS (d, f, t)))) ∧ Below w.heap.size w w' := by
  have E := Lib.hid (okS_ways (d, f, t))
  simp only at E
  generalize decide (okS (d, f, t)) = q at *
  have hB := Lib.hid ((Below.refl w.heap.size w).alloc (Nat.le_refl _) (.cells #[.int .i64 d, .int .i64 f, .int .i64 t] 44))
  have hways : decide (1 ≤ d) = false ∨ decide (1 ≤ d) = true ∧ decide (d ≤ 127) = false ∨ decide (1 ≤ d) = true ∧ decide (d ≤ 127) = true ∧ decide (0 ≤ f) = false ∨ decide (1 ≤ d) = true ∧ decide (d ≤ 127) = true ∧ decide (0 ≤ f) = true ∧ decide (f < t) = false ∨ decide (1 ≤ d) = true ∧ decide (d ≤ 127) = true ∧ decide (0 ≤ f) = true ∧ decide (f < t) = true ∧ decide (t ≤ 1440) = false ∨ decide (1 ≤ d) = true ∧ decide (d ≤ 127) = true ∧ decide (0 ≤ f) = true ∧ decide (f < t) = true ∧ decide (t ≤ 1440) = true := by
    cases decide (1 ≤ d) <;> cases decide (d ≤ 127) <;> cases decide (0 ≤ f) <;> cases decide (f < t) <;> cases decide (t ≤ 1440) <;> simp
  have HE2 : Hid (∀ b1 b2 b3 b4 b5, decide (1 ≤ d) = b1 → decide (d ≤ 127) = b2 → decide (0 ≤ f) = b3 → decide (f < t) = b4 → decide (t ≤ 1440) = b5 → q = (b1 && b2 && b3 && b4 && b5)) := by
    intro b1 b2 b3 b4 b5 h1 h2 h3 h4 h5
    rw [E.out, h1, h2, h3, h4, h5]
  rcases hways with h1 | ⟨h1, h2⟩ | ⟨h1, h2, h3⟩ | ⟨h1, h2, h3, h4⟩ | ⟨h1, h2, h3, h4, h5⟩ | ⟨h1, h2, h3, h4, h5⟩
  case inr.inr.inr.inr.inr =>
    have ER : Hid (q = true) := by show _ = _; rw [E.out, h1, h2, h3, h4, h5]; rfl
    clear E HE2
    go_enter Try.func20, Try.ntmps20
    go_wp2_with fail
    go_ret
    exact ⟨ret_bool ER.out.symm, hB.out⟩
  all_goals
    have ER : Hid (q = false) := by
      show _ = _
      rw [E.out]
      first | rw [h1, h2, h3, h4, h5] | rw [h1, h2, h3, h4] | rw [h1, h2, h3] | rw [h1, h2] | rw [h1]
      all_goals simp
    clear E HE2
    go_enter Try.func20, Try.ntmps20
    go_wp2_with fail
    go_ret
    exact ⟨ret_bool ER.out.symm, hB.out⟩
theorem mayC_any (s : Int × Int × Int) (w : World) :
    Calls Try.prog 19 (#[.agg #[.int .i64 s.1, .int .i64 s.2.1, .int .i64 s.2.2]] ++ #[]) w fun e w' => e = .returned (.bool (!(decide (okS s)))) ∧ Below w.heap.size w w' := by
  obtain ⟨d, f, t⟩ := s
  show Calls Try.prog 19 #[.agg #[.int .i64 d, .int .i64 f, .int .i64 t]] w _
  have HC := Lib.hid (fun w => shiftMay_any d f t w)
  generalize decide (okS (d, f, t)) = q at *
  go_enter Try.func19, Try.ntmps19
  go_wp2_with fail
  go_at_call 20
  refine (HC.out _).mono ?_
  rintro e w' ⟨rfl, hb⟩
  obtain ⟨g, rfl⟩ := Gr.of hb
  clear hb
  go_wp2_with fail
  go_ret
  exact ⟨rfl, g.below1⟩
/-- The first one of a row of shifts that a test takes. -/
def fstT (p : Int × Int × Int → Bool) : List (Int × Int × Int) → Nat → Int
  | [], _ => -1
  | x :: l, i => if p x = true then i else fstT p l (i + 1)
theorem fstT_any (p : Int × Int × Int → Bool) : ∀ (l : List (Int × Int × Int)) (i : Nat), decide (0 ≤ fstT p l i) = l.any p
  | [], _ => rfl
  | x :: l, i => by
    unfold fstT
    rw [List.any_cons]
    cases h : p x with
    | true => simp
    | false => simpa using fstT_any p l (i + 1)
theorem fstT_bd (p : Int × Int × Int → Bool) : ∀ (l : List (Int × Int × Int)) (i : Nat), -1 ≤ fstT p l i ∧ fstT p l i ≤ i + l.length
  | [], i => by unfold fstT; exact ⟨by omega, by omega⟩
  | x :: l, i => by
    unfold fstT
    have := fstT_bd p l (i + 1)
    rw [List.length_cons]
    split <;> omega

set_option maxRecDepth 100000 in
set_option maxHeartbeats 1000000 in
theorem pindexTM_any (cb : Array Value) (p : Int × Int × Int → Bool) (l : List (Int × Int × Int)) (A : Option Addr) (c : Nat) (w : World) (hs : Sl w A l.length c (tv l))
    (hf : ∀ (g : Gr w), ∀ s ∈ l, Calls Try.prog 19 (#[.agg #[.int .i64 s.1, .int .i64 s.2.1, .int .i64 s.2.2]] ++ cb) g.val fun e w' => e = .returned (.bool (p s)) ∧ Below g.val.heap.size g.val w') :
    Calls Try.prog 38 #[.slice A l.length c, .func (.func 19) #[] cb] w
      fun e w' => e = .returned (.int .i64 (fstT p l 0)) ∧ Below w.heap.size w w' := by
  have hl : l.length ≤ 9223372036854775807 := Nat.le_trans hs.le hs.cap
  obtain ⟨r, hr⟩ : ∃ r, fstT p l 0 = r := ⟨_, rfl⟩
  have HR : Hid (fstT p (l.drop 0) 0 = r) := hr
  rw [hr]
  have HS := Lib.hid hs
  have HC := Lib.hid hf
  clear hr hs hf
  go_enter Try.func38, Try.ntmps38
  go_wp2_with fail
  go_loopw [8] (fun s8 wr => ∃ (i : Nat) (g : Gr w), wr = g.val ∧ i ≤ l.length ∧ s8 = .int .i64 i ∧ Hid (fstT p (l.drop i) i = r)) (fun s8 _ => l.length - (intOf s8).toNat)
  case atStart => exact ⟨0, ⟨w, Below.refl _ _⟩, rfl, Nat.zero_le _, rfl, HR⟩
  case round =>
    obtain ⟨i, g, rfl, hi, rfl, HI⟩ := hrel
    by_cases hlt : i < l.length
    · have hiz : (i : Int) < l.length := by omega
      have hw1 : IntKind.i64.wrap ((i : Int) + 1) = i + 1 := by rw [IntKind.wrap_i64]; omega
      obtain ⟨b, off, rfl, hbs, q1, q2, q3⟩ := (HS.out.gr g).shift (List.getElem?_eq_getElem hlt)
      have HST : Hid ((if p l[i] = true then (i : Int) else fstT p (l.drop (i + 1)) (i + 1)) = r) := by
        show _ = _
        have := HI.out
        rw [drop_step hlt] at this
        exact this
      have HC2 := Lib.hid (HC.out g l[i] (List.getElem_mem hlt))
      clear HI
      generalize l[i] = x at *
      obtain ⟨x1, x2, x3⟩ := x
      simp only at q1 q2 q3 HST HC2
      generalize p (x1, x2, x3) = v at *
      cases v with
      | true =>
        have E : Hid ((i : Int) = r) := HST.out
        clear HST
        go_wp2_with fail
        go_at_call 19
        refine HC2.out.mono ?_
        rintro e w1 ⟨rfl, hb1⟩
        obtain ⟨g1, rfl⟩ := g.on hb1
        clear hb1
        go_wp2_with fail
        go_ret
        exact ⟨ret_int E.out, g1.ok⟩
      | false =>
        have E : Hid (fstT p (l.drop (i + 1)) (i + 1) = r) := HST.out
        clear HST
        go_wp2_with fail
        go_at_call 19
        refine HC2.out.mono ?_
        rintro e w1 ⟨rfl, hb1⟩
        obtain ⟨g1, rfl⟩ := g.on hb1
        clear hb1
        go_wp2_with fail
        go_roundw
        case rel => exact ⟨i + 1, g1, rfl, by omega, by go_num, E⟩
        case measure => simp [intOf]; omega
    · have hiz : ¬ (i : Int) < l.length := by omega
      have E : Hid (r = -1) := by show _ = _; rw [← HI.out, List.drop_of_length_le (by omega)]; rfl
      go_wp2_with fail
      go_ret
      exact ⟨ret_int E.out.symm, g.ok⟩
theorem pcontTM_any (cb : Array Value) (p : Int × Int × Int → Bool) (l : List (Int × Int × Int)) (A : Option Addr) (c : Nat) (w : World) (hs : Sl w A l.length c (tv l))
    (hf : ∀ (g : Gr w), ∀ s ∈ l, Calls Try.prog 19 (#[.agg #[.int .i64 s.1, .int .i64 s.2.1, .int .i64 s.2.2]] ++ cb) g.val fun e w' => e = .returned (.bool (p s)) ∧ Below g.val.heap.size g.val w') :
    Calls Try.prog 18 #[.slice A l.length c, .func (.func 19) #[] cb] w
      fun e w' => e = .returned (.bool (l.any p)) ∧ Below w.heap.size w w' := by
  have HC := Lib.hid (pindexTM_any cb p l A c w hs hf)
  have HE := Lib.hid (fstT_any p l 0)
  have hbd := fstT_bd p l 0
  have hl : l.length ≤ 9223372036854775807 := Nat.le_trans hs.le hs.cap
  generalize fstT p l 0 = z at *
  generalize l.any p = q at *
  clear hs hf
  go_enter Try.func18, Try.ntmps18
  go_wp2_with fail
  go_at_call 38
  refine HC.out.mono ?_
  rintro e w' ⟨rfl, hb⟩
  obtain ⟨g, rfl⟩ := Gr.of hb
  clear hb
  go_wp2_with fail
  go_ret
  exact ⟨ret_bool HE.out, g.ok⟩

set_option maxRecDepth 100000 in
set_option maxHeartbeats 1000000 in
theorem pindexTW_any (cb : Array Value) (p : Int × Int × Int → Bool) (l : List (Int × Int × Int)) (A : Option Addr) (c : Nat) (w : World) (hs : Sl w A l.length c (tv l))
    (hf : ∀ (g : Gr w), ∀ s ∈ l, Calls Try.prog 34 (#[.agg #[.int .i64 s.1, .int .i64 s.2.1, .int .i64 s.2.2]] ++ cb) g.val fun e w' => e = .returned (.bool (p s)) ∧ Below g.val.heap.size g.val w') :
    Calls Try.prog 38 #[.slice A l.length c, .func (.func 34) #[] cb] w
      fun e w' => e = .returned (.int .i64 (fstT p l 0)) ∧ Below w.heap.size w w' := by
  have hl : l.length ≤ 9223372036854775807 := Nat.le_trans hs.le hs.cap
  obtain ⟨r, hr⟩ : ∃ r, fstT p l 0 = r := ⟨_, rfl⟩
  have HR : Hid (fstT p (l.drop 0) 0 = r) := hr
  rw [hr]
  have HS := Lib.hid hs
  have HC := Lib.hid hf
  clear hr hs hf
  go_enter Try.func38, Try.ntmps38
  go_wp2_with fail
  go_loopw [8] (fun s8 wr => ∃ (i : Nat) (g : Gr w), wr = g.val ∧ i ≤ l.length ∧ s8 = .int .i64 i ∧ Hid (fstT p (l.drop i) i = r)) (fun s8 _ => l.length - (intOf s8).toNat)
  case atStart => exact ⟨0, ⟨w, Below.refl _ _⟩, rfl, Nat.zero_le _, rfl, HR⟩
  case round =>
    obtain ⟨i, g, rfl, hi, rfl, HI⟩ := hrel
    by_cases hlt : i < l.length
    · have hiz : (i : Int) < l.length := by omega
      have hw1 : IntKind.i64.wrap ((i : Int) + 1) = i + 1 := by rw [IntKind.wrap_i64]; omega
      obtain ⟨b, off, rfl, hbs, q1, q2, q3⟩ := (HS.out.gr g).shift (List.getElem?_eq_getElem hlt)
      have HST : Hid ((if p l[i] = true then (i : Int) else fstT p (l.drop (i + 1)) (i + 1)) = r) := by
        show _ = _
        have := HI.out
        rw [drop_step hlt] at this
        exact this
      have HC2 := Lib.hid (HC.out g l[i] (List.getElem_mem hlt))
      clear HI
      generalize l[i] = x at *
      obtain ⟨x1, x2, x3⟩ := x
      simp only at q1 q2 q3 HST HC2
      generalize p (x1, x2, x3) = v at *
      cases v with
      | true =>
        have E : Hid ((i : Int) = r) := HST.out
        clear HST
        go_wp2_with fail
        go_at_call 34
        refine HC2.out.mono ?_
        rintro e w1 ⟨rfl, hb1⟩
        obtain ⟨g1, rfl⟩ := g.on hb1
        clear hb1
        go_wp2_with fail
        go_ret
        exact ⟨ret_int E.out, g1.ok⟩
      | false =>
        have E : Hid (fstT p (l.drop (i + 1)) (i + 1) = r) := HST.out
        clear HST
        go_wp2_with fail
        go_at_call 34
        refine HC2.out.mono ?_
        rintro e w1 ⟨rfl, hb1⟩
        obtain ⟨g1, rfl⟩ := g.on hb1
        clear hb1
        go_wp2_with fail
        go_roundw
        case rel => exact ⟨i + 1, g1, rfl, by omega, by go_num, E⟩
        case measure => simp [intOf]; omega
    · have hiz : ¬ (i : Int) < l.length := by omega
      have E : Hid (r = -1) := by show _ = _; rw [← HI.out, List.drop_of_length_le (by omega)]; rfl
      go_wp2_with fail
      go_ret
      exact ⟨ret_int E.out.symm, g.ok⟩
theorem pcontTW_any (cb : Array Value) (p : Int × Int × Int → Bool) (l : List (Int × Int × Int)) (A : Option Addr) (c : Nat) (w : World) (hs : Sl w A l.length c (tv l))
    (hf : ∀ (g : Gr w), ∀ s ∈ l, Calls Try.prog 34 (#[.agg #[.int .i64 s.1, .int .i64 s.2.1, .int .i64 s.2.2]] ++ cb) g.val fun e w' => e = .returned (.bool (p s)) ∧ Below g.val.heap.size g.val w') :
    Calls Try.prog 18 #[.slice A l.length c, .func (.func 34) #[] cb] w
      fun e w' => e = .returned (.bool (l.any p)) ∧ Below w.heap.size w w' := by
  have HC := Lib.hid (pindexTW_any cb p l A c w hs hf)
  have HE := Lib.hid (fstT_any p l 0)
  have hbd := fstT_bd p l 0
  have hl : l.length ≤ 9223372036854775807 := Nat.le_trans hs.le hs.cap
  generalize fstT p l 0 = z at *
  generalize l.any p = q at *
  clear hs hf
  go_enter Try.func18, Try.ntmps18
  go_wp2_with fail
  go_at_call 38
  refine HC.out.mono ?_
  rintro e w' ⟨rfl, hb⟩
  obtain ⟨g, rfl⟩ := Gr.of hb
  clear hb
  go_wp2_with fail
  go_ret
  exact ⟨ret_bool HE.out, g.ok⟩


end Go.Proofs.Ytkfmigpdmolmaaa
