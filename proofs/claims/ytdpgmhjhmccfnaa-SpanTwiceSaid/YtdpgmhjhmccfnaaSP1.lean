/- Contracts of the program's rows of spans: numbers compared, tests of a span, a span found by a test. -/
import Derived.Test.YtdpgmhjhmccfnaaSPK
import Derived.Test.YtdpgmhjhmccfnaaSMath7
import Derived.Test.YtdpgmhjhmccfnaaBlk
import Derived.Test.YtdpgmhjhmccfnaaOff
import Derived.Deep.Cut
namespace Go.Proofs.Ytdpgmhjhmccfnaa
open Go.ChangeShapes Go.WideShapes Go.ChangeAt Go.RowKit Go.Joins Sp

/-- The first one of a row of spans that a test takes. -/
def fstS (p : Spn → Bool) : List Spn → Nat → Int
  | [], _ => -1
  | x :: l, i => if p x = true then i else fstS p l (i + 1)
theorem fstS_any (p : Spn → Bool) : ∀ (l : List Spn) (i : Nat), decide (0 ≤ fstS p l i) = l.any p
  | [], _ => rfl
  | x :: l, i => by
    unfold fstS
    rw [List.any_cons]
    cases h : p x with
    | true => simp
    | false => simpa using fstS_any p l (i + 1)
theorem fstS_bd (p : Spn → Bool) : ∀ (l : List Spn) (i : Nat), -1 ≤ fstS p l i ∧ fstS p l i ≤ i + l.length
  | [], i => by unfold fstS; exact ⟨by omega, by omega⟩
  | x :: l, i => by
    unfold fstS
    have := fstS_bd p l (i + 1)
    rw [List.length_cons]
    split <;> omega
/-- Either none is taken, or the one that is told is the first. -/
theorem fstS_ways (p : Spn → Bool) : ∀ (l : List Spn) (i : Nat), (fstS p l i = -1 ∧ ∀ s ∈ l, p s = false) ∨ ∃ k, k < l.length ∧ fstS p l i = ((i + k : Nat) : Int) ∧ (∀ s, l[k]? = some s → p s = true) ∧ ∀ s ∈ l.take k, p s = false
  | [], i => .inl ⟨rfl, fun s hs => by cases hs⟩
  | x :: l, i => by
    cases h : p x with
    | true => exact .inr ⟨0, by simp, by simp [fstS, h], fun s hs => Option.some.inj (α := Spn) hs ▸ h, fun s hs => by simp at hs⟩
    | false =>
      rcases fstS_ways p l (i + 1) with ⟨e, ha⟩ | ⟨k, hk, e, ht, ha⟩
      · refine .inl ⟨by simp [fstS, h, e], fun s hs => ?_⟩
        rcases List.mem_cons.1 hs with rfl | hs
        · exact h
        · exact ha s hs
      · refine .inr ⟨k + 1, by simpa using hk, by simp only [fstS, h, Bool.false_eq_true, if_false]; rw [e]; congr 1; omega, fun s hs => ht s (by simpa using hs), fun s hs => ?_⟩
        rw [List.take_succ_cons] at hs
        rcases List.mem_cons.1 hs with rfl | hs
        · exact h
        · exact ha s hs
/-- A span that isn't empty is kept. -/
theorem delC_any (s : Spn) (w : World) :
    Calls Try.prog 25 (#[.agg #[.int .i64 s.1, .int .i64 s.2]] ++ #[]) w fun e w' => e = .returned (.bool (decide (s.2 ≤ s.1))) ∧ Below w.heap.size w w' := by
  obtain ⟨a, b⟩ := s
  show Calls Try.prog 25 #[.agg #[.int .i64 a, .int .i64 b]] w _
  simp only
  go_enter Try.func25, Try.ntmps25
  go_wp2_with fail
  go_ret
  exact ⟨rfl, (Below.refl _ _).alloc (Nat.le_refl _) _⟩
theorem inC_any (m : Int) (s : Spn) (K : Nat) (w : World) (hk : w.cell? ⟨K, 0, none⟩ = some (.int .i64 m)) :
    Calls Try.prog 30 (#[.agg #[.int .i64 s.1, .int .i64 s.2]] ++ #[.pointer (some ⟨K, 0, none⟩)]) w fun e w' => e = .returned (.bool (decide (s.1 ≤ m) && decide (m < s.2))) ∧ Below w.heap.size w w' := by
  obtain ⟨a, b⟩ := s
  show Calls Try.prog 30 #[.agg #[.int .i64 a, .int .i64 b], .pointer (some ⟨K, 0, none⟩)] w _
  simp only
  have hk2 : ∀ o : Obj, (w.alloc o).cell? ⟨K, 0, none⟩ = some (.int .i64 m) := fun o => cell_old hk ((Below.refl _ _).alloc (Nat.le_refl _) o)
  have hk3 := hk2 (.cells #[.int .i64 a, .int .i64 b] 32)
  clear hk hk2
  have hways : decide (a ≤ m) = true ∨ decide (a ≤ m) = false := by cases decide (a ≤ m) <;> simp
  rcases hways with h1 | h1
  all_goals
    rw [h1]
    go_enter Try.func30, Try.ntmps30
    go_wp2_with fail
    go_ret
    exact ⟨by first | rfl | simp, (Below.refl _ _).alloc (Nat.le_refl _) _⟩

set_option maxRecDepth 100000 in
set_option maxHeartbeats 1000000 in
theorem pindexD_any (cb : Array Value) (p : Spn → Bool) (l : List Spn) (A : Option Addr) (c : Nat) (w : World) (hs : Sl w A l.length c (sv l))
    (hf : ∀ (g : Gr w), ∀ s ∈ l, Calls Try.prog 25 (#[.agg #[.int .i64 s.1, .int .i64 s.2]] ++ cb) g.val fun e w' => e = .returned (.bool (p s)) ∧ Below g.val.heap.size g.val w') :
    Calls Try.prog 35 #[.slice A l.length c, .func (.func 25) #[] cb] w
      fun e w' => e = .returned (.int .i64 (fstS p l 0)) ∧ Below w.heap.size w w' := by
  have hl : l.length ≤ 9223372036854775807 := Nat.le_trans hs.le hs.cap
  obtain ⟨r, hr⟩ : ∃ r, fstS p l 0 = r := ⟨_, rfl⟩
  have HR : Hid (fstS p (l.drop 0) 0 = r) := hr
  rw [hr]
  have HS := Lib.hid hs
  have HC := Lib.hid hf
  clear hr hs hf
  go_enter Try.func35, Try.ntmps35
  go_wp2_with fail
  go_loopw [8] (fun s8 wr => ∃ (i : Nat) (g : Gr w), wr = g.val ∧ i ≤ l.length ∧ s8 = .int .i64 i ∧ Hid (fstS p (l.drop i) i = r)) (fun s8 _ => l.length - (intOf s8).toNat)
  case atStart => exact ⟨0, ⟨w, Below.refl _ _⟩, rfl, Nat.zero_le _, rfl, HR⟩
  case round =>
    obtain ⟨i, g, rfl, hi, rfl, HI⟩ := hrel
    by_cases hlt : i < l.length
    · have hiz : (i : Int) < l.length := by omega
      have hw1 : IntKind.i64.wrap ((i : Int) + 1) = i + 1 := by rw [IntKind.wrap_i64]; omega
      obtain ⟨b, off, rfl, hbs, q1, q2⟩ := (HS.out.gr g).span (List.getElem?_eq_getElem hlt)
      have HST : Hid ((if p l[i] = true then (i : Int) else fstS p (l.drop (i + 1)) (i + 1)) = r) := by
        show _ = _
        have := HI.out
        rw [drop_step hlt] at this
        exact this
      have HC2 := Lib.hid (HC.out g l[i] (List.getElem_mem hlt))
      clear HI
      generalize l[i] = x at *
      obtain ⟨x1, x2⟩ := x
      simp only at q1 q2 HST HC2
      generalize p (x1, x2) = v at *
      cases v with
      | true =>
        have E : Hid ((i : Int) = r) := HST.out
        clear HST
        go_wp2_with fail
        go_at_call 25
        refine HC2.out.mono ?_
        rintro e w1 ⟨rfl, hb1⟩
        obtain ⟨g1, rfl⟩ := g.on hb1
        clear hb1
        go_wp2_with fail
        go_ret
        exact ⟨ret_int E.out, g1.ok⟩
      | false =>
        have E : Hid (fstS p (l.drop (i + 1)) (i + 1) = r) := HST.out
        clear HST
        go_wp2_with fail
        go_at_call 25
        refine HC2.out.mono ?_
        rintro e w1 ⟨rfl, hb1⟩
        obtain ⟨g1, rfl⟩ := g.on hb1
        clear hb1
        go_wp2_with fail
        go_roundw
        case rel => exact ⟨i + 1, g1, rfl, by omega, by go_num, E⟩
        case measure => simp [intOf]; omega
    · have hiz : ¬ (i : Int) < l.length := by omega
      have E : Hid (r = -1) := by show _ = _; rw [← HI.out, List.drop_of_length_le (by omega)]; rfl
      go_wp2_with fail
      go_ret
      exact ⟨ret_int E.out.symm, g.ok⟩

set_option maxRecDepth 100000 in
set_option maxHeartbeats 1000000 in
theorem pindexH_any (cb : Array Value) (p : Spn → Bool) (l : List Spn) (A : Option Addr) (c : Nat) (w : World) (hs : Sl w A l.length c (sv l))
    (hf : ∀ (g : Gr w), ∀ s ∈ l, Calls Try.prog 30 (#[.agg #[.int .i64 s.1, .int .i64 s.2]] ++ cb) g.val fun e w' => e = .returned (.bool (p s)) ∧ Below g.val.heap.size g.val w') :
    Calls Try.prog 35 #[.slice A l.length c, .func (.func 30) #[] cb] w
      fun e w' => e = .returned (.int .i64 (fstS p l 0)) ∧ Below w.heap.size w w' := by
  have hl : l.length ≤ 9223372036854775807 := Nat.le_trans hs.le hs.cap
  obtain ⟨r, hr⟩ : ∃ r, fstS p l 0 = r := ⟨_, rfl⟩
  have HR : Hid (fstS p (l.drop 0) 0 = r) := hr
  rw [hr]
  have HS := Lib.hid hs
  have HC := Lib.hid hf
  clear hr hs hf
  go_enter Try.func35, Try.ntmps35
  go_wp2_with fail
  go_loopw [8] (fun s8 wr => ∃ (i : Nat) (g : Gr w), wr = g.val ∧ i ≤ l.length ∧ s8 = .int .i64 i ∧ Hid (fstS p (l.drop i) i = r)) (fun s8 _ => l.length - (intOf s8).toNat)
  case atStart => exact ⟨0, ⟨w, Below.refl _ _⟩, rfl, Nat.zero_le _, rfl, HR⟩
  case round =>
    obtain ⟨i, g, rfl, hi, rfl, HI⟩ := hrel
    by_cases hlt : i < l.length
    · have hiz : (i : Int) < l.length := by omega
      have hw1 : IntKind.i64.wrap ((i : Int) + 1) = i + 1 := by rw [IntKind.wrap_i64]; omega
      obtain ⟨b, off, rfl, hbs, q1, q2⟩ := (HS.out.gr g).span (List.getElem?_eq_getElem hlt)
      have HST : Hid ((if p l[i] = true then (i : Int) else fstS p (l.drop (i + 1)) (i + 1)) = r) := by
        show _ = _
        have := HI.out
        rw [drop_step hlt] at this
        exact this
      have HC2 := Lib.hid (HC.out g l[i] (List.getElem_mem hlt))
      clear HI
      generalize l[i] = x at *
      obtain ⟨x1, x2⟩ := x
      simp only at q1 q2 HST HC2
      generalize p (x1, x2) = v at *
      cases v with
      | true =>
        have E : Hid ((i : Int) = r) := HST.out
        clear HST
        go_wp2_with fail
        go_at_call 30
        refine HC2.out.mono ?_
        rintro e w1 ⟨rfl, hb1⟩
        obtain ⟨g1, rfl⟩ := g.on hb1
        clear hb1
        go_wp2_with fail
        go_ret
        exact ⟨ret_int E.out, g1.ok⟩
      | false =>
        have E : Hid (fstS p (l.drop (i + 1)) (i + 1) = r) := HST.out
        clear HST
        go_wp2_with fail
        go_at_call 30
        refine HC2.out.mono ?_
        rintro e w1 ⟨rfl, hb1⟩
        obtain ⟨g1, rfl⟩ := g.on hb1
        clear hb1
        go_wp2_with fail
        go_roundw
        case rel => exact ⟨i + 1, g1, rfl, by omega, by go_num, E⟩
        case measure => simp [intOf]; omega
    · have hiz : ¬ (i : Int) < l.length := by omega
      have E : Hid (r = -1) := by show _ = _; rw [← HI.out, List.drop_of_length_le (by omega)]; rfl
      go_wp2_with fail
      go_ret
      exact ⟨ret_int E.out.symm, g.ok⟩

set_option maxHeartbeats 1000000 in
theorem pcontS_any (m : Int) (l : List Spn) (A : Option Addr) (c K : Nat) (w : World) (hs : Sl w A l.length c (sv l)) (hk : ∀ g : Gr w, g.val.cell? ⟨K, 0, none⟩ = some (.int .i64 m)) :
    Calls Try.prog 29 #[.slice A l.length c, .func (.func 30) #[] #[.pointer (some ⟨K, 0, none⟩)]] w
      fun e w' => e = .returned (.bool (hasB l m)) ∧ Below w.heap.size w w' := by
  obtain ⟨p, hp⟩ : ∃ p : Spn → Bool, p = fun s => decide (s.1 ≤ m) && decide (m < s.2) := ⟨_, rfl⟩
  have hf : ∀ (g : Gr w), ∀ s ∈ l, Calls Try.prog 30 (#[.agg #[.int .i64 s.1, .int .i64 s.2]] ++ #[.pointer (some ⟨K, 0, none⟩)]) g.val fun e w' => e = .returned (.bool (p s)) ∧ Below g.val.heap.size g.val w' := by
    intro g s _
    rw [hp]
    exact inC_any m s K g.val (hk g)
  have HC := Lib.hid (pindexH_any #[.pointer (some ⟨K, 0, none⟩)] p l A c w hs hf)
  have HE : Hid (decide (0 ≤ fstS p l 0) = hasB l m) := by
    show _ = _
    rw [fstS_any, hp]; rfl
  have hbd := fstS_bd p l 0
  have hl : l.length ≤ 9223372036854775807 := Nat.le_trans hs.le hs.cap
  clear hf hp
  generalize fstS p l 0 = z at *
  generalize hasB l m = q at *
  clear hs hk
  go_enter Try.func29, Try.ntmps29
  go_wp2_with fail
  go_at_call 35
  refine HC.out.mono ?_
  rintro e w' ⟨rfl, hb⟩
  obtain ⟨g, rfl⟩ := Gr.of hb
  clear hb
  go_wp2_with fail
  go_ret
  exact ⟨ret_bool HE.out, g.ok⟩
theorem phas13_any (m : Int) (l : List Spn) (A : Option Addr) (c : Nat) (w : World) (hs : Sl w A l.length c (sv l)) :
    Calls Try.prog 14 #[.slice A l.length c, .int .i64 m] w fun e w' => e = .returned (.bool (hasB l m)) ∧ Below w.heap.size w w' := by
  have hl : l.length ≤ 9223372036854775807 := Nat.le_trans hs.le hs.cap
  obtain ⟨W1, hW1⟩ : ∃ W1, w.alloc (.cells #[.int .i64 m] 2) = W1 := ⟨_, rfl⟩
  have hB : Below w.heap.size w W1 := by rw [← hW1]; exact (Below.refl _ _).alloc (Nat.le_refl _) _
  have hblk : W1.heap[w.heap.size]? = some (.cells #[.int .i64 m] 2 (0, 0)) := by rw [← hW1]; exact heap_alloc_new _ _
  have HC := Lib.hid (pcontS_any m l A c w.heap.size W1 (hs.below hB (Nat.le_refl _)) fun g => cell_old (blk_cell hblk rfl) g.ok)
  have E1 := Lib.hid hW1
  have HB := Lib.hid hB
  generalize hasB l m = q at *
  clear hs hW1 hB hblk
  go_enter Try.func14, Try.ntmps14
  go_upto_region 1 with fail
  rw [E1.out]
  go_wp2_with fail
  go_at_call 29
  refine HC.out.mono ?_
  rintro e w' ⟨rfl, hb⟩
  obtain ⟨g, rfl⟩ := Gr.of hb
  clear hb
  go_wp2_with fail
  go_ret
  exact ⟨rfl, HB.out.trans (g.ok.mono HB.out.size)⟩
end Go.Proofs.Ytdpgmhjhmccfnaa
