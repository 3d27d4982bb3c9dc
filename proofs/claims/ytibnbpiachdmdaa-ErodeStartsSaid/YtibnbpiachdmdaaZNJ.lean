import Derived.Test.YtibnbpiachdmdaaZSPK
import Derived.Test.YtibnbpiachdmdaaZNA
import Derived.Test.YtibnbpiachdmdaaZMB
import Derived.Deep.Cut
import Derived.Test.YtibnbpiachdmdaaZShelf
import Derived.Shelf.SlSortCmp.WholeK
import Derived.Shelf.SlSortCmp.NoneTotal
import Derived.Lib.SliceRun
/- Contracts of the program's rows of spans: numbers compared, tests of a span, a span found by a test. -/
section
namespace Go.Proofs.Ytibnbpiachdmdaa
open Go.ChangeShapes Go.WideShapes Go.ChangeAt Go.RowKit Go.Joins Sp
/-- The first one of a row of spans that a test takes. -/
def fstS (p : Spn → Bool) : List Spn → Nat → Int
  | [], _ => -1
  | x :: l, i => if p x = true then i else fstS p l (i + 1)
/-- Either none is taken, or the one that is told is the first. -/
theorem fstS_ways (p : Spn → Bool) : ∀ (l : List Spn) (i : Nat), (fstS p l i = -1 ∧ ∀ s ∈ l, p s = false) ∨ ∃ k, k < l.length ∧ fstS p l i = ((i + k : Nat) : Int) ∧ (∀ s, l[k]? = some s → p s = true) ∧ ∀ s ∈ l.take k, p s = false
  | [], i => .inl ⟨rfl, fun s hs => by cases hs⟩
  | x :: l, i => by
    cases h : p x with
    | true => exact .inr ⟨0, by simp, by simp [fstS, h], fun s hs => Option.some.inj (α := Spn) hs ▸ h, fun s hs => by simp at hs⟩
    | false =>
      rcases fstS_ways p l (i + 1) with ⟨e, ha⟩ | ⟨k, hk, e, ht, ha⟩
      · refine .inl ⟨by simp [fstS, h, e], fun s hs => ?_⟩
        rcases List.mem_cons.1 hs with rfl | hs
        · exact h
        · exact ha s hs
      · refine .inr ⟨k + 1, by simpa using hk, by simp only [fstS, h, Bool.false_eq_true, if_false]; rw [e]; congr 1; omega, fun s hs => ht s (by simpa using hs), fun s hs => ?_⟩
        rw [List.take_succ_cons] at hs
        rcases List.mem_cons.1 hs with rfl | hs
        · exact h
        · exact ha s hs
/-- A span that isn't empty is kept. -/
theorem delC_any (s : Spn) (w : World) :
    Calls Try.prog 28 (#[.agg #[.int .i64 s.1, .int .i64 s.2]] ++ #[]) w fun e w' => e = .returned (.bool (decide (s.2 ≤ s.1))) ∧ Below w.heap.size w w' := by
  obtain ⟨a, b⟩ := s
  show Calls Try.prog 28 #[.agg #[.int .i64 a, .int .i64 b]] w _
  simp only
  go_enter Try.func28, Try.ntmps28
  go_wp2_with fail
  go_ret
  exact ⟨rfl, (Below.refl _ _).alloc (Nat.le_refl _) _⟩
set_option maxRecDepth 100000 in
set_option maxHeartbeats 1000000 in
theorem pindexD_any (cb : Array Value) (p : Spn → Bool) (l : List Spn) (A : Option Addr) (c : Nat) (w : World) (hs : Sl w A l.length c (sv l))
    (hf : ∀ (g : Gr w), ∀ s ∈ l, Calls Try.prog 28 (#[.agg #[.int .i64 s.1, .int .i64 s.2]] ++ cb) g.val fun e w' => e = .returned (.bool (p s)) ∧ Below g.val.heap.size g.val w') :
    Calls Try.prog 34 #[.slice A l.length c, .func (.func 28) #[] cb] w
      fun e w' => e = .returned (.int .i64 (fstS p l 0)) ∧ Below w.heap.size w w' := by
  have hl : l.length ≤ 9223372036854775807 := Nat.le_trans hs.le hs.cap
  obtain ⟨r, hr⟩ : ∃ r, fstS p l 0 = r := ⟨_, rfl⟩
  have HR : Hid (fstS p (l.drop 0) 0 = r) := hr
  rw [hr]
  have HS := Lib.hid hs
  have HC := Lib.hid hf
  clear hr hs hf
  go_enter Try.func34, Try.ntmps34
  go_wp2_with fail
  go_loopw [8] (fun s8 wr => ∃ (i : Nat) (g : Gr w), wr = g.val ∧ i ≤ l.length ∧ s8 = .int .i64 i ∧ Hid (fstS p (l.drop i) i = r)) (fun s8 _ => l.length - (intOf s8).toNat)
  case atStart => exact ⟨0, ⟨w, Below.refl _ _⟩, rfl, Nat.zero_le _, rfl, HR⟩
  case round =>
    obtain ⟨i, g, rfl, hi, rfl, HI⟩ := hrel
    by_cases hlt : i < l.length
    · have hiz : (i : Int) < l.length := by omega
      have hw1 : IntKind.i64.wrap ((i : Int) + 1) = i + 1 := by rw [IntKind.wrap_i64]; omega
      obtain ⟨b, off, rfl, hbs, q1, q2⟩ := (HS.out.gr g).span (List.getElem?_eq_getElem hlt)
      have HST : Hid ((if p l[i] = true then (i : Int) else fstS p (l.drop (i + 1)) (i + 1)) = r) := by
        show _ = _
        have := HI.out
        rw [drop_step hlt] at this
        exact this
      have HC2 := Lib.hid (HC.out g l[i] (List.getElem_mem hlt))
      clear HI
      generalize l[i] = x at *
      obtain ⟨x1, x2⟩ := x
      simp only at q1 q2 HST HC2
      generalize p (x1, x2) = v at *
      cases v with
      | true =>
        have E : Hid ((i : Int) = r) := HST.out
        clear HST
        go_wp2_with fail
        go_at_call 28
        refine HC2.out.mono ?_
        rintro e w1 ⟨rfl, hb1⟩
        obtain ⟨g1, rfl⟩ := g.on hb1
        clear hb1
        go_wp2_with fail
        go_ret
        exact ⟨ret_int E.out, g1.ok⟩
      | false =>
        have E : Hid (fstS p (l.drop (i + 1)) (i + 1) = r) := HST.out
        clear HST
        go_wp2_with fail
        go_at_call 28
        refine HC2.out.mono ?_
        rintro e w1 ⟨rfl, hb1⟩
        obtain ⟨g1, rfl⟩ := g.on hb1
        clear hb1
        go_wp2_with fail
        go_roundw
        case rel => exact ⟨i + 1, g1, rfl, by omega, by go_num, E⟩
        case measure => simp [intOf]; omega
    · have hiz : ¬ (i : Int) < l.length := by omega
      have E : Hid (r = -1) := by show _ = _; rw [← HI.out, List.drop_of_length_le (by omega)]; rfl
      go_wp2_with fail
      go_ret
      exact ⟨ret_int E.out.symm, g.ok⟩
end Go.Proofs.Ytibnbpiachdmdaa
end
/- Contracts of the program's rows of spans: a copy of a row; spans put in order by the library's sort. -/
section
namespace Go.Proofs.Ytibnbpiachdmdaa
open Go.ChangeShapes Go.WideShapes Go.ChangeAt Go.RowKit Go.Joins Go.Sort Sp
theorem isNaN13_any (x : Int) (w : World) : Calls Try.prog 37 #[.int .i64 x] w fun e w' => e = .returned (.bool false) ∧ w = w' := by
  go_enter Try.func37, Try.ntmps37
  go_wp2
  go_ret
  exact ⟨by simp, rfl⟩
def cmpS (x y : Int) : Int := if x < y then -1 else if y < x then 1 else 0
theorem cmpS_any (x y : Int) (w : World) : Calls Try.prog 31 #[.int .i64 x, .int .i64 y] w fun e w' => e = .returned (.int .i64 (cmpS x y)) ∧ w = w' := by
  have H1 := Lib.hid (fun w => isNaN13_any x w)
  have H2 := Lib.hid (fun w => isNaN13_any y w)
  obtain ⟨r, hr⟩ : ∃ r, cmpS x y = r := ⟨_, rfl⟩
  rw [hr]
  unfold cmpS at hr
  have hways : decide (x < y) = true ∧ r = -1 ∨ decide (x < y) = false ∧ decide (y < x) = true ∧ r = 1 ∨ decide (x < y) = false ∧ decide (y < x) = false ∧ r = 0 := by
    by_cases h1 : x < y
    · exact .inl ⟨decide_eq_true h1, by rw [← hr, if_pos h1]⟩
    · by_cases h2 : y < x
      · exact .inr (.inl ⟨decide_eq_false h1, decide_eq_true h2, by rw [← hr, if_neg h1, if_pos h2]⟩)
      · exact .inr (.inr ⟨decide_eq_false h1, decide_eq_false h2, by rw [← hr, if_neg h1, if_neg h2]⟩)
  clear hr
  rcases hways with ⟨h1, rfl⟩ | ⟨h1, h2, rfl⟩ | ⟨h1, h2, rfl⟩
  all_goals
    go_enter Try.func31, Try.ntmps31
    go_wp2_with (go_at_call 37; (first | (with_reducible refine (H1.out _).mono ?_) | (with_reducible refine (H2.out _).mono ?_)); rintro e w' ⟨rfl, rfl⟩)
    go_ret
    exact ⟨rfl, rfl⟩
/-- In which order two spans stand. -/
def ordP (a b : Spn) : Int := cmpS a.1 b.1
theorem orderP_any (a1 a2 b1 b2 : Int) (W : World) :
    Calls Try.prog 30 #[.agg #[.int .i64 a1, .int .i64 a2], .agg #[.int .i64 b1, .int .i64 b2]] W fun e w' => e = .returned (.int .i64 (ordP (a1, a2) (b1, b2))) ∧ ∃ q os', w' = grow (W.drewN q) os' := by
  have H1 := Lib.hid (fun w => cmpS_any a1 b1 w)
  have HX : Hid ((W.alloc (.cells #[.int .i64 a1, .int .i64 a2] 26)).alloc (.cells #[.int .i64 b1, .int .i64 b2] 26) = grow W #[.cells #[.int .i64 a1, .int .i64 a2] 26, .cells #[.int .i64 b1, .int .i64 b2] 26]) := by
    show _ = _
    rw [alloc_eq_grow, alloc_eq_grow, grow_grow]; rfl
  have hr : Hid (ordP (a1, a2) (b1, b2) = cmpS a1 b1) := rfl
  generalize ordP (a1, a2) (b1, b2) = r at *
  generalize cmpS a1 b1 = r2 at *
  go_enter Try.func30, Try.ntmps30
  go_wp2_with (go_at_call 31; (with_reducible refine (H1.out _).mono ?_); rintro e w' ⟨rfl, rfl⟩)
  go_ret
  exact ⟨ret_int hr.out.symm, 0, _, HX.out⟩
def encP (s : Spn) : List Value := [.int .i64 s.1, .int .i64 s.2]
theorem ordP_lt (x y : Spn) : ltOf ordP x y = decide (x.1 < y.1) := by
  unfold ltOf
  rw [Bool.eq_iff_iff, decide_eq_true_eq, decide_eq_true_eq]
  unfold ordP cmpS
  by_cases h1 : x.1 < y.1
  · rw [if_pos h1]; omega
  · rw [if_neg h1]
    by_cases h2 : y.1 < x.1
    · rw [if_pos h2]; omega
    · rw [if_neg h2]; omega
theorem swoP : SWO (ltOf ordP) where
  irrefl x := by rw [ordP_lt]; simp
  trans x y z h1 h2 := by rw [ordP_lt] at *; rw [decide_eq_true_eq] at *; omega
  ntrans x y z h1 h2 := by rw [ordP_lt] at *; rw [decide_eq_false_iff_not] at *; omega
theorem flat_sv13 (l : List Spn) : (flatK encP 2 l.toArray).toList = sv l := by
  apply List.ext_getElem?
  intro t
  by_cases h : t < l.length * 2
  · have h2 : t / 2 < l.length := by omega
    have hg := get_flatK encP 2 l.toArray t (by simpa using h)
    have hs : t < (flatK encP 2 l.toArray).size := by simpa using h
    rw [Array.getElem?_toList, Array.getElem?_eq_getElem hs]
    rw [getElem!_pos _ t hs] at hg
    rw [hg, show l.toArray[t / 2]! = l[t / 2] by simp [h2]]
    obtain ⟨s1, s2⟩ := sv_at (List.getElem?_eq_getElem h2)
    by_cases hm : t % 2 = 0
    · have e : t / 2 * 2 = t := by omega
      rw [e] at s1
      rw [hm, s1]; simp [encP]
    · have e : t / 2 * 2 + 1 = t := by omega
      rw [e] at s2
      rw [show t % 2 = 1 by omega, s2]; simp [encP]
  · rw [Array.getElem?_toList, Array.getElem?_eq_none (by simp; omega), List.getElem?_eq_none (by rw [sv_len]; omega)]
/-- Spans whose starts rise. -/
def InP (l : List Spn) : Prop := l.Pairwise fun a b => a.1 ≤ b.1
theorem sort13_any (l : List Spn) (base : Nat) (v : Value) (w : World) (h : w.ownsRow base 26 2 v l.length (sv l)) (hl : l.length ≤ 1000000) :
    Calls Try.prog 29 #[v, .func (.func 30) #[] #[]] w fun e w' => e = .returned (.tuple #[]) ∧ (∃ T, T.Perm l ∧ InP T ∧ w'.ownsRow base 26 2 v l.length (sv T)) ∧ Off (fun b => v.ownBlock = some b) w w' := by
  have h0 := h
  obtain ⟨hlen, ⟨rfl, hn⟩ | ⟨g, cap, cur, rfl, hb, hc, h1, h2, h3, h4⟩⟩ := h
  · have hcon := AnyF.slices_SortFunc_none Try.sortSpan none 0 (.func (.func 30) #[] #[]) w
    change Calls Try.prog 29 _ _ _ at hcon
    obtain rfl : l = [] := List.length_eq_zero_iff.1 hn
    refine hcon.mono ?_
    rintro e w' ⟨rfl, rfl⟩
    exact ⟨rfl, ⟨[], List.Perm.refl _, List.Pairwise.nil, h0⟩, Off.refl _ _⟩
  · have eg : ∀ args w, (callFunc 30 args).run Try.prog w = .ok (.enter 30 args) w := enters_of Try.func30 (by kernel_rfl) rfl
    have hcmp : CmpLays Try.prog 30 #[] encP 2 ordP g 0 l.toArray.size w := fun _ _ _ _ x y => orderP_any x.1 x.2 y.1 y.2 _
    have hH : HoldsK encP 2 w g 0 l.toArray := by
      intro j hj
      rw [size_flatK] at hj
      have hj2 : j < l.length * 2 := by simpa using hj
      have hs : j < (flatK encP 2 l.toArray).size := by simpa using hj
      have e1 : (sv l)[j]? = some ((flatK encP 2 l.toArray)[j]!) := by
        rw [← flat_sv13, Array.getElem?_toList, Array.getElem?_eq_getElem hs, getElem!_pos _ j hs]
      rw [← h4, List.getElem?_take_of_lt hj2, Array.getElem?_toList] at e1
      exact ⟨by simp only [World.cell?, hc, Nat.zero_add]; simpa using e1, by simp [World.frozen?, hc]⟩
    have hcon := AnyQ.slices_SortFunc Try.sortSpan 2 Try.isAgg26 Try.sizeOf26 encP (fun _ => rfl) (fun x v hv => by simp [encP] at hv; rcases hv with rfl | rfl <;> rfl) ordP swoP 30 #[] g 0 cap l.toArray w eg hcmp hH (heap_lt hc) (by simp; omega)
    change Calls Try.prog 29 _ _ _ at hcon
    rw [show l.toArray.size = l.length by simp] at hcon
    refine hcon.mono ?_
    rintro e w' ⟨rfl, d', n, os, hp, hs, rfl⟩
    obtain ⟨hp1, _, hp2⟩ := hp
    have hd : d'.size = l.length := by simpa using hp1
    have hperm : d'.toList.Perm l := by
      have q1 : d'.extract 0 l.length = d' := by rw [← hd]; simp
      have q2 : (l.toArray.extract 0 l.length) = l.toArray := by
        rw [show l.length = l.toArray.size by simp]; simp
      rw [q1, q2] at hp2
      simpa using hp2
    have hord : InP d'.toList := by
      refine List.pairwise_iff_getElem.2 fun i j hi hj hij => ?_
      have hi' : i < d'.size := by simpa using hi
      have hj' : j < d'.size := by simpa using hj
      have := hs i j (Nat.zero_le _) hij (by omega)
      rw [ordP_lt, decide_eq_false_iff_not, getElem!_pos d' i hi', getElem!_pos d' j hj'] at this
      have : d'[i].1 ≤ d'[j].1 := by omega
      simpa using this
    have hfl : (flatK encP 2 d').toList = sv d'.toList := by have := flat_sv13 d'.toList; simpa using this
    have hdl : d'.toList.length = l.length := by simpa using hd
    refine ⟨rfl, ⟨d'.toList, hperm, hord, ⟨by rw [sv_len, hdl], .inr ⟨g, cap, _, rfl, hb, heap_put id (flatK encP 2 d') hc, h1, h2, by simp [putCells, h3], ?_⟩⟩⟩, ?_⟩
    · have := take_put id cur (flatK encP 2 d').toList (by rw [hfl, sv_len, hdl]; omega)
      rw [show (flatK encP 2 d').toList.length = l.length * 2 by rw [hfl, sv_len, hdl], List.map_id] at this
      rw [← hfl, ← this]
    · have := off_put id (w := w) (g := g) (n := n) (os := os) (flatK encP 2 d')
      exact this.mono fun b _ hbg => by rw [hbg]; rfl
end Go.Proofs.Ytibnbpiachdmdaa
end
/- Contracts of the program's rows of spans: a copy of a row; spans left out of a row of one's own. -/
section
namespace Go.Proofs.Ytibnbpiachdmdaa
open Go.ChangeShapes Go.WideShapes Go.ChangeAt Go.RowKit Go.Joins Sp
set_option maxHeartbeats 1000000 in
theorem pclone13_any (l : List Spn) (A : Option Addr) (c : Nat) (hl : l.length ≤ 1000000) (w : World) (hs : Sl w A l.length c (sv l)) :
    Calls Try.prog 27 #[.slice A l.length c] w fun e w' => (∃ v, e = .returned v ∧ w'.ownsRow w.heap.size 26 2 v l.length (sv l)) ∧ Below w.heap.size w w' := by
  have hnil : ∀ (w' : World) (A' : Option Addr) (n' c' : Nat), (binOp .eql 22 (.slice A' n' c') (.slice none 0 0)).run Try.prog w' = .ok (.bool A'.isNone) w' := fun w' A' n' c' => Lib.run_eql_slice_nil w' 22 26 A' n' c' 0 0 Try.underlying22
  cases A with
  | none =>
    have h0 : l = [] := List.eq_nil_of_length_eq_zero (by have := hs.nil rfl; have := hs.le; omega)
    subst h0
    go_enter Try.func27, Try.ntmps27
    go_wp2
    go_ret
    exact ⟨⟨_, rfl, rfl, .inl ⟨rfl, rfl⟩⟩, Below.refl _ _⟩
  | some a =>
    have H := Lib.hid hs
    clear hs
    obtain ⟨i0, hi0, hq0, hq1, hq2⟩ := info_parts span_info
    have h1 := Lib.hid (sv_one (l := l))
    have hmx : 0 + l.length ≤ maxLen := by unfold maxLen; omega
    go_enter Try.func27, Try.ntmps27
    go_wp2_with (refine wpList_append_sl rfl _ _ _ (by rfl) w.heap.size 26 i0 _ 2 16 Try.underlying22 hi0 hq0 hq1 hq2 rfl (by decide) (.slice (some ⟨w.heap.size, 0, none⟩) 0 0) 0 [] (by rfl) (World.ownsRow_made (base := w.heap.size) w #[] 0 (Nat.le_refl _) (by decide) rfl) (some a) l.length c (sv l) (by rfl) (H.out.alloc _) (sv_len l) h1.out hmx (by omega) (by simp) ?_; intro v' w' hown hgr)
    rw [Nat.zero_add] at hown
    go_ret
    refine ⟨⟨_, rfl, by simpa using hown⟩, ?_⟩
    exact ⟨hgr.os, hgr.tape, hgr.output, by have := hgr.size; simp at this; omega, fun k hk => by rw [hgr.block k (by simp; omega) (by simp [Value.ownBlock]; omega)]; exact Below.heap_alloc _ _ _ hk⟩
/-- Cells of a block put anew: what stands ahead of them stays. -/
theorem set_cells {g : Nat} {t : TypeId} : ∀ (vs : List Value) (o : Nat) (cur : Array Value) (w : World), w.heap[g]? = some (.cells cur t (0, 0)) →
    ∃ cur', (w.setCells g o vs).heap[g]? = some (.cells cur' t (0, 0)) ∧ cur'.size = cur.size ∧ (∀ k, k < o → cur'[k]? = cur[k]?) ∧ Off (fun b => b = g) w (w.setCells g o vs)
  | [], o, cur, w, h => ⟨cur, h, rfl, fun _ _ => rfl, Off.refl _ _⟩
  | v :: vs, o, cur, w, h => by
    obtain ⟨cur', h1, h2, h3, h4⟩ := set_cells vs (o + 1) _ (w.setCell ⟨g, o, none⟩ v) (block_setCell h v)
    refine ⟨cur', h1, by rw [h2]; simp, fun k hk => ?_, ?_⟩
    · rw [h3 k (by omega)]
      simp [show o ≠ k by omega]
    · exact ((Off.refl (fun b => b = g) w).setCell (.inl rfl) v).trans' h4
theorem clear13 (w : World) (g o n c : Nat) (cur : Array Value) (t : TypeId) (h : w.heap[g]? = some (.cells cur t (0, 0))) (hn : 0 < n) (ho : o + n * 2 ≤ cur.size) :
    ∃ vs, ∀ ty, (Builtin.clear_ #[22] ty #[.slice (some ⟨g, o, none⟩) n c]).run Try.prog w = .ok (.tuple #[]) (w.setCells g o vs) := by
  have hl : (Builtin.zeroCells #[.int .i64 0, .int .i64 0] n).toList.length = n * 2 := by simp [Builtin.zeroCells]
  have h1 : ∀ v ∈ (Builtin.zeroCells #[.int .i64 0, .int .i64 0] n).toList, v.oneCell' = true := by
    intro v hv
    simp only [Builtin.zeroCells, Array.toList_map, List.mem_map] at hv
    obtain ⟨i, _, rfl⟩ := hv
    have : i % 2 = 0 ∨ i % 2 = 1 := by omega
    rcases this with e | e <;> simp [e] <;> rfl
  have hst := run_storeCells_cells (P := Try.prog) g o (Builtin.zeroCells #[.int .i64 0, .int .i64 0] n).toList 0 w (fun j hj => by
      rw [hl] at hj
      simp only [World.cell?, h]
      simp; omega) (fun j _ => blk_free h _) h1
  simp only [Nat.add_zero] at hst
  refine ⟨(Builtin.zeroCells #[.int .i64 0, .int .i64 0] n).toList, fun ty => ?_⟩
  obtain ⟨m, rfl⟩ : ∃ m, n = m + 1 := ⟨n - 1, by omega⟩
  simp [Builtin.clear_, run_underlying Try.underlying22, Value.cells, hst]
theorem sv_take13 (l : List Spn) {k : Nat} (hk : k ≤ l.length) : sv (l.take k) = (sv l).take (k * 2) := by
  have e : sv l = sv (l.take k) ++ sv (l.drop k) := by rw [← sv_app, List.take_append_drop]
  have hl : (sv (l.take k)).length = k * 2 := by rw [sv_len, List.length_take]; omega
  rw [e, ← hl, List.take_left]
/-- Spans are left out of a row, one by one: those ahead of j that are kept stand in front; those from j on as they stood. -/
structure Del (w wr : World) (g cap : Nat) (l : List Spn) (p : Spn → Bool) (i j : Nat) : Prop where
  off : Off (fun b => b = g) w wr
  cnt : i = ((l.take j).filter fun s => !p s).length
  le : i < j
  jl : j ≤ l.length
  blk : ∃ cur, wr.heap[g]? = some (.cells cur 26 (0, 0)) ∧ cur.size = cap * 2 ∧ cur.toList.take (i * 2) = sv ((l.take j).filter fun s => !p s) ∧ (∀ k s, j ≤ k → l[k]? = some s → cur[k * 2]? = some (.int .i64 s.1) ∧ cur[k * 2 + 1]? = some (.int .i64 s.2))
section
variable {w wr w' : World} {g cap i j : Nat} {l : List Spn} {p : Spn → Bool}
theorem Del.below (d : Del w wr g cap l p i j) (hg : g < wr.heap.size) (hb : Below wr.heap.size wr w') : Del w w' g cap l p i j := by
  obtain ⟨cur, h1, h2⟩ := d.blk
  exact ⟨d.off.trans' (.of_below hb), d.cnt, d.le, d.jl, cur, by rw [hb.block g hg]; exact h1, h2⟩
theorem Del.skip (d : Del w wr g cap l p i j) {s : Spn} (hs : l[j]? = some s) (hp : p s = true) : Del w wr g cap l p i (j + 1) := by
  have e : (l.take (j + 1)).filter (fun s => !p s) = (l.take j).filter fun s => !p s := by rw [List.take_add_one, hs, List.filter_append]; simp [hp]
  obtain ⟨cur, h1, h2, h3, h4⟩ := d.blk
  exact ⟨d.off, by rw [e]; exact d.cnt, by have := d.le; omega, (List.getElem?_eq_some_iff.1 hs).1, cur, h1, h2, by rw [e]; exact h3, fun k u hk hu => h4 k u (by omega) hu⟩
theorem Del.keep (d : Del w wr g cap l p i j) (hc : l.length ≤ cap) {s : Spn} (hs : l[j]? = some s) (hp : p s = false) : Del w ((wr.setCell ⟨g, i * 2, none⟩ (.int .i64 s.1)).setCell ⟨g, i * 2 + 1, none⟩ (.int .i64 s.2)) g cap l p (i + 1) (j + 1) := by
  have e : (l.take (j + 1)).filter (fun s => !p s) = ((l.take j).filter fun s => !p s) ++ [s] := by rw [List.take_add_one, hs, List.filter_append]; simp [hp]
  obtain ⟨cur, h1, h2, h3, h4⟩ := d.blk
  have hj := (List.getElem?_eq_some_iff.1 hs).1
  have hij := d.le
  refine ⟨(d.off.setCell (.inl rfl) _).setCell (.inl rfl) _, by rw [e, List.length_append, ← d.cnt]; rfl, by omega, hj, (cur.setIfInBounds (i * 2) (.int .i64 s.1)).setIfInBounds (i * 2 + 1) (.int .i64 s.2), block_setCell (block_setCell h1 _) _, by simpa using h2, ?_, fun k u hk hu => ?_⟩
  · rw [e, sv_app, ← h3]
    apply List.ext_getElem?
    intro t
    rw [List.getElem?_take, Array.getElem?_toList, Array.getElem?_setIfInBounds, Array.getElem?_setIfInBounds]
    by_cases ht : t < i * 2
    · rw [if_pos (by omega), if_neg (by omega), if_neg (by omega), List.getElem?_append_left (by simp; omega), List.getElem?_take_of_lt ht, Array.getElem?_toList]
    · have hlen : (cur.toList.take (i * 2)).length = i * 2 := by simp; omega
      rw [List.getElem?_append_right (by omega), hlen]
      by_cases t0 : t = i * 2
      · subst t0
        rw [if_pos (by omega), if_neg (by omega), if_pos rfl, if_pos (by omega)]; simp [sv]
      · by_cases t1 : t = i * 2 + 1
        · subst t1
          rw [if_pos (by omega), if_pos rfl, if_pos (by simp; omega)]; simp [sv]
        · rw [if_neg (by omega), List.getElem?_eq_none (by simp [sv]; omega)]
  · obtain ⟨q1, q2⟩ := h4 k u (by omega) hu
    rw [Array.getElem?_setIfInBounds, Array.getElem?_setIfInBounds, Array.getElem?_setIfInBounds, Array.getElem?_setIfInBounds, if_neg (by omega), if_neg (by omega), if_neg (by omega), if_neg (by omega)]
    exact ⟨q1, q2⟩
theorem Del.start {cur : Array Value} (h : w.heap[g]? = some (.cells cur 26 (0, 0))) (hs : cur.size = cap * 2) (ht : cur.toList.take (l.length * 2) = sv l) {k : Nat} (hk : k < l.length) (h1 : ∀ s, l[k]? = some s → p s = true) (h2 : ∀ s ∈ l.take k, p s = false) : Del w w g cap l p k (k + 1) := by
  obtain ⟨s, hs0⟩ : ∃ s, l[k]? = some s := ⟨_, List.getElem?_eq_getElem hk⟩
  have e : (l.take (k + 1)).filter (fun s => !p s) = l.take k := by
    rw [List.take_add_one, hs0, List.filter_append, List.filter_eq_self.2 (fun u hu => by simp [h2 u hu])]
    simp [h1 s hs0]
  refine ⟨Off.refl _ _, by rw [e, List.length_take]; omega, by omega, hk, cur, h, hs, ?_, fun m u hm hu => ?_⟩
  · rw [e, sv_take13 l (by omega), ← ht, List.take_take, show min (k * 2) (l.length * 2) = k * 2 by omega]
  · have hm2 := (List.getElem?_eq_some_iff.1 hu).1
    obtain ⟨q1, q2⟩ := sv_at hu
    rw [← ht, List.getElem?_take_of_lt (by omega), Array.getElem?_toList] at q1 q2
    exact ⟨q1, q2⟩
theorem Del.last (d : Del w wr g cap l p i l.length) (hc : l.length ≤ cap) (hm : cap ≤ maxLen) (o : Nat) (vs : List Value) (ho : o = i * 2) {base : Nat} (hb : base ≤ g) :
    (wr.setCells g o vs).ownsRow base 26 2 (.slice (some ⟨g, 0, none⟩) (l.filter fun s => !p s).length cap) (l.filter fun s => !p s).length (sv (l.filter fun s => !p s)) ∧ Off (fun b => b = g) w (wr.setCells g o vs) := by
  obtain ⟨cur, h1, h2, h3, _⟩ := d.blk
  have hcnt := d.cnt
  have hle := d.le
  rw [List.take_length] at h3 hcnt
  obtain ⟨cur', k1, k2, k3, k4⟩ := set_cells vs o cur wr h1
  refine ⟨own_mk (by rw [sv_len]) hb k1 (by omega) hm (by rw [k2]; exact h2) ?_, d.off.trans' k4⟩
  rw [← hcnt, ← h3]
  apply List.ext_getElem?
  intro t
  rw [List.getElem?_take, List.getElem?_take]
  split
  · rw [Array.getElem?_toList, Array.getElem?_toList, k3 t (by omega)]
  · rfl
end
set_option maxRecDepth 100000 in
set_option maxHeartbeats 2000000 in
theorem pdel13_any (l : List Spn) (base : Nat) (v : Value) (w : World) (hown : w.ownsRow base 26 2 v l.length (sv l)) (hl : l.length ≤ 1000000) :
    Calls Try.prog 26 #[v, .func (.func 28) #[] #[]] w fun e w' =>
      ∃ v', e = .returned v' ∧ w'.ownsRow base 26 2 v' (l.filter fun s => !decide (s.2 ≤ s.1)).length (sv (l.filter fun s => !decide (s.2 ≤ s.1))) ∧ (∀ b, v'.ownBlock = some b → v.ownBlock = some b) ∧ Off (fun b => v.ownBlock = some b) w w' := by
  obtain ⟨p, hp⟩ : ∃ p : Spn → Bool, p = fun s => decide (s.2 ≤ s.1) := ⟨_, rfl⟩
  have hf : ∀ (s : Spn) (w : World), Calls Try.prog 28 (#[.agg #[.int .i64 s.1, .int .i64 s.2]] ++ #[]) w fun e w' => e = .returned (.bool (p s)) ∧ Below w.heap.size w w' := by
    intro s w
    rw [hp]
    exact delC_any s w
  rw [show (l.filter fun s => !decide (s.2 ≤ s.1)) = l.filter fun s => !p s by rw [hp]]
  clear hp
  obtain ⟨A, c, rfl, hsl⟩ := Sl.of_own hown
  have HI := Lib.hid (pindexD_any #[] p l A c w hsl (fun g s _ => hf s g.val))
  have HF := Lib.hid hf
  clear hf
  rcases fstS_ways p l 0 with ⟨e1, hall⟩ | ⟨k, hk, e1, ht, hall⟩
  · have hfil : (l.filter fun s => !p s) = l := List.filter_eq_self.2 fun s hs => by simp [hall s hs]
    rw [hfil]
    rw [e1] at HI
    have HO := Lib.hid hown
    clear hown hsl hall hfil e1
    go_enter Try.func26, Try.ntmps26
    go_wp2_with fail
    go_at_call 34
    refine HI.out.mono ?_
    rintro e w' ⟨rfl, hb⟩
    obtain ⟨G, rfl⟩ := Gr.of hb
    clear hb
    go_wp2_with fail
    go_ret
    exact ⟨_, rfl, own_off HO.out (F := fun _ => False) (.of_below G.ok) (fun _ _ => id), fun b hb => hb, .of_below G.ok⟩
  · rw [e1] at HI
    have hlpos : 0 < l.length := by omega
    obtain ⟨g, cap, e2, hg1, hg2⟩ := hown.form hlpos
    simp only [Value.slice.injEq, true_and] at e2
    obtain ⟨rfl, rfl⟩ := e2
    obtain ⟨cur, hblk, hn, hm, hs, htk, _⟩ := own_block hown
    have HD0 : Hid (∀ G : Gr w, Del G.val G.val g c l p k (k + 1)) := fun G => Del.start (by rw [G.ok.block g hg2]; exact hblk) hs htk hk ht hall
    have HG1 := Lib.hid hg1
    have hk1 : ((k : Int) == -1) = false := beq_eq_false_iff_ne.2 (by omega)
    rw [Nat.zero_add] at HI
    have hkz : (k : Int) < l.length := by omega
    have hlz : (l.length : Int) ≤ 1000000 := by omega
    have HN := Lib.hid (And.intro hn hm)
    clear hown hsl hblk hs htk ht hall e1 hg1 hn
    go_enter Try.func26, Try.ntmps26
    go_wp2_with fail
    go_at_call 34
    refine HI.out.mono ?_
    rintro e w' ⟨rfl, hb⟩
    obtain ⟨G, rfl⟩ := Gr.of hb
    clear hb
    have hgG : g < G.val.heap.size := Nat.lt_of_lt_of_le hg2 G.size
    have HD1 := Lib.hid (HD0.out G)
    clear HD0
    go_wp2_with fail
    go_loopw [5, 6] (fun s5 s6 wr => ∃ (i j : Nat), s5 = .int .i64 i ∧ s6 = .int .i64 j ∧ j ≤ l.length ∧ i < j ∧ g < wr.heap.size ∧ Hid (Del G.val wr g c l p i j)) (fun _ s6 _ => l.length - (intOf s6).toNat)
    case atStart => exact ⟨k, k + 1, rfl, by go_num, by omega, by omega, hgG, HD1.out⟩
    case round =>
      obtain ⟨i, j, rfl, rfl, hj, hij, hgw, HD⟩ := hrel
      have hiz : (i : Int) < j := by omega
      have hjz : (j : Int) ≤ l.length := by omega
      by_cases hlt : j < l.length
      · have hltz : (j : Int) < l.length := by omega
        have hizl : (i : Int) < l.length := by omega
        obtain ⟨⟨s1, s2⟩, hs⟩ : ∃ s, l[j]? = some s := ⟨_, List.getElem?_eq_getElem hlt⟩
        obtain ⟨cur2, b1, b2, b3, b4⟩ := HD.out.blk
        obtain ⟨c1, c2⟩ := b4 j _ (Nat.le_refl _) hs
        have hic : i * 2 + 1 < cur2.size := by have := HN.out.1; omega
        obtain ⟨u0, hu0⟩ : ∃ u, cur2[i * 2]? = some u := ⟨_, Array.getElem?_eq_getElem (by omega)⟩
        obtain ⟨u1, hu1⟩ : ∃ u, cur2[i * 2 + 1]? = some u := ⟨_, Array.getElem?_eq_getElem (by omega)⟩
        have p1 := blk_cell b1 c1
        have p2 := blk_cell b1 c2
        have HK : Hid (∀ W : World, Below wr.heap.size wr W → W.cell? ⟨g, i * 2, none⟩ = some u0 ∧ W.cell? ⟨g, i * 2 + 1, none⟩ = some u1 ∧ ∀ t, W.frozen? ⟨g, t, none⟩ = false) := fun W hW =>
          ⟨cell_old (blk_cell b1 hu0) hW, cell_old (blk_cell b1 hu1) hW, fun t => unfrozen_of_block (by rw [hW.block g hgw]; exact b1) t⟩
        have HS := Lib.hid hs
        obtain ⟨F0, F1⟩ := Gr.lay2 wr (.int .i64 s1) (.int .i64 s2) 26
        have HC := Lib.hid (fun w => HF.out (s1, s2) w)
        have hv : ∃ b, p (s1, s2) = b := ⟨_, rfl⟩
        obtain ⟨b, hb⟩ := hv
        have HP := Lib.hid hb
        simp only [hb] at HC
        clear hs b1 b2 b3 b4 c1 c2 hic hu0 hu1 hb
        go_wp2_with fail
        go_at_call 28
        refine (HC.out _).mono ?_
        rintro e w' ⟨rfl, hb⟩
        obtain ⟨G2, rfl⟩ := Gr.of hb
        have hbw : Below wr.heap.size wr G2.val := G2.below1
        obtain ⟨q1, q2, q3⟩ := HK.out G2.val hbw
        have HB := Lib.hid hbw
        clear hb hbw
        cases b with
        | false =>
          go_wp2_with fail
          go_roundw
          case rel => exact ⟨i + 1, j + 1, by go_num, by go_num, by omega, by omega, by have := HB.out.size; simp [World.setCell]; omega, (HD.out.below hgw HB.out).keep HN.out.1 HS.out HP.out⟩
          case measure => simp [intOf]; omega
        | true =>
          go_wp2_with fail
          go_roundw
          case rel => exact ⟨i, j + 1, rfl, by go_num, by omega, by omega, Nat.lt_of_lt_of_le hgw HB.out.size, (HD.out.below hgw HB.out).skip HS.out HP.out⟩
          case measure => simp [intOf]; omega
      · obtain rfl : j = l.length := by omega
        have hltz : ¬ (l.length : Int) < l.length := by omega
        have hil : i < l.length := hij
        obtain ⟨cur2, b1, b2, b3, b4⟩ := HD.out.blk
        have hnc := HN.out.1
        obtain ⟨vs, hcl⟩ := clear13 wr g (i * 2) (l.length - i) (c - i) cur2 _ b1 (by omega) (by omega)
        have hsz : ∀ w' : World, (sizeOf (Try.prog.elem 22)).run Try.prog w' = .ok 2 w' := fun w' => by kernel_rfl
        have hlo : ∀ w' : World, (Instr.sliceAt 22 (.slice (some ⟨g, 0, none⟩) l.length c) (some (.int .i64 i)) none none).run Try.prog w' = .ok (.slice (some ⟨g, i * 2, none⟩) (l.length - i) (c - i)) w' := fun w' => by
          rw [run_sliceAt_slice w' 22 _ _ _ _ Try.underlying22, run_slice_l w' 22 _ l.length c Try.underlying22 .i64 i (by omega) (by omega), hsz]
          have : ¬ c = i := by omega
          simp [Result.andThen, sliced, this, Addr.add]
          omega
        have hhi : ∀ w' : World, (Instr.sliceAt 22 (.slice (some ⟨g, 0, none⟩) l.length c) none (some (.int .i64 i)) none).run Try.prog w' = .ok (.slice (some ⟨g, 0, none⟩) i c) w' := fun w' => by
          rw [run_sliceAt_slice w' 22 _ _ _ _ Try.underlying22, run_slice_h w' 22 _ l.length c Try.underlying22 .i64 i (by omega) (by omega), hsz]
          simp [Result.andThen, sliced, Addr.add]
        have HL := Lib.hid (HD.out.last hnc HN.out.2 (i * 2) vs rfl HG1.out)
        have HCN := Lib.hid HD.out.cnt
        clear b1 b2 b3 b4 hsz
        go_wp2_with fail
        go_ret
        have hc2 := HCN.out
        rw [List.take_length] at hc2
        have h1 := HL.out.1
        have h2 : Off (fun b => b = g) w (wr.setCells g (i * 2) vs) := (Off.of_below G.ok).trans' HL.out.2
        refine ⟨_, rfl, ?_, fun b hb => hb, h2.mono fun b _ hb => congrArg some hb.symm⟩
        show World.ownsRow _ _ _ _ (.slice (some ⟨g, 0, none⟩) i c) _ _
        rw [← hc2] at h1 ⊢
        exact h1
end Go.Proofs.Ytibnbpiachdmdaa
end
