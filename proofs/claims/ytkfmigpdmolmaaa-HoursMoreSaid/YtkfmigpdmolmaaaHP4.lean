/- Contracts of the program's hours: a copy of a row of shifts; shifts put in order by the library's sort. -/
import Derived.Test.YtkfmigpdmolmaaaHP3
import Derived.Test.YtkfmigpdmolmaaaRR
import Derived.Test.YtkfmigpdmolmaaaShelf
import Derived.Shelf.SlSortCmp.WholeK
import Derived.Shelf.SlSortCmp.NoneTotal
namespace Go.Proofs.Ytkfmigpdmolmaaa
open Go.ChangeShapes Go.WideShapes Go.ChangeAt Go.RowKit Go.Joins Go.Sort Hr Zn

theorem tv_one {l : List (Int × Int × Int)} : ∀ u ∈ tv l, u.oneCell' = true := by
  induction l with
  | nil => intro u hu; cases hu
  | cons s r ih =>
    intro u hu
    simp only [tv, List.mem_cons] at hu
    rcases hu with rfl | rfl | rfl | hu
    · rfl
    · rfl
    · rfl
    · exact ih u hu
theorem shift_info : (Try.prog.info? 44).map (fun i => (i.zero, i.size, i.bytes)) = some (some (.agg #[.int .i64 0, .int .i64 0, .int .i64 0]), 3, 24) := by kernel_rfl
set_option maxHeartbeats 1000000 in
theorem pcloneT_any (l : List (Int × Int × Int)) (A : Option Addr) (c : Nat) (hl : l.length ≤ 10000) (w : World) (hs : Sl w A l.length c (tv l)) :
    Calls Try.prog 23 #[.slice A l.length c] w fun e w' => (∃ v, e = .returned v ∧ w'.ownsRow w.heap.size 44 3 v l.length (tv l)) ∧ Below w.heap.size w w' := by
  have hnil : ∀ (w' : World) (A' : Option Addr) (n' c' : Nat), (binOp .eql 25 (.slice A' n' c') (.slice none 0 0)).run Try.prog w' = .ok (.bool A'.isNone) w' := fun w' A' n' c' => Lib.run_eql_slice_nil w' 25 44 A' n' c' 0 0 Try.underlying25
  cases A with
  | none =>
    have h0 : l = [] := List.eq_nil_of_length_eq_zero (by have := hs.nil rfl; have := hs.le; omega)
    subst h0
    go_enter Try.func23, Try.ntmps23
    go_wp2
    go_ret
    exact ⟨⟨_, rfl, rfl, .inl ⟨rfl, rfl⟩⟩, Below.refl _ _⟩
  | some a =>
    have H := Lib.hid hs
    clear hs
    obtain ⟨i0, hi0, hq0, hq1, hq2⟩ := info_parts shift_info
    have h1 := Lib.hid (tv_one (l := l))
    have hmx : 0 + l.length ≤ maxLen := by unfold maxLen; omega
    go_enter Try.func23, Try.ntmps23
    go_wp2_with (refine wpList_append_sl rfl _ _ _ (by rfl) w.heap.size 44 i0 _ 3 24 Try.underlying25 hi0 hq0 hq1 hq2 rfl (by decide) (.slice (some ⟨w.heap.size, 0, none⟩) 0 0) 0 [] (by rfl) (World.ownsRow_made (base := w.heap.size) w #[] 0 (Nat.le_refl _) (by decide) rfl) (some a) l.length c (tv l) (by rfl) (H.out.alloc _) (tv_len l) h1.out hmx (by omega) (by simp) ?_; intro v' w' hown hgr)
    rw [Nat.zero_add] at hown
    go_ret
    refine ⟨⟨_, rfl, by simpa using hown⟩, ?_⟩
    exact ⟨hgr.os, hgr.tape, hgr.output, by have := hgr.size; simp at this; omega, fun k hk => by rw [hgr.block k (by simp; omega) (by simp [Value.ownBlock]; omega)]; exact Below.heap_alloc _ _ _ hk⟩

theorem isNaN_any (x : Int) (w : World) : Calls Try.prog 43 #[.int .i64 x] w fun e w' => e = .returned (.bool false) ∧ w = w' := by
  go_enter Try.func43, Try.ntmps43
  go_wp2
  go_ret
  exact ⟨by simp, rfl⟩
def cmpN (x y : Int) : Int := if x < y then -1 else if y < x then 1 else 0
theorem cmpN_any (x y : Int) (w : World) : Calls Try.prog 26 #[.int .i64 x, .int .i64 y] w fun e w' => e = .returned (.int .i64 (cmpN x y)) ∧ w = w' := by
  have H1 := Lib.hid (fun w => isNaN_any x w)
  have H2 := Lib.hid (fun w => isNaN_any y w)
  obtain ⟨r, hr⟩ : ∃ r, cmpN x y = r := ⟨_, rfl⟩
  rw [hr]
  unfold cmpN at hr
  have hways : decide (x < y) = true ∧ r = -1 ∨ decide (x < y) = false ∧ decide (y < x) = true ∧ r = 1 ∨ decide (x < y) = false ∧ decide (y < x) = false ∧ r = 0 := by
    by_cases h1 : x < y
    · exact .inl ⟨decide_eq_true h1, by rw [← hr, if_pos h1]⟩
    · by_cases h2 : y < x
      · exact .inr (.inl ⟨decide_eq_false h1, decide_eq_true h2, by rw [← hr, if_neg h1, if_pos h2]⟩)
      · exact .inr (.inr ⟨decide_eq_false h1, decide_eq_false h2, by rw [← hr, if_neg h1, if_neg h2]⟩)
  clear hr
  rcases hways with ⟨h1, rfl⟩ | ⟨h1, h2, rfl⟩ | ⟨h1, h2, rfl⟩
  all_goals
    go_enter Try.func26, Try.ntmps26
    go_wp2_with (go_at_call 43; (first | (with_reducible refine (H1.out _).mono ?_) | (with_reducible refine (H2.out _).mono ?_)); rintro e w' ⟨rfl, rfl⟩)
    go_ret
    exact ⟨rfl, rfl⟩
/-- In which order two shifts stand. -/
def ordT (a b : Int × Int × Int) : Int := cmpN a.2.1 b.2.1
theorem orderT_any (a1 a2 a3 b1 b2 b3 : Int) (W : World) :
    Calls Try.prog 25 #[.agg #[.int .i64 a1, .int .i64 a2, .int .i64 a3], .agg #[.int .i64 b1, .int .i64 b2, .int .i64 b3]] W fun e w' => e = .returned (.int .i64 (ordT (a1, a2, a3) (b1, b2, b3))) ∧ ∃ q os', w' = grow (W.drewN q) os' := by
  have H1 := Lib.hid (fun w => cmpN_any a2 b2 w)
  have HX : Hid ((W.alloc (.cells #[.int .i64 a1, .int .i64 a2, .int .i64 a3] 44)).alloc (.cells #[.int .i64 b1, .int .i64 b2, .int .i64 b3] 44) = grow W #[.cells #[.int .i64 a1, .int .i64 a2, .int .i64 a3] 44, .cells #[.int .i64 b1, .int .i64 b2, .int .i64 b3] 44]) := by
    show _ = _
    rw [alloc_eq_grow, alloc_eq_grow, grow_grow]; rfl
  have hr : Hid (ordT (a1, a2, a3) (b1, b2, b3) = cmpN a2 b2) := rfl
  generalize ordT (a1, a2, a3) (b1, b2, b3) = r at *
  generalize cmpN a2 b2 = r2 at *
  go_enter Try.func25, Try.ntmps25
  go_wp2_with (go_at_call 26; (with_reducible refine (H1.out _).mono ?_); rintro e w' ⟨rfl, rfl⟩)
  go_ret
  exact ⟨ret_int hr.out.symm, 0, _, HX.out⟩
def encT (s : Int × Int × Int) : List Value := [.int .i64 s.1, .int .i64 s.2.1, .int .i64 s.2.2]
theorem ordT_lt (x y : Int × Int × Int) : ltOf ordT x y = decide (x.2.1 < y.2.1) := by
  unfold ltOf
  rw [Bool.eq_iff_iff, decide_eq_true_eq, decide_eq_true_eq]
  unfold ordT cmpN
  by_cases h1 : x.2.1 < y.2.1
  · rw [if_pos h1]; omega
  · rw [if_neg h1]
    by_cases h2 : y.2.1 < x.2.1
    · rw [if_pos h2]; omega
    · rw [if_neg h2]; omega
theorem swoT : SWO (ltOf ordT) where
  irrefl x := by rw [ordT_lt]; simp
  trans x y z h1 h2 := by rw [ordT_lt] at *; rw [decide_eq_true_eq] at *; omega
  ntrans x y z h1 h2 := by rw [ordT_lt] at *; rw [decide_eq_false_iff_not] at *; omega
theorem flat_tv (l : List (Int × Int × Int)) : (flatK encT 3 l.toArray).toList = tv l := by
  apply List.ext_getElem?
  intro t
  by_cases h : t < l.length * 3
  · have h2 : t / 3 < l.length := by omega
    have hg := get_flatK encT 3 l.toArray t (by simpa using h)
    have hs : t < (flatK encT 3 l.toArray).size := by simpa using h
    rw [Array.getElem?_toList, Array.getElem?_eq_getElem hs]
    rw [getElem!_pos _ t hs] at hg
    rw [hg, show l.toArray[t / 3]! = l[t / 3] by simp [h2]]
    obtain ⟨s1, s2, s3⟩ := tv_at (List.getElem?_eq_getElem h2)
    have hm3 : t % 3 = 0 ∨ t % 3 = 1 ∨ t % 3 = 2 := by omega
    rcases hm3 with hm | hm | hm
    · have e : t / 3 * 3 = t := by omega
      rw [e] at s1
      rw [hm, s1]; simp [encT]
    · have e : t / 3 * 3 + 1 = t := by omega
      rw [e] at s2
      rw [hm, s2]; simp [encT]
    · have e : t / 3 * 3 + 2 = t := by omega
      rw [e] at s3
      rw [hm, s3]; simp [encT]
  · rw [Array.getElem?_toList, Array.getElem?_eq_none (by simp; omega), List.getElem?_eq_none (by rw [tv_len]; omega)]
theorem sortT_any (l : List (Int × Int × Int)) (base : Nat) (v : Value) (w : World) (h : w.ownsRow base 44 3 v l.length (tv l)) (hl : l.length ≤ 1000000) :
    Calls Try.prog 24 #[v, .func (.func 25) #[] #[]] w fun e w' => e = .returned (.tuple #[]) ∧ (∃ T, T.Perm l ∧ InT T ∧ w'.ownsRow base 44 3 v l.length (tv T)) ∧ Off (fun b => v.ownBlock = some b) w w' := by
  have h0 := h
  obtain ⟨hlen, ⟨rfl, hn⟩ | ⟨g, cap, cur, rfl, hb, hc, h1, h2, h3, h4⟩⟩ := h
  · have hcon := AnyF.slices_SortFunc_none Try.sortShift none 0 (.func (.func 25) #[] #[]) w
    change Calls Try.prog 24 _ _ _ at hcon
    obtain rfl : l = [] := List.length_eq_zero_iff.1 hn
    refine hcon.mono ?_
    rintro e w' ⟨rfl, rfl⟩
    exact ⟨rfl, ⟨[], List.Perm.refl _, List.Pairwise.nil, h0⟩, Off.refl _ _⟩
  · have eg : ∀ args w, (callFunc 25 args).run Try.prog w = .ok (.enter 25 args) w := enters_of Try.func25 (by kernel_rfl) rfl
    have hcmp : CmpLays Try.prog 25 #[] encT 3 ordT g 0 l.toArray.size w := fun _ _ _ _ x y => orderT_any x.1 x.2.1 x.2.2 y.1 y.2.1 y.2.2 _
    have hH : HoldsK encT 3 w g 0 l.toArray := by
      intro j hj
      rw [size_flatK] at hj
      have hj2 : j < l.length * 3 := by simpa using hj
      have hs : j < (flatK encT 3 l.toArray).size := by simpa using hj
      have e1 : (tv l)[j]? = some ((flatK encT 3 l.toArray)[j]!) := by
        rw [← flat_tv, Array.getElem?_toList, Array.getElem?_eq_getElem hs, getElem!_pos _ j hs]
      rw [← h4, List.getElem?_take_of_lt hj2, Array.getElem?_toList] at e1
      exact ⟨by simp only [World.cell?, hc, Nat.zero_add]; simpa using e1, by simp [World.frozen?, hc]⟩
    have hcon := AnyQ.slices_SortFunc Try.sortShift 3 Try.isAgg44 Try.sizeOf44 encT (fun _ => rfl) (fun x v hv => by simp [encT] at hv; rcases hv with rfl | rfl | rfl <;> rfl) ordT swoT 25 #[] g 0 cap l.toArray w eg hcmp hH (heap_lt hc) (by simp; omega)
    change Calls Try.prog 24 _ _ _ at hcon
    rw [show l.toArray.size = l.length by simp] at hcon
    refine hcon.mono ?_
    rintro e w' ⟨rfl, d', n, os, hp, hs, rfl⟩
    obtain ⟨hp1, _, hp2⟩ := hp
    have hd : d'.size = l.length := by simpa using hp1
    have hperm : d'.toList.Perm l := by
      have q1 : d'.extract 0 l.length = d' := by rw [← hd]; simp
      have q2 : (l.toArray.extract 0 l.length) = l.toArray := by
        rw [show l.length = l.toArray.size by simp]; simp
      rw [q1, q2] at hp2
      simpa using hp2
    have hord : InT d'.toList := by
      refine List.pairwise_iff_getElem.2 fun i j hi hj hij => ?_
      have hi' : i < d'.size := by simpa using hi
      have hj' : j < d'.size := by simpa using hj
      have := hs i j (Nat.zero_le _) hij (by omega)
      rw [ordT_lt, decide_eq_false_iff_not, getElem!_pos d' i hi', getElem!_pos d' j hj'] at this
      have : d'[i].2.1 ≤ d'[j].2.1 := by omega
      simpa using this
    have hfl : (flatK encT 3 d').toList = tv d'.toList := by have := flat_tv d'.toList; simpa using this
    have hdl : d'.toList.length = l.length := by simpa using hd
    refine ⟨rfl, ⟨d'.toList, hperm, hord, ⟨by rw [tv_len, hdl], .inr ⟨g, cap, _, rfl, hb, heap_put id (flatK encT 3 d') hc, h1, h2, by simp [putCells, h3], ?_⟩⟩⟩, ?_⟩
    · have := take_put id cur (flatK encT 3 d').toList (by rw [hfl, tv_len, hdl]; omega)
      rw [show (flatK encT 3 d').toList.length = l.length * 3 by rw [hfl, tv_len, hdl], List.map_id] at this
      rw [← hfl, ← this]
    · have := off_put id (w := w) (g := g) (n := n) (os := os) (flatK encT 3 d')
      exact this.mono fun b _ hbg => by rw [hbg]; rfl
end Go.Proofs.Ytkfmigpdmolmaaa
