/- Contracts of the program's rows of spans: a copy of a row; spans put in order by the library's sort. -/
import Derived.Test.YtdpgmhjhmccfnaaSP1
import Derived.Test.YtdpgmhjhmccfnaaRR
import Derived.Test.YtdpgmhjhmccfnaaShelf
import Derived.Shelf.SlSortCmp.WholeK
import Derived.Shelf.SlSortCmp.NoneTotal
namespace Go.Proofs.Ytdpgmhjhmccfnaa
open Go.ChangeShapes Go.WideShapes Go.ChangeAt Go.RowKit Go.Joins Go.Sort Sp

theorem isNaN13_any (x : Int) (w : World) : Calls Try.prog 38 #[.int .i64 x] w fun e w' => e = .returned (.bool false) ∧ w = w' := by
  go_enter Try.func38, Try.ntmps38
  go_wp2
  go_ret
  exact ⟨by simp, rfl⟩
def cmpS (x y : Int) : Int := if x < y then -1 else if y < x then 1 else 0
theorem cmpS_any (x y : Int) (w : World) : Calls Try.prog 28 #[.int .i64 x, .int .i64 y] w fun e w' => e = .returned (.int .i64 (cmpS x y)) ∧ w = w' := by
  have H1 := Lib.hid (fun w => isNaN13_any x w)
  have H2 := Lib.hid (fun w => isNaN13_any y w)
  obtain ⟨r, hr⟩ : ∃ r, cmpS x y = r := ⟨_, rfl⟩
  rw [hr]
  unfold cmpS at hr
  have hways : decide (x < y) = true ∧ r = -1 ∨ decide (x < y) = false ∧ decide (y < x) = true ∧ r = 1 ∨ decide (x < y) = false ∧ decide (y < x) = false ∧ r = 0 := by
    by_cases h1 : x < y
    · exact .inl ⟨decide_eq_true h1, by rw [← hr, if_pos h1]⟩
    · by_cases h2 : y < x
      · exact .inr (.inl ⟨decide_eq_false h1, decide_eq_true h2, by rw [← hr, if_neg h1, if_pos h2]⟩)
      · exact .inr (.inr ⟨decide_eq_false h1, decide_eq_false h2, by rw [← hr, if_neg h1, if_neg h2]⟩)
  clear hr
  rcases hways with ⟨h1, rfl⟩ | ⟨h1, h2, rfl⟩ | ⟨h1, h2, rfl⟩
  all_goals
    go_enter Try.func28, Try.ntmps28
    go_wp2_with (go_at_call 38; (first | (with_reducible refine (H1.out _).mono ?_) | (with_reducible refine (H2.out _).mono ?_)); rintro e w' ⟨rfl, rfl⟩)
    go_ret
    exact ⟨rfl, rfl⟩
/-- In which order two spans stand. -/
def ordP (a b : Spn) : Int := cmpS a.1 b.1
theorem orderP_any (a1 a2 b1 b2 : Int) (W : World) :
    Calls Try.prog 27 #[.agg #[.int .i64 a1, .int .i64 a2], .agg #[.int .i64 b1, .int .i64 b2]] W fun e w' => e = .returned (.int .i64 (ordP (a1, a2) (b1, b2))) ∧ ∃ q os', w' = grow (W.drewN q) os' := by
  have H1 := Lib.hid (fun w => cmpS_any a1 b1 w)
  have HX : Hid ((W.alloc (.cells #[.int .i64 a1, .int .i64 a2] 32)).alloc (.cells #[.int .i64 b1, .int .i64 b2] 32) = grow W #[.cells #[.int .i64 a1, .int .i64 a2] 32, .cells #[.int .i64 b1, .int .i64 b2] 32]) := by
    show _ = _
    rw [alloc_eq_grow, alloc_eq_grow, grow_grow]; rfl
  have hr : Hid (ordP (a1, a2) (b1, b2) = cmpS a1 b1) := rfl
  generalize ordP (a1, a2) (b1, b2) = r at *
  generalize cmpS a1 b1 = r2 at *
  go_enter Try.func27, Try.ntmps27
  go_wp2_with (go_at_call 28; (with_reducible refine (H1.out _).mono ?_); rintro e w' ⟨rfl, rfl⟩)
  go_ret
  exact ⟨ret_int hr.out.symm, 0, _, HX.out⟩
def encP (s : Spn) : List Value := [.int .i64 s.1, .int .i64 s.2]
theorem ordP_lt (x y : Spn) : ltOf ordP x y = decide (x.1 < y.1) := by
  unfold ltOf
  rw [Bool.eq_iff_iff, decide_eq_true_eq, decide_eq_true_eq]
  unfold ordP cmpS
  by_cases h1 : x.1 < y.1
  · rw [if_pos h1]; omega
  · rw [if_neg h1]
    by_cases h2 : y.1 < x.1
    · rw [if_pos h2]; omega
    · rw [if_neg h2]; omega
theorem swoP : SWO (ltOf ordP) where
  irrefl x := by rw [ordP_lt]; simp
  trans x y z h1 h2 := by rw [ordP_lt] at *; rw [decide_eq_true_eq] at *; omega
  ntrans x y z h1 h2 := by rw [ordP_lt] at *; rw [decide_eq_false_iff_not] at *; omega
theorem flat_sv13 (l : List Spn) : (flatK encP 2 l.toArray).toList = sv l := by
  apply List.ext_getElem?
  intro t
  by_cases h : t < l.length * 2
  · have h2 : t / 2 < l.length := by omega
    have hg := get_flatK encP 2 l.toArray t (by simpa using h)
    have hs : t < (flatK encP 2 l.toArray).size := by simpa using h
    rw [Array.getElem?_toList, Array.getElem?_eq_getElem hs]
    rw [getElem!_pos _ t hs] at hg
    rw [hg, show l.toArray[t / 2]! = l[t / 2] by simp [h2]]
    obtain ⟨s1, s2⟩ := sv_at (List.getElem?_eq_getElem h2)
    by_cases hm : t % 2 = 0
    · have e : t / 2 * 2 = t := by omega
      rw [e] at s1
      rw [hm, s1]; simp [encP]
    · have e : t / 2 * 2 + 1 = t := by omega
      rw [e] at s2
      rw [show t % 2 = 1 by omega, s2]; simp [encP]
  · rw [Array.getElem?_toList, Array.getElem?_eq_none (by simp; omega), List.getElem?_eq_none (by rw [sv_len]; omega)]
/-- Spans whose starts rise. -/
def InP (l : List Spn) : Prop := l.Pairwise fun a b => a.1 ≤ b.1
theorem sort13_any (l : List Spn) (base : Nat) (v : Value) (w : World) (h : w.ownsRow base 32 2 v l.length (sv l)) (hl : l.length ≤ 1000000) :
    Calls Try.prog 26 #[v, .func (.func 27) #[] #[]] w fun e w' => e = .returned (.tuple #[]) ∧ (∃ T, T.Perm l ∧ InP T ∧ w'.ownsRow base 32 2 v l.length (sv T)) ∧ Off (fun b => v.ownBlock = some b) w w' := by
  have h0 := h
  obtain ⟨hlen, ⟨rfl, hn⟩ | ⟨g, cap, cur, rfl, hb, hc, h1, h2, h3, h4⟩⟩ := h
  · have hcon := AnyF.slices_SortFunc_none Try.sortSpan none 0 (.func (.func 27) #[] #[]) w
    change Calls Try.prog 26 _ _ _ at hcon
    obtain rfl : l = [] := List.length_eq_zero_iff.1 hn
    refine hcon.mono ?_
    rintro e w' ⟨rfl, rfl⟩
    exact ⟨rfl, ⟨[], List.Perm.refl _, List.Pairwise.nil, h0⟩, Off.refl _ _⟩
  · have eg : ∀ args w, (callFunc 27 args).run Try.prog w = .ok (.enter 27 args) w := enters_of Try.func27 (by kernel_rfl) rfl
    have hcmp : CmpLays Try.prog 27 #[] encP 2 ordP g 0 l.toArray.size w := fun _ _ _ _ x y => orderP_any x.1 x.2 y.1 y.2 _
    have hH : HoldsK encP 2 w g 0 l.toArray := by
      intro j hj
      rw [size_flatK] at hj
      have hj2 : j < l.length * 2 := by simpa using hj
      have hs : j < (flatK encP 2 l.toArray).size := by simpa using hj
      have e1 : (sv l)[j]? = some ((flatK encP 2 l.toArray)[j]!) := by
        rw [← flat_sv13, Array.getElem?_toList, Array.getElem?_eq_getElem hs, getElem!_pos _ j hs]
      rw [← h4, List.getElem?_take_of_lt hj2, Array.getElem?_toList] at e1
      exact ⟨by simp only [World.cell?, hc, Nat.zero_add]; simpa using e1, by simp [World.frozen?, hc]⟩
    have hcon := AnyQ.slices_SortFunc Try.sortSpan 2 Try.isAgg32 Try.sizeOf32 encP (fun _ => rfl) (fun x v hv => by simp [encP] at hv; rcases hv with rfl | rfl <;> rfl) ordP swoP 27 #[] g 0 cap l.toArray w eg hcmp hH (heap_lt hc) (by simp; omega)
    change Calls Try.prog 26 _ _ _ at hcon
    rw [show l.toArray.size = l.length by simp] at hcon
    refine hcon.mono ?_
    rintro e w' ⟨rfl, d', n, os, hp, hs, rfl⟩
    obtain ⟨hp1, _, hp2⟩ := hp
    have hd : d'.size = l.length := by simpa using hp1
    have hperm : d'.toList.Perm l := by
      have q1 : d'.extract 0 l.length = d' := by rw [← hd]; simp
      have q2 : (l.toArray.extract 0 l.length) = l.toArray := by
        rw [show l.length = l.toArray.size by simp]; simp
      rw [q1, q2] at hp2
      simpa using hp2
    have hord : InP d'.toList := by
      refine List.pairwise_iff_getElem.2 fun i j hi hj hij => ?_
      have hi' : i < d'.size := by simpa using hi
      have hj' : j < d'.size := by simpa using hj
      have := hs i j (Nat.zero_le _) hij (by omega)
      rw [ordP_lt, decide_eq_false_iff_not, getElem!_pos d' i hi', getElem!_pos d' j hj'] at this
      have : d'[i].1 ≤ d'[j].1 := by omega
      simpa using this
    have hfl : (flatK encP 2 d').toList = sv d'.toList := by have := flat_sv13 d'.toList; simpa using this
    have hdl : d'.toList.length = l.length := by simpa using hd
    refine ⟨rfl, ⟨d'.toList, hperm, hord, ⟨by rw [sv_len, hdl], .inr ⟨g, cap, _, rfl, hb, heap_put id (flatK encP 2 d') hc, h1, h2, by simp [putCells, h3], ?_⟩⟩⟩, ?_⟩
    · have := take_put id cur (flatK encP 2 d').toList (by rw [hfl, sv_len, hdl]; omega)
      rw [show (flatK encP 2 d').toList.length = l.length * 2 by rw [hfl, sv_len, hdl], List.map_id] at this
      rw [← hfl, ← this]
    · have := off_put id (w := w) (g := g) (n := n) (os := os) (flatK encP 2 d')
      exact this.mono fun b _ hbg => by rw [hbg]; rfl
end Go.Proofs.Ytdpgmhjhmccfnaa
