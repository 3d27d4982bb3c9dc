import Derived.Test.YtfjmofefciopmaaGreatZIW6
import Derived.Test.YtfjmofefciopmaaGreatZMB
import Derived.Shelf.SlSortCmp.WholeK
import Derived.Shelf.SlSortCmp.NoneTotal
/- Contracts of the program's events: the span of a time; in which order spans stand. -/
section
namespace Go.Proofs.YtfjmofefciopmaaGreat
open Go.ChangeShapes Go.WideShapes Go.ChangeAt Go.RowKit Go.Joins Sp Ev Qr
def RetM (o : Option Spn) (w : World) (e : Ending) (w' : World) : Prop :=
  (match o with
    | none => e = .returned (.tuple #[.agg #[.int .i64 0, .int .i64 0], .bool false])
    | some m => e = .returned (.tuple #[.agg #[.int .i64 m.1, .int .i64 m.2], .bool true])) ∧ Below w.heap.size w w'
set_option maxRecDepth 100000 in
set_option maxHeartbeats 4000000 in
theorem pmember_any (z : Zn.Z) (Z : Option Addr) (cz : Nat) (world : Bool) (s g : Int) (hs : 0 ≤ s ∧ s ≤ 1000000000) (hg : 0 ≤ g ∧ g ≤ 1000000) (hw : ZWf z) (hp : Zn.mayP z) (w : World) (hz : ZAt w Z z) :
    Calls Tryz.prog 38 #[.agg #[.int .i64 z.base, .slice Z z.n cz], .bool world, .int .i64 s, .int .i64 g] w (RetM (mbO z world s g) w) := by
  obtain ⟨W, hW⟩ : ∃ W, (w.alloc (.cells #[.int .i64 z.base, .slice Z z.n cz] 24)).alloc (.cells #[.int .i64 0, .int .i64 0] 34) = W := ⟨_, rfl⟩
  have hBW : Below w.heap.size w W := by rw [← hW]; exact ((Below.refl _ w).alloc (Nat.le_refl _) _).alloc (by simp) _
  have hbx : W.heap[w.heap.size + 1]? = some (.cells #[.int .i64 0, .int .i64 0] 34 (0, 0)) := by
    rw [← hW, show w.heap.size + 1 = (w.alloc (.cells #[.int .i64 z.base, .slice Z z.n cz] 24)).heap.size by simp]
    exact heap_alloc_new _ _
  have z0 : W.cell? ⟨w.heap.size, 0, none⟩ = some (.int .i64 z.base) := by rw [← hW]; simp [go_sem]
  have z1 : W.cell? ⟨w.heap.size, 1, none⟩ = some (.slice Z z.n cz) := by rw [← hW]; simp [go_sem]
  have HU : Hid (Calls Tryz.prog 74 #[.agg #[.int .i64 z.base, .slice Z z.n cz], .int .i64 s] W fun e w' => (∃ u k, utcO z s = some u ∧ 0 ≤ u ∧ u ≤ 158310720 ∧ e = .returned (.tuple #[.int .i64 u, .int .i64 k, .bool true]) ∨ utcO z s = none ∧ e = .returned (.tuple #[.int .i64 0, .int .i64 0, .bool false])) ∧ Below W.heap.size W w') := by
    by_cases h : Zn.hasP z s
    · refine (utc_yes W Z z cz s hw (hz.below hBW) h).mono ?_
      rintro e w' ⟨he, hb⟩
      exact ⟨⟨_, _, .inl ⟨by unfold utcO; rw [if_pos ⟨⟨h.1, h.2.1⟩, h.2.2.2⟩], h.2.2.2.1, h.2.2.2.2, he⟩⟩, hb⟩
    · refine (utc_no W Z z cz s hw (hz.below hBW) h).mono ?_
      rintro e w' ⟨he, hb⟩
      exact ⟨⟨0, 0, .inr ⟨by unfold utcO; rw [if_neg (fun q => h ⟨q.1.1, q.1.2, hp, q.2⟩)], he⟩⟩, hb⟩
  have HBX : Hid (∀ V, Below W.heap.size W V → V.heap[w.heap.size + 1]? = some (.cells #[.int .i64 0, .int .i64 0] 34 (0, 0))) := fun V h => blk_below hbx h
  have E1 := Lib.hid hW
  have BW := Lib.hid hBW
  clear hW hBW hz hw hp
  by_cases h0 : g = 0
  · have E : Hid (mbO z world s g = none) := by show _ = _; unfold mbO; rw [if_pos h0]
    rw [E.out]
    subst h0
    have k0 := blk_cell hbx (i := 0) (v := .int .i64 0) rfl
    have k1 := blk_cell hbx (i := 1) (v := .int .i64 0) rfl
    have kf := blk_free hbx
    clear hbx z0 z1 HU
    go_enter Tryz.func38, Tryz.ntmps38
    go_upto_region 1 with fail
    rw [E1.out]
    go_wp2_with fail
    refine bodyPost_ret (v := .tuple #[.agg #[.int .i64 0, .int .i64 0], .bool false]) (by simp [results, Tryz.results38, go_sem, k0, k1]) rfl ⟨rfl, ?_⟩
    exact (BW.out.setCell (p := ⟨w.heap.size + 1, 0, none⟩) (by simp) _).setCell (p := ⟨w.heap.size + 1, 1, none⟩) (by simp) _
  · have h0b : (g == 0) = false := by simpa using h0
    have hwg : ∀ u : Int, 0 ≤ u → u ≤ 1000000000 → IntKind.i64.wrap (u + g) = u + g := fun u h1 h2 => by rw [IntKind.wrap_i64]; omega
    cases world with
    | true =>
      have E : Hid (mbO z true s g = some (s, s + g)) := by show _ = _; unfold mbO; rw [if_neg h0, if_pos rfl]
      rw [E.out]
      have hw1 := hwg s hs.1 hs.2
      have k0 := blk_cell hbx (i := 0) (v := .int .i64 0) rfl
      have k1 := blk_cell hbx (i := 1) (v := .int .i64 0) rfl
      have kf := blk_free hbx
      clear hbx z0 z1 HU hwg h0
      go_enter Tryz.func38, Tryz.ntmps38
      go_upto_region 1 with fail
      rw [E1.out]
      go_wp2_with fail
      refine bodyPost_ret (v := .tuple #[.agg #[.int .i64 s, .int .i64 (s + g)], .bool true]) (by simp [results, Tryz.results38, go_sem, k0, k1]) rfl ⟨rfl, ?_⟩
      exact (BW.out.setCell (p := ⟨w.heap.size + 1, 0, none⟩) (by simp) _).setCell (p := ⟨w.heap.size + 1, 1, none⟩) (by simp) _
    | false =>
      have HE : Hid (mbO z false s g = match utcO z s with
        | none => none
        | some u => some (u, u + g)) := by show _ = _; unfold mbO; rw [if_neg h0]; rfl
      rw [HE.out]
      clear hbx h0 HE
      generalize utcO z s = o at *
      go_enter Tryz.func38, Tryz.ntmps38
      go_upto_region 1 with fail
      rw [E1.out]
      go_wp2_with fail
      go_at_call 74
      refine HU.out.mono ?_
      rintro e w2 ⟨⟨u, k, ⟨rfl, hu0, hu1, rfl⟩ | ⟨rfl, rfl⟩⟩, hb⟩
      · have hw1 := hwg u hu0 (by omega)
        have hq := HBX.out w2 hb
        have k0 := blk_cell hq (i := 0) (v := .int .i64 0) rfl
        have k1 := blk_cell hq (i := 1) (v := .int .i64 0) rfl
        have kf := blk_free hq
        have BX : Hid (Below w.heap.size w w2) := BW.out.trans (hb.mono BW.out.size)
        clear hq hb hu0 hu1 hwg z0 z1
        go_wp2_with fail
        refine bodyPost_ret (v := .tuple #[.agg #[.int .i64 u, .int .i64 (u + g)], .bool true]) (by simp [results, Tryz.results38, go_sem, k0, k1]) rfl ⟨rfl, ?_⟩
        exact (BX.out.setCell (p := ⟨w.heap.size + 1, 0, none⟩) (by simp) _).setCell (p := ⟨w.heap.size + 1, 1, none⟩) (by simp) _
      · have hq := HBX.out w2 hb
        have k0 := blk_cell hq (i := 0) (v := .int .i64 0) rfl
        have k1 := blk_cell hq (i := 1) (v := .int .i64 0) rfl
        have kf := blk_free hq
        have BX : Hid (Below w.heap.size w w2) := BW.out.trans (hb.mono BW.out.size)
        clear hq hb hwg z0 z1
        go_wp2_with fail
        refine bodyPost_ret (v := .tuple #[.agg #[.int .i64 0, .int .i64 0], .bool false]) (by simp [results, Tryz.results38, go_sem, k0, k1]) rfl ⟨rfl, ?_⟩
        exact (BX.out.setCell (p := ⟨w.heap.size + 1, 0, none⟩) (by simp) _).setCell (p := ⟨w.heap.size + 1, 1, none⟩) (by simp) _
end Go.Proofs.YtfjmofefciopmaaGreat
end
section
namespace Go.Proofs.YtfjmofefciopmaaGreat
open Go.ChangeShapes Go.WideShapes Go.ChangeAt Go.RowKit Go.Joins Go.Sort Sp Ev Qr
theorem isNaN64_any (x : Int) (w : World) : Calls Tryz.prog 107 #[.int .i64 x] w fun e w' => e = .returned (.bool false) ∧ w = w' := by
  go_enter Tryz.func107, Tryz.ntmps107
  go_wp2
  go_ret
  exact ⟨by simp, rfl⟩
def cmpZ (x y : Int) : Int := if x < y then -1 else if y < x then 1 else 0
theorem cmp64_any (x y : Int) (w : World) : Calls Tryz.prog 78 #[.int .i64 x, .int .i64 y] w fun e w' => e = .returned (.int .i64 (cmpZ x y)) ∧ w = w' := by
  have H1 := Lib.hid (fun w => isNaN64_any x w)
  have H2 := Lib.hid (fun w => isNaN64_any y w)
  obtain ⟨r, hr⟩ : ∃ r, cmpZ x y = r := ⟨_, rfl⟩
  rw [hr]
  unfold cmpZ at hr
  by_cases h1 : x < y
  · have h1b : decide (x < y) = true := decide_eq_true h1
    have E : Hid (r = -1) := by show _ = _; rw [← hr, if_pos h1]
    clear hr
    go_enter Tryz.func78, Tryz.ntmps78
    go_wp2_with (go_at_call 107; (first | (with_reducible refine (H1.out _).mono ?_) | (with_reducible refine (H2.out _).mono ?_)); rintro e w' ⟨rfl, rfl⟩)
    go_ret
    exact ⟨ret_int E.out.symm, rfl⟩
  · have h1b : decide (x < y) = false := decide_eq_false h1
    by_cases h2 : y < x
    · have h2b : decide (y < x) = true := decide_eq_true h2
      have E : Hid (r = 1) := by show _ = _; rw [← hr, if_neg h1, if_pos h2]
      clear hr
      go_enter Tryz.func78, Tryz.ntmps78
      go_wp2_with (go_at_call 107; (first | (with_reducible refine (H1.out _).mono ?_) | (with_reducible refine (H2.out _).mono ?_)); rintro e w' ⟨rfl, rfl⟩)
      go_ret
      exact ⟨ret_int E.out.symm, rfl⟩
    · have h2b : decide (y < x) = false := decide_eq_false h2
      have E : Hid (r = 0) := by show _ = _; rw [← hr, if_neg h1, if_neg h2]
      clear hr
      go_enter Tryz.func78, Tryz.ntmps78
      go_wp2_with (go_at_call 107; (first | (with_reducible refine (H1.out _).mono ?_) | (with_reducible refine (H2.out _).mono ?_)); rintro e w' ⟨rfl, rfl⟩)
      go_ret
      exact ⟨ret_int E.out.symm, rfl⟩
def ordS (a b : Spn) : Int := if a.1 = b.1 then cmpZ a.2 b.2 else cmpZ a.1 b.1
theorem order_any (a1 a2 b1 b2 : Int) (W : World) :
    Calls Tryz.prog 42 #[.agg #[.int .i64 a1, .int .i64 a2], .agg #[.int .i64 b1, .int .i64 b2]] W fun e w' => e = .returned (.int .i64 (ordS (a1, a2) (b1, b2))) ∧ ∃ q os', w' = grow (W.drewN q) os' := by
  have H1 := Lib.hid (fun w => cmp64_any a1 b1 w)
  have H2 := Lib.hid (fun w => cmp64_any a2 b2 w)
  have HX : Hid ((W.alloc (.cells #[.int .i64 a1, .int .i64 a2] 34)).alloc (.cells #[.int .i64 b1, .int .i64 b2] 34) = grow W #[.cells #[.int .i64 a1, .int .i64 a2] 34, .cells #[.int .i64 b1, .int .i64 b2] 34]) := by
    show _ = _
    rw [alloc_eq_grow, alloc_eq_grow, grow_grow]; rfl
  obtain ⟨r, hr⟩ : ∃ r, ordS (a1, a2) (b1, b2) = r := ⟨_, rfl⟩
  rw [hr]
  unfold ordS at hr
  simp only at hr
  by_cases h1 : a1 = b1
  · have h1b : (a1 != b1) = false := by simpa using h1
    have E : Hid (cmpZ a2 b2 = r) := by show _ = _; rw [← hr, if_pos h1]
    rw [E.out] at H2
    clear hr h1 H1
    go_enter Tryz.func42, Tryz.ntmps42
    go_wp2_with (go_at_call 78; (with_reducible refine (H2.out _).mono ?_); rintro e w' ⟨rfl, rfl⟩)
    go_ret
    exact ⟨rfl, 0, _, HX.out⟩
  · have h1b : (a1 != b1) = true := by simpa using h1
    have E : Hid (cmpZ a1 b1 = r) := by show _ = _; rw [← hr, if_neg h1]
    rw [E.out] at H1
    clear hr h1 H2
    go_enter Tryz.func42, Tryz.ntmps42
    go_wp2_with (go_at_call 78; (with_reducible refine (H1.out _).mono ?_); rintro e w' ⟨rfl, rfl⟩)
    go_ret
    exact ⟨rfl, 0, _, HX.out⟩
def encS (s : Spn) : List Value := [.int .i64 s.1, .int .i64 s.2]
theorem ordS_lt (x y : Spn) : ltOf ordS x y = decide (gtS y x) := by
  unfold ltOf
  rw [Bool.eq_iff_iff, decide_eq_true_eq, decide_eq_true_eq]
  unfold ordS cmpZ gtS
  by_cases h : x.1 = y.1
  · rw [if_pos h]
    by_cases h1 : x.2 < y.2
    · rw [if_pos h1]; omega
    · rw [if_neg h1]
      by_cases h2 : y.2 < x.2
      · rw [if_pos h2]; omega
      · rw [if_neg h2]; omega
  · rw [if_neg h]
    by_cases h1 : x.1 < y.1
    · rw [if_pos h1]; omega
    · rw [if_neg h1]
      by_cases h2 : y.1 < x.1
      · rw [if_pos h2]; omega
      · rw [if_neg h2]; omega
theorem swoS : SWO (ltOf ordS) where
  irrefl x := by rw [ordS_lt]; unfold gtS; simp
  trans x y z h1 h2 := by rw [ordS_lt] at *; rw [decide_eq_true_eq] at *; unfold gtS at *; omega
  ntrans x y z h1 h2 := by rw [ordS_lt] at *; rw [decide_eq_false_iff_not] at *; unfold gtS at *; omega
theorem flat_sv (l : List Spn) : (flatK encS 2 l.toArray).toList = sv l := by
  apply List.ext_getElem?
  intro t
  by_cases h : t < l.length * 2
  · have h2 : t / 2 < l.length := by omega
    have hg := get_flatK encS 2 l.toArray t (by simpa using h)
    have hs : t < (flatK encS 2 l.toArray).size := by simpa using h
    rw [Array.getElem?_toList, Array.getElem?_eq_getElem hs]
    rw [getElem!_pos _ t hs] at hg
    rw [hg, show l.toArray[t / 2]! = l[t / 2] by simp [h2]]
    obtain ⟨s1, s2⟩ := sv_at (List.getElem?_eq_getElem h2)
    by_cases hm : t % 2 = 0
    · have e : t / 2 * 2 = t := by omega
      rw [e] at s1
      rw [hm, s1]; simp [encS]
    · have e : t / 2 * 2 + 1 = t := by omega
      rw [e] at s2
      rw [show t % 2 = 1 by omega, s2]; simp [encS]
  · rw [Array.getElem?_toList, Array.getElem?_eq_none (by simp; omega), List.getElem?_eq_none (by rw [sv_len]; omega)]
theorem sortSpan_any (l : List Spn) (base : Nat) (v : Value) (w : World) (h : w.ownsRow base 34 2 v l.length (sv l)) (hl : l.length ≤ 1000000) :
    Calls Tryz.prog 41 #[v, .func (.func 42) #[] #[]] w fun e w' => e = .returned (.tuple #[]) ∧ w'.ownsRow base 34 2 v l.length (sv (srt l)) ∧ Off (fun b => v.ownBlock = some b) w w' := by
  have h0 := h
  obtain ⟨hlen, ⟨rfl, hn⟩ | ⟨g, cap, cur, rfl, hb, hc, h1, h2, h3, h4⟩⟩ := h
  · have hcon := AnyF.slices_SortFunc_none Tryz.sortSpan none 0 (.func (.func 42) #[] #[]) w
    change Calls Tryz.prog 41 _ _ _ at hcon
    obtain rfl : l = [] := List.length_eq_zero_iff.1 hn
    refine hcon.mono ?_
    rintro e w' ⟨rfl, rfl⟩
    exact ⟨rfl, h0, Off.refl _ _⟩
  · have eg : ∀ args w, (callFunc 42 args).run Tryz.prog w = .ok (.enter 42 args) w := enters_of Tryz.func42 (by kernel_rfl) rfl
    have hcmp : CmpLays Tryz.prog 42 #[] encS 2 ordS g 0 l.toArray.size w := fun _ _ _ _ x y => order_any x.1 x.2 y.1 y.2 _
    have hH : HoldsK encS 2 w g 0 l.toArray := by
      intro j hj
      rw [size_flatK] at hj
      have hj2 : j < l.length * 2 := by simpa using hj
      have hs : j < (flatK encS 2 l.toArray).size := by simpa using hj
      have e1 : (sv l)[j]? = some ((flatK encS 2 l.toArray)[j]!) := by
        rw [← flat_sv, Array.getElem?_toList, Array.getElem?_eq_getElem hs, getElem!_pos _ j hs]
      rw [← h4, List.getElem?_take_of_lt hj2, Array.getElem?_toList] at e1
      exact ⟨by simp only [World.cell?, hc, Nat.zero_add]; simpa using e1, by simp [World.frozen?, hc]⟩
    have hcon := AnyQ.slices_SortFunc Tryz.sortSpan 2 Tryz.isAgg34 Tryz.sizeOf34 encS (fun _ => rfl) (fun x v hv => by simp [encS] at hv; rcases hv with rfl | rfl <;> rfl) ordS swoS 42 #[] g 0 cap l.toArray w eg hcmp hH (heap_lt hc) (by simp; omega)
    change Calls Tryz.prog 41 _ _ _ at hcon
    rw [show l.toArray.size = l.length by simp] at hcon
    refine hcon.mono ?_
    rintro e w' ⟨rfl, d', n, os, hp, hs, rfl⟩
    obtain ⟨hp1, _, hp2⟩ := hp
    have hd : d'.size = l.length := by simpa using hp1
    have hperm : d'.toList.Perm l := by
      have q1 : d'.extract 0 l.length = d' := by rw [← hd]; simp
      have q2 : (l.toArray.extract 0 l.length) = l.toArray := by
        rw [show l.length = l.toArray.size by simp]; simp
      rw [q1, q2] at hp2
      simpa using hp2
    have hord : InO d'.toList := by
      refine List.pairwise_iff_getElem.2 fun i j hi hj hij => ?_
      have hi' : i < d'.size := by simpa using hi
      have hj' : j < d'.size := by simpa using hj
      have := hs i j (Nat.zero_le _) hij (by omega)
      rw [ordS_lt, decide_eq_false_iff_not, getElem!_pos d' i hi', getElem!_pos d' j hj'] at this
      simpa using this
    have hsrt : d'.toList = srt l := srt_eq hord hperm
    have hfl : (flatK encS 2 d').toList = sv (srt l) := by rw [← hsrt]; have := flat_sv d'.toList; simpa using this
    refine ⟨rfl, ⟨by rw [sv_len, srt_len], .inr ⟨g, cap, _, rfl, hb, heap_put id (flatK encS 2 d') hc, h1, h2, by simp [putCells, h3], ?_⟩⟩, ?_⟩
    · have := take_put id cur (flatK encS 2 d').toList (by rw [hfl, sv_len, srt_len]; omega)
      rw [show (flatK encS 2 d').toList.length = l.length * 2 by rw [hfl, sv_len, srt_len], List.map_id] at this
      rw [← hfl, ← this]
    · have := off_put id (w := w) (g := g) (n := n) (os := os) (flatK encS 2 d')
      exact this.mono fun b _ hbg => by rw [hbg]; rfl
end Go.Proofs.YtfjmofefciopmaaGreat
end
