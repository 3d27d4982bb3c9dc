import Derived.Test.YtfjmofefciopmaaGreatZEW1
import Derived.Test.YtfjmofefciopmaaGreatZZW6
import Derived.Deep.Cut
import Derived.Deep.MidRow
import Derived.Test.YtfjmofefciopmaaGreatZMB
/- Contracts of the document's events: rows of stamps; a member put among others. -/
section
namespace Go.Proofs.YtfjmofefciopmaaGreat
open Go.ChangeShapes Go.WideShapes Go.ChangeAt Go.RowKit Go.Joins Sp Ev
set_option maxRecDepth 100000 in
set_option maxHeartbeats 4000000 in
theorem rrow11_any (l : List Int) (A : Option Addr) (c : Nat) (w : World) (hl : l.length ≤ 1000000) (h : Sl w A l.length c (iv l)) :
    Calls Tryz.prog 34 #[.slice A l.length c] w fun e w' => e = .returned (.bool (rowB l)) ∧ Below w.heap.size w w' := by
  have HA := Lib.hid h
  obtain ⟨r, hr⟩ : ∃ r, rowB l = r := ⟨_, rfl⟩
  rw [hr]
  have HR := Lib.hid hr
  have hlz : (l.length : Int) ≤ 9223372036854775807 := by omega
  have hST : Hid (∀ (v : Int) (b : Bool) (w' : World) (n : Nat), stampB v = b → Calls Tryz.prog 31 #[.int .i64 v] (w'.drewN n) fun e w2 => e = .returned (.bool b) ∧ ∃ m, w2 = w'.drewN m) := fun v b w' n hb => Calls.quiet_of_same ((rstamp11_any v _).mono fun _ _ ⟨h1, h2⟩ => ⟨by rw [← hb]; exact h1, h2.symm⟩)
  clear h hr
  go_enter Tryz.func34, Tryz.ntmps34
  go_wp2_with fail
  go_loopw [6] (fun s6 wr => ∃ (i : Nat) (g : Gr w), wr = g.val ∧ i ≤ l.length ∧ s6 = .int .i64 i ∧ Hid (∀ j, j < i → okR l j)) (fun s6 _ => l.length - (intOf s6).toNat)
  case atStart => exact ⟨0, ⟨w, Below.refl _ _⟩, rfl, Nat.zero_le _, rfl, fun j hj => absurd hj (Nat.not_lt_zero _)⟩
  case round =>
    obtain ⟨i, g, rfl, hi, rfl, HF⟩ := hrel
    by_cases hlt : i < l.length
    · have hiz : (i : Int) < l.length := by omega
      obtain ⟨x, hx⟩ : ∃ x, l[i]? = some x := ⟨_, List.getElem?_eq_getElem hlt⟩
      have HX : Hid (l.getD i 0 = x) := by show _ = _; rw [List.getD_eq_getElem?_getD, hx]; rfl
      obtain ⟨b, off, rfl, hbs, hce⟩ := HA.out.intG hx
      have g1 := hce g
      have HNO : Hid ((stampB x = false ∨ 0 < i ∧ x ≤ l.getD (i - 1) 0) → r = false) := fun q => by
        rw [← HR.out]
        refine row_no fun p => ?_
        have p2 := p.1 i hlt
        unfold okR at p2
        rw [HX.out] at p2
        rcases q with q | q
        · unfold stampB at q
          rw [decide_eq_true p2.1, decide_eq_true p2.2.1] at q
          cases q
        · have := p2.2.2 q.1; omega
      have HYES : Hid (stampB x = true → 0 ≤ x ∧ x < 158310720) := fun q => by unfold stampB at q; simpa using q
      cases hst : stampB x with
      | false =>
        have E : Hid (r = false) := HNO.out (.inl hst)
        have HS := Lib.hid (fun w' n => hST.out x false w' n hst)
        clear hce hx hst
        go_wp2_with fail
        go_quiet ((go_at_call 31; exact HS.out _ _))
        go_wp2_with fail
        go_ret
        exact ⟨ret_bool E.out.symm, g.ok.trans (Below.mono (drewN_below _ _) g.size)⟩
      | true =>
        have HS := Lib.hid (fun w' n => hST.out x true w' n hst)
        have hxb := HYES.out hst
        rcases Nat.eq_zero_or_pos i with rfl | hi0
        · have HN : Hid (∀ j, j < 0 + 1 → okR l j) := fun j hj => by
            obtain rfl : j = 0 := by omega
            unfold okR; rw [HX.out]; exact ⟨hxb.1, hxb.2, fun h => absurd h (Nat.lt_irrefl _)⟩
          have g2 : g.val.cell? ⟨b, off, none⟩ = some (.int .i64 x) := by simpa using g1
          clear hce hx hst
          go_wp2_with fail
          go_quiet ((go_at_call 31; exact HS.out _ _))
          obtain ⟨g4, hg4⟩ : ∃ g4 : Gr w, g.val.drewN nq = g4.val := g.on (drewN_below _ _)
          rw [hg4]
          clear hg4
          go_wp2_with fail
          go_roundw
          case rel => exact ⟨1, g4, rfl, hlt, rfl, HN.out⟩
          case measure => simp [intOf]; omega
        · obtain ⟨j, rfl⟩ : ∃ j, i = j + 1 := ⟨i - 1, by omega⟩
          obtain ⟨y, hy⟩ : ∃ y, l[j]? = some y := ⟨_, List.getElem?_eq_getElem (by omega)⟩
          have HY : Hid (l.getD (j + 1 - 1) 0 = y) := by show _ = _; rw [Nat.add_sub_cancel, List.getD_eq_getElem?_getD, hy]; rfl
          obtain ⟨b', off', hbo, hb', hce'⟩ := HA.out.intG hy
          obtain ⟨rfl, rfl⟩ : b = b' ∧ off = off' := by simpa using hbo
          have g2 := hce' g
          rw [HY.out] at HNO
          have hj : (j : Int) < l.length := by omega
          have e5 : decide ((0 : Int) < (j : Int) + 1) = true := decide_eq_true (by omega)
          have e6 : (0 : Int) < (j : Int) + 1 := by omega
          clear hce hce' hx hy hbo hst
          by_cases e3 : x ≤ y
          · have E : Hid (r = false) := HNO.out (.inr ⟨by omega, e3⟩)
            go_wp2_with fail
            go_quiet ((go_at_call 31; exact HS.out _ _))
            go_wp2_with fail
            go_ret
            exact ⟨ret_bool E.out.symm, g.ok.trans (Below.mono (drewN_below _ _) g.size)⟩
          · have e3b : decide (x ≤ y) = false := decide_eq_false e3
            have HN : Hid (∀ i, i < j + 1 + 1 → okR l i) := fun i hi => by
              by_cases e : i = j + 1
              · subst e; unfold okR; rw [HX.out, HY.out]; exact ⟨hxb.1, hxb.2, fun _ => by omega⟩
              · exact HF.out i (by omega)
            go_wp2_with fail
            go_quiet ((go_at_call 31; exact HS.out _ _))
            obtain ⟨g4, hg4⟩ : ∃ g4 : Gr w, g.val.drewN nq = g4.val := g.on (drewN_below _ _)
            rw [hg4]
            clear hg4
            go_wp2_with fail
            go_roundw
            case rel => exact ⟨j + 1 + 1, g4, rfl, hlt, by go_num, HN.out⟩
            case measure => simp [intOf]; omega
    · obtain rfl : i = l.length := by omega
      have E : Hid (r = decide (l.length ≤ 50)) := by
        show _ = _
        rw [← HR.out]
        by_cases h50 : l.length ≤ 50
        · rw [row_yes ⟨HF.out, h50⟩, decide_eq_true h50]
        · rw [row_no (fun h => h50 h.2), decide_eq_false h50]
      go_wp2_with fail
      go_ret
      exact ⟨ret_bool (by rw [E.out, Bool.eq_iff_iff]; simp; omega), g.ok⟩
noncomputable def utcO (z : Zn.Z) (l : Int) : Option Int := open Classical in if (-900 ≤ l ∧ l ≤ 158311620) ∧ 0 ≤ Zn.atI z l ∧ Zn.atI z l ≤ 158310720 then some (Zn.atI z l) else none
noncomputable def memberL (l : List Spn) (z : Zn.Z) (at_ long : Int) (x : Spn) : List Spn := match utcO z at_ with
  | none => l
  | some u => if long = 0 ∨ x.2 ≤ u ∨ u + long ≤ x.1 then l else putL l (u, u + long)
theorem rutc_all (w : World) (A : Option Addr) (z : Zn.Z) (c : Nat) (l : Int) (hw : ZWf z) (hz : ZAt w A z) (hp : Zn.mayP z) :
    Calls Tryz.prog 17 #[.agg #[.int .i64 z.base, .slice A z.n c], .int .i64 l] w fun e w' => (∃ u k, utcO z l = some u ∧ 0 ≤ u ∧ u ≤ 158310720 ∧ e = .returned (.agg #[.int .i64 u, .int .i64 k, .bool false]) ∨ utcO z l = none ∧ e = .returned (.agg #[.int .i64 0, .int .i64 0, .bool true])) ∧ Below w.heap.size w w' := by
  by_cases h1 : l < -900
  · refine (rutc_far w A z c l hw hz (.inr (.inl ⟨Zn.may_iff.2 hp, h1⟩))).mono ?_
    rintro e w' ⟨he, hb⟩
    exact ⟨⟨0, 0, .inr ⟨by unfold utcO; rw [if_neg (fun h => by have := h.1.1; omega)], he⟩⟩, hb⟩
  by_cases h2 : 158311620 < l
  · refine (rutc_far w A z c l hw hz (.inr (.inr ⟨Zn.may_iff.2 hp, h2⟩))).mono ?_
    rintro e w' ⟨he, hb⟩
    exact ⟨⟨0, 0, .inr ⟨by unfold utcO; rw [if_neg (fun h => by have := h.1.2; omega)], he⟩⟩, hb⟩
  refine (rutc_in w A z c l hw hz hp (by omega) (by omega)).mono ?_
  rintro e w' ⟨he, hb⟩
  refine ⟨?_, hb⟩
  unfold outV at he
  by_cases h3 : 0 ≤ Zn.atI z l ∧ Zn.atI z l ≤ 158310720
  · rw [if_pos h3] at he
    exact ⟨Zn.atI z l, _, .inl ⟨by unfold utcO; rw [if_pos ⟨⟨by omega, by omega⟩, h3⟩], h3.1, h3.2, he⟩⟩
  · rw [if_neg h3] at he
    exact ⟨0, 0, .inr ⟨by unfold utcO; rw [if_neg (fun h => h3 h.2)], he⟩⟩
set_option maxRecDepth 100000 in
set_option maxHeartbeats 4000000 in
theorem rmember_any (l : List Spn) (A : Option Addr) (c : Nat) (z : Zn.Z) (Z : Option Addr) (cz : Nat) (at_ long : Int) (x : Spn) (w : World) (hl : l.length ≤ 1000000) (hlo : 0 ≤ long ∧ long ≤ 1000000) (hw : ZWf z) (hp : Zn.mayP z) (hz : ZAt w Z z) (h : Sl w A l.length c (sv l)) :
    Calls Tryz.prog 45 #[.slice A l.length c, .agg #[.int .i64 z.base, .slice Z z.n cz], .int .i64 at_, .int .i64 long, .agg #[.int .i64 x.1, .int .i64 x.2]] w (RetS (memberL l z at_ long x) w) := by
  obtain ⟨x1, x2⟩ := x
  simp only
  obtain ⟨W1, hW1⟩ : ∃ W1, (w.alloc (.cells #[.int .i64 z.base, .slice Z z.n cz] 24)).alloc (.cells #[.int .i64 x1, .int .i64 x2] 34) = W1 := ⟨_, rfl⟩
  have hB1 : Below w.heap.size w W1 := by rw [← hW1]; exact ((Below.refl _ _).alloc (Nat.le_refl _) _).alloc (by simp) _
  have hZ0 : ∀ G : Gr W1, G.val.cell? ⟨w.heap.size, 0, none⟩ = some (.int .i64 z.base) ∧ G.val.cell? ⟨w.heap.size, 1, none⟩ = some (.slice Z z.n cz) ∧ G.val.cell? ⟨w.heap.size + 1, 0, none⟩ = some (.int .i64 x1) ∧ G.val.cell? ⟨w.heap.size + 1, 1, none⟩ = some (.int .i64 x2) := fun G => by
    refine ⟨cell_old ?_ G.ok, cell_old ?_ G.ok, cell_old ?_ G.ok, cell_old ?_ G.ok⟩
    all_goals (rw [← hW1]; simp [go_sem])
  have HU := Lib.hid (rutc_all W1 Z z cz at_ hw (hz.below hB1) hp)
  have HA := Lib.hid h
  have HB1 := Lib.hid hB1
  have HZ0 := Lib.hid hZ0
  have E1 := Lib.hid hW1
  obtain ⟨k1, k2, k3, k4⟩ := hZ0 ⟨W1, Below.refl _ _⟩
  simp only at k1 k2 k3 k4
  have HM : Hid (memberL l z at_ long (x1, x2) = match utcO z at_ with
    | none => l
    | some u => if long = 0 ∨ x2 ≤ u ∨ u + long ≤ x1 then l else putL l (u, u + long)) := rfl
  obtain ⟨res, hres⟩ : ∃ res, memberL l z at_ long (x1, x2) = res := ⟨_, rfl⟩
  rw [hres] at HM ⊢
  clear hz h hW1 hB1 hZ0 hw hp hres
  go_enter Tryz.func45, Tryz.ntmps45
  go_upto_region 1 with fail
  rw [E1.out]
  go_wp2_with fail
  go_at_call 17
  refine HU.out.mono ?_
  rintro e w2 ⟨⟨u, kk, hu⟩, hb2⟩
  rcases hu with ⟨hu, hu0, hu1, rfl⟩ | ⟨hu, rfl⟩
  case inr =>
    rw [hu] at HM
    obtain ⟨g, rfl⟩ := Gr.of hb2
    obtain ⟨g2, hg2⟩ := g.up0 (o := .cells #[.int .i64 0, .int .i64 0, .bool true] 49)
    have HG2 := Lib.hid hg2
    have HS := Lib.hid (HA.out.below (HB1.out.trans (g2.ok.mono HB1.out.size)) (Nat.le_refl _))
    have HR : Hid (res = l) := HM.out
    clear hg2 hb2
    go_wp2_with fail
    go_ret
    rw [HR.out, HG2.out]
    exact ⟨A, c, rfl, HS.out, HB1.out.trans (g2.ok.mono HB1.out.size)⟩
  rw [hu] at HM
  obtain ⟨g, rfl⟩ := Gr.of hb2
  obtain ⟨g2, hg2⟩ := g.up0 (o := .cells #[.int .i64 u, .int .i64 kk, .bool false] 49)
  have HG2 := Lib.hid hg2
  have HB2 := Lib.hid (HB1.out.trans (g2.ok.mono HB1.out.size))
  have HS := Lib.hid (HA.out.below HB2.out (Nat.le_refl _))
  have HM2 : Hid (res = if long = 0 ∨ x2 ≤ u ∨ u + long ≤ x1 then l else putL l (u, u + long)) := HM.out
  have HPU := Lib.hid (rput11_any l (u, u + long) A c g2.val hl HS.out)
  rw [← hg2] at HPU
  have hw1 : IntKind.i64.wrap (u + long) = u + long := by rw [IntKind.wrap_i64]; omega
  clear k1 k2 k3 k4
  obtain ⟨k1, k2, k3, k4⟩ := HZ0.out g2
  rw [← hg2] at k1 k2 k3 k4
  clear hg2 hb2
  have hways : (long == 0) = true ∧ long = 0 ∨ (long == 0) = false ∧ long ≠ 0 ∧ decide (x2 ≤ u) = true ∧ x2 ≤ u ∨ (long == 0) = false ∧ long ≠ 0 ∧ decide (x2 ≤ u) = false ∧ ¬ x2 ≤ u ∧ decide (u + long ≤ x1) = true ∧ u + long ≤ x1 ∨ (long == 0) = false ∧ long ≠ 0 ∧ decide (x2 ≤ u) = false ∧ ¬ x2 ≤ u ∧ decide (u + long ≤ x1) = false ∧ ¬ u + long ≤ x1 := by
    by_cases h1 : long = 0
    · exact .inl ⟨by simpa using h1, h1⟩
    · by_cases h2 : x2 ≤ u
      · exact .inr (.inl ⟨beq_false_of_ne h1, h1, decide_eq_true h2, h2⟩)
      · by_cases h3 : u + long ≤ x1
        · exact .inr (.inr (.inl ⟨beq_false_of_ne h1, h1, decide_eq_false h2, h2, decide_eq_true h3, h3⟩))
        · exact .inr (.inr (.inr ⟨beq_false_of_ne h1, h1, decide_eq_false h2, h2, decide_eq_false h3, h3⟩))
  rcases hways with ⟨e1, p1⟩ | ⟨e1, p1, e2, p2⟩ | ⟨e1, p1, e2, p2, e3, p3⟩ | ⟨e1, p1, e2, p2, e3, p3⟩
  case inr.inr.inr =>
    have HR : Hid (res = putL l (u, u + long)) := by show _ = _; rw [HM2.out, if_neg (fun h => h.elim p1 (fun h => h.elim p2 p3))]
    clear p1 p2 p3
    go_wp2_with fail
    go_at_call 85
    refine HPU.out.mono ?_
    rintro e w4 ⟨A4, c4, rfl, hs4, hb4⟩
    have HS4 := Lib.hid hs4
    have HB4 : Hid (Below w.heap.size w w4) := by
      have h1 := HG2.out
      rw [h1] at hb4
      exact HB2.out.trans (hb4.mono HB2.out.size)
    clear hs4 hb4
    go_wp2_with fail
    go_ret
    rw [HR.out]
    exact ⟨A4, c4, rfl, HS4.out, HB4.out⟩
  all_goals
    have HR : Hid (res = l) := by
      show _ = _
      rw [HM2.out, if_pos (by first | exact .inl p1 | exact .inr (.inl p2) | exact .inr (.inr p3))]
    clear p1
    go_wp2_with fail
    go_ret
    rw [HR.out, HG2.out]
    exact ⟨A, c, rfl, HS.out, HB2.out⟩
end Go.Proofs.YtfjmofefciopmaaGreat
end
section
namespace Go.Proofs.YtfjmofefciopmaaGreat
open Go.ChangeShapes Go.WideShapes Go.ChangeAt Go.RowKit Go.Joins Sp Ev Qr
structure Evt where
  start : Int
  long : Int
  world : Bool
  again : Bool
  rule : R
  ex : List Int
  plus : List Int
  ch : List (Int × Int × Int)
def ecells (e : Evt) (A1 A2 A3 A4 A5 A6 A7 : Option Addr) (c1 c2 c3 c4 c5 c6 c7 : Nat) : Array Value :=
  #[.int .i64 e.start, .int .i64 e.long, .bool e.world, .bool e.again, .int .i64 e.rule.freq, .int .i64 e.rule.iv, .int .i64 e.rule.count, .int .i64 e.rule.until_, .slice A1 e.rule.bm.length c1, .slice A2 e.rule.bd.length c2, .slice A3 e.rule.bw.length c3, .slice A4 e.rule.bs.length c4, .int .i64 e.rule.start,
    .slice A5 e.ex.length c5, .slice A6 e.plus.length c6, .slice A7 e.ch.length c7]
def cv : List (Int × Int × Int) → List Value
  | [] => []
  | s :: r => .int .i64 s.1 :: .int .i64 s.2.1 :: .int .i64 s.2.2 :: cv r
structure EAt (w : World) (e : Evt) (A1 A2 A3 A4 A5 A6 A7 : Option Addr) (c1 c2 c3 c4 c5 c6 c7 : Nat) : Prop where
  r : RAt w e.rule A1 A2 A3 A4 c1 c2 c3 c4
  s5 : Sl w A5 e.ex.length c5 (iv e.ex)
  s6 : Sl w A6 e.plus.length c6 (iv e.plus)
  s7 : Sl w A7 e.ch.length c7 (cv e.ch)
theorem EAt.below {w w' : World} {e : Evt} {A1 A2 A3 A4 A5 A6 A7 : Option Addr} {c1 c2 c3 c4 c5 c6 c7 : Nat} (h : EAt w e A1 A2 A3 A4 A5 A6 A7 c1 c2 c3 c4 c5 c6 c7) (hb : Below w.heap.size w w') : EAt w' e A1 A2 A3 A4 A5 A6 A7 c1 c2 c3 c4 c5 c6 c7 :=
  ⟨h.r.below hb (Nat.le_refl _), h.s5.below hb (Nat.le_refl _), h.s6.below hb (Nat.le_refl _), h.s7.below hb (Nat.le_refl _)⟩
theorem run_len (r : R) (s : Tm.Dt) (start below : Int) : ∀ (f n : Nat) (out l : List Int) (last : Int), (Tm.run r s start below f n out l last).length ≤ out.length + l.length + f
  | 0, n, out, l, last => by show out.length ≤ _; omega
  | f + 1, n, out, l, last => by
    have h1 := addAll_len r s start below (Tm.keptL r l) out
    have h2 := keptL_len r l
    by_cases hf : Tm.flush r s n last
    · by_cases hb : below ≤ (n : Int)
      · rw [run_ret hf hb]; omega
      · rw [run_go hf hb]
        have ih := run_len r s start below f (n + 1) (Tm.addAll r s start below out (Tm.keptL r l)) (if Tm.good r s n then [(n : Int)] else []) (if n < 109938 then Tm.per r s (Tm.dt n) else 0)
        have h3 : (if Tm.good r s n then [(n : Int)] else []).length ≤ 1 := by split <;> simp
        omega
    · rw [run_no hf]
      have ih := run_len r s start below f (n + 1) out (if Tm.good r s n then l ++ [(n : Int)] else l) last
      have h3 : (if Tm.good r s n then l ++ [(n : Int)] else l).length ≤ l.length + 1 := by split <;> simp
      omega
theorem timesL_len (r : R) (start below : Int) : (Tm.timesL r start below).length ≤ 109939 := by
  unfold Tm.timesL
  split
  · have := run_len r (Tm.dt (start / 1440).toNat) start below (109939 - (Tm.beg r (Tm.dt (start / 1440).toNat)).toNat) (Tm.beg r (Tm.dt (start / 1440).toNat)).toNat [] [] 0
    simp at this ⊢; omega
  · simp
noncomputable def atB (e : Evt) (at_ : Int) : Bool :=
  if e.again = false then decide (at_ = e.start)
  else if Tm.memB e.ex at_ = true ∨ stampB at_ = false then false
  else if Tm.memB e.plus at_ = true then true
  else Tm.memB (Tm.timesL e.rule e.start (at_ / 1440 + 1)) at_
set_option maxRecDepth 100000 in
set_option maxHeartbeats 4000000 in
theorem rat11_any (e : Evt) (A1 A2 A3 A4 A5 A6 A7 : Option Addr) (c1 c2 c3 c4 c5 c6 c7 : Nat) (at_ : Int) (w : World) (hst : -9223372036854775808 ≤ e.start ∧ e.start ≤ 9223372036854775807) (hx : e.ex.length ≤ 1000000) (hp : e.plus.length ≤ 1000000) (h : EAt w e A1 A2 A3 A4 A5 A6 A7 c1 c2 c3 c4 c5 c6 c7) :
    Calls Tryz.prog 15 #[.agg (ecells e A1 A2 A3 A4 A5 A6 A7 c1 c2 c3 c4 c5 c6 c7), .int .i64 at_] w fun q w' => q = .returned (.bool (atB e at_)) ∧ Below w.heap.size w w' := by
  obtain ⟨W1, hW1⟩ : ∃ W1, w.alloc (.cells (ecells e A1 A2 A3 A4 A5 A6 A7 c1 c2 c3 c4 c5 c6 c7) 32) = W1 := ⟨_, rfl⟩
  have hB1 : Below w.heap.size w W1 := by rw [← hW1]; exact (Below.refl _ _).alloc (Nat.le_refl _) _
  have hbx : W1.heap[w.heap.size]? = some (.cells (ecells e A1 A2 A3 A4 A5 A6 A7 c1 c2 c3 c4 c5 c6 c7) 32 (0, 0)) := by rw [← hW1]; exact heap_alloc_new _ _
  have HBX := Lib.hid hbx
  have HE := Lib.hid (h.below hB1)
  have HB1 := Lib.hid hB1
  have E1 := Lib.hid hW1
  have b0 := blk_cell hbx (i := 0) (v := .int .i64 e.start) rfl
  have b3 := blk_cell hbx (i := 3) (v := .bool e.again) rfl
  have b4 := blk_cell hbx (i := 4) (v := .int .i64 e.rule.freq) rfl
  have b5 := blk_cell hbx (i := 5) (v := .int .i64 e.rule.iv) rfl
  have b6 := blk_cell hbx (i := 6) (v := .int .i64 e.rule.count) rfl
  have b7 := blk_cell hbx (i := 7) (v := .int .i64 e.rule.until_) rfl
  have b8 := blk_cell hbx (i := 8) (v := .slice A1 e.rule.bm.length c1) rfl
  have b9 := blk_cell hbx (i := 9) (v := .slice A2 e.rule.bd.length c2) rfl
  have b10 := blk_cell hbx (i := 10) (v := .slice A3 e.rule.bw.length c3) rfl
  have b11 := blk_cell hbx (i := 11) (v := .slice A4 e.rule.bs.length c4) rfl
  have b12 := blk_cell hbx (i := 12) (v := .int .i64 e.rule.start) rfl
  have b13 := blk_cell hbx (i := 13) (v := .slice A5 e.ex.length c5) rfl
  have b14 := blk_cell hbx (i := 14) (v := .slice A6 e.plus.length c6) rfl
  have HX := Lib.hid (rin11_any e.ex at_ A5 c5 W1 hx HE.out.s5)
  have HPl := Lib.hid (rin11_any e.plus at_ A6 c6 W1 hp HE.out.s6)
  have HSt := Lib.hid (rstamp11_any at_ W1)
  obtain ⟨r, hr⟩ : ∃ r, atB e at_ = r := ⟨_, rfl⟩
  have HR : Hid ((if e.again = false then decide (at_ = e.start) else if Tm.memB e.ex at_ = true ∨ stampB at_ = false then false else if Tm.memB e.plus at_ = true then true else Tm.memB (Tm.timesL e.rule e.start (at_ / 1440 + 1)) at_) = r) := hr
  rw [hr]
  have HT := Lib.hid (rtimes_all e.rule A1 A2 A3 A4 c1 c2 c3 c4 e.start (at_ / 1440 + 1) hst W1 HE.out.r)
  have HTL := Lib.hid (timesL_len e.rule e.start (at_ / 1440 + 1))
  have hsb : stampB at_ = true → 0 ≤ at_ ∧ at_ < 158310720 := fun q => by unfold stampB at q; simpa using q
  have HSB := Lib.hid hsb
  generalize Tm.timesL e.rule e.start (at_ / 1440 + 1) = tl at *
  generalize Tm.memB e.ex at_ = m1 at *
  generalize Tm.memB e.plus at_ = m2 at *
  generalize stampB at_ = m3 at *
  obtain ⟨start, long, world, again, rule, ex, plus, ch⟩ := e
  unfold ecells at E1
  unfold rcells at HT
  unfold ecells
  simp only at *
  clear h hW1 hB1 hbx hr hsb
  cases again with
  | false =>
    go_enter Tryz.func15, Tryz.ntmps15
    go_upto_region 1 with fail
    rw [E1.out]
    go_wp2_with fail
    go_ret
    exact ⟨ret_bool (by rw [← HR.out, Bool.eq_iff_iff]; simp), HB1.out⟩
  | true =>
    have HR2 : Hid (r = if m1 = true ∨ m3 = false then false else if m2 = true then true else Tm.memB tl at_) := by show _ = _; rw [← HR.out]; simp
    clear HR
    have hways : m1 = true ∨ m1 = false ∧ m3 = false ∨ m1 = false ∧ m3 = true ∧ m2 = true ∨ m1 = false ∧ m3 = true ∧ m2 = false := by cases m1 <;> cases m2 <;> cases m3 <;> simp
    rcases hways with rfl | ⟨rfl, rfl⟩ | ⟨rfl, rfl, rfl⟩ | ⟨rfl, rfl, rfl⟩
    · have E : Hid (r = false) := by show _ = _; rw [HR2.out]; simp
      go_enter Tryz.func15, Tryz.ntmps15
      go_upto_region 1 with fail
      rw [E1.out]
      go_wp2_with fail
      go_at_call 44
      refine HX.out.mono ?_
      rintro q w' ⟨rfl, rfl⟩
      go_wp2_with fail
      go_ret
      exact ⟨ret_bool E.out.symm, HB1.out⟩
    · have E : Hid (r = false) := by show _ = _; rw [HR2.out]; simp
      go_enter Tryz.func15, Tryz.ntmps15
      go_upto_region 1 with fail
      rw [E1.out]
      go_wp2_with fail
      go_at_call 44
      refine HX.out.mono ?_
      rintro q w' ⟨rfl, rfl⟩
      go_wp2_with fail
      go_at_call 31
      refine HSt.out.mono ?_
      rintro q w' ⟨rfl, rfl⟩
      go_wp2_with fail
      go_ret
      exact ⟨ret_bool E.out.symm, HB1.out⟩
    · have E : Hid (r = true) := by show _ = _; rw [HR2.out]; simp
      go_enter Tryz.func15, Tryz.ntmps15
      go_upto_region 1 with fail
      rw [E1.out]
      go_wp2_with fail
      go_at_call 44
      refine HX.out.mono ?_
      rintro q w' ⟨rfl, rfl⟩
      go_wp2_with fail
      go_at_call 31
      refine HSt.out.mono ?_
      rintro q w' ⟨rfl, rfl⟩
      go_wp2_with fail
      go_at_call 44
      refine HPl.out.mono ?_
      rintro q w' ⟨rfl, rfl⟩
      go_wp2_with fail
      go_ret
      exact ⟨ret_bool E.out.symm, HB1.out⟩
    · have E : Hid (r = Tm.memB tl at_) := by show _ = _; rw [HR2.out]; simp
      have hb := HSB.out rfl
      have q1 : at_.tdiv 1440 = at_ / 1440 := Int.tdiv_eq_ediv_of_nonneg hb.1
      have q2 : IntKind.i64.wrap (at_ / 1440 + 1) = at_ / 1440 + 1 := by rw [IntKind.wrap_i64]; omega
      go_enter Tryz.func15, Tryz.ntmps15
      go_upto_region 1 with fail
      rw [E1.out]
      go_wp2_with fail
      go_at_call 44
      refine HX.out.mono ?_
      rintro q w' ⟨rfl, rfl⟩
      go_wp2_with fail
      go_at_call 31
      refine HSt.out.mono ?_
      rintro q w' ⟨rfl, rfl⟩
      go_wp2_with fail
      go_at_call 44
      refine HPl.out.mono ?_
      rintro q w' ⟨rfl, rfl⟩
      go_wp2_with fail
      go_at_call 43
      refine HT.out.mono ?_
      rintro q w3 ⟨A', c', rfl, hs, hb3⟩
      have HI := Lib.hid (rin11_any tl at_ A' c' w3 (by have := HTL.out; omega) hs)
      have HB3 := Lib.hid (HB1.out.trans (hb3.mono HB1.out.size))
      clear hs hb3
      go_wp2_with fail
      go_at_call 44
      refine HI.out.mono ?_
      rintro q w' ⟨rfl, rfl⟩
      go_wp2_with fail
      go_ret
      exact ⟨ret_bool E.out.symm, HB3.out⟩
end Go.Proofs.YtfjmofefciopmaaGreat
end
section
namespace Go.Proofs.YtfjmofefciopmaaGreat
open Go.ChangeShapes Go.WideShapes Go.ChangeAt Go.RowKit Go.Joins Sp Ev Qr
theorem load_event (e : Evt) (A1 A2 A3 A4 A5 A6 A7 : Option Addr) (c1 c2 c3 c4 c5 c6 c7 : Nat) (w : World) (b : Nat) (h : ∀ (k : Nat) (v : Value), (ecells e A1 A2 A3 A4 A5 A6 A7 c1 c2 c3 c4 c5 c6 c7)[k]? = some v → w.cell? ⟨b, k, none⟩ = some v) :
    (Instr.loadAt 32 (.pointer (some ⟨b, 0, none⟩))).run Tryz.prog w = .ok (.agg (ecells e A1 A2 A3 A4 A5 A6 A7 c1 c2 c3 c4 c5 c6 c7)) w := by
  unfold ecells at h ⊢
  have h0 : w.cell? ⟨b, 0, none⟩ = some (.int .i64 e.start) := h 0 _ rfl
  have h1 : w.cell? ⟨b, 1, none⟩ = some (.int .i64 e.long) := h 1 _ rfl
  have h2 : w.cell? ⟨b, 2, none⟩ = some (.bool e.world) := h 2 _ rfl
  have h3 : w.cell? ⟨b, 3, none⟩ = some (.bool e.again) := h 3 _ rfl
  have h4 : w.cell? ⟨b, 4, none⟩ = some (.int .i64 e.rule.freq) := h 4 _ rfl
  have h5 : w.cell? ⟨b, 5, none⟩ = some (.int .i64 e.rule.iv) := h 5 _ rfl
  have h6 : w.cell? ⟨b, 6, none⟩ = some (.int .i64 e.rule.count) := h 6 _ rfl
  have h7 : w.cell? ⟨b, 7, none⟩ = some (.int .i64 e.rule.until_) := h 7 _ rfl
  have h8 : w.cell? ⟨b, 8, none⟩ = some (.slice A1 e.rule.bm.length c1) := h 8 _ rfl
  have h9 : w.cell? ⟨b, 9, none⟩ = some (.slice A2 e.rule.bd.length c2) := h 9 _ rfl
  have h10 : w.cell? ⟨b, 10, none⟩ = some (.slice A3 e.rule.bw.length c3) := h 10 _ rfl
  have h11 : w.cell? ⟨b, 11, none⟩ = some (.slice A4 e.rule.bs.length c4) := h 11 _ rfl
  have h12 : w.cell? ⟨b, 12, none⟩ = some (.int .i64 e.rule.start) := h 12 _ rfl
  have h13 : w.cell? ⟨b, 13, none⟩ = some (.slice A5 e.ex.length c5) := h 13 _ rfl
  have h14 : w.cell? ⟨b, 14, none⟩ = some (.slice A6 e.plus.length c6) := h 14 _ rfl
  have h15 : w.cell? ⟨b, 15, none⟩ = some (.slice A7 e.ch.length c7) := h 15 _ rfl
  clear h
  simp [go_sem, h0, h1, h2, h3, h4, h5, h6, h7, h8, h9, h10, h11, h12, h13, h14, h15]
theorem exec_load {P : Program} {o : Oper} {a : Act} {w : World} {t : TypeId} {p : Operand} {v : Value} (ho : o.op = .load t p) (hl : (Instr.loadAt t (a.eval p)).run P w = .ok v w) : (execOp a.eval o).run P w = .ok (.value v) w := by
  unfold execOp
  rw [ho]
  simp [hl]
theorem wpList_load {P : Program} {ops : Array Oper} {Q : Exit → Act → World → Prop} {o : Oper} {rest : List Oper} {a : Act} {w : World} {t : TypeId} {p : Operand} {v : Value} (ho : o.op = .load t p) (hw : Region.wanted o (yielded ops a.tmps) = true)
    (hl : (Instr.loadAt t (a.eval p)).run P w = .ok v w) (h : wpList P ops Q rest (a.put o.dst v) w) : wpList P ops Q (o :: rest) a w :=
  wpList_step fun K hK => by
    rw [if_pos hw]
    unfold Oper.wp
    rw [exec_load ho hl]
    exact hK _ _ h
end Go.Proofs.YtfjmofefciopmaaGreat
end
