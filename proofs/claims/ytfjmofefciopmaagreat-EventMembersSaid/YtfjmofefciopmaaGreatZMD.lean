import Derived.Test.YtfjmofefciopmaaGreatZMA
import Derived.Test.YtfjmofefciopmaaGreatZMB
import Derived.Test.YtfjmofefciopmaaGreatRows
import Derived.Deep.QuietTactic
import Derived.BigQuiet
import Derived.BigRegion
import Derived.Test.YtfjmofefciopmaaGreatZMC
/- A rule in memory. -/
section
namespace Go.Proofs.YtfjmofefciopmaaGreat
open Go.ChangeShapes Go.WideShapes Go.ChangeAt Go.RowKit Qr Ck
def rcells (r : R) (A1 A2 A3 A4 : Option Addr) (c1 c2 c3 c4 : Nat) : Array Value :=
  #[.int .i64 r.freq, .int .i64 r.iv, .int .i64 r.count, .int .i64 r.until_, .slice A1 r.bm.length c1, .slice A2 r.bd.length c2, .slice A3 r.bw.length c3, .slice A4 r.bs.length c4, .int .i64 r.start]
structure RAt (w : World) (r : R) (A1 A2 A3 A4 : Option Addr) (c1 c2 c3 c4 : Nat) : Prop where
  s1 : Sl w A1 r.bm.length c1 (iv r.bm)
  s2 : Sl w A2 r.bd.length c2 (iv r.bd)
  s3 : Sl w A3 r.bw.length c3 (sv r.bw)
  s4 : Sl w A4 r.bs.length c4 (iv r.bs)
theorem RAt.below {w w' : World} {r : R} {A1 A2 A3 A4 : Option Addr} {c1 c2 c3 c4 : Nat} {B : Nat} (h : RAt w r A1 A2 A3 A4 c1 c2 c3 c4) (hb : Below B w w') (hB : w.heap.size ≤ B) : RAt w' r A1 A2 A3 A4 c1 c2 c3 c4 :=
  ⟨h.s1.below hb hB, h.s2.below hb hB, h.s3.below hb hB, h.s4.below hb hB⟩
theorem box_at {w : World} {C : Array Value} {t : TypeId} {k : Nat} {v : Value} (h : C[k]? = some v) : ∀ g : Gr (w.alloc (.cells C t)), g.val.cell? ⟨w.heap.size, k, none⟩ = some v := fun g => g.cell1 k v h
theorem isEmpty_len {α : Type} (l : List α) : (!l.isEmpty) = true ↔ 0 < l.length := by cases l <;> simp
theorem below_of {w : World} {o o2 : Obj} (g : Gr (w.alloc o)) : Below w.heap.size w (g.val.alloc o2) := g.below1.alloc g.below1.size _
theorem below_ofD {w : World} {o : Obj} (g : Gr (w.alloc o)) (o2 : Obj) : Below w.heap.size w (g.val.alloc o2).drew := (g.below1.alloc g.below1.size _).drew
end Go.Proofs.YtfjmofefciopmaaGreat
end
section
namespace Go.Proofs.YtfjmofefciopmaaGreat
open Go.ChangeShapes Go.WideShapes Go.ChangeAt Go.RowKit Sp
theorem same_cons {x y : Spn} {a b : List Spn} : (x :: a = y :: b) ↔ (x.1 = y.1 ∧ x.2 = y.2) ∧ a = b := by
  rw [List.cons.injEq, Prod.ext_iff]
theorem rsame_any (a b : List Spn) (A B : Option Addr) (c d : Nat) (w : World) (ha : Sl w A a.length c (sv a)) (hb : Sl w B b.length d (sv b)) :
    Calls Tryz.prog 12 #[.slice A a.length c, .slice B b.length d] w fun e w' => e = .returned (.bool (decide (a = b))) ∧ Below w.heap.size w w' := by
  have hlc : a.length ≤ 9223372036854775807 := Nat.le_trans ha.le ha.cap
  have HA := Lib.hid ha
  have HB := Lib.hid hb
  clear ha hb
  obtain ⟨r, hr⟩ : ∃ r, decide (a = b) = r := ⟨_, rfl⟩
  rw [hr]
  by_cases hl : a.length = b.length
  · have hlb : ((a.length : Int) != (b.length : Int)) = false := by simp; omega
    have HR : Hid (decide (a.drop 0 = b.drop 0) = r) := hr
    have HL := Lib.hid hl
    clear hr hl
    go_enter Tryz.func12, Tryz.ntmps12
    go_wp2
    go_loopw [13] (fun s13 wr => ∃ (i : Nat) (g : Gr w), wr = g.val ∧ i ≤ a.length ∧ s13 = .int .i64 i ∧ Hid (decide (a.drop i = b.drop i) = r)) (fun s13 _ => a.length - (intOf s13).toNat)
    case atStart => exact ⟨0, ⟨w, Below.refl _ _⟩, rfl, Nat.zero_le _, rfl, HR⟩
    case round =>
      obtain ⟨i, g, rfl, hi, rfl, HI⟩ := hrel
      by_cases hlt : i < a.length
      · have hltb : i < b.length := by rw [← HL.out]; exact hlt
        have hiz : (i : Int) < a.length := by omega
        have hib : (i : Int) < b.length := by omega
        obtain ⟨p, off, rfl, hp, c1, c2⟩ := (HA.out.gr g).span (List.getElem?_eq_getElem hlt)
        obtain ⟨q, off2, rfl, hq, d1, d2⟩ := (HB.out.gr g).span (List.getElem?_eq_getElem hltb)
        have hst : Hid (decide ((a[i].1 = b[i].1 ∧ a[i].2 = b[i].2) ∧ a.drop (i + 1) = b.drop (i + 1)) = r) := by show _ = _; rw [← HI.out, decide_eq_decide, drop_step hlt, drop_step hltb, same_cons]
        clear HI
        generalize a[i] = s at *
        generalize b[i] = t at *
        obtain ⟨x, y⟩ := s
        obtain ⟨u, v⟩ := t
        simp only at c1 c2 d1 d2 hst
        by_cases h1 : x = u
        · subst h1
          by_cases h2 : y = v
          · subst h2
            have E : Hid (decide (a.drop (i + 1) = b.drop (i + 1)) = r) := by show _ = _; rw [← hst.out, decide_eq_decide]; exact ⟨fun h => ⟨⟨rfl, rfl⟩, h⟩, fun h => h.2⟩
            clear hst
            go_wp2_with fail
            go_region
            go_wp2_with fail
            go_roundw
            case rel => exact ⟨i + 1, ⟨g.val.drew, g.ok.drew⟩, rfl, hlt, by go_num, E⟩
            case measure => simp [intOf]; omega
          · have E : Hid (r = false) := by show _ = _; rw [← hst.out, decide_eq_false_iff_not]; exact fun h => h2 h.1.2
            clear hst
            go_wp2_with fail
            go_region
            go_wp2_with fail
            go_ret
            exact ⟨ret_bool E.out.symm, g.ok.drew⟩
        · have E : Hid (r = false) := by show _ = _; rw [← hst.out, decide_eq_false_iff_not]; exact fun h => h1 h.1.1
          clear hst
          go_wp2_with fail
          go_region
          go_wp2_with fail
          go_ret
          exact ⟨ret_bool E.out.symm, g.ok.drew⟩
      · obtain rfl : i = a.length := by omega
        have E : Hid (r = true) := by show _ = _; rw [← HI.out, decide_eq_true_eq, List.drop_of_length_le (Nat.le_refl _), List.drop_of_length_le (by rw [HL.out]; exact Nat.le_refl _)]
        go_wp2_with fail
        go_ret
        exact ⟨ret_bool E.out.symm, g.ok⟩
  · have hlb : ((a.length : Int) != (b.length : Int)) = true := by simp; omega
    have E : Hid (r = false) := by show _ = _; rw [← hr, decide_eq_false_iff_not]; exact fun h => hl (by rw [h])
    clear hr
    go_enter Tryz.func12, Tryz.ntmps12
    go_wp2
    go_ret
    exact ⟨ret_bool E.out.symm, Below.refl _ _⟩
end Go.Proofs.YtfjmofefciopmaaGreat
end
section
namespace Go.Proofs.YtfjmofefciopmaaGreat
open Go.ChangeShapes Go.WideShapes Go.ChangeAt Go.RowKit Qr
theorem getD_at {α : Type} {l : List α} {i : Nat} (h : i < l.length) (d : α) : l.getD i d = l[i] := by rw [List.getD_eq_getElem?_getD, List.getElem?_eq_getElem h]; rfl
set_option maxRecDepth 100000 in
set_option maxHeartbeats 2000000 in
theorem rrow_any (l : List Int) (A : Option Addr) (c : Nat) (most : Int) (below : Bool) (w : World) (hm : 0 ≤ most ∧ most ≤ 1000) (hs : Sl w A l.length c (iv l)) :
    Calls Tryz.prog 62 #[.slice A l.length c, .int .i64 most, .bool below] w fun e w' => e = .returned (.bool (rowB most below l)) ∧ Below w.heap.size w w' := by
  have hlc : l.length ≤ 9223372036854775807 := Nat.le_trans hs.le hs.cap
  have HS := Lib.hid hs
  clear hs
  obtain ⟨r, hr⟩ : ∃ r, rowB most below l = r := ⟨_, rfl⟩
  rw [hr]
  have HY := Lib.hid (fun h => rowB_iff (most := most) (below := below) (l := l) |>.2 h)
  have HN := Lib.hid (fun (i : Nat) (hi : i < l.length) (h : ¬ okN most below l i) => rowB_no hi h)
  rw [hr] at HY HN
  clear hr
  go_enter Tryz.func62, Tryz.ntmps62
  go_wp2
  go_loopw [10] (fun s10 wr => ∃ (i : Nat) (g : Gr w), wr = g.val ∧ i ≤ l.length ∧ s10 = .int .i64 i ∧ Hid (∀ j, j < i → okN most below l j)) (fun s10 _ => l.length - (intOf s10).toNat)
  case atStart => exact ⟨0, ⟨w, Below.refl _ _⟩, rfl, Nat.zero_le _, rfl, fun j hj => absurd hj (Nat.not_lt_zero _)⟩
  case round =>
    obtain ⟨i, g, rfl, hi, rfl, HI⟩ := hrel
    by_cases hlt : i < l.length
    · have hiz : (i : Int) < l.length := by omega
      obtain ⟨b, off, rfl, hb, hcell⟩ := HS.out.intG (List.getElem?_eq_getElem hlt)
      have c1 := hcell g
      have hx : l.getD i 0 = l[i] := getD_at hlt 0
      have hrange := HN.out i hlt
      generalize l[i] = x at *
      clear hcell
      have hw : IntKind.i64.wrap (-most) = -most := by rw [IntKind.wrap_i64]; omega
      by_cases f1 : most < x
      · have E : Hid (r = false) := hrange (fun h => by have := h.1; omega)
        have d1 : decide (most < x) = true := decide_eq_true f1
        clear hrange hx
        go_wp2_with fail
        go_region
        go_wp2_with fail
        go_ret
        exact ⟨ret_bool E.out.symm, g.ok.drew⟩
      have d1 : decide (most < x) = false := decide_eq_false f1
      by_cases f2 : x < -most
      · have E : Hid (r = false) := hrange (fun h => by have := h.2.1; omega)
        have d2 : decide (x < -most) = true := decide_eq_true f2
        clear hrange hx
        go_wp2_with fail
        go_region
        go_wp2_with fail
        go_ret
        exact ⟨ret_bool E.out.symm, g.ok.drew⟩
      have d2 : decide (x < -most) = false := decide_eq_false f2
      by_cases f3 : x = 0
      · have E : Hid (r = false) := hrange (fun h => by have := h.2.2.1; omega)
        have d3 : (x == 0) = true := by simpa using f3
        clear f3
        clear hrange hx
        go_wp2_with fail
        go_region
        go_wp2_with fail
        go_ret
        exact ⟨ret_bool E.out.symm, g.ok.drew⟩
      have d3 : (x == 0) = false := by simpa using f3
      by_cases f4 : below = false ∧ x < 0
      · have E : Hid (r = false) := hrange (fun h => by rcases h.2.2.2.1 with h | h; rw [f4.1] at h; cases h; omega)
        have d4 : decide (x < 0) = true := decide_eq_true f4.2
        obtain rfl := f4.1
        clear f4
        clear hrange hx
        go_wp2_with fail
        go_region
        go_wp2_with fail
        go_ret
        exact ⟨ret_bool E.out.symm, g.ok.drew⟩
      have hbel : below = true ∨ 0 ≤ x := by
        cases below with
        | true => exact .inl rfl
        | false => exact .inr (by have : ¬ x < 0 := fun h => f4 ⟨rfl, h⟩
                                  omega)
      have hd4 : below = true ∨ (below = false ∧ decide (x < 0) = false) := by
        cases below with
        | true => exact .inl rfl
        | false => exact .inr ⟨rfl, decide_eq_false (fun h => f4 ⟨rfl, h⟩)⟩
      clear f4
      cases i with
      | zero =>
        have E : Hid (∀ j, j < 0 + 1 → okN most below l j) := by
          intro j hj
          obtain rfl : j = 0 := by omega
          exact ⟨by omega, by omega, by rw [hx]; exact f3, by rw [hx]; exact hbel, .inl rfl⟩
        clear f3 hbel
        rw [Nat.add_zero] at c1
        rcases hd4 with rfl | ⟨rfl, d4⟩
        all_goals
          clear hrange hx
          go_wp2_with fail
          go_region
          go_wp2_with fail
          go_roundw
          case rel => exact ⟨_ + 1, ⟨g.val.drew, g.ok.drew⟩, rfl, hlt, by go_num, E⟩
          case measure => simp [intOf]; omega
      | succ k =>
        obtain ⟨b', off', e', _, hcell'⟩ := HS.out.intG (List.getElem?_eq_getElem (show k < l.length by omega))
        obtain ⟨rfl, rfl⟩ : b = b' ∧ off = off' := by simpa using e'
        have c0 := hcell' g
        have hy : l.getD k 0 = l[k] := getD_at (by omega) 0
        generalize l[k] = y at *
        clear hcell' e'
        have hk1 : ((k + 1 : Nat) : Int) - 1 = k := by omega
        by_cases f5 : x ≤ y
        · have E : Hid (r = false) := hrange (fun h => by rcases h.2.2.2.2 with h | h; omega; rw [hx, Nat.add_sub_cancel, hy] at h; omega)
          have d5 : decide (x ≤ y) = true := decide_eq_true f5
          clear f3 hbel
          rcases hd4 with rfl | ⟨rfl, d4⟩
          all_goals
            clear hrange hx
            go_wp2_with fail
            go_region
            go_wp2_with fail
            go_ret
            exact ⟨ret_bool E.out.symm, g.ok.drew⟩
        · have E : Hid (∀ j, j < k + 1 + 1 → okN most below l j) := by
            intro j hj
            by_cases hj2 : j < k + 1
            · exact HI.out j hj2
            · obtain rfl : j = k + 1 := by omega
              exact ⟨by omega, by omega, by rw [hx]; exact f3, by rw [hx]; exact hbel, .inr (by rw [hx, Nat.add_sub_cancel, hy]; omega)⟩
          have d5 : decide (x ≤ y) = false := decide_eq_false f5
          clear f3 hbel
          rcases hd4 with rfl | ⟨rfl, d4⟩
          all_goals
            clear hrange hx
            go_wp2_with fail
            go_region
            go_wp2_with fail
            go_roundw
            case rel => exact ⟨_ + 1, ⟨g.val.drew, g.ok.drew⟩, rfl, hlt, by go_num, E⟩
            case measure => simp [intOf]; omega
    · obtain rfl : i = l.length := by omega
      have E : Hid (r = true) := HY.out HI.out
      go_wp2_with fail
      go_ret
      exact ⟨ret_bool E.out.symm, g.ok⟩
end Go.Proofs.YtfjmofefciopmaaGreat
end
section
namespace Go.Proofs.YtfjmofefciopmaaGreat
open Go.ChangeShapes Go.WideShapes Go.ChangeAt Go.RowKit Qr Ck
theorem rints_any (a b : List Int) (A B : Option Addr) (c d : Nat) (w : World) (ha : Sl w A a.length c (iv a)) (hb : Sl w B b.length d (iv b)) :
    Calls Tryz.prog 61 #[.slice A a.length c, .slice B b.length d] w fun e w' => e = .returned (.bool (decide (a = b))) ∧ Below w.heap.size w w' := by
  have hlc : a.length ≤ 9223372036854775807 := Nat.le_trans ha.le ha.cap
  have HA := Lib.hid ha
  have HB := Lib.hid hb
  clear ha hb
  obtain ⟨r, hr⟩ : ∃ r, decide (a = b) = r := ⟨_, rfl⟩
  rw [hr]
  by_cases hl : a.length = b.length
  · have hlb : ((a.length : Int) != (b.length : Int)) = false := by simp; omega
    have HR : Hid (decide (a.drop 0 = b.drop 0) = r) := hr
    have HL := Lib.hid hl
    have hbc : b.length ≤ 9223372036854775807 := by omega
    clear hr hl
    go_enter Tryz.func61, Tryz.ntmps61
    go_wp2
    go_loopw [13] (fun s13 wr => ∃ (i : Nat) (g : Gr w), wr = g.val ∧ i ≤ a.length ∧ s13 = .int .i64 i ∧ Hid (decide (a.drop i = b.drop i) = r)) (fun s13 _ => a.length - (intOf s13).toNat)
    case atStart => exact ⟨0, ⟨w, Below.refl _ _⟩, rfl, Nat.zero_le _, rfl, HR⟩
    case round =>
      obtain ⟨i, g, rfl, hi, rfl, HI⟩ := hrel
      by_cases hlt : i < a.length
      · have hltb : i < b.length := by rw [← HL.out]; exact hlt
        have hiz : (i : Int) < a.length := by omega
        have hib : (i : Int) < b.length := by omega
        obtain ⟨p, off, rfl, hp, hc1⟩ := HA.out.intG (List.getElem?_eq_getElem hlt)
        obtain ⟨q, off2, rfl, hq, hd1⟩ := HB.out.intG (List.getElem?_eq_getElem hltb)
        have c1 := hc1 g
        have d1 := hd1 g
        clear hc1 hd1
        have hst : Hid (decide (a[i] = b[i] ∧ a.drop (i + 1) = b.drop (i + 1)) = r) := by show _ = _; rw [← HI.out, decide_eq_decide, drop_step hlt, drop_step hltb, List.cons.injEq]
        clear HI
        generalize a[i] = x at *
        generalize b[i] = u at *
        by_cases h1 : x = u
        · have h1b : (x != u) = false := by simpa using h1
          have E : Hid (decide (a.drop (i + 1) = b.drop (i + 1)) = r) := by show _ = _; rw [← hst.out, decide_eq_decide]; exact ⟨fun h => ⟨h1, h⟩, fun h => h.2⟩
          clear hst
          subst h1
          go_wp2_with fail
          try (go_region; go_wp2_with fail)
          go_roundw
          case rel => first | exact ⟨i + 1, ⟨g.val.drew, g.ok.drew⟩, rfl, hlt, by go_num, E⟩ | exact ⟨i + 1, g, rfl, hlt, by go_num, E⟩
          case measure => simp [intOf]; omega
        · have h1b : (x != u) = true := by simpa using h1
          have E : Hid (r = false) := by show _ = _; rw [← hst.out, decide_eq_false_iff_not]; exact fun h => h1 h.1
          clear hst
          go_wp2_with fail
          try (go_region; go_wp2_with fail)
          go_ret
          first | exact ⟨ret_bool E.out.symm, g.ok.drew⟩ | exact ⟨ret_bool E.out.symm, g.ok⟩
      · obtain rfl : i = a.length := by omega
        have E : Hid (r = true) := by show _ = _; rw [← HI.out, decide_eq_true_eq, List.drop_of_length_le (Nat.le_refl _), List.drop_of_length_le (by rw [HL.out]; exact Nat.le_refl _)]
        go_wp2_with fail
        go_ret
        exact ⟨ret_bool E.out.symm, g.ok⟩
  · have hlb : ((a.length : Int) != (b.length : Int)) = true := by simp; omega
    have E : Hid (r = false) := by show _ = _; rw [← hr, decide_eq_false_iff_not]; exact fun h => hl (by rw [h])
    clear hr
    go_enter Tryz.func61, Tryz.ntmps61
    go_wp2
    go_ret
    exact ⟨ret_bool E.out.symm, Below.refl _ _⟩
end Go.Proofs.YtfjmofefciopmaaGreat
end
section
namespace Go.Proofs.YtfjmofefciopmaaGreat
open Go.ChangeShapes Go.WideShapes Go.ChangeAt Go.RowKit Qr Ck
end Go.Proofs.YtfjmofefciopmaaGreat
end
