import Derived.Test.YtbclfcghacedfaaGreatDoorRows
import Derived.Test.YtbclfcghacedfaaGreatDoorZMB
import Derived.Test.YtbclfcghacedfaaGreatDoorZMA
import Derived.Test.YtbclfcghacedfaaGreatDoorZMC
import Derived.BigRegion
import Derived.Deep.QuietTactic
import Derived.BigQuiet
/- Contracts of the document's rules: rows of numbers. -/
section
namespace Go.Proofs.YtbclfcghacedfaaGreatDoor
open Go.ChangeShapes Go.WideShapes Go.ChangeAt Go.RowKit Qr

theorem getD_at {α : Type} {l : List α} {i : Nat} (h : i < l.length) (d : α) : l.getD i d = l[i] := by rw [List.getD_eq_getElem?_getD, List.getElem?_eq_getElem h]; rfl

set_option maxRecDepth 100000 in
set_option maxHeartbeats 2000000 in
theorem rrow_any (l : List Int) (A : Option Addr) (c : Nat) (most : Int) (below : Bool) (w : World) (hm : 0 ≤ most ∧ most ≤ 1000) (hs : Sl w A l.length c (iv l)) :
    Calls Tryz.prog 33 #[.slice A l.length c, .int .i64 most, .bool below] w fun e w' => e = .returned (.bool (rowB most below l)) ∧ Below w.heap.size w w' := by
  have hlc : l.length ≤ 9223372036854775807 := Nat.le_trans hs.le hs.cap
  have HS := Lib.hid hs
  clear hs
  obtain ⟨r, hr⟩ : ∃ r, rowB most below l = r := ⟨_, rfl⟩
  rw [hr]
  have HY := Lib.hid (fun h => rowB_iff (most := most) (below := below) (l := l) |>.2 h)
  have HN := Lib.hid (fun (i : Nat) (hi : i < l.length) (h : ¬ okN most below l i) => rowB_no hi h)
  rw [hr] at HY HN
  clear hr
  go_enter Tryz.func33, Tryz.ntmps33
  go_wp2
  go_loopw [10] (fun s10 wr => ∃ (i : Nat) (g : Gr w), wr = g.val ∧ i ≤ l.length ∧ s10 = .int .i64 i ∧ Hid (∀ j, j < i → okN most below l j)) (fun s10 _ => l.length - (intOf s10).toNat)
  case atStart => exact ⟨0, ⟨w, Below.refl _ _⟩, rfl, Nat.zero_le _, rfl, fun j hj => absurd hj (Nat.not_lt_zero _)⟩
  case round =>
    obtain ⟨i, g, rfl, hi, rfl, HI⟩ := hrel
    by_cases hlt : i < l.length
    · have hiz : (i : Int) < l.length := by omega
      obtain ⟨b, off, rfl, hb, hcell⟩ := HS.out.intG (List.getElem?_eq_getElem hlt)
      have c1 := hcell g
      have hx : l.getD i 0 = l[i] := getD_at hlt 0
      have hrange := HN.out i hlt
      generalize l[i] = x at *
      clear hcell
      have hw : IntKind.i64.wrap (-most) = -most := by rw [IntKind.wrap_i64]; omega
      by_cases f1 : most < x
      · have E : Hid (r = false) := hrange (fun h => by have := h.1; omega)
        have d1 : decide (most < x) = true := decide_eq_true f1
        clear hrange hx
        go_wp2_with fail
        go_region
        go_wp2_with fail
        go_ret
        exact ⟨ret_bool E.out.symm, g.ok.drew⟩
      have d1 : decide (most < x) = false := decide_eq_false f1
      by_cases f2 : x < -most
      · have E : Hid (r = false) := hrange (fun h => by have := h.2.1; omega)
        have d2 : decide (x < -most) = true := decide_eq_true f2
        clear hrange hx
        go_wp2_with fail
        go_region
        go_wp2_with fail
        go_ret
        exact ⟨ret_bool E.out.symm, g.ok.drew⟩
      have d2 : decide (x < -most) = false := decide_eq_false f2
      by_cases f3 : x = 0
      · have E : Hid (r = false) := hrange (fun h => by have := h.2.2.1; omega)
        have d3 : (x == 0) = true := by simpa using f3
        clear f3
        clear hrange hx
        go_wp2_with fail
        go_region
        go_wp2_with fail
        go_ret
        exact ⟨ret_bool E.out.symm, g.ok.drew⟩
      have d3 : (x == 0) = false := by simpa using f3
      by_cases f4 : below = false ∧ x < 0
      · have E : Hid (r = false) := hrange (fun h => by rcases h.2.2.2.1 with h | h; rw [f4.1] at h; cases h; omega)
        have d4 : decide (x < 0) = true := decide_eq_true f4.2
        obtain rfl := f4.1
        clear f4
        clear hrange hx
        go_wp2_with fail
        go_region
        go_wp2_with fail
        go_ret
        exact ⟨ret_bool E.out.symm, g.ok.drew⟩
      have hbel : below = true ∨ 0 ≤ x := by
        cases below with
        | true => exact .inl rfl
        | false => exact .inr (by have : ¬ x < 0 := fun h => f4 ⟨rfl, h⟩
                                  omega)
      have hd4 : below = true ∨ (below = false ∧ decide (x < 0) = false) := by
        cases below with
        | true => exact .inl rfl
        | false => exact .inr ⟨rfl, decide_eq_false (fun h => f4 ⟨rfl, h⟩)⟩
      clear f4
      cases i with
      | zero =>
        have E : Hid (∀ j, j < 0 + 1 → okN most below l j) := by
          intro j hj
          obtain rfl : j = 0 := by omega
          exact ⟨by omega, by omega, by rw [hx]; exact f3, by rw [hx]; exact hbel, .inl rfl⟩
        clear f3 hbel
        rw [Nat.add_zero] at c1
        rcases hd4 with rfl | ⟨rfl, d4⟩
        all_goals
          clear hrange hx
          go_wp2_with fail
          go_region
          go_wp2_with fail
          go_roundw
          case rel => exact ⟨_ + 1, ⟨g.val.drew, g.ok.drew⟩, rfl, hlt, by go_num, E⟩
          case measure => simp [intOf]; omega
      | succ k =>
        obtain ⟨b', off', e', _, hcell'⟩ := HS.out.intG (List.getElem?_eq_getElem (show k < l.length by omega))
        obtain ⟨rfl, rfl⟩ : b = b' ∧ off = off' := by simpa using e'
        have c0 := hcell' g
        have hy : l.getD k 0 = l[k] := getD_at (by omega) 0
        generalize l[k] = y at *
        clear hcell' e'
        have hk1 : ((k + 1 : Nat) : Int) - 1 = k := by omega
        by_cases f5 : x ≤ y
        · have E : Hid (r = false) := hrange (fun h => by rcases h.2.2.2.2 with h | h; omega; rw [hx, Nat.add_sub_cancel, hy] at h; omega)
          have d5 : decide (x ≤ y) = true := decide_eq_true f5
          clear f3 hbel
          rcases hd4 with rfl | ⟨rfl, d4⟩
          all_goals
            clear hrange hx
            go_wp2_with fail
            go_region
            go_wp2_with fail
            go_ret
            exact ⟨ret_bool E.out.symm, g.ok.drew⟩
        · have E : Hid (∀ j, j < k + 1 + 1 → okN most below l j) := by
            intro j hj
            by_cases hj2 : j < k + 1
            · exact HI.out j hj2
            · obtain rfl : j = k + 1 := by omega
              exact ⟨by omega, by omega, by rw [hx]; exact f3, by rw [hx]; exact hbel, .inr (by rw [hx, Nat.add_sub_cancel, hy]; omega)⟩
          have d5 : decide (x ≤ y) = false := decide_eq_false f5
          clear f3 hbel
          rcases hd4 with rfl | ⟨rfl, d4⟩
          all_goals
            clear hrange hx
            go_wp2_with fail
            go_region
            go_wp2_with fail
            go_roundw
            case rel => exact ⟨_ + 1, ⟨g.val.drew, g.ok.drew⟩, rfl, hlt, by go_num, E⟩
            case measure => simp [intOf]; omega
    · obtain rfl : i = l.length := by omega
      have E : Hid (r = true) := HY.out HI.out
      go_wp2_with fail
      go_ret
      exact ⟨ret_bool E.out.symm, g.ok⟩
end Go.Proofs.YtbclfcghacedfaaGreatDoor
end

/- Contracts of the document's rules: the same numbers; numbers in decimal. -/
section
namespace Go.Proofs.YtbclfcghacedfaaGreatDoor
open Go.ChangeShapes Go.WideShapes Go.ChangeAt Go.RowKit Qr Ck

theorem rints_any (a b : List Int) (A B : Option Addr) (c d : Nat) (w : World) (ha : Sl w A a.length c (iv a)) (hb : Sl w B b.length d (iv b)) :
    Calls Tryz.prog 41 #[.slice A a.length c, .slice B b.length d] w fun e w' => e = .returned (.bool (decide (a = b))) ∧ Below w.heap.size w w' := by
  have hlc : a.length ≤ 9223372036854775807 := Nat.le_trans ha.le ha.cap
  have HA := Lib.hid ha
  have HB := Lib.hid hb
  clear ha hb
  obtain ⟨r, hr⟩ : ∃ r, decide (a = b) = r := ⟨_, rfl⟩
  rw [hr]
  by_cases hl : a.length = b.length
  · have hlb : ((a.length : Int) != (b.length : Int)) = false := by simp; omega
    have HR : Hid (decide (a.drop 0 = b.drop 0) = r) := hr
    have HL := Lib.hid hl
    have hbc : b.length ≤ 9223372036854775807 := by omega
    clear hr hl
    go_enter Tryz.func41, Tryz.ntmps41
    go_wp2
    go_loopw [13] (fun s13 wr => ∃ (i : Nat) (g : Gr w), wr = g.val ∧ i ≤ a.length ∧ s13 = .int .i64 i ∧ Hid (decide (a.drop i = b.drop i) = r)) (fun s13 _ => a.length - (intOf s13).toNat)
    case atStart => exact ⟨0, ⟨w, Below.refl _ _⟩, rfl, Nat.zero_le _, rfl, HR⟩
    case round =>
      obtain ⟨i, g, rfl, hi, rfl, HI⟩ := hrel
      by_cases hlt : i < a.length
      · have hltb : i < b.length := by rw [← HL.out]; exact hlt
        have hiz : (i : Int) < a.length := by omega
        have hib : (i : Int) < b.length := by omega
        obtain ⟨p, off, rfl, hp, hc1⟩ := HA.out.intG (List.getElem?_eq_getElem hlt)
        obtain ⟨q, off2, rfl, hq, hd1⟩ := HB.out.intG (List.getElem?_eq_getElem hltb)
        have c1 := hc1 g
        have d1 := hd1 g
        clear hc1 hd1
        have hst : Hid (decide (a[i] = b[i] ∧ a.drop (i + 1) = b.drop (i + 1)) = r) := by show _ = _; rw [← HI.out, decide_eq_decide, drop_step hlt, drop_step hltb, List.cons.injEq]
        clear HI
        generalize a[i] = x at *
        generalize b[i] = u at *
        by_cases h1 : x = u
        · have h1b : (x != u) = false := by simpa using h1
          have E : Hid (decide (a.drop (i + 1) = b.drop (i + 1)) = r) := by show _ = _; rw [← hst.out, decide_eq_decide]; exact ⟨fun h => ⟨h1, h⟩, fun h => h.2⟩
          clear hst
          subst h1
          go_wp2_with fail
          try (go_region; go_wp2_with fail)
          go_roundw
          case rel => first | exact ⟨i + 1, ⟨g.val.drew, g.ok.drew⟩, rfl, hlt, by go_num, E⟩ | exact ⟨i + 1, g, rfl, hlt, by go_num, E⟩
          case measure => simp [intOf]; omega
        · have h1b : (x != u) = true := by simpa using h1
          have E : Hid (r = false) := by show _ = _; rw [← hst.out, decide_eq_false_iff_not]; exact fun h => h1 h.1
          clear hst
          go_wp2_with fail
          try (go_region; go_wp2_with fail)
          go_ret
          first | exact ⟨ret_bool E.out.symm, g.ok.drew⟩ | exact ⟨ret_bool E.out.symm, g.ok⟩
      · obtain rfl : i = a.length := by omega
        have E : Hid (r = true) := by show _ = _; rw [← HI.out, decide_eq_true_eq, List.drop_of_length_le (Nat.le_refl _), List.drop_of_length_le (by rw [HL.out]; exact Nat.le_refl _)]
        go_wp2_with fail
        go_ret
        exact ⟨ret_bool E.out.symm, g.ok⟩
  · have hlb : ((a.length : Int) != (b.length : Int)) = true := by simp; omega
    have E : Hid (r = false) := by show _ = _; rw [← hr, decide_eq_false_iff_not]; exact fun h => hl (by rw [h])
    clear hr
    go_enter Tryz.func41, Tryz.ntmps41
    go_wp2
    go_ret
    exact ⟨ret_bool E.out.symm, Below.refl _ _⟩

theorem rnum_small (n : Nat) (h : n < 10) (w : World) :
    Calls Tryz.prog 38 #[.int .i64 n] w fun e w' => e = .returned (.string ⟨(dec n).toArray⟩) ∧ Below w.heap.size w w' := by
  have HN := Lib.hid (rnumber_any n 1 (by omega) (by omega) (by omega) w)
  rw [dec_small h]
  have hz : (n : Int) < 10 := by omega
  have hz0 : decide ((n : Int) < 0) = false := decide_eq_false (by omega)
  rw [show ((1 : Nat) : Int) = 1 from rfl] at HN
  go_enter Tryz.func38, Tryz.ntmps38
  go_wp2_with fail
  go_at_call 66
  refine HN.out.mono ?_
  rintro e w' ⟨rfl, hb⟩
  go_wp2_with fail
  go_ret
  exact ⟨rfl, hb⟩

theorem rdec_any (n : Nat) (hn : n ≤ 1000000) (w : World) :
    Calls Tryz.prog 38 #[.int .i64 n] w fun e w' => e = .returned (.string ⟨(dec n).toArray⟩) ∧ Below w.heap.size w w' := by
  induction n using Nat.strongRecOn generalizing w with
  | _ n ih =>
    by_cases h : n < 10
    · exact rnum_small n h w
    · have IH := Lib.hid (ih (n / 10) (by omega) (by omega) w)
      have HN := Lib.hid (fun w => rnumber_any ((n % 10 : Nat) : Int) 1 (by omega) (by omega) (by omega) w)
      have l1 : (dec (n / 10)).length ≤ 7 := dec_len 7 (by omega) (by omega)
      have l2 : (low ((n % 10 : Nat) : Int) 1).length ≤ 1 := by rw [low_len]; omega
      have E : Hid (dec n = dec (n / 10) ++ low ((n % 10 : Nat) : Int) 1) := dec_great h
      rw [show ((n / 10 : Nat) : Int) = (n : Int) / 10 by omega] at IH
      rw [show ((1 : Nat) : Int) = 1 from rfl, show ((n % 10 : Nat) : Int) = (n : Int) % 10 by omega] at HN
      rw [show ((n % 10 : Nat) : Int) = (n : Int) % 10 by omega] at l2 E
      have hz : ¬ (n : Int) < 10 := by omega
      have hz1 : decide ((n : Int) < 10) = false := decide_eq_false hz
      have hz0 : decide ((n : Int) < 0) = false := decide_eq_false (by omega)
      clear ih h
      generalize hr : dec n = r at *
      clear hr
      generalize dec (n / 10) = t at *
      generalize low ((n : Int) % 10) 1 = u at *
      go_enter Tryz.func38, Tryz.ntmps38
      go_wp2_with fail
      go_at_call 38
      refine IH.out.mono ?_
      rintro e w' ⟨rfl, hb⟩
      obtain ⟨g, rfl⟩ := Gr.of hb
      clear hb
      go_wp2_with fail
      go_at_call 66
      refine (HN.out _).mono ?_
      rintro e w' ⟨rfl, hb⟩
      obtain ⟨g, rfl⟩ := g.on hb
      clear hb
      go_wp2_with fail
      go_ret
      exact ⟨congrArg (fun x => Ending.returned (Value.string x)) (by rw [E.out]; exact ByteArray.mk_append_mk t u), g.ok⟩

theorem rdecI_any (n : Int) (h1 : -1000000 ≤ n) (h2 : n ≤ 1000000) (w : World) :
    Calls Tryz.prog 38 #[.int .i64 n] w fun e w' => e = .returned (.string ⟨(decI n).toArray⟩) ∧ Below w.heap.size w w' := by
  by_cases h0 : n < 0
  · have HD := Lib.hid (rdec_any (-n).toNat (by omega) w)
    rw [show (((-n).toNat : Nat) : Int) = -n by omega] at HD
    have E : Hid (decI n = 45 :: dec (-n).toNat) := by show _ = _; unfold decI; rw [if_pos h0]
    have l1 : (dec (-n).toNat).length ≤ 7 := dec_len 7 (by omega) (by omega)
    have hw : IntKind.i64.wrap (-n) = -n := by rw [IntKind.wrap_i64]; omega
    generalize hr : decI n = r at *
    clear hr
    generalize dec (-n).toNat = t at *
    go_enter Tryz.func38, Tryz.ntmps38
    go_wp2_with fail
    go_at_call 38
    refine HD.out.mono ?_
    rintro e w' ⟨rfl, hb⟩
    go_wp2_with fail
    go_ret
    exact ⟨congrArg (fun x => Ending.returned (Value.string x)) (by rw [E.out]; exact ByteArray.mk_append_mk [45] t), hb⟩
  · have hd := rdec_any n.toNat (by omega) w
    rw [show ((n.toNat : Nat) : Int) = n by omega] at hd
    rw [show decI n = dec n.toNat by unfold decI; rw [if_neg h0]]
    exact hd
end Go.Proofs.YtbclfcghacedfaaGreatDoor
end

/- Contracts of the document's rules: a part's row. -/
section
namespace Go.Proofs.YtbclfcghacedfaaGreatDoor
open Go.ChangeShapes Go.WideShapes Go.ChangeAt Go.RowKit Qr Ck

theorem decI_len {n : Int} (h1 : -1000000 ≤ n) (h2 : n ≤ 1000000) : (decI n).length ≤ 8 := by
  unfold decI
  split
  · have := dec_len (n := (-n).toNat) 7 (by omega) (by omega); simp; omega
  · have := dec_len (n := n.toNat) 7 (by omega) (by omega); omega
theorem tail_cons (x : Int) (r : List Int) : tail_ (x :: r) = 44 :: decI x ++ tail_ r := by simp [tail_]
/-- What is still to come. -/
def rst (l : List Int) (i : Nat) : List UInt8 := if i = 0 then nums l else tail_ (l.drop i)
theorem rst_end (l : List Int) (h : 0 < l.length) : rst l l.length = [] := by unfold rst; rw [if_neg (by omega), List.drop_of_length_le (Nat.le_refl _)]; rfl
theorem rst_first {l : List Int} (h : 0 < l.length) : rst l 0 = decI l[0] ++ rst l 1 := by
  match l, h with
  | x :: r, _ => rfl
theorem rst_next {l : List Int} {i : Nat} (h0 : 0 < i) (h : i < l.length) : rst l i = 44 :: decI l[i] ++ rst l (i + 1) := by
  unfold rst; rw [if_neg (by omega), if_neg (by omega), drop_step h, tail_cons]

set_option maxRecDepth 100000 in
set_option maxHeartbeats 1000000 in
theorem rnumbers_any (nm : List UInt8) (l : List Int) (A : Option Addr) (c : Nat) (w : World) (hn : nm.length ≤ 100) (hl : l.length ≤ 1000) (hb : ∀ x ∈ l, -1000000 ≤ x ∧ x ≤ 1000000) (hs : Sl w A l.length c (iv l)) :
    Calls Tryz.prog 40 #[.string ⟨nm.toArray⟩, .slice A l.length c] w fun e w' => e = .returned (.string ⟨(prt nm l).toArray⟩) ∧ Below w.heap.size w w' := by
  by_cases h0 : l.length = 0
  · obtain rfl : l = [] := List.eq_nil_of_length_eq_zero h0
    clear hs
    show Calls Tryz.prog 40 #[.string ⟨nm.toArray⟩, .slice A 0 c] w fun e w' => e = .returned (.string ⟨#[]⟩) ∧ Below w.heap.size w w'
    go_enter Tryz.func40, Tryz.ntmps40
    go_wp2
    go_ret
    exact ⟨rfl, Below.refl _ _⟩
  have hz : ((l.length : Int) == 0) = false := beq_false_of_ne (by omega)
  obtain ⟨r, hr⟩ : ∃ r, prt nm l = r := ⟨_, rfl⟩
  have HR : Hid ((59 :: nm ++ [61]) ++ rst l 0 = r) := by
    show _ = _
    rw [← hr]; unfold prt; rw [if_neg (fun h => h0 (by rw [h]; rfl))]; unfold rst; simp
  rw [hr]
  have HS := Lib.hid hs
  have HB := Lib.hid hb
  have hpos : 0 < l.length := by omega
  clear hr hs hb h0
  go_enter Tryz.func40, Tryz.ntmps40
  go_wp2_with fail
  go_loopw [5, 15] (fun s5 s15 wr => ∃ (i : Nat) (acc : List UInt8) (g : Gr w), wr = g.val ∧ i ≤ l.length ∧ s15 = .int .i64 i ∧ s5 = .string ⟨acc.toArray⟩ ∧ acc.length ≤ 102 + 10 * i ∧ Hid (acc ++ rst l i = r)) (fun _ s15 _ => l.length - (intOf s15).toNat)
  case atStart => exact ⟨0, 59 :: nm ++ [61], ⟨w, Below.refl _ _⟩, rfl, Nat.zero_le _, rfl, congrArg Value.string (app3 [59] nm [61]), by simp; omega, HR⟩
  case round =>
    obtain ⟨i, acc, g, rfl, hi, rfl, rfl, hal, HI⟩ := hrel
    by_cases hlt : i < l.length
    · have hiz : (i : Int) < l.length := by omega
      obtain ⟨p, off, rfl, hp, hc⟩ := HS.out.intG (List.getElem?_eq_getElem hlt)
      have c1 := hc g
      clear hc
      obtain ⟨b1, b2⟩ := HB.out l[i] (List.getElem_mem hlt)
      have HN := Lib.hid (fun w => rdecI_any l[i] b1 b2 w)
      have l1 := decI_len b1 b2
      cases i with
      | zero =>
        have E : Hid (acc ++ decI l[0] ++ rst l 1 = r) := by show _ = _; rw [List.append_assoc, ← rst_first hpos]; exact HI.out
        rw [Nat.add_zero] at c1
        generalize l[0] = x at *
        generalize decI x = t at *
        go_wp2_with fail
        go_at_call 38
        refine (HN.out _).mono ?_
        rintro e w' ⟨rfl, hb⟩
        obtain ⟨g, rfl⟩ := g.on hb
        clear hb
        go_wp2_with fail
        go_roundw
        case rel => exact ⟨1, acc ++ t, g, rfl, hpos, by go_num, congrArg Value.string (ByteArray.mk_append_mk acc t), by simp; omega, E⟩
        case measure => simp [intOf]; omega
      | succ k =>
        have E : Hid (acc ++ [44] ++ decI l[k + 1] ++ rst l (k + 1 + 1) = r) := by show _ = _; rw [← HI.out, rst_next (Nat.succ_pos k) hlt]; simp
        have hk : (0 : Int) < k + 1 := by omega
        generalize l[k + 1] = x at *
        generalize decI x = t at *
        go_wp2_with fail
        go_at_call 38
        refine (HN.out _).mono ?_
        rintro e w' ⟨rfl, hb⟩
        obtain ⟨g, rfl⟩ := g.on hb
        clear hb
        go_wp2_with fail
        go_roundw
        case rel => exact ⟨k + 1 + 1, acc ++ [44] ++ t, g, rfl, hlt, by go_num, congrArg Value.string (app3 acc [44] t), by simp; omega, E⟩
        case measure => simp [intOf]; omega
    · obtain rfl : i = l.length := by omega
      have E : Hid (acc = r) := by show _ = _; rw [← HI.out, rst_end l hpos, List.append_nil]
      go_wp2_with fail
      go_ret
      exact ⟨ret_str E.out, g.ok⟩
end Go.Proofs.YtbclfcghacedfaaGreatDoor
end

/- A rule in memory. -/
section
namespace Go.Proofs.YtbclfcghacedfaaGreatDoor
open Go.ChangeShapes Go.WideShapes Go.ChangeAt Go.RowKit Qr Ck

/-- A rule's box. -/
def rcells (r : R) (A1 A2 A3 A4 : Option Addr) (c1 c2 c3 c4 : Nat) : Array Value :=
  #[.int .i64 r.freq, .int .i64 r.iv, .int .i64 r.count, .int .i64 r.until_, .slice A1 r.bm.length c1, .slice A2 r.bd.length c2, .slice A3 r.bw.length c3, .slice A4 r.bs.length c4, .int .i64 r.start]
/-- A rule's rows. -/
structure RAt (w : World) (r : R) (A1 A2 A3 A4 : Option Addr) (c1 c2 c3 c4 : Nat) : Prop where
  s1 : Sl w A1 r.bm.length c1 (iv r.bm)
  s2 : Sl w A2 r.bd.length c2 (iv r.bd)
  s3 : Sl w A3 r.bw.length c3 (sv r.bw)
  s4 : Sl w A4 r.bs.length c4 (iv r.bs)
theorem RAt.below {w w' : World} {r : R} {A1 A2 A3 A4 : Option Addr} {c1 c2 c3 c4 : Nat} {B : Nat} (h : RAt w r A1 A2 A3 A4 c1 c2 c3 c4) (hb : Below B w w') (hB : w.heap.size ≤ B) : RAt w' r A1 A2 A3 A4 c1 c2 c3 c4 :=
  ⟨h.s1.below hb hB, h.s2.below hb hB, h.s3.below hb hB, h.s4.below hb hB⟩
theorem box_at {w : World} {C : Array Value} {t : TypeId} {k : Nat} {v : Value} (h : C[k]? = some v) : ∀ g : Gr (w.alloc (.cells C t)), g.val.cell? ⟨w.heap.size, k, none⟩ = some v := fun g => g.cell1 k v h
theorem isEmpty_len {α : Type} (l : List α) : (!l.isEmpty) = true ↔ 0 < l.length := by cases l <;> simp

theorem below_of {w : World} {o o2 : Obj} (g : Gr (w.alloc o)) : Below w.heap.size w (g.val.alloc o2) := g.below1.alloc g.below1.size _
theorem below_ofD {w : World} {o : Obj} (g : Gr (w.alloc o)) (o2 : Obj) : Below w.heap.size w (g.val.alloc o2).drew := (g.below1.alloc g.below1.size _).drew


end Go.Proofs.YtbclfcghacedfaaGreatDoor
end

/- Contracts of the document's rows: has, same, put. -/
section
namespace Go.Proofs.YtbclfcghacedfaaGreatDoor
open Go.ChangeShapes Go.WideShapes Go.ChangeAt Go.RowKit Sp

theorem same_cons {x y : Spn} {a b : List Spn} : (x :: a = y :: b) ↔ (x.1 = y.1 ∧ x.2 = y.2) ∧ a = b := by
  rw [List.cons.injEq, Prod.ext_iff]
end Go.Proofs.YtbclfcghacedfaaGreatDoor
end
