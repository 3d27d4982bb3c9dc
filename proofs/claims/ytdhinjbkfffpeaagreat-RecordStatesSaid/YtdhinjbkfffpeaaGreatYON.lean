import Derived.Test.YtdhinjbkfffpeaaGreatYMY
import Derived.Test.YtdhinjbkfffpeaaGreatYOA
import Derived.Test.YtdhinjbkfffpeaaGreatYJS1
import Derived.BigQuiet
import Derived.Deep.QuietTactic
import Derived.Deep.Cut
import Derived.Test.YtdhinjbkfffpeaaGreatYMB
/- Contracts of the program's library: whether two rows are the same. -/
section
namespace Go.Proofs.YtdhinjbkfffpeaaGreat
open Go.ChangeShapes Go.WideShapes Go.ChangeAt Go.RowKit Qr Ck Sp
set_option maxRecDepth 100000 in
set_option maxHeartbeats 1000000 in
theorem eqTu_any (a b : List (Spn)) (A B : Option Addr) (c d : Nat) (w : World) (ha : Sl w A a.length c (sv a)) (hb : Sl w B b.length d (sv b)) :
  Calls Tryz.prog 77 #[.slice A a.length c, .slice B b.length d] w fun e w' => e = .returned (.bool (decide (a = b))) ∧ Below w.heap.size w w' := by
 have hlc : a.length ≤ 9223372036854775807 := Nat.le_trans ha.le ha.cap
 have HA := Lib.hid ha
 have HB := Lib.hid hb
 clear ha hb
 obtain ⟨r, hr⟩ : ∃ r, decide (a = b) = r := ⟨_, rfl⟩
 rw [hr]
 by_cases hl : a.length = b.length
 ·have hlb : ((a.length : Int) != (b.length : Int)) = false := by simp; omega
  have HR : Hid (decide (a.drop 0 = b.drop 0) = r) := hr
  have HL := Lib.hid hl
  have hbc : b.length ≤ 9223372036854775807 := by omega
  clear hr hl
  go_enter Tryz.func77, Tryz.ntmps77
  go_wp2
  go_loopw [13] (fun s13 wr => ∃ (i : Nat) (g : Gr w), wr = g.val ∧ i ≤ a.length ∧ s13 = .int .i64 i ∧ Hid (decide (a.drop i = b.drop i) = r)) (fun s13 _ => a.length - (intOf s13).toNat)
  case atStart => exact ⟨0, ⟨w, Below.refl _ _⟩, rfl, Nat.zero_le _, rfl, HR⟩
  case round =>
   obtain ⟨i, g, rfl, hi, rfl, HI⟩ := hrel
   by_cases hlt : i < a.length
   ·have hltb : i < b.length := by rw [← HL.out]; exact hlt
    have hiz : (i : Int) < a.length := by omega
    have hib : (i : Int) < b.length := by omega
    obtain ⟨p, off, rfl, hp, hc1⟩ := HA.out.spanG (List.getElem?_eq_getElem hlt)
    obtain ⟨q, off2, rfl, hq, hd1⟩ := HB.out.spanG (List.getElem?_eq_getElem hltb)
    obtain ⟨c0, c1⟩ := hc1 g
    obtain ⟨d0, d1⟩ := hd1 g
    clear hc1 hd1
    have hst : Hid (decide (a[i] = b[i] ∧ a.drop (i + 1) = b.drop (i + 1)) = r) := by show _ = _; rw [← HI.out, decide_eq_decide, drop_step hlt, drop_step hltb, List.cons.injEq]
    clear HI
    generalize a[i] = x at *
    generalize b[i] = u at *
    obtain ⟨x1, x2⟩ := x
    obtain ⟨u1, u2⟩ := u
    simp only [Prod.mk.injEq] at c0 c1 d0 d1 hst
    by_cases h1 : x1 = u1 ∧ x2 = u2
    ·have E : Hid (decide (a.drop (i + 1) = b.drop (i + 1)) = r) := by show _ = _; rw [← hst.out, decide_eq_decide]; exact ⟨fun h => ⟨h1, h⟩, fun h => h.2⟩
     clear hst
     obtain ⟨k0, k1⟩ := h1
     subst k0 k1
     go_wp2_with fail
     try (go_region; go_wp2_with fail)
     go_roundw
     case rel => first | exact ⟨i + 1, ⟨g.val.drew, g.ok.drew⟩, rfl, hlt, by go_num, E⟩ | exact ⟨i + 1, g, rfl, hlt, by go_num, E⟩
     case measure => simp [intOf]; omega
    ·have E : Hid (r = false) := by show _ = _; rw [← hst.out, decide_eq_false_iff_not]; exact fun h => h1 h.1
     clear hst
     by_cases k0 : x1 = u1
     ·subst k0
      have hn : ¬ (x2 = u2) := fun h => h1 ⟨rfl, h⟩
      have nz : ¬ (x2 = u2) := by omega
      have nb : (x2 == u2) = false := by simpa using nz
      have nc : (x2 != u2) = true := by simpa using nz
      clear h1 hn
      go_wp2_with fail
      try (go_region; go_wp2_with fail)
      go_ret
      first | exact ⟨ret_bool E.out.symm, g.ok.drew⟩ | exact ⟨ret_bool E.out.symm, g.ok⟩
     ·have hn := k0
      have nz : ¬ (x1 = u1) := by omega
      have nb : (x1 == u1) = false := by simpa using nz
      have nc : (x1 != u1) = true := by simpa using nz
      clear h1 k0 hn
      go_wp2_with fail
      try (go_region; go_wp2_with fail)
      go_ret
      first | exact ⟨ret_bool E.out.symm, g.ok.drew⟩ | exact ⟨ret_bool E.out.symm, g.ok⟩
   ·obtain rfl : i = a.length := by omega
    have E : Hid (r = true) := by show _ = _; rw [← HI.out, decide_eq_true_eq, List.drop_of_length_le (Nat.le_refl _), List.drop_of_length_le (by rw [HL.out]; exact Nat.le_refl _)]
    go_wp2_with fail
    go_ret
    exact ⟨ret_bool E.out.symm, g.ok⟩
 ·have hlb : ((a.length : Int) != (b.length : Int)) = true := by simp; omega
  have E : Hid (r = false) := by show _ = _; rw [← hr, decide_eq_false_iff_not]; exact fun h => hl (by rw [h])
  clear hr
  go_enter Tryz.func77, Tryz.ntmps77
  go_wp2
  go_ret
  exact ⟨ret_bool E.out.symm, Below.refl _ _⟩
set_option maxRecDepth 100000 in
set_option maxHeartbeats 1000000 in
theorem eqSh_any (a b : List (Int × Int × Int)) (A B : Option Addr) (c d : Nat) (w : World) (ha : Sl w A a.length c (tv a)) (hb : Sl w B b.length d (tv b)) :
  Calls Tryz.prog 78 #[.slice A a.length c, .slice B b.length d] w fun e w' => e = .returned (.bool (decide (a = b))) ∧ Below w.heap.size w w' := by
 have hlc : a.length ≤ 9223372036854775807 := Nat.le_trans ha.le ha.cap
 have HA := Lib.hid ha
 have HB := Lib.hid hb
 clear ha hb
 obtain ⟨r, hr⟩ : ∃ r, decide (a = b) = r := ⟨_, rfl⟩
 rw [hr]
 by_cases hl : a.length = b.length
 ·have hlb : ((a.length : Int) != (b.length : Int)) = false := by simp; omega
  have HR : Hid (decide (a.drop 0 = b.drop 0) = r) := hr
  have HL := Lib.hid hl
  have hbc : b.length ≤ 9223372036854775807 := by omega
  clear hr hl
  go_enter Tryz.func78, Tryz.ntmps78
  go_wp2
  go_loopw [13] (fun s13 wr => ∃ (i : Nat) (g : Gr w), wr = g.val ∧ i ≤ a.length ∧ s13 = .int .i64 i ∧ Hid (decide (a.drop i = b.drop i) = r)) (fun s13 _ => a.length - (intOf s13).toNat)
  case atStart => exact ⟨0, ⟨w, Below.refl _ _⟩, rfl, Nat.zero_le _, rfl, HR⟩
  case round =>
   obtain ⟨i, g, rfl, hi, rfl, HI⟩ := hrel
   by_cases hlt : i < a.length
   ·have hltb : i < b.length := by rw [← HL.out]; exact hlt
    have hiz : (i : Int) < a.length := by omega
    have hib : (i : Int) < b.length := by omega
    obtain ⟨p, off, rfl, hp, hc1⟩ := HA.out.tG (List.getElem?_eq_getElem hlt)
    obtain ⟨q, off2, rfl, hq, hd1⟩ := HB.out.tG (List.getElem?_eq_getElem hltb)
    obtain ⟨c0, c1, c2⟩ := hc1 g
    obtain ⟨d0, d1, d2⟩ := hd1 g
    clear hc1 hd1
    have hst : Hid (decide (a[i] = b[i] ∧ a.drop (i + 1) = b.drop (i + 1)) = r) := by show _ = _; rw [← HI.out, decide_eq_decide, drop_step hlt, drop_step hltb, List.cons.injEq]
    clear HI
    generalize a[i] = x at *
    generalize b[i] = u at *
    obtain ⟨x1, x2, x3⟩ := x
    obtain ⟨u1, u2, u3⟩ := u
    simp only [Prod.mk.injEq] at c0 c1 c2 d0 d1 d2 hst
    by_cases h1 : x1 = u1 ∧ x2 = u2 ∧ x3 = u3
    ·have E : Hid (decide (a.drop (i + 1) = b.drop (i + 1)) = r) := by show _ = _; rw [← hst.out, decide_eq_decide]; exact ⟨fun h => ⟨h1, h⟩, fun h => h.2⟩
     clear hst
     obtain ⟨k0, k1, k2⟩ := h1
     subst k0 k1 k2
     go_wp2_with fail
     try (go_region; go_wp2_with fail)
     go_roundw
     case rel => first | exact ⟨i + 1, ⟨g.val.drew, g.ok.drew⟩, rfl, hlt, by go_num, E⟩ | exact ⟨i + 1, g, rfl, hlt, by go_num, E⟩
     case measure => simp [intOf]; omega
    ·have E : Hid (r = false) := by show _ = _; rw [← hst.out, decide_eq_false_iff_not]; exact fun h => h1 h.1
     clear hst
     by_cases k0 : x1 = u1
     ·subst k0
      by_cases k1 : x2 = u2
      ·subst k1
       have hn : ¬ (x3 = u3) := fun h => h1 ⟨rfl, rfl, h⟩
       have nz : ¬ (x3 = u3) := by omega
       have nb : (x3 == u3) = false := by simpa using nz
       have nc : (x3 != u3) = true := by simpa using nz
       clear h1 hn
       go_wp2_with fail
       try (go_region; go_wp2_with fail)
       go_ret
       first | exact ⟨ret_bool E.out.symm, g.ok.drew⟩ | exact ⟨ret_bool E.out.symm, g.ok⟩
      ·have hn := k1
       have nz : ¬ (x2 = u2) := by omega
       have nb : (x2 == u2) = false := by simpa using nz
       have nc : (x2 != u2) = true := by simpa using nz
       clear h1 k1 hn
       go_wp2_with fail
       try (go_region; go_wp2_with fail)
       go_ret
       first | exact ⟨ret_bool E.out.symm, g.ok.drew⟩ | exact ⟨ret_bool E.out.symm, g.ok⟩
     ·have hn := k0
      have nz : ¬ (x1 = u1) := by omega
      have nb : (x1 == u1) = false := by simpa using nz
      have nc : (x1 != u1) = true := by simpa using nz
      clear h1 k0 hn
      go_wp2_with fail
      try (go_region; go_wp2_with fail)
      go_ret
      first | exact ⟨ret_bool E.out.symm, g.ok.drew⟩ | exact ⟨ret_bool E.out.symm, g.ok⟩
   ·obtain rfl : i = a.length := by omega
    have E : Hid (r = true) := by show _ = _; rw [← HI.out, decide_eq_true_eq, List.drop_of_length_le (Nat.le_refl _), List.drop_of_length_le (by rw [HL.out]; exact Nat.le_refl _)]
    go_wp2_with fail
    go_ret
    exact ⟨ret_bool E.out.symm, g.ok⟩
 ·have hlb : ((a.length : Int) != (b.length : Int)) = true := by simp; omega
  have E : Hid (r = false) := by show _ = _; rw [← hr, decide_eq_false_iff_not]; exact fun h => hl (by rw [h])
  clear hr
  go_enter Tryz.func78, Tryz.ntmps78
  go_wp2
  go_ret
  exact ⟨ret_bool E.out.symm, Below.refl _ _⟩
set_option maxRecDepth 100000 in
set_option maxHeartbeats 1000000 in
theorem eqCh_any (a b : List (Int × Int × Int)) (A B : Option Addr) (c d : Nat) (w : World) (ha : Sl w A a.length c (tv a)) (hb : Sl w B b.length d (tv b)) :
  Calls Tryz.prog 82 #[.slice A a.length c, .slice B b.length d] w fun e w' => e = .returned (.bool (decide (a = b))) ∧ Below w.heap.size w w' := by
 have hlc : a.length ≤ 9223372036854775807 := Nat.le_trans ha.le ha.cap
 have HA := Lib.hid ha
 have HB := Lib.hid hb
 clear ha hb
 obtain ⟨r, hr⟩ : ∃ r, decide (a = b) = r := ⟨_, rfl⟩
 rw [hr]
 by_cases hl : a.length = b.length
 ·have hlb : ((a.length : Int) != (b.length : Int)) = false := by simp; omega
  have HR : Hid (decide (a.drop 0 = b.drop 0) = r) := hr
  have HL := Lib.hid hl
  have hbc : b.length ≤ 9223372036854775807 := by omega
  clear hr hl
  go_enter Tryz.func82, Tryz.ntmps82
  go_wp2
  go_loopw [13] (fun s13 wr => ∃ (i : Nat) (g : Gr w), wr = g.val ∧ i ≤ a.length ∧ s13 = .int .i64 i ∧ Hid (decide (a.drop i = b.drop i) = r)) (fun s13 _ => a.length - (intOf s13).toNat)
  case atStart => exact ⟨0, ⟨w, Below.refl _ _⟩, rfl, Nat.zero_le _, rfl, HR⟩
  case round =>
   obtain ⟨i, g, rfl, hi, rfl, HI⟩ := hrel
   by_cases hlt : i < a.length
   ·have hltb : i < b.length := by rw [← HL.out]; exact hlt
    have hiz : (i : Int) < a.length := by omega
    have hib : (i : Int) < b.length := by omega
    obtain ⟨p, off, rfl, hp, hc1⟩ := HA.out.tG (List.getElem?_eq_getElem hlt)
    obtain ⟨q, off2, rfl, hq, hd1⟩ := HB.out.tG (List.getElem?_eq_getElem hltb)
    obtain ⟨c0, c1, c2⟩ := hc1 g
    obtain ⟨d0, d1, d2⟩ := hd1 g
    clear hc1 hd1
    have hst : Hid (decide (a[i] = b[i] ∧ a.drop (i + 1) = b.drop (i + 1)) = r) := by show _ = _; rw [← HI.out, decide_eq_decide, drop_step hlt, drop_step hltb, List.cons.injEq]
    clear HI
    generalize a[i] = x at *
    generalize b[i] = u at *
    obtain ⟨x1, x2, x3⟩ := x
    obtain ⟨u1, u2, u3⟩ := u
    simp only [Prod.mk.injEq] at c0 c1 c2 d0 d1 d2 hst
    by_cases h1 : x1 = u1 ∧ x2 = u2 ∧ x3 = u3
    ·have E : Hid (decide (a.drop (i + 1) = b.drop (i + 1)) = r) := by show _ = _; rw [← hst.out, decide_eq_decide]; exact ⟨fun h => ⟨h1, h⟩, fun h => h.2⟩
     clear hst
     obtain ⟨k0, k1, k2⟩ := h1
     subst k0 k1 k2
     go_wp2_with fail
     try (go_region; go_wp2_with fail)
     go_roundw
     case rel => first | exact ⟨i + 1, ⟨g.val.drew, g.ok.drew⟩, rfl, hlt, by go_num, E⟩ | exact ⟨i + 1, g, rfl, hlt, by go_num, E⟩
     case measure => simp [intOf]; omega
    ·have E : Hid (r = false) := by show _ = _; rw [← hst.out, decide_eq_false_iff_not]; exact fun h => h1 h.1
     clear hst
     by_cases k0 : x1 = u1
     ·subst k0
      by_cases k1 : x2 = u2
      ·subst k1
       have hn : ¬ (x3 = u3) := fun h => h1 ⟨rfl, rfl, h⟩
       have nz : ¬ (x3 = u3) := by omega
       have nb : (x3 == u3) = false := by simpa using nz
       have nc : (x3 != u3) = true := by simpa using nz
       clear h1 hn
       go_wp2_with fail
       try (go_region; go_wp2_with fail)
       go_ret
       first | exact ⟨ret_bool E.out.symm, g.ok.drew⟩ | exact ⟨ret_bool E.out.symm, g.ok⟩
      ·have hn := k1
       have nz : ¬ (x2 = u2) := by omega
       have nb : (x2 == u2) = false := by simpa using nz
       have nc : (x2 != u2) = true := by simpa using nz
       clear h1 k1 hn
       go_wp2_with fail
       try (go_region; go_wp2_with fail)
       go_ret
       first | exact ⟨ret_bool E.out.symm, g.ok.drew⟩ | exact ⟨ret_bool E.out.symm, g.ok⟩
     ·have hn := k0
      have nz : ¬ (x1 = u1) := by omega
      have nb : (x1 == u1) = false := by simpa using nz
      have nc : (x1 != u1) = true := by simpa using nz
      clear h1 k0 hn
      go_wp2_with fail
      try (go_region; go_wp2_with fail)
      go_ret
      first | exact ⟨ret_bool E.out.symm, g.ok.drew⟩ | exact ⟨ret_bool E.out.symm, g.ok⟩
   ·obtain rfl : i = a.length := by omega
    have E : Hid (r = true) := by show _ = _; rw [← HI.out, decide_eq_true_eq, List.drop_of_length_le (Nat.le_refl _), List.drop_of_length_le (by rw [HL.out]; exact Nat.le_refl _)]
    go_wp2_with fail
    go_ret
    exact ⟨ret_bool E.out.symm, g.ok⟩
 ·have hlb : ((a.length : Int) != (b.length : Int)) = true := by simp; omega
  have E : Hid (r = false) := by show _ = _; rw [← hr, decide_eq_false_iff_not]; exact fun h => hl (by rw [h])
  clear hr
  go_enter Tryz.func82, Tryz.ntmps82
  go_wp2
  go_ret
  exact ⟨ret_bool E.out.symm, Below.refl _ _⟩
set_option maxRecDepth 100000 in
set_option maxHeartbeats 1000000 in
theorem eqLo_any (a b : List (Int)) (A B : Option Addr) (c d : Nat) (w : World) (ha : Sl w A a.length c (iv a)) (hb : Sl w B b.length d (iv b)) :
  Calls Tryz.prog 81 #[.slice A a.length c, .slice B b.length d] w fun e w' => e = .returned (.bool (decide (a = b))) ∧ Below w.heap.size w w' := by
 have hlc : a.length ≤ 9223372036854775807 := Nat.le_trans ha.le ha.cap
 have HA := Lib.hid ha
 have HB := Lib.hid hb
 clear ha hb
 obtain ⟨r, hr⟩ : ∃ r, decide (a = b) = r := ⟨_, rfl⟩
 rw [hr]
 by_cases hl : a.length = b.length
 ·have hlb : ((a.length : Int) != (b.length : Int)) = false := by simp; omega
  have HR : Hid (decide (a.drop 0 = b.drop 0) = r) := hr
  have HL := Lib.hid hl
  have hbc : b.length ≤ 9223372036854775807 := by omega
  clear hr hl
  go_enter Tryz.func81, Tryz.ntmps81
  go_wp2
  go_loopw [13] (fun s13 wr => ∃ (i : Nat) (g : Gr w), wr = g.val ∧ i ≤ a.length ∧ s13 = .int .i64 i ∧ Hid (decide (a.drop i = b.drop i) = r)) (fun s13 _ => a.length - (intOf s13).toNat)
  case atStart => exact ⟨0, ⟨w, Below.refl _ _⟩, rfl, Nat.zero_le _, rfl, HR⟩
  case round =>
   obtain ⟨i, g, rfl, hi, rfl, HI⟩ := hrel
   by_cases hlt : i < a.length
   ·have hltb : i < b.length := by rw [← HL.out]; exact hlt
    have hiz : (i : Int) < a.length := by omega
    have hib : (i : Int) < b.length := by omega
    obtain ⟨p, off, rfl, hp, hc1⟩ := HA.out.intG (List.getElem?_eq_getElem hlt)
    obtain ⟨q, off2, rfl, hq, hd1⟩ := HB.out.intG (List.getElem?_eq_getElem hltb)
    have c0 := hc1 g
    have d0 := hd1 g
    clear hc1 hd1
    have hst : Hid (decide (a[i] = b[i] ∧ a.drop (i + 1) = b.drop (i + 1)) = r) := by show _ = _; rw [← HI.out, decide_eq_decide, drop_step hlt, drop_step hltb, List.cons.injEq]
    clear HI
    generalize a[i] = x at *
    generalize b[i] = u at *
    by_cases h1 : x = u
    ·have E : Hid (decide (a.drop (i + 1) = b.drop (i + 1)) = r) := by show _ = _; rw [← hst.out, decide_eq_decide]; exact ⟨fun h => ⟨h1, h⟩, fun h => h.2⟩
     clear hst
     subst h1
     go_wp2_with fail
     try (go_region; go_wp2_with fail)
     go_roundw
     case rel => first | exact ⟨i + 1, ⟨g.val.drew, g.ok.drew⟩, rfl, hlt, by go_num, E⟩ | exact ⟨i + 1, g, rfl, hlt, by go_num, E⟩
     case measure => simp [intOf]; omega
    ·have E : Hid (r = false) := by show _ = _; rw [← hst.out, decide_eq_false_iff_not]; exact fun h => h1 h.1
     clear hst
     have hn : ¬ (x = u) := h1
     have nz : ¬ (x = u) := by omega
     have nb : (x == u) = false := by simpa using nz
     have nc : (x != u) = true := by simpa using nz
     clear h1
     go_wp2_with fail
     try (go_region; go_wp2_with fail)
     go_ret
     first | exact ⟨ret_bool E.out.symm, g.ok.drew⟩ | exact ⟨ret_bool E.out.symm, g.ok⟩
   ·obtain rfl : i = a.length := by omega
    have E : Hid (r = true) := by show _ = _; rw [← HI.out, decide_eq_true_eq, List.drop_of_length_le (Nat.le_refl _), List.drop_of_length_le (by rw [HL.out]; exact Nat.le_refl _)]
    go_wp2_with fail
    go_ret
    exact ⟨ret_bool E.out.symm, g.ok⟩
 ·have hlb : ((a.length : Int) != (b.length : Int)) = true := by simp; omega
  have E : Hid (r = false) := by show _ = _; rw [← hr, decide_eq_false_iff_not]; exact fun h => hl (by rw [h])
  clear hr
  go_enter Tryz.func81, Tryz.ntmps81
  go_wp2
  go_ret
  exact ⟨ret_bool E.out.symm, Below.refl _ _⟩
set_option maxRecDepth 100000 in
set_option maxHeartbeats 1000000 in
theorem eqId_any (a b : List (Nat)) (A B : Option Addr) (c d : Nat) (w : World) (ha : Sl w A a.length c (kv u1 a)) (hb : Sl w B b.length d (kv u1 b)) :
  Calls Tryz.prog 83 #[.slice A a.length c, .slice B b.length d] w fun e w' => e = .returned (.bool (decide (a = b))) ∧ Below w.heap.size w w' := by
 have hlc : a.length ≤ 9223372036854775807 := Nat.le_trans ha.le ha.cap
 have HA := Lib.hid ha
 have HB := Lib.hid hb
 clear ha hb
 obtain ⟨r, hr⟩ : ∃ r, decide (a = b) = r := ⟨_, rfl⟩
 rw [hr]
 by_cases hl : a.length = b.length
 ·have hlb : ((a.length : Int) != (b.length : Int)) = false := by simp; omega
  have HR : Hid (decide (a.drop 0 = b.drop 0) = r) := hr
  have HL := Lib.hid hl
  have hbc : b.length ≤ 9223372036854775807 := by omega
  clear hr hl
  go_enter Tryz.func83, Tryz.ntmps83
  go_wp2
  go_loopw [13] (fun s13 wr => ∃ (i : Nat) (g : Gr w), wr = g.val ∧ i ≤ a.length ∧ s13 = .int .i64 i ∧ Hid (decide (a.drop i = b.drop i) = r)) (fun s13 _ => a.length - (intOf s13).toNat)
  case atStart => exact ⟨0, ⟨w, Below.refl _ _⟩, rfl, Nat.zero_le _, rfl, HR⟩
  case round =>
   obtain ⟨i, g, rfl, hi, rfl, HI⟩ := hrel
   by_cases hlt : i < a.length
   ·have hltb : i < b.length := by rw [← HL.out]; exact hlt
    have hiz : (i : Int) < a.length := by omega
    have hib : (i : Int) < b.length := by omega
    obtain ⟨p, off, rfl, hp, hc1⟩ := HA.out.uG (List.getElem?_eq_getElem hlt)
    obtain ⟨q, off2, rfl, hq, hd1⟩ := HB.out.uG (List.getElem?_eq_getElem hltb)
    have c0 := hc1 g
    have d0 := hd1 g
    clear hc1 hd1
    have hst : Hid (decide (a[i] = b[i] ∧ a.drop (i + 1) = b.drop (i + 1)) = r) := by show _ = _; rw [← HI.out, decide_eq_decide, drop_step hlt, drop_step hltb, List.cons.injEq]
    clear HI
    generalize a[i] = x at *
    generalize b[i] = u at *
    by_cases h1 : x = u
    ·have E : Hid (decide (a.drop (i + 1) = b.drop (i + 1)) = r) := by show _ = _; rw [← hst.out, decide_eq_decide]; exact ⟨fun h => ⟨h1, h⟩, fun h => h.2⟩
     clear hst
     subst h1
     go_wp2_with fail
     try (go_region; go_wp2_with fail)
     go_roundw
     case rel => first | exact ⟨i + 1, ⟨g.val.drew, g.ok.drew⟩, rfl, hlt, by go_num, E⟩ | exact ⟨i + 1, g, rfl, hlt, by go_num, E⟩
     case measure => simp [intOf]; omega
    ·have E : Hid (r = false) := by show _ = _; rw [← hst.out, decide_eq_false_iff_not]; exact fun h => h1 h.1
     clear hst
     have hn : ¬ (x = u) := h1
     have nz : ¬ ((x : Int) = (u : Int)) := by omega
     have nb : ((x : Int) == (u : Int)) = false := by simpa using nz
     have nc : ((x : Int) != (u : Int)) = true := by simpa using nz
     clear h1
     go_wp2_with fail
     try (go_region; go_wp2_with fail)
     go_ret
     first | exact ⟨ret_bool E.out.symm, g.ok.drew⟩ | exact ⟨ret_bool E.out.symm, g.ok⟩
   ·obtain rfl : i = a.length := by omega
    have E : Hid (r = true) := by show _ = _; rw [← HI.out, decide_eq_true_eq, List.drop_of_length_le (Nat.le_refl _), List.drop_of_length_le (by rw [HL.out]; exact Nat.le_refl _)]
    go_wp2_with fail
    go_ret
    exact ⟨ret_bool E.out.symm, g.ok⟩
 ·have hlb : ((a.length : Int) != (b.length : Int)) = true := by simp; omega
  have E : Hid (r = false) := by show _ = _; rw [← hr, decide_eq_false_iff_not]; exact fun h => hl (by rw [h])
  clear hr
  go_enter Tryz.func83, Tryz.ntmps83
  go_wp2
  go_ret
  exact ⟨ret_bool E.out.symm, Below.refl _ _⟩
set_option maxRecDepth 100000 in
set_option maxHeartbeats 1000000 in
theorem eqWt_any (a b : List (Nat × Int)) (A B : Option Addr) (c d : Nat) (w : World) (ha : Sl w A a.length c (kv u2 a)) (hb : Sl w B b.length d (kv u2 b)) :
  Calls Tryz.prog 84 #[.slice A a.length c, .slice B b.length d] w fun e w' => e = .returned (.bool (decide (a = b))) ∧ Below w.heap.size w w' := by
 have hlc : a.length ≤ 9223372036854775807 := Nat.le_trans ha.le ha.cap
 have HA := Lib.hid ha
 have HB := Lib.hid hb
 clear ha hb
 obtain ⟨r, hr⟩ : ∃ r, decide (a = b) = r := ⟨_, rfl⟩
 rw [hr]
 by_cases hl : a.length = b.length
 ·have hlb : ((a.length : Int) != (b.length : Int)) = false := by simp; omega
  have HR : Hid (decide (a.drop 0 = b.drop 0) = r) := hr
  have HL := Lib.hid hl
  have hbc : b.length ≤ 9223372036854775807 := by omega
  clear hr hl
  go_enter Tryz.func84, Tryz.ntmps84
  go_wp2
  go_loopw [13] (fun s13 wr => ∃ (i : Nat) (g : Gr w), wr = g.val ∧ i ≤ a.length ∧ s13 = .int .i64 i ∧ Hid (decide (a.drop i = b.drop i) = r)) (fun s13 _ => a.length - (intOf s13).toNat)
  case atStart => exact ⟨0, ⟨w, Below.refl _ _⟩, rfl, Nat.zero_le _, rfl, HR⟩
  case round =>
   obtain ⟨i, g, rfl, hi, rfl, HI⟩ := hrel
   by_cases hlt : i < a.length
   ·have hltb : i < b.length := by rw [← HL.out]; exact hlt
    have hiz : (i : Int) < a.length := by omega
    have hib : (i : Int) < b.length := by omega
    obtain ⟨p, off, rfl, hp, hc1⟩ := HA.out.upG (List.getElem?_eq_getElem hlt)
    obtain ⟨q, off2, rfl, hq, hd1⟩ := HB.out.upG (List.getElem?_eq_getElem hltb)
    obtain ⟨c0, c1⟩ := hc1 g
    obtain ⟨d0, d1⟩ := hd1 g
    clear hc1 hd1
    have hst : Hid (decide (a[i] = b[i] ∧ a.drop (i + 1) = b.drop (i + 1)) = r) := by show _ = _; rw [← HI.out, decide_eq_decide, drop_step hlt, drop_step hltb, List.cons.injEq]
    clear HI
    generalize a[i] = x at *
    generalize b[i] = u at *
    obtain ⟨x1, x2⟩ := x
    obtain ⟨u1, u2⟩ := u
    simp only [Prod.mk.injEq] at c0 c1 d0 d1 hst
    by_cases h1 : x1 = u1 ∧ x2 = u2
    ·have E : Hid (decide (a.drop (i + 1) = b.drop (i + 1)) = r) := by show _ = _; rw [← hst.out, decide_eq_decide]; exact ⟨fun h => ⟨h1, h⟩, fun h => h.2⟩
     clear hst
     obtain ⟨k0, k1⟩ := h1
     subst k0 k1
     go_wp2_with fail
     try (go_region; go_wp2_with fail)
     go_roundw
     case rel => first | exact ⟨i + 1, ⟨g.val.drew, g.ok.drew⟩, rfl, hlt, by go_num, E⟩ | exact ⟨i + 1, g, rfl, hlt, by go_num, E⟩
     case measure => simp [intOf]; omega
    ·have E : Hid (r = false) := by show _ = _; rw [← hst.out, decide_eq_false_iff_not]; exact fun h => h1 h.1
     clear hst
     by_cases k0 : x1 = u1
     ·subst k0
      have hn : ¬ (x2 = u2) := fun h => h1 ⟨rfl, h⟩
      have nz : ¬ (x2 = u2) := by omega
      have nb : (x2 == u2) = false := by simpa using nz
      have nc : (x2 != u2) = true := by simpa using nz
      clear h1 hn
      go_wp2_with fail
      try (go_region; go_wp2_with fail)
      go_ret
      first | exact ⟨ret_bool E.out.symm, g.ok.drew⟩ | exact ⟨ret_bool E.out.symm, g.ok⟩
     ·have hn := k0
      have nz : ¬ ((x1 : Int) = (u1 : Int)) := by omega
      have nb : ((x1 : Int) == (u1 : Int)) = false := by simpa using nz
      have nc : ((x1 : Int) != (u1 : Int)) = true := by simpa using nz
      clear h1 k0 hn
      go_wp2_with fail
      try (go_region; go_wp2_with fail)
      go_ret
      first | exact ⟨ret_bool E.out.symm, g.ok.drew⟩ | exact ⟨ret_bool E.out.symm, g.ok⟩
   ·obtain rfl : i = a.length := by omega
    have E : Hid (r = true) := by show _ = _; rw [← HI.out, decide_eq_true_eq, List.drop_of_length_le (Nat.le_refl _), List.drop_of_length_le (by rw [HL.out]; exact Nat.le_refl _)]
    go_wp2_with fail
    go_ret
    exact ⟨ret_bool E.out.symm, g.ok⟩
 ·have hlb : ((a.length : Int) != (b.length : Int)) = true := by simp; omega
  have E : Hid (r = false) := by show _ = _; rw [← hr, decide_eq_false_iff_not]; exact fun h => hl (by rw [h])
  clear hr
  go_enter Tryz.func84, Tryz.ntmps84
  go_wp2
  go_ret
  exact ⟨ret_bool E.out.symm, Below.refl _ _⟩
set_option maxRecDepth 100000 in
set_option maxHeartbeats 1000000 in
theorem eqAp_any (a b : List (Nat × Nat)) (A B : Option Addr) (c d : Nat) (w : World) (ha : Sl w A a.length c (kv u3 a)) (hb : Sl w B b.length d (kv u3 b)) :
  Calls Tryz.prog 85 #[.slice A a.length c, .slice B b.length d] w fun e w' => e = .returned (.bool (decide (a = b))) ∧ Below w.heap.size w w' := by
 have hlc : a.length ≤ 9223372036854775807 := Nat.le_trans ha.le ha.cap
 have HA := Lib.hid ha
 have HB := Lib.hid hb
 clear ha hb
 obtain ⟨r, hr⟩ : ∃ r, decide (a = b) = r := ⟨_, rfl⟩
 rw [hr]
 by_cases hl : a.length = b.length
 ·have hlb : ((a.length : Int) != (b.length : Int)) = false := by simp; omega
  have HR : Hid (decide (a.drop 0 = b.drop 0) = r) := hr
  have HL := Lib.hid hl
  have hbc : b.length ≤ 9223372036854775807 := by omega
  clear hr hl
  go_enter Tryz.func85, Tryz.ntmps85
  go_wp2
  go_loopw [13] (fun s13 wr => ∃ (i : Nat) (g : Gr w), wr = g.val ∧ i ≤ a.length ∧ s13 = .int .i64 i ∧ Hid (decide (a.drop i = b.drop i) = r)) (fun s13 _ => a.length - (intOf s13).toNat)
  case atStart => exact ⟨0, ⟨w, Below.refl _ _⟩, rfl, Nat.zero_le _, rfl, HR⟩
  case round =>
   obtain ⟨i, g, rfl, hi, rfl, HI⟩ := hrel
   by_cases hlt : i < a.length
   ·have hltb : i < b.length := by rw [← HL.out]; exact hlt
    have hiz : (i : Int) < a.length := by omega
    have hib : (i : Int) < b.length := by omega
    obtain ⟨p, off, rfl, hp, hc1⟩ := HA.out.uuG (List.getElem?_eq_getElem hlt)
    obtain ⟨q, off2, rfl, hq, hd1⟩ := HB.out.uuG (List.getElem?_eq_getElem hltb)
    obtain ⟨c0, c1⟩ := hc1 g
    obtain ⟨d0, d1⟩ := hd1 g
    clear hc1 hd1
    have hst : Hid (decide (a[i] = b[i] ∧ a.drop (i + 1) = b.drop (i + 1)) = r) := by show _ = _; rw [← HI.out, decide_eq_decide, drop_step hlt, drop_step hltb, List.cons.injEq]
    clear HI
    generalize a[i] = x at *
    generalize b[i] = u at *
    obtain ⟨x1, x2⟩ := x
    obtain ⟨u1, u2⟩ := u
    simp only [Prod.mk.injEq] at c0 c1 d0 d1 hst
    by_cases h1 : x1 = u1 ∧ x2 = u2
    ·have E : Hid (decide (a.drop (i + 1) = b.drop (i + 1)) = r) := by show _ = _; rw [← hst.out, decide_eq_decide]; exact ⟨fun h => ⟨h1, h⟩, fun h => h.2⟩
     clear hst
     obtain ⟨k0, k1⟩ := h1
     subst k0 k1
     go_wp2_with fail
     try (go_region; go_wp2_with fail)
     go_roundw
     case rel => first | exact ⟨i + 1, ⟨g.val.drew, g.ok.drew⟩, rfl, hlt, by go_num, E⟩ | exact ⟨i + 1, g, rfl, hlt, by go_num, E⟩
     case measure => simp [intOf]; omega
    ·have E : Hid (r = false) := by show _ = _; rw [← hst.out, decide_eq_false_iff_not]; exact fun h => h1 h.1
     clear hst
     by_cases k0 : x1 = u1
     ·subst k0
      have hn : ¬ (x2 = u2) := fun h => h1 ⟨rfl, h⟩
      have nz : ¬ ((x2 : Int) = (u2 : Int)) := by omega
      have nb : ((x2 : Int) == (u2 : Int)) = false := by simpa using nz
      have nc : ((x2 : Int) != (u2 : Int)) = true := by simpa using nz
      clear h1 hn
      go_wp2_with fail
      try (go_region; go_wp2_with fail)
      go_ret
      first | exact ⟨ret_bool E.out.symm, g.ok.drew⟩ | exact ⟨ret_bool E.out.symm, g.ok⟩
     ·have hn := k0
      have nz : ¬ ((x1 : Int) = (u1 : Int)) := by omega
      have nb : ((x1 : Int) == (u1 : Int)) = false := by simpa using nz
      have nc : ((x1 : Int) != (u1 : Int)) = true := by simpa using nz
      clear h1 k0 hn
      go_wp2_with fail
      try (go_region; go_wp2_with fail)
      go_ret
      first | exact ⟨ret_bool E.out.symm, g.ok.drew⟩ | exact ⟨ret_bool E.out.symm, g.ok⟩
   ·obtain rfl : i = a.length := by omega
    have E : Hid (r = true) := by show _ = _; rw [← HI.out, decide_eq_true_eq, List.drop_of_length_le (Nat.le_refl _), List.drop_of_length_le (by rw [HL.out]; exact Nat.le_refl _)]
    go_wp2_with fail
    go_ret
    exact ⟨ret_bool E.out.symm, g.ok⟩
 ·have hlb : ((a.length : Int) != (b.length : Int)) = true := by simp; omega
  have E : Hid (r = false) := by show _ = _; rw [← hr, decide_eq_false_iff_not]; exact fun h => hl (by rw [h])
  clear hr
  go_enter Tryz.func85, Tryz.ntmps85
  go_wp2
  go_ret
  exact ⟨ret_bool E.out.symm, Below.refl _ _⟩
set_option maxRecDepth 100000 in
set_option maxHeartbeats 1000000 in
theorem eqVo_any (a b : List (Nat × Int)) (A B : Option Addr) (c d : Nat) (w : World) (ha : Sl w A a.length c (kv u2 a)) (hb : Sl w B b.length d (kv u2 b)) :
  Calls Tryz.prog 89 #[.slice A a.length c, .slice B b.length d] w fun e w' => e = .returned (.bool (decide (a = b))) ∧ Below w.heap.size w w' := by
 have hlc : a.length ≤ 9223372036854775807 := Nat.le_trans ha.le ha.cap
 have HA := Lib.hid ha
 have HB := Lib.hid hb
 clear ha hb
 obtain ⟨r, hr⟩ : ∃ r, decide (a = b) = r := ⟨_, rfl⟩
 rw [hr]
 by_cases hl : a.length = b.length
 ·have hlb : ((a.length : Int) != (b.length : Int)) = false := by simp; omega
  have HR : Hid (decide (a.drop 0 = b.drop 0) = r) := hr
  have HL := Lib.hid hl
  have hbc : b.length ≤ 9223372036854775807 := by omega
  clear hr hl
  go_enter Tryz.func89, Tryz.ntmps89
  go_wp2
  go_loopw [13] (fun s13 wr => ∃ (i : Nat) (g : Gr w), wr = g.val ∧ i ≤ a.length ∧ s13 = .int .i64 i ∧ Hid (decide (a.drop i = b.drop i) = r)) (fun s13 _ => a.length - (intOf s13).toNat)
  case atStart => exact ⟨0, ⟨w, Below.refl _ _⟩, rfl, Nat.zero_le _, rfl, HR⟩
  case round =>
   obtain ⟨i, g, rfl, hi, rfl, HI⟩ := hrel
   by_cases hlt : i < a.length
   ·have hltb : i < b.length := by rw [← HL.out]; exact hlt
    have hiz : (i : Int) < a.length := by omega
    have hib : (i : Int) < b.length := by omega
    obtain ⟨p, off, rfl, hp, hc1⟩ := HA.out.upG (List.getElem?_eq_getElem hlt)
    obtain ⟨q, off2, rfl, hq, hd1⟩ := HB.out.upG (List.getElem?_eq_getElem hltb)
    obtain ⟨c0, c1⟩ := hc1 g
    obtain ⟨d0, d1⟩ := hd1 g
    clear hc1 hd1
    have hst : Hid (decide (a[i] = b[i] ∧ a.drop (i + 1) = b.drop (i + 1)) = r) := by show _ = _; rw [← HI.out, decide_eq_decide, drop_step hlt, drop_step hltb, List.cons.injEq]
    clear HI
    generalize a[i] = x at *
    generalize b[i] = u at *
    obtain ⟨x1, x2⟩ := x
    obtain ⟨u1, u2⟩ := u
    simp only [Prod.mk.injEq] at c0 c1 d0 d1 hst
    by_cases h1 : x1 = u1 ∧ x2 = u2
    ·have E : Hid (decide (a.drop (i + 1) = b.drop (i + 1)) = r) := by show _ = _; rw [← hst.out, decide_eq_decide]; exact ⟨fun h => ⟨h1, h⟩, fun h => h.2⟩
     clear hst
     obtain ⟨k0, k1⟩ := h1
     subst k0 k1
     go_wp2_with fail
     try (go_region; go_wp2_with fail)
     go_roundw
     case rel => first | exact ⟨i + 1, ⟨g.val.drew, g.ok.drew⟩, rfl, hlt, by go_num, E⟩ | exact ⟨i + 1, g, rfl, hlt, by go_num, E⟩
     case measure => simp [intOf]; omega
    ·have E : Hid (r = false) := by show _ = _; rw [← hst.out, decide_eq_false_iff_not]; exact fun h => h1 h.1
     clear hst
     by_cases k0 : x1 = u1
     ·subst k0
      have hn : ¬ (x2 = u2) := fun h => h1 ⟨rfl, h⟩
      have nz : ¬ (x2 = u2) := by omega
      have nb : (x2 == u2) = false := by simpa using nz
      have nc : (x2 != u2) = true := by simpa using nz
      clear h1 hn
      go_wp2_with fail
      try (go_region; go_wp2_with fail)
      go_ret
      first | exact ⟨ret_bool E.out.symm, g.ok.drew⟩ | exact ⟨ret_bool E.out.symm, g.ok⟩
     ·have hn := k0
      have nz : ¬ ((x1 : Int) = (u1 : Int)) := by omega
      have nb : ((x1 : Int) == (u1 : Int)) = false := by simpa using nz
      have nc : ((x1 : Int) != (u1 : Int)) = true := by simpa using nz
      clear h1 k0 hn
      go_wp2_with fail
      try (go_region; go_wp2_with fail)
      go_ret
      first | exact ⟨ret_bool E.out.symm, g.ok.drew⟩ | exact ⟨ret_bool E.out.symm, g.ok⟩
   ·obtain rfl : i = a.length := by omega
    have E : Hid (r = true) := by show _ = _; rw [← HI.out, decide_eq_true_eq, List.drop_of_length_le (Nat.le_refl _), List.drop_of_length_le (by rw [HL.out]; exact Nat.le_refl _)]
    go_wp2_with fail
    go_ret
    exact ⟨ret_bool E.out.symm, g.ok⟩
 ·have hlb : ((a.length : Int) != (b.length : Int)) = true := by simp; omega
  have E : Hid (r = false) := by show _ = _; rw [← hr, decide_eq_false_iff_not]; exact fun h => hl (by rw [h])
  clear hr
  go_enter Tryz.func89, Tryz.ntmps89
  go_wp2
  go_ret
  exact ⟨ret_bool E.out.symm, Below.refl _ _⟩
set_option maxRecDepth 100000 in
set_option maxHeartbeats 1000000 in
theorem eqDo_any (a b : List (Nat × Nat × Nat)) (A B : Option Addr) (c d : Nat) (w : World) (ha : Sl w A a.length c (kv u4 a)) (hb : Sl w B b.length d (kv u4 b)) :
  Calls Tryz.prog 53 #[.slice A a.length c, .slice B b.length d] w fun e w' => e = .returned (.bool (decide (a = b))) ∧ Below w.heap.size w w' := by
 have hlc : a.length ≤ 9223372036854775807 := Nat.le_trans ha.le ha.cap
 have HA := Lib.hid ha
 have HB := Lib.hid hb
 clear ha hb
 obtain ⟨r, hr⟩ : ∃ r, decide (a = b) = r := ⟨_, rfl⟩
 rw [hr]
 by_cases hl : a.length = b.length
 ·have hlb : ((a.length : Int) != (b.length : Int)) = false := by simp; omega
  have HR : Hid (decide (a.drop 0 = b.drop 0) = r) := hr
  have HL := Lib.hid hl
  have hbc : b.length ≤ 9223372036854775807 := by omega
  clear hr hl
  go_enter Tryz.func53, Tryz.ntmps53
  go_wp2
  go_loopw [13] (fun s13 wr => ∃ (i : Nat) (g : Gr w), wr = g.val ∧ i ≤ a.length ∧ s13 = .int .i64 i ∧ Hid (decide (a.drop i = b.drop i) = r)) (fun s13 _ => a.length - (intOf s13).toNat)
  case atStart => exact ⟨0, ⟨w, Below.refl _ _⟩, rfl, Nat.zero_le _, rfl, HR⟩
  case round =>
   obtain ⟨i, g, rfl, hi, rfl, HI⟩ := hrel
   by_cases hlt : i < a.length
   ·have hltb : i < b.length := by rw [← HL.out]; exact hlt
    have hiz : (i : Int) < a.length := by omega
    have hib : (i : Int) < b.length := by omega
    obtain ⟨p, off, rfl, hp, hc1⟩ := HA.out.u4G (List.getElem?_eq_getElem hlt)
    obtain ⟨q, off2, rfl, hq, hd1⟩ := HB.out.u4G (List.getElem?_eq_getElem hltb)
    obtain ⟨c0, c1, c2⟩ := hc1 g
    obtain ⟨d0, d1, d2⟩ := hd1 g
    clear hc1 hd1
    have hst : Hid (decide (a[i] = b[i] ∧ a.drop (i + 1) = b.drop (i + 1)) = r) := by show _ = _; rw [← HI.out, decide_eq_decide, drop_step hlt, drop_step hltb, List.cons.injEq]
    clear HI
    generalize a[i] = x at *
    generalize b[i] = u at *
    obtain ⟨x1, x2, x3⟩ := x
    obtain ⟨u1, u2, u3⟩ := u
    simp only [Prod.mk.injEq] at c0 c1 c2 d0 d1 d2 hst
    by_cases h1 : x1 = u1 ∧ x2 = u2 ∧ x3 = u3
    ·have E : Hid (decide (a.drop (i + 1) = b.drop (i + 1)) = r) := by show _ = _; rw [← hst.out, decide_eq_decide]; exact ⟨fun h => ⟨h1, h⟩, fun h => h.2⟩
     clear hst
     obtain ⟨k0, k1, k2⟩ := h1
     subst k0 k1 k2
     go_wp2_with fail
     try (go_region; go_wp2_with fail)
     go_roundw
     case rel => first | exact ⟨i + 1, ⟨g.val.drew, g.ok.drew⟩, rfl, hlt, by go_num, E⟩ | exact ⟨i + 1, g, rfl, hlt, by go_num, E⟩
     case measure => simp [intOf]; omega
    ·have E : Hid (r = false) := by show _ = _; rw [← hst.out, decide_eq_false_iff_not]; exact fun h => h1 h.1
     clear hst
     by_cases k0 : x1 = u1
     ·subst k0
      by_cases k1 : x2 = u2
      ·subst k1
       have hn : ¬ (x3 = u3) := fun h => h1 ⟨rfl, rfl, h⟩
       have nz : ¬ ((x3 : Int) = (u3 : Int)) := by omega
       have nb : ((x3 : Int) == (u3 : Int)) = false := by simpa using nz
       have nc : ((x3 : Int) != (u3 : Int)) = true := by simpa using nz
       clear h1 hn
       go_wp2_with fail
       try (go_region; go_wp2_with fail)
       go_ret
       first | exact ⟨ret_bool E.out.symm, g.ok.drew⟩ | exact ⟨ret_bool E.out.symm, g.ok⟩
      ·have hn := k1
       have nz : ¬ ((x2 : Int) = (u2 : Int)) := by omega
       have nb : ((x2 : Int) == (u2 : Int)) = false := by simpa using nz
       have nc : ((x2 : Int) != (u2 : Int)) = true := by simpa using nz
       clear h1 k1 hn
       go_wp2_with fail
       try (go_region; go_wp2_with fail)
       go_ret
       first | exact ⟨ret_bool E.out.symm, g.ok.drew⟩ | exact ⟨ret_bool E.out.symm, g.ok⟩
     ·have hn := k0
      have nz : ¬ ((x1 : Int) = (u1 : Int)) := by omega
      have nb : ((x1 : Int) == (u1 : Int)) = false := by simpa using nz
      have nc : ((x1 : Int) != (u1 : Int)) = true := by simpa using nz
      clear h1 k0 hn
      go_wp2_with fail
      try (go_region; go_wp2_with fail)
      go_ret
      first | exact ⟨ret_bool E.out.symm, g.ok.drew⟩ | exact ⟨ret_bool E.out.symm, g.ok⟩
   ·obtain rfl : i = a.length := by omega
    have E : Hid (r = true) := by show _ = _; rw [← HI.out, decide_eq_true_eq, List.drop_of_length_le (Nat.le_refl _), List.drop_of_length_le (by rw [HL.out]; exact Nat.le_refl _)]
    go_wp2_with fail
    go_ret
    exact ⟨ret_bool E.out.symm, g.ok⟩
 ·have hlb : ((a.length : Int) != (b.length : Int)) = true := by simp; omega
  have E : Hid (r = false) := by show _ = _; rw [← hr, decide_eq_false_iff_not]; exact fun h => hl (by rw [h])
  clear hr
  go_enter Tryz.func53, Tryz.ntmps53
  go_wp2
  go_ret
  exact ⟨ret_bool E.out.symm, Below.refl _ _⟩
end Go.Proofs.YtdhinjbkfffpeaaGreat
end
section
namespace Go.Proofs.YtdhinjbkfffpeaaGreat
open Go.ChangeShapes Go.WideShapes Go.ChangeAt Go.RowKit Go.Joins Sp Qr
theorem Stg.sameP_iff (b0 : Int) (t0 : List Spn) (s0 : List (Int × Int × Int)) (o0 : List Int) (e0 f0 b1 : Int) (t1 : List Spn) (s1 : List (Int × Int × Int)) (o1 : List Int) (e1 f1 : Int) :
  (⟨b0, t0, s0, o0, e0, f0⟩ : Stg) = ⟨b1, t1, s1, o1, e1, f1⟩ ↔ e0 = e1 ∧ f0 = f1 ∧ b0 = b1 ∧ t0 = t1 ∧ s0 = s1 ∧ o0 = o1 := by
 constructor
 ·intro h; injection h with h1 h2 h3 h4 h5 h6; exact ⟨h5, h6, h1, h2, h3, h4⟩
 ·rintro ⟨rfl, rfl, rfl, rfl, rfl, rfl⟩; rfl
set_option maxRecDepth 100000 in
set_option maxHeartbeats 4000000 in
theorem rSameSettingsP_any (a b : Stg) (p q : StgP) (w : World) (ha : StgAt w a p) (hb : StgAt w b q) :
  Calls Tryz.prog 37 #[.agg (sCells a p).toArray, .agg (sCells b q).toArray] w fun e w' => ∃ r, e = .returned (.bool r) ∧ (r = true ↔ a = b) ∧ Below w.heap.size w w' := by
 obtain ⟨r, hr⟩ : ∃ r : Bool, r = true ↔ a = b := by classical exact ⟨decide (a = b), by simp⟩
 suffices h : Calls Tryz.prog 37 #[.agg (sCells a p).toArray, .agg (sCells b q).toArray] w fun e w' => e = .returned (.bool r) ∧ Below w.heap.size w w' from h.mono fun e w' h => ⟨r, h.1, hr, h.2⟩
 obtain ⟨b0, t0, s0, o0, e0, f0⟩ := a
 obtain ⟨b1, t1, s1, o1, e1, f1⟩ := b
 obtain ⟨A1, A2, A3, c1, c2, c3⟩ := p
 obtain ⟨B1, B2, B3, d1, d2, d3⟩ := q
 rw [Stg.sameP_iff] at hr
 obtain ⟨ha1, ha2, ha3⟩ := ha
 obtain ⟨hb1, hb2, hb3⟩ := hb
 unfold sCells
 simp only [List.toArray] at *
 have HSa1 : Hid (∀ wr, Below w.heap.size w wr → Sl wr A1 t0.length c1 (sv t0)) := fun wr hb' => ha1.below hb' (Nat.le_refl _)
 have HSb1 : Hid (∀ wr, Below w.heap.size w wr → Sl wr B1 t1.length d1 (sv t1)) := fun wr hb' => hb1.below hb' (Nat.le_refl _)
 have HSa2 : Hid (∀ wr, Below w.heap.size w wr → Sl wr A2 s0.length c2 (tv s0)) := fun wr hb' => ha2.below hb' (Nat.le_refl _)
 have HSb2 : Hid (∀ wr, Below w.heap.size w wr → Sl wr B2 s1.length d2 (tv s1)) := fun wr hb' => hb2.below hb' (Nat.le_refl _)
 have HSa3 : Hid (∀ wr, Below w.heap.size w wr → Sl wr A3 o0.length c3 (iv o0)) := fun wr hb' => ha3.below hb' (Nat.le_refl _)
 have HSb3 : Hid (∀ wr, Below w.heap.size w wr → Sl wr B3 o1.length d3 (iv o1)) := fun wr hb' => hb3.below hb' (Nat.le_refl _)
 clear ha1 ha2 ha3 hb1 hb2 hb3
 obtain ⟨W, hW⟩ : ∃ W, (w.alloc (.cells #[.int .i64 b0, .slice A1 t0.length c1, .slice A2 s0.length c2, .slice A3 o0.length c3, .int .i64 e0, .int .i64 f0] 57)).alloc (.cells #[.int .i64 b1, .slice B1 t1.length d1, .slice B2 s1.length d2, .slice B3 o1.length d3, .int .i64 e1, .int .i64 f1] 57) = W := ⟨_, rfl⟩
 have hBW : Below w.heap.size w W := by rw [← hW]; exact ((Below.refl _ w).alloc (Nat.le_refl _) _).alloc (by simp) _
 have HG : Hid (∀ g : Gr W, Below w.heap.size w g.val) := fun g => hBW.trans (g.ok.mono hBW.size)
 have HA : Hid (∀ (g : Gr W) (k : Nat) (v : Value), (#[.int .i64 b0, .slice A1 t0.length c1, .slice A2 s0.length c2, .slice A3 o0.length c3, .int .i64 e0, .int .i64 f0] : Array Value)[k]? = some v → g.val.cell? ⟨w.heap.size, k, none⟩ = some v) := fun g k v hv => cell_old (by rw [← hW]; exact blk_cell (cs := #[.int .i64 b0, .slice A1 t0.length c1, .slice A2 s0.length c2, .slice A3 o0.length c3, .int .i64 e0, .int .i64 f0]) (t := 57) (by rw [heap_alloc_old _ _ (by simp)]; exact heap_alloc_new _ _) hv) g.ok
 have HB : Hid (∀ (g : Gr W) (k : Nat) (v : Value), (#[.int .i64 b1, .slice B1 t1.length d1, .slice B2 s1.length d2, .slice B3 o1.length d3, .int .i64 e1, .int .i64 f1] : Array Value)[k]? = some v → g.val.cell? ⟨w.heap.size + 1, k, none⟩ = some v) := fun g k v hv => cell_old (by rw [← hW]; exact blk_cell (cs := #[.int .i64 b1, .slice B1 t1.length d1, .slice B2 s1.length d2, .slice B3 o1.length d3, .int .i64 e1, .int .i64 f1]) (t := 57) (heap_alloc_new2 _ _ _) hv) g.ok
 have E1 := Lib.hid hW
 clear hW hBW
 have HR := Lib.hid hr
 clear hr
 have fa0 := HA.out ⟨W, Below.refl _ _⟩ 0 (.int .i64 b0) rfl
 have fb0 := HB.out ⟨W, Below.refl _ _⟩ 0 (.int .i64 b1) rfl
 have fa1 := HA.out ⟨W, Below.refl _ _⟩ 1 (.slice A1 t0.length c1) rfl
 have fb1 := HB.out ⟨W, Below.refl _ _⟩ 1 (.slice B1 t1.length d1) rfl
 have fa4 := HA.out ⟨W, Below.refl _ _⟩ 4 (.int .i64 e0) rfl
 have fb4 := HB.out ⟨W, Below.refl _ _⟩ 4 (.int .i64 e1) rfl
 have fa5 := HA.out ⟨W, Below.refl _ _⟩ 5 (.int .i64 f0) rfl
 have fb5 := HB.out ⟨W, Below.refl _ _⟩ 5 (.int .i64 f1) rfl
 try simp only at fa0 fb0 fa1 fb1 fa4 fb4 fa5 fb5
 by_cases h0 : e0 = e1
 rotate_left
 ·have eb0 : (e0 != e1) = true := by simpa using h0
  have ec0 : (e0 == e1) = false := by simpa using h0
  have E : Hid (r = false) := Bool.eq_false_iff.2 fun k => h0 (HR.out.1 k).1
  go_enter Tryz.func37, Tryz.ntmps37
  go_upto_region 1 with fail
  rw [E1.out]
  go_wp2_with fail
  go_ret
  exact ⟨ret_bool E.out.symm, HG.out ⟨W, Below.refl _ _⟩⟩
 subst h0
 by_cases h1 : f0 = f1
 rotate_left
 ·have eb1 : (f0 != f1) = true := by simpa using h1
  have ec1 : (f0 == f1) = false := by simpa using h1
  have E : Hid (r = false) := Bool.eq_false_iff.2 fun k => h1 (HR.out.1 k).2.1
  go_enter Tryz.func37, Tryz.ntmps37
  go_upto_region 1 with fail
  rw [E1.out]
  go_wp2_with fail
  go_ret
  exact ⟨ret_bool E.out.symm, HG.out ⟨W, Below.refl _ _⟩⟩
 subst h1
 by_cases h2 : b0 = b1
 rotate_left
 ·have eb2 : (b0 != b1) = true := by simpa using h2
  have ec2 : (b0 == b1) = false := by simpa using h2
  have E : Hid (r = false) := Bool.eq_false_iff.2 fun k => h2 (HR.out.1 k).2.2.1
  go_enter Tryz.func37, Tryz.ntmps37
  go_upto_region 1 with fail
  rw [E1.out]
  go_wp2_with fail
  go_ret
  exact ⟨ret_bool E.out.symm, HG.out ⟨W, Below.refl _ _⟩⟩
 subst h2
 go_enter Tryz.func37, Tryz.ntmps37
 go_upto_region 1 with fail
 rw [E1.out]
 go_wp2_with fail
 go_at_call 77
 refine (eqTu_any t0 t1 A1 B1 c1 d1 _ (HSa1.out _ (HG.out ⟨W, Below.refl _ _⟩)) (HSb1.out _ (HG.out ⟨W, Below.refl _ _⟩))).mono ?_
 rintro e w3 ⟨rfl, hb3⟩
 obtain ⟨g3, rfl⟩ := Gr.on ⟨W, Below.refl _ _⟩ hb3
 clear hb3
 have hv3 : decide (t0 = t1) = true ↔ t0 = t1 := by simp
 generalize decide (t0 = t1) = v3 at *
 clear fa0 fb0 fa1 fb1 fa4 fb4 fa5 fb5
 have fa2 := HA.out g3 2 (.slice A2 s0.length c2) rfl
 have fb2 := HB.out g3 2 (.slice B2 s1.length d2) rfl
 try simp only at fa2 fb2
 cases v3 with
 | false =>
  have hn3 : ¬ (t0 = t1) := fun k => by simpa using hv3.2 k
  have E : Hid (r = false) := Bool.eq_false_iff.2 fun k => hn3 (HR.out.1 k).2.2.2.1
  go_wp2_with fail
  go_ret
  exact ⟨ret_bool E.out.symm, HG.out g3⟩
 | true =>
  have HC3 : Hid (t0 = t1) := hv3.1 rfl
  clear hv3
  go_wp2_with fail
  go_at_call 78
  refine (eqSh_any s0 s1 A2 B2 c2 d2 _ (HSa2.out _ (HG.out g3)) (HSb2.out _ (HG.out g3))).mono ?_
  rintro e w4 ⟨rfl, hb4⟩
  obtain ⟨g4, rfl⟩ := Gr.on g3 hb4
  clear hb4
  have hv4 : decide (s0 = s1) = true ↔ s0 = s1 := by simp
  generalize decide (s0 = s1) = v4 at *
  clear fa2 fb2
  have fa3 := HA.out g4 3 (.slice A3 o0.length c3) rfl
  have fb3 := HB.out g4 3 (.slice B3 o1.length d3) rfl
  try simp only at fa3 fb3
  cases v4 with
  | false =>
   have hn4 : ¬ (s0 = s1) := fun k => by simpa using hv4.2 k
   have E : Hid (r = false) := Bool.eq_false_iff.2 fun k => hn4 (HR.out.1 k).2.2.2.2.1
   go_wp2_with fail
   go_ret
   exact ⟨ret_bool E.out.symm, HG.out g4⟩
  | true =>
   have HC4 : Hid (s0 = s1) := hv4.1 rfl
   clear hv4
   go_wp2_with fail
   go_at_call 79
   refine (eqI_any o0 o1 A3 B3 c3 d3 _ (HSa3.out _ (HG.out g4)) (HSb3.out _ (HG.out g4))).mono ?_
   rintro e w5 ⟨rfl, hb5⟩
   obtain ⟨g5, rfl⟩ := Gr.on g4 hb5
   clear hb5
   have hv5 : decide (o0 = o1) = true ↔ o0 = o1 := by simp
   generalize decide (o0 = o1) = v5 at *
   clear fa3 fb3
   cases v5 with
   | false =>
    have hn5 : ¬ (o0 = o1) := fun k => by simpa using hv5.2 k
    have E : Hid (r = false) := Bool.eq_false_iff.2 fun k => hn5 (HR.out.1 k).2.2.2.2.2
    go_wp2_with fail
    go_ret
    exact ⟨ret_bool E.out.symm, HG.out g5⟩
   | true =>
    have HC5 : Hid (o0 = o1) := hv5.1 rfl
    clear hv5
    have E : Hid (r = true) := HR.out.2 ⟨(by first | rfl | trivial), (by first | rfl | trivial), (by first | rfl | trivial), HC3.out, HC4.out, HC5.out⟩
    go_wp2_with fail
    go_ret
    exact ⟨ret_bool E.out.symm, HG.out g5⟩
theorem Evt.sameP_iff (a0 b0 : Int) (w0 g0 : Bool) (r0 : Qr.R) (x0 p0 : List Int) (k0 : List (Int × Int × Int)) (a1 b1 : Int) (w1 g1 : Bool) (r1 : Qr.R) (x1 p1 : List Int) (k1 : List (Int × Int × Int)) :
  (⟨a0, b0, w0, g0, r0, x0, p0, k0⟩ : Evt) = ⟨a1, b1, w1, g1, r1, x1, p1, k1⟩ ↔ a0 = a1 ∧ b0 = b1 ∧ w0 = w1 ∧ g0 = g1 ∧ r0 = r1 ∧ x0 = x1 ∧ p0 = p1 ∧ k0 = k1 := by
 constructor
 ·intro h; injection h with h1 h2 h3 h4 h5 h6 h7 h8; exact ⟨h1, h2, h3, h4, h5, h6, h7, h8⟩
 ·rintro ⟨rfl, rfl, rfl, rfl, rfl, rfl, rfl, rfl⟩; rfl
set_option maxRecDepth 100000 in
set_option maxHeartbeats 4000000 in
theorem rSameEventP_any (a b : Evt) (p q : EvP) (w : World) (ha : EvAt w a p) (hb : EvAt w b q) :
  Calls Tryz.prog 38 #[.agg (eCells a p).toArray, .agg (eCells b q).toArray] w fun e w' => ∃ r, e = .returned (.bool r) ∧ (r = true ↔ a = b) ∧ Below w.heap.size w w' := by
 obtain ⟨r, hr⟩ : ∃ r : Bool, r = true ↔ a = b := by classical exact ⟨decide (a = b), by simp⟩
 suffices h : Calls Tryz.prog 38 #[.agg (eCells a p).toArray, .agg (eCells b q).toArray] w fun e w' => e = .returned (.bool r) ∧ Below w.heap.size w w' from h.mono fun e w' h => ⟨r, h.1, hr, h.2⟩
 obtain ⟨a0, b0, w0, g0, r0, x0, p0, k0⟩ := a
 obtain ⟨a1, b1, w1, g1, r1, x1, p1, k1⟩ := b
 obtain ⟨A1, A2, A3, A4, A5, A6, A7, c1, c2, c3, c4, c5, c6, c7⟩ := p
 obtain ⟨B1, B2, B3, B4, B5, B6, B7, d1, d2, d3, d4, d5, d6, d7⟩ := q
 rw [Evt.sameP_iff] at hr
 obtain ⟨har, ha5, ha6, ha7⟩ := ha
 obtain ⟨hbr, hb5, hb6, hb7⟩ := hb
 rw [cv_tv'] at ha7 hb7
 unfold eCells
 simp only [List.toArray] at *
 have HRC : Hid (∀ g : World, Below w.heap.size w g → Calls Tryz.prog 80 #[.agg (rcells r0 A1 A2 A3 A4 c1 c2 c3 c4), .agg (rcells r1 B1 B2 B3 B4 d1 d2 d3 d4)] g fun e w' => ∃ r, e = .returned (.bool r) ∧ (r = true ↔ r0 = r1) ∧ Below g.heap.size g w') := fun g hb' => (same9_any r0 r1 A1 A2 A3 A4 c1 c2 c3 c4 B1 B2 B3 B4 d1 d2 d3 d4 g (har.below hb' (Nat.le_refl _)) (hbr.below hb' (Nat.le_refl _))).mono fun e w' ⟨h1, h2⟩ => ⟨sameB r0 r1, h1, by simp [sameB, sameP_iff], h2⟩
 unfold rcells at HRC
 have HSa5 : Hid (∀ wr, Below w.heap.size w wr → Sl wr A5 x0.length c5 (iv x0)) := fun wr hb' => ha5.below hb' (Nat.le_refl _)
 have HSb5 : Hid (∀ wr, Below w.heap.size w wr → Sl wr B5 x1.length d5 (iv x1)) := fun wr hb' => hb5.below hb' (Nat.le_refl _)
 have HSa6 : Hid (∀ wr, Below w.heap.size w wr → Sl wr A6 p0.length c6 (iv p0)) := fun wr hb' => ha6.below hb' (Nat.le_refl _)
 have HSb6 : Hid (∀ wr, Below w.heap.size w wr → Sl wr B6 p1.length d6 (iv p1)) := fun wr hb' => hb6.below hb' (Nat.le_refl _)
 have HSa7 : Hid (∀ wr, Below w.heap.size w wr → Sl wr A7 k0.length c7 (tv k0)) := fun wr hb' => ha7.below hb' (Nat.le_refl _)
 have HSb7 : Hid (∀ wr, Below w.heap.size w wr → Sl wr B7 k1.length d7 (tv k1)) := fun wr hb' => hb7.below hb' (Nat.le_refl _)
 clear har hbr ha5 ha6 ha7 hb5 hb6 hb7
 obtain ⟨W, hW⟩ : ∃ W, (w.alloc (.cells #[.int .i64 a0, .int .i64 b0, .bool w0, .bool g0, .int .i64 r0.freq, .int .i64 r0.iv, .int .i64 r0.count, .int .i64 r0.until_, .slice A1 r0.bm.length c1, .slice A2 r0.bd.length c2, .slice A3 r0.bw.length c3, .slice A4 r0.bs.length c4, .int .i64 r0.start, .slice A5 x0.length c5, .slice A6 p0.length c6, .slice A7 k0.length c7] 63)).alloc (.cells #[.int .i64 a1, .int .i64 b1, .bool w1, .bool g1, .int .i64 r1.freq, .int .i64 r1.iv, .int .i64 r1.count, .int .i64 r1.until_, .slice B1 r1.bm.length d1, .slice B2 r1.bd.length d2, .slice B3 r1.bw.length d3, .slice B4 r1.bs.length d4, .int .i64 r1.start, .slice B5 x1.length d5, .slice B6 p1.length d6, .slice B7 k1.length d7] 63) = W := ⟨_, rfl⟩
 have hBW : Below w.heap.size w W := by rw [← hW]; exact ((Below.refl _ w).alloc (Nat.le_refl _) _).alloc (by simp) _
 have HG : Hid (∀ g : Gr W, Below w.heap.size w g.val) := fun g => hBW.trans (g.ok.mono hBW.size)
 have HA : Hid (∀ (g : Gr W) (k : Nat) (v : Value), (#[.int .i64 a0, .int .i64 b0, .bool w0, .bool g0, .int .i64 r0.freq, .int .i64 r0.iv, .int .i64 r0.count, .int .i64 r0.until_, .slice A1 r0.bm.length c1, .slice A2 r0.bd.length c2, .slice A3 r0.bw.length c3, .slice A4 r0.bs.length c4, .int .i64 r0.start, .slice A5 x0.length c5, .slice A6 p0.length c6, .slice A7 k0.length c7] : Array Value)[k]? = some v → g.val.cell? ⟨w.heap.size, k, none⟩ = some v) := fun g k v hv => cell_old (by rw [← hW]; exact blk_cell (cs := #[.int .i64 a0, .int .i64 b0, .bool w0, .bool g0, .int .i64 r0.freq, .int .i64 r0.iv, .int .i64 r0.count, .int .i64 r0.until_, .slice A1 r0.bm.length c1, .slice A2 r0.bd.length c2, .slice A3 r0.bw.length c3, .slice A4 r0.bs.length c4, .int .i64 r0.start, .slice A5 x0.length c5, .slice A6 p0.length c6, .slice A7 k0.length c7]) (t := 63) (by rw [heap_alloc_old _ _ (by simp)]; exact heap_alloc_new _ _) hv) g.ok
 have HB : Hid (∀ (g : Gr W) (k : Nat) (v : Value), (#[.int .i64 a1, .int .i64 b1, .bool w1, .bool g1, .int .i64 r1.freq, .int .i64 r1.iv, .int .i64 r1.count, .int .i64 r1.until_, .slice B1 r1.bm.length d1, .slice B2 r1.bd.length d2, .slice B3 r1.bw.length d3, .slice B4 r1.bs.length d4, .int .i64 r1.start, .slice B5 x1.length d5, .slice B6 p1.length d6, .slice B7 k1.length d7] : Array Value)[k]? = some v → g.val.cell? ⟨w.heap.size + 1, k, none⟩ = some v) := fun g k v hv => cell_old (by rw [← hW]; exact blk_cell (cs := #[.int .i64 a1, .int .i64 b1, .bool w1, .bool g1, .int .i64 r1.freq, .int .i64 r1.iv, .int .i64 r1.count, .int .i64 r1.until_, .slice B1 r1.bm.length d1, .slice B2 r1.bd.length d2, .slice B3 r1.bw.length d3, .slice B4 r1.bs.length d4, .int .i64 r1.start, .slice B5 x1.length d5, .slice B6 p1.length d6, .slice B7 k1.length d7]) (t := 63) (heap_alloc_new2 _ _ _) hv) g.ok
 have E1 := Lib.hid hW
 clear hW hBW
 have HR := Lib.hid hr
 clear hr
 have fa0 := HA.out ⟨W, Below.refl _ _⟩ 0 (.int .i64 a0) rfl
 have fb0 := HB.out ⟨W, Below.refl _ _⟩ 0 (.int .i64 a1) rfl
 have fa1 := HA.out ⟨W, Below.refl _ _⟩ 1 (.int .i64 b0) rfl
 have fb1 := HB.out ⟨W, Below.refl _ _⟩ 1 (.int .i64 b1) rfl
 have fa2 := HA.out ⟨W, Below.refl _ _⟩ 2 (.bool w0) rfl
 have fb2 := HB.out ⟨W, Below.refl _ _⟩ 2 (.bool w1) rfl
 have fa3 := HA.out ⟨W, Below.refl _ _⟩ 3 (.bool g0) rfl
 have fb3 := HB.out ⟨W, Below.refl _ _⟩ 3 (.bool g1) rfl
 have fa4 := HA.out ⟨W, Below.refl _ _⟩ 4 (.int .i64 r0.freq) rfl
 have fb4 := HB.out ⟨W, Below.refl _ _⟩ 4 (.int .i64 r1.freq) rfl
 have fa5 := HA.out ⟨W, Below.refl _ _⟩ 5 (.int .i64 r0.iv) rfl
 have fb5 := HB.out ⟨W, Below.refl _ _⟩ 5 (.int .i64 r1.iv) rfl
 have fa6 := HA.out ⟨W, Below.refl _ _⟩ 6 (.int .i64 r0.count) rfl
 have fb6 := HB.out ⟨W, Below.refl _ _⟩ 6 (.int .i64 r1.count) rfl
 have fa7 := HA.out ⟨W, Below.refl _ _⟩ 7 (.int .i64 r0.until_) rfl
 have fb7 := HB.out ⟨W, Below.refl _ _⟩ 7 (.int .i64 r1.until_) rfl
 have fa8 := HA.out ⟨W, Below.refl _ _⟩ 8 (.slice A1 r0.bm.length c1) rfl
 have fb8 := HB.out ⟨W, Below.refl _ _⟩ 8 (.slice B1 r1.bm.length d1) rfl
 have fa9 := HA.out ⟨W, Below.refl _ _⟩ 9 (.slice A2 r0.bd.length c2) rfl
 have fb9 := HB.out ⟨W, Below.refl _ _⟩ 9 (.slice B2 r1.bd.length d2) rfl
 have fa10 := HA.out ⟨W, Below.refl _ _⟩ 10 (.slice A3 r0.bw.length c3) rfl
 have fb10 := HB.out ⟨W, Below.refl _ _⟩ 10 (.slice B3 r1.bw.length d3) rfl
 have fa11 := HA.out ⟨W, Below.refl _ _⟩ 11 (.slice A4 r0.bs.length c4) rfl
 have fb11 := HB.out ⟨W, Below.refl _ _⟩ 11 (.slice B4 r1.bs.length d4) rfl
 have fa12 := HA.out ⟨W, Below.refl _ _⟩ 12 (.int .i64 r0.start) rfl
 have fb12 := HB.out ⟨W, Below.refl _ _⟩ 12 (.int .i64 r1.start) rfl
 try simp only at fa0 fb0 fa1 fb1 fa2 fb2 fa3 fb3 fa4 fb4 fa5 fb5 fa6 fb6 fa7 fb7 fa8 fb8 fa9 fb9 fa10 fb10 fa11 fb11 fa12 fb12
 by_cases h0 : a0 = a1
 rotate_left
 ·have eb0 : (a0 != a1) = true := by simpa using h0
  have ec0 : (a0 == a1) = false := by simpa using h0
  have E : Hid (r = false) := Bool.eq_false_iff.2 fun k => h0 (HR.out.1 k).1
  go_enter Tryz.func38, Tryz.ntmps38
  go_upto_region 1 with fail
  rw [E1.out]
  go_wp2_with fail
  go_ret
  exact ⟨ret_bool E.out.symm, HG.out ⟨W, Below.refl _ _⟩⟩
 subst h0
 by_cases h1 : b0 = b1
 rotate_left
 ·have eb1 : (b0 != b1) = true := by simpa using h1
  have ec1 : (b0 == b1) = false := by simpa using h1
  have E : Hid (r = false) := Bool.eq_false_iff.2 fun k => h1 (HR.out.1 k).2.1
  go_enter Tryz.func38, Tryz.ntmps38
  go_upto_region 1 with fail
  rw [E1.out]
  go_wp2_with fail
  go_ret
  exact ⟨ret_bool E.out.symm, HG.out ⟨W, Below.refl _ _⟩⟩
 subst h1
 by_cases h2 : w0 = w1
 rotate_left
 ·have E : Hid (r = false) := Bool.eq_false_iff.2 fun k => h2 (HR.out.1 k).2.2.1
  have hw : w0 = true ∧ w1 = false ∨ w0 = false ∧ w1 = true := by clear E; revert h2; cases w0 <;> cases w1 <;> simp
  clear h2
  rcases hw with ⟨rfl, rfl⟩ | ⟨rfl, rfl⟩
  all_goals
   go_enter Tryz.func38, Tryz.ntmps38
   go_upto_region 1 with fail
   rw [E1.out]
   go_wp2_with fail
   go_ret
   exact ⟨ret_bool E.out.symm, HG.out ⟨W, Below.refl _ _⟩⟩
 subst h2
 by_cases h3 : g0 = g1
 rotate_left
 ·have E : Hid (r = false) := Bool.eq_false_iff.2 fun k => h3 (HR.out.1 k).2.2.2.1
  have hw : g0 = true ∧ g1 = false ∨ g0 = false ∧ g1 = true := by clear E; revert h3; cases g0 <;> cases g1 <;> simp
  clear h3
  rcases hw with ⟨rfl, rfl⟩ | ⟨rfl, rfl⟩
  all_goals
   go_enter Tryz.func38, Tryz.ntmps38
   go_upto_region 1 with fail
   rw [E1.out]
   go_wp2_with fail
   go_ret
   exact ⟨ret_bool E.out.symm, HG.out ⟨W, Below.refl _ _⟩⟩
 subst h3
 go_enter Tryz.func38, Tryz.ntmps38
 go_upto_region 1 with fail
 rw [E1.out]
 go_wp2_with fail
 go_at_call 80
 refine (HRC.out _ (HG.out ⟨W, Below.refl _ _⟩)).mono ?_
 rintro e w4 ⟨v4, rfl, hv4, hb4⟩
 obtain ⟨g4, rfl⟩ := Gr.on ⟨W, Below.refl _ _⟩ hb4
 clear hb4
 clear fa0 fb0 fa1 fb1 fa2 fb2 fa3 fb3 fa4 fb4 fa5 fb5 fa6 fb6 fa7 fb7 fa8 fb8 fa9 fb9 fa10 fb10 fa11 fb11 fa12 fb12
 have fa13 := HA.out g4 13 (.slice A5 x0.length c5) rfl
 have fb13 := HB.out g4 13 (.slice B5 x1.length d5) rfl
 try simp only at fa13 fb13
 cases v4 with
 | false =>
  have hn4 : ¬ (r0 = r1) := fun k => by simpa using hv4.2 k
  have E : Hid (r = false) := Bool.eq_false_iff.2 fun k => hn4 (HR.out.1 k).2.2.2.2.1
  go_wp2_with fail
  go_ret
  exact ⟨ret_bool E.out.symm, HG.out g4⟩
 | true =>
  have HC4 : Hid (r0 = r1) := hv4.1 rfl
  clear hv4
  go_wp2_with fail
  go_at_call 81
  refine (eqLo_any x0 x1 A5 B5 c5 d5 _ (HSa5.out _ (HG.out g4)) (HSb5.out _ (HG.out g4))).mono ?_
  rintro e w5 ⟨rfl, hb5⟩
  obtain ⟨g5, rfl⟩ := Gr.on g4 hb5
  clear hb5
  have hv5 : decide (x0 = x1) = true ↔ x0 = x1 := by simp
  generalize decide (x0 = x1) = v5 at *
  clear fa13 fb13
  have fa14 := HA.out g5 14 (.slice A6 p0.length c6) rfl
  have fb14 := HB.out g5 14 (.slice B6 p1.length d6) rfl
  try simp only at fa14 fb14
  cases v5 with
  | false =>
   have hn5 : ¬ (x0 = x1) := fun k => by simpa using hv5.2 k
   have E : Hid (r = false) := Bool.eq_false_iff.2 fun k => hn5 (HR.out.1 k).2.2.2.2.2.1
   go_wp2_with fail
   go_ret
   exact ⟨ret_bool E.out.symm, HG.out g5⟩
  | true =>
   have HC5 : Hid (x0 = x1) := hv5.1 rfl
   clear hv5
   go_wp2_with fail
   go_at_call 81
   refine (eqLo_any p0 p1 A6 B6 c6 d6 _ (HSa6.out _ (HG.out g5)) (HSb6.out _ (HG.out g5))).mono ?_
   rintro e w6 ⟨rfl, hb6⟩
   obtain ⟨g6, rfl⟩ := Gr.on g5 hb6
   clear hb6
   have hv6 : decide (p0 = p1) = true ↔ p0 = p1 := by simp
   generalize decide (p0 = p1) = v6 at *
   clear fa14 fb14
   have fa15 := HA.out g6 15 (.slice A7 k0.length c7) rfl
   have fb15 := HB.out g6 15 (.slice B7 k1.length d7) rfl
   try simp only at fa15 fb15
   cases v6 with
   | false =>
    have hn6 : ¬ (p0 = p1) := fun k => by simpa using hv6.2 k
    have E : Hid (r = false) := Bool.eq_false_iff.2 fun k => hn6 (HR.out.1 k).2.2.2.2.2.2.1
    go_wp2_with fail
    go_ret
    exact ⟨ret_bool E.out.symm, HG.out g6⟩
   | true =>
    have HC6 : Hid (p0 = p1) := hv6.1 rfl
    clear hv6
    go_wp2_with fail
    go_at_call 82
    refine (eqCh_any k0 k1 A7 B7 c7 d7 _ (HSa7.out _ (HG.out g6)) (HSb7.out _ (HG.out g6))).mono ?_
    rintro e w7 ⟨rfl, hb7⟩
    obtain ⟨g7, rfl⟩ := Gr.on g6 hb7
    clear hb7
    have hv7 : decide (k0 = k1) = true ↔ k0 = k1 := by simp
    generalize decide (k0 = k1) = v7 at *
    clear fa15 fb15
    cases v7 with
    | false =>
     have hn7 : ¬ (k0 = k1) := fun k => by simpa using hv7.2 k
     have E : Hid (r = false) := Bool.eq_false_iff.2 fun k => hn7 (HR.out.1 k).2.2.2.2.2.2.2
     go_wp2_with fail
     go_ret
     exact ⟨ret_bool E.out.symm, HG.out g7⟩
    | true =>
     have HC7 : Hid (k0 = k1) := hv7.1 rfl
     clear hv7
     have E : Hid (r = true) := HR.out.2 ⟨(by first | rfl | trivial), (by first | rfl | trivial), (by first | rfl | trivial), (by first | rfl | trivial), HC4.out, HC5.out, HC6.out, HC7.out⟩
     go_wp2_with fail
     go_ret
     exact ⟨ret_bool E.out.symm, HG.out g7⟩
theorem Qy.sameP_iff (u0 v0 l0 g0 : Int) (m0 : List Nat) (y0 : List (Nat × Int)) (s0 : Int) (a0 : List (Nat × Nat)) (p0 : List (Int × Int × Int)) (u1 v1 l1 g1 : Int) (m1 : List Nat) (y1 : List (Nat × Int)) (s1 : Int) (a1 : List (Nat × Nat)) (p1 : List (Int × Int × Int)) :
  (⟨(u0, v0), l0, g0, m0, y0, s0, a0, p0⟩ : Qy) = ⟨(u1, v1), l1, g1, m1, y1, s1, a1, p1⟩ ↔ (u0, v0) = (u1, v1) ∧ l0 = l1 ∧ g0 = g1 ∧ s0 = s1 ∧ m0 = m1 ∧ y0 = y1 ∧ a0 = a1 ∧ p0 = p1 := by
 constructor
 ·intro h; injection h with h1 h2 h3 h4 h5 h6 h7 h8; exact ⟨h1, h2, h3, h6, h4, h5, h7, h8⟩
 ·rintro ⟨h, rfl, rfl, rfl, rfl, rfl, rfl, rfl⟩; rw [h]
set_option maxRecDepth 100000 in
set_option maxHeartbeats 4000000 in
theorem rSameQueryP_any (a b : Qy) (p q : QyP) (w : World) (ha : QyAt w a p) (hb : QyAt w b q) :
  Calls Tryz.prog 39 #[.agg (qCells a p).toArray, .agg (qCells b q).toArray] w fun e w' => ∃ r, e = .returned (.bool r) ∧ (r = true ↔ a = b) ∧ Below w.heap.size w w' := by
 obtain ⟨r, hr⟩ : ∃ r : Bool, r = true ↔ a = b := by classical exact ⟨decide (a = b), by simp⟩
 suffices h : Calls Tryz.prog 39 #[.agg (qCells a p).toArray, .agg (qCells b q).toArray] w fun e w' => e = .returned (.bool r) ∧ Below w.heap.size w w' from h.mono fun e w' h => ⟨r, h.1, hr, h.2⟩
 obtain ⟨⟨f0, j0⟩, l0, g0, m0, y0, s0, a0, p0⟩ := a
 obtain ⟨⟨f1, j1⟩, l1, g1, m1, y1, s1, a1, p1⟩ := b
 obtain ⟨A1, A2, A3, A4, c1, c2, c3, c4⟩ := p
 obtain ⟨B1, B2, B3, B4, d1, d2, d3, d4⟩ := q
 rw [Qy.sameP_iff] at hr
 obtain ⟨ha1, ha2, ha3, ha4⟩ := ha
 obtain ⟨hb1, hb2, hb3, hb4⟩ := hb
 unfold qCells
 simp only [List.toArray] at *
 have HSa1 : Hid (∀ wr, Below w.heap.size w wr → Sl wr A1 m0.length c1 (kv u1 m0)) := fun wr hb' => ha1.below hb' (Nat.le_refl _)
 have HSa2 : Hid (∀ wr, Below w.heap.size w wr → Sl wr A2 y0.length c2 (kv u2 y0)) := fun wr hb' => ha2.below hb' (Nat.le_refl _)
 have HSa3 : Hid (∀ wr, Below w.heap.size w wr → Sl wr A3 a0.length c3 (kv u3 a0)) := fun wr hb' => ha3.below hb' (Nat.le_refl _)
 have HSa4 : Hid (∀ wr, Below w.heap.size w wr → Sl wr A4 p0.length c4 (tv p0)) := fun wr hb' => ha4.below hb' (Nat.le_refl _)
 have HSb1 : Hid (∀ wr, Below w.heap.size w wr → Sl wr B1 m1.length d1 (kv u1 m1)) := fun wr hb' => hb1.below hb' (Nat.le_refl _)
 have HSb2 : Hid (∀ wr, Below w.heap.size w wr → Sl wr B2 y1.length d2 (kv u2 y1)) := fun wr hb' => hb2.below hb' (Nat.le_refl _)
 have HSb3 : Hid (∀ wr, Below w.heap.size w wr → Sl wr B3 a1.length d3 (kv u3 a1)) := fun wr hb' => hb3.below hb' (Nat.le_refl _)
 have HSb4 : Hid (∀ wr, Below w.heap.size w wr → Sl wr B4 p1.length d4 (tv p1)) := fun wr hb' => hb4.below hb' (Nat.le_refl _)
 clear ha1 ha2 ha3 ha4 hb1 hb2 hb3 hb4
 obtain ⟨W, hW⟩ : ∃ W, (w.alloc (.cells #[.int .i64 f0, .int .i64 j0, .int .i64 l0, .int .i64 g0, .slice A1 m0.length c1, .slice A2 y0.length c2, .int .i64 s0, .slice A3 a0.length c3, .slice A4 p0.length c4] 33)).alloc (.cells #[.int .i64 f1, .int .i64 j1, .int .i64 l1, .int .i64 g1, .slice B1 m1.length d1, .slice B2 y1.length d2, .int .i64 s1, .slice B3 a1.length d3, .slice B4 p1.length d4] 33) = W := ⟨_, rfl⟩
 have hBW : Below w.heap.size w W := by rw [← hW]; exact ((Below.refl _ w).alloc (Nat.le_refl _) _).alloc (by simp) _
 have HG : Hid (∀ g : Gr W, Below w.heap.size w g.val) := fun g => hBW.trans (g.ok.mono hBW.size)
 have HA : Hid (∀ (g : Gr W) (k : Nat) (v : Value), (#[.int .i64 f0, .int .i64 j0, .int .i64 l0, .int .i64 g0, .slice A1 m0.length c1, .slice A2 y0.length c2, .int .i64 s0, .slice A3 a0.length c3, .slice A4 p0.length c4] : Array Value)[k]? = some v → g.val.cell? ⟨w.heap.size, k, none⟩ = some v) := fun g k v hv => cell_old (by rw [← hW]; exact blk_cell (cs := #[.int .i64 f0, .int .i64 j0, .int .i64 l0, .int .i64 g0, .slice A1 m0.length c1, .slice A2 y0.length c2, .int .i64 s0, .slice A3 a0.length c3, .slice A4 p0.length c4]) (t := 33) (by rw [heap_alloc_old _ _ (by simp)]; exact heap_alloc_new _ _) hv) g.ok
 have HB : Hid (∀ (g : Gr W) (k : Nat) (v : Value), (#[.int .i64 f1, .int .i64 j1, .int .i64 l1, .int .i64 g1, .slice B1 m1.length d1, .slice B2 y1.length d2, .int .i64 s1, .slice B3 a1.length d3, .slice B4 p1.length d4] : Array Value)[k]? = some v → g.val.cell? ⟨w.heap.size + 1, k, none⟩ = some v) := fun g k v hv => cell_old (by rw [← hW]; exact blk_cell (cs := #[.int .i64 f1, .int .i64 j1, .int .i64 l1, .int .i64 g1, .slice B1 m1.length d1, .slice B2 y1.length d2, .int .i64 s1, .slice B3 a1.length d3, .slice B4 p1.length d4]) (t := 33) (heap_alloc_new2 _ _ _) hv) g.ok
 have E1 := Lib.hid hW
 clear hW hBW
 have HR := Lib.hid hr
 clear hr
 have fa0 := HA.out ⟨W, Below.refl _ _⟩ 0 (.int .i64 f0) rfl
 have fb0 := HB.out ⟨W, Below.refl _ _⟩ 0 (.int .i64 f1) rfl
 have fa1 := HA.out ⟨W, Below.refl _ _⟩ 1 (.int .i64 j0) rfl
 have fb1 := HB.out ⟨W, Below.refl _ _⟩ 1 (.int .i64 j1) rfl
 have fa2 := HA.out ⟨W, Below.refl _ _⟩ 2 (.int .i64 l0) rfl
 have fb2 := HB.out ⟨W, Below.refl _ _⟩ 2 (.int .i64 l1) rfl
 have fa3 := HA.out ⟨W, Below.refl _ _⟩ 3 (.int .i64 g0) rfl
 have fb3 := HB.out ⟨W, Below.refl _ _⟩ 3 (.int .i64 g1) rfl
 have fa4 := HA.out ⟨W, Below.refl _ _⟩ 4 (.slice A1 m0.length c1) rfl
 have fb4 := HB.out ⟨W, Below.refl _ _⟩ 4 (.slice B1 m1.length d1) rfl
 have fa6 := HA.out ⟨W, Below.refl _ _⟩ 6 (.int .i64 s0) rfl
 have fb6 := HB.out ⟨W, Below.refl _ _⟩ 6 (.int .i64 s1) rfl
 try simp only at fa0 fb0 fa1 fb1 fa2 fb2 fa3 fb3 fa4 fb4 fa6 fb6
 by_cases h0_0 : f0 = f1
 rotate_left
 ·have E : Hid (r = false) := Bool.eq_false_iff.2 fun k => (fun h => h0_0 (Prod.mk.inj h).1) (HR.out.1 k).1
  go_enter Tryz.func39, Tryz.ntmps39
  go_upto_region 1 with fail
  rw [E1.out]
  go_wp2_with fail
  go_ret
  exact ⟨ret_bool E.out.symm, HG.out ⟨W, Below.refl _ _⟩⟩
 subst h0_0
 by_cases h0_1 : j0 = j1
 rotate_left
 ·have E : Hid (r = false) := Bool.eq_false_iff.2 fun k => (fun h => h0_1 (Prod.mk.inj h).2) (HR.out.1 k).1
  go_enter Tryz.func39, Tryz.ntmps39
  go_upto_region 1 with fail
  rw [E1.out]
  go_wp2_with fail
  go_ret
  exact ⟨ret_bool E.out.symm, HG.out ⟨W, Below.refl _ _⟩⟩
 subst h0_1
 by_cases h1 : l0 = l1
 rotate_left
 ·have eb1 : (l0 != l1) = true := by simpa using h1
  have ec1 : (l0 == l1) = false := by simpa using h1
  have E : Hid (r = false) := Bool.eq_false_iff.2 fun k => h1 (HR.out.1 k).2.1
  go_enter Tryz.func39, Tryz.ntmps39
  go_upto_region 1 with fail
  rw [E1.out]
  go_wp2_with fail
  go_ret
  exact ⟨ret_bool E.out.symm, HG.out ⟨W, Below.refl _ _⟩⟩
 subst h1
 by_cases h2 : g0 = g1
 rotate_left
 ·have eb2 : (g0 != g1) = true := by simpa using h2
  have ec2 : (g0 == g1) = false := by simpa using h2
  have E : Hid (r = false) := Bool.eq_false_iff.2 fun k => h2 (HR.out.1 k).2.2.1
  go_enter Tryz.func39, Tryz.ntmps39
  go_upto_region 1 with fail
  rw [E1.out]
  go_wp2_with fail
  go_ret
  exact ⟨ret_bool E.out.symm, HG.out ⟨W, Below.refl _ _⟩⟩
 subst h2
 by_cases h3 : s0 = s1
 rotate_left
 ·have eb3 : (s0 != s1) = true := by simpa using h3
  have ec3 : (s0 == s1) = false := by simpa using h3
  have E : Hid (r = false) := Bool.eq_false_iff.2 fun k => h3 (HR.out.1 k).2.2.2.1
  go_enter Tryz.func39, Tryz.ntmps39
  go_upto_region 1 with fail
  rw [E1.out]
  go_wp2_with fail
  go_ret
  exact ⟨ret_bool E.out.symm, HG.out ⟨W, Below.refl _ _⟩⟩
 subst h3
 go_enter Tryz.func39, Tryz.ntmps39
 go_upto_region 1 with fail
 rw [E1.out]
 go_wp2_with fail
 go_at_call 83
 refine (eqId_any m0 m1 A1 B1 c1 d1 _ (HSa1.out _ (HG.out ⟨W, Below.refl _ _⟩)) (HSb1.out _ (HG.out ⟨W, Below.refl _ _⟩))).mono ?_
 rintro e w4 ⟨rfl, hb4⟩
 obtain ⟨g4, rfl⟩ := Gr.on ⟨W, Below.refl _ _⟩ hb4
 clear hb4
 have hv4 : decide (m0 = m1) = true ↔ m0 = m1 := by simp
 generalize decide (m0 = m1) = v4 at *
 clear fa0 fb0 fa1 fb1 fa2 fb2 fa3 fb3 fa4 fb4 fa6 fb6
 have fa5 := HA.out g4 5 (.slice A2 y0.length c2) rfl
 have fb5 := HB.out g4 5 (.slice B2 y1.length d2) rfl
 try simp only at fa5 fb5
 cases v4 with
 | false =>
  have hn4 : ¬ (m0 = m1) := fun k => by simpa using hv4.2 k
  have E : Hid (r = false) := Bool.eq_false_iff.2 fun k => hn4 (HR.out.1 k).2.2.2.2.1
  go_wp2_with fail
  go_ret
  exact ⟨ret_bool E.out.symm, HG.out g4⟩
 | true =>
  have HC4 : Hid (m0 = m1) := hv4.1 rfl
  clear hv4
  go_wp2_with fail
  go_at_call 84
  refine (eqWt_any y0 y1 A2 B2 c2 d2 _ (HSa2.out _ (HG.out g4)) (HSb2.out _ (HG.out g4))).mono ?_
  rintro e w5 ⟨rfl, hb5⟩
  obtain ⟨g5, rfl⟩ := Gr.on g4 hb5
  clear hb5
  have hv5 : decide (y0 = y1) = true ↔ y0 = y1 := by simp
  generalize decide (y0 = y1) = v5 at *
  clear fa5 fb5
  have fa7 := HA.out g5 7 (.slice A3 a0.length c3) rfl
  have fb7 := HB.out g5 7 (.slice B3 a1.length d3) rfl
  try simp only at fa7 fb7
  cases v5 with
  | false =>
   have hn5 : ¬ (y0 = y1) := fun k => by simpa using hv5.2 k
   have E : Hid (r = false) := Bool.eq_false_iff.2 fun k => hn5 (HR.out.1 k).2.2.2.2.2.1
   go_wp2_with fail
   go_ret
   exact ⟨ret_bool E.out.symm, HG.out g5⟩
  | true =>
   have HC5 : Hid (y0 = y1) := hv5.1 rfl
   clear hv5
   go_wp2_with fail
   go_at_call 85
   refine (eqAp_any a0 a1 A3 B3 c3 d3 _ (HSa3.out _ (HG.out g5)) (HSb3.out _ (HG.out g5))).mono ?_
   rintro e w6 ⟨rfl, hb6⟩
   obtain ⟨g6, rfl⟩ := Gr.on g5 hb6
   clear hb6
   have hv6 : decide (a0 = a1) = true ↔ a0 = a1 := by simp
   generalize decide (a0 = a1) = v6 at *
   clear fa7 fb7
   have fa8 := HA.out g6 8 (.slice A4 p0.length c4) rfl
   have fb8 := HB.out g6 8 (.slice B4 p1.length d4) rfl
   try simp only at fa8 fb8
   cases v6 with
   | false =>
    have hn6 : ¬ (a0 = a1) := fun k => by simpa using hv6.2 k
    have E : Hid (r = false) := Bool.eq_false_iff.2 fun k => hn6 (HR.out.1 k).2.2.2.2.2.2.1
    go_wp2_with fail
    go_ret
    exact ⟨ret_bool E.out.symm, HG.out g6⟩
   | true =>
    have HC6 : Hid (a0 = a1) := hv6.1 rfl
    clear hv6
    go_wp2_with fail
    go_at_call 78
    refine (eqSh_any p0 p1 A4 B4 c4 d4 _ (HSa4.out _ (HG.out g6)) (HSb4.out _ (HG.out g6))).mono ?_
    rintro e w7 ⟨rfl, hb7⟩
    obtain ⟨g7, rfl⟩ := Gr.on g6 hb7
    clear hb7
    have hv7 : decide (p0 = p1) = true ↔ p0 = p1 := by simp
    generalize decide (p0 = p1) = v7 at *
    clear fa8 fb8
    cases v7 with
    | false =>
     have hn7 : ¬ (p0 = p1) := fun k => by simpa using hv7.2 k
     have E : Hid (r = false) := Bool.eq_false_iff.2 fun k => hn7 (HR.out.1 k).2.2.2.2.2.2.2
     go_wp2_with fail
     go_ret
     exact ⟨ret_bool E.out.symm, HG.out g7⟩
    | true =>
     have HC7 : Hid (p0 = p1) := hv7.1 rfl
     clear hv7
     have E : Hid (r = true) := HR.out.2 ⟨(by first | rfl | trivial), (by first | rfl | trivial), (by first | rfl | trivial), (by first | rfl | trivial), HC4.out, HC5.out, HC6.out, HC7.out⟩
     go_wp2_with fail
     go_ret
     exact ⟨ret_bool E.out.symm, HG.out g7⟩
end Go.Proofs.YtdhinjbkfffpeaaGreat
end
