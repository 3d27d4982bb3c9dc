import Derived.Test.YtdhinjbkfffpeaaGreatYMA
import Derived.Test.YtdhinjbkfffpeaaGreatYMB
import Derived.Test.YtdhinjbkfffpeaaGreatRows
import Derived.Deep.QuietTactic
import Derived.BigQuiet
import Derived.BigRegion
import Derived.Test.YtdhinjbkfffpeaaGreatYMC
/- A rule in memory. -/
section
namespace Go.Proofs.YtdhinjbkfffpeaaGreat
open Go.ChangeShapes Go.WideShapes Go.ChangeAt Go.RowKit Qr Ck
def rcells (r : R) (A1 A2 A3 A4 : Option Addr) (c1 c2 c3 c4 : Nat) : Array Value :=
  #[.int .i64 r.freq, .int .i64 r.iv, .int .i64 r.count, .int .i64 r.until_, .slice A1 r.bm.length c1, .slice A2 r.bd.length c2, .slice A3 r.bw.length c3, .slice A4 r.bs.length c4, .int .i64 r.start]
structure RAt (w : World) (r : R) (A1 A2 A3 A4 : Option Addr) (c1 c2 c3 c4 : Nat) : Prop where
  s1 : Sl w A1 r.bm.length c1 (iv r.bm)
  s2 : Sl w A2 r.bd.length c2 (iv r.bd)
  s3 : Sl w A3 r.bw.length c3 (sv r.bw)
  s4 : Sl w A4 r.bs.length c4 (iv r.bs)
theorem RAt.below {w w' : World} {r : R} {A1 A2 A3 A4 : Option Addr} {c1 c2 c3 c4 : Nat} {B : Nat} (h : RAt w r A1 A2 A3 A4 c1 c2 c3 c4) (hb : Below B w w') (hB : w.heap.size ≤ B) : RAt w' r A1 A2 A3 A4 c1 c2 c3 c4 :=
  ⟨h.s1.below hb hB, h.s2.below hb hB, h.s3.below hb hB, h.s4.below hb hB⟩
theorem box_at {w : World} {C : Array Value} {t : TypeId} {k : Nat} {v : Value} (h : C[k]? = some v) : ∀ g : Gr (w.alloc (.cells C t)), g.val.cell? ⟨w.heap.size, k, none⟩ = some v := fun g => g.cell1 k v h
end Go.Proofs.YtdhinjbkfffpeaaGreat
end
section
namespace Go.Proofs.YtdhinjbkfffpeaaGreat
open Go.ChangeShapes Go.WideShapes Go.ChangeAt Go.RowKit Sp
theorem same_cons {x y : Spn} {a b : List Spn} : (x :: a = y :: b) ↔ (x.1 = y.1 ∧ x.2 = y.2) ∧ a = b := by
  rw [List.cons.injEq, Prod.ext_iff]
end Go.Proofs.YtdhinjbkfffpeaaGreat
end
section
namespace Go.Proofs.YtdhinjbkfffpeaaGreat
open Go.ChangeShapes Go.WideShapes Go.ChangeAt Go.RowKit Qr
end Go.Proofs.YtdhinjbkfffpeaaGreat
end
section
namespace Go.Proofs.YtdhinjbkfffpeaaGreat
open Go.ChangeShapes Go.WideShapes Go.ChangeAt Go.RowKit Qr Ck
theorem rints_any (a b : List Int) (A B : Option Addr) (c d : Nat) (w : World) (ha : Sl w A a.length c (iv a)) (hb : Sl w B b.length d (iv b)) :
    Calls Tryz.prog 127 #[.slice A a.length c, .slice B b.length d] w fun e w' => e = .returned (.bool (decide (a = b))) ∧ Below w.heap.size w w' := by
  have hlc : a.length ≤ 9223372036854775807 := Nat.le_trans ha.le ha.cap
  have HA := Lib.hid ha
  have HB := Lib.hid hb
  clear ha hb
  obtain ⟨r, hr⟩ : ∃ r, decide (a = b) = r := ⟨_, rfl⟩
  rw [hr]
  by_cases hl : a.length = b.length
  · have hlb : ((a.length : Int) != (b.length : Int)) = false := by simp; omega
    have HR : Hid (decide (a.drop 0 = b.drop 0) = r) := hr
    have HL := Lib.hid hl
    have hbc : b.length ≤ 9223372036854775807 := by omega
    clear hr hl
    go_enter Tryz.func127, Tryz.ntmps127
    go_wp2
    go_loopw [13] (fun s13 wr => ∃ (i : Nat) (g : Gr w), wr = g.val ∧ i ≤ a.length ∧ s13 = .int .i64 i ∧ Hid (decide (a.drop i = b.drop i) = r)) (fun s13 _ => a.length - (intOf s13).toNat)
    case atStart => exact ⟨0, ⟨w, Below.refl _ _⟩, rfl, Nat.zero_le _, rfl, HR⟩
    case round =>
      obtain ⟨i, g, rfl, hi, rfl, HI⟩ := hrel
      by_cases hlt : i < a.length
      · have hltb : i < b.length := by rw [← HL.out]; exact hlt
        have hiz : (i : Int) < a.length := by omega
        have hib : (i : Int) < b.length := by omega
        obtain ⟨p, off, rfl, hp, hc1⟩ := HA.out.intG (List.getElem?_eq_getElem hlt)
        obtain ⟨q, off2, rfl, hq, hd1⟩ := HB.out.intG (List.getElem?_eq_getElem hltb)
        have c1 := hc1 g
        have d1 := hd1 g
        clear hc1 hd1
        have hst : Hid (decide (a[i] = b[i] ∧ a.drop (i + 1) = b.drop (i + 1)) = r) := by show _ = _; rw [← HI.out, decide_eq_decide, drop_step hlt, drop_step hltb, List.cons.injEq]
        clear HI
        generalize a[i] = x at *
        generalize b[i] = u at *
        by_cases h1 : x = u
        · have h1b : (x != u) = false := by simpa using h1
          have E : Hid (decide (a.drop (i + 1) = b.drop (i + 1)) = r) := by show _ = _; rw [← hst.out, decide_eq_decide]; exact ⟨fun h => ⟨h1, h⟩, fun h => h.2⟩
          clear hst
          subst h1
          go_wp2_with fail
          try (go_region; go_wp2_with fail)
          go_roundw
          case rel => first | exact ⟨i + 1, ⟨g.val.drew, g.ok.drew⟩, rfl, hlt, by go_num, E⟩ | exact ⟨i + 1, g, rfl, hlt, by go_num, E⟩
          case measure => simp [intOf]; omega
        · have h1b : (x != u) = true := by simpa using h1
          have E : Hid (r = false) := by show _ = _; rw [← hst.out, decide_eq_false_iff_not]; exact fun h => h1 h.1
          clear hst
          go_wp2_with fail
          try (go_region; go_wp2_with fail)
          go_ret
          first | exact ⟨ret_bool E.out.symm, g.ok.drew⟩ | exact ⟨ret_bool E.out.symm, g.ok⟩
      · obtain rfl : i = a.length := by omega
        have E : Hid (r = true) := by show _ = _; rw [← HI.out, decide_eq_true_eq, List.drop_of_length_le (Nat.le_refl _), List.drop_of_length_le (by rw [HL.out]; exact Nat.le_refl _)]
        go_wp2_with fail
        go_ret
        exact ⟨ret_bool E.out.symm, g.ok⟩
  · have hlb : ((a.length : Int) != (b.length : Int)) = true := by simp; omega
    have E : Hid (r = false) := by show _ = _; rw [← hr, decide_eq_false_iff_not]; exact fun h => hl (by rw [h])
    clear hr
    go_enter Tryz.func127, Tryz.ntmps127
    go_wp2
    go_ret
    exact ⟨ret_bool E.out.symm, Below.refl _ _⟩
end Go.Proofs.YtdhinjbkfffpeaaGreat
end
section
namespace Go.Proofs.YtdhinjbkfffpeaaGreat
open Go.ChangeShapes Go.WideShapes Go.ChangeAt Go.RowKit Qr Ck
end Go.Proofs.YtdhinjbkfffpeaaGreat
end
