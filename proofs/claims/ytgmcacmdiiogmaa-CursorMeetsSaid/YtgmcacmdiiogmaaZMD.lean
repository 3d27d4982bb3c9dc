import Derived.Test.YtgmcacmdiiogmaaRows
import Derived.Test.YtgmcacmdiiogmaaZMB
import Derived.Deep.QuietTactic
import Derived.BigQuiet
import Derived.BigRegion
import Derived.Test.YtgmcacmdiiogmaaZMA
/- Contracts of the document's rows: has, same, put. -/
section
namespace Go.Proofs.Ytgmcacmdiiogmaa
open Go.ChangeShapes Go.WideShapes Go.ChangeAt Go.RowKit Sp

theorem rhas_any (l : List Spn) (A : Option Addr) (c : Nat) (m : Int) (w : World) (hs : Sl w A l.length c (sv l)) :
    Calls Try.prog 49 #[.slice A l.length c, .int .i64 m] w fun e w' => e = .returned (.bool (hasB l m)) ∧ w = w' := by
  have hlc : l.length ≤ 9223372036854775807 := Nat.le_trans hs.le hs.cap
  have HS := Lib.hid hs
  clear hs
  obtain ⟨r, hr⟩ : ∃ r, hasB l m = r := ⟨_, rfl⟩
  rw [hr]
  have HR := Lib.hid hr
  clear hr
  go_enter Try.func49, Try.ntmps49
  go_wp2
  go_loop [8] (fun s8 => ∃ i : Nat, i ≤ l.length ∧ s8 = .int .i64 i ∧ Hid (hasB (l.drop i) m = r)) (fun s8 => l.length - (intOf s8).toNat)
  case atStart => exact ⟨0, Nat.zero_le _, rfl, by show _ = _; rw [List.drop_zero]; exact HR.out⟩
  case round =>
    obtain ⟨i, hi, rfl, HI⟩ := hrel
    by_cases hlt : i < l.length
    · have hiz : (i : Int) < l.length := by omega
      obtain ⟨b, off, rfl, hb, c1, c2⟩ := HS.out.span (List.getElem?_eq_getElem hlt)
      have hst : Hid ((decide (l[i].1 ≤ m) && decide (m < l[i].2) || hasB (l.drop (i + 1)) m) = r) := by show _ = _; rw [← hasB_cons, ← drop_step hlt]; exact HI.out
      clear HI
      generalize l[i] = s at *
      obtain ⟨x, y⟩ := s
      simp only at c1 c2 hst
      by_cases h1 : x ≤ m
      · by_cases h2 : m < y
        · have E : Hid (r = true) := by show _ = _; rw [← hst.out]; simp [h1, h2]
          go_wp2
          go_ret
          exact ⟨ret_bool E.out.symm, rfl⟩
        · have E : Hid (hasB (l.drop (i + 1)) m = r) := by show _ = _; rw [← hst.out]; simp [h2]
          clear hst
          go_wp2
          go_round
          case rel => exact ⟨i + 1, hlt, by go_num, E⟩
          case measure => simp [intOf]; omega
      · have E : Hid (hasB (l.drop (i + 1)) m = r) := by show _ = _; rw [← hst.out]; simp [h1]
        clear hst
        go_wp2
        go_round
        case rel => exact ⟨i + 1, hlt, by go_num, E⟩
        case measure => simp [intOf]; omega
    · obtain rfl : i = l.length := by omega
      have E : Hid (r = false) := by show _ = _; rw [← HI.out, List.drop_of_length_le (Nat.le_refl _)]; rfl
      go_wp2
      go_ret
      exact ⟨ret_bool E.out.symm, rfl⟩

theorem same_cons {x y : Spn} {a b : List Spn} : (x :: a = y :: b) ↔ (x.1 = y.1 ∧ x.2 = y.2) ∧ a = b := by
  rw [List.cons.injEq, Prod.ext_iff]

theorem rsame_any (a b : List Spn) (A B : Option Addr) (c d : Nat) (w : World) (ha : Sl w A a.length c (sv a)) (hb : Sl w B b.length d (sv b)) :
    Calls Try.prog 14 #[.slice A a.length c, .slice B b.length d] w fun e w' => e = .returned (.bool (decide (a = b))) ∧ Below w.heap.size w w' := by
  have hlc : a.length ≤ 9223372036854775807 := Nat.le_trans ha.le ha.cap
  have HA := Lib.hid ha
  have HB := Lib.hid hb
  clear ha hb
  obtain ⟨r, hr⟩ : ∃ r, decide (a = b) = r := ⟨_, rfl⟩
  rw [hr]
  by_cases hl : a.length = b.length
  · have hlb : ((a.length : Int) != (b.length : Int)) = false := by simp; omega
    have HR : Hid (decide (a.drop 0 = b.drop 0) = r) := hr
    have HL := Lib.hid hl
    clear hr hl
    go_enter Try.func14, Try.ntmps14
    go_wp2
    go_loopw [13] (fun s13 wr => ∃ (i : Nat) (g : Gr w), wr = g.val ∧ i ≤ a.length ∧ s13 = .int .i64 i ∧ Hid (decide (a.drop i = b.drop i) = r)) (fun s13 _ => a.length - (intOf s13).toNat)
    case atStart => exact ⟨0, ⟨w, Below.refl _ _⟩, rfl, Nat.zero_le _, rfl, HR⟩
    case round =>
      obtain ⟨i, g, rfl, hi, rfl, HI⟩ := hrel
      by_cases hlt : i < a.length
      · have hltb : i < b.length := by rw [← HL.out]; exact hlt
        have hiz : (i : Int) < a.length := by omega
        have hib : (i : Int) < b.length := by omega
        obtain ⟨p, off, rfl, hp, c1, c2⟩ := (HA.out.gr g).span (List.getElem?_eq_getElem hlt)
        obtain ⟨q, off2, rfl, hq, d1, d2⟩ := (HB.out.gr g).span (List.getElem?_eq_getElem hltb)
        have hst : Hid (decide ((a[i].1 = b[i].1 ∧ a[i].2 = b[i].2) ∧ a.drop (i + 1) = b.drop (i + 1)) = r) := by show _ = _; rw [← HI.out, decide_eq_decide, drop_step hlt, drop_step hltb, same_cons]
        clear HI
        generalize a[i] = s at *
        generalize b[i] = t at *
        obtain ⟨x, y⟩ := s
        obtain ⟨u, v⟩ := t
        simp only at c1 c2 d1 d2 hst
        by_cases h1 : x = u
        · subst h1
          by_cases h2 : y = v
          · subst h2
            have E : Hid (decide (a.drop (i + 1) = b.drop (i + 1)) = r) := by show _ = _; rw [← hst.out, decide_eq_decide]; exact ⟨fun h => ⟨⟨rfl, rfl⟩, h⟩, fun h => h.2⟩
            clear hst
            go_wp2_with fail
            go_region
            go_wp2_with fail
            go_roundw
            case rel => exact ⟨i + 1, ⟨g.val.drew, g.ok.drew⟩, rfl, hlt, by go_num, E⟩
            case measure => simp [intOf]; omega
          · have E : Hid (r = false) := by show _ = _; rw [← hst.out, decide_eq_false_iff_not]; exact fun h => h2 h.1.2
            clear hst
            go_wp2_with fail
            go_region
            go_wp2_with fail
            go_ret
            exact ⟨ret_bool E.out.symm, g.ok.drew⟩
        · have E : Hid (r = false) := by show _ = _; rw [← hst.out, decide_eq_false_iff_not]; exact fun h => h1 h.1.1
          clear hst
          go_wp2_with fail
          go_region
          go_wp2_with fail
          go_ret
          exact ⟨ret_bool E.out.symm, g.ok.drew⟩
      · obtain rfl : i = a.length := by omega
        have E : Hid (r = true) := by show _ = _; rw [← HI.out, decide_eq_true_eq, List.drop_of_length_le (Nat.le_refl _), List.drop_of_length_le (by rw [HL.out]; exact Nat.le_refl _)]
        go_wp2_with fail
        go_ret
        exact ⟨ret_bool E.out.symm, g.ok⟩
  · have hlb : ((a.length : Int) != (b.length : Int)) = true := by simp; omega
    have E : Hid (r = false) := by show _ = _; rw [← hr, decide_eq_false_iff_not]; exact fun h => hl (by rw [h])
    clear hr
    go_enter Try.func14, Try.ntmps14
    go_wp2
    go_ret
    exact ⟨ret_bool E.out.symm, Below.refl _ _⟩
end Go.Proofs.Ytgmcacmdiiogmaa
end

/- A rule in memory. -/
section
namespace Go.Proofs.Ytgmcacmdiiogmaa
open Go.ChangeShapes Go.WideShapes Go.ChangeAt Go.RowKit Qr Ck

/-- A rule's box. -/
def rcells (r : R) (A1 A2 A3 A4 : Option Addr) (c1 c2 c3 c4 : Nat) : Array Value :=
  #[.int .i64 r.freq, .int .i64 r.iv, .int .i64 r.count, .int .i64 r.until_, .slice A1 r.bm.length c1, .slice A2 r.bd.length c2, .slice A3 r.bw.length c3, .slice A4 r.bs.length c4, .int .i64 r.start]
/-- A rule's rows. -/
structure RAt (w : World) (r : R) (A1 A2 A3 A4 : Option Addr) (c1 c2 c3 c4 : Nat) : Prop where
  s1 : Sl w A1 r.bm.length c1 (iv r.bm)
  s2 : Sl w A2 r.bd.length c2 (iv r.bd)
  s3 : Sl w A3 r.bw.length c3 (sv r.bw)
  s4 : Sl w A4 r.bs.length c4 (iv r.bs)
theorem RAt.below {w w' : World} {r : R} {A1 A2 A3 A4 : Option Addr} {c1 c2 c3 c4 : Nat} {B : Nat} (h : RAt w r A1 A2 A3 A4 c1 c2 c3 c4) (hb : Below B w w') (hB : w.heap.size ≤ B) : RAt w' r A1 A2 A3 A4 c1 c2 c3 c4 :=
  ⟨h.s1.below hb hB, h.s2.below hb hB, h.s3.below hb hB, h.s4.below hb hB⟩
theorem box_at {w : World} {C : Array Value} {t : TypeId} {k : Nat} {v : Value} (h : C[k]? = some v) : ∀ g : Gr (w.alloc (.cells C t)), g.val.cell? ⟨w.heap.size, k, none⟩ = some v := fun g => g.cell1 k v h
theorem isEmpty_len {α : Type} (l : List α) : (!l.isEmpty) = true ↔ 0 < l.length := by cases l <;> simp

theorem below_of {w : World} {o o2 : Obj} (g : Gr (w.alloc o)) : Below w.heap.size w (g.val.alloc o2) := g.below1.alloc g.below1.size _
theorem below_ofD {w : World} {o : Obj} (g : Gr (w.alloc o)) (o2 : Obj) : Below w.heap.size w (g.val.alloc o2).drew := (g.below1.alloc g.below1.size _).drew


end Go.Proofs.Ytgmcacmdiiogmaa
end
