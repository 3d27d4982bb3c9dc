import Derived.Test.YtibnbpiachdmdaaRows
import Derived.Test.YtibnbpiachdmdaaZMB
import Derived.Deep.QuietTactic
import Derived.BigQuiet
import Derived.BigRegion
import Derived.Test.YtibnbpiachdmdaaZMA
/- Contracts of the document's rows: has, same, put. -/
section
namespace Go.Proofs.Ytibnbpiachdmdaa
open Go.ChangeShapes Go.WideShapes Go.ChangeAt Go.RowKit Sp
theorem rhas_any (l : List Spn) (A : Option Addr) (c : Nat) (m : Int) (w : World) (hs : Sl w A l.length c (sv l)) :
    Calls Try.prog 22 #[.slice A l.length c, .int .i64 m] w fun e w' => e = .returned (.bool (hasB l m)) ∧ w = w' := by
  have hlc : l.length ≤ 9223372036854775807 := Nat.le_trans hs.le hs.cap
  have HS := Lib.hid hs
  clear hs
  obtain ⟨r, hr⟩ : ∃ r, hasB l m = r := ⟨_, rfl⟩
  rw [hr]
  have HR := Lib.hid hr
  clear hr
  go_enter Try.func22, Try.ntmps22
  go_wp2
  go_loop [8] (fun s8 => ∃ i : Nat, i ≤ l.length ∧ s8 = .int .i64 i ∧ Hid (hasB (l.drop i) m = r)) (fun s8 => l.length - (intOf s8).toNat)
  case atStart => exact ⟨0, Nat.zero_le _, rfl, by show _ = _; rw [List.drop_zero]; exact HR.out⟩
  case round =>
    obtain ⟨i, hi, rfl, HI⟩ := hrel
    by_cases hlt : i < l.length
    · have hiz : (i : Int) < l.length := by omega
      obtain ⟨b, off, rfl, hb, c1, c2⟩ := HS.out.span (List.getElem?_eq_getElem hlt)
      have hst : Hid ((decide (l[i].1 ≤ m) && decide (m < l[i].2) || hasB (l.drop (i + 1)) m) = r) := by show _ = _; rw [← hasB_cons, ← drop_step hlt]; exact HI.out
      clear HI
      generalize l[i] = s at *
      obtain ⟨x, y⟩ := s
      simp only at c1 c2 hst
      by_cases h1 : x ≤ m
      · by_cases h2 : m < y
        · have E : Hid (r = true) := by show _ = _; rw [← hst.out]; simp [h1, h2]
          go_wp2
          go_ret
          exact ⟨ret_bool E.out.symm, rfl⟩
        · have E : Hid (hasB (l.drop (i + 1)) m = r) := by show _ = _; rw [← hst.out]; simp [h2]
          clear hst
          go_wp2
          go_round
          case rel => exact ⟨i + 1, hlt, by go_num, E⟩
          case measure => simp [intOf]; omega
      · have E : Hid (hasB (l.drop (i + 1)) m = r) := by show _ = _; rw [← hst.out]; simp [h1]
        clear hst
        go_wp2
        go_round
        case rel => exact ⟨i + 1, hlt, by go_num, E⟩
        case measure => simp [intOf]; omega
    · obtain rfl : i = l.length := by omega
      have E : Hid (r = false) := by show _ = _; rw [← HI.out, List.drop_of_length_le (Nat.le_refl _)]; rfl
      go_wp2
      go_ret
      exact ⟨ret_bool E.out.symm, rfl⟩
end Go.Proofs.Ytibnbpiachdmdaa
end
/- A rule in memory. -/
section
namespace Go.Proofs.Ytibnbpiachdmdaa
open Go.ChangeShapes Go.WideShapes Go.ChangeAt Go.RowKit Qr Ck
/-- A rule's rows. -/
structure RAt (w : World) (r : R) (A1 A2 A3 A4 : Option Addr) (c1 c2 c3 c4 : Nat) : Prop where
  s1 : Sl w A1 r.bm.length c1 (iv r.bm)
  s2 : Sl w A2 r.bd.length c2 (iv r.bd)
  s3 : Sl w A3 r.bw.length c3 (sv r.bw)
  s4 : Sl w A4 r.bs.length c4 (iv r.bs)
theorem RAt.below {w w' : World} {r : R} {A1 A2 A3 A4 : Option Addr} {c1 c2 c3 c4 : Nat} {B : Nat} (h : RAt w r A1 A2 A3 A4 c1 c2 c3 c4) (hb : Below B w w') (hB : w.heap.size ≤ B) : RAt w' r A1 A2 A3 A4 c1 c2 c3 c4 :=
  ⟨h.s1.below hb hB, h.s2.below hb hB, h.s3.below hb hB, h.s4.below hb hB⟩
end Go.Proofs.Ytibnbpiachdmdaa
end
