/- Contracts of the document's rows: edges. -/
import Derived.Test.YtdpgmhjhmccfnaaSW1
import Derived.Test.YtdpgmhjhmccfnaaSW2
import Derived.Deep.RegionHeld3
namespace Go.Proofs.Ytdpgmhjhmccfnaa
open Go.ChangeShapes Go.WideShapes Go.ChangeAt Go.RowKit Sp

theorem edg_cons (acc : List Int) (s : Spn) (r : List Spn) : edg acc (s :: r) = edg (putI (putI acc s.1) s.2) r := rfl
theorem edg_len (a : List Spn) : ∀ acc, (edg acc a).length ≤ acc.length + 2 * a.length := by
  induction a with
  | nil => intro acc; simp [edg]
  | cons s r ih =>
    intro acc
    rw [edg_cons]
    have h1 := ih (putI (putI acc s.1) s.2)
    have h2 := put_len (putI acc s.1) s.2
    have h3 := put_len acc s.1
    simp only [List.length_cons]; omega

set_option maxRecDepth 100000 in
set_option maxHeartbeats 2000000 in
theorem redges_any (a b : List Spn) (A B : Option Addr) (ca cb : Nat) (w : World) (hla : a.length ≤ 1000) (hlb : b.length ≤ 1000) (ha : Sl w A a.length ca (sv a)) (hb : Sl w B b.length cb (sv b)) :
    Calls Try.prog 33 #[.slice A a.length ca, .slice B b.length cb] w (RetI (edges a b) w) := by
  obtain ⟨r, hr⟩ : ∃ r, edges a b = r := ⟨_, rfl⟩
  obtain ⟨r1, hr1⟩ : ∃ r1, edg [] a = r1 := ⟨_, rfl⟩
  have HR : Hid (edg r1 b = r) := by show _ = _; rw [← hr1]; exact hr
  have HR1 : Hid (edg [] (a.drop 0) = r1) := hr1
  have hr1l : r1.length ≤ 2000 := by have := edg_len a []; rw [hr1] at this; simp at this; omega
  rw [hr]
  have HA := Lib.hid ha
  have HB := Lib.hid hb
  clear hr hr1 ha hb
  go_enter Try.func33, Try.ntmps33
  go_wp2
  go_loopw [5, 11] (fun s5 s11 wr => ∃ (i : Nat) (acc : List Int) (D : Option Addr) (c : Nat) (g : Gr w), wr = g.val ∧ i ≤ a.length ∧ s11 = .int .i64 i ∧ s5 = .slice D acc.length c ∧ acc.length ≤ 2 * i ∧ Hid (Sl g.val D acc.length c (iv acc)) ∧ Hid (edg acc (a.drop i) = r1)) (fun _ s11 _ => a.length - (intOf s11).toNat)
  case atStart => exact ⟨0, [], _, 0, ⟨_, (Below.refl _ _).alloc (Nat.le_refl _) _⟩, rfl, Nat.zero_le _, rfl, rfl, Nat.le_refl _, Sl.new w [] 0 _ _ (by decide), HR1⟩
  case round =>
    obtain ⟨i, acc, D, c, g, rfl, hi, rfl, rfl, hal, HD, HI⟩ := hrel
    by_cases hlt : i < a.length
    · have hiz : (i : Int) < a.length := by omega
      obtain ⟨p, off, rfl, hp, hcell⟩ := HA.out.spanG (List.getElem?_eq_getElem hlt)
      have HC := Lib.hid hcell
      obtain ⟨c1, c2⟩ := hcell g
      have HST : Hid (edg (putI (putI acc a[i].1) a[i].2) (a.drop (i + 1)) = r1) := by show _ = _; rw [← edg_cons, ← drop_step hlt]; exact HI.out
      clear hcell HI
      generalize a[i] = s at *
      obtain ⟨x, y⟩ := s
      simp only at c1 c2 HST HC
      have hl1 := put_len acc x
      have hl2 := put_len (putI acc x) y
      have HD0 := Lib.hid (HD.out.below (drew_below g.val) (Nat.le_refl _))
      go_wp2_with fail
      go_region_held3 (fun w' => w'.cell? ⟨p, off + i * 2, none⟩ = some (.int .i64 x) ∧ w'.cell? ⟨p, off + i * 2 + 1, none⟩ = some (.int .i64 y)) (first | exact HC.out _ | (simp only [World.drew_cell?]; exact HC.out _)) (first
        | (go_at_call_of 40 D; (with_reducible refine (rput_any acc D c x _ (by omega) HD0.out).mono ?_); rintro e w' ⟨A1, d1, rfl, h1, hb⟩; obtain ⟨g1, rfl⟩ := g.onD hb; clear hb)
        | (go_at_call_of 40 A1; (with_reducible refine (rput_any (putI acc x) A1 d1 y _ (by omega) h1).mono ?_); rintro e w' ⟨A2, d2, rfl, h2, hb⟩; obtain ⟨g2, rfl⟩ := g1.on hb; clear hb))
      go_wp2_with fail
      go_roundw
      case rel => exact ⟨i + 1, putI (putI acc x) y, A2, d2, g2, rfl, hlt, by go_num, rfl, by omega, h2, HST⟩
      case measure => simp [intOf]; omega
    · obtain rfl : i = a.length := by omega
      obtain rfl : acc = r1 := by have := HI.out; rw [List.drop_of_length_le (Nat.le_refl _)] at this; exact this
      have HR0 : Hid (edg acc (b.drop 0) = r) := HR
      clear HI
      go_wp2_with fail
      go_loopw [5, 30] (fun s5 s30 wr => ∃ (i : Nat) (ac : List Int) (E : Option Addr) (d : Nat) (g : Gr w), wr = g.val ∧ i ≤ b.length ∧ s30 = .int .i64 i ∧ s5 = .slice E ac.length d ∧ ac.length ≤ 2000 + 2 * i ∧ Hid (Sl g.val E ac.length d (iv ac)) ∧ Hid (edg ac (b.drop i) = r)) (fun _ s30 _ => b.length - (intOf s30).toNat)
      case atStart => exact ⟨0, acc, D, c, g, rfl, Nat.zero_le _, rfl, rfl, by omega, HD.out, HR0⟩
      case round =>
        obtain ⟨i, ac, E, d, g, rfl, hi, rfl, rfl, hal, HD, HI⟩ := hrel
        by_cases hlt : i < b.length
        · have hiz : (i : Int) < b.length := by omega
          obtain ⟨p, off, rfl, hp, hcell⟩ := HB.out.spanG (List.getElem?_eq_getElem hlt)
          have HC := Lib.hid hcell
          obtain ⟨c1, c2⟩ := hcell g
          have HST : Hid (edg (putI (putI ac b[i].1) b[i].2) (b.drop (i + 1)) = r) := by show _ = _; rw [← edg_cons, ← drop_step hlt]; exact HI.out
          clear hcell HI
          generalize b[i] = s at *
          obtain ⟨x, y⟩ := s
          simp only at c1 c2 HST HC
          have hl1 := put_len ac x
          have hl2 := put_len (putI ac x) y
          have HD0 := Lib.hid (HD.out.below (drew_below g.val) (Nat.le_refl _))
          go_wp2_with fail
          go_region_held3 (fun w' => w'.cell? ⟨p, off + i * 2, none⟩ = some (.int .i64 x) ∧ w'.cell? ⟨p, off + i * 2 + 1, none⟩ = some (.int .i64 y)) (first | exact HC.out _ | (simp only [World.drew_cell?]; exact HC.out _)) (first
            | (go_at_call_of 40 E; (with_reducible refine (rput_any ac E d x _ (by omega) HD0.out).mono ?_); rintro e w' ⟨A1, d1, rfl, h1, hb⟩; obtain ⟨g1, rfl⟩ := g.onD hb; clear hb)
            | (go_at_call_of 40 A1; (with_reducible refine (rput_any (putI ac x) A1 d1 y _ (by omega) h1).mono ?_); rintro e w' ⟨A2, d2, rfl, h2, hb⟩; obtain ⟨g2, rfl⟩ := g1.on hb; clear hb))
          go_wp2_with fail
          go_roundw
          case rel => exact ⟨i + 1, putI (putI ac x) y, A2, d2, g2, rfl, hlt, by go_num, rfl, by omega, h2, HST⟩
          case measure => simp [intOf]; omega
        · obtain rfl : i = b.length := by omega
          obtain rfl : ac = r := by have := HI.out; rw [List.drop_of_length_le (Nat.le_refl _)] at this; exact this
          go_wp2_with fail
          go_ret
          exact ⟨E, d, rfl, HD.out, g.ok⟩
end Go.Proofs.Ytdpgmhjhmccfnaa
