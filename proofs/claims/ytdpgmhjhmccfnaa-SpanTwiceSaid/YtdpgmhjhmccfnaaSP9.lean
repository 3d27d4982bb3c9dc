/- Contracts of the program's rows of spans: how many minutes a row has. -/
import Derived.Test.YtdpgmhjhmccfnaaSP4
namespace Go.Proofs.Ytdpgmhjhmccfnaa
open Go.ChangeShapes Go.WideShapes Go.ChangeAt Go.RowKit Go.Joins Sp

theorem u64_dif13 {x y : Int} (hx : -9223372036854775808 ≤ x ∧ x ≤ 9223372036854775807) (hy : -9223372036854775808 ≤ y ∧ y ≤ 9223372036854775807) (h : x < y) : IntKind.u64.wrap (IntKind.u64.wrap y - IntKind.u64.wrap x) = y - x := by
  simp only [IntKind.wrap_u64]; omega
theorem len_pos13 : ∀ {l : List Spn}, (∀ s ∈ l, s.1 < s.2) → 0 ≤ len l
  | [], _ => Int.le_refl 0
  | s :: r, h => by
    have h1 := h s List.mem_cons_self
    have h2 := len_pos13 (l := r) fun t ht => h t (List.mem_cons_of_mem _ ht)
    show 0 ≤ (s.2 - s.1) + len r
    omega

set_option maxRecDepth 100000 in
set_option maxHeartbeats 4000000 in
theorem pminutes13_any (l : List Spn) (A : Option Addr) (c : Nat) (w : World) (hl : l.length ≤ 100000) (hin : In64 l) (hs : Sl w A l.length c (sv l)) :
    Calls Try.prog 21 #[.slice A l.length c] w fun e w' => e = .returned (.int .u64 (len (formL l))) ∧ Below w.heap.size w w' := by
  have HF := Lib.hid (pform13_any l A c w (by omega) hs)
  have hnf := form_len l
  have hu := len_u64 hin
  have hfin := hin.form
  have hff := formL_form l
  generalize formL l = f at *
  have HIN := Lib.hid hfin
  have HPOS : Hid (∀ s ∈ f, s.1 < s.2) := fun s hs => form_pos hff hs
  obtain ⟨r, hr⟩ : ∃ r, len f = r := ⟨_, rfl⟩
  have HR : Hid (0 + len (f.drop 0) = r) := by show _ = _; rw [← hr]; simp
  rw [hr] at hu
  rw [hr]
  clear hs hin hfin hff hr
  go_enter Try.func21, Try.ntmps21
  go_wp2_with fail
  go_at_call 9
  refine HF.out.mono ?_
  rintro e w2 ⟨v1, rfl, hown1, hb1⟩
  obtain ⟨A1, c1, rfl, hsl1⟩ := Sl.of_own hown1
  have HB2 := Lib.hid hb1
  have HS := Lib.hid hsl1
  clear hown1 hsl1 hb1 HF
  go_wp2_with fail
  go_loopw [3, 9] (fun s3 s9 wr => ∃ (i : Nat) (x : Int) (g : Gr w2), wr = g.val ∧ i ≤ f.length ∧ s9 = .int .i64 i ∧ s3 = .int .u64 x ∧ Hid (0 ≤ x ∧ x + len (f.drop i) = r)) (fun _ s9 _ => f.length - (intOf s9).toNat)
  case atStart => exact ⟨0, 0, ⟨w2, Below.refl _ _⟩, rfl, Nat.zero_le _, rfl, rfl, Int.le_refl 0, HR.out⟩
  case round =>
    obtain ⟨i, x, g, rfl, hi, rfl, rfl, HX⟩ := hrel
    by_cases hlt : i < f.length
    · have hiz : (i : Int) < f.length := by omega
      have hw1 : IntKind.i64.wrap ((i : Int) + 1) = i + 1 := by rw [IntKind.wrap_i64]; omega
      obtain ⟨⟨s1, s2⟩, hs⟩ : ∃ s, f[i]? = some s := ⟨_, List.getElem?_eq_getElem hlt⟩
      obtain ⟨b, off, rfl, hbs, hcell⟩ := HS.out.spanG hs
      obtain ⟨p1, p2⟩ := hcell g
      have hs64 := HIN.out _ (List.mem_of_getElem? hs)
      have hsp := HPOS.out _ (List.mem_of_getElem? hs)
      have hst : len (f.drop i) = (s2 - s1) + len (f.drop (i + 1)) := by
        obtain ⟨h1, h2⟩ := List.getElem?_eq_some_iff.1 hs
        rw [List.drop_eq_getElem_cons h1, h2]; rfl
      have hnn : 0 ≤ len (f.drop (i + 1)) := len_pos13 fun t ht => HPOS.out t (List.mem_of_mem_drop ht)
      have hx := HX.out
      rw [hst] at hx
      have HN : Hid (0 ≤ x + (s2 - s1) ∧ x + (s2 - s1) + len (f.drop (i + 1)) = r) := by dsimp only at hsp; exact ⟨by omega, by omega⟩
      have hd2 := u64_dif13 hs64.1 hs64.2 hsp
      obtain ⟨d, hd⟩ : ∃ d, s2 - s1 = d := ⟨_, rfl⟩
      dsimp only at hd2
      rw [hd] at hd2 HN
      have hw2 : IntKind.u64.wrap (x + d) = x + d := by rw [IntKind.wrap_u64]; have := HN.out; omega
      clear hs hcell hs64 hsp hst hnn hx hd HX
      go_wp2_with fail
      go_roundw
      case rel => exact ⟨i + 1, x + d, ⟨_, g.ok.alloc g.size _⟩, rfl, by omega, by go_num, by first | rfl | simp, HN.out⟩
      case measure => simp [intOf]; omega
    · obtain rfl : i = f.length := by omega
      have hiz : ¬ (f.length : Int) < f.length := by omega
      have E : Hid (x = r) := by
        show _ = _
        have := HX.out.2
        rw [List.drop_of_length_le (Nat.le_refl _)] at this
        simp only [len] at this
        omega
      go_wp2_with fail
      go_ret
      exact ⟨ret_int E.out, HB2.out.trans (g.ok.mono HB2.out.size)⟩
end Go.Proofs.Ytdpgmhjhmccfnaa
