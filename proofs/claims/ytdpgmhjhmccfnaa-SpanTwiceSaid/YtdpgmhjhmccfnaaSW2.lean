/- Contract of the document's rows: a number put among others. -/
import Derived.Test.YtdpgmhjhmccfnaaRows
import Derived.Test.YtdpgmhjhmccfnaaSK
import Derived.BigRegion
namespace Go.Proofs.Ytdpgmhjhmccfnaa
open Go.ChangeShapes Go.WideShapes Go.ChangeAt Go.RowKit Sp

theorem i64_info : (Try.prog.info? 2).map (fun i => (i.zero, i.size, i.bytes)) = some (some (.int .i64 0), 1, 8) := by kernel_rfl
theorem put_step_lt {x n : Int} {r : List Int} (h : x < n) : putI (x :: r) n = x :: putI r n := by rw [show putI (x :: r) n = if x < n then x :: putI r n else if x = n then x :: r else n :: x :: r from rfl, if_pos h]
theorem put_step_eq {x n : Int} {r : List Int} (h : x = n) : putI (x :: r) n = x :: r := by
  have h1 : ¬ x < n := by omega
  rw [show putI (x :: r) n = if x < n then x :: putI r n else if x = n then x :: r else n :: x :: r from rfl, if_neg h1, if_pos h]
theorem put_step_gt {x n : Int} {r : List Int} (h : ¬ x < n) (h2 : ¬ x = n) : putI (x :: r) n = n :: x :: r := by rw [show putI (x :: r) n = if x < n then x :: putI r n else if x = n then x :: r else n :: x :: r from rfl, if_neg h, if_neg h2]
theorem take_step {α : Type} {l : List α} {i : Nat} (h : i < l.length) : l.take (i + 1) = l.take i ++ [l[i]] := List.take_succ_eq_append_getElem h

theorem put_len (l : List Int) (n : Int) : (putI l n).length ≤ l.length + 1 := by
  induction l with
  | nil => simp [putI]
  | cons x r ih =>
    unfold putI
    split
    · simp; omega
    · split <;> simp

theorem take_put_len {l r : List Int} {i : Nat} {n : Int} (hi : i ≤ l.length) (h : l.take i ++ n :: l.drop i = r) : i + 1 + (l.length - i) = r.length ∧ iv (l.take i) ++ .int .i64 n :: iv (l.drop i) = iv r := by
  subst h
  constructor
  · simp; omega
  · rw [show Value.int .i64 n :: iv (l.drop i) = iv (n :: l.drop i) from rfl, ← iv_app]

set_option maxHeartbeats 1000000 in
theorem rput_any (l : List Int) (A : Option Addr) (c : Nat) (n : Int) (w : World) (hl : l.length ≤ 1000000) (hs : Sl w A l.length c (iv l)) :
    Calls Try.prog 40 #[.slice A l.length c, .int .i64 n] w (RetI (putI l n) w) := by
  obtain ⟨r, hr⟩ : ∃ r, putI l n = r := ⟨_, rfl⟩
  rw [hr]
  have HS := Lib.hid hs
  have HR : Hid (l.take 0 ++ putI (l.drop 0) n = r) := hr
  clear hs hr
  obtain ⟨i0, hi0, hq0, hq1, hq2⟩ := info_parts i64_info
  go_enter Try.func40, Try.ntmps40
  go_wp2
  go_loop [5] (fun s5 => ∃ i : Nat, i ≤ l.length ∧ s5 = .int .i64 i ∧ Hid (l.take i ++ putI (l.drop i) n = r)) (fun s5 => l.length - (intOf s5).toNat)
  case atStart => exact ⟨0, Nat.zero_le _, rfl, HR⟩
  case round =>
    obtain ⟨i, hi, rfl, HI⟩ := hrel
    have hcase : (∃ h : i < l.length, l[i] < n) ∨ (∃ h : i < l.length, l[i] = n) ∨ ((i < l.length → ∃ h : i < l.length, ¬ l[i] < n ∧ ¬ l[i] = n) ∧ Hid (l.take i ++ n :: l.drop i = r)) := by
      by_cases hlt : i < l.length
      · by_cases h1 : l[i] < n
        · exact .inl ⟨hlt, h1⟩
        · by_cases h2 : l[i] = n
          · exact .inr (.inl ⟨hlt, h2⟩)
          · exact .inr (.inr ⟨fun _ => ⟨hlt, h1, h2⟩, by show _ = _; rw [← HI.out, drop_step hlt, put_step_gt h1 h2]⟩)
      · exact .inr (.inr ⟨fun h => absurd h hlt, by show _ = _; rw [← HI.out, List.drop_of_length_le (by omega)]; rfl⟩)
    rcases hcase with ⟨hlt, h1⟩ | ⟨hlt, h1⟩ | ⟨hno, HO⟩
    · have hiz : (i : Int) < l.length := by omega
      obtain ⟨b, off, rfl, hb, c1⟩ := HS.out.at_ (iv_at (List.getElem?_eq_getElem hlt))
      have E : Hid (l.take (i + 1) ++ putI (l.drop (i + 1)) n = r) := by show _ = _; rw [← HI.out, drop_step hlt, put_step_lt h1, take_step hlt, List.append_assoc]; rfl
      generalize l[i] = x at *
      clear HI
      go_wp2
      go_round
      case rel => exact ⟨i + 1, hlt, by go_num, E⟩
      case measure => simp [intOf]; omega
    · have hiz : (i : Int) < l.length := by omega
      obtain ⟨b, off, rfl, hb, c1⟩ := HS.out.at_ (iv_at (List.getElem?_eq_getElem hlt))
      have E : Hid (l = r) := by show _ = _; rw [← HI.out, drop_step hlt, put_step_eq h1, ← drop_step hlt, List.take_append_drop]
      generalize hx : l[i] = x at *
      clear HI hx
      have h2 : ¬ x < n := by omega
      have h3 : (x == n) = true := by simpa using h1
      clear h1
      obtain rfl : l = r := E.out
      go_wp2
      go_ret
      exact ⟨_, _, rfl, HS.out, Below.refl _ _⟩
    · obtain ⟨A1, A2, hs1, hs2, hB1, hB2⟩ := HS.out.cut (P := Try.prog) (t := 48) (s := 1) hi (by rw [iv_len]; omega) (by kernel_rfl) (fun w' => by kernel_rfl)
      have hl48 : l.length ≤ 1000000 := hl
      have H0 := Lib.hid (World.ownsRow_made (base := w.heap.size) (e := 2) (size := 1) w #[] 0 (Nat.le_refl _) (by decide) rfl)
      have HB1 := Lib.hid (hB1.alloc (.cells #[] 2))
      have HB2 := Lib.hid hB2
      have HW := Lib.hid ((Below.refl w.heap.size w).alloc (Nat.le_refl _) (.cells #[] 2))
      have HM := Lib.hid (take_put_len hi HO.out)
      rw [iv_take] at HB1
      rw [iv_drop] at HB2
      rw [Nat.mul_one] at HB1 HB2
      clear hB1 hB2
      have hfin : ∀ b, b = true → True := fun _ _ => trivial
      by_cases hlt : i < l.length
      · obtain ⟨_, h1, h2⟩ := hno hlt
        have hiz : (i : Int) < l.length := by omega
        obtain ⟨b, off, rfl, hb, c1⟩ := HS.out.at_ (iv_at (List.getElem?_eq_getElem hlt))
        have h3 : (l[i] == n) = false := by simpa using h2
        generalize l[i] = x at *
        clear h2 hno
        go_wp2_with (at_builtin; refine wpList_append_sl rfl _ _ 48 rfl w.heap.size 2 i0 (.int .i64 0) 1 8 Try.underlying48 hi0 hq0 hq1 hq2 rfl (by decide) _ _ _ rfl H0.out A1 i c (iv (l.take i)) rfl HB1.out ?c1 iv_one ?c3 ?c4 ?c5 ?_)
        case c1 => simp [iv_len, List.length_take] <;> omega
        case c3 => unfold maxLen; omega
        case c4 => omega
        intro v1 w1 hown1 hg1
        have HB1' : Hid (Below w.heap.size w w1) := HW.out.grown hg1 (by simp) (fun k hk => (H0.out.lt k hk).1)
        have HO1 := Lib.hid (hown1.alloc (.cells #[.int .i64 n] 2))
        clear hown1 hg1
        have HN := Lib.hid (Sl.new w1 [.int .i64 n] 1 2 (0, 0) (by decide))
        go_wp2_with (at_builtin; refine wpList_append_sl rfl _ _ 48 rfl w.heap.size 2 i0 (.int .i64 0) 1 8 Try.underlying48 hi0 hq0 hq1 hq2 rfl (by decide) _ _ _ rfl HO1.out (some ⟨w1.heap.size, 0, none⟩) 1 1 [.int .i64 n] rfl HN.out rfl ?d2 ?d3 ?d4 ?d5 ?_)
        case d2 => intro u hu; simp at hu; subst hu; rfl
        case d3 => unfold maxLen; omega
        case d4 => omega
        case d5 => exact Nat.le_trans HB1'.out.size (by simp)
        intro v2 w2 hown2 hg2
        have HB2' : Hid (Below w.heap.size w w2) := (HB1'.out.alloc HB1'.out.size _).grown hg2 (Nat.le_trans HB1'.out.size (by simp)) (fun k hk => (HO1.out.lt k hk).1)
        have HO2 := Lib.hid hown2
        clear hown2 hg2
        have HS2 := Lib.hid (HB2.out.below HB2'.out (Nat.le_refl _))
        go_wp2_with (at_builtin; refine wpList_append_sl rfl _ _ 48 rfl w.heap.size 2 i0 (.int .i64 0) 1 8 Try.underlying48 hi0 hq0 hq1 hq2 rfl (by decide) _ _ _ rfl HO2.out A2 (l.length - i) (c - i) (iv (l.drop i)) rfl HS2.out ?e1 iv_one ?e3 ?e4 ?e5 ?_)
        case e1 => rw [iv_len]; simp
        case e3 => unfold maxLen; omega
        case e4 => omega
        case e5 => exact HB2'.out.size
        intro v3 w3 hown3 hg3
        have HB3' : Hid (Below w.heap.size w w3) := HB2'.out.grown hg3 HB2'.out.size (fun k hk => (HO2.out.lt k hk).1)
        have HO3 := Lib.hid hown3
        clear hown3 hg3
        go_wp2
        go_ret
        rw [HM.out.1, HM.out.2] at HO3
        obtain ⟨A3, c3, rfl, h3⟩ := Sl.of_own HO3.out
        exact ⟨A3, c3, rfl, h3, HB3'.out⟩
      · have hiz : decide ((i : Int) < l.length) = false := decide_eq_false (by omega)
        obtain rfl : i = l.length := by omega
        clear hno
        rw [Nat.sub_self] at hs2 HB2
        simp only [Nat.sub_self, Nat.add_zero, List.take_length, List.drop_length] at HM
        go_wp2_with (at_builtin; refine wpList_append_sl rfl _ _ 48 rfl w.heap.size 2 i0 (.int .i64 0) 1 8 Try.underlying48 hi0 hq0 hq1 hq2 rfl (by decide) _ _ _ rfl H0.out A1 l.length c (iv (l.take l.length)) rfl HB1.out ?c1 iv_one ?c3 ?c4 ?c5 ?_)
        case c1 => simp [iv_len, List.length_take] <;> omega
        case c3 => unfold maxLen; omega
        case c4 => omega
        intro v1 w1 hown1 hg1
        have HB1' : Hid (Below w.heap.size w w1) := HW.out.grown hg1 (by simp) (fun k hk => (H0.out.lt k hk).1)
        have HO1 := Lib.hid (hown1.alloc (.cells #[.int .i64 n] 2))
        clear hown1 hg1
        have HN := Lib.hid (Sl.new w1 [.int .i64 n] 1 2 (0, 0) (by decide))
        go_wp2_with (at_builtin; refine wpList_append_sl rfl _ _ 48 rfl w.heap.size 2 i0 (.int .i64 0) 1 8 Try.underlying48 hi0 hq0 hq1 hq2 rfl (by decide) _ _ _ rfl HO1.out (some ⟨w1.heap.size, 0, none⟩) 1 1 [.int .i64 n] rfl HN.out rfl ?d2 ?d3 ?d4 ?d5 ?_)
        case d2 => intro u hu; simp at hu; subst hu; rfl
        case d3 => unfold maxLen; omega
        case d4 => omega
        case d5 => exact Nat.le_trans HB1'.out.size (by simp)
        intro v2 w2 hown2 hg2
        have HB2' : Hid (Below w.heap.size w w2) := (HB1'.out.alloc HB1'.out.size _).grown hg2 (Nat.le_trans HB1'.out.size (by simp)) (fun k hk => (HO1.out.lt k hk).1)
        have HO2 := Lib.hid hown2
        clear hown2 hg2
        have HS2 := Lib.hid (HB2.out.below HB2'.out (Nat.le_refl _))
        go_wp2_with (at_builtin; refine wpList_append_sl rfl _ _ 48 rfl w.heap.size 2 i0 (.int .i64 0) 1 8 Try.underlying48 hi0 hq0 hq1 hq2 rfl (by decide) _ _ _ rfl HO2.out A2 0 (c - l.length) (iv (l.drop l.length)) rfl HS2.out ?e1 iv_one ?e3 ?e4 ?e5 ?_)
        case e1 => rw [iv_len]; simp
        case e3 => unfold maxLen; omega
        case e4 => omega
        case e5 => exact HB2'.out.size
        intro v3 w3 hown3 hg3
        have HB3' : Hid (Below w.heap.size w w3) := HB2'.out.grown hg3 HB2'.out.size (fun k hk => (HO2.out.lt k hk).1)
        have HO3 := Lib.hid hown3
        clear hown3 hg3
        go_wp2
        go_ret
        rw [HM.out.1, HM.out.2] at HO3
        obtain ⟨A3, c3, rfl, h3⟩ := Sl.of_own HO3.out
        exact ⟨A3, c3, rfl, h3, HB3'.out⟩
end Go.Proofs.Ytdpgmhjhmccfnaa
