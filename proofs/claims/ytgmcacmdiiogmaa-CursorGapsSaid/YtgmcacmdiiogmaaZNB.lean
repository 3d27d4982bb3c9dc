import Derived.Test.YtgmcacmdiiogmaaRows
import Derived.Test.YtgmcacmdiiogmaaZMB
import Derived.BigRegion
import Derived.Test.YtgmcacmdiiogmaaZMD
import Derived.Deep.RegionHeld3
import Derived.Test.YtgmcacmdiiogmaaZMA
import Derived.Deep.AppendLies
import Derived.Lib.SmallJoins
/- Contract of the document's rows: a number put among others. -/
section
namespace Go.Proofs.Ytgmcacmdiiogmaa
open Go.ChangeShapes Go.WideShapes Go.ChangeAt Go.RowKit Sp

theorem i64_info : (Try.prog.info? 2).map (fun i => (i.zero, i.size, i.bytes)) = some (some (.int .i64 0), 1, 8) := by kernel_rfl
theorem put_step_lt {x n : Int} {r : List Int} (h : x < n) : putI (x :: r) n = x :: putI r n := by rw [show putI (x :: r) n = if x < n then x :: putI r n else if x = n then x :: r else n :: x :: r from rfl, if_pos h]
theorem put_step_eq {x n : Int} {r : List Int} (h : x = n) : putI (x :: r) n = x :: r := by
  have h1 : ¬ x < n := by omega
  rw [show putI (x :: r) n = if x < n then x :: putI r n else if x = n then x :: r else n :: x :: r from rfl, if_neg h1, if_pos h]
theorem put_step_gt {x n : Int} {r : List Int} (h : ¬ x < n) (h2 : ¬ x = n) : putI (x :: r) n = n :: x :: r := by rw [show putI (x :: r) n = if x < n then x :: putI r n else if x = n then x :: r else n :: x :: r from rfl, if_neg h, if_neg h2]
theorem take_step {α : Type} {l : List α} {i : Nat} (h : i < l.length) : l.take (i + 1) = l.take i ++ [l[i]] := List.take_succ_eq_append_getElem h

theorem put_len (l : List Int) (n : Int) : (putI l n).length ≤ l.length + 1 := by
  induction l with
  | nil => simp [putI]
  | cons x r ih =>
    unfold putI
    split
    · simp; omega
    · split <;> simp

theorem take_put_len {l r : List Int} {i : Nat} {n : Int} (hi : i ≤ l.length) (h : l.take i ++ n :: l.drop i = r) : i + 1 + (l.length - i) = r.length ∧ iv (l.take i) ++ .int .i64 n :: iv (l.drop i) = iv r := by
  subst h
  constructor
  · simp; omega
  · rw [show Value.int .i64 n :: iv (l.drop i) = iv (n :: l.drop i) from rfl, ← iv_app]

set_option maxHeartbeats 1000000 in
theorem rput_any (l : List Int) (A : Option Addr) (c : Nat) (n : Int) (w : World) (hl : l.length ≤ 1000000) (hs : Sl w A l.length c (iv l)) :
    Calls Try.prog 56 #[.slice A l.length c, .int .i64 n] w (RetI (putI l n) w) := by
  obtain ⟨r, hr⟩ : ∃ r, putI l n = r := ⟨_, rfl⟩
  rw [hr]
  have HS := Lib.hid hs
  have HR : Hid (l.take 0 ++ putI (l.drop 0) n = r) := hr
  clear hs hr
  obtain ⟨i0, hi0, hq0, hq1, hq2⟩ := info_parts i64_info
  go_enter Try.func56, Try.ntmps56
  go_wp2
  go_loop [5] (fun s5 => ∃ i : Nat, i ≤ l.length ∧ s5 = .int .i64 i ∧ Hid (l.take i ++ putI (l.drop i) n = r)) (fun s5 => l.length - (intOf s5).toNat)
  case atStart => exact ⟨0, Nat.zero_le _, rfl, HR⟩
  case round =>
    obtain ⟨i, hi, rfl, HI⟩ := hrel
    have hcase : (∃ h : i < l.length, l[i] < n) ∨ (∃ h : i < l.length, l[i] = n) ∨ ((i < l.length → ∃ h : i < l.length, ¬ l[i] < n ∧ ¬ l[i] = n) ∧ Hid (l.take i ++ n :: l.drop i = r)) := by
      by_cases hlt : i < l.length
      · by_cases h1 : l[i] < n
        · exact .inl ⟨hlt, h1⟩
        · by_cases h2 : l[i] = n
          · exact .inr (.inl ⟨hlt, h2⟩)
          · exact .inr (.inr ⟨fun _ => ⟨hlt, h1, h2⟩, by show _ = _; rw [← HI.out, drop_step hlt, put_step_gt h1 h2]⟩)
      · exact .inr (.inr ⟨fun h => absurd h hlt, by show _ = _; rw [← HI.out, List.drop_of_length_le (by omega)]; rfl⟩)
    rcases hcase with ⟨hlt, h1⟩ | ⟨hlt, h1⟩ | ⟨hno, HO⟩
    · have hiz : (i : Int) < l.length := by omega
      obtain ⟨b, off, rfl, hb, c1⟩ := HS.out.at_ (iv_at (List.getElem?_eq_getElem hlt))
      have E : Hid (l.take (i + 1) ++ putI (l.drop (i + 1)) n = r) := by show _ = _; rw [← HI.out, drop_step hlt, put_step_lt h1, take_step hlt, List.append_assoc]; rfl
      generalize l[i] = x at *
      clear HI
      go_wp2
      go_round
      case rel => exact ⟨i + 1, hlt, by go_num, E⟩
      case measure => simp [intOf]; omega
    · have hiz : (i : Int) < l.length := by omega
      obtain ⟨b, off, rfl, hb, c1⟩ := HS.out.at_ (iv_at (List.getElem?_eq_getElem hlt))
      have E : Hid (l = r) := by show _ = _; rw [← HI.out, drop_step hlt, put_step_eq h1, ← drop_step hlt, List.take_append_drop]
      generalize hx : l[i] = x at *
      clear HI hx
      have h2 : ¬ x < n := by omega
      have h3 : (x == n) = true := by simpa using h1
      clear h1
      obtain rfl : l = r := E.out
      go_wp2
      go_ret
      exact ⟨_, _, rfl, HS.out, Below.refl _ _⟩
    · obtain ⟨A1, A2, hs1, hs2, hB1, hB2⟩ := HS.out.cut (P := Try.prog) (t := 79) (s := 1) hi (by rw [iv_len]; omega) (by kernel_rfl) (fun w' => by kernel_rfl)
      have hl48 : l.length ≤ 1000000 := hl
      have H0 := Lib.hid (World.ownsRow_made (base := w.heap.size) (e := 2) (size := 1) w #[] 0 (Nat.le_refl _) (by decide) rfl)
      have HB1 := Lib.hid (hB1.alloc (.cells #[] 2))
      have HB2 := Lib.hid hB2
      have HW := Lib.hid ((Below.refl w.heap.size w).alloc (Nat.le_refl _) (.cells #[] 2))
      have HM := Lib.hid (take_put_len hi HO.out)
      rw [iv_take] at HB1
      rw [iv_drop] at HB2
      rw [Nat.mul_one] at HB1 HB2
      clear hB1 hB2
      have hfin : ∀ b, b = true → True := fun _ _ => trivial
      by_cases hlt : i < l.length
      · obtain ⟨_, h1, h2⟩ := hno hlt
        have hiz : (i : Int) < l.length := by omega
        obtain ⟨b, off, rfl, hb, c1⟩ := HS.out.at_ (iv_at (List.getElem?_eq_getElem hlt))
        have h3 : (l[i] == n) = false := by simpa using h2
        generalize l[i] = x at *
        clear h2 hno
        go_wp2_with (at_builtin; refine wpList_append_sl rfl _ _ 79 rfl w.heap.size 2 i0 (.int .i64 0) 1 8 Try.underlying79 hi0 hq0 hq1 hq2 rfl (by decide) _ _ _ rfl H0.out A1 i c (iv (l.take i)) rfl HB1.out ?c1 iv_one ?c3 ?c4 ?c5 ?_)
        case c1 => simp [iv_len, List.length_take] <;> omega
        case c3 => unfold maxLen; omega
        case c4 => omega
        intro v1 w1 hown1 hg1
        have HB1' : Hid (Below w.heap.size w w1) := HW.out.grown hg1 (by simp) (fun k hk => (H0.out.lt k hk).1)
        have HO1 := Lib.hid (hown1.alloc (.cells #[.int .i64 n] 2))
        clear hown1 hg1
        have HN := Lib.hid (Sl.new w1 [.int .i64 n] 1 2 (0, 0) (by decide))
        go_wp2_with (at_builtin; refine wpList_append_sl rfl _ _ 79 rfl w.heap.size 2 i0 (.int .i64 0) 1 8 Try.underlying79 hi0 hq0 hq1 hq2 rfl (by decide) _ _ _ rfl HO1.out (some ⟨w1.heap.size, 0, none⟩) 1 1 [.int .i64 n] rfl HN.out rfl ?d2 ?d3 ?d4 ?d5 ?_)
        case d2 => intro u hu; simp at hu; subst hu; rfl
        case d3 => unfold maxLen; omega
        case d4 => omega
        case d5 => exact Nat.le_trans HB1'.out.size (by simp)
        intro v2 w2 hown2 hg2
        have HB2' : Hid (Below w.heap.size w w2) := (HB1'.out.alloc HB1'.out.size _).grown hg2 (Nat.le_trans HB1'.out.size (by simp)) (fun k hk => (HO1.out.lt k hk).1)
        have HO2 := Lib.hid hown2
        clear hown2 hg2
        have HS2 := Lib.hid (HB2.out.below HB2'.out (Nat.le_refl _))
        go_wp2_with (at_builtin; refine wpList_append_sl rfl _ _ 79 rfl w.heap.size 2 i0 (.int .i64 0) 1 8 Try.underlying79 hi0 hq0 hq1 hq2 rfl (by decide) _ _ _ rfl HO2.out A2 (l.length - i) (c - i) (iv (l.drop i)) rfl HS2.out ?e1 iv_one ?e3 ?e4 ?e5 ?_)
        case e1 => rw [iv_len]; simp
        case e3 => unfold maxLen; omega
        case e4 => omega
        case e5 => exact HB2'.out.size
        intro v3 w3 hown3 hg3
        have HB3' : Hid (Below w.heap.size w w3) := HB2'.out.grown hg3 HB2'.out.size (fun k hk => (HO2.out.lt k hk).1)
        have HO3 := Lib.hid hown3
        clear hown3 hg3
        go_wp2
        go_ret
        rw [HM.out.1, HM.out.2] at HO3
        obtain ⟨A3, c3, rfl, h3⟩ := Sl.of_own HO3.out
        exact ⟨A3, c3, rfl, h3, HB3'.out⟩
      · have hiz : decide ((i : Int) < l.length) = false := decide_eq_false (by omega)
        obtain rfl : i = l.length := by omega
        clear hno
        rw [Nat.sub_self] at hs2 HB2
        simp only [Nat.sub_self, Nat.add_zero, List.take_length, List.drop_length] at HM
        go_wp2_with (at_builtin; refine wpList_append_sl rfl _ _ 79 rfl w.heap.size 2 i0 (.int .i64 0) 1 8 Try.underlying79 hi0 hq0 hq1 hq2 rfl (by decide) _ _ _ rfl H0.out A1 l.length c (iv (l.take l.length)) rfl HB1.out ?c1 iv_one ?c3 ?c4 ?c5 ?_)
        case c1 => simp [iv_len] <;> omega
        case c3 => unfold maxLen; omega
        case c4 => omega
        intro v1 w1 hown1 hg1
        have HB1' : Hid (Below w.heap.size w w1) := HW.out.grown hg1 (by simp) (fun k hk => (H0.out.lt k hk).1)
        have HO1 := Lib.hid (hown1.alloc (.cells #[.int .i64 n] 2))
        clear hown1 hg1
        have HN := Lib.hid (Sl.new w1 [.int .i64 n] 1 2 (0, 0) (by decide))
        go_wp2_with (at_builtin; refine wpList_append_sl rfl _ _ 79 rfl w.heap.size 2 i0 (.int .i64 0) 1 8 Try.underlying79 hi0 hq0 hq1 hq2 rfl (by decide) _ _ _ rfl HO1.out (some ⟨w1.heap.size, 0, none⟩) 1 1 [.int .i64 n] rfl HN.out rfl ?d2 ?d3 ?d4 ?d5 ?_)
        case d2 => intro u hu; simp at hu; subst hu; rfl
        case d3 => unfold maxLen; omega
        case d4 => omega
        case d5 => exact Nat.le_trans HB1'.out.size (by simp)
        intro v2 w2 hown2 hg2
        have HB2' : Hid (Below w.heap.size w w2) := (HB1'.out.alloc HB1'.out.size _).grown hg2 (Nat.le_trans HB1'.out.size (by simp)) (fun k hk => (HO1.out.lt k hk).1)
        have HO2 := Lib.hid hown2
        clear hown2 hg2
        have HS2 := Lib.hid (HB2.out.below HB2'.out (Nat.le_refl _))
        go_wp2_with (at_builtin; refine wpList_append_sl rfl _ _ 79 rfl w.heap.size 2 i0 (.int .i64 0) 1 8 Try.underlying79 hi0 hq0 hq1 hq2 rfl (by decide) _ _ _ rfl HO2.out A2 0 (c - l.length) (iv (l.drop l.length)) rfl HS2.out ?e1 iv_one ?e3 ?e4 ?e5 ?_)
        case e1 => rw [iv_len]; simp
        case e3 => unfold maxLen; omega
        case e4 => omega
        case e5 => exact HB2'.out.size
        intro v3 w3 hown3 hg3
        have HB3' : Hid (Below w.heap.size w w3) := HB2'.out.grown hg3 HB2'.out.size (fun k hk => (HO2.out.lt k hk).1)
        have HO3 := Lib.hid hown3
        clear hown3 hg3
        go_wp2
        go_ret
        rw [HM.out.1, HM.out.2] at HO3
        obtain ⟨A3, c3, rfl, h3⟩ := Sl.of_own HO3.out
        exact ⟨A3, c3, rfl, h3, HB3'.out⟩
end Go.Proofs.Ytgmcacmdiiogmaa
end

/- Contracts of the document's rows: edges. -/
section
namespace Go.Proofs.Ytgmcacmdiiogmaa
open Go.ChangeShapes Go.WideShapes Go.ChangeAt Go.RowKit Sp

theorem edg_cons (acc : List Int) (s : Spn) (r : List Spn) : edg acc (s :: r) = edg (putI (putI acc s.1) s.2) r := rfl
theorem edg_len (a : List Spn) : ∀ acc, (edg acc a).length ≤ acc.length + 2 * a.length := by
  induction a with
  | nil => intro acc; simp [edg]
  | cons s r ih =>
    intro acc
    rw [edg_cons]
    have h1 := ih (putI (putI acc s.1) s.2)
    have h2 := put_len (putI acc s.1) s.2
    have h3 := put_len acc s.1
    simp only [List.length_cons]; omega

set_option maxRecDepth 100000 in
set_option maxHeartbeats 2000000 in
theorem redges_any (a b : List Spn) (A B : Option Addr) (ca cb : Nat) (w : World) (hla : a.length ≤ 1000) (hlb : b.length ≤ 1000) (ha : Sl w A a.length ca (sv a)) (hb : Sl w B b.length cb (sv b)) :
    Calls Try.prog 48 #[.slice A a.length ca, .slice B b.length cb] w (RetI (edges a b) w) := by
  obtain ⟨r, hr⟩ : ∃ r, edges a b = r := ⟨_, rfl⟩
  obtain ⟨r1, hr1⟩ : ∃ r1, edg [] a = r1 := ⟨_, rfl⟩
  have HR : Hid (edg r1 b = r) := by show _ = _; rw [← hr1]; exact hr
  have HR1 : Hid (edg [] (a.drop 0) = r1) := hr1
  have hr1l : r1.length ≤ 2000 := by have := edg_len a []; rw [hr1] at this; simp at this; omega
  rw [hr]
  have HA := Lib.hid ha
  have HB := Lib.hid hb
  clear hr hr1 ha hb
  go_enter Try.func48, Try.ntmps48
  go_wp2
  go_loopw [5, 11] (fun s5 s11 wr => ∃ (i : Nat) (acc : List Int) (D : Option Addr) (c : Nat) (g : Gr w), wr = g.val ∧ i ≤ a.length ∧ s11 = .int .i64 i ∧ s5 = .slice D acc.length c ∧ acc.length ≤ 2 * i ∧ Hid (Sl g.val D acc.length c (iv acc)) ∧ Hid (edg acc (a.drop i) = r1)) (fun _ s11 _ => a.length - (intOf s11).toNat)
  case atStart => exact ⟨0, [], _, 0, ⟨_, (Below.refl _ _).alloc (Nat.le_refl _) _⟩, rfl, Nat.zero_le _, rfl, rfl, Nat.le_refl _, Sl.new w [] 0 _ _ (by decide), HR1⟩
  case round =>
    obtain ⟨i, acc, D, c, g, rfl, hi, rfl, rfl, hal, HD, HI⟩ := hrel
    by_cases hlt : i < a.length
    · have hiz : (i : Int) < a.length := by omega
      obtain ⟨p, off, rfl, hp, hcell⟩ := HA.out.spanG (List.getElem?_eq_getElem hlt)
      have HC := Lib.hid hcell
      obtain ⟨c1, c2⟩ := hcell g
      have HST : Hid (edg (putI (putI acc a[i].1) a[i].2) (a.drop (i + 1)) = r1) := by show _ = _; rw [← edg_cons, ← drop_step hlt]; exact HI.out
      clear hcell HI
      generalize a[i] = s at *
      obtain ⟨x, y⟩ := s
      simp only at c1 c2 HST HC
      have hl1 := put_len acc x
      have hl2 := put_len (putI acc x) y
      have HD0 := Lib.hid (HD.out.below (drew_below g.val) (Nat.le_refl _))
      go_wp2_with fail
      go_region_held3 (fun w' => w'.cell? ⟨p, off + i * 2, none⟩ = some (.int .i64 x) ∧ w'.cell? ⟨p, off + i * 2 + 1, none⟩ = some (.int .i64 y)) (first | exact HC.out _ | (simp only [World.drew_cell?]; exact HC.out _)) (first
        | (go_at_call_of 56 D; (with_reducible refine (rput_any acc D c x _ (by omega) HD0.out).mono ?_); rintro e w' ⟨A1, d1, rfl, h1, hb⟩; obtain ⟨g1, rfl⟩ := g.onD hb; clear hb)
        | (go_at_call_of 56 A1; (with_reducible refine (rput_any (putI acc x) A1 d1 y _ (by omega) h1).mono ?_); rintro e w' ⟨A2, d2, rfl, h2, hb⟩; obtain ⟨g2, rfl⟩ := g1.on hb; clear hb))
      go_wp2_with fail
      go_roundw
      case rel => exact ⟨i + 1, putI (putI acc x) y, A2, d2, g2, rfl, hlt, by go_num, rfl, by omega, h2, HST⟩
      case measure => simp [intOf]; omega
    · obtain rfl : i = a.length := by omega
      obtain rfl : acc = r1 := by have := HI.out; rw [List.drop_of_length_le (Nat.le_refl _)] at this; exact this
      have HR0 : Hid (edg acc (b.drop 0) = r) := HR
      clear HI
      go_wp2_with fail
      go_loopw [5, 30] (fun s5 s30 wr => ∃ (i : Nat) (ac : List Int) (E : Option Addr) (d : Nat) (g : Gr w), wr = g.val ∧ i ≤ b.length ∧ s30 = .int .i64 i ∧ s5 = .slice E ac.length d ∧ ac.length ≤ 2000 + 2 * i ∧ Hid (Sl g.val E ac.length d (iv ac)) ∧ Hid (edg ac (b.drop i) = r)) (fun _ s30 _ => b.length - (intOf s30).toNat)
      case atStart => exact ⟨0, acc, D, c, g, rfl, Nat.zero_le _, rfl, rfl, by omega, HD.out, HR0⟩
      case round =>
        obtain ⟨i, ac, E, d, g, rfl, hi, rfl, rfl, hal, HD, HI⟩ := hrel
        by_cases hlt : i < b.length
        · have hiz : (i : Int) < b.length := by omega
          obtain ⟨p, off, rfl, hp, hcell⟩ := HB.out.spanG (List.getElem?_eq_getElem hlt)
          have HC := Lib.hid hcell
          obtain ⟨c1, c2⟩ := hcell g
          have HST : Hid (edg (putI (putI ac b[i].1) b[i].2) (b.drop (i + 1)) = r) := by show _ = _; rw [← edg_cons, ← drop_step hlt]; exact HI.out
          clear hcell HI
          generalize b[i] = s at *
          obtain ⟨x, y⟩ := s
          simp only at c1 c2 HST HC
          have hl1 := put_len ac x
          have hl2 := put_len (putI ac x) y
          have HD0 := Lib.hid (HD.out.below (drew_below g.val) (Nat.le_refl _))
          go_wp2_with fail
          go_region_held3 (fun w' => w'.cell? ⟨p, off + i * 2, none⟩ = some (.int .i64 x) ∧ w'.cell? ⟨p, off + i * 2 + 1, none⟩ = some (.int .i64 y)) (first | exact HC.out _ | (simp only [World.drew_cell?]; exact HC.out _)) (first
            | (go_at_call_of 56 E; (with_reducible refine (rput_any ac E d x _ (by omega) HD0.out).mono ?_); rintro e w' ⟨A1, d1, rfl, h1, hb⟩; obtain ⟨g1, rfl⟩ := g.onD hb; clear hb)
            | (go_at_call_of 56 A1; (with_reducible refine (rput_any (putI ac x) A1 d1 y _ (by omega) h1).mono ?_); rintro e w' ⟨A2, d2, rfl, h2, hb⟩; obtain ⟨g2, rfl⟩ := g1.on hb; clear hb))
          go_wp2_with fail
          go_roundw
          case rel => exact ⟨i + 1, putI (putI ac x) y, A2, d2, g2, rfl, hlt, by go_num, rfl, by omega, h2, HST⟩
          case measure => simp [intOf]; omega
        · obtain rfl : i = b.length := by omega
          obtain rfl : ac = r := by have := HI.out; rw [List.drop_of_length_le (Nat.le_refl _)] at this; exact this
          go_wp2_with fail
          go_ret
          exact ⟨E, d, rfl, HD.out, g.ok⟩
end Go.Proofs.Ytgmcacmdiiogmaa
end

/- Contract of the document's rows: built between edges. -/
section
namespace Go.Proofs.Ytgmcacmdiiogmaa
open Go.ChangeShapes Go.WideShapes Go.ChangeAt Go.RowKit Go.Joins Sp

theorem span_info : (Try.prog.info? 33).map (fun i => (i.zero, i.size, i.bytes)) = some (some (.agg #[.int .i64 0, .int .i64 0]), 2, 16) := by kernel_rfl
theorem Sl.boolG {w : World} {A : Option Addr} {n c : Nat} {l : List Bool} (h : Sl w A n c (bv l)) {i : Nat} {x : Bool} (hi : l[i]? = some x) :
    ∃ b off, A = some ⟨b, off, none⟩ ∧ b < w.heap.size ∧ ∀ g : Gr w, g.val.cell? ⟨b, off + i, none⟩ = some (.bool x) := by
  obtain ⟨b, off, e, hb, g1⟩ := h.at_ (bv_at hi)
  exact ⟨b, off, e, hb, fun g => cell_old g1 g.ok⟩
theorem joinS_len (o l : List Spn) : (joinS o l).length ≤ o.length + l.length := by
  rcases List.eq_nil_or_concat o with rfl | ⟨q, t, rfl⟩
  · rw [joinS_nil]; omega
  · rw [List.concat_eq_append]
    cases l with
    | nil => simp [joinS_end]
    | cons s r => rw [joinS_snoc]; split <;> simp <;> omega

theorem own_last {cur : Array Value} {q : List Spn} {t1 t2 y : Int} (h : cur.toList.take ((q.length + 1) * 2) = sv (q ++ [(t1, t2)])) :
    ((cur.setIfInBounds (q.length * 2) (.int .i64 t1)).setIfInBounds (q.length * 2 + 1) (.int .i64 y)).toList.take ((q.length + 1) * 2) = sv (q ++ [(t1, y)]) := by
  have hl := sv_len q
  rw [Array.toList_setIfInBounds, Array.toList_setIfInBounds, List.take_set, List.take_set, h, sv_app, sv_app]
  rw [List.set_append_right _ _ (by omega), List.set_append_right _ _ (by omega)]
  simp [sv, hl]

set_option maxRecDepth 100000 in
set_option maxHeartbeats 2000000 in
theorem rbuildN_any (e : List Int) (p : Int → Bool) (A B : Option Addr) (ca cb : Nat) (w : World) (hle : e.length ≤ 10000) (ha : Sl w A e.length ca (iv e)) (hb : Sl w B e.length cb (bv (e.map p))) :
    Calls Try.prog 50 #[.slice A e.length ca, .slice B e.length cb] w (RetN (bld p e) w) := by
  obtain ⟨r, hr⟩ : ∃ r, bld p e = r := ⟨_, rfl⟩
  have HR : Hid (joinS [] (bld p (e.drop 0)) = r) := by show _ = _; rw [joinS_nil]; exact hr
  rw [hr]
  have HA := Lib.hid ha
  have HB := Lib.hid hb
  clear hr ha hb
  obtain ⟨i0, hi0, hq0, hq1, hq2⟩ := info_parts span_info
  go_enter Try.func50, Try.ntmps50
  go_wp2
  go_loopw [5, 6] (fun s5 s6 wr => ∃ (i : Nat) (acc : List Spn) (gb cap : Nat) (g : Gr w), wr = g.val ∧ i ≤ e.length ∧ s6 = .int .i64 i ∧ s5 = .slice (some ⟨gb, 0, none⟩) acc.length cap ∧ acc.length ≤ i ∧ w.heap.size ≤ gb ∧ gb < g.val.heap.size ∧ Hid (g.val.ownsRow w.heap.size 33 2 (.slice (some ⟨gb, 0, none⟩) acc.length cap) acc.length (sv acc)) ∧ Hid (joinS acc (bld p (e.drop i)) = r)) (fun _ s6 _ => e.length - (intOf s6).toNat)
  case atStart => exact ⟨0, [], w.heap.size, 0, ⟨_, (Below.refl _ _).alloc (Nat.le_refl _) _⟩, rfl, Nat.zero_le _, rfl, rfl, Nat.le_refl _, Nat.le_refl _, by simp, World.ownsRow_made (base := w.heap.size) w #[] 0 (Nat.le_refl _) (by decide) rfl, HR⟩
  case round =>
    obtain ⟨i, acc, gb, cap, g, rfl, hi, rfl, rfl, hal, hgb, hgs, HOW, HI⟩ := hrel
    have HGR := Lib.hid (fun (o : Obj) (w1 : World) (h : (g.val.alloc o).drew.drew.grownBy w1 (some gb)) => ((g.ok.alloc g.ok.size o).drew.drew).grown h (by have := g.size; simp [World.drew]; omega) (fun k hk => by obtain rfl := Option.some.inj hk; exact hgb))
    by_cases hlt : i + 1 < e.length
    · have hiz : (i : Int) + 1 < e.length := by omega
      have hlt0 : i < e.length := by omega
      have hiz0 : (i : Int) < e.length := by omega
      obtain ⟨pa, oa, rfl, hpa, hca⟩ := HA.out.intG (List.getElem?_eq_getElem hlt0)
      obtain ⟨pa', oa', ea, _, hca'⟩ := HA.out.intG (List.getElem?_eq_getElem hlt)
      obtain ⟨rfl, rfl⟩ : pa = pa' ∧ oa = oa' := by simpa using ea
      obtain ⟨pb, ob, rfl, hpb, hcb⟩ := HB.out.boolG (i := i) (x := p e[i]) (by rw [List.getElem?_map, List.getElem?_eq_getElem hlt0]; rfl)
      have HST : Hid (joinS acc (bld p (e[i] :: e[i + 1] :: e.drop (i + 1 + 1))) = r) := by show _ = _; rw [← drop_step hlt, ← drop_step hlt0]; exact HI.out
      have HD1 : Hid (e[i + 1] :: e.drop (i + 1 + 1) = e.drop (i + 1)) := (drop_step hlt).symm
      clear HI
      generalize hx : e[i] = x at *
      generalize hy : e[i + 1] = y at *
      clear hx hy
      have HCA := Lib.hid hca
      have HCA' := Lib.hid hca'
      cases hp : p x with
      | false =>
        have E : Hid (joinS acc (bld p (e.drop (i + 1))) = r) := by show _ = _; rw [← HD1.out, ← join_step_no hp]; exact HST.out
        rw [hp] at hcb
        clear HST hca hca'
        have cb := hcb g
        clear hcb
        go_wp2_with fail
        go_roundw
        case rel => exact ⟨i + 1, acc, gb, cap, g, rfl, by omega, by go_num, rfl, by omega, hgb, hgs, HOW, E⟩
        case measure => simp [intOf]; omega
      | true =>
        have E : Hid (joinS (joinS acc [(x, y)]) (bld p (e.drop (i + 1))) = r) := by show _ = _; rw [← HD1.out, ← join_step hp]; exact HST.out
        rw [hp] at hcb
        clear HST hca hca'
        have cb := hcb g
        clear hcb
        rcases (show acc = [] ∨ ∃ q t, acc = q ++ [t] by rcases List.eq_nil_or_concat acc with h | ⟨q, t, h⟩; exact .inl h; exact .inr ⟨q, t, by rw [h, List.concat_eq_append]⟩) with rfl | ⟨q, t, rfl⟩
        · have hsz := g.size
          go_wp2_with fail
          go_region
          go_wp2_with fail
          have hmx : 0 + 1 ≤ maxLen := by decide
          have hbs : w.heap.size ≤ g.val.heap.size + 1 := by omega
          have hw1 : IntKind.i64.wrap ((i : Int) + 1) = i + 1 := by rw [IntKind.wrap_i64]; omega
          have hw2 : (0 : Int) ≤ i + 1 := by omega
          have hw3 : ((i : Int) + 1).toNat = i + 1 := by omega
          go_region_held3 (fun w' => w'.cell? ⟨pa, oa + i, none⟩ = some (.int .i64 x) ∧ w'.cell? ⟨pa, oa + (i + 1), none⟩ = some (.int .i64 y)) (first
            | exact ⟨HCA.out ⟨_, g.ok.drew.drew⟩, HCA'.out ⟨_, g.ok.drew.drew⟩⟩
            | exact ⟨HCA.out ⟨_, (g.ok.alloc g.ok.size _).drew.drew⟩, HCA'.out ⟨_, (g.ok.alloc g.ok.size _).drew.drew⟩⟩
            | exact ⟨HCA.out ⟨_, HGR.out _ _ hgrow⟩, HCA'.out ⟨_, HGR.out _ _ hgrow⟩⟩)
            ((refine step_append_lies _ (by rfl) _ _ _ (by rfl) w.heap.size 33 i0 _ 2 16 Try.underlying28 hi0 hq0 hq1 hq2 rfl (by decide) (.slice (some ⟨gb, 0, none⟩) 0 cap) 0 (sv []) (by rfl) ((HOW.out.alloc _).drew.drew) ⟨g.val.heap.size, 0, none⟩ 1 1 [.int .i64 x, .int .i64 y] (by rfl) (by rfl) (World.news_of_block (cs := #[.int .i64 x, .int .i64 y]) (t := 33) (fr := (0, 0)) (heap_alloc_new g.val _)) (by simp [Value.oneCell']) (Nat.lt_succ_self 0) hmx (by decide) (by simpa [World.drew] using hbs) (g.val.heap.size + 1) (by simp [World.drew]) ?_; intro gg cap2 w1 hown1 hgrow hat hlt2))
          clear hw1 hw2 hw3
          go_wp2_with fail
          go_roundw
          case rel => exact ⟨i + 1, [(x, y)], gg, cap2, ⟨w1, HGR.out _ _ hgrow⟩, rfl, by omega, by go_num, rfl, by simp, (hown1.lt gg rfl).1, hlt2, hown1, E⟩
          case measure => simp [intOf]; omega
        · obtain ⟨t1, t2⟩ := t
          have hsz := g.size
          have hcl := fun (j : Nat) (u : Value) (h : (sv (q ++ [(t1, t2)]))[j]? = some u) => HOW.out.cells (g := gb) rfl j u h
          have hat0 := sv_at (l := q ++ [(t1, t2)]) (i := q.length) (s := (t1, t2)) (by simp)
          have c3 : g.val.cell? ⟨gb, q.length * 2, none⟩ = some (.int .i64 t1) := by have := hcl _ _ hat0.1; rw [add_plain, Nat.zero_add] at this; exact this
          have c4 : g.val.cell? ⟨gb, q.length * 2 + 1, none⟩ = some (.int .i64 t2) := by have := hcl _ _ hat0.2; rw [add_plain, Nat.zero_add] at this; exact this
          have hqe : q.length + 1 ≤ i := by simpa using hal
          have hqz : (0 : Int) < q.length + 1 := by omega
          have hlen : (q ++ [(t1, t2)]).length = q.length + 1 := by simp
          clear hcl hat0
          have c1 := HCA.out g
          by_cases ht : t2 = x
          · have heq : (t2 == x) = true := by simpa using ht
            rw [join_one_ext q (t1, t2) x y ht] at E
            clear ht
            rw [hlen] at HOW
            rw [hlen]
            obtain ⟨cur, hblk, hn1, hm1, hs1, htk, _⟩ := own_block HOW.out
            have hfr : ∀ k, g.val.frozen? ⟨gb, k, none⟩ = false := fun k => unfrozen_of_block hblk k
            have HBL := Lib.hid hblk
            have HTK := Lib.hid htk
            clear hblk htk
            have c2 := HCA'.out g
            have hpg : pa < g.val.heap.size := by omega
            have n1 := World.new_ne g.val _ c2
            have n2 := World.new_ne g.val _ c3
            go_wp2_with fail
            go_region
            go_wp2_with fail
            have hcs : (q.length + 1) * 2 ≤ cur.size := by omega
            have hset := own_last (y := y) HTK.out
            have hbel : Below w.heap.size w ((((g.val.setCell ⟨gb, q.length * 2, none⟩ (.int .i64 t1)).setCell ⟨gb, q.length * 2 + 1, none⟩ (.int .i64 y)).alloc (.cells #[.int .i64 t1, .int .i64 y] 33)).drew) :=
              (((g.ok.setCell (p := ⟨gb, q.length * 2, none⟩) hgb _).setCell (p := ⟨gb, q.length * 2 + 1, none⟩) hgb _).alloc (by simpa [World.setCell] using g.size) _).drew
            have hblk2 : ((((g.val.setCell ⟨gb, q.length * 2, none⟩ (.int .i64 t1)).setCell ⟨gb, q.length * 2 + 1, none⟩ (.int .i64 y)).alloc (.cells #[.int .i64 t1, .int .i64 y] 33)).drew).heap[gb]? = some (.cells ((cur.setIfInBounds (q.length * 2) (.int .i64 t1)).setIfInBounds (q.length * 2 + 1) (.int .i64 y)) 33 (0, 0)) := by
              show ((((g.val.setCell ⟨gb, q.length * 2, none⟩ (.int .i64 t1)).setCell ⟨gb, q.length * 2 + 1, none⟩ (.int .i64 y)).alloc (.cells #[.int .i64 t1, .int .i64 y] 33))).heap[gb]? = _
              rw [heap_alloc_old _ _ (by simpa [World.setCell] using hgs)]
              exact block_setCell (block_setCell HBL.out _) _
            have hlen2 : (q ++ [(t1, y)]).length = q.length + 1 := by simp
            go_roundw
            case rel => exact ⟨i + 1, q ++ [(t1, y)], gb, cap, ⟨_, hbel⟩, rfl, by omega, by go_num, by rw [hlen2], by rw [hlen2]; omega, hgb, by simpa [World.setCell, World.drew] using Nat.lt_succ_of_lt hgs, by show World.ownsRow _ _ _ _ _ _ _; rw [hlen2]; exact own_mk (by rw [sv_len, hlen2]) hgb hblk2 hn1 hm1 (by simpa using hs1) hset, E⟩
            case measure => simp [intOf]; omega
          · have hne : (t2 == x) = false := by simpa using ht
            rw [join_one_new q (t1, t2) x y ht] at E
            clear ht
            rw [hlen] at HOW
            rw [hlen]
            have hfin : ∀ (gg cap2 : Nat), Hid (Value.slice (some ⟨gg, 0, none⟩) (q.length + 1 + 1) cap2 = Value.slice (some ⟨gg, 0, none⟩) (q ++ [(t1, t2)] ++ [(x, y)]).length cap2) := fun _ _ => by show _ = _; simp
            go_wp2_with fail
            go_region
            go_wp2_with fail
            have hmx : q.length + 1 + 1 ≤ maxLen := by unfold maxLen; omega
            have hby : (q.length + 1 + 1) * 16 ≤ 140737488355328 := by omega
            have hbs : w.heap.size ≤ g.val.heap.size + 1 := by omega
            have hw1 : IntKind.i64.wrap ((i : Int) + 1) = i + 1 := by rw [IntKind.wrap_i64]; omega
            have hw2 : (0 : Int) ≤ i + 1 := by omega
            have hw3 : ((i : Int) + 1).toNat = i + 1 := by omega
            go_region_held3 (fun w' => w'.cell? ⟨pa, oa + i, none⟩ = some (.int .i64 x) ∧ w'.cell? ⟨pa, oa + (i + 1), none⟩ = some (.int .i64 y)) (first
              | exact ⟨HCA.out ⟨_, g.ok.drew.drew⟩, HCA'.out ⟨_, g.ok.drew.drew⟩⟩
              | exact ⟨HCA.out ⟨_, (g.ok.alloc g.ok.size _).drew.drew⟩, HCA'.out ⟨_, (g.ok.alloc g.ok.size _).drew.drew⟩⟩
              | exact ⟨HCA.out ⟨_, HGR.out _ _ hgrow⟩, HCA'.out ⟨_, HGR.out _ _ hgrow⟩⟩)
              ((refine step_append_lies _ (by rfl) _ _ _ (by rfl) w.heap.size 33 i0 _ 2 16 Try.underlying28 hi0 hq0 hq1 hq2 rfl (by decide) (.slice (some ⟨gb, 0, none⟩) (q.length + 1) cap) (q.length + 1) (sv (q ++ [(t1, t2)])) (by rfl) ((HOW.out.alloc _).drew.drew) ⟨g.val.heap.size, 0, none⟩ 1 1 [.int .i64 x, .int .i64 y] (by rfl) (by rfl) (World.news_of_block (cs := #[.int .i64 x, .int .i64 y]) (t := 33) (fr := (0, 0)) (heap_alloc_new g.val _)) (by simp [Value.oneCell']) (Nat.lt_succ_self 0) hmx hby (by simpa [World.drew] using hbs) (g.val.heap.size + 1) (by simp [World.drew]) ?_; intro gg cap2 w1 hown1 hgrow hat hlt2))
            clear hw1 hw2 hw3
            go_wp2_with fail
            go_roundw
            case rel => exact ⟨i + 1, q ++ [(t1, t2)] ++ [(x, y)], gg, cap2, ⟨w1, HGR.out _ _ hgrow⟩, rfl, by omega, by go_num, (hfin gg cap2).out, by simp; omega, (hown1.lt gg rfl).1, hlt2, by show World.ownsRow _ _ _ _ _ _ _; rw [show (q ++ [(t1, t2)] ++ [(x, y)]).length = q.length + 1 + 1 by simp, sv_app]; exact hown1, E⟩
            case measure => simp [intOf]; omega
    · have E : Hid (acc = r) := by show _ = _; rw [← HI.out, bld_short p (by simp; omega)]; rfl
      have hiz : decide ((i : Int) + 1 < e.length) = false := decide_eq_false (by omega)
      obtain rfl := E.out
      go_wp2_with fail
      go_ret
      obtain ⟨A3, c3, h3, h4⟩ := Sl.of_own HOW.out
      exact ⟨A3, c3, by rw [← h3]; rfl, h4, fun a ha => by
        subst ha
        simp only [Value.slice.injEq, Option.some.injEq] at h3
        rw [← h3.1]; exact hgb, g.ok⟩
theorem rbuild_any (e : List Int) (p : Int → Bool) (A B : Option Addr) (ca cb : Nat) (w : World) (hle : e.length ≤ 10000) (ha : Sl w A e.length ca (iv e)) (hb : Sl w B e.length cb (bv (e.map p))) :
    Calls Try.prog 50 #[.slice A e.length ca, .slice B e.length cb] w (RetS (bld p e) w) := (rbuildN_any e p A B ca cb w hle ha hb).mono fun _ _ h => h.s
end Go.Proofs.Ytgmcacmdiiogmaa
end

/- Contracts of the document's rows: pairs, forms. -/
section
namespace Go.Proofs.Ytgmcacmdiiogmaa
open Go.ChangeShapes Go.WideShapes Go.ChangeAt Go.RowKit Go.Joins Sp

/-- What a pair is of, by its kind. -/
def cK (k : Int) (x y : Bool) : Bool := if k = 1 then x && y else if 1 < k then x && !y else x || y
theorem cK_ff (k : Int) : cK k false false = false := by unfold cK; split <;> (try split) <;> rfl
theorem bool_info : (Try.prog.info? 4).map (fun i => (i.zero, i.size, i.bytes)) = some (some (.bool false), 1, 1) := by kernel_rfl
theorem edges_len (a b : List Spn) : (edges a b).length ≤ 2 * a.length + 2 * b.length := by
  unfold edges
  have h1 := edg_len b (edg [] a)
  have h2 := edg_len a []
  simp at h2
  omega

set_option maxRecDepth 100000 in
set_option maxHeartbeats 2000000 in
theorem rpairN_any (a b : List Spn) (A B : Option Addr) (ca cb : Nat) (k : Int) (w : World) (hla : a.length ≤ 1000) (hlb : b.length ≤ 1000) (ha : Sl w A a.length ca (sv a)) (hb : Sl w B b.length cb (sv b)) :
    Calls Try.prog 34 #[.slice A a.length ca, .slice B b.length cb, .int .i64 k] w (RetN (pair (cK k) a b) w) := by
  have hel := edges_len a b
  have HE := Lib.hid (redges_any a b A B ca cb w hla hlb ha hb)
  obtain ⟨p, hp⟩ : ∃ p : Int → Bool, p = fun z => cK k (hasB a z) (hasB b z) := ⟨_, rfl⟩
  have hpr : pair (cK k) a b = bld p (edges a b) := by rw [hp]; rfl
  rw [hpr]
  have HP := Lib.hid hp
  clear hp hpr
  have HA := Lib.hid ha
  have HB := Lib.hid hb
  clear ha hb
  generalize edges a b = e at *
  obtain ⟨i0, hi0, hq0, hq1, hq2⟩ := info_parts bool_info
  go_enter Try.func34, Try.ntmps34
  go_wp2_with fail
  go_at_call 48
  refine HE.out.mono ?_
  rintro e1 w1 ⟨E, ce, rfl, hsl, hbel⟩
  obtain ⟨g, rfl⟩ := Gr.of hbel
  have HSE := Lib.hid hsl
  clear hsl hbel HE
  go_wp2_with fail
  go_loopw [8, 19] (fun s8 s19 wr => ∃ (i gb cap : Nat) (g2 : Gr g.val), wr = g2.val ∧ i ≤ e.length ∧ s19 = .int .i64 i ∧ s8 = .slice (some ⟨gb, 0, none⟩) i cap ∧ g.val.heap.size ≤ gb ∧ Hid (g2.val.ownsRow g.val.heap.size 4 1 (.slice (some ⟨gb, 0, none⟩) i cap) i (bv ((e.map p).take i)))) (fun _ s19 _ => e.length - (intOf s19).toNat)
  case atStart => exact ⟨0, g.val.heap.size, 0, ⟨_, (Below.refl _ _).alloc (Nat.le_refl _) _⟩, rfl, Nat.zero_le _, rfl, rfl, Nat.le_refl _, World.ownsRow_made (base := g.val.heap.size) g.val #[] 0 (Nat.le_refl _) (by decide) rfl⟩
  case round =>
    obtain ⟨i, gb, cap, g2, rfl, hi, rfl, rfl, hgb, HOW⟩ := hrel
    by_cases hlt : i < e.length
    · have hiz : (i : Int) < e.length := by omega
      obtain ⟨pe, oe, rfl, hpe, hce⟩ := HSE.out.intG (List.getElem?_eq_getElem hlt)
      have hc := hce g2
      clear hce
      have HST : Hid (bv ((e.map p).take i) ++ [.bool (p e[i])] = bv ((e.map p).take (i + 1))) := by show _ = _; rw [take_step (l := e.map p) (by simpa using hlt), bv_app]; simp [bv]
      generalize hz : e[i] = z at *
      clear hz
      have H1 := Lib.hid (fun G : Gr w => rhas_any a A ca z G.val (HA.out.gr G))
      have H2 := Lib.hid (fun G : Gr w => rhas_any b B cb z G.val (HB.out.gr G))
      have hpz : p z = cK k (hasB a z) (hasB b z) := by rw [HP.out]
      rw [hpz] at HST
      clear hpz
      generalize hasB a z = X at *
      generalize hasB b z = Y at *
      obtain ⟨G, hG⟩ : ∃ G : Gr w, g2.val = G.val := ⟨⟨g2.val, g.ok.trans (g2.ok.mono g.size)⟩, rfl⟩
      have HN1 := Lib.hid (H1.out ⟨g2.val, g.ok.trans (g2.ok.mono g.size)⟩)
      have HN2 := Lib.hid (H2.out ⟨g2.val, g.ok.trans (g2.ok.mono g.size)⟩)
      clear hG G H1 H2
      go_wp2_with fail
      go_at_call 49
      refine HN1.out.mono ?_
      rintro e2 w2 ⟨rfl, rfl⟩
      go_wp2_with fail
      go_at_call 49
      refine HN2.out.mono ?_
      rintro e2 w2 ⟨rfl, rfl⟩
      obtain ⟨v, hv⟩ : ∃ v, cK k X Y = v := ⟨_, rfl⟩
      rw [hv] at HST
      have hk : (k = 1 ∧ (k == 1) = true ∧ decide (1 < k) = false) ∨ (¬ k = 1 ∧ (k == 1) = false ∧ 1 < k ∧ decide (1 < k) = true) ∨ (¬ k = 1 ∧ (k == 1) = false ∧ ¬ 1 < k ∧ decide (1 < k) = false) := by
        by_cases h1 : k = 1
        · exact .inl ⟨h1, by simpa using h1, decide_eq_false (by omega)⟩
        · by_cases h2 : 1 < k
          · exact .inr (.inl ⟨h1, by simpa using h1, h2, decide_eq_true h2⟩)
          · exact .inr (.inr ⟨h1, by simpa using h1, h2, decide_eq_false h2⟩)
      have hV : (k = 1 → v = (X && Y)) ∧ (¬ k = 1 → 1 < k → v = (X && !Y)) ∧ (¬ k = 1 → ¬ 1 < k → v = (X || Y)) := by
        rw [← hv]; unfold cK
        exact ⟨fun h => by rw [if_pos h], fun h h2 => by rw [if_neg h, if_pos h2], fun h h2 => by rw [if_neg h, if_neg h2]⟩
      have hsz : g.val.heap.size ≤ g2.val.heap.size := g2.size
      have hmx : i + 1 ≤ maxLen := by unfold maxLen; omega
      have hby : (i + 1) * 1 ≤ 140737488355328 := by omega
      have hbs : g.val.heap.size ≤ g2.val.heap.size + 1 := by omega
      have HGR := Lib.hid (fun (o : Obj) (w3 : World) (h : (g2.val.alloc o).grownBy w3 (some gb)) => (g2.ok.alloc g2.ok.size o).grown h (by simp; omega) (fun k hk => by obtain rfl := Option.some.inj hk; exact hgb))
      clear hv
      have key : ∀ (v0 : Bool), v = v0 → Hid (bv ((e.map p).take i) ++ [.bool v0] = bv ((e.map p).take (i + 1))) := fun v0 h => by rw [← h]; exact HST
      clear HST
      rcases hk with ⟨h1, h2, h3⟩ | ⟨h1, h2, h3, h4⟩ | ⟨h1, h2, h3, h4⟩
      · have hv := hV.1 h1
        clear hV
        cases X <;> cases Y
        all_goals
          have HST := key _ hv
          clear key hv h1
          try simp only [Bool.and_true, Bool.and_false] at HST
          go_wp2_with (at_builtin; refine wpList_append_lies _ rfl _ _ _ rfl g.val.heap.size 4 i0 (.bool false) 1 1 Try.underlying81 hi0 hq0 hq1 hq2 rfl (by decide) (.slice (some ⟨gb, 0, none⟩) i cap) i _ rfl (HOW.out.alloc _) ⟨g2.val.heap.size, 0, none⟩ 1 1 [.bool _] rfl rfl (World.news_of_block (fr := (0, 0)) (heap_alloc_new g2.val _)) (by simp [Value.oneCell']) (Nat.lt_succ_self 0) hmx hby (by simpa using hbs) (g2.val.heap.size + 1) (by simp) ?_)
          intro gg cap2 w3 hown1 hgrow hat hlt2
          go_wp2_with fail
          go_roundw
          case rel => exact ⟨i + 1, gg, cap2, ⟨w3, HGR.out _ _ hgrow⟩, rfl, hlt, by go_num, rfl, (hown1.lt gg rfl).1, by show World.ownsRow _ _ _ _ _ _ _; rw [← HST.out]; exact hown1⟩
          case measure => simp [intOf]; omega
      · have hv := hV.2.1 h1 h3
        clear hV
        cases X <;> cases Y
        all_goals
          have HST := key _ hv
          clear key hv h1
          try simp only [Bool.and_true, Bool.and_false, Bool.not_true, Bool.not_false] at HST
          go_wp2_with (at_builtin; refine wpList_append_lies _ rfl _ _ _ rfl g.val.heap.size 4 i0 (.bool false) 1 1 Try.underlying81 hi0 hq0 hq1 hq2 rfl (by decide) (.slice (some ⟨gb, 0, none⟩) i cap) i _ rfl (HOW.out.alloc _) ⟨g2.val.heap.size, 0, none⟩ 1 1 [.bool _] rfl rfl (World.news_of_block (fr := (0, 0)) (heap_alloc_new g2.val _)) (by simp [Value.oneCell']) (Nat.lt_succ_self 0) hmx hby (by simpa using hbs) (g2.val.heap.size + 1) (by simp) ?_)
          intro gg cap2 w3 hown1 hgrow hat hlt2
          go_wp2_with fail
          go_roundw
          case rel => exact ⟨i + 1, gg, cap2, ⟨w3, HGR.out _ _ hgrow⟩, rfl, hlt, by go_num, rfl, (hown1.lt gg rfl).1, by show World.ownsRow _ _ _ _ _ _ _; rw [← HST.out]; exact hown1⟩
          case measure => simp [intOf]; omega
      · have hv := hV.2.2 h1 h3
        clear hV
        cases X <;> cases Y
        all_goals
          have HST := key _ hv
          clear key hv h1
          try simp only [Bool.or_true, Bool.or_false] at HST
          go_wp2_with (at_builtin; refine wpList_append_lies _ rfl _ _ _ rfl g.val.heap.size 4 i0 (.bool false) 1 1 Try.underlying81 hi0 hq0 hq1 hq2 rfl (by decide) (.slice (some ⟨gb, 0, none⟩) i cap) i _ rfl (HOW.out.alloc _) ⟨g2.val.heap.size, 0, none⟩ 1 1 [.bool _] rfl rfl (World.news_of_block (fr := (0, 0)) (heap_alloc_new g2.val _)) (by simp [Value.oneCell']) (Nat.lt_succ_self 0) hmx hby (by simpa using hbs) (g2.val.heap.size + 1) (by simp) ?_)
          intro gg cap2 w3 hown1 hgrow hat hlt2
          go_wp2_with fail
          go_roundw
          case rel => exact ⟨i + 1, gg, cap2, ⟨w3, HGR.out _ _ hgrow⟩, rfl, hlt, by go_num, rfl, (hown1.lt gg rfl).1, by show World.ownsRow _ _ _ _ _ _ _; rw [← HST.out]; exact hown1⟩
          case measure => simp [intOf]; omega
    · obtain rfl : i = e.length := by omega
      have HOB := Lib.hid (Sl.own_ HOW.out)
      rw [List.take_of_length_le (by simp)] at HOB
      have HBU := Lib.hid (rbuildN_any e p E (some ⟨gb, 0, none⟩) ce cap g2.val (by omega) (HSE.out.gr g2) HOB.out)
      go_wp2_with fail
      go_at_call 50
      refine HBU.out.mono ?_
      rintro e4 w4 ⟨A4, c4, rfl, h4, hn4, hb4⟩
      go_wp2_with fail
      go_ret
      exact ⟨A4, c4, rfl, h4, fun a ha => Nat.le_trans (Nat.le_trans g.size g2.size) (hn4 a ha), (g.ok.trans (g2.ok.mono g.size)).trans (hb4.mono (Nat.le_trans g.size g2.size))⟩

theorem rpair_any (a b : List Spn) (A B : Option Addr) (ca cb : Nat) (k : Int) (w : World) (hla : a.length ≤ 1000) (hlb : b.length ≤ 1000) (ha : Sl w A a.length ca (sv a)) (hb : Sl w B b.length cb (sv b)) :
    Calls Try.prog 34 #[.slice A a.length ca, .slice B b.length cb, .int .i64 k] w (RetS (pair (cK k) a b) w) := (rpairN_any a b A B ca cb k w hla hlb ha hb).mono fun _ _ h => h.s
theorem rformN_any (a : List Spn) (A : Option Addr) (ca : Nat) (w : World) (hla : a.length ≤ 1000) (ha : Sl w A a.length ca (sv a)) :
    Calls Try.prog 35 #[.slice A a.length ca] w (RetN (pair (cK 0) a []) w) := by
  have HP := Lib.hid (rpairN_any a [] A (some ⟨w.heap.size, 0, none⟩) ca 0 0 (w.alloc (.cells #[] 33)) hla (by simp) (ha.alloc _) (Sl.new w [] 0 33 (0, 0) (by decide)))
  clear ha
  go_enter Try.func35, Try.ntmps35
  go_wp2_with fail
  go_at_call 34
  refine HP.out.mono ?_
  rintro e w' ⟨A', c', rfl, h, hn, hb⟩
  go_wp2_with fail
  go_ret
  exact ⟨A', c', rfl, h, fun a ha => by have := hn a ha; simp at this; omega, ((Below.refl _ w).alloc (Nat.le_refl _) _).trans (hb.mono (by simp))⟩
theorem rform_any (a : List Spn) (A : Option Addr) (ca : Nat) (w : World) (hla : a.length ≤ 1000) (ha : Sl w A a.length ca (sv a)) :
    Calls Try.prog 35 #[.slice A a.length ca] w (RetS (pair (cK 0) a []) w) := (rformN_any a A ca w hla ha).mono fun _ _ h => h.s
end Go.Proofs.Ytgmcacmdiiogmaa
end

/- Contract of the document's rows: whether one is in its form. -/
section
namespace Go.Proofs.Ytgmcacmdiiogmaa
open Go.ChangeShapes Go.WideShapes Go.ChangeAt Go.RowKit Go.Joins Sp
end Go.Proofs.Ytgmcacmdiiogmaa
end
