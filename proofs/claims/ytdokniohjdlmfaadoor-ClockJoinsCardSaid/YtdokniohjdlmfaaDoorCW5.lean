/- Contracts of the document's letters of a text, and of labels. -/
import Derived.Test.YtdokniohjdlmfaaDoorCW4
import Derived.OwnWalk
import Derived.Deep.AppendLies
namespace Go.Proofs.YtdokniohjdlmfaaDoor
open Go.ChangeShapes Go.WideShapes Go.ChangeAt Go.RowKit Ck

theorem int_info : (Tryd.prog.info? 3).map (fun i => (i.zero, i.size, i.bytes)) = some (some (.int .i64 0), 1, 8) := by kernel_rfl
/-- A new row of whole numbers. -/
def ListP (xs : List Int) (w : World) (e : Ending) (w' : World) : Prop := ∃ v, e = .returned v ∧ w'.ownsRow w.heap.size 3 1 v xs.length (xs.map (Value.int .i64)) ∧ Below w.heap.size w w'
theorem ext_drop (s : ByteArray) (i : Nat) : (s.extract i s.size).data.toList = s.data.toList.drop i := by
  rw [ByteArray.data_extract, Array.toList_extract, List.extract_eq_take_drop, List.take_of_length_le (by simp)]

set_option maxHeartbeats 1000000 in
theorem rL_any (s : ByteArray) (hs : s.size ≤ 1000000) (w : World) :
    Calls Tryd.prog 25 #[.string s] w (ListP (LT s.data.toList) w) := by
  obtain ⟨i0, hi0, hz0, hz1, hz2⟩ := info_parts int_info
  obtain ⟨r, hr⟩ : ∃ r, LT s.data.toList = r := ⟨_, rfl⟩
  rw [hr]
  have HR := Lib.hid hr
  clear hr
  go_enter Tryd.func25, Tryd.ntmps25
  go_wp2
  go_loopw [3, 4] (fun s3 s4 wr => ∃ (i : Nat) (acc : List Int), i ≤ s.size ∧ acc.length ≤ i ∧ s4 = .int .i64 i ∧ wr.ownsRow w.heap.size 3 1 s3 acc.length (acc.map (Value.int .i64)) ∧ Below w.heap.size w wr ∧ Hid (acc ++ LT (s.data.toList.drop i) = r)) (fun _ s4 _ => s.size - (intOf s4).toNat)
  case atStart => exact ⟨0, [], Nat.zero_le _, Nat.le_refl _, rfl, World.ownsRow_lit w #[] 0 (Nat.le_refl _) (Nat.zero_le _) rfl, (Below.refl _ _).alloc (Nat.le_refl _) _, by show _ = _; rw [List.nil_append, List.drop_zero]; exact HR.out⟩
  case round =>
    obtain ⟨i, acc, hi, ha, rfl, hown, hB, HI⟩ := hrel
    rename_i vs _
    by_cases hlt : i < s.size
    · have hiz : (i : Int) < s.size := by omega
      have hl := oneT_len (s.data.toList.drop i) (by simp; omega)
      have hst : Hid (LT (s.data.toList.drop i) = (oneT (s.data.toList.drop i)).2 :: LT ((s.data.toList.drop i).drop (oneT (s.data.toList.drop i)).1)) := LT_step _ (by simp; omega)
      have HO := Lib.hid (fun w => rone_any (s.extract i s.size) (by simp [ByteArray.size_extract]; omega) (by simp [ByteArray.size_extract]; omega) w)
      rw [ext_drop] at HO
      have HOW := Lib.hid hown
      have HB := Lib.hid hB
      clear hown hB
      have hln : (oneT (s.data.toList.drop i)).1 + i ≤ s.size := by have := hl.2; simp at this; omega
      have hl1 := hl.1
      clear hl
      generalize oneT (s.data.toList.drop i) = p at *
      obtain ⟨k, c⟩ := p
      simp only at hst HO hln hl1
      go_wp2_with (first
        | (go_at_call 40; (with_reducible refine (HO.out _).mono ?_); rintro e w' ⟨rfl, rfl⟩)
        | (at_builtin; refine wpList_append_own _ rfl _ _ 37 rfl w.heap.size 3 i0 (.int .i64 0) 1 8 Tryd.underlying37 hi0 hz0 hz1 hz2 rfl (by decide) _ _ _ rfl (HOW.out.alloc _) ⟨wr.heap.size, 0, none⟩ 1 1 [.int .i64 c] rfl rfl ?c1 ?c2 ?c3 ?c4 ?c5 ?_))
      case c1 =>
        intro j u hj
        cases j with
        | zero => simp at hj; subst hj; simp [go_sem]
        | succ j => simp at hj
      case c2 => intro u hu; simp at hu; subst hu; rfl
      case c3 => simp only [maxLen]; omega
      case c4 => omega
      case c5 => have := HB.out.size; simp; omega
      intro v' w1 hown' hgrow _
      have HOW' : Hid (w1.ownsRow w.heap.size 3 1 v' (acc ++ [c]).length ((acc ++ [c]).map (Value.int .i64))) := by show World.ownsRow _ _ _ _ _ _ _; rw [List.length_append, List.map_append]; exact hown'
      have HB' : Hid (Below w.heap.size w w1) := (HB.out.alloc HB.out.size _).grown hgrow (by have := HB.out.size; simp; omega) (fun k hk => (HOW.out.lt k hk).1)
      clear hown' hgrow
      go_wp2
      go_roundw
      case rel => exact ⟨k + i, acc ++ [c], hln, by simp; omega, by go_num, HOW'.out, HB'.out, by show _ = _; rw [← HI.out, hst.out, List.drop_drop, Nat.add_comm k i]; simp⟩
      case measure => simp [intOf]; omega
    · obtain rfl : i = s.size := by omega
      have E : Hid (acc = r) := by show _ = _; rw [← HI.out, List.drop_of_length_le (by simp), LT_nil, List.append_nil]
      have HOW := Lib.hid hown
      have HB := Lib.hid hB
      clear hown hB
      go_wp2
      go_ret
      refine ⟨_, rfl, ?_, HB.out⟩
      rw [← E.out]
      exact HOW.out

theorem own_cell {w : World} {base g cap : Nat} {e : TypeId} {xs : List Int} (h : w.ownsRow base e 1 (.slice (some ⟨g, 0, none⟩) xs.length cap) xs.length (xs.map (Value.int .i64))) (i : Nat) (hi : i < xs.length) :
    w.cell? ⟨g, i, none⟩ = some (.int .i64 (xs.getD i 0)) := by
  rw [h.cellAt i (by omega), List.getElem?_map, List.getElem?_eq_getElem hi, List.getD_eq_getElem?_getD, List.getElem?_eq_getElem hi]
  rfl

/-- A row that reads as f, of n numbers. -/
def RowP (n : Nat) (f : Nat → Int) (w : World) (e : Ending) (w' : World) : Prop := ∃ g cap, e = .returned (.slice (some ⟨g, 0, none⟩) n cap) ∧ (∀ i, i < n → w'.cell? ⟨g, i, none⟩ = some (.int .i64 (f i))) ∧ Below w.heap.size w w'
theorem ListP.row {xs : List Int} {w : World} {e : Ending} {w' : World} (h : ListP xs w e w') (hn : 0 < xs.length) : RowP xs.length (fun i => xs.getD i 0) w e w' := by
  obtain ⟨v, he, hown, hb⟩ := h
  obtain ⟨g, cap, rfl, _, _⟩ := hown.form hn
  exact ⟨g, cap, he, own_cell hown, hb⟩
theorem ListP.none_ {w : World} {e : Ending} {w' : World} (h : ListP [] w e w') : ∃ A c, e = .returned (.slice A 0 c) ∧ Below w.heap.size w w' := by
  obtain ⟨v, he, hown, hb⟩ := h
  rcases hown.2 with ⟨rfl, _⟩ | ⟨g, cap, cur, rfl, _⟩
  · exact ⟨_, _, he, hb⟩
  · exact ⟨_, _, he, hb⟩

set_option maxRecDepth 100000 in
set_option maxHeartbeats 4000000 in
theorem rlabel_row (s : ByteArray) (n : Nat) (f : Nat → Int) (w : World) (hn : 0 < n) (hl : n ≤ 1000000)
    (hL : Calls Tryd.prog 25 #[.string s] w (RowP n f w)) :
    Calls Tryd.prog 23 #[.string s] w fun e w' => e = .returned (.bool (labFB n f)) ∧ Below w.heap.size w w' := by
  have HL := Lib.hid hL
  have hnz : (0 : Int) < n := by omega
  have hn0 : ((n : Int) == 0) = false := beq_false_of_ne (by omega)
  have hn1 : n - 1 < n := by omega
  have hlz : (n : Int) - 1 < n := by omega
  obtain ⟨r, hr⟩ : ∃ r, labFB n f = r := ⟨_, rfl⟩
  rw [hr]
  have HR := Lib.hid hr
  clear hL hr
  by_cases h1 : 24 < n
  · have E : Hid (r = false) := by show _ = _; rw [← HR.out]; exact labF_no.2 (fun h => by have := h.2.1; omega)
    have h1z : (24 : Int) < n := by omega
    go_enter Tryd.func23, Tryd.ntmps23
    go_wp2_with (go_at_call 25; (with_reducible refine HL.out.mono ?_); rintro e w1 ⟨g, cap, rfl, hc, hb⟩; have k0 := hc 0 hn; have kl := hc (n - 1) hn1; have HC := Lib.hid hc; have HB := Lib.hid hb; clear hc hb)
    go_ret
    exact ⟨ret_bool (by rw [E.out]), HB.out⟩
  have h1z : decide ((24 : Int) < n) = false := by simp; omega
  have h1y : (n : Int) ≤ 24 := by omega
  by_cases h2 : f 0 = 32
  · have E : Hid (r = false) := by show _ = _; rw [← HR.out]; exact labF_no.2 (fun h => h.2.2.1 h2)
    have h2b : (f 0 == 32) = true := by rw [h2]; rfl
    clear h2
    go_enter Tryd.func23, Tryd.ntmps23
    go_wp2_with (go_at_call 25; (with_reducible refine HL.out.mono ?_); rintro e w1 ⟨g, cap, rfl, hc, hb⟩; have k0 := hc 0 hn; have kl := hc (n - 1) hn1; have HC := Lib.hid hc; have HB := Lib.hid hb; clear hc hb)
    go_ret
    exact ⟨ret_bool (by rw [E.out]), HB.out⟩
  have h2b : (f 0 == 32) = false := beq_false_of_ne h2
  by_cases h3 : f (n - 1) = 32
  · have E : Hid (r = false) := by show _ = _; rw [← HR.out]; exact labF_no.2 (fun h => h.2.2.2.1 h3)
    have h3b : (f (n - 1) == 32) = true := by rw [h3]; rfl
    clear h3 h2
    go_enter Tryd.func23, Tryd.ntmps23
    go_wp2_with (go_at_call 25; (with_reducible refine HL.out.mono ?_); rintro e w1 ⟨g, cap, rfl, hc, hb⟩; have k0 := hc 0 hn; have kl := hc (n - 1) hn1; have HC := Lib.hid hc; have HB := Lib.hid hb; clear hc hb)
    go_ret
    exact ⟨ret_bool (by rw [E.out]), HB.out⟩
  have h3b : (f (n - 1) == 32) = false := beq_false_of_ne h3
  have H23 : Hid (f 0 ≠ 32 ∧ f (n - 1) ≠ 32) := ⟨h2, h3⟩
  clear h2 h3
  go_enter Tryd.func23, Tryd.ntmps23
  go_wp2_with (go_at_call 25; (with_reducible refine HL.out.mono ?_); rintro e w1 ⟨g, cap, rfl, hc, hb⟩; have k0 := hc 0 hn; have kl := hc (n - 1) hn1; have HC := Lib.hid hc; have HB := Lib.hid hb; clear hc hb)
  go_loop [33] (fun s33 => ∃ i : Nat, i ≤ n ∧ s33 = .int .i64 i ∧ Hid (∀ j, j < i → okC (f j))) (fun s33 => n - (intOf s33).toNat)
  case atStart => exact ⟨0, Nat.zero_le _, rfl, fun j hj => absurd hj (Nat.not_lt_zero _)⟩
  case round =>
    obtain ⟨i, hi, rfl, HO⟩ := hrel
    by_cases hlt : i < n
    · have hc := HC.out i hlt
      have hiz : (i : Int) < n := by omega
      have HN : Hid (okC (f i) → ∀ j, j < i + 1 → okC (f j)) := by
        intro h j hj
        by_cases e : j = i
        · subst e; exact h
        · exact HO.out j (by omega)
      have HF : Hid (¬ okC (f i) → r = false) := by
        intro h
        rw [← HR.out]; exact labF_no.2 (fun h2 => h (h2.2.2.2.2 i hlt))
      generalize f i = c at *
      by_cases hok : okC c
      · have HN' := Lib.hid (HN.out hok)
        clear HN HF
        rcases ok_ways c hok with ⟨a1, a2⟩ | ⟨a1, a2⟩ | ⟨a1, a2⟩ | a1 | a1 | ⟨a1, a2⟩
        all_goals
          clear hok
          try subst a1
          go_wp2
          go_round
          case rel => exact ⟨i + 1, hlt, by go_num, HN'.out⟩
          case measure => simp [intOf]; omega
      · have E := Lib.hid (HF.out hok)
        clear HN HF
        rcases no_ways c hok with a1 | ⟨a1, a2⟩ | ⟨a1, a2⟩ | ⟨a1, a2⟩ | ⟨a1, a2⟩ | ⟨a1, a2⟩ | a1
        all_goals
          have b32 : (c == 32) = false := beq_false_of_ne (by omega)
          have b45 : (c == 45) = false := beq_false_of_ne (by omega)
          try (have q1 : decide (c ≤ 57) = false := decide_eq_false (by omega))
          try (have q2 : decide (c ≤ 90) = false := decide_eq_false (by omega))
          try (have q3 : decide (c ≤ 122) = false := decide_eq_false (by omega))
          try (have q4 : decide (c ≤ 591) = false := decide_eq_false (by omega))
          clear hok
          go_wp2
          go_ret
          exact ⟨ret_bool (by rw [E.out]), HB.out⟩
    · obtain rfl : i = n := by omega
      have E : Hid (r = true) := by show _ = _; rw [← HR.out]; exact labF_iff.2 ⟨hn, by omega, H23.out.1, H23.out.2, HO.out⟩
      go_wp2
      go_ret
      exact ⟨ret_bool (by rw [E.out]), HB.out⟩

theorem rlabel_none (s : ByteArray) (w : World) (hL : Calls Tryd.prog 25 #[.string s] w (ListP [] w)) :
    Calls Tryd.prog 23 #[.string s] w fun e w' => e = .returned (.bool false) ∧ Below w.heap.size w w' := by
  have HL := Lib.hid (hL.mono fun e w' h => h.none_)
  clear hL
  go_enter Tryd.func23, Tryd.ntmps23
  go_wp2_with (go_at_call 25; (with_reducible refine HL.out.mono ?_); rintro e w1 ⟨A, c, rfl, hb⟩; have HB := Lib.hid hb; clear hb)
  go_ret
  exact ⟨rfl, HB.out⟩

theorem rlabel_any (s : ByteArray) (hs : s.size ≤ 1000000) (w : World) :
    Calls Tryd.prog 23 #[.string s] w fun e w' => e = .returned (.bool (labB (LT s.data.toList))) ∧ Below w.heap.size w w' := by
  have hL := rL_any s hs w
  have hl := LT_len s.data.toList
  by_cases hn : 0 < (LT s.data.toList).length
  · exact rlabel_row s _ _ w hn (by simp at hl; omega) (hL.mono fun e w' h => h.row hn)
  · have e : LT s.data.toList = [] := List.eq_nil_of_length_eq_zero (by omega)
    rw [e] at hL ⊢
    exact rlabel_none s w hL
end Go.Proofs.YtdokniohjdlmfaaDoor
