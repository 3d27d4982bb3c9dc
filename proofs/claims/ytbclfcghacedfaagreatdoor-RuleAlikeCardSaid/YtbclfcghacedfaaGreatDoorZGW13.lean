import Derived.Test.YtbclfcghacedfaaGreatDoorZGW12
import Derived.OwnWalk
/- Contracts of the program's rules: readers of rows. -/
section
namespace Go.Proofs.YtbclfcghacedfaaGreatDoor
open Go.ChangeShapes Go.WideShapes Go.ChangeAt Go.RowKit Qr Ck Sp

/-- A row is handed back, or none. -/
def RetRow {α : Type} (cv : List α → List Value) (q : Option (List α)) (w : World) (e : Ending) (w' : World) : Prop := match q with
  | some l => ∃ A c, e = .returned (.tuple #[.slice A l.length c, .bool true]) ∧ Sl w' A l.length c (cv l) ∧ (∀ a, A = some a → w.heap.size ≤ a.block) ∧ Below w.heap.size w w'
  | none => e = .returned (.tuple #[.slice none 0 0, .bool false]) ∧ Below w.heap.size w w'
theorem RetRow.yes {α : Type} {cv : List α → List Value} {q : Option (List α)} {w : World} {e : Ending} {w' : World} {l : List α} (hq : q = some l) (h : ∃ A c, e = .returned (.tuple #[.slice A l.length c, .bool true]) ∧ Sl w' A l.length c (cv l) ∧ (∀ a, A = some a → w.heap.size ≤ a.block) ∧ Below w.heap.size w w') : RetRow cv q w e w' := by
  subst hq; exact h
theorem RetRow.no {α : Type} {cv : List α → List Value} {q : Option (List α)} {w : World} {e : Ending} {w' : World} (hq : q = none) (h : e = .returned (.tuple #[.slice none 0 0, .bool false]) ∧ Below w.heap.size w w') : RetRow cv q w e w' := by
  subst hq; exact h
theorem allV_no {α : Type} {rd : List UInt8 → α × Bool} {p : List UInt8} {r : List (List UInt8)} (h : (rd p).2 = false) : allV rd (p :: r) = none := by
  show (if (rd p).2 = true then _ else none) = none; rw [h]; rfl
theorem allV_yes {α : Type} {rd : List UInt8 → α × Bool} {p : List UInt8} {r : List (List UInt8)} (h : (rd p).2 = true) : allV rd (p :: r) = (allV rd r).map ((rd p).1 :: ·) := by
  show (if (rd p).2 = true then _ else none) = _; rw [h]; rfl
theorem map_snoc {α : Type} (q : Option (List α)) (acc : List α) (x : α) : (q.map (x :: ·)).map (acc ++ ·) = q.map ((acc ++ [x]) ++ ·) := by
  cases q with
  | none => rfl
  | some l => simp
theorem dayN_info : (Tryz.prog.info? 36).map (fun i => (i.zero, i.size, i.bytes)) = some (some (.agg #[.int .i64 0, .int .i64 0]), 2, 16) := by kernel_rfl
theorem gint_info : (Tryz.prog.info? 3).map (fun i => (i.zero, i.size, i.bytes)) = some (some (.int .i64 0), 1, 8) := by kernel_rfl

set_option maxRecDepth 100000 in
set_option maxHeartbeats 2000000 in
theorem rowOfI_any (l : List UInt8) (hl : l.length ≤ 100000) (b : Nat) (w : World) (hE : Env9 w) (hb : w.cell? ⟨b, 0, none⟩ = some (.func (.func 55) #[] #[])) :
    Calls Tryz.prog 86 #[.string ⟨l.toArray⟩, .pointer (some ⟨b, 0, none⟩)] w (RetRow iv (rdRow rdIntV l) w) := by
  obtain ⟨q, hq⟩ : ∃ q, rdRow rdIntV l = q := ⟨_, rfl⟩
  rw [hq]
  unfold rdRow at hq
  obtain ⟨i0, hi0, hz0, hz1, hz2⟩ := info_parts gint_info
  have HSP := Lib.hid (split_any 44 l (by omega) w hE.env)
  have hpn := pcs_len 44 l
  have hpm := pcs_mem (c := 44) l.length l (Nat.le_refl _)
  obtain ⟨P, hP⟩ : ∃ P, pcs 44 l = P := ⟨_, rfl⟩
  rw [hP] at hq HSP hpn hpm
  obtain ⟨n, hn⟩ : ∃ n, P.length = n := ⟨_, rfl⟩
  have HN := Lib.hid hn
  rw [hn] at HSP hpn
  have hnb : n ≤ 100001 := by omega
  obtain ⟨W, hW⟩ : ∃ W, w.alloc (.cells (tv P).toArray 9) = W := ⟨_, rfl⟩
  have HW := Lib.hid hW
  have BW : Hid (Below w.heap.size w W) := by show Below _ _ _; rw [← hW]; exact (Below.refl _ w).alloc (Nat.le_refl _) _
  have HB0 : Hid (∀ g : Gr W, g.val.cell? ⟨b, 0, none⟩ = some (.func (.func 55) #[] #[])) := fun g => cell_old (w := W) (cell_old hb BW.out) g.ok
  have HCP : Hid (∀ (g : Gr W) (k : Nat) (p : List UInt8), P[k]? = some p → g.val.cell? ⟨w.heap.size, k, none⟩ = some (.string ⟨p.toArray⟩)) := fun g k p hp => cell_old (w := W) (by rw [← hW]; exact box_at (w := w) (t := 9) (C := (tv P).toArray) (by simpa using tv_at hp) ⟨_, Below.refl _ _⟩) g.ok
  have HEW := Lib.hid (hE.below BW.out)
  have HPM := Lib.hid hpm
  have HQ : Hid ((allV rdIntV (P.drop 0)).map (([] : List Int) ++ ·) = q) := by show _ = _; rw [List.drop_zero, hq]; cases q <;> simp
  clear hq hP hn hpn hpm hE hb hW
  go_enter Tryz.func86, Tryz.ntmps86
  go_wp2_with (go_at_call 36; (with_reducible refine HSP.out.mono ?_); rintro e w' ⟨rfl, rfl⟩)
  rw [HW.out]
  go_loopw [5, 13] (fun s5 s13 wr => ∃ (g : Gr W) (k : Nat) (acc : List Int), wr = g.val ∧ k ≤ n ∧ s13 = .int .i64 k ∧ g.val.ownsRow W.heap.size 3 1 s5 acc.length (iv acc) ∧ acc.length = k ∧ Hid ((allV rdIntV (P.drop k)).map (acc ++ ·) = q)) (fun _ s13 _ => n - (intOf s13).toNat)
  case atStart => exact ⟨⟨W, Below.refl _ _⟩, 0, [], rfl, Nat.zero_le _, rfl, World.ownsRow_nil _ _ _ _, rfl, HQ⟩
  case round =>
    obtain ⟨g, k, acc, rfl, hk, rfl, hown, hacc, HK⟩ := hrel
    have HOW := Lib.hid hown
    have HACC := Lib.hid hacc
    rw [hacc] at HOW
    clear hown hacc
    by_cases hlt : k < n
    · have hkl : k < P.length := by rw [HN.out]; exact hlt
      have hc0 := HCP.out g k P[k] (by simp [hkl])
      have hb0 := HB0.out g
      have HR := Lib.hid (rdnum_any P[k] (by have := HPM.out P[k] (List.getElem_mem hkl); omega) g.val (HEW.out.gr g))
      have hdr : P.drop k = P[k] :: P.drop (k + 1) := List.drop_eq_getElem_cons hkl
      have HK2 : Hid ((allV rdIntV (P[k] :: P.drop (k + 1))).map (acc ++ ·) = q) := by show _ = _; rw [← hdr]; exact HK.out
      have HY : Hid ((rdIntV P[k]).2 = true → (allV rdIntV (P.drop (k + 1))).map ((acc ++ [(rdIntV P[k]).1]) ++ ·) = q) := fun h => by rw [← map_snoc, ← allV_yes h]; exact HK2.out
      have HNO : Hid ((rdIntV P[k]).2 = false → q = none) := fun h => by rw [← HK2.out, allV_no h]; rfl
      clear hdr HK HK2
      generalize rdIntV P[k] = v at *
      obtain ⟨x1, ok⟩ := v
      generalize P[k] = p at *
      simp only at HR HY HNO
      cases ok with
      | false =>
        have E := Lib.hid (HNO.out rfl)
        clear HNO HY
        go_wp2_with (go_at_call 55; (with_reducible refine HR.out.mono ?_); rintro e w' ⟨rfl, hbb⟩; obtain ⟨g2, rfl⟩ := g.on hbb; clear hbb)
        go_ret2
        exact RetRow.no E.out ⟨rfl, BW.out.trans (g2.ok.mono BW.out.size)⟩
      | true =>
        have E := Lib.hid (HY.out rfl)
        clear HNO HY
        go_wp2_with (first
          | (go_at_call 55; (with_reducible refine HR.out.mono ?_); rintro e w' ⟨rfl, hbb⟩; have HOW2 := Lib.hid (own_up HOW.out hbb); obtain ⟨g2, rfl⟩ := g.on hbb; clear hbb)
          | (at_builtin; refine wpList_append_own _ rfl _ _ 22 rfl W.heap.size 3 i0 (.int .i64 0) 1 8 Tryz.underlying22 hi0 hz0 hz1 hz2 rfl (by decide) _ _ _ rfl (HOW2.out.alloc _) ⟨g2.val.heap.size, 0, none⟩ 1 1 [.int .i64 x1] rfl rfl ?c1 ?c2 ?c3 ?c4 ?c5 ?_))
        case c1 =>
          intro j u hj
          match j, hj with
          | 0, hj => simp at hj; subst hj; simp [go_sem]
          | j + 1, hj => simp at hj
        case c2 => intro u hu; simp at hu; subst hu; rfl
        case c3 => simp only [maxLen]; omega
        case c4 => omega
        case c5 => have := g2.ok.size; simp; omega
        intro v' w1 hown' hgrow _
        have HOW' : Hid (w1.ownsRow W.heap.size 3 1 v' (acc ++ [x1]).length (iv (acc ++ [x1]))) := by show World.ownsRow _ _ _ _ _ _ _; rw [List.length_append, HACC.out, iv_app]; exact hown'
        have HB' : Hid (Below W.heap.size W w1) := (g2.ok.alloc g2.ok.size _).grown hgrow (by have := g2.ok.size; simp; omega) (fun k hk => (HOW2.out.lt k hk).1)
        have HL' : Hid ((acc ++ [x1]).length = k + 1) := by show _ = _; rw [List.length_append, HACC.out]; rfl
        clear hown' hgrow
        obtain ⟨g3, rfl⟩ := Gr.of HB'.out
        go_wp2
        go_roundw
        case rel => exact ⟨g3, k + 1, acc ++ [x1], rfl, by omega, by go_num, HOW'.out, HL'.out, E⟩
        case measure => simp [intOf]; omega
    · obtain rfl : k = n := by omega
      have E : Hid (q = some acc) := by show _ = _; rw [← HK.out, List.drop_of_length_le (by rw [HN.out]; exact Nat.le_refl _)]; simp [allV]
      go_wp2
      go_ret2
      have hlt2 := HOW.out.lt
      obtain ⟨A', c', rfl, hsl⟩ := Sl.of_own HOW.out
      have hfr : ∀ a, A' = some a → w.heap.size ≤ a.block := fun a ha => by
        subst ha
        have := (hlt2 a.block rfl).1
        have := BW.out.size
        omega
      exact RetRow.yes E.out ⟨A', c', by rw [HACC.out]; rfl, by rw [HACC.out]; exact hsl, hfr, BW.out.trans (g.ok.mono BW.out.size)⟩
theorem sv_one_len (l : List (Int × Int)) (x1 x2 : Int) : sv (l ++ [(x1, x2)]) = sv l ++ [.int .i64 x1, .int .i64 x2] := by rw [sv_app]; rfl

set_option maxRecDepth 100000 in
set_option maxHeartbeats 2000000 in
theorem rowOfD_any (l : List UInt8) (hl : l.length ≤ 100000) (b : Nat) (w : World) (hE : Env9 w) (hb : w.cell? ⟨b, 0, none⟩ = some (.func (.func 62) #[] #[])) :
    Calls Tryz.prog 88 #[.string ⟨l.toArray⟩, .pointer (some ⟨b, 0, none⟩)] w (RetRow sv (rdRow rdDayV l) w) := by
  obtain ⟨q, hq⟩ : ∃ q, rdRow rdDayV l = q := ⟨_, rfl⟩
  rw [hq]
  unfold rdRow at hq
  obtain ⟨i0, hi0, hz0, hz1, hz2⟩ := info_parts dayN_info
  have HSP := Lib.hid (split_any 44 l (by omega) w hE.env)
  have hpn := pcs_len 44 l
  have hpm := pcs_mem (c := 44) l.length l (Nat.le_refl _)
  obtain ⟨P, hP⟩ : ∃ P, pcs 44 l = P := ⟨_, rfl⟩
  rw [hP] at hq HSP hpn hpm
  obtain ⟨n, hn⟩ : ∃ n, P.length = n := ⟨_, rfl⟩
  have HN := Lib.hid hn
  rw [hn] at HSP hpn
  have hnb : n ≤ 100001 := by omega
  obtain ⟨W, hW⟩ : ∃ W, w.alloc (.cells (tv P).toArray 9) = W := ⟨_, rfl⟩
  have HW := Lib.hid hW
  have BW : Hid (Below w.heap.size w W) := by show Below _ _ _; rw [← hW]; exact (Below.refl _ w).alloc (Nat.le_refl _) _
  have HB0 : Hid (∀ g : Gr W, g.val.cell? ⟨b, 0, none⟩ = some (.func (.func 62) #[] #[])) := fun g => cell_old (w := W) (cell_old hb BW.out) g.ok
  have HCP : Hid (∀ (g : Gr W) (k : Nat) (p : List UInt8), P[k]? = some p → g.val.cell? ⟨w.heap.size, k, none⟩ = some (.string ⟨p.toArray⟩)) := fun g k p hp => cell_old (w := W) (by rw [← hW]; exact box_at (w := w) (t := 9) (C := (tv P).toArray) (by simpa using tv_at hp) ⟨_, Below.refl _ _⟩) g.ok
  have HEW := Lib.hid (hE.below BW.out)
  have HPM := Lib.hid hpm
  have HQ : Hid ((allV rdDayV (P.drop 0)).map (([] : List (Int × Int)) ++ ·) = q) := by show _ = _; rw [List.drop_zero, hq]; cases q <;> simp
  clear hq hP hn hpn hpm hE hb hW
  go_enter Tryz.func88, Tryz.ntmps88
  go_wp2_with (go_at_call 36; (with_reducible refine HSP.out.mono ?_); rintro e w' ⟨rfl, rfl⟩)
  rw [HW.out]
  go_loopw [5, 13] (fun s5 s13 wr => ∃ (g : Gr W) (k : Nat) (acc : List (Int × Int)), wr = g.val ∧ k ≤ n ∧ s13 = .int .i64 k ∧ g.val.ownsRow W.heap.size 36 2 s5 acc.length (sv acc) ∧ acc.length = k ∧ Hid ((allV rdDayV (P.drop k)).map (acc ++ ·) = q)) (fun _ s13 _ => n - (intOf s13).toNat)
  case atStart => exact ⟨⟨W, Below.refl _ _⟩, 0, [], rfl, Nat.zero_le _, rfl, World.ownsRow_nil _ _ _ _, rfl, HQ⟩
  case round =>
    obtain ⟨g, k, acc, rfl, hk, rfl, hown, hacc, HK⟩ := hrel
    have HOW := Lib.hid hown
    have HACC := Lib.hid hacc
    rw [hacc] at HOW
    clear hown hacc
    by_cases hlt : k < n
    · have hkl : k < P.length := by rw [HN.out]; exact hlt
      have hc0 := HCP.out g k P[k] (by simp [hkl])
      have hb0 := HB0.out g
      have HR := Lib.hid (rdday_any P[k] (by have := HPM.out P[k] (List.getElem_mem hkl); omega) g.val (HEW.out.gr g))
      have hdr : P.drop k = P[k] :: P.drop (k + 1) := List.drop_eq_getElem_cons hkl
      have HK2 : Hid ((allV rdDayV (P[k] :: P.drop (k + 1))).map (acc ++ ·) = q) := by show _ = _; rw [← hdr]; exact HK.out
      have HY : Hid ((rdDayV P[k]).2 = true → (allV rdDayV (P.drop (k + 1))).map ((acc ++ [(rdDayV P[k]).1]) ++ ·) = q) := fun h => by rw [← map_snoc, ← allV_yes h]; exact HK2.out
      have HNO : Hid ((rdDayV P[k]).2 = false → q = none) := fun h => by rw [← HK2.out, allV_no h]; rfl
      clear hdr HK HK2
      generalize rdDayV P[k] = v at *
      obtain ⟨⟨x1, x2⟩, ok⟩ := v
      generalize P[k] = p at *
      simp only at HR HY HNO
      cases ok with
      | false =>
        have E := Lib.hid (HNO.out rfl)
        clear HNO HY
        go_wp2_with (go_at_call 62; (with_reducible refine HR.out.mono ?_); rintro e w' ⟨rfl, hbb⟩; obtain ⟨g2, rfl⟩ := g.on hbb; clear hbb)
        go_ret2
        exact RetRow.no E.out ⟨rfl, BW.out.trans ((g2.ok.alloc g2.ok.size _).mono BW.out.size)⟩
      | true =>
        have E := Lib.hid (HY.out rfl)
        clear HNO HY
        go_upto_region 8 with (go_at_call 62; (with_reducible refine HR.out.mono ?_); rintro e w' ⟨rfl, hbb⟩; have HOW1 := Lib.hid (own_up HOW.out hbb); obtain ⟨g1, rfl⟩ := g.on hbb; clear hbb)
        obtain ⟨W2, hW2⟩ : ∃ W2, g1.val.alloc (.cells #[.int .i64 x1, .int .i64 x2] 36) = W2 := ⟨_, rfl⟩
        rw [hW2]
        have L0 : W2.cell? ⟨g1.val.heap.size, 0, none⟩ = some (.int .i64 x1) := by rw [← hW2]; exact box_at (w := g1.val) (t := 36) (C := #[.int .i64 x1, .int .i64 x2]) rfl ⟨_, Below.refl _ _⟩
        have L1 : W2.cell? ⟨g1.val.heap.size, 1, none⟩ = some (.int .i64 x2) := by rw [← hW2]; exact box_at (w := g1.val) (t := 36) (C := #[.int .i64 x1, .int .i64 x2]) rfl ⟨_, Below.refl _ _⟩
        have HOW2 : Hid (W2.ownsRow W.heap.size 36 2 _ _ _) := Lib.hid (own_up HOW1.out (w' := W2) (by rw [← hW2]; exact (Below.refl _ _).alloc (Nat.le_refl _) _))
        obtain ⟨g2, hg2⟩ := g1.on (w' := W2) (by rw [← hW2]; exact (Below.refl _ _).alloc (Nat.le_refl _) _)
        clear hW2
        subst hg2
        go_wp2_with (at_builtin; refine wpList_append_own _ rfl _ _ 23 rfl W.heap.size 36 i0 (.agg #[.int .i64 0, .int .i64 0]) 2 16 Tryz.underlying23 hi0 hz0 hz1 hz2 rfl (by decide) _ _ _ rfl (HOW2.out.alloc _) ⟨g2.val.heap.size, 0, none⟩ 1 1 [.int .i64 x1, .int .i64 x2] rfl rfl ?c1 ?c2 ?c3 ?c4 ?c5 ?_)
        case c1 =>
          intro j u hj
          match j, hj with
          | 0, hj => simp at hj; subst hj; simp [go_sem]
          | 1, hj => simp at hj; subst hj; simp [go_sem]
          | j + 2, hj => simp at hj
        case c2 => intro u hu; simp at hu; rcases hu with rfl | rfl <;> rfl
        case c3 => simp only [maxLen]; omega
        case c4 => omega
        case c5 => have := g2.ok.size; simp; omega
        intro v' w1 hown' hgrow _
        have HOW' : Hid (w1.ownsRow W.heap.size 36 2 v' (acc ++ [(x1, x2)]).length (sv (acc ++ [(x1, x2)]))) := by show World.ownsRow _ _ _ _ _ _ _; rw [List.length_append, HACC.out, sv_app]; exact hown'
        have HB' : Hid (Below W.heap.size W w1) := (g2.ok.alloc g2.ok.size _).grown hgrow (by have := g2.ok.size; simp; omega) (fun k hk => (HOW2.out.lt k hk).1)
        have HL' : Hid ((acc ++ [(x1, x2)]).length = k + 1) := by show _ = _; rw [List.length_append, HACC.out]; rfl
        clear hown' hgrow
        obtain ⟨g3, rfl⟩ := Gr.of HB'.out
        go_wp2
        go_roundw
        case rel => exact ⟨g3, k + 1, acc ++ [(x1, x2)], rfl, by omega, by go_num, HOW'.out, HL'.out, E⟩
        case measure => simp [intOf]; omega
    · obtain rfl : k = n := by omega
      have E : Hid (q = some acc) := by show _ = _; rw [← HK.out, List.drop_of_length_le (by rw [HN.out]; exact Nat.le_refl _)]; simp [allV]
      go_wp2
      go_ret2
      have hlt2 := HOW.out.lt
      obtain ⟨A', c', rfl, hsl⟩ := Sl.of_own HOW.out
      have hfr : ∀ a, A' = some a → w.heap.size ≤ a.block := fun a ha => by
        subst ha
        have := (hlt2 a.block rfl).1
        have := BW.out.size
        omega
      exact RetRow.yes E.out ⟨A', c', by rw [HACC.out]; rfl, by rw [HACC.out]; exact hsl, hfr, BW.out.trans (g.ok.mono BW.out.size)⟩
end Go.Proofs.YtbclfcghacedfaaGreatDoor
end
