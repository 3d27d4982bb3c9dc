import Derived.Test.YtbclfcghacedfaaGreatDoorZGW8
import Derived.OwnWalk
/- Contracts of the program's rules: rows' texts. -/
section
namespace Go.Proofs.YtbclfcghacedfaaGreatDoor
open Go.ChangeShapes Go.WideShapes Go.ChangeAt Go.RowKit Qr Ck Sp

/-- Texts as cells. -/
def tv (l : List (List UInt8)) : List Value := l.map fun p => .string ⟨p.toArray⟩
theorem tv_len (l : List (List UInt8)) : (tv l).length = l.length := by simp [tv]
theorem tv_app (a b : List (List UInt8)) : tv (a ++ b) = tv a ++ tv b := by simp [tv]
theorem tv_at {l : List (List UInt8)} {i : Nat} {p : List UInt8} (h : l[i]? = some p) : (tv l)[i]? = some (.string ⟨p.toArray⟩) := by simp [tv, h]
theorem string_info : (Tryz.prog.info? 9).map (fun i => (i.zero, i.size, i.bytes)) = some (some (.string ByteArray.empty), 1, 16) := by kernel_rfl
theorem own_up {w w' : World} {base : Nat} {e : TypeId} {size : Nat} {v : Value} {n : Nat} {xs : List Value} (h : w.ownsRow base e size v n xs) (hb : Below w.heap.size w w') : w'.ownsRow base e size v n xs := by
  obtain ⟨hl, h | ⟨g, cap, cur, hv, hg, hc, r⟩⟩ := h
  · exact ⟨hl, .inl h⟩
  · refine ⟨hl, .inr ⟨g, cap, cur, hv, hg, ?_, r⟩⟩
    have : g < w.heap.size := by
      rcases Nat.lt_or_ge g w.heap.size with h | h
      · exact h
      · rw [Array.getElem?_eq_none h] at hc; cases hc
    rw [hb.block g this]; exact hc
/-- A row's text. -/
def rowT {α : Type} (nm : List UInt8) (f : α → List UInt8) (l : List α) : List UInt8 := if l.length = 0 then [] else nm ++ Lib.join (l.map f) [44]
theorem join_bd (l : List (List UInt8)) (k : Nat) (h : ∀ p ∈ l, p.length ≤ k) : (Lib.join l [44]).length ≤ (k + 1) * l.length := by
  cases l with
  | nil => simp [Lib.join_nil]
  | cons x r =>
    rw [Lib.join_cons]
    have hx := h x (by simp)
    have hr : (Lib.joinTail [44] r).length ≤ (k + 1) * r.length := by
      have hr2 : ∀ p ∈ r, p.length ≤ k := fun p hp => h p (by simp [hp])
      clear h hx
      induction r with
      | nil => simp [Lib.joinTail]
      | cons y t ih =>
        have a := ih (fun p hp => hr2 p (by simp [hp]))
        have b := hr2 y (by simp)
        have e : Lib.joinTail [44] (y :: t) = ([44] ++ y) ++ Lib.joinTail [44] t := by simp [Lib.joinTail]
        have e2 : (y :: t).length = t.length + 1 := rfl
        rw [e, List.length_append, List.length_append, e2, Nat.mul_add]
        show 1 + y.length + _ ≤ _
        omega
    have e2 : (x :: r).length = r.length + 1 := rfl
    rw [List.length_append, e2, Nat.mul_add]
    omega
theorem join_glue (x : List UInt8) (r : List (List UInt8)) : Lib.join (x :: r) [44] = x ++ r.flatMap fun q => 44 :: q := by
  rw [Lib.join_cons]
  unfold Lib.joinTail
  rw [List.flatMap_eq_foldl]
  rw [← List.flatMap_eq_foldl, List.flatMap]
  rfl

theorem joinR_any (l : List (List UInt8)) (A : Option Addr) (c : Nat) (w : World) (hn : 0 < l.length) (hl : l.length ≤ 1000000) (hb : ∀ p ∈ l, p.length ≤ 1000) (hs : Sl w A l.length c (tv l)) :
    Calls Tryz.prog 47 #[.slice A l.length c, .string ⟨#[44]⟩] w fun e w' => e = .returned (.string ⟨(Lib.join l [44]).toArray⟩) ∧ Below w.heap.size w w' := by
  obtain ⟨b, off, rfl, hlt, hc⟩ := hs.on (by rw [tv_len]; exact hn)
  have hmap : (l.map fun p => ByteArray.mk p.toArray).map (·.data.toList) = l := by rw [List.map_map]; exact (List.map_congr_left fun p _ => rfl).trans (List.map_id l)
  have hj := join_bd l 1000 hb
  have h := Tryz.strings_Join b off c (l.map fun p => ByteArray.mk p.toArray) ⟨#[44]⟩ w (fun j x hx => by
    obtain ⟨p, hp, rfl⟩ : ∃ p, l[j]? = some p ∧ ByteArray.mk p.toArray = x := by simpa using hx
    exact hc j _ (tv_at hp)) hlt (by simp; omega) (by simpa using hs.le) (by rw [hmap]; show (Lib.join l [44]).length ≤ _; omega)
  rw [hmap] at h
  simpa using h

set_option maxRecDepth 100000 in
set_option maxHeartbeats 2000000 in
theorem rowText_int (nm : List UInt8) (l : List Int) (A : Option Addr) (c : Nat) (w : World) (hnm : nm.length ≤ 100) (hl : l.length ≤ 1000) (hb : ∀ x ∈ l, -1000000 ≤ x ∧ x ≤ 1000000) (hs : Sl w A l.length c (iv l)) (hE : Env w) :
    Calls Tryz.prog 18 #[.string ⟨nm.toArray⟩, .slice A l.length c, .func (.func 16) #[] #[]] w fun e w' => e = .returned (.string ⟨(rowT nm decI l).toArray⟩) ∧ Below w.heap.size w w' := by
  obtain ⟨r, hr⟩ : ∃ r, rowT nm decI l = r := ⟨_, rfl⟩
  rw [hr]
  have HR := Lib.hid hr
  clear hr
  obtain ⟨i0, hi0, hz0, hz1, hz2⟩ := info_parts string_info
  have HS := Lib.hid hs
  have HE := Lib.hid hE
  have HB := Lib.hid hb
  clear hs hE hb
  obtain ⟨n, hn⟩ : ∃ n, l.length = n := ⟨_, rfl⟩
  have HN := Lib.hid hn
  rw [hn] at HS hl ⊢
  clear hn
  by_cases h0 : n = 0
  · have E : Hid (r = []) := by show _ = _; rw [← HR.out]; unfold rowT; rw [if_pos (by rw [HN.out]; exact h0)]
    have Z : Hid (Below w.heap.size w w) := Below.refl _ _
    subst h0
    go_enter Tryz.func18, Tryz.ntmps18
    go_wp2
    go_ret
    exact ⟨by rw [E.out]; rfl, Z.out⟩
  · have h0a : ((n : Int) == 0) = false := by simpa using h0
    have h0b : (n == 0) = false := by simpa using h0
    have h0c : 0 < n := by omega
    have JB : Hid (∀ p ∈ l.map decI, p.length ≤ 1000) := fun p hp => by
      obtain ⟨x, hx, rfl⟩ := List.mem_map.1 hp
      have := decI_len (HB.out x hx).1 (HB.out x hx).2; omega
    have JL : (Lib.join (l.map decI) [44]).length ≤ 10000 := by
      have := join_bd (l.map decI) 8 (fun p hp => by
        obtain ⟨x, hx, rfl⟩ := List.mem_map.1 hp
        exact decI_len (HB.out x hx).1 (HB.out x hx).2)
      rw [List.length_map, HN.out] at this; omega
    have E : Hid (r = nm ++ Lib.join (l.map decI) [44]) := by show _ = _; rw [← HR.out]; unfold rowT; rw [if_neg (by rw [HN.out]; exact h0)]
    clear h0
    go_enter Tryz.func18, Tryz.ntmps18
    go_wp2
    go_loopw [7, 15] (fun s7 s15 wr => ∃ k : Nat, k ≤ n ∧ s15 = .int .i64 k ∧ wr.ownsRow w.heap.size 9 1 s7 k (tv ((l.map decI).take k)) ∧ Below w.heap.size w wr) (fun _ s15 _ => n - (intOf s15).toNat)
    case atStart => exact ⟨0, Nat.zero_le _, rfl, World.ownsRow_nil _ _ _ _, Below.refl _ _⟩
    case round =>
      obtain ⟨k, hk, rfl, hown, hBw⟩ := hrel
      have HOW := Lib.hid hown
      have HBw := Lib.hid hBw
      obtain ⟨g, rfl⟩ := Gr.of hBw
      clear hown hBw
      by_cases hlt : k < n
      · have hkl : k < l.length := by rw [HN.out]; exact hlt
        obtain ⟨b, off, rfl, hbb, hcell⟩ := HS.out.intG (l := l) (i := k) (x := l[k]) (by simp [hkl])
        have hc0 := hcell g
        clear hcell
        have hbd := HB.out l[k] (List.getElem_mem hkl)
        have HI := Lib.hid (itoaI_any l[k] hbd g.val (HE.out.gr g))
        have HT : Hid (tv ((l.map decI).take (k + 1)) = tv ((l.map decI).take k) ++ [.string ⟨(decI l[k]).toArray⟩]) := by show _ = _; rw [List.take_succ_eq_append_getElem (by simpa using hkl), tv_app, List.getElem_map]; rfl
        clear hbd
        generalize decI l[k] = t at *
        generalize l[k] = x at *
        go_upto_region 7 with fail
        go_wp2_with (first
          | (go_at_call 16; (with_reducible refine HI.out.mono ?_); rintro e w' ⟨rfl, hb⟩; have HOW2 := Lib.hid (own_up HOW.out hb); obtain ⟨g2, rfl⟩ := g.on hb; clear hb)
          | (at_builtin; refine wpList_append_own _ rfl _ _ 56 rfl w.heap.size 9 i0 (.string ByteArray.empty) 1 16 Tryz.underlying56 hi0 hz0 hz1 hz2 rfl (by decide) _ _ _ rfl (HOW2.out.alloc _) ⟨g2.val.heap.size, 0, none⟩ 1 1 [.string ⟨t.toArray⟩] rfl rfl ?c1 ?c2 ?c3 ?c4 ?c5 ?_))
        case c1 =>
          intro j u hj
          cases j with
          | zero => simp at hj; subst hj; simp [go_sem]
          | succ j => simp at hj
        case c2 => intro u hu; simp at hu; subst hu; rfl
        case c3 => simp only [maxLen]; omega
        case c4 => omega
        case c5 => have := g2.ok.size; simp; omega
        intro v' w1 hown' hgrow _
        have HOW' : Hid (w1.ownsRow w.heap.size 9 1 v' (k + 1) (tv ((l.map decI).take (k + 1)))) := by show World.ownsRow _ _ _ _ _ _ _; rw [HT.out]; exact hown'
        have HB' : Hid (Below w.heap.size w w1) := (g2.ok.alloc g2.ok.size _).grown hgrow (by have := g2.ok.size; simp; omega) (fun k hk => (HOW2.out.lt k hk).1)
        clear hown' hgrow
        go_wp2
        go_roundw
        case rel => exact ⟨k + 1, by omega, by go_num, HOW'.out, HB'.out⟩
        case measure => simp [intOf]; omega
      · obtain rfl : k = n := by omega
        have HTK : Hid (tv ((l.map decI).take k) = tv (l.map decI)) := by show _ = _; rw [List.take_of_length_le (by rw [List.length_map, HN.out]; exact Nat.le_refl _)]
        obtain ⟨A', c', rfl, hsl⟩ := Sl.of_own HOW.out
        have HJ := Lib.hid (joinR_any (l.map decI) A' c' g.val (by rw [List.length_map, HN.out]; exact h0c) (by rw [List.length_map, HN.out]; omega) JB.out (by rw [List.length_map, HN.out, ← HTK.out]; exact hsl))
        rw [List.length_map, HN.out] at HJ
        clear hsl
        generalize Lib.join (l.map decI) [44] = jt at *
        go_wp2_with (go_at_call 47; (with_reducible refine HJ.out.mono ?_); rintro e w' ⟨rfl, hb⟩; obtain ⟨g2, rfl⟩ := g.on hb; clear hb)
        go_ret
        exact ⟨by rw [E.out]; exact congrArg (fun x => Ending.returned (Value.string x)) (ByteArray.mk_append_mk nm jt), g2.ok⟩
theorem oneD_len {d : Int × Int} (h : 0 ≤ d.2 ∧ d.2 ≤ 6 ∧ -5 ≤ d.1 ∧ d.1 ≤ 5) : (oneD d).length ≤ 10 := by
  unfold oneD
  have a := dayName_len d.2.toNat
  split
  · simp; omega
  · have b := decI_len (n := d.1) (by omega) (by omega)
    rw [List.length_append]; omega

set_option maxRecDepth 100000 in
set_option maxHeartbeats 2000000 in
theorem rowText_days (nm : List UInt8) (l : List (Int × Int)) (A : Option Addr) (c : Nat) (w : World) (hnm : nm.length ≤ 100) (hl : l.length ≤ 1000) (hb : ∀ d ∈ l, 0 ≤ d.2 ∧ d.2 ≤ 6 ∧ -5 ≤ d.1 ∧ d.1 ≤ 5) (hs : Sl w A l.length c (sv l)) (hE : Env9 w) :
    Calls Tryz.prog 19 #[.string ⟨nm.toArray⟩, .slice A l.length c, .func (.func 20) #[] #[]] w fun e w' => e = .returned (.string ⟨(rowT nm oneD l).toArray⟩) ∧ Below w.heap.size w w' := by
  obtain ⟨r, hr⟩ : ∃ r, rowT nm oneD l = r := ⟨_, rfl⟩
  rw [hr]
  have HR := Lib.hid hr
  clear hr
  obtain ⟨i0, hi0, hz0, hz1, hz2⟩ := info_parts string_info
  have HS := Lib.hid hs
  have HE := Lib.hid hE
  have HB := Lib.hid hb
  clear hs hE hb
  obtain ⟨n, hn⟩ : ∃ n, l.length = n := ⟨_, rfl⟩
  have HN := Lib.hid hn
  rw [hn] at HS hl ⊢
  clear hn
  by_cases h0 : n = 0
  · have E : Hid (r = []) := by show _ = _; rw [← HR.out]; unfold rowT; rw [if_pos (by rw [HN.out]; exact h0)]
    have Z : Hid (Below w.heap.size w w) := Below.refl _ _
    subst h0
    go_enter Tryz.func19, Tryz.ntmps19
    go_wp2
    go_ret
    exact ⟨by rw [E.out]; rfl, Z.out⟩
  · have h0a : ((n : Int) == 0) = false := by simpa using h0
    have h0b : (n == 0) = false := by simpa using h0
    have h0c : 0 < n := by omega
    have JB : Hid (∀ p ∈ l.map oneD, p.length ≤ 1000) := fun p hp => by
      obtain ⟨x, hx, rfl⟩ := List.mem_map.1 hp
      have := oneD_len (HB.out x hx); omega
    have JL : (Lib.join (l.map oneD) [44]).length ≤ 12000 := by
      have := join_bd (l.map oneD) 10 (fun p hp => by
        obtain ⟨x, hx, rfl⟩ := List.mem_map.1 hp
        exact oneD_len (HB.out x hx))
      rw [List.length_map, HN.out] at this; omega
    have E : Hid (r = nm ++ Lib.join (l.map oneD) [44]) := by show _ = _; rw [← HR.out]; unfold rowT; rw [if_neg (by rw [HN.out]; exact h0)]
    clear h0
    go_enter Tryz.func19, Tryz.ntmps19
    go_wp2
    go_loopw [7, 15] (fun s7 s15 wr => ∃ k : Nat, k ≤ n ∧ s15 = .int .i64 k ∧ wr.ownsRow w.heap.size 9 1 s7 k (tv ((l.map oneD).take k)) ∧ Below w.heap.size w wr) (fun _ s15 _ => n - (intOf s15).toNat)
    case atStart => exact ⟨0, Nat.zero_le _, rfl, World.ownsRow_nil _ _ _ _, Below.refl _ _⟩
    case round =>
      obtain ⟨k, hk, rfl, hown, hBw⟩ := hrel
      have HOW := Lib.hid hown
      have HBw := Lib.hid hBw
      obtain ⟨g, rfl⟩ := Gr.of hBw
      clear hown hBw
      by_cases hlt : k < n
      · have hkl : k < l.length := by rw [HN.out]; exact hlt
        obtain ⟨b, off, rfl, hbb, hcell⟩ := HS.out.spanG (l := l) (i := k) (s := l[k]) (by simp [hkl])
        have hc0 := (hcell g).1
        have hc1 := (hcell g).2
        clear hcell
        have hbd := HB.out l[k] (List.getElem_mem hkl)
        obtain ⟨W, hW⟩ : ∃ W, g.val.alloc (.cells #[.int .i64 l[k].1, .int .i64 l[k].2] 36) = W := ⟨_, rfl⟩
        have HW := Lib.hid hW
        have BW : Hid (Below g.val.heap.size g.val W) := by show Below _ _ _; rw [← hW]; exact (Below.refl _ _).alloc (Nat.le_refl _) _
        have L0 : W.cell? ⟨g.val.heap.size, 0, none⟩ = some (.int .i64 l[k].1) := by rw [← hW]; exact box_at (w := g.val) (t := 36) (C := #[.int .i64 l[k].1, .int .i64 l[k].2]) rfl ⟨_, Below.refl _ _⟩
        have L1 : W.cell? ⟨g.val.heap.size, 1, none⟩ = some (.int .i64 l[k].2) := by rw [← hW]; exact box_at (w := g.val) (t := 36) (C := #[.int .i64 l[k].1, .int .i64 l[k].2]) rfl ⟨_, Below.refl _ _⟩
        have HI := Lib.hid (dayText_any l[k] hbd W ((HE.out.gr g).below BW.out))
        have HT : Hid (tv ((l.map oneD).take (k + 1)) = tv ((l.map oneD).take k) ++ [.string ⟨(oneD l[k]).toArray⟩]) := by show _ = _; rw [List.take_succ_eq_append_getElem (by simpa using hkl), tv_app, List.getElem_map]; rfl
        clear hbd hW
        generalize oneD l[k] = t at *
        generalize l[k] = x at *
        obtain ⟨x1, x2⟩ := x
        simp only at hc0 hc1 L0 L1 HW HI
        go_upto_region 7 with fail
        rw [HW.out]
        have HOWW := Lib.hid (own_up HOW.out BW.out)
        go_wp2_with (first
          | (go_at_call 20; (with_reducible refine HI.out.mono ?_); rintro e w' ⟨rfl, hb⟩; have HOW2 := Lib.hid (own_up HOWW.out hb); obtain ⟨g2, rfl⟩ := g.on ((BW.out.mono (Nat.le_refl _)).trans (hb.mono BW.out.size)); clear hb)
          | (at_builtin; refine wpList_append_own _ rfl _ _ 56 rfl w.heap.size 9 i0 (.string ByteArray.empty) 1 16 Tryz.underlying56 hi0 hz0 hz1 hz2 rfl (by decide) _ _ _ rfl (HOW2.out.alloc _) ⟨g2.val.heap.size, 0, none⟩ 1 1 [.string ⟨t.toArray⟩] rfl rfl ?c1 ?c2 ?c3 ?c4 ?c5 ?_))
        case c1 =>
          intro j u hj
          cases j with
          | zero => simp at hj; subst hj; simp [go_sem]
          | succ j => simp at hj
        case c2 => intro u hu; simp at hu; subst hu; rfl
        case c3 => simp only [maxLen]; omega
        case c4 => omega
        case c5 => have := g2.ok.size; simp; omega
        intro v' w1 hown' hgrow _
        have HOW' : Hid (w1.ownsRow w.heap.size 9 1 v' (k + 1) (tv ((l.map oneD).take (k + 1)))) := by show World.ownsRow _ _ _ _ _ _ _; rw [HT.out]; exact hown'
        have HB' : Hid (Below w.heap.size w w1) := (g2.ok.alloc g2.ok.size _).grown hgrow (by have := g2.ok.size; simp; omega) (fun k hk => (HOW2.out.lt k hk).1)
        clear hown' hgrow
        go_wp2
        go_roundw
        case rel => exact ⟨k + 1, by omega, by go_num, HOW'.out, HB'.out⟩
        case measure => simp [intOf]; omega
      · obtain rfl : k = n := by omega
        have HTK : Hid (tv ((l.map oneD).take k) = tv (l.map oneD)) := by show _ = _; rw [List.take_of_length_le (by rw [List.length_map, HN.out]; exact Nat.le_refl _)]
        obtain ⟨A', c', rfl, hsl⟩ := Sl.of_own HOW.out
        have HJ := Lib.hid (joinR_any (l.map oneD) A' c' g.val (by rw [List.length_map, HN.out]; exact h0c) (by rw [List.length_map, HN.out]; omega) JB.out (by rw [List.length_map, HN.out, ← HTK.out]; exact hsl))
        rw [List.length_map, HN.out] at HJ
        clear hsl
        generalize Lib.join (l.map oneD) [44] = jt at *
        go_wp2_with (go_at_call 47; (with_reducible refine HJ.out.mono ?_); rintro e w' ⟨rfl, hb⟩; obtain ⟨g2, rfl⟩ := g.on hb; clear hb)
        go_ret
        exact ⟨by rw [E.out]; exact congrArg (fun x => Ending.returned (Value.string x)) (ByteArray.mk_append_mk nm jt), g2.ok⟩
end Go.Proofs.YtbclfcghacedfaaGreatDoor
end
