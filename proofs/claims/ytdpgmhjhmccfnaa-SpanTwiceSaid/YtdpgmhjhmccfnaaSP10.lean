/- Contract of the program's rows of spans: a row grown. -/
import Derived.Test.YtdpgmhjhmccfnaaSP4
namespace Go.Proofs.Ytdpgmhjhmccfnaa
open Go.ChangeShapes Go.WideShapes Go.ChangeAt Go.RowKit Go.Joins Sp

theorem low_is {n a : Int} (hn : -9223372036854775808 ≤ n) : lowI n a = max n (-9223372036854775808 + max a 0) - max a 0 := by
  unfold lowI; split
  · split <;> omega
  · omega
theorem high_is {n b : Int} (hn : n ≤ 9223372036854775807) : highI n b = min n (9223372036854775807 - max b 0) + max b 0 := by
  unfold highI; split
  · split <;> omega
  · omega
/-- A span in the midst of a row is put anew. -/
theorem own_put {w : World} {base g cap n i : Nat} {P R : List Spn} {s : Spn} (hP : P.length = i) (h : w.ownsRow base 32 2 (.slice (some ⟨g, 0, none⟩) n cap) n (sv (P ++ s :: R))) (y1 y2 : Int) :
    ((w.setCell ⟨g, i * 2, none⟩ (.int .i64 y1)).setCell ⟨g, i * 2 + 1, none⟩ (.int .i64 y2)).ownsRow base 32 2 (.slice (some ⟨g, 0, none⟩) n cap) n (sv (P ++ (y1, y2) :: R)) := by
  have hx := h.1
  obtain ⟨cur, h1, h2, h3, h4, h5, h6⟩ := own_block h
  have hl : (sv P).length = i * 2 := by rw [sv_len, hP]
  have hn : n = i + 1 + R.length := by rw [sv_len] at hx; simp at hx; omega
  refine own_mk (by rw [sv_len]; simp; omega) h6 (block_setCell (block_setCell h1 _) _) h2 h3 (by simpa using h4) ?_
  rw [sv_app] at h5 ⊢
  apply List.ext_getElem?
  intro t
  have h5t := congrArg (fun l => l[t]?) h5
  simp only [List.getElem?_take, Array.getElem?_toList] at h5t ⊢
  rw [Array.getElem?_setIfInBounds, Array.getElem?_setIfInBounds]
  by_cases ht : t < n * 2
  · rw [if_pos ht] at h5t ⊢
    by_cases e1 : t = i * 2 + 1
    · subst e1
      rw [if_pos rfl, if_pos (by simp; omega), List.getElem?_append_right (by omega), hl]
      simp [sv]
    · rw [if_neg (by omega)]
      by_cases e0 : t = i * 2
      · subst e0
        rw [if_pos rfl, if_pos (by omega), List.getElem?_append_right (by omega), hl]
        simp [sv]
      · rw [if_neg (by omega), h5t]
        by_cases hq : t < i * 2
        · rw [List.getElem?_append_left (by omega), List.getElem?_append_left (by omega)]
        · rw [List.getElem?_append_right (by omega), List.getElem?_append_right (by omega), hl]
          obtain ⟨m, hm⟩ : ∃ m, t - i * 2 = m + 2 := ⟨t - i * 2 - 2, by omega⟩
          rw [hm]; simp [sv]
  · rw [if_neg ht, List.getElem?_eq_none (by simp [sv, sv_len, hl]; omega)]
/-- A row whose first spans are grown. -/
structure Gi (w w1 wr : World) (f : List Spn) (a b : Int) (i n cv : Nat) (Av : Option Addr) : Prop where
  bel : Below w.heap.size w wr
  len : f.length = n
  own : wr.ownsRow w.heap.size 32 2 (.slice Av n cv) n (sv ((f.take i).map (fun s => (lowI s.1 a, highI s.2 b)) ++ f.drop i))

set_option maxRecDepth 100000 in
set_option maxHeartbeats 4000000 in
theorem pgrow13_any (l : List Spn) (a b : Int) (A : Option Addr) (c : Nat) (w : World) (hl : l.length ≤ 100000) (hin : In64 l) (ha : Int64P a) (hb : Int64P b) (hs : Sl w A l.length c (sv l)) :
    Calls Try.prog 22 #[.slice A l.length c, .int .i64 a, .int .i64 b] w (RetS (growL l a b) w) := by
  have HF := Lib.hid (pform13_any l A c w (by omega) hs)
  have hnf := form_len l
  have hfin := hin.form
  have hgr : growL l a b = formL ((formL l).map fun s => (lowI s.1 a, highI s.2 b)) := rfl
  rw [hgr]
  generalize formL l = f at *
  have HIN := Lib.hid hfin
  obtain ⟨pa, hpa⟩ : ∃ pa, max a 0 = pa := ⟨_, rfl⟩
  obtain ⟨pb, hpb⟩ : ∃ pb, max b 0 = pb := ⟨_, rfl⟩
  unfold Int64P at ha hb
  have a1 : (if a < 0 then 0 else a) = pa := by rw [← hpa]; split <;> omega
  have a2 : (if a ≤ 0 then 0 else a) = pa := by rw [← hpa]; split <;> omega
  have a3 : (if 0 < a then a else 0) = pa := by rw [← hpa]; split <;> omega
  have a4 : (if 0 ≤ a then a else 0) = pa := by rw [← hpa]; split <;> omega
  have b1 : (if b < 0 then 0 else b) = pb := by rw [← hpb]; split <;> omega
  have b2 : (if b ≤ 0 then 0 else b) = pb := by rw [← hpb]; split <;> omega
  have b3 : (if 0 < b then b else 0) = pb := by rw [← hpb]; split <;> omega
  have b4 : (if 0 ≤ b then b else 0) = pb := by rw [← hpb]; split <;> omega
  have hp0 : 0 ≤ pa ∧ pa ≤ 9223372036854775807 := by omega
  have hp1 : 0 ≤ pb ∧ pb ≤ 9223372036854775807 := by omega
  have HLO : Hid (∀ n, -9223372036854775808 ≤ n → lowI n a = max n (-9223372036854775808 + pa) - pa) := fun n hn => by rw [low_is hn, hpa]
  have HHI : Hid (∀ n, n ≤ 9223372036854775807 → highI n b = min n (9223372036854775807 - pb) + pb) := fun n hn => by rw [high_is hn, hpb]
  have HP := Lib.hid (And.intro hp0 hp1)
  clear hs hin hfin hgr ha hb hp0 hp1
  go_enter Try.func22, Try.ntmps22
  go_upto_region 2 with fail
  clear a1 a2 a3 a4 b1 b2 b3 b4 hpa hpb
  go_wp2_with fail
  go_at_call 9
  refine HF.out.mono ?_
  rintro e w1 ⟨v1, rfl, hown1, hb1⟩
  obtain ⟨A1, c1, rfl, _⟩ := Sl.of_own hown1
  have HB1 := Lib.hid hb1
  have HO1 := Lib.hid hown1
  clear hown1 hb1 HF
  obtain ⟨n, hn⟩ : ∃ n, f.length = n := ⟨_, rfl⟩
  have HN := Lib.hid hn
  rw [hn] at HO1 hnf ⊢
  have hnz : (n : Int) ≤ 100000 := by omega
  clear hn
  go_wp2_with fail
  go_loopw [18] (fun s18 wr => ∃ (i : Nat), i ≤ n ∧ s18 = .int .i64 i ∧ Hid (Gi w w1 wr f a b i n c1 A1)) (fun s18 _ => n - (intOf s18).toNat)
  case atStart => exact ⟨0, Nat.zero_le _, rfl, ⟨HB1.out, HN.out, HO1.out⟩⟩
  case round =>
    obtain ⟨i, hi, rfl, HG⟩ := hrel
    by_cases hlt : i < n
    · have hiz : (i : Int) < n := by omega
      have hw1 : IntKind.i64.wrap ((i : Int) + 1) = i + 1 := by rw [IntKind.wrap_i64]; omega
      obtain ⟨⟨s1, s2⟩, hs⟩ : ∃ s, f[i]? = some s := ⟨_, List.getElem?_eq_getElem (by rw [HN.out]; exact hlt)⟩
      have hs64 := HIN.out _ (List.mem_of_getElem? hs)
      dsimp only at hs64
      obtain ⟨hi1, hi2⟩ := List.getElem?_eq_some_iff.1 hs
      have hdr : f.drop i = (s1, s2) :: f.drop (i + 1) := by rw [List.drop_eq_getElem_cons hi1, hi2]
      have hown := HG.out.own
      rw [hdr] at hown
      have hPl : ((f.take i).map fun s => (lowI s.1 a, highI s.2 b)).length = i := by rw [List.length_map, List.length_take]; omega
      have HTK : Hid ((f.take (i + 1)).map (fun s => (lowI s.1 a, highI s.2 b)) = (f.take i).map (fun s => (lowI s.1 a, highI s.2 b)) ++ [(lowI s1 a, highI s2 b)]) := by
        show _ = _
        rw [List.take_add_one, hs, List.map_append]; rfl
      obtain ⟨gb, cap, e, hg1, hg2⟩ := hown.form (by omega)
      simp only [Value.slice.injEq, true_and] at e
      obtain ⟨rfl, rfl⟩ := e
      obtain ⟨cur, hbl, _⟩ := own_block hown
      have hat := sv_at (l := (f.take i).map (fun s => (lowI s.1 a, highI s.2 b)) ++ (s1, s2) :: f.drop (i + 1)) (i := i) (s := (s1, s2)) (by rw [List.getElem?_append_right (by omega), hPl]; simp)
      have c0 : wr.cell? ⟨gb, i * 2, none⟩ = some (.int .i64 s1) := by have := hown.cells (g := gb) rfl _ _ hat.1; rw [add_plain, Nat.zero_add] at this; exact this
      have c1 : wr.cell? ⟨gb, i * 2 + 1, none⟩ = some (.int .i64 s2) := by have := hown.cells (g := gb) rfl _ _ hat.2; rw [add_plain, Nat.zero_add] at this; exact this
      obtain ⟨W1, hW1⟩ : ∃ W1, wr.alloc (.cells #[.int .i64 s1, .int .i64 s2] 32) = W1 := ⟨_, rfl⟩
      have hB : Below wr.heap.size wr W1 := by rw [← hW1]; exact (Below.refl _ _).alloc (Nat.le_refl _) _
      have hblk : W1.heap[wr.heap.size]? = some (.cells #[.int .i64 s1, .int .i64 s2] 32 (0, 0)) := by rw [← hW1]; exact heap_alloc_new _ _
      have hgb1 : W1.heap[gb]? = some (.cells cur 32 (0, 0)) := by rw [hB.block gb hg2]; exact hbl
      have k0 : W1.cell? ⟨wr.heap.size, 0, none⟩ = some (.int .i64 s1) := blk_cell hblk rfl
      have k1 : W1.cell? ⟨wr.heap.size, 1, none⟩ = some (.int .i64 s2) := blk_cell hblk rfl
      have d0 := cell_old c0 hB
      have d1 := cell_old c1 hB
      have hfz : ∀ t, W1.frozen? ⟨gb, t, none⟩ = false := fun t => unfrozen_of_block hgb1 t
      have HO := Lib.hid (own_off hown (F := fun _ => False) (.of_below hB) (fun _ _ => id))
      have HBB : Hid (Below w.heap.size w W1) := HG.out.bel.trans (hB.mono HG.out.bel.size)
      have E1 := Lib.hid hW1
      have HPL := Lib.hid hPl
      have hne : ¬ wr.heap.size = gb := by omega
      have hne2 : ¬ gb = wr.heap.size := by omega
      obtain ⟨q1, q2⟩ := HP.out
      obtain ⟨y1, hy1⟩ : ∃ y1, max s1 (-9223372036854775808 + pa) = y1 := ⟨_, rfl⟩
      obtain ⟨y2, hy2⟩ : ∃ y2, min s2 (9223372036854775807 - pb) = y2 := ⟨_, rfl⟩
      have HY : Hid (lowI s1 a = y1 - pa ∧ highI s2 b = y2 + pb) := ⟨by rw [HLO.out _ hs64.1.1, hy1], by rw [HHI.out _ hs64.2.2, hy2]⟩
      have v1 : IntKind.i64.wrap (-9223372036854775808 + pa) = -9223372036854775808 + pa := by rw [IntKind.wrap_i64]; omega
      have v2 : IntKind.i64.wrap (y1 - pa) = y1 - pa := by rw [IntKind.wrap_i64]; omega
      have v3 : IntKind.i64.wrap (9223372036854775807 - pb) = 9223372036854775807 - pb := by rw [IntKind.wrap_i64]; omega
      have v4 : IntKind.i64.wrap (y2 + pb) = y2 + pb := by rw [IntKind.wrap_i64]; omega
      have f1 : (if s1 < -9223372036854775808 + pa then -9223372036854775808 + pa else s1) = y1 := by rw [← hy1]; split <;> omega
      have f2 : (if s1 ≤ -9223372036854775808 + pa then -9223372036854775808 + pa else s1) = y1 := by rw [← hy1]; split <;> omega
      have f3 : (if -9223372036854775808 + pa < s1 then s1 else -9223372036854775808 + pa) = y1 := by rw [← hy1]; split <;> omega
      have f4 : (if -9223372036854775808 + pa ≤ s1 then s1 else -9223372036854775808 + pa) = y1 := by rw [← hy1]; split <;> omega
      have g1 : (if s2 < 9223372036854775807 - pb then s2 else 9223372036854775807 - pb) = y2 := by rw [← hy2]; split <;> omega
      have g2 : (if s2 ≤ 9223372036854775807 - pb then s2 else 9223372036854775807 - pb) = y2 := by rw [← hy2]; split <;> omega
      have g3 : (if 9223372036854775807 - pb < s2 then 9223372036854775807 - pb else s2) = y2 := by rw [← hy2]; split <;> omega
      have g4 : (if 9223372036854775807 - pb ≤ s2 then 9223372036854775807 - pb else s2) = y2 := by rw [← hy2]; split <;> omega
      have HG1 := Lib.hid hg1
      clear hs hs64 hi1 hi2 hdr hown hPl hbl hat hW1 hB hblk hgb1 q1 q2
      go_upto_region 6 with fail
      rw [E1.out]
      go_wp2_with fail
      go_roundw
      case rel =>
        have h1 := own_put (s := (s1, s2)) HPL.out HO.out (y1 - pa) (y2 + pb)
        exact ⟨i + 1, by omega, by go_num, ⟨(HBB.out.setCell HG1.out _).setCell HG1.out _, HN.out, by rw [HTK.out, HY.out.1, HY.out.2, List.append_assoc]; exact h1⟩⟩
      case measure => simp [intOf]; omega
    · obtain rfl : i = n := by omega
      have hiz : ¬ (i : Int) < i := by omega
      have hown := HG.out.own
      rw [← HN.out, List.take_length, List.drop_length, List.append_nil] at hown
      have hm : (f.map fun s => (lowI s.1 a, highI s.2 b)).length = i := by rw [List.length_map]; exact HN.out
      have hsl : Sl wr A1 (f.map fun s => (lowI s.1 a, highI s.2 b)).length c1 (sv (f.map fun s => (lowI s.1 a, highI s.2 b))) := by
        obtain ⟨A', c', e, h⟩ := Sl.of_own hown
        simp only [Value.slice.injEq, true_and] at e
        obtain ⟨rfl, rfl⟩ := e
        rw [List.length_map]; exact h
      have hcon := pform13_any _ A1 c1 wr (by rw [hm]; omega) hsl
      rw [hm] at hcon
      have HC := Lib.hid hcon
      have HBW := Lib.hid HG.out.bel
      clear hown hm hsl hcon
      go_wp2_with fail
      go_at_call 9
      refine HC.out.mono ?_
      rintro e w3 ⟨v3, rfl, hown3, hb3⟩
      obtain ⟨A3, c3, rfl, hsl3⟩ := Sl.of_own hown3
      have HS3 := Lib.hid hsl3
      have HB3 := Lib.hid (HBW.out.trans (hb3.mono HBW.out.size))
      clear hown3 hsl3 hb3 HC
      go_wp2_with fail
      go_ret
      exact ⟨_, _, rfl, HS3.out, HB3.out⟩
end Go.Proofs.Ytdpgmhjhmccfnaa
