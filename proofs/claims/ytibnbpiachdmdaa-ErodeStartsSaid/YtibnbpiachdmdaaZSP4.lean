import Derived.Test.YtibnbpiachdmdaaZNJ
import Derived.Test.YtibnbpiachdmdaaZNB
/- Contract of the program's rows of spans: a row in its form. -/
section
namespace Go.Proofs.Ytibnbpiachdmdaa
open Go.ChangeShapes Go.WideShapes Go.ChangeAt Go.RowKit Go.Joins Sp
/-- A row of one's own is handed back; nothing that lay there has turned. -/
def RetO (l : List Spn) (w : World) (e : Ending) (w' : World) : Prop := ∃ v, e = .returned v ∧ w'.ownsRow w.heap.size 26 2 v l.length (sv l) ∧ Below w.heap.size w w'
theorem RetO.s {l : List Spn} {w w' : World} {e : Ending} (h : RetO l w e w') : RetS l w e w' := by
  obtain ⟨v, rfl, ho, hb⟩ := h
  obtain ⟨A, c, rfl, hs⟩ := Sl.of_own ho
  exact ⟨A, c, rfl, hs, hb⟩
/-- A row that is joined, span by span, from sorted spans. -/
structure Jo (w3 wr : World) (T : List Spn) (i k cv : Nat) (Av : Option Addr) (q : List Spn) : Prop where
  eq : (T.take i).foldl jn [] = q
  len : q.length = k
  le : k ≤ i
  own : wr.ownsRow w3.heap.size 26 2 (.slice Av k cv) k (sv q)
/-- The end of a row's last span is put anew. -/
theorem own_to {w : World} {base g cap m : Nat} {q : List Spn} {t1 t2 : Int} (hm : q.length = m) (h : w.ownsRow base 26 2 (.slice (some ⟨g, 0, none⟩) (m + 1) cap) (m + 1) (sv (q ++ [(t1, t2)]))) (y : Int) :
    (w.setCell ⟨g, m * 2 + 1, none⟩ (.int .i64 y)).ownsRow base 26 2 (.slice (some ⟨g, 0, none⟩) (m + 1) cap) (m + 1) (sv (q ++ [(t1, y)])) := by
  obtain ⟨cur, h1, h2, h3, h4, h5, h6⟩ := own_block h
  have hl : (sv q).length = m * 2 := by rw [sv_len, hm]
  refine own_mk (by rw [sv_len]; simp; omega) h6 (block_setCell h1 _) h2 h3 (by simpa using h4) ?_
  rw [sv_app] at h5 ⊢
  apply List.ext_getElem?
  intro t
  have h5t := congrArg (fun l => l[t]?) h5
  simp only [List.getElem?_take, Array.getElem?_toList] at h5t ⊢
  rw [Array.getElem?_setIfInBounds]
  by_cases ht : t < (m + 1) * 2
  · rw [if_pos ht] at h5t ⊢
    by_cases e : t = m * 2 + 1
    · subst e
      rw [if_pos rfl, if_pos (by omega), List.getElem?_append_right (by omega), hl]
      simp [sv]
    · rw [if_neg (by omega), h5t]
      by_cases hq : t < m * 2
      · rw [List.getElem?_append_left (by omega), List.getElem?_append_left (by omega)]
      · obtain rfl : t = m * 2 := by omega
        rw [List.getElem?_append_right (by omega), List.getElem?_append_right (by omega), hl]
        simp [sv]
  · rw [if_neg ht, List.getElem?_eq_none (by simp [sv]; omega)]
set_option maxRecDepth 100000 in
set_option maxHeartbeats 4000000 in
theorem pform13_any (l : List Spn) (A : Option Addr) (c : Nat) (w : World) (hl : l.length ≤ 1000000) (hs : Sl w A l.length c (sv l)) :
    Calls Try.prog 19 #[.slice A l.length c] w (RetO (formL l) w) := by
  obtain ⟨i0, hi0, hq0, hq1, hq2⟩ := info_parts span_info
  have HC := Lib.hid (pclone13_any l A c hl w hs)
  clear hs
  go_enter Try.func19, Try.ntmps19
  go_wp2_with fail
  go_at_call 27
  refine HC.out.mono ?_
  rintro e w1 ⟨⟨v1, rfl, hown1⟩, hb1⟩
  have HD := Lib.hid (pdel13_any l w.heap.size v1 w1 hown1 hl)
  have hF1 : ∀ b, v1.ownBlock = some b → w.heap.size ≤ b := fun b hb => (hown1.lt b hb).1
  have HB1 := Lib.hid hb1
  have HF1 := Lib.hid hF1
  clear hown1 hF1 HC hb1
  go_wp2_with fail
  go_at_call 26
  refine HD.out.mono ?_
  rintro e w2 ⟨v2, rfl, hown2, hv2, hoff2⟩
  have hB2 : Below w.heap.size w w2 := HB1.out.trans (hoff2.toBelow HB1.out.size HF1.out)
  have hf1 : formL (l.filter fun s => !decide (s.2 ≤ s.1)) = formL l := formL_filter l fun s hs => by simp; omega
  have hf0 : ∀ s ∈ l.filter (fun s => !decide (s.2 ≤ s.1)), s.1 < s.2 := fun s hs => by
    have := (List.mem_filter.1 hs).2
    simp at this; omega
  have hfl : (l.filter fun s => !decide (s.2 ≤ s.1)).length ≤ 1000000 := Nat.le_trans (List.length_filter_le _ _) hl
  generalize (l.filter fun s => !decide (s.2 ≤ s.1)) = F at *
  have HSO := Lib.hid (sort13_any F w.heap.size v2 w2 hown2 hfl)
  have HB2 := Lib.hid hB2
  have HF2 : Hid (∀ b, v2.ownBlock = some b → w.heap.size ≤ b) := fun b hb => HF1.out b (hv2 b hb)
  have HFO := Lib.hid (And.intro hf1 (And.intro hf0 hfl))
  clear hown2 hv2 hoff2 hB2 hf1 hf0 hfl HD HB1 HF1
  go_wp2_with fail
  go_at_call 29
  refine HSO.out.mono ?_
  rintro e w3 ⟨rfl, ⟨T, hperm, hord, hown3⟩, hoff3⟩
  have hB3 : Below w.heap.size w w3 := HB2.out.trans (hoff3.toBelow HB2.out.size HF2.out)
  have hTl : F.length = T.length := hperm.length_eq.symm
  rw [hTl] at hown3
  obtain ⟨A3, c3, rfl, hsl3⟩ := Sl.of_own hown3
  have h0T : ∀ s ∈ T, s.1 < s.2 := fun s hs => HFO.out.2.1 s (hperm.mem_iff.1 hs)
  have hT : T.foldl jn [] = formL l := by rw [fold_is hord h0T, formL_perm hperm, HFO.out.1]
  have hTn : T.length ≤ 1000000 := by rw [← hTl]; exact HFO.out.2.2
  have HT := Lib.hid hT
  have HM := Lib.hid (fun k => fold_mid hord h0T k)
  have HS3 := Lib.hid hsl3
  have HB3 := Lib.hid hB3
  have hTz : (T.length : Int) ≤ 1000000 := by omega
  clear hown3 hoff3 hB3 hTl h0T hT HFO HSO HB2 HF2 hsl3 hord hperm
  go_wp2_with fail
  go_loopw [4, 15] (fun s4 s15 wr => ∃ (i k cv : Nat) (Av : Option Addr) (q : List Spn) (g : Gr w3), wr = g.val ∧ i ≤ T.length ∧ s15 = .int .i64 i ∧ s4 = .slice Av k cv ∧ Hid (Jo w3 g.val T i k cv Av q)) (fun _ s15 _ => T.length - (intOf s15).toNat)
  case atStart => exact ⟨0, 0, 0, none, [], ⟨w3, Below.refl _ _⟩, rfl, Nat.zero_le _, rfl, rfl, ⟨rfl, rfl, Nat.le_refl _, World.ownsRow_nil _ _ _ _⟩⟩
  case round =>
    obtain ⟨i, k, cv, Av, q, g, rfl, hi, rfl, rfl, HJ⟩ := hrel
    by_cases hlt : i < T.length
    · have hiz : (i : Int) < T.length := by omega
      have hw1 : IntKind.i64.wrap ((i : Int) + 1) = i + 1 := by rw [IntKind.wrap_i64]; omega
      obtain ⟨⟨s1, s2⟩, hs⟩ : ∃ s, T[i]? = some s := ⟨_, List.getElem?_eq_getElem hlt⟩
      obtain ⟨b3, off3, rfl, hbs, hcell⟩ := HS3.out.spanG hs
      obtain ⟨p1, p2⟩ := hcell g
      have HFT := Lib.hid (fold_take hs [])
      rw [HJ.out.eq] at HFT
      have hki := HJ.out.le
      have hkz : (k : Int) ≤ 1000000 := by omega
      have hk0z : (0 : Int) ≤ k := by omega
      obtain ⟨W1, hW1⟩ : ∃ W1, g.val.alloc (.cells #[.int .i64 s1, .int .i64 s2] 26) = W1 := ⟨_, rfl⟩
      have hB : Below g.val.heap.size g.val W1 := by rw [← hW1]; exact (Below.refl _ _).alloc (Nat.le_refl _) _
      have hblk : W1.heap[g.val.heap.size]? = some (.cells #[.int .i64 s1, .int .i64 s2] 26 (0, 0)) := by rw [← hW1]; exact heap_alloc_new _ _
      have HO : Hid (W1.ownsRow w3.heap.size 26 2 (.slice Av k cv) k (sv q)) := own_off HJ.out.own (F := fun _ => False) (.of_below hB) (fun _ _ => id)
      have k0 : ∀ G : Gr W1, G.val.cell? ⟨g.val.heap.size, 0, none⟩ = some (.int .i64 s1) ∧ G.val.cell? ⟨g.val.heap.size, 1, none⟩ = some (.int .i64 s2) := fun G => ⟨cell_old (blk_cell hblk rfl) G.ok, cell_old (blk_cell hblk rfl) G.ok⟩
      have HK0 := Lib.hid k0
      have E1 := Lib.hid hW1
      have HB := Lib.hid hB
      have hmx : k + 1 ≤ maxLen := by unfold maxLen; omega
      have hby : (k + 1) * 16 ≤ 140737488355328 := by omega
      have HLEN := Lib.hid HJ.out.len
      -- how the row ends
      have hways : (k = 0 ∧ q = []) ∨ ∃ (m : Nat) (q' : List Spn) (t1 t2 : Int) (gb : Nat), k = m + 1 ∧ Av = some ⟨gb, 0, none⟩ ∧ q = q' ++ [(t1, t2)] ∧ q'.length = m ∧ gb < W1.heap.size ∧ w3.heap.size ≤ gb ∧ (∀ G : Gr W1, G.val.cell? ⟨gb, m * 2 + 1, none⟩ = some (.int .i64 t2) ∧ G.val.cell? ⟨gb, m * 2, none⟩ = some (.int .i64 t1) ∧ ∀ t, G.val.frozen? ⟨gb, t, none⟩ = false) := by
        rcases List.eq_nil_or_concat q with rfl | ⟨q', ⟨t1, t2⟩, rfl⟩
        · exact .inl ⟨HLEN.out.symm, rfl⟩
        · right
          rw [List.concat_eq_append] at *
          have hkm : k = q'.length + 1 := by have := HLEN.out; simp at this; omega
          subst hkm
          have hown := HO.out
          obtain ⟨gb, cap, e, hg1, hg2⟩ := hown.form (by omega)
          simp only [Value.slice.injEq, true_and] at e
          obtain ⟨rfl, rfl⟩ := e
          have hat0 := sv_at (l := q' ++ [(t1, t2)]) (i := q'.length) (s := (t1, t2)) (by simp)
          have c3 : W1.cell? ⟨gb, q'.length * 2, none⟩ = some (.int .i64 t1) := by have := hown.cells (g := gb) rfl _ _ hat0.1; rw [add_plain, Nat.zero_add] at this; exact this
          have c4 : W1.cell? ⟨gb, q'.length * 2 + 1, none⟩ = some (.int .i64 t2) := by have := hown.cells (g := gb) rfl _ _ hat0.2; rw [add_plain, Nat.zero_add] at this; exact this
          obtain ⟨cur, hbl, _⟩ := own_block hown
          exact ⟨q'.length, q', t1, t2, gb, rfl, rfl, rfl, rfl, hg2, hg1, fun G => ⟨cell_old c4 G.ok, cell_old c3 G.ok, fun t => unfrozen_of_block (by rw [G.ok.block gb hg2]; exact hbl) t⟩⟩
      have HUP : Hid (∀ W2 : World, Below w3.heap.size g.val W2 → Below w3.heap.size w3 W2) := fun W2 h => g.ok.trans h
      clear hs hcell hW1 hB hblk k0
      rcases hways with ⟨rfl, rfl⟩ | ⟨m, q', t1, t2, gb, rfl, rfl, rfl, hm, hgb, hgw, hcel⟩
      · have hkz1 : ¬ (0 : Int) < ((0 : Nat) : Int) := by omega
        go_upto_region 7 with fail
        rw [E1.out]
        go_wp2_with fail
        go_quiet (fail)
        obtain ⟨g2, hg2⟩ : ∃ G : Gr W1, W1.drewN nq = G.val := ⟨⟨_, drewN_below _ _⟩, rfl⟩
        rw [hg2]
        have HOW2 : Hid (g2.val.ownsRow w3.heap.size 26 2 (.slice Av 0 cv) 0 (sv [])) := own_off HO.out (F := fun _ => False) (.of_below g2.ok) (fun _ _ => id)
        obtain ⟨k0, k1⟩ := HK0.out g2
        have HGS := Lib.hid g2.size
        go_wp2_with (refine wpList_append_lies _ rfl _ _ _ (by rfl) w3.heap.size 26 i0 _ 2 16 Try.underlying22 hi0 hq0 hq1 hq2 rfl (by decide) (.slice Av 0 cv) 0 _ (by rfl) (own_off HOW2.out (F := fun _ => False) (.of_below ((Below.refl _ _).alloc (Nat.le_refl _) _)) (fun _ _ => id)) ⟨g2.val.heap.size, 0, none⟩ 1 1 [.int .i64 s1, .int .i64 s2] (by rfl) (by rfl) (World.news_of_block (cs := #[.int .i64 s1, .int .i64 s2]) (t := 26) (fr := (0, 0)) (heap_alloc_new _ _)) (by simp [Value.oneCell']) (Nat.lt_succ_self 0) hmx hby (by simp; have := HGS.out; have := HB.out.size; have := g.size; omega) _ rfl ?_; intro gg cap2 w5 hown3 hgr3 hat3 hlt3)
        have hB5 : Below w3.heap.size w3 w5 := HUP.out w5 (((HB.out.mono g.size).trans ((g2.ok.mono (Nat.le_trans g.size HB.out.size)).alloc (Nat.le_trans g.size (Nat.le_trans HB.out.size g2.size)) _)).grown hgr3 (by simp; have := g2.size; have := HB.out.size; have := g.size; omega) (fun kk hk => (HOW2.out.lt kk hk).1))
        obtain ⟨g5, rfl⟩ := Gr.of hB5
        have HW5 := Lib.hid hown3
        clear hown3 hgr3 hat3 hB5
        go_wp2_with fail
        go_roundw
        case rel => exact ⟨i + 1, 0 + 1, cap2, some ⟨gg, 0, none⟩, [] ++ [(s1, s2)], g5, rfl, by omega, by go_num, rfl, ⟨by rw [HFT.out]; rfl, by simp, by omega, by rw [sv_app]; exact HW5.out⟩⟩
        case measure => simp [intOf]; omega
      · have HC2 := Lib.hid hcel
        obtain ⟨c3, c4, c5⟩ := hcel ⟨W1, Below.refl _ _⟩
        simp only at c3 c4 c5
        have hkz1 : (0 : Int) < (m : Int) + 1 := by omega
        have hkz2 : (0 : Int) ≤ (m : Int) := by omega
        have hkz3 : (m : Int) < (m : Int) + 1 := by omega
        have hwk : IntKind.i64.wrap ((m : Int) + 1 - 1) = m := by rw [IntKind.wrap_i64]; omega
        have hk1 : decide ((0 : Int) < (m : Int) + 1) = true := decide_eq_true hkz1
        by_cases ht : s1 ≤ t2
        · have htb : decide (s1 ≤ t2) = true := decide_eq_true ht
          obtain ⟨mx, hmx⟩ : ∃ mx, max t2 s2 = mx := ⟨_, rfl⟩
          have hx2 : (if t2 < s2 then s2 else t2) = mx := by rw [← hmx]; split <;> omega
          have hx3 : (if t2 ≤ s2 then s2 else t2) = mx := by rw [← hmx]; split <;> omega
          have hx4 : (if s2 < t2 then t2 else s2) = mx := by rw [← hmx]; split <;> omega
          have hx5 : (if s2 ≤ t2 then t2 else s2) = mx := by rw [← hmx]; split <;> omega
          have HMX := Lib.hid hmx
          obtain ⟨p0, p1'⟩ := HK0.out ⟨W1, Below.refl _ _⟩
          simp only at p0 p1'
          go_upto_region 7 with fail
          rw [E1.out]
          go_wp2_with fail
          go_quiet (fail)
          obtain ⟨g2, hg2⟩ : ∃ G : Gr W1, W1.drewN nq = G.val := ⟨⟨_, drewN_below _ _⟩, rfl⟩
          rw [hg2]
          clear c3 c4 c5 p0 p1'
          obtain ⟨c3, c4, c5⟩ := HC2.out g2
          obtain ⟨p0, p1'⟩ := HK0.out g2
          go_wp2_with fail
          go_region
          go_wp2_with fail
          go_roundw
          case rel =>
            have hb5 : Below w3.heap.size w3 ((g2.val.setCell ⟨gb, m * 2 + 1, none⟩ (.int .i64 mx)).drew) := HUP.out _ ((((HB.out.mono g.size).trans (g2.ok.mono (Nat.le_trans g.size HB.out.size))).setCell hgw _).drew)
            have ho5 := own_to hm (own_off HO.out (F := fun _ => False) (.of_below g2.ok) (fun _ _ => id)) mx
            exact ⟨i + 1, m + 1, cv, some ⟨gb, 0, none⟩, q' ++ [(t1, mx)], ⟨_, hb5⟩, rfl, by omega, by go_num, rfl, ⟨by rw [HFT.out, jn_snoc, if_neg (by simp; omega), HMX.out], by simp; omega, by omega, ho5⟩⟩
          case measure => simp [intOf]; omega
        · have htb : decide (s1 ≤ t2) = false := decide_eq_false ht
          obtain ⟨p0, p1'⟩ := HK0.out ⟨W1, Below.refl _ _⟩
          simp only at p0 p1'
          go_upto_region 7 with fail
          rw [E1.out]
          go_wp2_with fail
          go_quiet (fail)
          obtain ⟨g2, hg2⟩ : ∃ G : Gr W1, W1.drewN nq = G.val := ⟨⟨_, drewN_below _ _⟩, rfl⟩
          rw [hg2]
          have HOW2 : Hid (g2.val.ownsRow w3.heap.size 26 2 (.slice (some ⟨gb, 0, none⟩) (m + 1) cv) (m + 1) (sv (q' ++ [(t1, t2)]))) := own_off HO.out (F := fun _ => False) (.of_below g2.ok) (fun _ _ => id)
          obtain ⟨k0, k1⟩ := HK0.out g2
          have HGS := Lib.hid g2.size
          go_wp2_with (refine wpList_append_lies _ rfl _ _ _ (by rfl) w3.heap.size 26 i0 _ 2 16 Try.underlying22 hi0 hq0 hq1 hq2 rfl (by decide) (.slice (some ⟨gb, 0, none⟩) (m + 1) cv) (m + 1) _ (by rfl) (own_off HOW2.out (F := fun _ => False) (.of_below ((Below.refl _ _).alloc (Nat.le_refl _) _)) (fun _ _ => id)) ⟨g2.val.heap.size, 0, none⟩ 1 1 [.int .i64 s1, .int .i64 s2] (by rfl) (by rfl) (World.news_of_block (cs := #[.int .i64 s1, .int .i64 s2]) (t := 26) (fr := (0, 0)) (heap_alloc_new _ _)) (by simp [Value.oneCell']) (Nat.lt_succ_self 0) hmx hby (by simp; have := HGS.out; have := HB.out.size; have := g.size; omega) _ rfl ?_; intro gg cap2 w5 hown3 hgr3 hat3 hlt3)
          have hB5 : Below w3.heap.size w3 w5 := HUP.out w5 (((HB.out.mono g.size).trans ((g2.ok.mono (Nat.le_trans g.size HB.out.size)).alloc (Nat.le_trans g.size (Nat.le_trans HB.out.size g2.size)) _)).grown hgr3 (by simp; have := g2.size; have := HB.out.size; have := g.size; omega) (fun kk hk => (HOW2.out.lt kk hk).1))
          obtain ⟨g5, rfl⟩ := Gr.of hB5
          have HW5 := Lib.hid hown3
          clear hown3 hgr3 hat3 hB5
          go_wp2_with fail
          go_roundw
          case rel => exact ⟨i + 1, (m + 1) + 1, cap2, some ⟨gg, 0, none⟩, (q' ++ [(t1, t2)]) ++ [(s1, s2)], g5, rfl, by omega, by go_num, rfl, ⟨by rw [HFT.out]; rw [jn_snoc, if_pos (by simp; omega)], by simp; omega, by omega, by rw [sv_app]; exact HW5.out⟩⟩
          case measure => simp [intOf]; omega
    · obtain rfl : i = T.length := by omega
      have hz : ¬ (T.length : Int) < T.length := by omega
      have HE : Hid (q = formL l) := by
        show _ = _
        have := HJ.out.eq
        rw [List.take_length, HT.out] at this
        exact this.symm
      go_wp2_with fail
      go_ret
      have h1 := HJ.out.own
      have h2 := HJ.out.len
      rw [← HE.out]
      subst h2
      have h3 : g.val.ownsRow w.heap.size 26 2 (.slice Av q.length cv) q.length (sv q) := by
        refine ⟨h1.1, h1.2.imp id ?_⟩
        rintro ⟨gg, cap, cur, e1, e2, e3⟩
        exact ⟨gg, cap, cur, e1, Nat.le_trans HB3.out.size e2, e3⟩
      exact ⟨_, rfl, h3, HB3.out.trans (g.ok.mono HB3.out.size)⟩
end Go.Proofs.Ytibnbpiachdmdaa
end
