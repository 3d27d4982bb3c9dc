/- Contract of the program's hours: a span joined to a row of the call's own. -/
import Derived.Test.YtkfmigpdmolmaaaHP1
import Derived.Test.YtkfmigpdmolmaaaSW4
import Derived.Test.YtkfmigpdmolmaaaOff
import Derived.Test.YtkfmigpdmolmaaaBlk
import Derived.Deep.Cut
namespace Go.Proofs.Ytkfmigpdmolmaaa
open Go.ChangeShapes Go.WideShapes Go.ChangeAt Go.RowKit Go.Joins Hr Zn Sp

/-- A row of one's own is handed back; nothing has turned but the block of the one that was handed in. -/
def RetJ (base : Nat) (v : Value) (l : List Spn) (w : World) (e : Ending) (w' : World) : Prop :=
  ∃ v', e = .returned v' ∧ w'.ownsRow base 30 2 v' l.length (sv l) ∧ (∀ b, v'.ownBlock = some b → v.ownBlock = some b ∨ w.heap.size ≤ b) ∧ Off (fun b => v.ownBlock = some b) w w'

set_option maxRecDepth 100000 in
set_option maxHeartbeats 2000000 in
theorem pjoin_new (l : List Spn) (s1 s2 : Int) (base : Nat) (v : Value) (w : World) (hown : w.ownsRow base 30 2 v l.length (sv l)) (hbase : base ≤ w.heap.size) (hlen : l.length ≤ 10000000) (hn : l = [] ∨ ∃ q t, l = q ++ [t] ∧ t.2 < s1) :
    Calls Try.prog 45 #[v, .agg #[.int .i64 s1, .int .i64 s2]] w (RetJ base v (l ++ [(s1, s2)]) w) := by
  obtain ⟨i0, hi0, hq0, hq1, hq2⟩ := info_parts span_info
  have hj := hown
  obtain ⟨Av, cv, rfl, hsl⟩ := Sl.of_own hown
  obtain ⟨F0, F1⟩ := Gr.lay2 w (.int .i64 s1) (.int .i64 s2) 30
  obtain ⟨W1, hW1⟩ : ∃ W1, w.alloc (.cells #[.int .i64 s1, .int .i64 s2] 30) = W1 := ⟨_, rfl⟩
  have hB : Below w.heap.size w W1 := by rw [← hW1]; exact (Below.refl _ _).alloc (Nat.le_refl _) _
  have hsz : W1.heap.size = w.heap.size + 1 := by rw [← hW1]; simp
  have HO : Hid (W1.ownsRow base 30 2 (.slice Av l.length cv) l.length (sv l)) := own_off hown (F := fun _ => False) (.of_below hB) (fun _ _ => id)
  have hblk : W1.heap[w.heap.size]? = some (.cells #[.int .i64 s1, .int .i64 s2] 30 (0, 0)) := by rw [← hW1]; exact heap_alloc_new _ _
  have k0 : ∀ G : Gr W1, G.val.cell? ⟨w.heap.size, 0, none⟩ = some (.int .i64 s1) := fun G => cell_old (blk_cell hblk rfl) G.ok
  have k1 : ∀ G : Gr W1, G.val.cell? ⟨w.heap.size, 1, none⟩ = some (.int .i64 s2) := fun G => cell_old (blk_cell hblk rfl) G.ok
  have E1 := Lib.hid hW1
  have HB := Lib.hid hB
  have hlz : (l.length : Int) ≤ 10000000 := by omega
  have hl0 : (0 : Int) ≤ l.length := by omega
  have p0 := k0 ⟨W1, Below.refl _ _⟩
  have p1 := k1 ⟨W1, Below.refl _ _⟩
  simp only at p0 p1
  have hBK := Lib.hid hblk
  have HK0 := Lib.hid k0
  have HK1 := Lib.hid k1
  have hends : ∀ (W2 : World), Below W1.heap.size W1 W2 → ∀ gg cap w5, w5.ownsRow base 30 2 (.slice (some ⟨gg, 0, none⟩) (l.length + 1) cap) (l.length + 1) (sv l ++ [.int .i64 s1, .int .i64 s2]) → W2.grownBy w5 (Value.slice Av l.length cv).ownBlock → ((Value.slice Av l.length cv).ownBlock = some gg ∨ gg = W2.heap.size) →
      RetJ base (.slice Av l.length cv) (l ++ [(s1, s2)]) w (.returned (.slice (some ⟨gg, 0, none⟩) (l.length + 1) cap)) w5 := by
    intro W2 hb2 gg cap w5 h1 h2 h3
    refine ⟨_, rfl, by rw [sv_app, List.length_append]; exact h1, fun b hb => ?_, ?_⟩
    · obtain rfl : gg = b := by simpa [Value.ownBlock] using hb
      rcases h3 with h3 | h3
      · exact .inl h3
      · exact .inr (by have := hb2.size; omega)
    · exact (Off.of_below (F := fun _ => False) (hB.trans (hb2.mono (by omega)))).mono (fun b _ hf => hf.elim) |>.trans (Off.of_grown h2 (F := fun b => (Value.slice Av l.length cv).ownBlock = some b) (fun k hk => hk)) (fun b hb => .inl hb)
  have HEND := Lib.hid hends
  have hpart : l = [] ∨ ∃ (k : Nat) (t1 t2 : Int) (gb : Nat), l.length = k + 1 ∧ Av = some ⟨gb, 0, none⟩ ∧ t2 < s1 ∧ ∀ G : Gr W1, G.val.cell? ⟨gb, k * 2 + 1, none⟩ = some (.int .i64 t2) := by
    rcases hn with rfl | ⟨q, ⟨t1, t2⟩, rfl, ht⟩
    · exact .inl rfl
    · right
      obtain ⟨g, cap, e, hg1, hg2⟩ := hown.form (by simp)
      simp only [Value.slice.injEq, true_and] at e
      obtain ⟨rfl, rfl⟩ := e
      have hat0 := sv_at (l := q ++ [(t1, t2)]) (i := q.length) (s := (t1, t2)) (by simp)
      have c4 : w.cell? ⟨g, q.length * 2 + 1, none⟩ = some (.int .i64 t2) := by have := hown.cells (g := g) rfl _ _ hat0.2; rw [add_plain, Nat.zero_add] at this; exact this
      exact ⟨q.length, t1, t2, g, by simp, rfl, ht, fun G => cell_old c4 (hB.trans (G.ok.mono hB.size))⟩
  clear hown hsl hW1 hB hblk k0 k1 F0 F1 hends hn hj
  have hmx : l.length + 1 ≤ maxLen := by unfold maxLen; omega
  have hby : (l.length + 1) * 24 ≤ 140737488355328 := by omega
  have hby2 : (l.length + 1) * 16 ≤ 140737488355328 := by omega
  rcases hpart with rfl | ⟨k, t1, t2, gb, hk, rfl, ht, hc⟩
  · clear hlz hl0
    go_enter Try.func45, Try.ntmps45
    go_upto_region 1 with fail
    rw [E1.out]
    go_wp2_with fail
    go_quiet (fail)
    obtain ⟨g2, hg2⟩ : ∃ G : Gr W1, W1.drewN nq = G.val := ⟨⟨_, drewN_below _ _⟩, rfl⟩
    rw [hg2]
    have HOW2 : Hid (g2.val.ownsRow base 30 2 (.slice Av 0 cv) 0 (sv [])) := own_off HO.out (F := fun _ => False) (.of_below g2.ok) (fun _ _ => id)
    have p0 := HK0.out g2
    have p1 := HK1.out g2
    have HGS := Lib.hid g2.size
    go_wp2_with (refine wpList_append_lies _ rfl _ _ _ (by rfl) base 30 i0 _ 2 16 Try.underlying34 hi0 hq0 hq1 hq2 rfl (by decide) (.slice Av 0 cv) 0 _ (by rfl) (own_off HOW2.out (F := fun _ => False) (.of_below ((Below.refl _ _).alloc (Nat.le_refl _) _)) (fun _ _ => id)) ⟨g2.val.heap.size, 0, none⟩ 1 1 [.int .i64 s1, .int .i64 s2] (by rfl) (by rfl) (World.news_of_block (cs := #[.int .i64 s1, .int .i64 s2]) (t := 30) (fr := (0, 0)) (heap_alloc_new _ _)) (by simp [Value.oneCell']) (Nat.lt_succ_self 0) hmx hby2 (by simp; have := HGS.out; omega) _ rfl ?_; intro gg cap2 w5 hown3 hgr3 hat3 hlt3)
    go_ret
    exact HEND.out _ (g2.ok.alloc g2.size _) gg cap2 w5 hown3 hgr3 hat3
  · obtain ⟨n, hn⟩ : ∃ n, l.length = n := ⟨_, rfl⟩
    rw [hn] at hk
    subst hk
    have hn2 : ∀ b c, Value.slice b l.length c = Value.slice b (k + 1) c := fun b c => by rw [hn]
    rw [hn] at HO HEND hmx hby2 hlz hl0 ⊢
    have hwk : IntKind.i64.wrap ((k : Int) + 1 - 1) = k := by rw [IntKind.wrap_i64]; omega
    have hkz : (k : Int) < k + 1 := by omega
    have hkz0 : (0 : Int) ≤ k := by omega
    have hk1 : ((k : Int) + 1 == 0) = false := by simp; omega
    have htb : decide (t2 < s1) = true := decide_eq_true ht
    have c2 := hc ⟨W1, Below.refl _ _⟩
    simp only at c2
    clear hn hn2
    go_enter Try.func45, Try.ntmps45
    go_upto_region 1 with fail
    rw [E1.out]
    go_wp2_with fail
    go_quiet (fail)
    obtain ⟨g2, hg2⟩ : ∃ G : Gr W1, W1.drewN nq = G.val := ⟨⟨_, drewN_below _ _⟩, rfl⟩
    rw [hg2]
    have HOW2 : Hid (g2.val.ownsRow base 30 2 (.slice (some ⟨gb, 0, none⟩) (k + 1) cv) (k + 1) (sv l)) := own_off HO.out (F := fun _ => False) (.of_below g2.ok) (fun _ _ => id)
    have p0 := HK0.out g2
    have p1 := HK1.out g2
    have HGS := Lib.hid g2.size
    go_wp2_with (refine wpList_append_lies _ rfl _ _ _ (by rfl) base 30 i0 _ 2 16 Try.underlying34 hi0 hq0 hq1 hq2 rfl (by decide) (.slice (some ⟨gb, 0, none⟩) (k + 1) cv) (k + 1) _ (by rfl) (own_off HOW2.out (F := fun _ => False) (.of_below ((Below.refl _ _).alloc (Nat.le_refl _) _)) (fun _ _ => id)) ⟨g2.val.heap.size, 0, none⟩ 1 1 [.int .i64 s1, .int .i64 s2] (by rfl) (by rfl) (World.news_of_block (cs := #[.int .i64 s1, .int .i64 s2]) (t := 30) (fr := (0, 0)) (heap_alloc_new _ _)) (by simp [Value.oneCell']) (Nat.lt_succ_self 0) hmx hby2 (by simp; have := HGS.out; omega) _ rfl ?_; intro gg cap2 w5 hown3 hgr3 hat3 hlt3)
    go_ret
    exact HEND.out _ (g2.ok.alloc g2.size _) gg cap2 w5 hown3 hgr3 hat3

set_option maxRecDepth 100000 in
set_option maxHeartbeats 2000000 in
theorem pjoin_ext (q : List Spn) (t1 t2 s1 s2 : Int) (base : Nat) (v : Value) (w : World) (hown : w.ownsRow base 30 2 v (q ++ [(t1, t2)]).length (sv (q ++ [(t1, t2)]))) (hlen : q.length ≤ 10000000) (ht : ¬ t2 < s1) :
    Calls Try.prog 45 #[v, .agg #[.int .i64 s1, .int .i64 s2]] w (RetJ base v (q ++ [(t1, max t2 s2)]) w) := by
  have hlq : (q ++ [(t1, t2)]).length = q.length + 1 := by simp
  rw [hlq] at hown
  obtain ⟨g, cv, rfl, hg1, hg2⟩ := hown.form (by omega)
  obtain ⟨k, hk⟩ : ∃ k, q.length = k := ⟨_, rfl⟩
  rw [hk] at hown hlen ⊢
  obtain ⟨cur, hblk0, hn1, hm1, hs1, htk, _⟩ := own_block hown
  have hat0 := sv_at (l := q ++ [(t1, t2)]) (i := q.length) (s := (t1, t2)) (by simp)
  rw [hk] at hat0
  have hc0 : w.cell? ⟨g, k * 2, none⟩ = some (.int .i64 t1) := by have := hown.cells (g := g) rfl _ _ hat0.1; rw [add_plain, Nat.zero_add] at this; exact this
  have hc1 : w.cell? ⟨g, k * 2 + 1, none⟩ = some (.int .i64 t2) := by have := hown.cells (g := g) rfl _ _ hat0.2; rw [add_plain, Nat.zero_add] at this; exact this
  obtain ⟨W1, hW1⟩ : ∃ W1, w.alloc (.cells #[.int .i64 s1, .int .i64 s2] 30) = W1 := ⟨_, rfl⟩
  have hB : Below w.heap.size w W1 := by rw [← hW1]; exact (Below.refl _ _).alloc (Nat.le_refl _) _
  have hblk : W1.heap[w.heap.size]? = some (.cells #[.int .i64 s1, .int .i64 s2] 30 (0, 0)) := by rw [← hW1]; exact heap_alloc_new _ _
  have hblk1 : ∀ G : Gr W1, G.val.heap[g]? = some (.cells cur 30 (0, 0)) := fun G => by
    have hgs : g < W1.heap.size := by have := hB.size; omega
    rw [G.ok.block g hgs, hB.block g hg2]; exact hblk0
  have k0 : ∀ G : Gr W1, G.val.cell? ⟨w.heap.size, 0, none⟩ = some (.int .i64 s1) ∧ G.val.cell? ⟨w.heap.size, 1, none⟩ = some (.int .i64 s2) ∧ G.val.cell? ⟨g, k * 2, none⟩ = some (.int .i64 t1) ∧ G.val.cell? ⟨g, k * 2 + 1, none⟩ = some (.int .i64 t2) ∧ ∀ i, G.val.frozen? ⟨g, i, none⟩ = false := fun G =>
    ⟨cell_old (blk_cell hblk rfl) G.ok, cell_old (blk_cell hblk rfl) G.ok, cell_old hc0 (hB.trans (G.ok.mono hB.size)), cell_old hc1 (hB.trans (G.ok.mono hB.size)), fun i => unfrozen_of_block (hblk1 G) i⟩
  have hkz : (k : Int) < k + 1 := by omega
  have hkz0 : (0 : Int) ≤ k := by omega
  have hlz : (k : Int) ≤ 10000000 := by omega
  have hw1 : IntKind.i64.wrap ((k : Int) + 1 - 1) = k := by rw [IntKind.wrap_i64]; omega
  have hk1 : ((k : Int) + 1 == 0) = false := by simp; omega
  have htb : decide (t2 < s1) = false := decide_eq_false ht
  have E1 := Lib.hid hW1
  have HB := Lib.hid hB
  have HK := Lib.hid k0
  have HBL := Lib.hid hblk1
  obtain ⟨mx, hmx⟩ : ∃ mx, max t2 s2 = mx := ⟨_, rfl⟩
  rw [hmx]
  have HM := Lib.hid hmx
  have HST : Hid (q.length = k) := hk
  have hset := own_last (y := mx) (q := q) (t1 := t1) (t2 := t2) (by rw [hk]; exact htk)
  have hset2 : (cur.setIfInBounds (k * 2 + 1) (.int .i64 mx)).toList.take ((k + 1) * 2) = sv (q ++ [(t1, mx)]) := by
    rw [hk] at hset
    rw [← hset]
    have : cur.setIfInBounds (k * 2) (.int .i64 t1) = cur := by
      have h1 : cur[k * 2]? = some (.int .i64 t1) := by
        have := hc0
        simpa [World.cell?, hblk0] using this
      obtain ⟨h2, h3⟩ := Array.getElem?_eq_some_iff.1 h1
      rw [← h3]; simp [Array.setIfInBounds, h2]
    rw [this]
  have HSET := Lib.hid hset2
  obtain ⟨p0, p1, p2, p3, p4⟩ := k0 ⟨W1, Below.refl _ _⟩
  simp only at p0 p1 p2 p3 p4
  have HG := Lib.hid hg2
  have HG1 := Lib.hid hg1
  have HN := Lib.hid (And.intro hn1 (And.intro hm1 hs1))
  clear hown hblk0 hW1 hB hblk hblk1 k0 hset hset2 htk hc0 hc1 hat0 hlq hg2 hg1 hn1 hm1 hs1 hmx hk hlen
  go_enter Try.func45, Try.ntmps45
  go_upto_region 1 with fail
  rw [E1.out]
  go_wp2_with fail
  go_quiet (fail)
  obtain ⟨g2, hg2⟩ : ∃ G : Gr W1, W1.drewN nq = G.val := ⟨⟨_, drewN_below _ _⟩, rfl⟩
  rw [hg2]
  clear p0 p1 p2 p3 p4
  obtain ⟨p0, p1, p2, p3, p4⟩ := HK.out g2
  go_wp2_with fail
  go_region
  go_wp2_with fail
  all_goals
    go_ret
    refine ⟨_, rfl, ?_, fun b hb => .inl hb, ?_⟩
    · have hb2 := HBL.out g2
      have e : (q ++ [(t1, mx)]).length = k + 1 := by rw [List.length_append, HST.out]; rfl
      have hmm := HM.out
      obtain rfl : mx = _ := (show mx = if s2 ≤ t2 then t2 else s2 by split <;> omega).trans (by first | exact if_pos (by assumption) | exact if_neg (by omega))
      rw [e]
      exact own_mk (by rw [sv_len, e]) HG1.out (block_setCell hb2 _) HN.out.1 HN.out.2.1 (by simpa using HN.out.2.2) HSET.out
    · exact Off.drew (Off.setCell (F := fun b => (Value.slice (some ⟨g, 0, none⟩) (k + 1) cv).ownBlock = some b) (Off.of_below (HB.out.trans (g2.ok.mono HB.out.size))) (.inl rfl) _)
theorem pjoin_any (l : List Spn) (s : Spn) (base : Nat) (v : Value) (w : World) (hown : w.ownsRow base 30 2 v l.length (sv l)) (hbase : base ≤ w.heap.size) (hlen : l.length ≤ 10000000) :
    Calls Try.prog 45 #[v, .agg #[.int .i64 s.1, .int .i64 s.2]] w (RetJ base v (jn l s) w) := by
  rcases List.eq_nil_or_concat l with rfl | ⟨q, t, rfl⟩
  · have := pjoin_new [] s.1 s.2 base v w hown hbase hlen (.inl rfl)
    rw [jn_nil]; exact this
  · rw [List.concat_eq_append] at *
    rw [jn_snoc]
    by_cases ht : t.2 < s.1
    · rw [if_pos ht]
      exact pjoin_new (q ++ [t]) s.1 s.2 base v w hown hbase hlen (.inr ⟨q, t, rfl, ht⟩)
    · rw [if_neg ht]
      exact pjoin_ext q t.1 t.2 s.1 s.2 base v w hown (by simp at hlen; omega) ht
end Go.Proofs.Ytkfmigpdmolmaaa
