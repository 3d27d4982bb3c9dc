/- Contracts of the program's rows of spans: a copy of a row; spans left out of a row of one's own. -/
import Derived.Test.YtdpgmhjhmccfnaaSP1
import Derived.Test.YtdpgmhjhmccfnaaBlk
import Derived.Test.YtdpgmhjhmccfnaaOff
import Derived.Deep.Cut
import Derived.Lib.SliceRun
namespace Go.Proofs.Ytdpgmhjhmccfnaa
open Go.ChangeShapes Go.WideShapes Go.ChangeAt Go.RowKit Go.Joins Sp

set_option maxHeartbeats 1000000 in
theorem pclone13_any (l : List Spn) (A : Option Addr) (c : Nat) (hl : l.length ≤ 1000000) (w : World) (hs : Sl w A l.length c (sv l)) :
    Calls Try.prog 24 #[.slice A l.length c] w fun e w' => (∃ v, e = .returned v ∧ w'.ownsRow w.heap.size 32 2 v l.length (sv l)) ∧ Below w.heap.size w w' := by
  have hnil : ∀ (w' : World) (A' : Option Addr) (n' c' : Nat), (binOp .eql 22 (.slice A' n' c') (.slice none 0 0)).run Try.prog w' = .ok (.bool A'.isNone) w' := fun w' A' n' c' => Lib.run_eql_slice_nil w' 22 32 A' n' c' 0 0 Try.underlying22
  cases A with
  | none =>
    have h0 : l = [] := List.eq_nil_of_length_eq_zero (by have := hs.nil rfl; have := hs.le; omega)
    subst h0
    go_enter Try.func24, Try.ntmps24
    go_wp2
    go_ret
    exact ⟨⟨_, rfl, rfl, .inl ⟨rfl, rfl⟩⟩, Below.refl _ _⟩
  | some a =>
    have H := Lib.hid hs
    clear hs
    obtain ⟨i0, hi0, hq0, hq1, hq2⟩ := info_parts span_info
    have h1 := Lib.hid (sv_one (l := l))
    have hmx : 0 + l.length ≤ maxLen := by unfold maxLen; omega
    go_enter Try.func24, Try.ntmps24
    go_wp2_with (refine wpList_append_sl rfl _ _ _ (by rfl) w.heap.size 32 i0 _ 2 16 Try.underlying22 hi0 hq0 hq1 hq2 rfl (by decide) (.slice (some ⟨w.heap.size, 0, none⟩) 0 0) 0 [] (by rfl) (World.ownsRow_made (base := w.heap.size) w #[] 0 (Nat.le_refl _) (by decide) rfl) (some a) l.length c (sv l) (by rfl) (H.out.alloc _) (sv_len l) h1.out hmx (by omega) (by simp) ?_; intro v' w' hown hgr)
    rw [Nat.zero_add] at hown
    go_ret
    refine ⟨⟨_, rfl, by simpa using hown⟩, ?_⟩
    exact ⟨hgr.os, hgr.tape, hgr.output, by have := hgr.size; simp at this; omega, fun k hk => by rw [hgr.block k (by simp; omega) (by simp [Value.ownBlock]; omega)]; exact Below.heap_alloc _ _ _ hk⟩

/-- Cells of a block put anew: what stands ahead of them stays. -/
theorem set_cells {g : Nat} {t : TypeId} : ∀ (vs : List Value) (o : Nat) (cur : Array Value) (w : World), w.heap[g]? = some (.cells cur t (0, 0)) →
    ∃ cur', (w.setCells g o vs).heap[g]? = some (.cells cur' t (0, 0)) ∧ cur'.size = cur.size ∧ (∀ k, k < o → cur'[k]? = cur[k]?) ∧ Off (fun b => b = g) w (w.setCells g o vs)
  | [], o, cur, w, h => ⟨cur, h, rfl, fun _ _ => rfl, Off.refl _ _⟩
  | v :: vs, o, cur, w, h => by
    obtain ⟨cur', h1, h2, h3, h4⟩ := set_cells vs (o + 1) _ (w.setCell ⟨g, o, none⟩ v) (block_setCell h v)
    refine ⟨cur', h1, by rw [h2]; simp, fun k hk => ?_, ?_⟩
    · rw [h3 k (by omega)]
      simp [show o ≠ k by omega]
    · exact ((Off.refl (fun b => b = g) w).setCell (.inl rfl) v).trans' h4
theorem clear13 (w : World) (g o n c : Nat) (cur : Array Value) (t : TypeId) (h : w.heap[g]? = some (.cells cur t (0, 0))) (hn : 0 < n) (ho : o + n * 2 ≤ cur.size) :
    ∃ vs, ∀ ty, (Builtin.clear_ #[22] ty #[.slice (some ⟨g, o, none⟩) n c]).run Try.prog w = .ok (.tuple #[]) (w.setCells g o vs) := by
  have hl : (Builtin.zeroCells #[.int .i64 0, .int .i64 0] n).toList.length = n * 2 := by simp [Builtin.zeroCells]
  have h1 : ∀ v ∈ (Builtin.zeroCells #[.int .i64 0, .int .i64 0] n).toList, v.oneCell' = true := by
    intro v hv
    simp only [Builtin.zeroCells, Array.toList_map, List.mem_map] at hv
    obtain ⟨i, _, rfl⟩ := hv
    have : i % 2 = 0 ∨ i % 2 = 1 := by omega
    rcases this with e | e <;> simp [e] <;> rfl
  have hst := run_storeCells_cells (P := Try.prog) g o (Builtin.zeroCells #[.int .i64 0, .int .i64 0] n).toList 0 w (fun j hj => by
      rw [hl] at hj
      simp only [World.cell?, h]
      simp; omega) (fun j _ => blk_free h _) h1
  simp only [Nat.add_zero] at hst
  refine ⟨(Builtin.zeroCells #[.int .i64 0, .int .i64 0] n).toList, fun ty => ?_⟩
  obtain ⟨m, rfl⟩ : ∃ m, n = m + 1 := ⟨n - 1, by omega⟩
  simp [Builtin.clear_, run_underlying Try.underlying22, Value.cells, hst]

theorem sv_take13 (l : List Spn) {k : Nat} (hk : k ≤ l.length) : sv (l.take k) = (sv l).take (k * 2) := by
  have e : sv l = sv (l.take k) ++ sv (l.drop k) := by rw [← sv_app, List.take_append_drop]
  have hl : (sv (l.take k)).length = k * 2 := by rw [sv_len, List.length_take]; omega
  rw [e, ← hl, List.take_left]
theorem sv_drop13 (l : List Spn) {k : Nat} (hk : k ≤ l.length) : sv (l.drop k) = (sv l).drop (k * 2) := by
  have e : sv l = sv (l.take k) ++ sv (l.drop k) := by rw [← sv_app, List.take_append_drop]
  have hl : (sv (l.take k)).length = k * 2 := by rw [sv_len, List.length_take]; omega
  rw [e, ← hl, List.drop_left]
/-- Spans are left out of a row, one by one: those ahead of j that are kept stand in front; those from j on as they stood. -/
structure Del (w wr : World) (g cap : Nat) (l : List Spn) (p : Spn → Bool) (i j : Nat) : Prop where
  off : Off (fun b => b = g) w wr
  cnt : i = ((l.take j).filter fun s => !p s).length
  le : i < j
  jl : j ≤ l.length
  blk : ∃ cur, wr.heap[g]? = some (.cells cur 32 (0, 0)) ∧ cur.size = cap * 2 ∧ cur.toList.take (i * 2) = sv ((l.take j).filter fun s => !p s) ∧ (∀ k s, j ≤ k → l[k]? = some s → cur[k * 2]? = some (.int .i64 s.1) ∧ cur[k * 2 + 1]? = some (.int .i64 s.2))
section
variable {w wr w' : World} {g cap i j : Nat} {l : List Spn} {p : Spn → Bool}
theorem Del.below (d : Del w wr g cap l p i j) (hg : g < wr.heap.size) (hb : Below wr.heap.size wr w') : Del w w' g cap l p i j := by
  obtain ⟨cur, h1, h2⟩ := d.blk
  exact ⟨d.off.trans' (.of_below hb), d.cnt, d.le, d.jl, cur, by rw [hb.block g hg]; exact h1, h2⟩
theorem Del.skip (d : Del w wr g cap l p i j) {s : Spn} (hs : l[j]? = some s) (hp : p s = true) : Del w wr g cap l p i (j + 1) := by
  have e : (l.take (j + 1)).filter (fun s => !p s) = (l.take j).filter fun s => !p s := by rw [List.take_add_one, hs, List.filter_append]; simp [hp]
  obtain ⟨cur, h1, h2, h3, h4⟩ := d.blk
  exact ⟨d.off, by rw [e]; exact d.cnt, by have := d.le; omega, (List.getElem?_eq_some_iff.1 hs).1, cur, h1, h2, by rw [e]; exact h3, fun k u hk hu => h4 k u (by omega) hu⟩
theorem Del.keep (d : Del w wr g cap l p i j) (hc : l.length ≤ cap) {s : Spn} (hs : l[j]? = some s) (hp : p s = false) : Del w ((wr.setCell ⟨g, i * 2, none⟩ (.int .i64 s.1)).setCell ⟨g, i * 2 + 1, none⟩ (.int .i64 s.2)) g cap l p (i + 1) (j + 1) := by
  have e : (l.take (j + 1)).filter (fun s => !p s) = ((l.take j).filter fun s => !p s) ++ [s] := by rw [List.take_add_one, hs, List.filter_append]; simp [hp]
  obtain ⟨cur, h1, h2, h3, h4⟩ := d.blk
  have hj := (List.getElem?_eq_some_iff.1 hs).1
  have hij := d.le
  refine ⟨(d.off.setCell (.inl rfl) _).setCell (.inl rfl) _, by rw [e, List.length_append, ← d.cnt]; rfl, by omega, hj, (cur.setIfInBounds (i * 2) (.int .i64 s.1)).setIfInBounds (i * 2 + 1) (.int .i64 s.2), block_setCell (block_setCell h1 _) _, by simpa using h2, ?_, fun k u hk hu => ?_⟩
  · rw [e, sv_app, ← h3]
    apply List.ext_getElem?
    intro t
    rw [List.getElem?_take, Array.getElem?_toList, Array.getElem?_setIfInBounds, Array.getElem?_setIfInBounds]
    by_cases ht : t < i * 2
    · rw [if_pos (by omega), if_neg (by omega), if_neg (by omega), List.getElem?_append_left (by simp; omega), List.getElem?_take_of_lt ht, Array.getElem?_toList]
    · have hlen : (cur.toList.take (i * 2)).length = i * 2 := by simp; omega
      rw [List.getElem?_append_right (by omega), hlen]
      by_cases t0 : t = i * 2
      · subst t0
        rw [if_pos (by omega), if_neg (by omega), if_pos rfl, if_pos (by omega)]; simp [sv]
      · by_cases t1 : t = i * 2 + 1
        · subst t1
          rw [if_pos (by omega), if_pos rfl, if_pos (by simp; omega)]; simp [sv]
        · rw [if_neg (by omega), List.getElem?_eq_none (by simp [sv]; omega)]
  · obtain ⟨q1, q2⟩ := h4 k u (by omega) hu
    rw [Array.getElem?_setIfInBounds, Array.getElem?_setIfInBounds, Array.getElem?_setIfInBounds, Array.getElem?_setIfInBounds, if_neg (by omega), if_neg (by omega), if_neg (by omega), if_neg (by omega)]
    exact ⟨q1, q2⟩
theorem Del.start {cur : Array Value} (h : w.heap[g]? = some (.cells cur 32 (0, 0))) (hs : cur.size = cap * 2) (ht : cur.toList.take (l.length * 2) = sv l) {k : Nat} (hk : k < l.length) (h1 : ∀ s, l[k]? = some s → p s = true) (h2 : ∀ s ∈ l.take k, p s = false) : Del w w g cap l p k (k + 1) := by
  obtain ⟨s, hs0⟩ : ∃ s, l[k]? = some s := ⟨_, List.getElem?_eq_getElem hk⟩
  have e : (l.take (k + 1)).filter (fun s => !p s) = l.take k := by
    rw [List.take_add_one, hs0, List.filter_append, List.filter_eq_self.2 (fun u hu => by simp [h2 u hu])]
    simp [h1 s hs0]
  refine ⟨Off.refl _ _, by rw [e, List.length_take]; omega, by omega, hk, cur, h, hs, ?_, fun m u hm hu => ?_⟩
  · rw [e, sv_take13 l (by omega), ← ht, List.take_take, show min (k * 2) (l.length * 2) = k * 2 by omega]
  · have hm2 := (List.getElem?_eq_some_iff.1 hu).1
    obtain ⟨q1, q2⟩ := sv_at hu
    rw [← ht, List.getElem?_take_of_lt (by omega), Array.getElem?_toList] at q1 q2
    exact ⟨q1, q2⟩
theorem Del.last (d : Del w wr g cap l p i l.length) (hc : l.length ≤ cap) (hm : cap ≤ maxLen) (o : Nat) (vs : List Value) (ho : o = i * 2) {base : Nat} (hb : base ≤ g) :
    (wr.setCells g o vs).ownsRow base 32 2 (.slice (some ⟨g, 0, none⟩) (l.filter fun s => !p s).length cap) (l.filter fun s => !p s).length (sv (l.filter fun s => !p s)) ∧ Off (fun b => b = g) w (wr.setCells g o vs) := by
  obtain ⟨cur, h1, h2, h3, _⟩ := d.blk
  have hcnt := d.cnt
  have hle := d.le
  rw [List.take_length] at h3 hcnt
  obtain ⟨cur', k1, k2, k3, k4⟩ := set_cells vs o cur wr h1
  refine ⟨own_mk (by rw [sv_len]) hb k1 (by omega) hm (by rw [k2]; exact h2) ?_, d.off.trans' k4⟩
  rw [← hcnt, ← h3]
  apply List.ext_getElem?
  intro t
  rw [List.getElem?_take, List.getElem?_take]
  split
  · rw [Array.getElem?_toList, Array.getElem?_toList, k3 t (by omega)]
  · rfl
end

set_option maxRecDepth 100000 in
set_option maxHeartbeats 2000000 in
theorem pdel13_any (l : List Spn) (base : Nat) (v : Value) (w : World) (hown : w.ownsRow base 32 2 v l.length (sv l)) (hl : l.length ≤ 1000000) :
    Calls Try.prog 23 #[v, .func (.func 25) #[] #[]] w fun e w' =>
      ∃ v', e = .returned v' ∧ w'.ownsRow base 32 2 v' (l.filter fun s => !decide (s.2 ≤ s.1)).length (sv (l.filter fun s => !decide (s.2 ≤ s.1))) ∧ (∀ b, v'.ownBlock = some b → v.ownBlock = some b) ∧ Off (fun b => v.ownBlock = some b) w w' := by
  obtain ⟨p, hp⟩ : ∃ p : Spn → Bool, p = fun s => decide (s.2 ≤ s.1) := ⟨_, rfl⟩
  have hf : ∀ (s : Spn) (w : World), Calls Try.prog 25 (#[.agg #[.int .i64 s.1, .int .i64 s.2]] ++ #[]) w fun e w' => e = .returned (.bool (p s)) ∧ Below w.heap.size w w' := by
    intro s w
    rw [hp]
    exact delC_any s w
  rw [show (l.filter fun s => !decide (s.2 ≤ s.1)) = l.filter fun s => !p s by rw [hp]]
  clear hp
  obtain ⟨A, c, rfl, hsl⟩ := Sl.of_own hown
  have HI := Lib.hid (pindexD_any #[] p l A c w hsl (fun g s _ => hf s g.val))
  have HF := Lib.hid hf
  clear hf
  rcases fstS_ways p l 0 with ⟨e1, hall⟩ | ⟨k, hk, e1, ht, hall⟩
  · have hfil : (l.filter fun s => !p s) = l := List.filter_eq_self.2 fun s hs => by simp [hall s hs]
    rw [hfil]
    rw [e1] at HI
    have HO := Lib.hid hown
    clear hown hsl hall hfil e1
    go_enter Try.func23, Try.ntmps23
    go_wp2_with fail
    go_at_call 35
    refine HI.out.mono ?_
    rintro e w' ⟨rfl, hb⟩
    obtain ⟨G, rfl⟩ := Gr.of hb
    clear hb
    go_wp2_with fail
    go_ret
    exact ⟨_, rfl, own_off HO.out (F := fun _ => False) (.of_below G.ok) (fun _ _ => id), fun b hb => hb, .of_below G.ok⟩
  · rw [e1] at HI
    have hlpos : 0 < l.length := by omega
    obtain ⟨g, cap, e2, hg1, hg2⟩ := hown.form hlpos
    simp only [Value.slice.injEq, true_and] at e2
    obtain ⟨rfl, rfl⟩ := e2
    obtain ⟨cur, hblk, hn, hm, hs, htk, _⟩ := own_block hown
    have HD0 : Hid (∀ G : Gr w, Del G.val G.val g c l p k (k + 1)) := fun G => Del.start (by rw [G.ok.block g hg2]; exact hblk) hs htk hk ht hall
    have HG1 := Lib.hid hg1
    have hk1 : ((k : Int) == -1) = false := beq_eq_false_iff_ne.2 (by omega)
    rw [Nat.zero_add] at HI
    have hkz : (k : Int) < l.length := by omega
    have hlz : (l.length : Int) ≤ 1000000 := by omega
    have HN := Lib.hid (And.intro hn hm)
    clear hown hsl hblk hs htk ht hall e1 hg1 hn
    go_enter Try.func23, Try.ntmps23
    go_wp2_with fail
    go_at_call 35
    refine HI.out.mono ?_
    rintro e w' ⟨rfl, hb⟩
    obtain ⟨G, rfl⟩ := Gr.of hb
    clear hb
    have hgG : g < G.val.heap.size := Nat.lt_of_lt_of_le hg2 G.size
    have HD1 := Lib.hid (HD0.out G)
    clear HD0
    go_wp2_with fail
    go_loopw [5, 6] (fun s5 s6 wr => ∃ (i j : Nat), s5 = .int .i64 i ∧ s6 = .int .i64 j ∧ j ≤ l.length ∧ i < j ∧ g < wr.heap.size ∧ Hid (Del G.val wr g c l p i j)) (fun _ s6 _ => l.length - (intOf s6).toNat)
    case atStart => exact ⟨k, k + 1, rfl, by go_num, by omega, by omega, hgG, HD1.out⟩
    case round =>
      obtain ⟨i, j, rfl, rfl, hj, hij, hgw, HD⟩ := hrel
      have hiz : (i : Int) < j := by omega
      have hjz : (j : Int) ≤ l.length := by omega
      by_cases hlt : j < l.length
      · have hltz : (j : Int) < l.length := by omega
        have hizl : (i : Int) < l.length := by omega
        obtain ⟨⟨s1, s2⟩, hs⟩ : ∃ s, l[j]? = some s := ⟨_, List.getElem?_eq_getElem hlt⟩
        obtain ⟨cur2, b1, b2, b3, b4⟩ := HD.out.blk
        obtain ⟨c1, c2⟩ := b4 j _ (Nat.le_refl _) hs
        have hic : i * 2 + 1 < cur2.size := by have := HN.out.1; omega
        obtain ⟨u0, hu0⟩ : ∃ u, cur2[i * 2]? = some u := ⟨_, Array.getElem?_eq_getElem (by omega)⟩
        obtain ⟨u1, hu1⟩ : ∃ u, cur2[i * 2 + 1]? = some u := ⟨_, Array.getElem?_eq_getElem (by omega)⟩
        have p1 := blk_cell b1 c1
        have p2 := blk_cell b1 c2
        have HK : Hid (∀ W : World, Below wr.heap.size wr W → W.cell? ⟨g, i * 2, none⟩ = some u0 ∧ W.cell? ⟨g, i * 2 + 1, none⟩ = some u1 ∧ ∀ t, W.frozen? ⟨g, t, none⟩ = false) := fun W hW =>
          ⟨cell_old (blk_cell b1 hu0) hW, cell_old (blk_cell b1 hu1) hW, fun t => unfrozen_of_block (by rw [hW.block g hgw]; exact b1) t⟩
        have HS := Lib.hid hs
        obtain ⟨F0, F1⟩ := Gr.lay2 wr (.int .i64 s1) (.int .i64 s2) 32
        have HC := Lib.hid (fun w => HF.out (s1, s2) w)
        have hv : ∃ b, p (s1, s2) = b := ⟨_, rfl⟩
        obtain ⟨b, hb⟩ := hv
        have HP := Lib.hid hb
        simp only [hb] at HC
        clear hs b1 b2 b3 b4 c1 c2 hic hu0 hu1 hb
        go_wp2_with fail
        go_at_call 25
        refine (HC.out _).mono ?_
        rintro e w' ⟨rfl, hb⟩
        obtain ⟨G2, rfl⟩ := Gr.of hb
        have hbw : Below wr.heap.size wr G2.val := G2.below1
        obtain ⟨q1, q2, q3⟩ := HK.out G2.val hbw
        have HB := Lib.hid hbw
        clear hb hbw
        cases b with
        | false =>
          go_wp2_with fail
          go_roundw
          case rel => exact ⟨i + 1, j + 1, by go_num, by go_num, by omega, by omega, by have := HB.out.size; simp [World.setCell]; omega, (HD.out.below hgw HB.out).keep HN.out.1 HS.out HP.out⟩
          case measure => simp [intOf]; omega
        | true =>
          go_wp2_with fail
          go_roundw
          case rel => exact ⟨i, j + 1, rfl, by go_num, by omega, by omega, Nat.lt_of_lt_of_le hgw HB.out.size, (HD.out.below hgw HB.out).skip HS.out HP.out⟩
          case measure => simp [intOf]; omega
      · obtain rfl : j = l.length := by omega
        have hltz : ¬ (l.length : Int) < l.length := by omega
        have hil : i < l.length := hij
        obtain ⟨cur2, b1, b2, b3, b4⟩ := HD.out.blk
        have hnc := HN.out.1
        obtain ⟨vs, hcl⟩ := clear13 wr g (i * 2) (l.length - i) (c - i) cur2 _ b1 (by omega) (by omega)
        have hsz : ∀ w' : World, (sizeOf (Try.prog.elem 22)).run Try.prog w' = .ok 2 w' := fun w' => by kernel_rfl
        have hlo : ∀ w' : World, (Instr.sliceAt 22 (.slice (some ⟨g, 0, none⟩) l.length c) (some (.int .i64 i)) none none).run Try.prog w' = .ok (.slice (some ⟨g, i * 2, none⟩) (l.length - i) (c - i)) w' := fun w' => by
          rw [run_sliceAt_slice w' 22 _ _ _ _ Try.underlying22, run_slice_l w' 22 _ l.length c Try.underlying22 .i64 i (by omega) (by omega), hsz]
          have : ¬ c = i := by omega
          simp [Result.andThen, sliced, this, Addr.add]
          omega
        have hhi : ∀ w' : World, (Instr.sliceAt 22 (.slice (some ⟨g, 0, none⟩) l.length c) none (some (.int .i64 i)) none).run Try.prog w' = .ok (.slice (some ⟨g, 0, none⟩) i c) w' := fun w' => by
          rw [run_sliceAt_slice w' 22 _ _ _ _ Try.underlying22, run_slice_h w' 22 _ l.length c Try.underlying22 .i64 i (by omega) (by omega), hsz]
          simp [Result.andThen, sliced, Addr.add]
        have HL := Lib.hid (HD.out.last hnc HN.out.2 (i * 2) vs rfl HG1.out)
        have HCN := Lib.hid HD.out.cnt
        clear b1 b2 b3 b4 hsz
        go_wp2_with fail
        go_ret
        have hc2 := HCN.out
        rw [List.take_length] at hc2
        have h1 := HL.out.1
        have h2 : Off (fun b => b = g) w (wr.setCells g (i * 2) vs) := (Off.of_below G.ok).trans' HL.out.2
        refine ⟨_, rfl, ?_, fun b hb => hb, h2.mono fun b _ hb => congrArg some hb.symm⟩
        show World.ownsRow _ _ _ _ (.slice (some ⟨g, 0, none⟩) i c) _ _
        rw [← hc2] at h1 ⊢
        exact h1
end Go.Proofs.Ytdpgmhjhmccfnaa
