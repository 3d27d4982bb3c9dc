import Derived.Test.YtnccgfdaddbndaaZMT
/- Contracts of the document's times: which days of a period are kept; is a day as a rule says. -/
section
namespace Go.Proofs.Ytnccgfdaddbndaa
open Go.ChangeShapes Go.WideShapes Go.ChangeAt Go.RowKit Go.Joins Qr Tm Cal

theorem int_info10 : (Try.prog.info? 3).map (fun i => (i.zero, i.size, i.bytes)) = some (some (.int .i64 0), 1, 8) := by kernel_rfl
theorem keptTo_len (r : R) (l : List Int) : ∀ i, (keptTo r l i).length ≤ i
  | 0 => Nat.le_refl _
  | i + 1 => by have := keptTo_len r l i; unfold keptTo; split <;> simp <;> omega

/-- A row of numbers is handed back: the one that came in, or a new one. -/
def RetK (A : Option Addr) (l : List Int) (w : World) (e : Ending) (w' : World) : Prop := ∃ A' c', e = .returned (.slice A' l.length c') ∧ Sl w' A' l.length c' (iv l) ∧ Below w.heap.size w w' ∧ ∀ a, A' = some a → A = some a ∨ w.heap.size ≤ a.block

set_option maxRecDepth 100000 in
set_option maxHeartbeats 2000000 in
theorem rkept10_any (r : R) (A1 A2 A3 A4 : Option Addr) (c1 c2 c3 c4 : Nat) (l : List Int) (A : Option Addr) (c : Nat) (hl : l.length ≤ 1000000) (w : World) (hr : RAt w r A1 A2 A3 A4 c1 c2 c3 c4) (hs : Sl w A l.length c (iv l)) :
    Calls Try.prog 16 #[.agg (rcells r A1 A2 A3 A4 c1 c2 c3 c4), .slice A l.length c] w (RetK A (keptL r l) w) := by
  obtain ⟨W1, hW1⟩ : ∃ W1, w.alloc (.cells (rcells r A1 A2 A3 A4 c1 c2 c3 c4) 25) = W1 := ⟨_, rfl⟩
  have HB1 : Hid (W1.heap[w.heap.size]? = some (.cells (rcells r A1 A2 A3 A4 c1 c2 c3 c4) 25 (0, 0))) := by show _ = _; rw [← hW1, heap_alloc_new]
  have HL1 : Hid (Below w.heap.size w W1) := by show Below _ _ _; rw [← hW1]; exact (Below.refl _ w).alloc (Nat.le_refl _) _
  have E1 := Lib.hid hW1
  have q7 := blk_cell HB1.out (i := 7) (v := .slice A4 r.bs.length c4) rfl
  have hbs : r.bs.length ≤ 9223372036854775807 := Nat.le_trans hr.s4.le hr.s4.cap
  by_cases h0 : r.bs.length = 0
  · have hb0 : r.bs = [] := List.eq_nil_of_length_eq_zero h0
    have hz : ((r.bs.length : Int) == 0) = true := by rw [h0]; rfl
    rw [show keptL r l = l by unfold keptL; rw [if_pos hb0]]
    have HS := Lib.hid (hs.below HL1.out (Nat.le_refl _))
    unfold rcells at E1
    clear hr hs hW1 hb0 h0
    unfold rcells
    go_enter Try.func16, Try.ntmps16
    go_upto_region 1 with fail
    rw [E1.out]
    go_wp2_with fail
    go_ret
    exact ⟨A, c, rfl, HS.out, HL1.out, fun a h => .inl h⟩
  · have hb0 : r.bs ≠ [] := fun e => h0 (by rw [e]; rfl)
    have hz : ((r.bs.length : Int) == 0) = false := beq_false_of_ne (by omega)
    obtain ⟨res, hres⟩ : ∃ res, keptTo r l l.length = res := ⟨_, rfl⟩
    rw [show keptL r l = res by unfold keptL; rw [if_neg hb0, hres]]
    have HRES := Lib.hid hres
    have HS : Hid (Sl W1 A l.length c (iv l)) := hs.below HL1.out (Nat.le_refl _)
    have HS4 : Hid (Sl W1 A4 r.bs.length c4 (iv r.bs)) := hr.s4.below HL1.out (Nat.le_refl _)
    obtain ⟨i0, hi0, p0, p1, p2⟩ := info_parts int_info10
    have HC : Hid (∀ (g : Gr W1) (n : Int), Calls Try.prog 25 #[.slice A4 r.bs.length c4, .int .i64 n] g.val fun e w' => e = .returned (.bool (memB r.bs n)) ∧ g.val = w') := fun g n => rhas10_any r.bs A4 c4 n g.val (HS4.out.gr g)
    have HQ : Hid (∀ g : Gr W1, g.val.cell? ⟨w.heap.size, 7, none⟩ = some (.slice A4 r.bs.length c4)) := fun g => cell_old q7 g.ok
    unfold rcells at E1
    clear hr hs hW1 hb0 h0 hres
    unfold rcells
    go_enter Try.func16, Try.ntmps16
    go_upto_region 1 with fail
    rw [E1.out]
    go_wp2_with fail
    go_loopw [5, 15] (fun s5 s15 wr => ∃ (i : Nat) (gb cap : Nat) (g : Gr W1), wr = g.val ∧ i ≤ l.length ∧ s15 = .int .i64 i ∧ s5 = .slice (some ⟨gb, 0, none⟩) (keptTo r l i).length cap ∧ Hid (g.val.ownsRow W1.heap.size 3 1 (.slice (some ⟨gb, 0, none⟩) (keptTo r l i).length cap) (keptTo r l i).length (iv (keptTo r l i)))) (fun _ s15 _ => l.length - (intOf s15).toNat)
    case atStart => exact ⟨0, W1.heap.size, 0, ⟨_, (Below.refl _ _).alloc (Nat.le_refl _) _⟩, rfl, Nat.zero_le _, rfl, rfl, World.ownsRow_made (base := W1.heap.size) W1 #[] 0 (Nat.le_refl _) (by decide) rfl⟩
    case round =>
      obtain ⟨i, gb, cap, g, rfl, hi, rfl, rfl, HOW⟩ := hrel
      by_cases hlt : i < l.length
      · have hiz : (i : Int) < l.length := by omega
        have hw1 : IntKind.i64.wrap ((i : Int) + 1) = i + 1 := by rw [IntKind.wrap_i64]; omega
        have hw2 : IntKind.i64.wrap ((i : Int) - l.length) = i - l.length := by rw [IntKind.wrap_i64]; omega
        have hq := HQ.out g
        have hkl := keptTo_len r l i
        obtain ⟨x, hx⟩ : ∃ x, l[i]? = some x := ⟨_, List.getElem?_eq_getElem hlt⟩
        obtain ⟨pb, po, rfl, hpb, hpc⟩ := HS.out.intG hx
        have hc0 := hpc g
        have hgx : l.getD i 0 = x := by rw [List.getD_eq_getElem?_getD, hx]; rfl
        have HST : Hid (∀ b : Bool, okPos r l.length i = b → keptTo r l (i + 1) = keptTo r l i ++ (if b then [x] else [])) := fun b hb => by
          rw [show keptTo r l (i + 1) = keptTo r l i ++ (if okPos r l.length i then [l.getD i 0] else []) from rfl, hb, hgx]
        have HOK : Hid (okPos r l.length i = (memB r.bs ((i : Int) + 1) || memB r.bs ((i : Int) - l.length))) := rfl
        have HC1 := Lib.hid (HC.out g ((i : Int) + 1))
        have HC2 := Lib.hid (HC.out g ((i : Int) - l.length))
        clear hpc hgx hx
        generalize hm1 : memB r.bs ((i : Int) + 1) = m1 at *
        generalize hm2 : memB r.bs ((i : Int) - l.length) = m2 at *
        generalize hk : keptTo r l i = acc at *
        clear hm1 hm2 hk
        have HGR : Hid (∀ (o : Obj) (w1 : World), (g.val.alloc o).grownBy w1 (Value.slice (some ⟨gb, 0, none⟩) acc.length cap).ownBlock → Below W1.heap.size W1 w1) := fun o w1 h => (g.ok.alloc g.ok.size o).grown h (by have := g.size; simp; omega) (fun k hk => (HOW.out.lt k hk).1)
        cases m1 with
        | true =>
          have hk1 : Hid (keptTo r l (i + 1) = acc ++ [x]) := by show _ = _; rw [HST.out true (by rw [HOK.out]; rfl)]; rfl
          clear HST HOK
          go_wp2_with (first
            | (go_at_call 25; refine HC1.out.mono ?_; rintro e w' ⟨rfl, rfl⟩)
            | (refine wpList_append_lies _ rfl _ _ _ (by rfl) W1.heap.size 3 i0 _ 1 8 Try.underlying22 hi0 p0 p1 p2 rfl (by decide) (.slice (some ⟨gb, 0, none⟩) acc.length cap) acc.length (iv acc) (by rfl) (HOW.out.alloc _) ⟨g.val.heap.size, 0, none⟩ 1 1 [.int .i64 x] (by rfl) (by rfl) (World.news_of_block (cs := #[.int .i64 x]) (t := 3) (fr := (0, 0)) (heap_alloc_new _ _)) (by simp [Value.oneCell']) (Nat.lt_succ_self 0) (by unfold maxLen; omega) (by omega) (by simp; exact Nat.le_trans g.size (Nat.le_succ _)) _ rfl ?_; intro gg cap2 w3 hown3 hgr3 hat3 hlt3))
          go_roundw
          case rel => exact ⟨i + 1, gg, cap2, ⟨w3, HGR.out _ _ hgr3⟩, rfl, by omega, by go_num, by rw [hk1.out]; simp, by show World.ownsRow _ _ _ _ _ _ _; rw [hk1.out, List.length_append, iv_app]; exact hown3⟩
          case measure => simp [intOf]; omega
        | false =>
          cases m2 with
          | true =>
            have hk1 : Hid (keptTo r l (i + 1) = acc ++ [x]) := by show _ = _; rw [HST.out true (by rw [HOK.out]; rfl)]; rfl
            clear HST HOK
            go_wp2_with fail
            go_at_call 25; refine HC1.out.mono ?_; rintro e w' ⟨rfl, rfl⟩
            go_wp2_with fail
            go_at_call 25; refine HC2.out.mono ?_; rintro e w' ⟨rfl, rfl⟩
            go_wp2_with (refine wpList_append_lies _ rfl _ _ _ (by rfl) W1.heap.size 3 i0 _ 1 8 Try.underlying22 hi0 p0 p1 p2 rfl (by decide) (.slice (some ⟨gb, 0, none⟩) acc.length cap) acc.length (iv acc) (by rfl) (HOW.out.alloc _) ⟨g.val.heap.size, 0, none⟩ 1 1 [.int .i64 x] (by rfl) (by rfl) (World.news_of_block (cs := #[.int .i64 x]) (t := 3) (fr := (0, 0)) (heap_alloc_new _ _)) (by simp [Value.oneCell']) (Nat.lt_succ_self 0) (by unfold maxLen; omega) (by omega) (by simp; exact Nat.le_trans g.size (Nat.le_succ _)) _ rfl ?_; intro gg cap2 w3 hown3 hgr3 hat3 hlt3)
            go_roundw
            case rel => exact ⟨i + 1, gg, cap2, ⟨w3, HGR.out _ _ hgr3⟩, rfl, by omega, by go_num, by rw [hk1.out]; simp, by show World.ownsRow _ _ _ _ _ _ _; rw [hk1.out, List.length_append, iv_app]; exact hown3⟩
            case measure => simp [intOf]; omega
          | false =>
            have hk1 : Hid (keptTo r l (i + 1) = acc) := by show _ = _; rw [HST.out false (by rw [HOK.out]; rfl)]; simp
            clear HST HOK
            go_wp2_with fail
            go_at_call 25; refine HC1.out.mono ?_; rintro e w' ⟨rfl, rfl⟩
            go_wp2_with fail
            go_at_call 25; refine HC2.out.mono ?_; rintro e w' ⟨rfl, rfl⟩
            go_wp2_with fail
            go_roundw
            case rel => exact ⟨i + 1, gb, cap, g, rfl, by omega, by go_num, by rw [hk1.out], by show World.ownsRow _ _ _ _ _ _ _; rw [hk1.out]; exact HOW.out⟩
            case measure => simp [intOf]; omega
      · have hiz : ¬ (i : Int) < l.length := by omega
        obtain rfl : i = l.length := by omega
        have hrr := HRES.out
        go_wp2_with fail
        go_ret
        rw [hrr] at HOW
        exact ⟨_, _, by rw [← hrr]; rfl, by exact Sl.own_ HOW.out, HL1.out.trans (g.ok.mono HL1.out.size), fun a h => .inr (by obtain rfl := Option.some.inj h; exact Nat.le_trans HL1.out.size (HOW.out.lt _ rfl).1)⟩
end Go.Proofs.Ytnccgfdaddbndaa
end
