import Derived.Test.YtdhinjbkfffpeaaGreatYOH
/- Contracts of the program's pass: numbers, flags, texts, whether it writes or reads. -/
section
namespace Go.Proofs.YtdhinjbkfffpeaaGreat
open Go.ChangeShapes Go.WideShapes Go.ChangeAt Go.RowKit Go.Joins Sp Fr Pk
theorem u64_of (x : Int) (h : I64 x) : ∃ n : Nat, n < 18446744073709551616 ∧ IntKind.u64.wrap x = (n : Int) ∧ IntKind.i64.wrap (n : Int) = x ∧ (0 ≤ x → numT n = natT x) := by
 obtain ⟨h1, h2⟩ := h
 by_cases hx : 0 ≤ x
 ·refine ⟨x.toNat, by omega, by rw [IntKind.wrap_u64]; omega, by rw [IntKind.wrap_i64]; omega, fun _ => rfl⟩
 ·refine ⟨(x + 18446744073709551616).toNat, by omega, by rw [IntKind.wrap_u64]; omega, by rw [IntKind.wrap_i64]; omega, fun h => absurd h hx⟩
theorem rdNum_le (most : Nat) (r : Rd) : (rdNum most r).1 ≤ most := by
 unfold rdNum
 split
 ·exact Nat.zero_le _
 ·split
  ·exact Nat.zero_le _
  ·split
   ·assumption
   ·exact Nat.zero_le _
def TelB {α : Type} (val : α → Value) (c : Cd α) (x : α) (P : Nat) (m : Md) (b : Bool) (F : Nat → Prop) (w : World) (p : α → Prop) (e : Ending) (w' : World) : Prop :=
 ∃ y m' b' F', e = .returned (val y) ∧ PsTo w w' P m' b' F F' ∧ Dn c x m b y m' b' ∧ (∀ s, m = .wr s → y = x) ∧ (∀ r, m = .rd r → p y)
theorem Md.Room.wr {l : List UInt8} {n : Nat} (h : Md.Room (.wr l) n) : l.length + n ≤ 140737488355328 := Nat.le_trans h (by decide)
set_option maxRecDepth 100000 in
set_option maxHeartbeats 1000000 in
theorem pnumberI1_any (P B1 B2 most : Nat) (hm : most ≤ 9223372036854775807) (r : Rd) (b : Bool) (F : Nat → Prop) (w : World) (h : PsAt w P (.rd r) b F) (h1 : w.heap[B1]? = some (.cells #[.pointer (some ⟨P, 0, none⟩)] 121 (0, 0))) (h2 : w.heap[B2]? = some (.cells #[.int .i64 (most : Int)] 3 (0, 0))) (n1 : ¬ F B1) (n2 : ¬ F B2) :
  Calls Tryz.prog 133 #[.pointer (some ⟨B1, 0, none⟩), .pointer (some ⟨B2, 0, none⟩)] w fun e w' => ∃ v, e = .returned v ∧ (v = .int .u64 ((rdNum most r).1 : Int) ∧ PsTo w w' P (.rd (rdNum most r).2) b F F) := by
 obtain ⟨D, G, hP, hR, hG, hgo⟩ := h.read_
 have hD := hG D hR.fD
 have e1 : IntKind.u64.wrap (most : Int) = most := by rw [IntKind.wrap_u64]; omega
 have HC := Lib.hid (rd_number D most (by omega) r G w.drew (hR.below (Below.refl _ _).drew))
 obtain ⟨S, hS⟩ : ∃ S : World → Prop, S = fun V => V.heap[P]? = some (.cells #[.pointer none, .pointer (some ⟨D, 0, none⟩), .bool b] 126 (0, 0)) ∧ V.heap[B1]? = some (.cells #[.pointer (some ⟨P, 0, none⟩)] 121 (0, 0)) ∧ V.heap[B2]? = some (.cells #[.int .i64 (most : Int)] 3 (0, 0)) := ⟨_, rfl⟩
 have HZL : Hid (∀ V, S V → V.cell? ⟨P, 1, none⟩ = some (.pointer (some ⟨D, 0, none⟩)) ∧ V.cell? ⟨B1, 0, none⟩ = some (.pointer (some ⟨P, 0, none⟩)) ∧ V.cell? ⟨B2, 0, none⟩ = some (.int .i64 (most : Int))) := fun V hV => by
  rw [hS] at hV
  exact ⟨blk_cell hV.1 rfl, blk_cell hV.2.1 rfl, blk_cell hV.2.2 rfl⟩
 have HS0 : Hid (S w.drew) := by show S _; rw [hS]; exact ⟨hP, h1, h2⟩
 have HSt : Hid (∀ w' r', RdTo w.drew w' D r' G → S w' ∧ PsTo w w' P (.rd r') b F F) := fun w' r' hT => by
  have hT' : RdTo w w' D r' G := ⟨hT.1, (Off.of_below (Below.refl _ _).drew).trans' hT.2⟩
  have ht := hgo w' r' hT'
  refine ⟨?_, ht⟩
  rw [hS]
  exact ⟨hT'.2.heap hP fun e => hD.2 e.symm, ht.off.heap h1 n1, ht.off.heap h2 n2⟩
 clear hS hP hR hgo h h1 h2 n1 n2
 go_enter Tryz.func133, Tryz.ntmps133
 go_upto_region 1 with fail
 refine wp_region_lexO S (fun k => [6].contains k) [0, 1, 2, 3, 4, 5, 6, 7] rfl (by kernel_rfl) (by kernel_rfl) (by kernel_rfl) (fun _ _ _ _ _ h => h) HS0.out ?_
 generalize World.drew w = W0 at *
 iterate 6 (refine wpHo_yes (v := ?_) rfl rfl rfl (fun w' hS => ?_) ?_; rotate_left; (obtain ⟨f0, f1, f2⟩ := HZL.out w' hS; go_simp; with_reducible rfl); (try simp only [List.getElem_toArray, List.getElem_cons_succ, List.getElem_cons_zero, Act.put, List.setIfInBounds_toArray, List.set_cons_zero, List.set_cons_succ]))
 refine wpHo_callYes rfl rfl rfl (fun K hK => ?_)
 go_simp
 go_at_call 113
 refine HC.out.mono ?_
 rintro e w' ⟨rfl, hT⟩
 obtain ⟨hS1, hT1⟩ := HSt.out _ _ hT
 clear hT
 refine hK _ _ hS1 (fun _ => ?_)
 (try simp only [List.getElem_toArray, List.getElem_cons_succ, List.getElem_cons_zero, Act.put, List.setIfInBounds_toArray, List.set_cons_zero, List.set_cons_succ])
 clear hK K
 iterate 1 (refine wpHo_yes (v := ?_) rfl rfl rfl (fun w' hS => ?_) ?_; rotate_left; (obtain ⟨f0, f1, f2⟩ := HZL.out w' hS; go_simp; with_reducible rfl); (try simp only [List.getElem_toArray, List.getElem_cons_succ, List.getElem_cons_zero, Act.put, List.setIfInBounds_toArray, List.set_cons_zero, List.set_cons_succ]))
 show Exit.then _ _ _ _ _
 go_wp2_with fail
 go_ret
 exact ⟨_, rfl, rfl, hT1⟩
set_option maxRecDepth 100000 in
set_option maxHeartbeats 1000000 in
theorem pnumberIB_any (P : Nat) (x : Int) (most : Nat) (hm : most ≤ 9223372036854775807) (hx : I64 x) (m : Md) (b : Bool) (F : Nat → Prop) (w : World) (h : PsAt w P m b F) (hr : m.Room 10) :
  Calls Tryz.prog 102 #[.pointer (some ⟨P, 0, none⟩), .int .i64 x, .int .i64 (most : Int)] w (TelB (fun y : Int => .int .i64 y) (cdInt most) x P m b F w (fun y => 0 ≤ y ∧ y ≤ most)) := by
 obtain ⟨W1, hW1⟩ : ∃ W1, ((w.alloc (.cells #[.pointer (some ⟨P, 0, none⟩)] 121)).alloc (.cells #[.int .i64 (most : Int)] 3)) = W1 := ⟨_, rfl⟩
 have HB : Below w.heap.size w W1 := by rw [← hW1]; exact ((Below.refl _ _).alloc (Nat.le_refl _) _).alloc (by simp) _
 have hb1 : W1.heap[w.heap.size]? = some (.cells #[.pointer (some ⟨P, 0, none⟩)] 121 (0, 0)) := by rw [← hW1, heap_alloc_old _ _ (by simp), heap_alloc_new]
 have hb2 : W1.heap[w.heap.size + 1]? = some (.cells #[.int .i64 (most : Int)] 3 (0, 0)) := by rw [← hW1]; exact heap_alloc_new2 _ _ _
 have n1 : ¬ F w.heap.size := h.not (Nat.le_refl _)
 have n2 : ¬ F (w.heap.size + 1) := h.not (by omega)
 have E1 := Lib.hid hW1
 have H1 := h.below HB
 have HD := Below.refl W1.heap.size W1 |>.drew
 generalize hB0 : w.heap.size = B at *
 clear hW1
 cases m with
 | wr l =>
  obtain ⟨D, G, hP, hR, hG, hgo⟩ := H1.wrote
  obtain ⟨n, hn, e1, e2, e3⟩ := u64_of x hx
  obtain ⟨S, hS⟩ : ∃ S : World → Prop, S = fun V => V.heap[P]? = some (.cells #[.pointer (some ⟨D, 0, none⟩), .pointer none, .bool b] 126 (0, 0)) ∧ V.heap[B]? = some (.cells #[.pointer (some ⟨P, 0, none⟩)] 121 (0, 0)) := ⟨_, rfl⟩
  have HZL : Hid (∀ V, S V → V.cell? ⟨P, 0, none⟩ = some (.pointer (some ⟨D, 0, none⟩)) ∧ V.cell? ⟨B, 0, none⟩ = some (.pointer (some ⟨P, 0, none⟩))) := fun V hV => by
   rw [hS] at hV
   exact ⟨blk_cell hV.1 rfl, blk_cell hV.2 rfl⟩
  have HS0 : Hid (S W1.drew) := by show S _; rw [hS]; exact ⟨hP, hb1⟩
  have HC : Hid (∀ rf, Calls Tryz.prog 110 #[.pointer (some ⟨P, 0, none⟩), .int .u64 (n : Int), .func (.func 111) #[.pointer (some ⟨D, 0, none⟩)] #[], rf] W1.drew fun e w' => e = .returned (.int .u64 (n : Int)) ∧ WrTo W1.drew w' D (l ++ numT n) G) := fun rf =>
   ptoldU_wr P D n hn l b G rf hr.wr W1.drew hP (hR.below HD)
  have HSt : Hid (∀ w' l', WrTo W1.drew w' D l' G → S w' ∧ ∃ F', PsTo w w' P (.wr l') b F F') := fun w' l' hT => by
   obtain ⟨G', g1, g2, g3⟩ := hT
   obtain ⟨F', hF'⟩ := hgo w' l' ⟨G', g1, (Off.of_below HD).trans' g2, g3⟩
   refine ⟨?_, F', hF'.from_ (hB0 ▸ HB)⟩
   rw [hS]
   exact ⟨g2.heap (w := W1.drew) hP fun hk => (hG P hk).2 rfl, g2.heap (w := W1.drew) hb1 fun hk => n1 (hG B hk).1⟩
  clear hS hP hR hgo hG H1 h HB HD hb1 hb2 n1 n2
  go_enter Tryz.func102, Tryz.ntmps102
  go_upto_region 1 with fail
  rw [hB0] at *
  rw [E1.out]
  refine wp_region_lexO S (fun k => [9].contains k) [0, 1, 2, 3, 4, 5, 6, 7, 8, 9, 10, 11] rfl (by kernel_rfl) (by kernel_rfl) (by kernel_rfl) (fun _ _ _ _ _ h => h) HS0.out ?_
  generalize World.drew W1 = W0 at *
  clear HS0
  iterate 9 (refine wpHo_yes (v := ?_) rfl rfl rfl (fun w' hS => ?_) ?_; rotate_left; (obtain ⟨f0, f1⟩ := HZL.out w' hS; go_simp; with_reducible rfl); (try simp only [List.getElem_toArray, List.getElem_cons_succ, List.getElem_cons_zero, Act.put, List.setIfInBounds_toArray, List.set_cons_zero, List.set_cons_succ]))
  refine wpHo_callYes rfl rfl rfl (fun K hK => ?_)
  go_simp
  go_at_call 110
  refine (HC.out _).mono ?_
  rintro e w' ⟨rfl, hT⟩
  obtain ⟨hS1, F', hF'⟩ := HSt.out _ _ hT
  clear hT
  refine hK _ _ hS1 (fun _ => ?_)
  (try simp only [List.getElem_toArray, List.getElem_cons_succ, List.getElem_cons_zero, Act.put, List.setIfInBounds_toArray, List.set_cons_zero, List.set_cons_succ])
  clear hK K
  iterate 2 (refine wpHo_yes (v := ?_) rfl rfl rfl (fun w' hS => ?_) ?_; rotate_left; (obtain ⟨f0, f1⟩ := HZL.out w' hS; go_simp; with_reducible rfl); (try simp only [List.getElem_toArray, List.getElem_cons_succ, List.getElem_cons_zero, Act.put, List.setIfInBounds_toArray, List.set_cons_zero, List.set_cons_succ]))
  show Exit.then _ _ _ _ _
  go_wp2_with fail
  go_ret
  exact ⟨x, _, b, F', rfl, hF', Dn.wr_leaf (num_len10 hn) (fun o => e3 o.1), fun _ _ => rfl, fun s hs => by cases hs⟩
 | rd r =>
  obtain ⟨D, G, hP, hR, hG, hgo⟩ := H1.read_
  have hD := hG D hR.fD
  have e2 : IntKind.i64.wrap ((rdNum most r).1 : Int) = ((rdNum most r).1 : Int) := by have := rdNum_le most r; rw [IntKind.wrap_i64]; omega
  obtain ⟨S, hS⟩ : ∃ S : World → Prop, S = fun V => V.cell? ⟨P, 0, none⟩ = some (.pointer none) ∧ V.heap[B]? = some (.cells #[.pointer (some ⟨P, 0, none⟩)] 121 (0, 0)) := ⟨_, rfl⟩
  have hP0 := blk_cell (i := 0) hP rfl
  have HZL : Hid (∀ V, S V → V.cell? ⟨P, 0, none⟩ = some (.pointer none) ∧ V.cell? ⟨B, 0, none⟩ = some (.pointer (some ⟨P, 0, none⟩))) := fun V hV => by
   rw [hS] at hV
   exact ⟨hV.1, blk_cell hV.2 rfl⟩
  have HS0 : Hid (S W1.drew) := by show S _; rw [hS]; exact ⟨hP0, hb1⟩
  have HC : Hid (∀ v wf, Calls Tryz.prog 110 #[.pointer (some ⟨P, 0, none⟩), v, wf, .func (.func 133) #[] #[.pointer (some ⟨B, 0, none⟩), .pointer (some ⟨B + 1, 0, none⟩)]] W1.drew fun e w' => ∃ v, e = .returned v ∧ (v = .int .u64 ((rdNum most r).1 : Int) ∧ PsTo W1.drew w' P (.rd (rdNum most r).2) b F F)) := fun v wf =>
   ptoldU_rd P D v wf 133 (fun _ _ => by kernel_rfl) #[] #[.pointer (some ⟨B, 0, none⟩), .pointer (some ⟨B + 1, 0, none⟩)] b _ W1.drew hP (pnumberI1_any P B (B + 1) most hm r b F W1.drew (H1.below HD) hb1 hb2 n1 n2)
  have HSt : Hid (∀ w', PsTo W1.drew w' P (.rd (rdNum most r).2) b F F → S w' ∧ PsTo w w' P (.rd (rdNum most r).2) b F F) := fun w' hT => by
   refine ⟨?_, (hT.from_ HD).from_ (hB0 ▸ HB)⟩
   rw [hS]
   obtain ⟨_, _, q, _⟩ := hT.at_.ok
   exact ⟨blk_cell q rfl, hT.off.heap (w := W1.drew) hb1 n1⟩
  clear hS hP hR hgo hG H1 h HB HD hb1 hb2 n1 n2
  go_enter Tryz.func102, Tryz.ntmps102
  go_upto_region 1 with fail
  rw [hB0] at *
  rw [E1.out]
  refine wp_region_lexO S (fun k => [9].contains k) [0, 1, 2, 3, 4, 5, 6, 7, 8, 9, 10, 11] rfl (by kernel_rfl) (by kernel_rfl) (by kernel_rfl) (fun _ _ _ _ _ h => h) HS0.out ?_
  generalize World.drew W1 = W0 at *
  clear HS0
  iterate 9 (refine wpHo_yes (v := ?_) rfl rfl rfl (fun w' hS => ?_) ?_; rotate_left; (obtain ⟨f0, f1⟩ := HZL.out w' hS; go_simp; with_reducible rfl); (try simp only [List.getElem_toArray, List.getElem_cons_succ, List.getElem_cons_zero, Act.put, List.setIfInBounds_toArray, List.set_cons_zero, List.set_cons_succ]))
  refine wpHo_callYes rfl rfl rfl (fun K hK => ?_)
  go_simp
  go_at_call 110
  refine (HC.out _ _).mono ?_
  rintro e w' ⟨_, rfl, rfl, hT⟩
  obtain ⟨hS1, hF'⟩ := HSt.out _ hT
  clear hT
  refine hK _ _ hS1 (fun _ => ?_)
  (try simp only [List.getElem_toArray, List.getElem_cons_succ, List.getElem_cons_zero, Act.put, List.setIfInBounds_toArray, List.set_cons_zero, List.set_cons_succ])
  clear hK K
  iterate 2 (refine wpHo_yes (v := ?_) rfl rfl rfl (fun w' hS => ?_) ?_; rotate_left; (obtain ⟨f0, f1⟩ := HZL.out w' hS; go_simp; with_reducible rfl); (try simp only [List.getElem_toArray, List.getElem_cons_succ, List.getElem_cons_zero, Act.put, List.setIfInBounds_toArray, List.set_cons_zero, List.set_cons_succ]))
  show Exit.then _ _ _ _ _
  go_wp2_with fail
  go_ret
  exact ⟨_, _, b, F, rfl, hF', Dn.rd_leaf (fun _ => rfl), fun s hs => (by cases hs), fun r' hr' => by cases hr'; have := rdNum_le most r; first | exact ⟨by omega, by omega⟩ | exact this⟩
theorem pnumberI_any (P : Nat) (x : Int) (most : Nat) (hm : most ≤ 9223372036854775807) (hx : I64 x) (m : Md) (b : Bool) (F : Nat → Prop) (w : World) (h : PsAt w P m b F) (hr : m.Room 10) :
  Calls Tryz.prog 102 #[.pointer (some ⟨P, 0, none⟩), .int .i64 x, .int .i64 (most : Int)] w (Tel (fun y : Int => .int .i64 y) (cdInt most) x P m b F w) :=
 (pnumberIB_any P x most hm hx m b F w h hr).mono fun _e _w' ⟨y, m', b', F', q1, q2, q3, q4, _⟩ => ⟨y, m', b', F', q1, q2, q3, q4⟩
set_option maxRecDepth 100000 in
set_option maxHeartbeats 1000000 in
theorem pnumberW1_any (P B1 B2 most : Nat) (hm : most ≤ 4294967295) (r : Rd) (b : Bool) (F : Nat → Prop) (w : World) (h : PsAt w P (.rd r) b F) (h1 : w.heap[B1]? = some (.cells #[.pointer (some ⟨P, 0, none⟩)] 121 (0, 0))) (h2 : w.heap[B2]? = some (.cells #[.int .u32 (most : Int)] 25 (0, 0))) (n1 : ¬ F B1) (n2 : ¬ F B2) :
  Calls Tryz.prog 154 #[.pointer (some ⟨B1, 0, none⟩), .pointer (some ⟨B2, 0, none⟩)] w fun e w' => ∃ v, e = .returned v ∧ (v = .int .u64 ((rdNum most r).1 : Int) ∧ PsTo w w' P (.rd (rdNum most r).2) b F F) := by
 obtain ⟨D, G, hP, hR, hG, hgo⟩ := h.read_
 have hD := hG D hR.fD
 have e1 : IntKind.u64.wrap (most : Int) = most := by rw [IntKind.wrap_u64]; omega
 have HC := Lib.hid (rd_number D most (by omega) r G w.drew (hR.below (Below.refl _ _).drew))
 obtain ⟨S, hS⟩ : ∃ S : World → Prop, S = fun V => V.heap[P]? = some (.cells #[.pointer none, .pointer (some ⟨D, 0, none⟩), .bool b] 126 (0, 0)) ∧ V.heap[B1]? = some (.cells #[.pointer (some ⟨P, 0, none⟩)] 121 (0, 0)) ∧ V.heap[B2]? = some (.cells #[.int .u32 (most : Int)] 25 (0, 0)) := ⟨_, rfl⟩
 have HZL : Hid (∀ V, S V → V.cell? ⟨P, 1, none⟩ = some (.pointer (some ⟨D, 0, none⟩)) ∧ V.cell? ⟨B1, 0, none⟩ = some (.pointer (some ⟨P, 0, none⟩)) ∧ V.cell? ⟨B2, 0, none⟩ = some (.int .u32 (most : Int))) := fun V hV => by
  rw [hS] at hV
  exact ⟨blk_cell hV.1 rfl, blk_cell hV.2.1 rfl, blk_cell hV.2.2 rfl⟩
 have HS0 : Hid (S w.drew) := by show S _; rw [hS]; exact ⟨hP, h1, h2⟩
 have HSt : Hid (∀ w' r', RdTo w.drew w' D r' G → S w' ∧ PsTo w w' P (.rd r') b F F) := fun w' r' hT => by
  have hT' : RdTo w w' D r' G := ⟨hT.1, (Off.of_below (Below.refl _ _).drew).trans' hT.2⟩
  have ht := hgo w' r' hT'
  refine ⟨?_, ht⟩
  rw [hS]
  exact ⟨hT'.2.heap hP fun e => hD.2 e.symm, ht.off.heap h1 n1, ht.off.heap h2 n2⟩
 clear hS hP hR hgo h h1 h2 n1 n2
 go_enter Tryz.func154, Tryz.ntmps154
 go_upto_region 1 with fail
 refine wp_region_lexO S (fun k => [6].contains k) [0, 1, 2, 3, 4, 5, 6, 7] rfl (by kernel_rfl) (by kernel_rfl) (by kernel_rfl) (fun _ _ _ _ _ h => h) HS0.out ?_
 generalize World.drew w = W0 at *
 iterate 6 (refine wpHo_yes (v := ?_) rfl rfl rfl (fun w' hS => ?_) ?_; rotate_left; (obtain ⟨f0, f1, f2⟩ := HZL.out w' hS; go_simp; with_reducible rfl); (try simp only [List.getElem_toArray, List.getElem_cons_succ, List.getElem_cons_zero, Act.put, List.setIfInBounds_toArray, List.set_cons_zero, List.set_cons_succ]))
 refine wpHo_callYes rfl rfl rfl (fun K hK => ?_)
 go_simp
 go_at_call 113
 refine HC.out.mono ?_
 rintro e w' ⟨rfl, hT⟩
 obtain ⟨hS1, hT1⟩ := HSt.out _ _ hT
 clear hT
 refine hK _ _ hS1 (fun _ => ?_)
 (try simp only [List.getElem_toArray, List.getElem_cons_succ, List.getElem_cons_zero, Act.put, List.setIfInBounds_toArray, List.set_cons_zero, List.set_cons_succ])
 clear hK K
 iterate 1 (refine wpHo_yes (v := ?_) rfl rfl rfl (fun w' hS => ?_) ?_; rotate_left; (obtain ⟨f0, f1, f2⟩ := HZL.out w' hS; go_simp; with_reducible rfl); (try simp only [List.getElem_toArray, List.getElem_cons_succ, List.getElem_cons_zero, Act.put, List.setIfInBounds_toArray, List.set_cons_zero, List.set_cons_succ]))
 show Exit.then _ _ _ _ _
 go_wp2_with fail
 go_ret
 exact ⟨_, rfl, rfl, hT1⟩
set_option maxRecDepth 100000 in
set_option maxHeartbeats 1000000 in
theorem pnumberWB_any (P : Nat) (x : Nat) (most : Nat) (hm : most ≤ 4294967295) (hx : x ≤ 4294967295) (m : Md) (b : Bool) (F : Nat → Prop) (w : World) (h : PsAt w P m b F) (hr : m.Room 10) :
  Calls Tryz.prog 134 #[.pointer (some ⟨P, 0, none⟩), .int .u32 (x : Int), .int .u32 (most : Int)] w (TelB (fun y : Nat => .int .u32 (y : Int)) (cdNum most) x P m b F w (fun y => 0 ≤ y ∧ y ≤ most)) := by
 obtain ⟨W1, hW1⟩ : ∃ W1, ((w.alloc (.cells #[.pointer (some ⟨P, 0, none⟩)] 121)).alloc (.cells #[.int .u32 (most : Int)] 25)) = W1 := ⟨_, rfl⟩
 have HB : Below w.heap.size w W1 := by rw [← hW1]; exact ((Below.refl _ _).alloc (Nat.le_refl _) _).alloc (by simp) _
 have hb1 : W1.heap[w.heap.size]? = some (.cells #[.pointer (some ⟨P, 0, none⟩)] 121 (0, 0)) := by rw [← hW1, heap_alloc_old _ _ (by simp), heap_alloc_new]
 have hb2 : W1.heap[w.heap.size + 1]? = some (.cells #[.int .u32 (most : Int)] 25 (0, 0)) := by rw [← hW1]; exact heap_alloc_new2 _ _ _
 have n1 : ¬ F w.heap.size := h.not (Nat.le_refl _)
 have n2 : ¬ F (w.heap.size + 1) := h.not (by omega)
 have E1 := Lib.hid hW1
 have H1 := h.below HB
 have HD := Below.refl W1.heap.size W1 |>.drew
 generalize hB0 : w.heap.size = B at *
 clear hW1
 cases m with
 | wr l =>
  obtain ⟨D, G, hP, hR, hG, hgo⟩ := H1.wrote
  obtain ⟨n, hn, e1, e2, e3⟩ : ∃ n : Nat, n < 18446744073709551616 ∧ IntKind.u64.wrap (x : Int) = (n : Int) ∧ IntKind.u32.wrap (n : Int) = (x : Int) ∧ numT n = numT x := ⟨x, by omega, by rw [IntKind.wrap_u64]; omega, by rw [IntKind.wrap_u32]; omega, rfl⟩
  obtain ⟨S, hS⟩ : ∃ S : World → Prop, S = fun V => V.heap[P]? = some (.cells #[.pointer (some ⟨D, 0, none⟩), .pointer none, .bool b] 126 (0, 0)) ∧ V.heap[B]? = some (.cells #[.pointer (some ⟨P, 0, none⟩)] 121 (0, 0)) := ⟨_, rfl⟩
  have HZL : Hid (∀ V, S V → V.cell? ⟨P, 0, none⟩ = some (.pointer (some ⟨D, 0, none⟩)) ∧ V.cell? ⟨B, 0, none⟩ = some (.pointer (some ⟨P, 0, none⟩))) := fun V hV => by
   rw [hS] at hV
   exact ⟨blk_cell hV.1 rfl, blk_cell hV.2 rfl⟩
  have HS0 : Hid (S W1.drew) := by show S _; rw [hS]; exact ⟨hP, hb1⟩
  have HC : Hid (∀ rf, Calls Tryz.prog 110 #[.pointer (some ⟨P, 0, none⟩), .int .u64 (n : Int), .func (.func 111) #[.pointer (some ⟨D, 0, none⟩)] #[], rf] W1.drew fun e w' => e = .returned (.int .u64 (n : Int)) ∧ WrTo W1.drew w' D (l ++ numT n) G) := fun rf =>
   ptoldU_wr P D n hn l b G rf hr.wr W1.drew hP (hR.below HD)
  have HSt : Hid (∀ w' l', WrTo W1.drew w' D l' G → S w' ∧ ∃ F', PsTo w w' P (.wr l') b F F') := fun w' l' hT => by
   obtain ⟨G', g1, g2, g3⟩ := hT
   obtain ⟨F', hF'⟩ := hgo w' l' ⟨G', g1, (Off.of_below HD).trans' g2, g3⟩
   refine ⟨?_, F', hF'.from_ (hB0 ▸ HB)⟩
   rw [hS]
   exact ⟨g2.heap (w := W1.drew) hP fun hk => (hG P hk).2 rfl, g2.heap (w := W1.drew) hb1 fun hk => n1 (hG B hk).1⟩
  clear hS hP hR hgo hG H1 h HB HD hb1 hb2 n1 n2
  go_enter Tryz.func134, Tryz.ntmps134
  go_upto_region 1 with fail
  rw [hB0] at *
  rw [E1.out]
  refine wp_region_lexO S (fun k => [9].contains k) [0, 1, 2, 3, 4, 5, 6, 7, 8, 9, 10, 11] rfl (by kernel_rfl) (by kernel_rfl) (by kernel_rfl) (fun _ _ _ _ _ h => h) HS0.out ?_
  generalize World.drew W1 = W0 at *
  clear HS0
  iterate 9 (refine wpHo_yes (v := ?_) rfl rfl rfl (fun w' hS => ?_) ?_; rotate_left; (obtain ⟨f0, f1⟩ := HZL.out w' hS; go_simp; with_reducible rfl); (try simp only [List.getElem_toArray, List.getElem_cons_succ, List.getElem_cons_zero, Act.put, List.setIfInBounds_toArray, List.set_cons_zero, List.set_cons_succ]))
  refine wpHo_callYes rfl rfl rfl (fun K hK => ?_)
  go_simp
  go_at_call 110
  refine (HC.out _).mono ?_
  rintro e w' ⟨rfl, hT⟩
  obtain ⟨hS1, F', hF'⟩ := HSt.out _ _ hT
  clear hT
  refine hK _ _ hS1 (fun _ => ?_)
  (try simp only [List.getElem_toArray, List.getElem_cons_succ, List.getElem_cons_zero, Act.put, List.setIfInBounds_toArray, List.set_cons_zero, List.set_cons_succ])
  clear hK K
  iterate 2 (refine wpHo_yes (v := ?_) rfl rfl rfl (fun w' hS => ?_) ?_; rotate_left; (obtain ⟨f0, f1⟩ := HZL.out w' hS; go_simp; with_reducible rfl); (try simp only [List.getElem_toArray, List.getElem_cons_succ, List.getElem_cons_zero, Act.put, List.setIfInBounds_toArray, List.set_cons_zero, List.set_cons_succ]))
  show Exit.then _ _ _ _ _
  go_wp2_with fail
  go_ret
  exact ⟨x, _, b, F', rfl, hF', Dn.wr_leaf (num_len10 hn) (fun o => e3), fun _ _ => rfl, fun s hs => by cases hs⟩
 | rd r =>
  obtain ⟨D, G, hP, hR, hG, hgo⟩ := H1.read_
  have hD := hG D hR.fD
  have e2 : IntKind.u32.wrap ((rdNum most r).1 : Int) = ((rdNum most r).1 : Int) := by have := rdNum_le most r; rw [IntKind.wrap_u32]; omega
  obtain ⟨S, hS⟩ : ∃ S : World → Prop, S = fun V => V.cell? ⟨P, 0, none⟩ = some (.pointer none) ∧ V.heap[B]? = some (.cells #[.pointer (some ⟨P, 0, none⟩)] 121 (0, 0)) := ⟨_, rfl⟩
  have hP0 := blk_cell (i := 0) hP rfl
  have HZL : Hid (∀ V, S V → V.cell? ⟨P, 0, none⟩ = some (.pointer none) ∧ V.cell? ⟨B, 0, none⟩ = some (.pointer (some ⟨P, 0, none⟩))) := fun V hV => by
   rw [hS] at hV
   exact ⟨hV.1, blk_cell hV.2 rfl⟩
  have HS0 : Hid (S W1.drew) := by show S _; rw [hS]; exact ⟨hP0, hb1⟩
  have HC : Hid (∀ v wf, Calls Tryz.prog 110 #[.pointer (some ⟨P, 0, none⟩), v, wf, .func (.func 154) #[] #[.pointer (some ⟨B, 0, none⟩), .pointer (some ⟨B + 1, 0, none⟩)]] W1.drew fun e w' => ∃ v, e = .returned v ∧ (v = .int .u64 ((rdNum most r).1 : Int) ∧ PsTo W1.drew w' P (.rd (rdNum most r).2) b F F)) := fun v wf =>
   ptoldU_rd P D v wf 154 (fun _ _ => by kernel_rfl) #[] #[.pointer (some ⟨B, 0, none⟩), .pointer (some ⟨B + 1, 0, none⟩)] b _ W1.drew hP (pnumberW1_any P B (B + 1) most hm r b F W1.drew (H1.below HD) hb1 hb2 n1 n2)
  have HSt : Hid (∀ w', PsTo W1.drew w' P (.rd (rdNum most r).2) b F F → S w' ∧ PsTo w w' P (.rd (rdNum most r).2) b F F) := fun w' hT => by
   refine ⟨?_, (hT.from_ HD).from_ (hB0 ▸ HB)⟩
   rw [hS]
   obtain ⟨_, _, q, _⟩ := hT.at_.ok
   exact ⟨blk_cell q rfl, hT.off.heap (w := W1.drew) hb1 n1⟩
  clear hS hP hR hgo hG H1 h HB HD hb1 hb2 n1 n2
  go_enter Tryz.func134, Tryz.ntmps134
  go_upto_region 1 with fail
  rw [hB0] at *
  rw [E1.out]
  refine wp_region_lexO S (fun k => [9].contains k) [0, 1, 2, 3, 4, 5, 6, 7, 8, 9, 10, 11] rfl (by kernel_rfl) (by kernel_rfl) (by kernel_rfl) (fun _ _ _ _ _ h => h) HS0.out ?_
  generalize World.drew W1 = W0 at *
  clear HS0
  iterate 9 (refine wpHo_yes (v := ?_) rfl rfl rfl (fun w' hS => ?_) ?_; rotate_left; (obtain ⟨f0, f1⟩ := HZL.out w' hS; go_simp; with_reducible rfl); (try simp only [List.getElem_toArray, List.getElem_cons_succ, List.getElem_cons_zero, Act.put, List.setIfInBounds_toArray, List.set_cons_zero, List.set_cons_succ]))
  refine wpHo_callYes rfl rfl rfl (fun K hK => ?_)
  go_simp
  go_at_call 110
  refine (HC.out _ _).mono ?_
  rintro e w' ⟨_, rfl, rfl, hT⟩
  obtain ⟨hS1, hF'⟩ := HSt.out _ hT
  clear hT
  refine hK _ _ hS1 (fun _ => ?_)
  (try simp only [List.getElem_toArray, List.getElem_cons_succ, List.getElem_cons_zero, Act.put, List.setIfInBounds_toArray, List.set_cons_zero, List.set_cons_succ])
  clear hK K
  iterate 2 (refine wpHo_yes (v := ?_) rfl rfl rfl (fun w' hS => ?_) ?_; rotate_left; (obtain ⟨f0, f1⟩ := HZL.out w' hS; go_simp; with_reducible rfl); (try simp only [List.getElem_toArray, List.getElem_cons_succ, List.getElem_cons_zero, Act.put, List.setIfInBounds_toArray, List.set_cons_zero, List.set_cons_succ]))
  show Exit.then _ _ _ _ _
  go_wp2_with fail
  go_ret
  exact ⟨_, _, b, F, rfl, hF', Dn.rd_leaf (fun _ => rfl), fun s hs => (by cases hs), fun r' hr' => by cases hr'; have := rdNum_le most r; first | exact ⟨by omega, by omega⟩ | exact this⟩
theorem pnumberW_any (P : Nat) (x : Nat) (most : Nat) (hm : most ≤ 4294967295) (hx : x ≤ 4294967295) (m : Md) (b : Bool) (F : Nat → Prop) (w : World) (h : PsAt w P m b F) (hr : m.Room 10) :
  Calls Tryz.prog 134 #[.pointer (some ⟨P, 0, none⟩), .int .u32 (x : Int), .int .u32 (most : Int)] w (Tel (fun y : Nat => .int .u32 (y : Int)) (cdNum most) x P m b F w) :=
 (pnumberWB_any P x most hm hx m b F w h hr).mono fun _e _w' ⟨y, m', b', F', q1, q2, q3, q4, _⟩ => ⟨y, m', b', F', q1, q2, q3, q4⟩
set_option maxRecDepth 100000 in
set_option maxHeartbeats 1000000 in
theorem pnumberU1_any (P B1 B2 most : Nat) (hm : most ≤ 18446744073709551615) (r : Rd) (b : Bool) (F : Nat → Prop) (w : World) (h : PsAt w P (.rd r) b F) (h1 : w.heap[B1]? = some (.cells #[.pointer (some ⟨P, 0, none⟩)] 121 (0, 0))) (h2 : w.heap[B2]? = some (.cells #[.int .u64 (most : Int)] 23 (0, 0))) (n1 : ¬ F B1) (n2 : ¬ F B2) :
  Calls Tryz.prog 153 #[.pointer (some ⟨B1, 0, none⟩), .pointer (some ⟨B2, 0, none⟩)] w fun e w' => ∃ v, e = .returned v ∧ (v = .int .u64 ((rdNum most r).1 : Int) ∧ PsTo w w' P (.rd (rdNum most r).2) b F F) := by
 obtain ⟨D, G, hP, hR, hG, hgo⟩ := h.read_
 have hD := hG D hR.fD
 have HC := Lib.hid (rd_number D most (by omega) r G w.drew (hR.below (Below.refl _ _).drew))
 obtain ⟨S, hS⟩ : ∃ S : World → Prop, S = fun V => V.heap[P]? = some (.cells #[.pointer none, .pointer (some ⟨D, 0, none⟩), .bool b] 126 (0, 0)) ∧ V.heap[B1]? = some (.cells #[.pointer (some ⟨P, 0, none⟩)] 121 (0, 0)) ∧ V.heap[B2]? = some (.cells #[.int .u64 (most : Int)] 23 (0, 0)) := ⟨_, rfl⟩
 have HZL : Hid (∀ V, S V → V.cell? ⟨P, 1, none⟩ = some (.pointer (some ⟨D, 0, none⟩)) ∧ V.cell? ⟨B1, 0, none⟩ = some (.pointer (some ⟨P, 0, none⟩)) ∧ V.cell? ⟨B2, 0, none⟩ = some (.int .u64 (most : Int))) := fun V hV => by
  rw [hS] at hV
  exact ⟨blk_cell hV.1 rfl, blk_cell hV.2.1 rfl, blk_cell hV.2.2 rfl⟩
 have HS0 : Hid (S w.drew) := by show S _; rw [hS]; exact ⟨hP, h1, h2⟩
 have HSt : Hid (∀ w' r', RdTo w.drew w' D r' G → S w' ∧ PsTo w w' P (.rd r') b F F) := fun w' r' hT => by
  have hT' : RdTo w w' D r' G := ⟨hT.1, (Off.of_below (Below.refl _ _).drew).trans' hT.2⟩
  have ht := hgo w' r' hT'
  refine ⟨?_, ht⟩
  rw [hS]
  exact ⟨hT'.2.heap hP fun e => hD.2 e.symm, ht.off.heap h1 n1, ht.off.heap h2 n2⟩
 clear hS hP hR hgo h h1 h2 n1 n2
 go_enter Tryz.func153, Tryz.ntmps153
 go_upto_region 1 with fail
 refine wp_region_lexO S (fun k => [5].contains k) [0, 1, 2, 3, 4, 5, 6] rfl (by kernel_rfl) (by kernel_rfl) (by kernel_rfl) (fun _ _ _ _ _ h => h) HS0.out ?_
 generalize World.drew w = W0 at *
 iterate 5 (refine wpHo_yes (v := ?_) rfl rfl rfl (fun w' hS => ?_) ?_; rotate_left; (obtain ⟨f0, f1, f2⟩ := HZL.out w' hS; go_simp; with_reducible rfl); (try simp only [List.getElem_toArray, List.getElem_cons_succ, List.getElem_cons_zero, Act.put, List.setIfInBounds_toArray, List.set_cons_zero, List.set_cons_succ]))
 refine wpHo_callYes rfl rfl rfl (fun K hK => ?_)
 go_simp
 go_at_call 113
 refine HC.out.mono ?_
 rintro e w' ⟨rfl, hT⟩
 obtain ⟨hS1, hT1⟩ := HSt.out _ _ hT
 clear hT
 refine hK _ _ hS1 (fun _ => ?_)
 (try simp only [List.getElem_toArray, List.getElem_cons_succ, List.getElem_cons_zero, Act.put, List.setIfInBounds_toArray, List.set_cons_zero, List.set_cons_succ])
 clear hK K
 iterate 1 (refine wpHo_yes (v := ?_) rfl rfl rfl (fun w' hS => ?_) ?_; rotate_left; (obtain ⟨f0, f1, f2⟩ := HZL.out w' hS; go_simp; with_reducible rfl); (try simp only [List.getElem_toArray, List.getElem_cons_succ, List.getElem_cons_zero, Act.put, List.setIfInBounds_toArray, List.set_cons_zero, List.set_cons_succ]))
 show Exit.then _ _ _ _ _
 go_wp2_with fail
 go_ret
 exact ⟨_, rfl, rfl, hT1⟩
set_option maxRecDepth 100000 in
set_option maxHeartbeats 1000000 in
theorem pnumberUB_any (P : Nat) (x : Nat) (most : Nat) (hm : most ≤ 18446744073709551615) (hx : x ≤ 18446744073709551615) (m : Md) (b : Bool) (F : Nat → Prop) (w : World) (h : PsAt w P m b F) (hr : m.Room 10) :
  Calls Tryz.prog 114 #[.pointer (some ⟨P, 0, none⟩), .int .u64 (x : Int), .int .u64 (most : Int)] w (TelB (fun y : Nat => .int .u64 (y : Int)) (cdNum most) x P m b F w (fun y => 0 ≤ y ∧ y ≤ most)) := by
 obtain ⟨W1, hW1⟩ : ∃ W1, ((w.alloc (.cells #[.pointer (some ⟨P, 0, none⟩)] 121)).alloc (.cells #[.int .u64 (most : Int)] 23)) = W1 := ⟨_, rfl⟩
 have HB : Below w.heap.size w W1 := by rw [← hW1]; exact ((Below.refl _ _).alloc (Nat.le_refl _) _).alloc (by simp) _
 have hb1 : W1.heap[w.heap.size]? = some (.cells #[.pointer (some ⟨P, 0, none⟩)] 121 (0, 0)) := by rw [← hW1, heap_alloc_old _ _ (by simp), heap_alloc_new]
 have hb2 : W1.heap[w.heap.size + 1]? = some (.cells #[.int .u64 (most : Int)] 23 (0, 0)) := by rw [← hW1]; exact heap_alloc_new2 _ _ _
 have n1 : ¬ F w.heap.size := h.not (Nat.le_refl _)
 have n2 : ¬ F (w.heap.size + 1) := h.not (by omega)
 have E1 := Lib.hid hW1
 have H1 := h.below HB
 have HD := Below.refl W1.heap.size W1 |>.drew
 generalize hB0 : w.heap.size = B at *
 clear hW1
 cases m with
 | wr l =>
  obtain ⟨D, G, hP, hR, hG, hgo⟩ := H1.wrote
  have hn : x < 18446744073709551616 := by omega
  obtain ⟨S, hS⟩ : ∃ S : World → Prop, S = fun V => V.heap[P]? = some (.cells #[.pointer (some ⟨D, 0, none⟩), .pointer none, .bool b] 126 (0, 0)) ∧ V.heap[B]? = some (.cells #[.pointer (some ⟨P, 0, none⟩)] 121 (0, 0)) := ⟨_, rfl⟩
  have HZL : Hid (∀ V, S V → V.cell? ⟨P, 0, none⟩ = some (.pointer (some ⟨D, 0, none⟩)) ∧ V.cell? ⟨B, 0, none⟩ = some (.pointer (some ⟨P, 0, none⟩))) := fun V hV => by
   rw [hS] at hV
   exact ⟨blk_cell hV.1 rfl, blk_cell hV.2 rfl⟩
  have HS0 : Hid (S W1.drew) := by show S _; rw [hS]; exact ⟨hP, hb1⟩
  have HC : Hid (∀ rf, Calls Tryz.prog 110 #[.pointer (some ⟨P, 0, none⟩), .int .u64 (x : Int), .func (.func 111) #[.pointer (some ⟨D, 0, none⟩)] #[], rf] W1.drew fun e w' => e = .returned (.int .u64 (x : Int)) ∧ WrTo W1.drew w' D (l ++ numT x) G) := fun rf =>
   ptoldU_wr P D x hn l b G rf hr.wr W1.drew hP (hR.below HD)
  have HSt : Hid (∀ w' l', WrTo W1.drew w' D l' G → S w' ∧ ∃ F', PsTo w w' P (.wr l') b F F') := fun w' l' hT => by
   obtain ⟨G', g1, g2, g3⟩ := hT
   obtain ⟨F', hF'⟩ := hgo w' l' ⟨G', g1, (Off.of_below HD).trans' g2, g3⟩
   refine ⟨?_, F', hF'.from_ (hB0 ▸ HB)⟩
   rw [hS]
   exact ⟨g2.heap (w := W1.drew) hP fun hk => (hG P hk).2 rfl, g2.heap (w := W1.drew) hb1 fun hk => n1 (hG B hk).1⟩
  clear hS hP hR hgo hG H1 h HB HD hb1 hb2 n1 n2
  go_enter Tryz.func114, Tryz.ntmps114
  go_upto_region 1 with fail
  rw [hB0] at *
  rw [E1.out]
  refine wp_region_lexO S (fun k => [8].contains k) [0, 1, 2, 3, 4, 5, 6, 7, 8, 9] rfl (by kernel_rfl) (by kernel_rfl) (by kernel_rfl) (fun _ _ _ _ _ h => h) HS0.out ?_
  generalize World.drew W1 = W0 at *
  clear HS0
  iterate 8 (refine wpHo_yes (v := ?_) rfl rfl rfl (fun w' hS => ?_) ?_; rotate_left; (obtain ⟨f0, f1⟩ := HZL.out w' hS; go_simp; with_reducible rfl); (try simp only [List.getElem_toArray, List.getElem_cons_succ, List.getElem_cons_zero, Act.put, List.setIfInBounds_toArray, List.set_cons_zero, List.set_cons_succ]))
  refine wpHo_callYes rfl rfl rfl (fun K hK => ?_)
  go_simp
  go_at_call 110
  refine (HC.out _).mono ?_
  rintro e w' ⟨rfl, hT⟩
  obtain ⟨hS1, F', hF'⟩ := HSt.out _ _ hT
  clear hT
  refine hK _ _ hS1 (fun _ => ?_)
  (try simp only [List.getElem_toArray, List.getElem_cons_succ, List.getElem_cons_zero, Act.put, List.setIfInBounds_toArray, List.set_cons_zero, List.set_cons_succ])
  clear hK K
  iterate 1 (refine wpHo_yes (v := ?_) rfl rfl rfl (fun w' hS => ?_) ?_; rotate_left; (obtain ⟨f0, f1⟩ := HZL.out w' hS; go_simp; with_reducible rfl); (try simp only [List.getElem_toArray, List.getElem_cons_succ, List.getElem_cons_zero, Act.put, List.setIfInBounds_toArray, List.set_cons_zero, List.set_cons_succ]))
  show Exit.then _ _ _ _ _
  go_wp2_with fail
  go_ret
  exact ⟨x, _, b, F', rfl, hF', Dn.wr_leaf (num_len10 hn) (fun o => rfl), fun _ _ => rfl, fun s hs => by cases hs⟩
 | rd r =>
  obtain ⟨D, G, hP, hR, hG, hgo⟩ := H1.read_
  have hD := hG D hR.fD
  obtain ⟨S, hS⟩ : ∃ S : World → Prop, S = fun V => V.cell? ⟨P, 0, none⟩ = some (.pointer none) ∧ V.heap[B]? = some (.cells #[.pointer (some ⟨P, 0, none⟩)] 121 (0, 0)) := ⟨_, rfl⟩
  have hP0 := blk_cell (i := 0) hP rfl
  have HZL : Hid (∀ V, S V → V.cell? ⟨P, 0, none⟩ = some (.pointer none) ∧ V.cell? ⟨B, 0, none⟩ = some (.pointer (some ⟨P, 0, none⟩))) := fun V hV => by
   rw [hS] at hV
   exact ⟨hV.1, blk_cell hV.2 rfl⟩
  have HS0 : Hid (S W1.drew) := by show S _; rw [hS]; exact ⟨hP0, hb1⟩
  have HC : Hid (∀ v wf, Calls Tryz.prog 110 #[.pointer (some ⟨P, 0, none⟩), v, wf, .func (.func 153) #[] #[.pointer (some ⟨B, 0, none⟩), .pointer (some ⟨B + 1, 0, none⟩)]] W1.drew fun e w' => ∃ v, e = .returned v ∧ (v = .int .u64 ((rdNum most r).1 : Int) ∧ PsTo W1.drew w' P (.rd (rdNum most r).2) b F F)) := fun v wf =>
   ptoldU_rd P D v wf 153 (fun _ _ => by kernel_rfl) #[] #[.pointer (some ⟨B, 0, none⟩), .pointer (some ⟨B + 1, 0, none⟩)] b _ W1.drew hP (pnumberU1_any P B (B + 1) most hm r b F W1.drew (H1.below HD) hb1 hb2 n1 n2)
  have HSt : Hid (∀ w', PsTo W1.drew w' P (.rd (rdNum most r).2) b F F → S w' ∧ PsTo w w' P (.rd (rdNum most r).2) b F F) := fun w' hT => by
   refine ⟨?_, (hT.from_ HD).from_ (hB0 ▸ HB)⟩
   rw [hS]
   obtain ⟨_, _, q, _⟩ := hT.at_.ok
   exact ⟨blk_cell q rfl, hT.off.heap (w := W1.drew) hb1 n1⟩
  clear hS hP hR hgo hG H1 h HB HD hb1 hb2 n1 n2
  go_enter Tryz.func114, Tryz.ntmps114
  go_upto_region 1 with fail
  rw [hB0] at *
  rw [E1.out]
  refine wp_region_lexO S (fun k => [8].contains k) [0, 1, 2, 3, 4, 5, 6, 7, 8, 9] rfl (by kernel_rfl) (by kernel_rfl) (by kernel_rfl) (fun _ _ _ _ _ h => h) HS0.out ?_
  generalize World.drew W1 = W0 at *
  clear HS0
  iterate 8 (refine wpHo_yes (v := ?_) rfl rfl rfl (fun w' hS => ?_) ?_; rotate_left; (obtain ⟨f0, f1⟩ := HZL.out w' hS; go_simp; with_reducible rfl); (try simp only [List.getElem_toArray, List.getElem_cons_succ, List.getElem_cons_zero, Act.put, List.setIfInBounds_toArray, List.set_cons_zero, List.set_cons_succ]))
  refine wpHo_callYes rfl rfl rfl (fun K hK => ?_)
  go_simp
  go_at_call 110
  refine (HC.out _ _).mono ?_
  rintro e w' ⟨_, rfl, rfl, hT⟩
  obtain ⟨hS1, hF'⟩ := HSt.out _ hT
  clear hT
  refine hK _ _ hS1 (fun _ => ?_)
  (try simp only [List.getElem_toArray, List.getElem_cons_succ, List.getElem_cons_zero, Act.put, List.setIfInBounds_toArray, List.set_cons_zero, List.set_cons_succ])
  clear hK K
  iterate 1 (refine wpHo_yes (v := ?_) rfl rfl rfl (fun w' hS => ?_) ?_; rotate_left; (obtain ⟨f0, f1⟩ := HZL.out w' hS; go_simp; with_reducible rfl); (try simp only [List.getElem_toArray, List.getElem_cons_succ, List.getElem_cons_zero, Act.put, List.setIfInBounds_toArray, List.set_cons_zero, List.set_cons_succ]))
  show Exit.then _ _ _ _ _
  go_wp2_with fail
  go_ret
  exact ⟨_, _, b, F, rfl, hF', Dn.rd_leaf (fun _ => rfl), fun s hs => (by cases hs), fun r' hr' => by cases hr'; have := rdNum_le most r; first | exact ⟨by omega, by omega⟩ | exact this⟩
theorem pnumberU_any (P : Nat) (x : Nat) (most : Nat) (hm : most ≤ 18446744073709551615) (hx : x ≤ 18446744073709551615) (m : Md) (b : Bool) (F : Nat → Prop) (w : World) (h : PsAt w P m b F) (hr : m.Room 10) :
  Calls Tryz.prog 114 #[.pointer (some ⟨P, 0, none⟩), .int .u64 (x : Int), .int .u64 (most : Int)] w (Tel (fun y : Nat => .int .u64 (y : Int)) (cdNum most) x P m b F w) :=
 (pnumberUB_any P x most hm hx m b F w h hr).mono fun _e _w' ⟨y, m', b', F', q1, q2, q3, q4, _⟩ => ⟨y, m', b', F', q1, q2, q3, q4⟩
end Go.Proofs.YtdhinjbkfffpeaaGreat
end
section
namespace Go.Proofs.YtdhinjbkfffpeaaGreat
open Go.ChangeShapes Go.WideShapes Go.ChangeAt Go.RowKit Go.Joins Sp Fr Pk
set_option maxRecDepth 100000 in
set_option maxHeartbeats 1000000 in
theorem psigned_any (P : Nat) (x : Int) (hx : I64 x) (m : Md) (b : Bool) (F : Nat → Prop) (w : World) (h : PsAt w P m b F) (hr : m.Room 10) :
  Calls Tryz.prog 90 #[.pointer (some ⟨P, 0, none⟩), .int .i64 x] w (Tel (fun y : Int => .int .i64 y) cdSig x P m b F w) := by
 have HD := Below.refl w.heap.size w |>.drew
 cases m with
 | wr l =>
  obtain ⟨D, G, hP, hR, hG, hgo⟩ := h.wrote
  have HLF := Lib.hid (by show (numT (zig x)).length ≤ 10; exact num_len10 (by unfold zig; unfold I64 at hx; split <;> omega))
  obtain ⟨S, hS⟩ : ∃ S : World → Prop, S = fun V => V.heap[P]? = some (.cells #[.pointer (some ⟨D, 0, none⟩), .pointer none, .bool b] 126 (0, 0)) := ⟨_, rfl⟩
  have HZL : Hid (∀ V, S V → V.cell? ⟨P, 0, none⟩ = some (.pointer (some ⟨D, 0, none⟩)) ∧ V.cell? ⟨P, 1, none⟩ = some (.pointer none)) := fun V hV => by
   rw [hS] at hV
   exact ⟨blk_cell hV rfl, blk_cell hV rfl⟩
  have HS0 : Hid (S w.drew) := by show S _; rw [hS]; exact hP
  have HC : Hid (∀ rf, Calls Tryz.prog 128 #[.pointer (some ⟨P, 0, none⟩), .int .i64 x, .func (.func 129) #[.pointer (some ⟨D, 0, none⟩)] #[], rf] w.drew fun e w' => e = .returned (.int .i64 x) ∧ WrTo w.drew w' D (l ++ zigT x) G) := fun rf =>
   ptoldZ_wr P D x hx l b G rf hr.wr w.drew hP (hR.below HD)
  have HSt : Hid (∀ w' l', WrTo w.drew w' D l' G → S w' ∧ ∃ F', PsTo w w' P (.wr l') b F F') := fun w' l' hT => by
   obtain ⟨G', g1, g2, g3⟩ := hT
   obtain ⟨F', hF'⟩ := hgo w' l' ⟨G', g1, (Off.of_below HD).trans' g2, g3⟩
   refine ⟨?_, F', hF'⟩
   rw [hS]
   exact g2.heap (w := w.drew) hP fun hk => (hG P hk).2 rfl
  clear hP hR hgo hG h HD
  clear hS
  go_enter Tryz.func90, Tryz.ntmps90
  go_upto_region 1 with fail
  refine wp_region_lexO S (fun k => [12].contains k) [0, 1, 2, 3, 4, 5, 6, 7, 8, 9, 10, 11, 12, 13] rfl (by kernel_rfl) (by kernel_rfl) (by kernel_rfl) (fun _ _ _ _ _ h => h) HS0.out ?_
  generalize World.drew w = W0 at *
  clear HS0
  iterate 12 (refine wpHo_yes (v := ?_) rfl rfl rfl (fun w' hS => ?_) ?_; rotate_left; (obtain ⟨f0, f1⟩ := HZL.out w' hS; go_simp; with_reducible rfl); (try simp only [List.getElem_toArray, List.getElem_cons_succ, List.getElem_cons_zero, Act.put, List.setIfInBounds_toArray, List.set_cons_zero, List.set_cons_succ]))
  refine wpHo_callYes rfl rfl rfl (fun K hK => ?_)
  go_simp
  go_at_call 128
  refine (HC.out _).mono ?_
  rintro e w' ⟨rfl, hT⟩
  obtain ⟨hS1, F', hF'⟩ := HSt.out _ _ hT
  clear hT
  refine hK _ _ hS1 (fun _ => ?_)
  (try simp only [List.getElem_toArray, List.getElem_cons_succ, List.getElem_cons_zero, Act.put, List.setIfInBounds_toArray, List.set_cons_zero, List.set_cons_succ])
  clear hK K
  iterate 1 (refine wpHo_yes (v := ?_) rfl rfl rfl (fun w' hS => ?_) ?_; rotate_left; (obtain ⟨f0, f1⟩ := HZL.out w' hS; go_simp; with_reducible rfl); (try simp only [List.getElem_toArray, List.getElem_cons_succ, List.getElem_cons_zero, Act.put, List.setIfInBounds_toArray, List.set_cons_zero, List.set_cons_succ]))
  show Exit.then _ _ _ _ _
  go_wp2_with fail
  go_ret
  exact ⟨x, _, b, F', rfl, hF', Dn.wr_leaf HLF.out (fun o => rfl), fun _ _ => rfl⟩
 | rd r =>
  obtain ⟨D, G, hP, hR, hG, hgo⟩ := h.read_
  have hD := hG D hR.fD
  obtain ⟨S, hS⟩ : ∃ S : World → Prop, S = fun V => V.heap[P]? = some (.cells #[.pointer none, .pointer (some ⟨D, 0, none⟩), .bool b] 126 (0, 0)) := ⟨_, rfl⟩
  have HZL : Hid (∀ V, S V → V.cell? ⟨P, 0, none⟩ = some (.pointer none) ∧ V.cell? ⟨P, 1, none⟩ = some (.pointer (some ⟨D, 0, none⟩))) := fun V hV => by
   rw [hS] at hV
   exact ⟨blk_cell hV rfl, blk_cell hV rfl⟩
  have HS0 : Hid (S w.drew) := by show S _; rw [hS]; exact hP
  have HC : Hid (∀ v wf, Calls Tryz.prog 128 #[.pointer (some ⟨P, 0, none⟩), v, wf, .func (.func 130) #[.pointer (some ⟨D, 0, none⟩)] #[]] w.drew fun e w' => ∃ v, e = .returned v ∧ (v = .int .i64 (rdSig r).1 ∧ RdTo w.drew w' D (rdSig r).2 G)) := fun v wf =>
   ptoldZ_rd P D v wf 130 (fun _ _ => by kernel_rfl) #[.pointer (some ⟨D, 0, none⟩)] #[] b _ w.drew hP ((rd_signed D r G w.drew (hR.below HD)).mono fun e w' hq => ⟨_, hq.1, rfl, hq.2⟩)
  have HSt : Hid (∀ w' r', RdTo w.drew w' D r' G → S w' ∧ PsTo w w' P (.rd r') b F F) := fun w' r' hT => by
   refine ⟨?_, hgo w' r' ⟨hT.1, (Off.of_below HD).trans' hT.2⟩⟩
   rw [hS]
   exact hT.2.heap (w := w.drew) hP fun e => hD.2 e.symm
  clear hP hR hgo hG h HD
  clear hS
  go_enter Tryz.func90, Tryz.ntmps90
  go_upto_region 1 with fail
  refine wp_region_lexO S (fun k => [12].contains k) [0, 1, 2, 3, 4, 5, 6, 7, 8, 9, 10, 11, 12, 13] rfl (by kernel_rfl) (by kernel_rfl) (by kernel_rfl) (fun _ _ _ _ _ h => h) HS0.out ?_
  generalize World.drew w = W0 at *
  clear HS0
  iterate 12 (refine wpHo_yes (v := ?_) rfl rfl rfl (fun w' hS => ?_) ?_; rotate_left; (obtain ⟨f0, f1⟩ := HZL.out w' hS; go_simp; with_reducible rfl); (try simp only [List.getElem_toArray, List.getElem_cons_succ, List.getElem_cons_zero, Act.put, List.setIfInBounds_toArray, List.set_cons_zero, List.set_cons_succ]))
  refine wpHo_callYes rfl rfl rfl (fun K hK => ?_)
  go_simp
  go_at_call 128
  refine (HC.out _ _).mono ?_
  rintro e w' ⟨_, rfl, rfl, hT⟩
  obtain ⟨hS1, hF'⟩ := HSt.out _ _ hT
  clear hT
  refine hK _ _ hS1 (fun _ => ?_)
  (try simp only [List.getElem_toArray, List.getElem_cons_succ, List.getElem_cons_zero, Act.put, List.setIfInBounds_toArray, List.set_cons_zero, List.set_cons_succ])
  clear hK K
  iterate 1 (refine wpHo_yes (v := ?_) rfl rfl rfl (fun w' hS => ?_) ?_; rotate_left; (obtain ⟨f0, f1⟩ := HZL.out w' hS; go_simp; with_reducible rfl); (try simp only [List.getElem_toArray, List.getElem_cons_succ, List.getElem_cons_zero, Act.put, List.setIfInBounds_toArray, List.set_cons_zero, List.set_cons_succ]))
  show Exit.then _ _ _ _ _
  go_wp2_with fail
  go_ret
  exact ⟨_, _, b, F, rfl, hF', Dn.rd_leaf (fun _ => rfl), fun s hs => by cases hs⟩
set_option maxRecDepth 100000 in
set_option maxHeartbeats 1000000 in
theorem pflag_any (P : Nat) (x : Bool) (m : Md) (b : Bool) (F : Nat → Prop) (w : World) (h : PsAt w P m b F) (hr : m.Room 10) :
  Calls Tryz.prog 65 #[.pointer (some ⟨P, 0, none⟩), .bool x] w (Tel (fun y : Bool => .bool y) cdFlag x P m b F w) := by
 have HD := Below.refl w.heap.size w |>.drew
 cases m with
 | wr l =>
  obtain ⟨D, G, hP, hR, hG, hgo⟩ := h.wrote
  have HLF := Lib.hid (by show (flagT x).length ≤ 10; rw [flag_num]; exact num_len10 (by split <;> omega))
  obtain ⟨S, hS⟩ : ∃ S : World → Prop, S = fun V => V.heap[P]? = some (.cells #[.pointer (some ⟨D, 0, none⟩), .pointer none, .bool b] 126 (0, 0)) := ⟨_, rfl⟩
  have HZL : Hid (∀ V, S V → V.cell? ⟨P, 0, none⟩ = some (.pointer (some ⟨D, 0, none⟩)) ∧ V.cell? ⟨P, 1, none⟩ = some (.pointer none)) := fun V hV => by
   rw [hS] at hV
   exact ⟨blk_cell hV rfl, blk_cell hV rfl⟩
  have HS0 : Hid (S w.drew) := by show S _; rw [hS]; exact hP
  have HC : Hid (∀ rf, Calls Tryz.prog 119 #[.pointer (some ⟨P, 0, none⟩), .bool x, .func (.func 120) #[.pointer (some ⟨D, 0, none⟩)] #[], rf] w.drew fun e w' => e = .returned (.bool x) ∧ WrTo w.drew w' D (l ++ flagT x) G) := fun rf =>
   ptoldF_wr P D x l b G rf hr.wr w.drew hP (hR.below HD)
  have HSt : Hid (∀ w' l', WrTo w.drew w' D l' G → S w' ∧ ∃ F', PsTo w w' P (.wr l') b F F') := fun w' l' hT => by
   obtain ⟨G', g1, g2, g3⟩ := hT
   obtain ⟨F', hF'⟩ := hgo w' l' ⟨G', g1, (Off.of_below HD).trans' g2, g3⟩
   refine ⟨?_, F', hF'⟩
   rw [hS]
   exact g2.heap (w := w.drew) hP fun hk => (hG P hk).2 rfl
  clear hP hR hgo hG h HD
  clear hS
  go_enter Tryz.func65, Tryz.ntmps65
  go_upto_region 1 with fail
  refine wp_region_lexO S (fun k => [12].contains k) [0, 1, 2, 3, 4, 5, 6, 7, 8, 9, 10, 11, 12, 13] rfl (by kernel_rfl) (by kernel_rfl) (by kernel_rfl) (fun _ _ _ _ _ h => h) HS0.out ?_
  generalize World.drew w = W0 at *
  clear HS0
  iterate 12 (refine wpHo_yes (v := ?_) rfl rfl rfl (fun w' hS => ?_) ?_; rotate_left; (obtain ⟨f0, f1⟩ := HZL.out w' hS; go_simp; with_reducible rfl); (try simp only [List.getElem_toArray, List.getElem_cons_succ, List.getElem_cons_zero, Act.put, List.setIfInBounds_toArray, List.set_cons_zero, List.set_cons_succ]))
  refine wpHo_callYes rfl rfl rfl (fun K hK => ?_)
  go_simp
  go_at_call 119
  refine (HC.out _).mono ?_
  rintro e w' ⟨rfl, hT⟩
  obtain ⟨hS1, F', hF'⟩ := HSt.out _ _ hT
  clear hT
  refine hK _ _ hS1 (fun _ => ?_)
  (try simp only [List.getElem_toArray, List.getElem_cons_succ, List.getElem_cons_zero, Act.put, List.setIfInBounds_toArray, List.set_cons_zero, List.set_cons_succ])
  clear hK K
  iterate 1 (refine wpHo_yes (v := ?_) rfl rfl rfl (fun w' hS => ?_) ?_; rotate_left; (obtain ⟨f0, f1⟩ := HZL.out w' hS; go_simp; with_reducible rfl); (try simp only [List.getElem_toArray, List.getElem_cons_succ, List.getElem_cons_zero, Act.put, List.setIfInBounds_toArray, List.set_cons_zero, List.set_cons_succ]))
  show Exit.then _ _ _ _ _
  go_wp2_with fail
  go_ret
  exact ⟨x, _, b, F', rfl, hF', Dn.wr_leaf HLF.out (fun o => rfl), fun _ _ => rfl⟩
 | rd r =>
  obtain ⟨D, G, hP, hR, hG, hgo⟩ := h.read_
  have hD := hG D hR.fD
  obtain ⟨S, hS⟩ : ∃ S : World → Prop, S = fun V => V.heap[P]? = some (.cells #[.pointer none, .pointer (some ⟨D, 0, none⟩), .bool b] 126 (0, 0)) := ⟨_, rfl⟩
  have HZL : Hid (∀ V, S V → V.cell? ⟨P, 0, none⟩ = some (.pointer none) ∧ V.cell? ⟨P, 1, none⟩ = some (.pointer (some ⟨D, 0, none⟩))) := fun V hV => by
   rw [hS] at hV
   exact ⟨blk_cell hV rfl, blk_cell hV rfl⟩
  have HS0 : Hid (S w.drew) := by show S _; rw [hS]; exact hP
  have HC : Hid (∀ v wf, Calls Tryz.prog 119 #[.pointer (some ⟨P, 0, none⟩), v, wf, .func (.func 121) #[.pointer (some ⟨D, 0, none⟩)] #[]] w.drew fun e w' => ∃ v, e = .returned v ∧ (v = .bool (rdFlag r).1 ∧ RdTo w.drew w' D (rdFlag r).2 G)) := fun v wf =>
   ptoldF_rd P D v wf 121 (fun _ _ => by kernel_rfl) #[.pointer (some ⟨D, 0, none⟩)] #[] b _ w.drew hP ((rd_flag D r G w.drew (hR.below HD)).mono fun e w' hq => ⟨_, hq.1, rfl, hq.2⟩)
  have HSt : Hid (∀ w' r', RdTo w.drew w' D r' G → S w' ∧ PsTo w w' P (.rd r') b F F) := fun w' r' hT => by
   refine ⟨?_, hgo w' r' ⟨hT.1, (Off.of_below HD).trans' hT.2⟩⟩
   rw [hS]
   exact hT.2.heap (w := w.drew) hP fun e => hD.2 e.symm
  clear hP hR hgo hG h HD
  clear hS
  go_enter Tryz.func65, Tryz.ntmps65
  go_upto_region 1 with fail
  refine wp_region_lexO S (fun k => [12].contains k) [0, 1, 2, 3, 4, 5, 6, 7, 8, 9, 10, 11, 12, 13] rfl (by kernel_rfl) (by kernel_rfl) (by kernel_rfl) (fun _ _ _ _ _ h => h) HS0.out ?_
  generalize World.drew w = W0 at *
  clear HS0
  iterate 12 (refine wpHo_yes (v := ?_) rfl rfl rfl (fun w' hS => ?_) ?_; rotate_left; (obtain ⟨f0, f1⟩ := HZL.out w' hS; go_simp; with_reducible rfl); (try simp only [List.getElem_toArray, List.getElem_cons_succ, List.getElem_cons_zero, Act.put, List.setIfInBounds_toArray, List.set_cons_zero, List.set_cons_succ]))
  refine wpHo_callYes rfl rfl rfl (fun K hK => ?_)
  go_simp
  go_at_call 119
  refine (HC.out _ _).mono ?_
  rintro e w' ⟨_, rfl, rfl, hT⟩
  obtain ⟨hS1, hF'⟩ := HSt.out _ _ hT
  clear hT
  refine hK _ _ hS1 (fun _ => ?_)
  (try simp only [List.getElem_toArray, List.getElem_cons_succ, List.getElem_cons_zero, Act.put, List.setIfInBounds_toArray, List.set_cons_zero, List.set_cons_succ])
  clear hK K
  iterate 1 (refine wpHo_yes (v := ?_) rfl rfl rfl (fun w' hS => ?_) ?_; rotate_left; (obtain ⟨f0, f1⟩ := HZL.out w' hS; go_simp; with_reducible rfl); (try simp only [List.getElem_toArray, List.getElem_cons_succ, List.getElem_cons_zero, Act.put, List.setIfInBounds_toArray, List.set_cons_zero, List.set_cons_succ]))
  show Exit.then _ _ _ _ _
  go_wp2_with fail
  go_ret
  exact ⟨_, _, b, F, rfl, hF', Dn.rd_leaf (fun _ => rfl), fun s hs => by cases hs⟩
set_option maxRecDepth 100000 in
set_option maxHeartbeats 1000000 in
theorem pmust_any (P : Nat) (is : Bool) (m : Md) (b : Bool) (F : Nat → Prop) (w : World) (h : PsAt w P m b F) :
  Calls Tryz.prog 67 #[.pointer (some ⟨P, 0, none⟩), .bool is] w fun e w' => e = .returned (.tuple #[]) ∧ PsTo w w' P m (b || !is) F F := by
 obtain ⟨x, y, hc⟩ := h.cells
 have c2 := blk_cell (i := 2) hc rfl
 have f2 := blk_free hc 2
 have H := Lib.hid h
 clear h hc
 cases is with
 | true =>
  go_enter Tryz.func67, Tryz.ntmps67
  go_wp2_with fail
  first | go_end0 | refine bodyPost_ret (results_none rfl _ _ _) rfl ?_
  refine ⟨rfl, ?_⟩
  rw [show (b || !true) = b by simp]
  exact H.out.self
 | false =>
  go_enter Tryz.func67, Tryz.ntmps67
  go_wp2_with fail
  first | go_end0 | refine bodyPost_ret (results_none rfl _ _ _) rfl ?_
  refine ⟨rfl, ?_⟩
  rw [show (b || !false) = true by simp]
  exact H.out.wrong true
set_option maxRecDepth 100000 in
set_option maxHeartbeats 1000000 in
theorem pwithin_any (P : Nat) (x : Int) (far : Nat) (hfar : far ≤ 1000000) (hx : I64 x) (m : Md) (b : Bool) (F : Nat → Prop) (w : World) (h : PsAt w P m b F) (hr : m.Room 10) :
  Calls Tryz.prog 135 #[.pointer (some ⟨P, 0, none⟩), .int .i64 x, .int .i64 (far : Int)] w (Tel (fun y : Int => .int .i64 y) (cdZ (-(far : Int)) far) x P m b F w) := by
 have HC := Lib.hid (psigned_any P x hx m b F w h hr)
 have HM := Lib.hid (fun is m b F w h => pmust_any P is m b F w h)
 have e1 : IntKind.i64.wrap (-(far : Int)) = -(far : Int) := by rw [IntKind.wrap_i64]; omega
 clear h hr
 go_enter Tryz.func135, Tryz.ntmps135
 go_wp2_with fail
 go_at_call 90
 refine HC.out.mono ?_
 rintro e w1 ⟨y, m1, b1, F1, rfl, hT, hD, hy⟩
 have HT := Lib.hid hT
 have HDn := Lib.hid hD
 have HY := Lib.hid hy
 have HX : Hid (I64 x) := hx
 clear hT hD hy HC hx hfar
 have hfin : ∀ t w2, t = (decide (-(far : Int) ≤ y) && decide (y ≤ (far : Int))) → PsTo w1 w2 P m1 (b1 || !t) F1 F1 → Tel (fun y : Int => .int .i64 y) (cdZ (-(far : Int)) far) x P m b F w (.returned (.int .i64 y)) w2 := fun t w2 ht hq =>
  ⟨y, m1, _, F1, rfl, HT.out.trans hq, HDn.out.must (D := cdZ (-(far : Int)) far) (fun n => decide (-(far : Int) ≤ n) && decide (n ≤ (far : Int))) ht rfl (Nat.le_refl _) (fun o => ⟨HX.out, by have o1 := o.1; have o2 := o.2; simp [o1, o2]⟩) (fun _ => rfl) (fun _ => rfl), HY.out⟩
 have HF := Lib.hid hfin
 clear hfin
 by_cases c1 : -(far : Int) ≤ y
 ·by_cases c2 : y ≤ (far : Int)
  ·go_wp2_with fail
   go_at_call 67
   refine (HM.out true _ _ _ _ HT.out.at_).mono ?_
   rintro e w2 ⟨rfl, hq⟩
   go_wp2_with fail
   go_ret
   exact HF.out true w2 (by simp [c1, c2]) hq
  ·have c2' : (far : Int) < y := by omega
   go_wp2_with fail
   go_at_call 67
   refine (HM.out (decide (y ≤ (far : Int))) _ _ _ _ HT.out.at_).mono ?_
   rintro e w2 ⟨rfl, hq⟩
   go_wp2_with fail
   go_ret
   exact HF.out _ w2 (by simp [c1]) hq
 ·have c1' : y < -(far : Int) := by omega
  go_wp2_with fail
  go_at_call 67
  refine (HM.out false _ _ _ _ HT.out.at_).mono ?_
  rintro e w2 ⟨rfl, hq⟩
  go_wp2_with fail
  go_ret
  exact HF.out false w2 (by rw [decide_eq_false (by omega : ¬ -(far : Int) ≤ y)]; rfl) hq
set_option maxRecDepth 100000 in
set_option maxHeartbeats 1000000 in
theorem pid_any (P : Nat) (x : Nat) (hx : U32 x) (m : Md) (b : Bool) (F : Nat → Prop) (w : World) (h : PsAt w P m b F) (hr : m.Room 10) :
  Calls Tryz.prog 103 #[.pointer (some ⟨P, 0, none⟩), .int .u32 (x : Int)] w (Tel (fun y : Nat => .int .u32 (y : Int)) (cdNum 4294967295) x P m b F w) := by
 have HC := Lib.hid (pnumberW_any P x 4294967295 (by omega) (by unfold U32 at hx; omega) m b F w h hr)
 clear h hr
 go_enter Tryz.func103, Tryz.ntmps103
 go_wp2_with fail
 go_at_call 134
 refine HC.out.mono ?_
 rintro e w1 ⟨y, m1, b1, F1, rfl, hT⟩
 go_wp2_with fail
 go_ret
 exact ⟨y, m1, b1, F1, rfl, hT⟩
set_option maxRecDepth 100000 in
set_option maxHeartbeats 1000000 in
theorem panyNumber_any (P : Nat) (x : Nat) (hx : U64 x) (m : Md) (b : Bool) (F : Nat → Prop) (w : World) (h : PsAt w P m b F) (hr : m.Room 10) :
  Calls Tryz.prog 61 #[.pointer (some ⟨P, 0, none⟩), .int .u64 (x : Int)] w (Tel (fun y : Nat => .int .u64 (y : Int)) (cdNum 18446744073709551615) x P m b F w) := by
 have HC := Lib.hid (pnumberU_any P x 18446744073709551615 (by omega) (by unfold U64 at hx; omega) m b F w h hr)
 clear h hr
 go_enter Tryz.func61, Tryz.ntmps61
 go_wp2_with fail
 go_at_call 114
 refine HC.out.mono ?_
 rintro e w1 ⟨y, m1, b1, F1, rfl, hT⟩
 go_wp2_with fail
 go_ret
 exact ⟨y, m1, b1, F1, rfl, hT⟩
set_option maxRecDepth 100000 in
set_option maxHeartbeats 1000000 in
theorem plong_any (P : Nat) (x : Int) (hx : I64 x) (m : Md) (b : Bool) (F : Nat → Prop) (w : World) (h : PsAt w P m b F) (hr : m.Room 10) :
  Calls Tryz.prog 142 #[.pointer (some ⟨P, 0, none⟩), .int .i64 x] w (Tel (fun y : Int => .int .i64 y) (cdInt 10080) x P m b F w) := by
 have HC := Lib.hid (pnumberI_any P x 10080 (by omega) (hx) m b F w h hr)
 clear h hr
 go_enter Tryz.func142, Tryz.ntmps142
 go_wp2_with fail
 go_at_call 102
 refine HC.out.mono ?_
 rintro e w1 ⟨y, m1, b1, F1, rfl, hT⟩
 go_wp2_with fail
 go_ret
 exact ⟨y, m1, b1, F1, rfl, hT⟩
set_option maxRecDepth 100000 in
set_option maxHeartbeats 1000000 in
theorem pplace_any (P : Nat) (x : Int) (hx : I64 x) (m : Md) (b : Bool) (F : Nat → Prop) (w : World) (h : PsAt w P m b F) (hr : m.Room 10) :
  Calls Tryz.prog 108 #[.pointer (some ⟨P, 0, none⟩), .int .i64 x] w (Tel (fun y : Int => .int .i64 y) (cdInt 40) x P m b F w) := by
 have HC := Lib.hid (pnumberI_any P x 40 (by omega) (hx) m b F w h hr)
 clear h hr
 go_enter Tryz.func108, Tryz.ntmps108
 go_wp2_with fail
 go_at_call 102
 refine HC.out.mono ?_
 rintro e w1 ⟨y, m1, b1, F1, rfl, hT⟩
 go_wp2_with fail
 go_ret
 exact ⟨y, m1, b1, F1, rfl, hT⟩
set_option maxRecDepth 100000 in
set_option maxHeartbeats 1000000 in
theorem pweekday_any (P : Nat) (x : Int) (hx : I64 x) (m : Md) (b : Bool) (F : Nat → Prop) (w : World) (h : PsAt w P m b F) (hr : m.Room 10) :
  Calls Tryz.prog 159 #[.pointer (some ⟨P, 0, none⟩), .int .i64 x] w (Tel (fun y : Int => .int .i64 y) (cdInt 6) x P m b F w) := by
 have HC := Lib.hid (pnumberI_any P x 6 (by omega) (hx) m b F w h hr)
 clear h hr
 go_enter Tryz.func159, Tryz.ntmps159
 go_wp2_with fail
 go_at_call 102
 refine HC.out.mono ?_
 rintro e w1 ⟨y, m1, b1, F1, rfl, hT⟩
 go_wp2_with fail
 go_ret
 exact ⟨y, m1, b1, F1, rfl, hT⟩
set_option maxRecDepth 100000 in
set_option maxHeartbeats 1000000 in
theorem pdayOff_any (P : Nat) (x : Int) (hx : I64 x) (m : Md) (b : Bool) (F : Nat → Prop) (w : World) (h : PsAt w P m b F) (hr : m.Room 10) :
  Calls Tryz.prog 141 #[.pointer (some ⟨P, 0, none⟩), .int .i64 x] w (Tel (fun y : Int => .int .i64 y) (cdInt 109937) x P m b F w) := by
 have HC := Lib.hid (pnumberI_any P x 109937 (by omega) (hx) m b F w h hr)
 clear h hr
 go_enter Tryz.func141, Tryz.ntmps141
 go_wp2_with fail
 go_at_call 102
 refine HC.out.mono ?_
 rintro e w1 ⟨y, m1, b1, F1, rfl, hT⟩
 go_wp2_with fail
 go_ret
 exact ⟨y, m1, b1, F1, rfl, hT⟩
end Go.Proofs.YtdhinjbkfffpeaaGreat
end
