/- Contracts of the program's weekdays. -/
import Derived.RangeFuncFrom
import Derived.Test.YtdokniohjdlmfaaDoorCW10
namespace Go.Proofs.YtdokniohjdlmfaaDoor
open Go.RowKit Go.Shelf Ck

attribute [local go_sem] Oper.semAt_some

/-- The names of the days, in the program's table. -/
def Names (w : World) : Prop := ∀ i, i < 7 → w.cell? ⟨0, i, none⟩ = some (.string ⟨(nm i).toArray⟩)
theorem Names.below {w w' : World} (h : Names w) (hb : Below w.heap.size w w') : Names w' := fun i hi => cell_old (h i hi) hb

theorem cell_new_l (W : World) (v : Value) (t : TypeId) : (W.alloc (.cells #[v] t)).cell? ⟨W.heap.size, 0, none⟩ = some v ∧ (W.alloc (.cells #[v] t)).frozen? ⟨W.heap.size, 0, none⟩ = false := by
  refine ⟨?_, World.frozen?_alloc_at #[v] t _ _ rfl⟩
  rw [World.cell?_alloc_mark]; rfl
theorem cell_alloc_l {W : World} {a : Addr} {v : Value} (o : Obj) (h : W.cell? a = some v) : (W.alloc o).cell? a = some v := cell_kept h (World.grownBy_alloc W o none) (fun r e => by cases e)
theorem frozen_alloc_l {W : World} {a : Addr} {v : Value} (o : Obj) (h : W.cell? a = some v) (hf : W.frozen? a = false) : (W.alloc o).frozen? a = false := (frozen_kept h (World.grownBy_alloc W o none) (fun r e => by cases e)).trans hf

set_option maxRecDepth 100000 in
set_option maxHeartbeats 2000000 in
theorem weekdays_in (F : Fence) (n : Nat) (h19 : F.fn 19) (h35 : F.fn 35) (h50 : F.fn 50) (hro : F.round = none) (hn : 3 ≤ n) (set : Int) (h0 : 1 ≤ set) (hs : set < 128) (w : World) (hN : Names w) :
    CallsIn F n Tryd.prog 19 #[.int .i64 set] w fun e W' => e = .returned (.tuple #[.string ⟨(wt (dl set 7)).toArray⟩, .bool true]) ∧ Below w.heap.size w W' := by
  have h1 : 1 ≤ n := by omega
  have q0 : decide (set < 0) = false := decide_eq_false (by omega)
  have q1 : decide (127 < set) = false := decide_eq_false (by omega)
  have q2 : (set == 0) = false := beq_false_of_ne (by omega)
  refine callsIn_of_wp_marks Tryd.func19 rfl h19 ?_ hro
  simp only [Tryd.ntmps19, List.size_toArray, List.length_cons, List.length_nil, Nat.reduceAdd, Nat.reduceSub, Array.replicate_succ, Array.replicate_zero, List.push_toArray, List.append_toArray, List.nil_append, List.cons_append]
  gi_wp2_with (gi_at_call 35; refine (days_in F (n - 1) h35 hro set _).mono ?_; rintro e w' ⟨rfl, rfl⟩)
  have hs1 := cell_new_l w (.string ⟨#[]⟩) 9
  have hb1 := cell_new_l (w.alloc (.cells #[.string ⟨#[]⟩] 9)) (.int .i64 set) 3
  rw [World.size_alloc] at hb1
  have hB0 : Below w.heap.size w ((w.alloc (.cells #[.string ⟨#[]⟩] 9)).alloc (.cells #[.int .i64 set] 3)) := ((Below.refl _ w).alloc (Nat.le_refl _) _).alloc (by simp) _
  refine wpIn_rangeFunc_ownF hro h1 (gf := 50) (lb := #[.pointer (some ⟨w.heap.size + 1, 0, none⟩)]) rfl h50 (enters_of Tryd.func50 (by kernel_rfl) rfl)
    (days_stops F (n - 1) h50 hro (by omega) (w.heap.size + 1) set (by omega) hs _ (by simp) hb1.1) kpC_t (kpC_b (by simp)) (Below.refl _ _) (fun _ => rfl)
    (fun pre W => (W.cell? ⟨w.heap.size, 0, none⟩ = some (.string ⟨(wt pre).toArray⟩) ∧ W.frozen? ⟨w.heap.size, 0, none⟩ = false) ∧ Below w.heap.size w W)
    (fun _ _ _ => False)
    (OwnFrom.and (Own.from (fun s A B row hs hg hr => ⟨cell_kept hs.1 hg hr, (frozen_kept hs.1 hg hr).trans hs.2⟩) _) (ownFrom_below (Nat.le_refl _) (by simp; omega)))
    (fun _ _ _ _ _ hs _ _ => hs)
    ⟨⟨cell_alloc_l _ hs1.1, frozen_alloc_l _ hs1.1 hs1.2⟩, hB0⟩
    (fun x => { tmps := #[Value.int IntKind.i64 set, undef, Value.string { data := #[] }, Value.bool false, Value.pointer (some { block := w.heap.size, off := 0 }), .int .i64 (x.val : Int), Value.int IntKind.i64 set, Value.bool false,
          Value.bool false, Value.int IntKind.i64 set, Value.bool false, Value.bool false, Value.int IntKind.i64 set, Value.bool false, Value.int IntKind.i64 set,
          Value.func (Fn.func 50) #[] #[Value.pointer (some { block := w.heap.size + 1, off := 0 })], .int .i64 (x.val : Int), undef, undef, undef, undef, undef, undef, undef, undef, undef, undef], defers := [] }) ?assign ?body ?done ?stop
  case assign =>
    intro l x W K hK
    gi_wp2
    exact hK
  case body =>
    rintro l pre x W ⟨⟨hc, hf⟩, hB⟩ hlen
    have hmx : Tryd.prog.follows .mixedOrders = true := by kernel_rfl
    obtain ⟨x, hx⟩ := x
    have hl := wt_len pre
    have hxz : (x : Int) < 7 := by omega
    have hx0 : (0 : Int) ≤ (x : Int) := by omega
    have hname := hN.below hB x hx
    have hname2 : ∀ v, (W.setCell ⟨w.heap.size, 0, none⟩ v).cell? ⟨0, x, none⟩ = some (.string ⟨(nm x).toArray⟩) := fun v => by
      rw [World.cell?_setCell_other _ _ _ _ (by intro e; have := congrArg Addr.block e; simp only at this; have := World.block_lt_of_cell? _ _ (hN x hx); omega)]; exact hname
    have hnl : (nm x).length ≤ 10 := by rw [nm_len]; omega
    have HW : Hid (wt (pre ++ [⟨x, hx⟩]) = wtS (wt pre) ⟨x, hx⟩) := wt_snoc _ _
    have hlw : w.heap.size < W.heap.size := World.block_lt_of_cell? _ _ hc
    have hl2 : (wt pre).length ≤ 18 := by omega
    generalize wt pre = t at *
    cases t with
    | nil =>
      have HE : Hid (wt (pre ++ [⟨x, hx⟩]) = nm x) := by show _ = _; rw [HW.out]; rfl
      clear HW
      gi_wp2
      gi_region_o
      all_goals gi_wp2
      all_goals (try go_bits)
      all_goals exact ⟨(KeepsOthers.setCell _ _ _).trans (KeepsOthers.drew _), (World.cell?_setCell_other _ _ _ _ (by intro e; have := congrArg Addr.block e; simp at this)), ⟨by rw [HE.out]; exact (World.cell?_setCell_same' _ _ _ (by rw [hc]; rfl)).trans (congrArg (fun z => some (Value.string z)) (ByteArray.mk_append_mk [] (nm x))), by rw [frozen_drew_own, World.frozen?_setCell]; exact hf⟩, (hB.setCell (p := ⟨w.heap.size, 0, none⟩) (Nat.le_refl _) _).drew⟩
    | cons c r =>
      have HE : Hid (wt (pre ++ [⟨x, hx⟩]) = c :: r ++ [44] ++ nm x) := by show _ = _; rw [HW.out]; rfl
      clear HW
      have hoth : ∀ (A : World) (v : Value), (A.setCell ⟨w.heap.size, 0, none⟩ v).cell? ⟨w.heap.size + 1, 0, none⟩ = A.cell? ⟨w.heap.size + 1, 0, none⟩ := fun A v => World.cell?_setCell_other _ _ _ _ (by intro e; have := congrArg Addr.block e; simp at this)
      have hr : r.length ≤ 17 := by simpa using hl2
      clear hl hl2
      gi_wp2
      gi_region_o
      all_goals gi_wp2
      all_goals (try go_bits)
      all_goals exact ⟨((KeepsOthers.setCell _ _ _).trans (KeepsOthers.setCell _ _ _)).trans (KeepsOthers.drew _), (hoth _ _).trans (hoth _ _), ⟨by rw [HE.out]; exact (World.cell?_setCell_same' _ _ _ (by rw [World.cell?_setCell_same' _ _ _ (by rw [hc]; rfl)]; rfl)).trans (congrArg (fun z => some (Value.string z)) (app3 (c :: r) [44] (nm x))), by rw [frozen_drew_own, World.frozen?_setCell, World.frozen?_setCell]; exact hf⟩, ((hB.setCell (p := ⟨w.heap.size, 0, none⟩) (Nat.le_refl _) _).setCell (p := ⟨w.heap.size, 0, none⟩) (Nat.le_refl _) _).drew⟩
  case done =>
    rintro D ys W hD rfl ⟨⟨hc, _⟩, hB⟩ hK
    gi_wp2
    refine ⟨by simp, .inl ⟨_, _, rfl, run_takeDeferred hK, ?_⟩⟩
    exact ⟨_, results_tmp2 rfl _ _ _, rfl, hB.trans (belowK_b (w := w) (Nat.le_refl _) W D _ _ (by simp at hD; omega) hK rfl rfl)⟩
  case stop =>
    rintro D c pre W _ _ h _
    exact h.elim

theorem wdI_some : ∀ n : Fin 128, n.val ≠ 0 → wdI (n.val : Int) 7 ≠ [] := by decide +kernel
theorem wdT_zero : wdT 0 = [45] := by decide
theorem weekdays_no (n : Int) (h : n < 0 ∨ 127 < n) (w : World) :
    Calls Tryd.prog 19 #[.int .i64 n] w fun e w' => e = .returned (.tuple #[.string ⟨#[]⟩, .bool false]) ∧ w = w' := by
  rcases h with h | h
  · go_enter Tryd.func19, Tryd.ntmps19
    go_wp2
    go_ret2
    exact ⟨rfl, rfl⟩
  · have h0 : decide (n < 0) = false := decide_eq_false (by omega)
    go_enter Tryd.func19, Tryd.ntmps19
    go_wp2
    go_ret2
    exact ⟨rfl, rfl⟩
theorem weekdays_zero (w : World) :
    Calls Tryd.prog 19 #[.int .i64 0] w fun e w' => e = .returned (.tuple #[.string ⟨#[45]⟩, .bool true]) ∧ w = w' := by
  go_enter Tryd.func19, Tryd.ntmps19
  go_wp2
  go_ret2
  exact ⟨rfl, rfl⟩
theorem weekdays_yes (n : Int) (h0 : 0 ≤ n) (h1 : n < 128) (w : World) (hN : Names w) :
    Calls Tryd.prog 19 #[.int .i64 n] w fun e w' => e = .returned (.tuple #[.string ⟨(wdT n).toArray⟩, .bool true]) ∧ Below w.heap.size w w' := by
  by_cases hz : n = 0
  · subst hz
    rw [wdT_zero]
    exact (weekdays_zero w).mono fun e w' ⟨a, b⟩ => ⟨a, by rw [← b]; exact Below.refl _ _⟩
  · have := callsIn_wide.1 (weekdays_in Fence.wide 9 trivial trivial trivial rfl (by omega) n (by omega) h1 w hN)
    have hne := wdI_some ⟨n.toNat, by omega⟩ (by simp; omega)
    rw [show (((⟨n.toNat, by omega⟩ : Fin 128).val : Nat) : Int) = n by simp; omega] at hne
    have e : wdT n = wdI n 7 := by unfold wdT; rw [if_neg hne]
    rw [wt_dl n 7 (Nat.le_refl _), ← e] at this
    exact this
end Go.Proofs.YtdokniohjdlmfaaDoor
