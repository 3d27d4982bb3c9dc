/- The laws' walks: what a log should have behind an operation. -/
import Derived.Test.YtabknmlnlhflmaaDoorVL1
namespace Go.Proofs.YtabknmlnlhflmaaDoor
open Go.ChangeShapes Go.WideShapes Go.ChangeAt Go.RowKit Go.Joins Dm Fr Vl

/-- 'append' of a row onto one of the call's own, wherever the row stands, in a region that draws its order. -/
theorem step_append_sl {P : Program} {ops : Array Oper} {o : Oper} {a : Act} {w : World} {K : Act → World → Prop} {Q : Exit → Act → World → Prop} {E : Prop} (hgd : o.guard = none) (s x : Operand) (t : TypeId)
    (ho : o.op = .call { callee := .builtin .append, args := #[s, x], argTypes := #[t, t] })
    (base : Nat) (e : TypeId) (i : TypeInfo) (z : Value) (size bytes : Nat) (ht : P.underlying t = some (.slice e)) (hi : P.info? e = some i) (hz : i.zero = some z)
    (hsize : i.size = size) (hby : i.bytes = bytes) (hzs : z.cells.size = size) (hsz : 0 < size)
    (v : Value) (n : Nat) (xs : List Value) (hs : a.eval s = v) (hown : w.ownsRow base e size v n xs)
    (A : Option Addr) (m c : Nat) (news : List Value) (hx : a.eval x = .slice A m c) (hsl : Sl w A m c news) (hl : news.length = m * size) (h1 : ∀ u ∈ news, u.oneCell' = true)
    (h63 : n + m ≤ maxLen) (hbytes : (n + m) * bytes ≤ 140737488355328) (hbase : base ≤ w.heap.size)
    (h : ∀ v' w', w'.ownsRow base e size v' (n + m) (xs ++ news) → w.grownBy w' v.ownBlock → K (a.put o.dst v') w') : if Region.wanted o (yielded ops a.tmps) = true then Oper.wp P o a w K Q else E := by
  have hw : Region.wanted o (yielded ops a.tmps) = true := by simp [Region.wanted, hgd]
  rw [if_pos hw]
  cases A with
  | none =>
    obtain rfl : c = 0 := hsl.nil rfl
    obtain rfl : m = 0 := Nat.le_zero.1 hsl.le
    obtain rfl : news = [] := List.eq_nil_of_length_eq_zero (by simpa using hl)
    have hrun := run_append_owned_none (P := P) (w := w) base t o.type e i size ht hi v n xs hown
    unfold Oper.wp
    simp [execOp, ho, resolve, invoke, builtin, hs, hx, hrun, Result.andThen]
    exact h v w (by simpa using hown) ⟨rfl, rfl, rfl, Nat.le_refl _, fun _ _ _ => rfl⟩
  | some ad =>
    refine wp_append_own w s x t ho base e i z size bytes ht hi hz hsize hby hzs hsz v n xs hs hown ad m c news hx hl (fun j u hu => ?_) h1 h63 hbytes hbase fun v' w' h2 h3 _ => h v' w' h2 h3
    obtain ⟨b, off, e, _, hc⟩ := hsl.at_ hu
    obtain rfl := Option.some.inj e
    rw [show (⟨b, off, none⟩ : Addr).add j = ⟨b, off + j, none⟩ by unfold Addr.add; split <;> simp_all]
    exact hc

/-- Texts as cells. -/
def strV (ls : List (List UInt8)) : List Value := ls.map fun l => Value.string ⟨l.toArray⟩
theorem strV_len (ls : List (List UInt8)) : (strV ls).length = ls.length := by simp [strV]
theorem strV_one (ls : List (List UInt8)) : ∀ u ∈ strV ls, u.oneCell' = true := by
  intro u hu
  obtain ⟨c, _, rfl⟩ := List.mem_map.1 hu
  simp [Value.oneCell']
theorem strV_at {ls : List (List UInt8)} {i : Nat} {l : List UInt8} (h : ls[i]? = some l) : (strV ls)[i]? = some (.string ⟨l.toArray⟩) := by simp [strV, h]
theorem str_info : (Tryd.prog.info? 9).map (fun i => (i.zero, i.size, i.bytes)) = some (some (.string ⟨#[]⟩), 1, 16) := by kernel_rfl

set_option maxRecDepth 100000 in
set_option maxHeartbeats 2000000 in
theorem with_compact (gen : Nat) (s : ByteArray) (A : Option Addr) (n c : Nat) (Ab : Option Addr) (cb : Nat) (b : List UInt8) (x y : Value) (hg : gen + 1 < 4294967296) (w : World) (hB : BAt w Ab b) :
    Calls Tryd.prog 12 #[.agg #[.int .u32 gen, .string s, .slice A n c], .agg #[.int .i64 1, .slice Ab b.length cb, x, y]] w fun e w' => e = .returned (.agg #[.int .u32 (gen + 1 : Nat), .string ⟨b.toArray⟩, .slice none 0 0]) ∧ Below w.heap.size w w' := by
  have hw1 : IntKind.u32.wrap ((gen : Int) + 1) = ((gen + 1 : Nat) : Int) := by rw [IntKind.wrap_u32]; omega
  have hcv : ∀ o1 o2 o3, (convert 23 9 (.slice Ab b.length cb)).run Tryd.prog (((w.alloc o1).alloc o2).alloc o3) = .ok (.string ⟨b.toArray⟩) (((w.alloc o1).alloc o2).alloc o3) := fun o1 o2 o3 =>
    (hB.below ((((Below.refl _ w).alloc (Nat.le_refl _) o1).alloc (by simp) o2).alloc (by simp; omega) o3) (Nat.le_refl _)).conv cb Tryd.underlying23 Tryd.underlying5 Tryd.underlying9
  clear hB
  go_enter Tryd.func12, Tryd.ntmps12
  go_wp2_with fail
  refine bodyPost_ret (v := .agg #[.int .u32 ((gen : Int) + 1), .string ⟨b.toArray⟩, .slice none 0 0]) (by simp [results, Tryd.results12, go_sem]) rfl ⟨by rw [show (gen : Int) + 1 = ((gen + 1 : Nat) : Int) by omega], ((((Below.refl _ w).alloc (Nat.le_refl _) _).alloc (by simp) _).alloc (by simp; omega) _)⟩

set_option maxRecDepth 100000 in
set_option maxHeartbeats 4000000 in
theorem with_append (gen : Nat) (s : ByteArray) (A : Option Addr) (c : Nat) (ls : List (List UInt8)) (Ab : Option Addr) (cb : Nat) (b : List UInt8) (x y : Value) (hn : ls.length ≤ 1000) (w : World) (hB : BAt w Ab b) (hL : Sl w A ls.length c (strV ls)) :
    Calls Tryd.prog 12 #[.agg #[.int .u32 gen, .string s, .slice A ls.length c], .agg #[.int .i64 0, .slice Ab b.length cb, x, y]] w fun e w' => ∃ g cap, e = .returned (.agg #[.int .u32 gen, .string s, .slice (some ⟨g, 0, none⟩) (ls.length + 1) cap]) ∧ Sl w' (some ⟨g, 0, none⟩) (ls.length + 1) cap (strV (ls ++ [b])) ∧ Below w.heap.size w w' ∧ w.heap.size ≤ g := by
  obtain ⟨i0, hi0, hq0, hq1, hq2⟩ := info_parts str_info
  obtain ⟨W3, hW3⟩ : ∃ W3, ((w.alloc (.cells #[.int .u32 gen, .string s, .slice A ls.length c] 39)).alloc (.cells #[.int .i64 0, .slice Ab b.length cb, x, y] 41)).alloc (.cells #[.int .u32 0, .string ⟨#[]⟩, .slice none 0 0] 39) = W3 := ⟨_, rfl⟩
  have hb3 : Below w.heap.size w W3 := by rw [← hW3]; exact (((Below.refl _ w).alloc (Nat.le_refl _) _).alloc (by simp) _).alloc (by simp; omega) _
  have hsz : W3.heap.size = w.heap.size + 3 := by rw [← hW3]; simp
  have k0 : W3.cell? ⟨w.heap.size, 0, none⟩ = some (.int .u32 gen) := by rw [← hW3]; simp [go_sem]
  have k1 : W3.cell? ⟨w.heap.size, 1, none⟩ = some (.string s) := by rw [← hW3]; simp [go_sem]
  have k2 : W3.cell? ⟨w.heap.size, 2, none⟩ = some (.slice A ls.length c) := by rw [← hW3]; simp [go_sem]
  have p1 : W3.cell? ⟨w.heap.size + 1, 1, none⟩ = some (.slice Ab b.length cb) := by rw [← hW3]; simp [go_sem]
  have q0 : OutAt W3 (w.heap.size + 1 + 1) 39 (.int .u32 0) (.string ⟨#[]⟩) (.slice none 0 0) := by
    unfold OutAt
    rw [← hW3, show w.heap.size + 1 + 1 = ((w.alloc (.cells #[.int .u32 gen, .string s, .slice A ls.length c] 39)).alloc (.cells #[.int .i64 0, .slice Ab b.length cb, x, y] 41)).heap.size by simp]
    exact heap_alloc_new _ _
  -- in whatever world that W3 has grown into
  have hK : ∀ w', Below W3.heap.size W3 w' → w'.cell? ⟨w.heap.size, 2, none⟩ = some (.slice A ls.length c) ∧ w'.cell? ⟨w.heap.size + 1, 1, none⟩ = some (.slice Ab b.length cb) := fun w' h => ⟨cell_old k2 h, cell_old p1 h⟩
  have hCV : ∀ w', Below W3.heap.size W3 w' → (convert 23 9 (.slice Ab b.length cb)).run Tryd.prog w' = .ok (.string ⟨b.toArray⟩) w' := fun w' h => ((hB.below hb3 (Nat.le_refl _)).below h (Nat.le_refl _)).conv cb Tryd.underlying23 Tryd.underlying5 Tryd.underlying9
  have hSL : ∀ w', Below W3.heap.size W3 w' → Sl w' A ls.length c (strV ls) := fun w' h => (hL.below hb3 (Nat.le_refl _)).below h (Nat.le_refl _)
  have HW := Lib.hid hW3
  have HK := Lib.hid hK
  have HKB : Hid (∀ w', Below W3.heap.size W3 w' → w'.cell? ⟨w.heap.size, 2, none⟩ = some (.slice A ls.length c) ∧ w'.cell? ⟨w.heap.size + 1, 1, none⟩ = some (.slice Ab b.length cb) ∧ BAt w' Ab b) := fun w' h => ⟨cell_old k2 h, cell_old p1 h, (hB.below hb3 (Nat.le_refl _)).below h (Nat.le_refl _)⟩
  have HCV := Lib.hid hCV
  have HSL := Lib.hid hSL
  have HB3 := Lib.hid hb3
  have HSZ := Lib.hid hsz
  have HQ := Lib.hid q0
  have HK0 := Lib.hid k0
  have HK1 := Lib.hid k1
  clear hB hL hW3 hb3 hsz k0 k1 q0 hK hCV hSL k2 p1
  go_enter Tryd.func12, Tryd.ntmps12
  go_upto_region 3 with fail
  rw [HW.out]
  go_cut [5] from 16 (fun s5 wx => ∃ g cap, s5 = .slice (some ⟨g, 0, none⟩) (ls.length + 1) cap ∧ Hid (Below W3.heap.size W3 wx) ∧ Hid (wx.ownsRow W3.heap.size 9 1 (.slice (some ⟨g, 0, none⟩) (ls.length + 1) cap) (ls.length + 1) (strV (ls ++ [b]))))
  case first =>
    have B3 := Below.refl W3.heap.size W3
    have HOB : Hid (∀ o, ((W3.alloc o).alloc (.cells #[] 9)).drew.ownsRow W3.heap.size 9 1 (.slice (some ⟨W3.heap.size + 1, 0, none⟩) 0 0) 0 []) := fun o => by
      have := (World.ownsRow_made (base := W3.heap.size) (e := 9) (size := 1) (W3.alloc o) #[] 0 (by simp) (by decide) rfl).drew
      rw [show (W3.alloc o).heap.size = W3.heap.size + 1 by simp] at this
      exact this
    have HN1 : Hid (∀ o2, ((W3.alloc (.cells #[] 9)).alloc o2).drew.heap[W3.heap.size + 1]? = some o2) := fun o2 => by
      rw [show W3.heap.size + 1 = (W3.alloc (.cells #[] 9)).heap.size by simp]
      exact heap_alloc_new _ _
    have HN2 : Hid (∀ o1 o2, ((W3.alloc o1).alloc o2).drew.heap[W3.heap.size]? = some o1) := fun o1 o2 => by
      show ((W3.alloc o1).alloc o2).heap[W3.heap.size]? = _
      rw [heap_alloc_old _ _ (by simp)]
      exact heap_alloc_new _ _
    have hcv : ∀ w', BAt w' Ab b → (convert 23 9 (.slice Ab b.length cb)).run Tryd.prog w' = .ok (.string ⟨b.toArray⟩) w' := fun w' h => h.conv cb Tryd.underlying23 Tryd.underlying5 Tryd.underlying9
    go_region_held3 (fun w' => w'.cell? ⟨w.heap.size, 2, none⟩ = some (.slice A ls.length c) ∧ w'.cell? ⟨w.heap.size + 1, 1, none⟩ = some (.slice Ab b.length cb) ∧ BAt w' Ab b)
      (first
        | exact HKB.out _ B3.drew | exact HKB.out _ (B3.alloc (Nat.le_refl _) _).drew | exact HKB.out _ (B3.drew.alloc (Nat.le_refl _) _)
        | exact HKB.out _ (((B3.alloc (Nat.le_refl _) _).alloc (by simp) _).drew) | exact HKB.out _ (((B3.alloc (Nat.le_refl _) _).drew.alloc (by simp) _)) | exact HKB.out _ (((B3.drew.alloc (Nat.le_refl _) _).alloc (by simp) _))
        | exact HKB.out _ HBY.out | exact HKB.out _ HBX.out | exact HKB.out _ (HBX.out.alloc HBX.out.size _))
      (first
        | (refine step_append_sl (by rfl) _ _ _ (by rfl) W3.heap.size 9 i0 _ 1 16 Tryd.underlying37 hi0 hq0 hq1 hq2 rfl (by decide) (.slice (some ⟨W3.heap.size, 0, none⟩) 0 0) 0 [] (by rfl) ((World.ownsRow_made (base := W3.heap.size) W3 #[] 0 (Nat.le_refl _) (by decide) rfl).drew) A ls.length c (strV ls) (by rfl) (HSL.out _ (B3.alloc (Nat.le_refl _) _).drew) (by rw [strV_len]; omega) (strV_one ls) (by unfold maxLen; omega) (by omega) (by first | (simp [World.drew]; done) | (simp [World.drew]; omega)) ?_; intro v2 w2 hown2 hgr2
           replace hown2 : w2.ownsRow W3.heap.size 9 1 v2 ls.length (strV ls) := by simpa using hown2
           have HBX := Lib.hid ((B3.alloc (Nat.le_refl _) _).drew.grown hgr2 (by simp [World.drew]) (fun k hk => by simp [Value.ownBlock] at hk; omega))
           have HNX : Hid (True) := trivial)
        | (refine step_append_sl (by rfl) _ _ _ (by rfl) W3.heap.size 9 i0 _ 1 16 Tryd.underlying37 hi0 hq0 hq1 hq2 rfl (by decide) (.slice (some ⟨W3.heap.size, 0, none⟩) 0 0) 0 [] (by rfl) (((World.ownsRow_made (base := W3.heap.size) W3 #[] 0 (Nat.le_refl _) (by decide) rfl).alloc _).drew) A ls.length c (strV ls) (by rfl) (HSL.out _ ((B3.alloc (Nat.le_refl _) _).alloc (by simp) _).drew) (by rw [strV_len]; omega) (strV_one ls) (by unfold maxLen; omega) (by omega) (by first | (simp [World.drew]; done) | (simp [World.drew]; omega)) ?_; intro v2 w2 hown2 hgr2
           replace hown2 : w2.ownsRow W3.heap.size 9 1 v2 ls.length (strV ls) := by simpa using hown2
           have HBX := Lib.hid (((B3.alloc (Nat.le_refl _) _).alloc (by simp) _).drew.grown hgr2 (by simp [World.drew]; try omega) (fun k hk => by simp [Value.ownBlock] at hk; omega))
           have HNX : Hid (w2.heap[W3.heap.size + 1]? = some (.cells #[.string ⟨b.toArray⟩] 9 (0, 0))) := by
             show _ = _
             rw [hgr2.block _ (by simp [World.drew]) (by simp [Value.ownBlock])]
             exact HN1.out _)
        | (refine step_append_sl (by rfl) _ _ _ (by rfl) W3.heap.size 9 i0 _ 1 16 Tryd.underlying37 hi0 hq0 hq1 hq2 rfl (by decide) (.slice (some ⟨W3.heap.size + 1, 0, none⟩) 0 0) 0 [] (by rfl) (HOB.out _) A ls.length c (strV ls) (by rfl) (HSL.out _ ((B3.alloc (Nat.le_refl _) _).alloc (by simp) _).drew) (by rw [strV_len]; omega) (strV_one ls) (by unfold maxLen; omega) (by omega) (by first | (simp [World.drew]; done) | (simp [World.drew]; omega)) ?_; intro v2 w2 hown2 hgr2
           replace hown2 : w2.ownsRow W3.heap.size 9 1 v2 ls.length (strV ls) := by simpa using hown2
           have HBX := Lib.hid (((B3.alloc (Nat.le_refl _) _).alloc (by simp) _).drew.grown hgr2 (by simp [World.drew]; try omega) (fun k hk => by simp [Value.ownBlock] at hk; omega))
           have HNX : Hid (w2.heap[W3.heap.size]? = some (.cells #[.string ⟨b.toArray⟩] 9 (0, 0))) := by
             show _ = _
             rw [hgr2.block _ (by simp [World.drew]; omega) (by simp [Value.ownBlock])]
             exact HN2.out _ _)
        | (refine step_append_lies _ (by rfl) _ _ _ (by rfl) W3.heap.size 9 i0 _ 1 16 Tryd.underlying37 hi0 hq0 hq1 hq2 rfl (by decide) v2 ls.length (strV ls) (by rfl) (by first | exact hown2 | exact hown2.alloc _) _ 1 1 [.string ⟨b.toArray⟩] (by rfl) (by rfl) (by first | exact World.news_of_block (cs := #[.string ⟨b.toArray⟩]) (heap_alloc_new _ _) | exact World.news_of_block (cs := #[.string ⟨b.toArray⟩]) HNX.out) (by simp [Value.oneCell']) (Nat.lt_succ_self 0) (by unfold maxLen; omega) (by omega) (by first | exact HBX.out.size | (have := HBX.out.size; simp; omega)) _ rfl ?_; intro gg cap3 w3 hown3 hgr3 hat3 hlt3
           have HBY : Hid (Below W3.heap.size W3 w3) := by first
             | exact HBX.out.grown hgr3 HBX.out.size (fun k hk => (hown2.lt k hk).1)
             | exact (HBX.out.alloc HBX.out.size _).grown hgr3 (by have := HBX.out.size; simp; omega) (fun k hk => (hown2.lt k hk).1)
           have HOY := Lib.hid hown3
           clear hown3 hgr3 hat3 hlt3 hown2 hgr2))
    all_goals
      go_wp2_with fail
      go_meet
      case rel => exact ⟨gg, cap3, rfl, HBY.out, by have := HOY.out; rw [show strV (ls ++ [b]) = strV ls ++ [.string ⟨b.toArray⟩] by simp [strV]]; exact this⟩
  case rest =>
    obtain ⟨g, cap, rfl, HB, HO⟩ := hcut
    have f0 := cell_old HK0.out HB.out
    have f1 := cell_old HK1.out HB.out
    have hO := HQ.out.up HB.out
    obtain ⟨o0, o1, o2⟩ := hO.cells
    have hfr := hO.free
    have HOO := Lib.hid hO
    clear hO
    go_wp2_with fail
    have hb4 := below_set3 (HB3.out.trans (HB.out.mono HB3.out.size)) (show w.heap.size ≤ w.heap.size + 1 + 1 by omega) (.int .u32 gen) (.string s) (.slice (some ⟨g, 0, none⟩) (ls.length + 1) cap)
    have hO4 : OutAt (((wc.setCell ⟨w.heap.size + 1 + 1, 0, none⟩ (.int .u32 gen)).setCell ⟨w.heap.size + 1 + 1, 1, none⟩ (.string s)).setCell ⟨w.heap.size + 1 + 1, 2, none⟩ (.slice (some ⟨g, 0, none⟩) (ls.length + 1) cap)) (w.heap.size + 1 + 1) 39 (.int .u32 gen) (.string s) (.slice (some ⟨g, 0, none⟩) (ls.length + 1) cap) :=
      block_setCell (block_setCell (block_setCell HOO.out _) _) _
    have hgg : w.heap.size ≤ g := by have := (HO.out.lt g rfl).1; have := HSZ.out; omega
    have hg : g ≠ w.heap.size + 1 + 1 := by have := (HO.out.lt g rfl).1; have := HSZ.out; omega
    have hS4 : Sl (((wc.setCell ⟨w.heap.size + 1 + 1, 0, none⟩ (.int .u32 gen)).setCell ⟨w.heap.size + 1 + 1, 1, none⟩ (.string s)).setCell ⟨w.heap.size + 1 + 1, 2, none⟩ (.slice (some ⟨g, 0, none⟩) (ls.length + 1) cap)) (some ⟨g, 0, none⟩) (ls.length + 1) cap (strV (ls ++ [b])) :=
      Sl.own_ (own_off HO.out ((((Off.refl (fun k => k = w.heap.size + 1 + 1) wc).setCell (b := w.heap.size + 1 + 1) (.inl rfl) _).setCell (b := w.heap.size + 1 + 1) (.inl rfl) _).setCell (b := w.heap.size + 1 + 1) (.inl rfl) _) fun k hk e => hg (by simp [Value.ownBlock] at hk; omega))
    generalize ((wc.setCell ⟨w.heap.size + 1 + 1, 0, none⟩ (.int .u32 gen)).setCell ⟨w.heap.size + 1 + 1, 1, none⟩ (.string s)).setCell ⟨w.heap.size + 1 + 1, 2, none⟩ (.slice (some ⟨g, 0, none⟩) (ls.length + 1) cap) = W5 at *
    obtain ⟨r0, r1, r2⟩ := hO4.cells
    exact bodyPost_ret (v := .agg #[.int .u32 gen, .string s, .slice (some ⟨g, 0, none⟩) (ls.length + 1) cap]) (by simp [results, Tryd.results12, go_sem, r0, r1, r2]) rfl ⟨g, cap, rfl, hS4, hb4, hgg⟩
end Go.Proofs.YtabknmlnlhflmaaDoor
