/- Contracts of the program's disk: its fuse; a copy of bytes; what is laid over. -/
import Derived.Test.YtabknmlnlhflmaaDW1
import Derived.Lib.SmallJoins
namespace Go.Proofs.Ytabknmlnlhflmaa
open Go.ChangeShapes Go.WideShapes Go.ChangeAt Go.RowKit Go.Joins Dm

theorem DiskIn.set {w : World} {D L : Nat} {wv wv' : Value} {xs xs' : List Value} {m m' : Dk} {F : Nat → Prop} {w' : World} (h : DiskIn w D L wv xs m F)
    (hok : m'.Ok) (hb : w'.heap[D]? = some (.cells #[.slice (some ⟨L, 0, none⟩) m'.laid.length m'.laid.length, wv', .bool m'.on, .int .i64 m'.falls, .int .i64 m'.fuse, .int .i64 m'.keep] 37 (0, 0)))
    (ho : Off (fun k => k = D) w w') (hl : m'.laid = m.laid) (hw : m'.waits = m.waits) (hv : wv' = wv) (hx : xs' = xs) : DiskIn w' D L wv' xs' m' F := by
  subst hv hx
  refine ⟨hok, hb, by rw [hl]; exact ho.heap h.lblk (fun e => h.ne e.symm), by rw [hw]; exact own_off h.own ho fun k hk e => h.neD (by rw [hk, e]), by rw [hw]; exact h.waits.off ho fun b hb e => hb.2.1 e, h.ne, h.neD, h.neL, h.fD, h.fL, h.fW, fun k hk => Nat.lt_of_lt_of_le (h.lt k hk) ho.size⟩

theorem disk_fuse_any (D : Nat) (m : Dk) (F : Nat → Prop) (n k : Int) (hn : -9223372036854775808 ≤ n ∧ n ≤ 9223372036854775807) (hk : -9223372036854775808 ≤ k ∧ k ≤ 9223372036854775807) (w : World) (h : DiskAt w D m F) :
    Calls Try.prog 5 #[.pointer (some ⟨D, 0, none⟩), .int .i64 n, .int .i64 k] w fun e w' => e = .returned (.tuple #[]) ∧ DiskTo w w' D (m.setFuse n k) F := by
  obtain ⟨L, wv, xs, h⟩ := h
  obtain ⟨c0, c1, c2, cF, c3, c4⟩ := h.cells
  have hf := h.free
  have H := Lib.hid h
  clear h
  go_enter Try.func5, Try.ntmps5
  go_wp2
  first | go_end0 | refine bodyPost_ret (results_none rfl _ _ _) rfl ?_
  have o : Off (fun k => k = D) w ((w.setCell ⟨D, 4, none⟩ (.int .i64 n)).setCell ⟨D, 5, none⟩ (.int .i64 k)) := ((Off.refl (fun k => k = D) w).setCell (b := D) (.inl rfl) _).setCell (b := D) (.inl rfl) _
  refine ⟨rfl, F, ⟨L, wv, xs, H.out.set (m' := m.setFuse n k) ⟨H.out.ok.size, H.out.ok.fits, hn, hk, H.out.ok.many⟩ ?_ o rfl rfl rfl rfl⟩, o.mono fun b _ e => by subst e; exact H.out.fD, fun _ hk => .inl hk⟩
  exact block_setCell (block_setCell H.out.blk _) _

theorem disk_back_any (D : Nat) (m : Dk) (F : Nat → Prop) (w : World) (h : DiskAt w D m F) :
    Calls Try.prog 6 #[.pointer (some ⟨D, 0, none⟩)] w fun e w' => e = .returned (.tuple #[]) ∧ DiskTo w w' D m.back F := by
  obtain ⟨L, wv, xs, h⟩ := h
  obtain ⟨c0, c1, c2, cF, c3, c4⟩ := h.cells
  have hf := h.free
  have H := Lib.hid h
  clear h
  go_enter Try.func6, Try.ntmps6
  go_wp2
  first | go_end0 | refine bodyPost_ret (results_none rfl _ _ _) rfl ?_
  have o : Off (fun k => k = D) w ((w.setCell ⟨D, 2, none⟩ (.bool true)).setCell ⟨D, 4, none⟩ (.int .i64 (-1))) := ((Off.refl (fun k => k = D) w).setCell (b := D) (.inl rfl) _).setCell (b := D) (.inl rfl) _
  refine ⟨rfl, F, ⟨L, wv, xs, H.out.set (m' := m.back) ⟨H.out.ok.size, H.out.ok.fits, by simp [Dk.back], H.out.ok.keep, H.out.ok.many⟩ ?_ o rfl rfl rfl rfl⟩, o.mono fun b _ e => by subst e; exact H.out.fD, fun _ hk => .inl hk⟩
  exact block_setCell (block_setCell H.out.blk _) _
theorem disk_fuse_nil (n k : Int) (w : World) :
    Calls Try.prog 5 #[.pointer none, .int .i64 n, .int .i64 k] w fun e w' => e = .returned (.tuple #[]) ∧ w = w' := by
  go_enter Try.func5, Try.ntmps5
  go_wp2
  first | go_end0 | refine bodyPost_ret (results_none rfl _ _ _) rfl ?_
  exact ⟨rfl, rfl⟩
theorem disk_back_nil (w : World) :
    Calls Try.prog 6 #[.pointer none] w fun e w' => e = .returned (.tuple #[]) ∧ w = w' := by
  go_enter Try.func6, Try.ntmps6
  go_wp2
  first | go_end0 | refine bodyPost_ret (results_none rfl _ _ _) rfl ?_
  exact ⟨rfl, rfl⟩
end Go.Proofs.Ytabknmlnlhflmaa
