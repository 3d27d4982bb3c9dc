/- Contracts of the program's disk: it falls; its fuse burns; it is told bytes. -/
import Derived.Test.YtabknmlnlhflmaaDoorDW5
import Derived.Deep.RegionWith
namespace Go.Proofs.YtabknmlnlhflmaaDoor
open Go.ChangeShapes Go.WideShapes Go.ChangeAt Go.RowKit Go.Joins Dm

theorem DiskIn.keep {w w' : World} {D L : Nat} {wv v' : Value} {xs xs' : List Value} {m : Dk} {l' : List (Nat × List UInt8)} {F : Nat → Prop} (h : DiskIn w D L wv xs m F) (hfit : Fits m.laid.length l') (hlen : l'.length ≤ m.waits.length)
    (hown : w'.ownsRow 0 71 2 v' l'.length xs') (hw : Waits w' (fun k => F k ∧ k ≠ D ∧ k ≠ L ∧ wv.ownBlock ≠ some k) l' xs') (hg : w.grownBy w' wv.ownBlock) (hat : ∀ g, v'.ownBlock = some g → wv.ownBlock = some g ∨ w.heap.size ≤ g) :
    DiskIn (w'.setCell ⟨D, 1, none⟩ v') D L v' xs' { m with waits := l' } (fun b => F b ∨ v'.ownBlock = some b) := by
  have hD := heap_lt h.blk
  have hL := heap_lt h.lblk
  have neD : v'.ownBlock ≠ some D := fun e => by
    rcases hat D e with e2 | e2
    · exact h.neD e2
    · omega
  have neL : v'.ownBlock ≠ some L := fun e => by
    rcases hat L e with e2 | e2
    · exact h.neL e2
    · omega
  have o1 : Off (fun b => wv.ownBlock = some b) w w' := Off.of_grown hg fun b hb => hb
  have o2 : Off (fun b => b = D) w' (w'.setCell ⟨D, 1, none⟩ v') := (Off.refl (fun b => b = D) w').setCell (b := D) (.inl rfl) _
  refine ⟨⟨h.ok.size, hfit, h.ok.fuse, h.ok.keep, Nat.le_trans hlen h.ok.many⟩, block_setCell (o1.heap h.blk h.neD) _, o2.heap (o1.heap h.lblk h.neL) (fun e => h.ne e.symm), own_off hown o2 (fun b hb e => neD (by rw [hb, e])), ?_, h.ne, neD, neL, .inl h.fD, .inl h.fL, fun k hk => .inr hk, fun k hk => ?_⟩
  · refine (hw.off o2 fun b hb e => hb.2.1 e).mono fun b _ hb => ⟨.inl hb.1, hb.2.1, hb.2.2.1, fun e => ?_⟩
    rcases hat b e with e2 | e2
    · exact hb.2.2.2 e2
    · have := h.lt b hb.1; omega
  · rcases hk with hk | hk
    · exact Nat.lt_of_lt_of_le (h.lt k hk) (Nat.le_trans o1.size o2.size)
    · exact Nat.lt_of_lt_of_le (hown.lt k hk).2 o2.size
theorem DiskIn.keep_off {w w' : World} {D L : Nat} {wv v' : Value} {xs : List Value} {m : Dk} {F : Nat → Prop} (h : DiskIn w D L wv xs m F) (hg : w.grownBy w' wv.ownBlock) : Off F w (w'.setCell ⟨D, 1, none⟩ v') :=
  (Off.of_grown hg h.fW).setCell (b := D) (.inl h.fD) _

set_option maxRecDepth 100000 in
set_option maxHeartbeats 2000000 in
theorem disk_fall_on (D : Nat) (m : Dk) (F : Nat → Prop) (k : Int) (hk : -9223372036854775808 ≤ k ∧ k ≤ 9223372036854775807) (w : World) (h : DiskAt w D m F) (hon : m.on = true) :
    Calls Tryd.prog 44 #[.pointer (some ⟨D, 0, none⟩), .int .i64 k] w fun e w' => e = .returned (.tuple #[]) ∧ DiskTo w w' D (m.fall k) F := by
  have HON := Lib.hid (disk_on_any D m F w h)
  rw [hon] at HON
  obtain ⟨L, wv, xs, h⟩ := h
  obtain ⟨c0, c1, c2, cF, c3, c4⟩ := h.cells
  have HC := Lib.hid (firstBytes_any wv k m.waits xs (fun k => F k ∧ k ≠ D ∧ k ≠ L ∧ wv.ownBlock ≠ some k) hk h.ok.many (fun p hp => Nat.le_trans (h.ok.fits p hp) h.ok.size) w h.own h.waits fun b hb => hb.2.2.2)
  have H := Lib.hid h
  clear h
  go_enter Tryd.func44, Tryd.ntmps44
  go_wp2_with fail
  go_at_call 15
  refine HON.out.mono ?_
  rintro e w' ⟨rfl, rfl⟩
  go_wp2_with fail
  go_at_call 45
  refine HC.out.mono ?_
  rintro e w2 ⟨v', xs', rfl, hown, hw, hg, hat⟩
  obtain ⟨A', c', rfl, _⟩ := Sl.of_own hown
  have hf : w2.frozen? ⟨D, 1, none⟩ = false := unfrozen_of_block ((Off.of_grown (F := fun b => wv.ownBlock = some b) hg fun b hb => hb).heap H.out.blk H.out.neD) 1
  have d1 := hg.cell c1 (fun e => H.out.neD e.symm)
  have K1 := H.out.keep (first_fits _ _ _ H.out.ok.fits) (first_len _ _) hown hw hg hat
  have O1 := Lib.hid (H.out.keep_off (v' := .slice A' (first k.toNat m.waits).length c') hg)
  have HS := Lib.hid (disk_sync_on D _ _ _ ⟨L, _, xs', K1⟩ hon)
  have HA : Hid (∀ b, (Value.slice A' (first k.toNat m.waits).length c').ownBlock = some b → F b ∨ w.heap.size ≤ b) := fun b hb => (hat b hb).imp (H.out.fW b) id
  clear K1 hown hw hg hat
  go_wp2_with fail
  go_at_call 37
  refine HS.out.mono ?_
  rintro e w3 ⟨rfl, F3, ⟨L3, wv3, xs3, H3⟩, o3, i3⟩
  obtain ⟨g0, g1, g2, gF, g3, g4⟩ := H3.cells
  have hf3 := H3.free
  have hup : IntKind.i64.wrap (m.falls + 1) = up m.falls := by rw [IntKind.wrap_i64]; rfl
  replace gF : w3.cell? ⟨D, 3, none⟩ = some (.int .i64 m.falls) := gF
  have H3' := Lib.hid H3
  have O3 := Lib.hid o3
  have I3 := Lib.hid i3
  clear H3 o3 i3
  go_wp2_with fail
  first | go_end0 | refine bodyPost_ret (results_none rfl _ _ _) rfl ?_
  have o4 : Off (fun k => k = D) w3 ((w3.setCell ⟨D, 2, none⟩ (.bool false)).setCell ⟨D, 3, none⟩ (.int .i64 (up m.falls))) := ((Off.refl (fun k => k = D) w3).setCell (b := D) (.inl rfl) _).setCell (b := D) (.inl rfl) _
  have hin : ∀ b, F3 b → F b ∨ w.heap.size ≤ b := fun b hb => by
    rcases I3.out b hb with h1 | h1
    · exact h1.elim .inl (HA.out b)
    · exact .inr (Nat.le_trans O1.out.size h1)
  refine ⟨rfl, F3, ⟨L3, wv3, xs3, H3'.out.set (m' := m.fall k) ⟨H3'.out.ok.size, H3'.out.ok.fits, H3'.out.ok.fuse, H3'.out.ok.keep, H3'.out.ok.many⟩ ?_ o4 rfl rfl rfl rfl⟩, (O1.out.trans O3.out fun b hb => hb.elim .inl (HA.out b)).trans o4 (fun b e => .inl (e ▸ H.out.fD)), hin⟩
  exact block_setCell (block_setCell H3'.out.blk _) _

def fallD (m : Dk) (k : Int) : Dk := if m.on then m.fall k else m
theorem disk_fall_any (D : Nat) (m : Dk) (F : Nat → Prop) (k : Int) (hk : -9223372036854775808 ≤ k ∧ k ≤ 9223372036854775807) (w : World) (h : DiskAt w D m F) :
    Calls Tryd.prog 44 #[.pointer (some ⟨D, 0, none⟩), .int .i64 k] w fun e w' => e = .returned (.tuple #[]) ∧ DiskTo w w' D (fallD m k) F := by
  cases hon : m.on with
  | true => rw [show fallD m k = m.fall k by unfold fallD; rw [hon]; rfl]; exact disk_fall_on D m F k hk w h hon
  | false =>
    rw [show fallD m k = m by unfold fallD; rw [hon]; rfl]
    have HON := Lib.hid (disk_on_any D m F w h)
    rw [hon] at HON
    have H := Lib.hid h
    clear h
    go_enter Tryd.func44, Tryd.ntmps44
    go_wp2_with fail
    go_at_call 15
    refine HON.out.mono ?_
    rintro e w' ⟨rfl, rfl⟩
    go_wp2_with fail
    first | go_end0 | refine bodyPost_ret (results_none rfl _ _ _) rfl ?_
    exact ⟨rfl, H.out.self⟩
theorem disk_fall_nil (k : Int) (w : World) :
    Calls Tryd.prog 44 #[.pointer none, .int .i64 k] w fun e w' => e = .returned (.tuple #[]) ∧ w = w' := by
  have HON := Lib.hid (disk_on_nil w)
  go_enter Tryd.func44, Tryd.ntmps44
  go_wp2_with fail
  go_at_call 15
  refine HON.out.mono ?_
  rintro e w' ⟨rfl, rfl⟩
  go_wp2_with fail
  first | go_end0 | refine bodyPost_ret (results_none rfl _ _ _) rfl ?_
  exact ⟨rfl, rfl⟩

theorem disk_burn_any (D : Nat) (m : Dk) (F : Nat → Prop) (w : World) (h : DiskAt w D m F) :
    Calls Tryd.prog 42 #[.pointer (some ⟨D, 0, none⟩)] w fun e w' => e = .returned (.int .i64 m.burn.1) ∧ DiskTo w w' D m.burn.2 F := by
  have HF := Lib.hid (disk_fall_any D m F m.keep h.ok.keep w h)
  obtain ⟨L, wv, xs, h⟩ := h
  obtain ⟨c0, c1, c2, cF, c3, c4⟩ := h.cells
  have hf := h.free
  have hk := h.ok.fuse
  have H := Lib.hid h
  clear h
  have hfd : fallD m m.keep = if m.on then m.fall m.keep else m := rfl
  by_cases h0 : m.fuse = 0
  · rw [h0] at c3
    rw [show m.burn = (12, fallD m m.keep) by unfold Dk.burn; rw [if_pos h0]; rfl]
    clear hk
    go_enter Tryd.func42, Tryd.ntmps42
    go_wp2_with fail
    go_at_call 44
    refine HF.out.mono ?_
    rintro e w2 ⟨rfl, h2⟩
    go_wp2_with fail
    go_ret
    exact ⟨rfl, h2⟩
  · by_cases h1 : 0 < m.fuse
    · rw [show m.burn = (0, { m with fuse := m.fuse - 1 }) by unfold Dk.burn; rw [if_neg h0, if_pos h1]]
      have hw : IntKind.i64.wrap (m.fuse - 1) = m.fuse - 1 := by rw [IntKind.wrap_i64]; omega
      have hne : (m.fuse == 0) = false := by simpa using h0
      go_enter Tryd.func42, Tryd.ntmps42
      go_wp2_with fail
      go_ret
      have o : Off (fun k => k = D) w (w.setCell ⟨D, 4, none⟩ (.int .i64 (m.fuse - 1))) := (Off.refl (fun k => k = D) w).setCell (b := D) (.inl rfl) _
      refine ⟨rfl, F, ⟨L, wv, xs, H.out.set (m' := { m with fuse := m.fuse - 1 }) ⟨H.out.ok.size, H.out.ok.fits, ⟨by show _ ≤ m.fuse - 1; omega, by show m.fuse - 1 ≤ _; omega⟩, H.out.ok.keep, H.out.ok.many⟩ ?_ o rfl rfl rfl rfl⟩, o.mono fun b _ e => by subst e; exact H.out.fD, fun _ hk => .inl hk⟩
      exact block_setCell H.out.blk _
    · rw [show m.burn = (0, m) by unfold Dk.burn; rw [if_neg h0, if_neg h1]]
      have hne : (m.fuse == 0) = false := by simpa using h0
      go_enter Tryd.func42, Tryd.ntmps42
      go_wp2_with fail
      go_ret
      exact ⟨rfl, DiskAt.self ⟨L, wv, xs, H.out⟩⟩
end Go.Proofs.YtabknmlnlhflmaaDoor
