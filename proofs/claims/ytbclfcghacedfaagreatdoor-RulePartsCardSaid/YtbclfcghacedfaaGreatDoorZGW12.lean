import Derived.Test.YtbclfcghacedfaaGreatDoorZGW11
import Derived.Test.YtbclfcghacedfaaGreatDoorZMB
/- Contracts of the program's rules: readers of days and rows. -/
section
namespace Go.Proofs.YtbclfcghacedfaaGreatDoor
open Go.ChangeShapes Go.WideShapes Go.ChangeAt Go.RowKit Qr Ck Sp

theorem ret_dvb {a b : (Int × Int) × Bool} (h : a = b) : Ending.returned (.tuple #[.agg #[.int .i64 a.1.1, .int .i64 a.1.2], .bool a.2]) = .returned (.tuple #[.agg #[.int .i64 b.1.1, .int .i64 b.1.2], .bool b.2]) := by rw [h]
set_option maxHeartbeats 2000000 in
theorem rdday_any (l : List UInt8) (hl : l.length ≤ 1000000) (w : World) (hE : Env9 w) :
    Calls Tryz.prog 62 #[.string ⟨l.toArray⟩] w fun e w' => e = .returned (.tuple #[.agg #[.int .i64 (rdDayV l).1.1, .int .i64 (rdDayV l).1.2], .bool (rdDayV l).2]) ∧ Below w.heap.size w w' := by
  obtain ⟨q, hq⟩ : ∃ q, rdDayV l = q := ⟨_, rfl⟩
  rw [hq]
  unfold rdDayV at hq
  obtain ⟨W, hW⟩ : ∃ W, w.alloc (.cells #[.int .i64 0, .int .i64 0] 36) = W := ⟨_, rfl⟩
  have HW := Lib.hid hW
  have BW : Hid (Below w.heap.size w W) := by show Below _ _ _; rw [← hW]; exact (Below.refl _ w).alloc (Nat.le_refl _) _
  have HX : Hid (∀ g : Gr W, g.val.heap[w.heap.size]? = some (.cells #[.int .i64 0, .int .i64 0] 36 (0, 0))) := fun g => blk_below (w := W) (by rw [← hW]; exact heap_alloc_new w _) g.ok
  have hEW := hE.below BW.out
  have su : Tryz.prog.underlying 9 = some .string := by kernel_rfl
  clear hW hE
  by_cases h2 : l.length ≤ 2
  · rw [if_pos h2] at hq
    have HK := Lib.hid (rdwk_any l W hEW)
    have E : Hid (q = ((0, (rdWkV l).1), (rdWkV l).2)) := hq.symm
    have s1 : ∀ w' : World, (Instr.slice 9 (.string ⟨l.toArray⟩) (some (.int .i64 0)) none none).run Tryz.prog w' = .ok (.string ⟨l.toArray⟩) w' := fun w' => by rw [run_slice_string_l w' _ _ su .i64 0 (by omega) (by rw [bsize]; omega), show (0 : Int).toNat = 0 from rfl, ext_mk, List.drop_zero, List.take_of_length_le (by rw [bsize]; omega)]
    have hs : (ByteArray.mk l.toArray).size = l.length := bsize l
    clear hq
    generalize rdWkV l = kv at *
    obtain ⟨d, b⟩ := kv
    generalize (ByteArray.mk l.toArray) = s at *
    have hss : s.size ≤ 2 := by omega
    have hss2 : (s.size : Int) ≤ 2 := by omega
    simp only at HK E
    clear hs h2
    go_enter Tryz.func62, Tryz.ntmps62
    go_upto_region 1 with fail
    rw [HW.out]
    have hmx : max ((s.size : Int) - 2) 0 = 0 := by omega
    go_wp2_with (go_at_call 63; (with_reducible refine HK.out.mono ?_); rintro e w' ⟨rfl, hb⟩; obtain ⟨g, rfl⟩ := Gr.of hb; clear hb; have hx := HX.out g; have c0 := blk_cell (i := 0) hx rfl; have c1 := blk_cell (i := 1) hx rfl; have f0 := blk_free hx)
    have z0 := blk_cell (i := 0) (two_set hx (.int .i64 0) (.int .i64 d)) rfl
    have z1 := blk_cell (i := 1) (two_set hx (.int .i64 0) (.int .i64 d)) rfl
    exact bodyPost_ret (v := .tuple #[.agg #[.int .i64 0, .int .i64 d], .bool b]) (by simp [results, Tryz.results62, go_sem, z0, z1]) rfl ⟨ret_dvb E.out.symm, ((BW.out.trans (g.ok.mono BW.out.size)).setCell (p := ⟨w.heap.size, 0, none⟩) (Nat.le_refl _) _).setCell (p := ⟨w.heap.size, 1, none⟩) (Nat.le_refl _) _⟩
  · rw [if_neg h2] at hq
    obtain ⟨k, hk⟩ : ∃ k, l.length - 2 = k := ⟨_, rfl⟩
    rw [hk] at hq
    have E : Hid (q = (((rdIntV (l.take k)).1, (rdWkV (l.drop k)).1), (rdWkV (l.drop k)).2 && (rdIntV (l.take k)).2)) := hq.symm
    have HK := Lib.hid (rdwk_any (l.drop k) W hEW)
    have HN := Lib.hid (fun g : Gr W => rdnum_any (l.take k) (by rw [List.length_take]; omega) g.val (hEW.gr g))
    have s1 : ∀ w' : World, (Instr.slice 9 (.string ⟨l.toArray⟩) (some (.int .i64 (k : Int))) none none).run Tryz.prog w' = .ok (.string ⟨(l.drop k).toArray⟩) w' := fun w' => by rw [run_slice_string_l w' _ _ su .i64 k (by omega) (by rw [bsize]; omega), Int.toNat_natCast, ext_mk, List.take_of_length_le (by rw [List.length_drop, bsize]; omega)]
    have s2 : ∀ w' : World, (Instr.slice 9 (.string ⟨l.toArray⟩) none (some (.int .i64 (k : Int))) none).run Tryz.prog w' = .ok (.string ⟨(l.take k).toArray⟩) w' := fun w' => by rw [run_slice_string_h w' _ _ su .i64 k (by omega) (by rw [bsize]; omega), Int.toNat_natCast, ext_mk, List.drop_zero, Nat.sub_zero]
    have hs : (ByteArray.mk l.toArray).size = l.length := bsize l
    have hk0 : 0 < k := by omega
    have hkb : ((k : Int) == 0) = false := by simp; omega
    have hmx : max (((ByteArray.mk l.toArray).size : Int) - 2) 0 = (k : Int) := by rw [hs]; omega
    have hsz : (ByteArray.mk l.toArray).size ≤ 1000000 := by omega
    clear hq h2 hs hk hEW
    generalize rdWkV (l.drop k) = kv at *
    obtain ⟨d, b⟩ := kv
    generalize rdIntV (l.take k) = nv at *
    obtain ⟨n, b2⟩ := nv
    generalize (ByteArray.mk l.toArray) = s at *
    generalize (ByteArray.mk (l.drop k).toArray) = sa at *
    generalize (ByteArray.mk (l.take k).toArray) = sb at *
    simp only at HK HN E
    cases b with
    | true =>
      go_enter Tryz.func62, Tryz.ntmps62
      go_upto_region 1 with fail
      rw [HW.out]
      go_wp2_with (first
        | (go_at_call 63; (with_reducible refine HK.out.mono ?_); rintro e w' ⟨rfl, hb⟩; obtain ⟨g, rfl⟩ := Gr.of hb; clear hb)
        | (go_at_call 55; (with_reducible refine (HN.out g).mono ?_); rintro e w' ⟨rfl, hb⟩; obtain ⟨g2, rfl⟩ := g.on hb; clear hb; have hx := HX.out g2; have c0 := blk_cell (i := 0) hx rfl; have c1 := blk_cell (i := 1) hx rfl; have f0 := blk_free hx))
      have z0 := blk_cell (i := 0) (two_set hx (.int .i64 n) (.int .i64 d)) rfl
      have z1 := blk_cell (i := 1) (two_set hx (.int .i64 n) (.int .i64 d)) rfl
      exact bodyPost_ret (v := .tuple #[.agg #[.int .i64 n, .int .i64 d], .bool b2]) (by simp [results, Tryz.results62, go_sem, z0, z1]) rfl ⟨ret_dvb (a := ((n, d), b2)) (by rw [E.out]; rfl), ((BW.out.trans (g2.ok.mono BW.out.size)).setCell (p := ⟨w.heap.size, 0, none⟩) (Nat.le_refl _) _).setCell (p := ⟨w.heap.size, 1, none⟩) (Nat.le_refl _) _⟩
    | false =>
      go_enter Tryz.func62, Tryz.ntmps62
      go_upto_region 1 with fail
      rw [HW.out]
      go_wp2_with (first
        | (go_at_call 63; (with_reducible refine HK.out.mono ?_); rintro e w' ⟨rfl, hb⟩; obtain ⟨g, rfl⟩ := Gr.of hb; clear hb)
        | (go_at_call 55; (with_reducible refine (HN.out g).mono ?_); rintro e w' ⟨rfl, hb⟩; obtain ⟨g2, rfl⟩ := g.on hb; clear hb; have hx := HX.out g2; have c0 := blk_cell (i := 0) hx rfl; have c1 := blk_cell (i := 1) hx rfl; have f0 := blk_free hx))
      have z0 := blk_cell (i := 0) (two_set hx (.int .i64 n) (.int .i64 d)) rfl
      have z1 := blk_cell (i := 1) (two_set hx (.int .i64 n) (.int .i64 d)) rfl
      exact bodyPost_ret (v := .tuple #[.agg #[.int .i64 n, .int .i64 d], .bool false]) (by simp [results, Tryz.results62, go_sem, z0, z1]) rfl ⟨ret_dvb (a := ((n, d), false)) (by rw [E.out]; rfl), ((BW.out.trans (g2.ok.mono BW.out.size)).setCell (p := ⟨w.heap.size, 0, none⟩) (Nat.le_refl _) _).setCell (p := ⟨w.heap.size, 1, none⟩) (Nat.le_refl _) _⟩
end Go.Proofs.YtbclfcghacedfaaGreatDoor
end
