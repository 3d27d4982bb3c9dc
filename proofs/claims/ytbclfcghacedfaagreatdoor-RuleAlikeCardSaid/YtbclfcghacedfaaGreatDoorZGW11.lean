import Derived.Test.YtbclfcghacedfaaGreatDoorZGW9
import Derived.Test.YtbclfcghacedfaaGreatDoorZQW8
/- Contracts of the program's rules: readers of ends, days and rows. -/
section
namespace Go.Proofs.YtbclfcghacedfaaGreatDoor
open Go.ChangeShapes Go.WideShapes Go.ChangeAt Go.RowKit Qr Ck Sp

/-- The pieces of a text. -/
theorem split_any (c : UInt8) (l : List UInt8) (hl : l.length ≤ 1000000) (w : World) (hE : Env w) :
    Calls Tryz.prog 36 #[.string ⟨l.toArray⟩, .string ⟨#[c]⟩] w fun e w' => e = .returned (.slice (some ⟨w.heap.size, 0, none⟩) (pcs c l).length (pcs c l).length) ∧ w' = w.alloc (.cells (tv (pcs c l)).toArray 9) := by
  obtain ⟨m, hm⟩ := hE.ml
  have h := Tryz.strings_Split ⟨l.toArray⟩ ⟨#[c]⟩ m w (by rw [bsize]; omega) hm (Nat.le_refl 1)
  have hc : Lib.countB ⟨l.toArray⟩ ⟨#[c]⟩ = Lib.count l [c] := by show Lib.count (ByteArray.mk l.toArray).data.toList _ = _; rw [bdata]
  have hd : (Lib.splitB ⟨#[c]⟩ 0 (Lib.countB ⟨l.toArray⟩ ⟨#[c]⟩) ⟨l.toArray⟩).map (·.data.toList) = pcs c l := by rw [Lib.splitB_data, hc, bdata]; rfl
  have hlen := Lib.splitB_all ⟨#[c]⟩ (Nat.le_refl 1) 0 (Lib.countB ⟨l.toArray⟩ ⟨#[c]⟩) ⟨l.toArray⟩ rfl
  have hn : Lib.countB ⟨l.toArray⟩ ⟨#[c]⟩ + 1 = (pcs c l).length := by rw [← hd, List.length_map, hlen]
  have hv : (Lib.splitB ⟨#[c]⟩ 0 (Lib.countB ⟨l.toArray⟩ ⟨#[c]⟩) ⟨l.toArray⟩).map Value.string = tv (pcs c l) := by rw [← hd]; unfold tv; rw [List.map_map]; rfl
  rw [hn, hv] at h
  exact h

set_option maxHeartbeats 1000000 in
theorem rdutl_any (l : List UInt8) (w : World) (hE : Env9 w) :
    Calls Tryz.prog 57 #[.string ⟨l.toArray⟩] w fun e w' => e = .returned (.tuple #[.int .i64 (rdUntilV l).1, .bool (rdUntilV l).2]) ∧ Below w.heap.size w w' := by
  obtain ⟨q, hq⟩ : ∃ q, rdUntilV l = q := ⟨_, rfl⟩
  rw [hq]
  unfold rdUntilV at hq
  have Z : Hid (Below w.heap.size w w) := Below.refl _ _
  have hs : (ByteArray.mk l.toArray).size = l.length := bsize l
  by_cases h13 : l.length = 13
  · rw [if_pos h13] at hq
    have hsz : (ByteArray.mk l.toArray).size = 13 := by rw [hs, h13]
    have e1 : (ByteArray.mk l.toArray).extract 0 4 = ⟨(l.take 4).toArray⟩ := by rw [ext_mk]; simp
    have e2 : (ByteArray.mk l.toArray).extract 4 6 = ⟨((l.drop 4).take 2).toArray⟩ := by rw [ext_mk]
    have e3 : (ByteArray.mk l.toArray).extract 6 11 = ⟨((l.drop 6).take 5).toArray⟩ := by rw [ext_mk]
    have e4 : (ByteArray.mk l.toArray).extract 11 13 = ⟨(l.drop 11).toArray⟩ := by rw [ext_mk, List.take_of_length_le (by rw [List.length_drop]; omega)]
    have la : (l.take 4).length ≤ 4 := by rw [List.length_take]; omega
    have lb : ((l.drop 4).take 2).length ≤ 2 := by rw [List.length_take]; omega
    have lc : ((l.drop 6).take 5).length ≤ 5 := by rw [List.length_take]; omega
    have ld : (l.drop 11).length ≤ 2 := by rw [List.length_drop]; omega
    generalize l.take 4 = a at *
    generalize (l.drop 4).take 2 = b at *
    generalize (l.drop 6).take 5 = c at *
    generalize l.drop 11 = d at *
    have HR := Lib.hid (fun g : Gr w => readst_any ⟨(a ++ [45] ++ b ++ [45] ++ c ++ [58] ++ d).toArray⟩ (by rw [bsize]; simp; omega) g.val (hE.env.gr g))
    have hrs := rs_eq (a ++ [45] ++ b ++ [45] ++ c ++ [58] ++ d)
    rw [bdata] at HR
    have E1 : Hid (posN (readS (a ++ [45] ++ b ++ [45] ++ c ++ [58] ++ d)) = q.1) := by show _ = _; rw [← hq, hrs]
    have E2 : Hid (posB (readS (a ++ [45] ++ b ++ [45] ++ c ++ [58] ++ d)) = q.2) := by show _ = _; rw [← hq, hrs]
    rw [E1.out, E2.out] at HR
    have EX : Hid ((ByteArray.mk a.toArray ++ ByteArray.mk #[45] ++ ByteArray.mk b.toArray ++ ByteArray.mk #[45] ++ ByteArray.mk c.toArray ++ ByteArray.mk #[58] ++ ByteArray.mk d.toArray : ByteArray) = ⟨(a ++ [45] ++ b ++ [45] ++ c ++ [58] ++ d).toArray⟩) := app8b a [45] b [45] c [58] d
    clear hq hrs hE E1 E2 h13 hs
    generalize (a ++ [45] ++ b ++ [45] ++ c ++ [58] ++ d) = full at *
    have su : Tryz.prog.underlying 9 = some .string := by kernel_rfl
    have s1 : ∀ w' : World, (Instr.slice 9 (.string ⟨l.toArray⟩) none (some (.int .i64 4)) none).run Tryz.prog w' = .ok (.string ⟨a.toArray⟩) w' := fun w' => by rw [run_slice_string_h w' _ _ su .i64 4 (by omega) (by omega), show (4 : Int).toNat = 4 from rfl, e1]
    have s2 : ∀ w' : World, (Instr.slice 9 (.string ⟨l.toArray⟩) (some (.int .i64 4)) (some (.int .i64 6)) none).run Tryz.prog w' = .ok (.string ⟨b.toArray⟩) w' := fun w' => by rw [run_slice_string w' _ _ .i64 .i64 4 6 su (by omega) (by omega) (by omega), show (4 : Int).toNat = 4 from rfl, show (6 : Int).toNat = 6 from rfl, e2]
    have s3 : ∀ w' : World, (Instr.slice 9 (.string ⟨l.toArray⟩) (some (.int .i64 6)) (some (.int .i64 11)) none).run Tryz.prog w' = .ok (.string ⟨c.toArray⟩) w' := fun w' => by rw [run_slice_string w' _ _ .i64 .i64 6 11 su (by omega) (by omega) (by omega), show (6 : Int).toNat = 6 from rfl, show (11 : Int).toNat = 11 from rfl, e3]
    have s4 : ∀ w' : World, (Instr.slice 9 (.string ⟨l.toArray⟩) (some (.int .i64 11)) none none).run Tryz.prog w' = .ok (.string ⟨d.toArray⟩) w' := fun w' => by rw [run_slice_string_l w' _ _ su .i64 11 (by omega) (by omega), show (11 : Int).toNat = 11 from rfl, hsz, e4]
    clear e1 e2 e3 e4
    generalize (ByteArray.mk l.toArray) = s at *
    go_enter Tryz.func57, Tryz.ntmps57
    go_upto_region 3 with fail
    refine Gr.region (by kernel_rfl) (by kernel_rfl) (Gr.draw0 _) ?_
    repeat (go_big_quiet_step (fail))
    rw [EX.out]
    repeat (go_big_quiet_step ((go_at_call 84; exact Gr.calls _ (HR.out _))))
    refine wpQuiet_nil ?_
    rintro _ ⟨g2, rfl⟩
    go_wp2
    go_ret2
    exact ⟨ret_ivb rfl, g2.ok⟩
  · rw [if_neg h13] at hq
    have E : Hid (q = (0, false)) := hq.symm
    have hsb : (((ByteArray.mk l.toArray).size : Int) != 13) = true := by rw [hs]; simp; omega
    clear hq hs h13
    generalize (ByteArray.mk l.toArray) = s at *
    go_enter Tryz.func57, Tryz.ntmps57
    go_wp2
    go_ret2
    exact ⟨ret_ivb E.out.symm, Z.out⟩
end Go.Proofs.YtbclfcghacedfaaGreatDoor
end
