import Derived.Test.YtdhinjbkfffpeaaGreatRows
import Derived.Test.YtdhinjbkfffpeaaGreatYOD
import Derived.Test.YtdhinjbkfffpeaaGreatYMB
import Derived.Deep.RegionWith
import Derived.BigRegion
import Derived.Laws.BitsAll
/- Contracts of the document's numbers, texts and flags as bytes. -/
section
namespace Go.Proofs.YtdhinjbkfffpeaaGreat
open Go.ChangeShapes Go.WideShapes Go.ChangeAt Go.RowKit Fr Pk
theorem Gr.drew_ok {w : World} (g : Gr w.drew) : Below w.heap.size w g.val := (Below.refl _ w).drew.trans g.ok
theorem conv_gr {P : Program} (w : World) (x : Int) (b : UInt8) (hx : (b.toNat : Int) = x) {src dst e : TypeId} (hs : P.underlying src = some (.slice e)) (he : P.underlying e = some (.int .u8)) (hd : P.underlying dst = some .string)
    (g : Gr (w.alloc (.cells #[.int .u8 x] e))) : (convert src dst (.slice (some ⟨w.heap.size, 0, none⟩) 1 1)).run P g.val = .ok (.string ⟨#[b]⟩) g.val := by
  refine run_convert_bytes_back g.val src dst e ⟨w.heap.size, 0, none⟩ 1 [b] hs he hd fun j hj => ?_
  obtain rfl : j = 0 := by simpa using hj
  simp only [Addr.add, if_true]
  rw [g.cell1 0 (.int .u8 x) rfl]
  simp [hx]
set_option maxRecDepth 100000 in
set_option maxHeartbeats 2000000 in
theorem rnum_step (n : Nat) (h : ¬ n < 128) (hn : n < 18446744073709551616) (ih : ∀ w, Calls Tryz.prog 68 #[.int .u64 (n / 128 : Nat)] w fun e w' => e = .returned (.string ⟨(numT (n / 128)).toArray⟩) ∧ Below w.heap.size w w') (w : World) :
    Calls Tryz.prog 68 #[.int .u64 n] w fun e w' => e = .returned (.string ⟨(numT n).toArray⟩) ∧ Below w.heap.size w w' := by
  have HN : Hid (numT n = u8 (128 + n % 128) :: numT (n / 128)) := num_great h
  have hl := num_len10 (n := n / 128) (by omega)
  rw [show ((n / 128 : Nat) : Int) = (n : Int) / 128 by omega] at ih
  have IH := Lib.hid ih
  have hb : ((u8 (128 + n % 128)).toNat : Int) = 128 + (n : Int) % 128 := by rw [u8_nat (by omega)]; omega
  have HCb := fun (g : Gr (w.alloc (.cells #[.int .u8 (128 + (n : Int) % 128)] 5)).drew) => conv_gr (P := Tryz.prog) w _ _ hb Tryz.underlying42 Tryz.underlying5 Tryz.underlying9 ⟨g.val, g.drew_ok⟩
  have HCa := HCb ⟨_, Below.refl _ _⟩
  have HCc := fun (g : Gr w.drew) => conv_one (P := Tryz.prog) g.val _ _ hb Tryz.underlying42 Tryz.underlying5 Tryz.underlying9
  have e1 : IntKind.u64.wrap ((n : Int) / 128) = (n : Int) / 128 := by rw [IntKind.wrap_u64]; omega
  have e2 : (n : Int).tmod 128 = (n : Int) % 128 := Int.tmod_eq_emod_of_nonneg (by omega)
  have e3 : IntKind.u64.wrap (128 + (n : Int) % 128) = 128 + (n : Int) % 128 := by rw [IntKind.wrap_u64]; omega
  have e4 : IntKind.u8.wrap (128 + (n : Int) % 128) = 128 + (n : Int) % 128 := by rw [IntKind.wrap_u8']; omega
  clear hb
  have hz : (128 : Int) ≤ n := by omega
  obtain ⟨r, hr⟩ : ∃ r, numT n = r := ⟨_, rfl⟩
  rw [hr] at HN ⊢
  generalize numT (n / 128) = t at *
  clear ih hr h hn
  go_enter Tryz.func68, Tryz.ntmps68
  go_wp2_with fail
  go_region_with (go_at_call 68; refine (IH.out _).mono ?_; rintro e w' ⟨rfl, hb⟩; obtain ⟨g, rfl⟩ := Gr.of hb; clear hb)
  all_goals go_wp2
  all_goals go_ret
  all_goals refine ⟨congrArg (fun x => Ending.returned (Value.string x)) (by rw [HN.out]; exact ByteArray.mk_append_mk [u8 (128 + n % 128)] t), ?_⟩
  · exact ((Below.refl _ w).alloc (Nat.le_refl _) _).drew.trans (g.ok.mono (by simp [World.drew]))
  · exact ((Below.refl _ w).alloc (Nat.le_refl _) _).drew.trans (g.ok.mono (by simp [World.drew]))
  · exact g.drew_ok.alloc g.drew_ok.size _
theorem rnum_any (n : Nat) (hn : n < 18446744073709551616) (w : World) :
    Calls Tryz.prog 68 #[.int .u64 n] w fun e w' => e = .returned (.string ⟨(numT n).toArray⟩) ∧ Below w.heap.size w w' := by
  induction n using Nat.strongRecOn generalizing w with
  | _ n ih =>
    by_cases h : n < 128
    · rw [num_small h]
      have HC := conv_one (P := Tryz.prog) w (n : Int) (u8 n) (by rw [u8_nat (by omega)]) Tryz.underlying42 Tryz.underlying5 Tryz.underlying9
      have hz : (n : Int) < 128 := by omega
      clear ih hn
      go_enter Tryz.func68, Tryz.ntmps68
      go_wp2
      go_ret
      exact ⟨rfl, (Below.refl _ _).alloc (Nat.le_refl _) _⟩
    · exact rnum_step n h hn (fun w => ih (n / 128) (by omega) (by omega) w) w
set_option maxRecDepth 100000 in
theorem rsigned_any (n : Int) (h1 : -9223372036854775808 ≤ n) (h2 : n ≤ 9223372036854775807) (w : World) :
    Calls Tryz.prog 69 #[.int .i64 n] w fun e w' => e = .returned (.string ⟨(numT (zig n)).toArray⟩) ∧ Below w.heap.size w w' := by
  have hz : zig n < 18446744073709551616 := by unfold zig; split <;> omega
  have HN := Lib.hid (fun w => rnum_any (zig n) hz w)
  generalize hr : numT (zig n) = r at *
  clear hr hz
  by_cases h0 : 0 ≤ n
  · rw [show ((zig n : Nat) : Int) = 2 * n by unfold zig; rw [if_pos h0]; omega] at HN
    have hw1 : IntKind.u64.wrap n = n := by rw [IntKind.wrap_u64]; omega
    have hw2 : IntKind.u64.wrap (2 * n) = 2 * n := by rw [IntKind.wrap_u64]; omega
    clear h1 h2
    go_enter Tryz.func69, Tryz.ntmps69
    go_wp2_with (go_at_call 68; (with_reducible refine (HN.out _).mono ?_); rintro e w' ⟨rfl, hb⟩; obtain ⟨g, rfl⟩ := Gr.of hb; clear hb)
    go_ret
    exact ⟨rfl, g.ok⟩
  · rw [show ((zig n : Nat) : Int) = 2 * (-(n + 1)) + 1 by unfold zig; rw [if_neg h0]; omega] at HN
    have hw0 : IntKind.i64.wrap (n + 1) = n + 1 := by rw [IntKind.wrap_i64]; omega
    have hw3 : IntKind.i64.wrap (-(n + 1)) = -(n + 1) := by rw [IntKind.wrap_i64]; omega
    have hw1 : IntKind.u64.wrap (-(n + 1)) = -(n + 1) := by rw [IntKind.wrap_u64]; omega
    have hw2 : IntKind.u64.wrap (2 * (-(n + 1))) = 2 * (-(n + 1)) := by rw [IntKind.wrap_u64]; omega
    have hw4 : IntKind.u64.wrap (2 * (-(n + 1)) + 1) = 2 * (-(n + 1)) + 1 := by rw [IntKind.wrap_u64]; omega
    clear h1 h2
    go_enter Tryz.func69, Tryz.ntmps69
    go_wp2_with (go_at_call 68; (with_reducible refine (HN.out _).mono ?_); rintro e w' ⟨rfl, hb⟩; obtain ⟨g, rfl⟩ := Gr.of hb; clear hb)
    go_ret
    exact ⟨rfl, g.ok⟩
theorem rflag_any (b : Bool) (w : World) :
    Calls Tryz.prog 71 #[.bool b] w fun e w' => e = .returned (.string ⟨(flagT b).toArray⟩) ∧ w = w' := by
  cases b
  all_goals
    go_enter Tryz.func71, Tryz.ntmps71
    go_wp2
    go_ret
    exact ⟨rfl, rfl⟩
end Go.Proofs.YtdhinjbkfffpeaaGreat
end
