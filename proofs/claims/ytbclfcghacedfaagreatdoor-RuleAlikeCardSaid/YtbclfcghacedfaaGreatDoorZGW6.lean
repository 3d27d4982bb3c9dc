import Derived.Test.YtbclfcghacedfaaGreatDoorZMA
import Derived.Test.YtbclfcghacedfaaGreatDoorZME
import Derived.Test.YtbclfcghacedfaaGreatDoorZGW3
import Derived.Laws.AppendOwnNone
import Derived.Deep.AppendLies
/- Contracts of the program's rules: texts of days and ends. -/
section
namespace Go.Proofs.YtbclfcghacedfaaGreatDoor
open Go.ChangeShapes Go.WideShapes Go.ChangeAt Go.RowKit Qr Ck

/-- What the program's and the library's variables hold. -/
structure Env9 (w : World) : Prop where
  env : Env w
  names : Names w
  freqs : ∀ i, i < 4 → w.cell? ⟨0, i, none⟩ = some (.string ⟨(freqName (i + 1)).toArray⟩)
  syn : ∃ ev, w.cell? ⟨7, 0, none⟩ = some ev ∧ (ev = .nilIface ∨ ∃ te pe, ev = .iface te pe)
  ran : ∃ ev, w.cell? ⟨8, 0, none⟩ = some ev ∧ (ev = .nilIface ∨ ∃ te pe, ev = .iface te pe)
theorem Env9.below {w w' : World} (h : Env9 w) (hb : Below w.heap.size w w') : Env9 w' := by
  obtain ⟨e1, h1, g1⟩ := h.syn
  obtain ⟨e2, h2, g2⟩ := h.ran
  exact ⟨h.env.below hb, h.names.below hb, fun i hi => cell_old (h.freqs i hi) hb, ⟨e1, cell_old h1 hb, g1⟩, ⟨e2, cell_old h2 hb, g2⟩⟩
theorem Env9.gr {w : World} (h : Env9 w) (g : Gr w) : Env9 g.val := h.below g.ok

theorem wd_one : ∀ k : Fin 7, wdT ((2 : Int) ^ k.val) = nm k.val := by decide
theorem nm_up : ∀ k : Fin 7, Lib.toUpperA (nm k.val) = dayName k.val := by decide
theorem nm_ascii : ∀ k : Fin 7, ∀ b ∈ nm k.val, b.toNat < 128 := by decide
theorem pow_128 : ∀ k : Fin 7, (2 : Int) ^ k.val < 128 ∧ 0 ≤ (2 : Int) ^ k.val := by decide

set_option maxHeartbeats 1000000 in
theorem wkText_any (k : Nat) (hk : k < 7) (w : World) (hE : Env9 w) :
    Calls Tryz.prog 21 #[.int .i64 k] w fun e w' => e = .returned (.string ⟨(dayName k).toArray⟩) ∧ Below w.heap.size w w' := by
  have p := pow_128 ⟨k, hk⟩
  have HWD := Lib.hid (fun w hN => weekdays_yes ((2 : Int) ^ k) p.2 p.1 w hN)
  rw [wd_one ⟨k, hk⟩] at HWD
  have HUP := Lib.hid (fun w => Tryz.strings_ToUpper_ascii ⟨(nm k).toArray⟩ w (by have := nm_len k; show (nm k).toArray.size ≤ _; rw [List.size_toArray]; omega) (fun j b hb => nm_ascii ⟨k, hk⟩ b (List.mem_of_getElem? hb)))
  have hup : Lib.toUpperA (nm k) = dayName k := nm_up ⟨k, hk⟩
  simp only [hup] at HUP
  have HN := Lib.hid hE.names
  have hsh : IntKind.i64.wrap (2 ^ k) = (2 : Int) ^ k := IntWalk.i64_in _ (by simp only at p; omega)
  have hk0 : (0 : Int) ≤ k := by omega
  have hk7 : (k : Int) < 7 := by omega
  clear hE hup
  generalize nm k = t at *
  generalize dayName k = u at *
  obtain ⟨p1, p2⟩ := p
  simp only at p1 p2
  go_enter Tryz.func21, Tryz.ntmps21
  go_wp2_with (first
    | (go_at_call 48; (with_reducible refine (HWD.out _ HN.out).mono ?_); rintro e w' ⟨rfl, hb⟩; obtain ⟨g, rfl⟩ := Gr.of hb; clear hb)
    | (go_at_call 49; (with_reducible refine (HUP.out _).mono ?_); rintro e w' ⟨rfl, hb⟩; obtain ⟨g2, rfl⟩ := g.on hb; clear hb))
  go_ret
  exact ⟨rfl, g2.ok⟩
end Go.Proofs.YtbclfcghacedfaaGreatDoor
end
