import Derived.Test.YtfjmofefciopmaaGreatRows
import Derived.Test.YtfjmofefciopmaaGreatZSW4
import Derived.Test.YtfjmofefciopmaaGreatZMB
import Derived.Test.YtfjmofefciopmaaGreatZMA
import Derived.Test.YtfjmofefciopmaaGreatZTW9
import Derived.BigQuiet
import Derived.Deep.Cut
import Derived.Deep.QuietTactic
/- Contracts of the document's events: stamps, rows of them, spans put in order. -/
section
namespace Go.Proofs.YtfjmofefciopmaaGreat
open Go.ChangeShapes Go.WideShapes Go.ChangeAt Go.RowKit Go.Joins Sp Ev
theorem rstamp11_any (n : Int) (w : World) :
    Calls Tryz.prog 31 #[.int .i64 n] w fun e w' => e = .returned (.bool (stampB n)) ∧ w = w' := by
  by_cases h0 : 0 ≤ n
  · have hd : decide (0 ≤ n) = true := decide_eq_true h0
    go_enter Tryz.func31, Tryz.ntmps31
    go_wp2
    go_ret
    exact ⟨ret_bool (by unfold stampB; rw [hd]; simp), rfl⟩
  · have hd : decide (0 ≤ n) = false := decide_eq_false h0
    go_enter Tryz.func31, Tryz.ntmps31
    go_wp2
    go_ret
    exact ⟨ret_bool (by unfold stampB; rw [hd]; rfl), rfl⟩
theorem memB_take (l : List Int) (k : Nat) (x v : Int) (h : l[k]? = some v) : Tm.memB (l.take (k + 1)) x = (Tm.memB (l.take k) x || decide (v = x)) := by
  unfold Tm.memB; rw [List.take_add_one, h, List.any_append]; simp
theorem rin11_any (l : List Int) (x : Int) (A : Option Addr) (c : Nat) (w : World) (hl : l.length ≤ 1000000) (h : Sl w A l.length c (iv l)) :
    Calls Tryz.prog 44 #[.slice A l.length c, .int .i64 x] w fun e w' => e = .returned (.bool (Tm.memB l x)) ∧ w = w' := by
  have HA := Lib.hid h
  obtain ⟨r, hr⟩ : ∃ r, Tm.memB l x = r := ⟨_, rfl⟩
  rw [hr]
  have HR := Lib.hid hr
  have hlz : (l.length : Int) ≤ 9223372036854775807 := by omega
  clear h hr
  go_enter Tryz.func44, Tryz.ntmps44
  go_wp2_with fail
  go_loop [8] (fun s8 => ∃ (i : Nat), i ≤ l.length ∧ s8 = .int .i64 i ∧ Hid (Tm.memB (l.take i) x = false)) (fun s8 => l.length - (intOf s8).toNat)
  case atStart => exact ⟨0, Nat.zero_le _, rfl, rfl⟩
  case round =>
    obtain ⟨i, hi, rfl, HF⟩ := hrel
    by_cases hlt : i < l.length
    · have hiz : (i : Int) < l.length := by omega
      obtain ⟨v, hv⟩ : ∃ v, l[i]? = some v := ⟨_, List.getElem?_eq_getElem hlt⟩
      have HT := Lib.hid (memB_take l i x v hv)
      have HV := Lib.hid (List.mem_of_getElem? hv)
      obtain ⟨b, off, rfl, hbs, hce⟩ := HA.out.intG hv
      have g1 := hce ⟨w, Below.refl _ _⟩
      simp only at g1
      clear hce hv
      by_cases e1 : v = x
      · have e1b : (v == x) = true := by simpa using e1
        have E : Hid (r = true) := by show _ = _; rw [← HR.out]; exact Tm.memB_iff.2 (e1 ▸ HV.out)
        clear e1
        go_wp2_with fail
        go_ret
        exact ⟨ret_bool E.out.symm, rfl⟩
      · have e1b : (v == x) = false := beq_false_of_ne e1
        have HN : Hid (Tm.memB (l.take (i + 1)) x = false) := by show _ = _; rw [HT.out, HF.out, decide_eq_false e1]; rfl
        go_wp2_with fail
        go_round
        case rel => exact ⟨i + 1, hlt, by go_num, HN.out⟩
        case measure => simp [intOf]; omega
    · obtain rfl : i = l.length := by omega
      rw [List.take_length] at HF
      have E : Hid (r = false) := by show _ = _; rw [← HR.out]; exact HF.out
      go_wp2_with fail
      go_ret
      exact ⟨ret_bool E.out.symm, rfl⟩
end Go.Proofs.YtfjmofefciopmaaGreat
end
