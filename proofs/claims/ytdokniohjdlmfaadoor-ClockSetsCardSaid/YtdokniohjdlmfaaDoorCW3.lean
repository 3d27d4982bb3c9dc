/- Contract of the document's text of weekdays. -/
import Derived.Test.YtdokniohjdlmfaaDoorRows
import Derived.Test.YtdokniohjdlmfaaDoorCMath3
import Derived.Test.YtdokniohjdlmfaaDoorKit3
namespace Go.Proofs.YtdokniohjdlmfaaDoor
open Go.ChangeShapes Go.WideShapes Go.ChangeAt Go.RowKit Ck

def namesC : Array Value := #[.string ⟨#[109, 111]⟩, .string ⟨#[116, 117]⟩, .string ⟨#[119, 101]⟩, .string ⟨#[116, 104]⟩, .string ⟨#[102, 114]⟩, .string ⟨#[115, 97]⟩, .string ⟨#[115, 117]⟩]
theorem names_at (i : Nat) (h : i < 7) : namesC[i]? = some (.string ⟨(nm i).toArray⟩) := by
  have : i = 0 ∨ i = 1 ∨ i = 2 ∨ i = 3 ∨ i = 4 ∨ i = 5 ∨ i = 6 := by omega
  rcases this with rfl | rfl | rfl | rfl | rfl | rfl | rfl <;> rfl

theorem rweekdays_any (n : Int) (h0 : 0 ≤ n) (hn : n < 128) (w : World) :
    Calls Tryd.prog 20 #[.int .i64 n] w fun e w' => e = .returned (.string ⟨(wdT n).toArray⟩) ∧ Below w.heap.size w w' := by
  have HC := Lib.hid (fun (i : Nat) (h : i < 7) => show (w.alloc (.cells namesC 9)).cell? ⟨w.heap.size, i, none⟩ = some (.string ⟨(nm i).toArray⟩) by rw [World.cell?_alloc_mark]; exact names_at i h)
  obtain ⟨r, hr⟩ : ∃ r, wdT n = r := ⟨_, rfl⟩
  rw [hr]
  have HR : Hid ((if wdI n 7 = [] then [45] else wdI n 7) = r) := hr
  clear hr
  go_enter Tryd.func20, Tryd.ntmps20
  go_wp2
  generalize hW : w.alloc (.cells #[.string ⟨#[109, 111]⟩, .string ⟨#[116, 117]⟩, .string ⟨#[119, 101]⟩, .string ⟨#[116, 104]⟩, .string ⟨#[102, 114]⟩, .string ⟨#[115, 97]⟩, .string ⟨#[115, 117]⟩] 9) = w1
  have HC1 : Hid (∀ i : Nat, i < 7 → w1.cell? ⟨w.heap.size, i, none⟩ = some (.string ⟨(nm i).toArray⟩)) := fun i h => by rw [← hW]; exact HC.out i h
  have HB : Hid (Below w.heap.size w w1) := by show Below _ _ _; rw [← hW]; exact (Below.refl _ _).alloc (Nat.le_refl _) _
  clear hW HC
  go_loop [0, 4, 9] (fun s0 s4 s9 => ∃ i : Nat, i ≤ 7 ∧ s0 = .int .i64 (n / 2 ^ i) ∧ s4 = .string ⟨(wdI n i).toArray⟩ ∧ s9 = .int .i64 i) (fun _ _ s9 => 7 - (intOf s9).toNat)
  case atStart => exact ⟨0, by omega, by simp, rfl, rfl⟩
  case round =>
    obtain ⟨i, hi, rfl, rfl, rfl⟩ := hrel
    have d1 := div2_nn h0 i
    have d2 := div2_le h0 i
    have DS : Hid (n / 2 ^ i / 2 = n / 2 ^ (i + 1)) := div2_step n i
    have LS : Hid (wdI n (i + 1) = if n / 2 ^ i % 2 = 1 then (if wdI n i = [] then nm i else wdI n i ++ [44] ++ nm i) else wdI n i) := rfl
    have hl := wd_len n i
    generalize n / 2 ^ i = q at *
    by_cases hlt : i < 7
    · have hc := HC1.out i hlt
      have h2 : (nm i).length ≤ 10 := by rw [nm_len]; omega
      have hiz : (i : Int) < 7 := by omega
      generalize wdI n i = acc at *
      by_cases hb : q % 2 = 1
      · have hbb : (q % 2 == 1) = true := by simpa using hb
        cases acc with
        | nil =>
          have E : Hid (wdI n (i + 1) = nm i) := by show _ = _; rw [LS.out, if_pos hb, if_pos rfl]
          clear LS hb
          go_wp2
          go_round
          case rel => exact ⟨i + 1, hlt, by rw [DS.out], by rw [E.out]; exact congrArg Value.string (ByteArray.mk_append_mk [] (nm i)), by go_num⟩
          case measure => simp [intOf]; omega
        | cons c r =>
          have E : Hid (wdI n (i + 1) = c :: r ++ [44] ++ nm i) := by show _ = _; rw [LS.out, if_pos hb, if_neg (by simp)]
          have hr : r.length ≤ 21 := by simp at hl; omega
          clear LS hb hl
          go_wp2
          go_round
          case rel => exact ⟨i + 1, hlt, by rw [DS.out], by rw [E.out]; exact congrArg Value.string (app3 (c :: r) [44] (nm i)), by go_num⟩
          case measure => simp [intOf]; omega
      · have hbb : (q % 2 == 1) = false := by simpa using hb
        have E : Hid (wdI n (i + 1) = acc) := by show _ = _; rw [LS.out, if_neg hb]
        clear LS hb
        go_wp2
        go_round
        case rel => exact ⟨i + 1, hlt, by rw [DS.out], by rw [E.out], by go_num⟩
        case measure => simp [intOf]; omega
    · obtain rfl : i = 7 := by omega
      rw [show ((7 : Nat) : Int) = 7 from rfl]
      generalize wdI n 7 = acc at *
      cases acc with
      | nil =>
        go_wp2
        go_ret
        exact ⟨ret_str (a := [45]) (by rw [← HR.out]; rfl), HB.out⟩
      | cons c rr =>
        go_wp2
        go_ret
        exact ⟨ret_str (a := c :: rr) (by rw [← HR.out, if_neg (by simp)]), HB.out⟩
end Go.Proofs.YtdokniohjdlmfaaDoor
