/- Contracts of the program's minutes and stamps. -/
import Derived.Test.YtdokniohjdlmfaaDoorCW6
import Derived.Test.YtdokniohjdlmfaaDoorCMath6
namespace Go.Proofs.YtdokniohjdlmfaaDoor
open Go.ChangeShapes Go.WideShapes Go.ChangeAt Go.RowKit Ck

theorem digits4 (n : Int) (h0 : 0 ≤ n) (hn : n ≤ 9999) (w : World) (hE : Env w) :
    Calls Tryd.prog 26 #[.int .i64 n, .int .i64 4] w fun e w' => e = .returned (.string ⟨(low n 4).toArray⟩) ∧ Below w.heap.size w w' := digits_any n 4 h0 (by omega) (by omega) (by omega) w hE
theorem digits2 (n : Int) (h0 : 0 ≤ n) (hn : n ≤ 99) (w : World) (hE : Env w) :
    Calls Tryd.prog 26 #[.int .i64 n, .int .i64 2] w fun e w' => e = .returned (.string ⟨(low n 2).toArray⟩) ∧ Below w.heap.size w w' := digits_any n 2 h0 (by omega) (by omega) (by omega) w hE

theorem ret_sb {a b : List UInt8} {c d : Bool} (h : a = b ∧ c = d) : Ending.returned (.tuple #[.string ⟨a.toArray⟩, .bool c]) = .returned (.tuple #[.string ⟨b.toArray⟩, .bool d]) := by rw [h.1, h.2]

theorem minute_no (n : Int) (h : n < 0 ∨ 1440 < n) (w : World) :
    Calls Tryd.prog 11 #[.int .i64 n] w fun e w' => e = .returned (.tuple #[.string ⟨#[]⟩, .bool false]) ∧ w = w' := by
  rcases h with h | h
  · go_enter Tryd.func11, Tryd.ntmps11
    go_wp2
    go_ret2
    exact ⟨rfl, rfl⟩
  · have h0 : decide (n < 0) = false := decide_eq_false (by omega)
    go_enter Tryd.func11, Tryd.ntmps11
    go_wp2
    go_ret2
    exact ⟨rfl, rfl⟩
theorem minute_yes (n : Int) (h0 : 0 ≤ n) (h1 : n ≤ 1440) (w : World) (hE : Env w) :
    Calls Tryd.prog 11 #[.int .i64 n] w fun e w' => e = .returned (.tuple #[.string ⟨(minT n).toArray⟩, .bool true]) ∧ Below w.heap.size w w' := by
  have g0 : decide (n < 0) = false := decide_eq_false (by omega)
  have g1 : decide (1440 < n) = false := decide_eq_false (by omega)
  have l1 : (low (n / 60) 2).length ≤ 10 := by rw [low_len]; omega
  have l2 : (low (n % 60) 2).length ≤ 10 := by rw [low_len]; omega
  have HE := Lib.hid hE
  have H1 := Lib.hid (fun w hE => digits2 (n / 60) (by omega) (by omega) w hE)
  have H2 := Lib.hid (fun w hE => digits2 (n % 60) (by omega) (by omega) w hE)
  have HT : Hid (minT n = low (n / 60) 2 ++ [58] ++ low (n % 60) 2) := rfl
  clear hE
  go_enter Tryd.func11, Tryd.ntmps11
  go_wp2_with fail
  go_at_call 26
  refine (H1.out _ HE.out).mono ?_
  rintro e w' ⟨rfl, hb⟩
  obtain ⟨g, rfl⟩ := Gr.of hb
  clear hb
  go_wp2_with fail
  go_at_call 26
  refine (H2.out _ (HE.out.gr g)).mono ?_
  rintro e w' ⟨rfl, hb⟩
  obtain ⟨g, rfl⟩ := g.on hb
  clear hb
  go_wp2_with fail
  go_ret2
  exact ⟨congrArg (fun x => Ending.returned (Value.tuple #[.string x, .bool true])) (by rw [HT.out]; exact app3 (low (n / 60) 2) [58] (low (n % 60) 2)), g.ok⟩

theorem cut_any (s sep : ByteArray) (hs : s.size ≤ 1000000) (w : World) (hE : Env w) :
    Calls Tryd.prog 28 #[.string s, .string sep] w fun e w' => e = .returned (.tuple #[.string ⟨(Lib.cut s.data.toList sep.data.toList).1.toArray⟩, .string ⟨(Lib.cut s.data.toList sep.data.toList).2.1.toArray⟩, .bool (Lib.cut s.data.toList sep.data.toList).2.2]) ∧ Below w.heap.size w w' := by
  obtain ⟨m, hm⟩ := hE.ml
  exact (Tryd.strings_Cut s sep m w (by omega) hm).mono fun e w' ⟨he, k, hw⟩ => ⟨he, by rw [hw]; exact drewN_below w k⟩
theorem readd_list (l : List UInt8) (d : Nat) (hd : d ≤ 4) (w : World) :
    Calls Tryd.prog 29 #[.string ⟨l.toArray⟩, .int .i64 d] w fun e w' => e = .returned (.tuple #[.int .i64 (rdN l d), .bool (rdB l d)]) ∧ Below w.heap.size w w' := by
  have := readd_any ⟨l.toArray⟩ d hd w
  simpa using this
theorem readd2 (l : List UInt8) (w : World) :
    Calls Tryd.prog 29 #[.string ⟨l.toArray⟩, .int .i64 2] w fun e w' => e = .returned (.tuple #[.int .i64 (rdN l 2), .bool (rdB l 2)]) ∧ Below w.heap.size w w' := readd_list l 2 (by omega) w
theorem readd4 (l : List UInt8) (w : World) :
    Calls Tryd.prog 29 #[.string ⟨l.toArray⟩, .int .i64 4] w fun e w' => e = .returned (.tuple #[.int .i64 (rdN l 4), .bool (rdB l 4)]) ∧ Below w.heap.size w w' := readd_list l 4 (by omega) w

theorem rmV_ways (a b : Bool) (h m : Int) (r : Int × Bool) (hr : (if a = true ∧ b = true ∧ m < 60 ∧ h * 60 + m ≤ 1440 then (h * 60 + m, true) else (0, false)) = r) :
    (a = false ∧ r = (0, false)) ∨ (a = true ∧ b = false ∧ r = (0, false)) ∨ (a = true ∧ b = true ∧ 60 ≤ m ∧ r = (0, false)) ∨ (a = true ∧ b = true ∧ m < 60 ∧ 1440 < h * 60 + m ∧ r = (0, false)) ∨
    (a = true ∧ b = true ∧ m < 60 ∧ h * 60 + m ≤ 1440 ∧ r = (h * 60 + m, true)) := by
  cases a <;> cases b <;> simp at hr ⊢ <;> try exact hr.symm
  by_cases h1 : m < 60
  · by_cases h2 : h * 60 + m ≤ 1440
    · rw [if_pos ⟨h1, h2⟩] at hr; exact .inr (.inr ⟨h1, h2, hr.symm⟩)
    · rw [if_neg (fun c => h2 c.2)] at hr; exact .inr (.inl ⟨h1, by omega, hr.symm⟩)
  · rw [if_neg (fun c => h1 c.1)] at hr; exact .inl ⟨by omega, hr.symm⟩

theorem readmin_any (s : ByteArray) (hs : s.size ≤ 1000000) (w : World) (hE : Env w) :
    Calls Tryd.prog 13 #[.string s] w fun e w' => e = .returned (.tuple #[.int .i64 (posN (readM s.data.toList)), .bool (posB (readM s.data.toList))]) ∧ Below w.heap.size w w' := by
  have hrm := rm_eq s.data.toList
  obtain ⟨r1, hr1⟩ : ∃ r, posN (readM s.data.toList) = r := ⟨_, rfl⟩
  obtain ⟨r2, hr2⟩ : ∃ r, posB (readM s.data.toList) = r := ⟨_, rfl⟩
  rw [hr1, hr2] at hrm ⊢
  clear hr1 hr2
  have HE := Lib.hid hE
  have HC := Lib.hid (fun w hE => cut_any s ⟨#[58]⟩ hs w hE)
  simp only at HC
  have hbx := rd_bd2 (l := (Lib.cut s.data.toList [58]).1)
  have hby := rd_bd2 (l := (Lib.cut s.data.toList [58]).2.1)
  have HX := Lib.hid (fun w => readd2 (Lib.cut s.data.toList [58]).1 w)
  have HY := Lib.hid (fun w => readd2 (Lib.cut s.data.toList [58]).2.1 w)
  unfold rmV at hrm
  generalize Lib.cut s.data.toList [58] = c at *
  obtain ⟨x, y, fd⟩ := c
  simp only at hbx hby HX HY hrm
  obtain ⟨bx1, bx2⟩ := hbx
  obtain ⟨by1, by2⟩ := hby
  generalize rdN x 2 = hh at *
  generalize rdN y 2 = mm at *
  generalize rdB x 2 = ab at *
  generalize rdB y 2 = bb at *
  clear hE
  rcases rmV_ways ab bb hh mm (r1, r2) hrm with ⟨rfl, he⟩ | ⟨rfl, rfl, he⟩ | ⟨rfl, rfl, h1, he⟩ | ⟨rfl, rfl, h1, h2, he⟩ | ⟨rfl, rfl, h1, h2, he⟩
  all_goals
    clear hrm
    obtain ⟨rfl, rfl⟩ := Prod.mk.inj he
    clear he
    try (have g1 : decide (60 ≤ mm) = false := decide_eq_false (by omega))
    try (have g2 : decide (1440 < hh * 60 + mm) = false := decide_eq_false (by omega))
    go_enter Tryd.func13, Tryd.ntmps13
    go_wp2_with fail
    go_at_call 28
    refine (HC.out _ HE.out).mono ?_
    rintro e w' ⟨rfl, hb⟩
    obtain ⟨g, rfl⟩ := Gr.of hb
    clear hb
    go_wp2_with fail
    go_at_call 29
    refine (HX.out _).mono ?_
    rintro e w' ⟨rfl, hb⟩
    obtain ⟨g, rfl⟩ := g.on hb
    clear hb
    go_wp2_with fail
    go_at_call 29
    refine (HY.out _).mono ?_
    rintro e w' ⟨rfl, hb⟩
    obtain ⟨g, rfl⟩ := g.on hb
    clear hb
    go_wp2_with fail
    go_ret2
    exact ⟨rfl, g.ok⟩
theorem readmin_list (l : List UInt8) (hs : l.length ≤ 1000000) (w : World) (hE : Env w) :
    Calls Tryd.prog 13 #[.string ⟨l.toArray⟩] w fun e w' => e = .returned (.tuple #[.int .i64 (posN (readM l)), .bool (posB (readM l))]) ∧ Below w.heap.size w w' := by
  have := readmin_any ⟨l.toArray⟩ (by show l.toArray.size ≤ _; simpa using hs) w hE
  simpa using this
end Go.Proofs.YtdokniohjdlmfaaDoor
