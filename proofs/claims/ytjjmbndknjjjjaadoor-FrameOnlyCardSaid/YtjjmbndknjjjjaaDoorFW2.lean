/- Contract of the document's reading of frames. -/
import Derived.Test.YtjjmbndknjjjjaaDoorFW1
import Derived.BigQuiet
import Derived.Deep.QuietTactic
namespace Go.Proofs.YtjjmbndknjjjjaaDoor
open Go.ChangeShapes Go.WideShapes Go.ChangeAt Go.RowKit Fr

/-- Four bytes as a number. -/
def rd4 (l : List UInt8) : Nat := (l.getD 0 0).toNat + 256 * (l.getD 1 0).toNat + 65536 * (l.getD 2 0).toNat + 16777216 * (l.getD 3 0).toNat
theorem rd4_lt (l : List UInt8) : rd4 l < 4294967296 := by
  unfold rd4
  have h0 := (l.getD 0 0).toNat_lt
  have h1 := (l.getD 1 0).toNat_lt
  have h2 := (l.getD 2 0).toNat_lt
  have h3 := (l.getD 3 0).toNat_lt
  omega
theorem rd4_four {n : Nat} (h : n < 4294967296) (r : List UInt8) : rd4 (four n ++ r) = n := by
  unfold rd4 four
  simp only [List.cons_append, List.getD_cons_zero, List.getD_cons_succ, List.nil_append]
  rw [u8_nat (by omega), u8_nat (by omega), u8_nat (by omega), u8_nat (by omega)]
  omega
theorem u8_self (c : UInt8) : u8 c.toNat = c := by unfold u8; simp
theorem four_rd4 {l : List UInt8} (h : 4 ≤ l.length) : four (rd4 l) = l.take 4 := by
  match l, h with
  | a :: b :: c :: d :: r, _ =>
    unfold rd4 four
    simp only [List.getD_cons_zero, List.getD_cons_succ, List.take_succ_cons, List.take_zero]
    have h0 := a.toNat_lt
    have h1 := b.toNat_lt
    have h2 := c.toNat_lt
    have h3 := d.toNat_lt
    rw [show (a.toNat + 256 * b.toNat + 65536 * c.toNat + 16777216 * d.toNat) % 256 = a.toNat by omega, show (a.toNat + 256 * b.toNat + 65536 * c.toNat + 16777216 * d.toNat) / 256 % 256 = b.toNat by omega,
      show (a.toNat + 256 * b.toNat + 65536 * c.toNat + 16777216 * d.toNat) / 65536 % 256 = c.toNat by omega, show (a.toNat + 256 * b.toNat + 65536 * c.toNat + 16777216 * d.toNat) / 16777216 = d.toNat by omega]
    simp only [u8_self]
/-- Do bytes begin with a frame? -/
def getB (gen number : Nat) (l : List UInt8) : Bool :=
  decide (16 ≤ l.length) && (decide (gen ≠ 0) && (decide (rd4 l ≤ 1048576) && (decide (rd4 l + 16 ≤ l.length) && decide (putT gen number ((l.drop 12).take (rd4 l)) = l.take (16 + rd4 l)))))
/-- Its payload. -/
def getP (l : List UInt8) : List UInt8 := (l.drop 12).take (rd4 l)
theorem getB_iff {gen number : Nat} {l : List UInt8} : getB gen number l = true ↔ 16 ≤ l.length ∧ gen ≠ 0 ∧ rd4 l ≤ 1048576 ∧ rd4 l + 16 ≤ l.length ∧ putT gen number (getP l) = l.take (16 + rd4 l) := by
  unfold getB getP; simp only [Bool.and_eq_true, decide_eq_true_eq]
theorem getB_not {gen number : Nat} {l : List UInt8} (h : ¬ (16 ≤ l.length ∧ gen ≠ 0 ∧ rd4 l ≤ 1048576 ∧ rd4 l + 16 ≤ l.length ∧ putT gen number (getP l) = l.take (16 + rd4 l))) : getB gen number l = false := by
  cases e : getB gen number l with
  | false => rfl
  | true => exact absurd (getB_iff.1 e) h
theorem headT_len (gen number : Nat) (l : List UInt8) : (headT gen number l).length = 12 + l.length := by unfold headT; simp [four_len]; omega
theorem putT_yes {gen number : Nat} {l : List UInt8} (h : gen ≠ 0) (hl : l.length ≤ 1048576) : putT gen number l = headT gen number l ++ four (Rc.sum (bn (headT gen number l))) := by unfold putT; rw [if_neg (by omega)]
theorem putT_len {gen number : Nat} {l : List UInt8} (h : gen ≠ 0) (hl : l.length ≤ 1048576) : (putT gen number l).length = 16 + l.length := by rw [putT_yes h hl, List.length_append, headT_len, four_len]; omega
/-- A frame, whatever stands behind it, is read. -/
theorem getB_put {gen number : Nat} {p r : List UInt8} (h : gen ≠ 0) (hl : p.length ≤ 1048576) : getB gen number (putT gen number p ++ r) = true ∧ getP (putT gen number p ++ r) = p ∧ rd4 (putT gen number p ++ r) = p.length := by
  have e4 : rd4 (putT gen number p ++ r) = p.length := by
    rw [putT_yes h hl]; unfold headT
    simp only [List.append_assoc]
    exact rd4_four (by omega) _
  have ep : getP (putT gen number p ++ r) = p := by
    unfold getP
    rw [e4, putT_yes h hl]; unfold headT
    simp only [List.append_assoc]
    have e12 : (four p.length ++ (four gen ++ (four number ++ (p ++ (four (Rc.sum (bn (four p.length ++ (four gen ++ (four number ++ p))))) ++ r))))).drop 12 = p ++ (four (Rc.sum (bn (four p.length ++ (four gen ++ (four number ++ p))))) ++ r) := rfl
    rw [e12, List.take_left]
  refine ⟨getB_iff.2 ⟨?_, h, by omega, ?_, ?_⟩, ep, e4⟩
  · rw [List.length_append, putT_len h hl]; omega
  · rw [e4, List.length_append, putT_len h hl]; omega
  · rw [ep, e4, List.take_append_of_le_length (by rw [putT_len h hl]; omega), List.take_of_length_le (by rw [putT_len h hl]; omega)]
/-- Bytes that begin with a frame are one, and what stands behind it. -/
theorem getB_split {gen number : Nat} {l : List UInt8} (h : getB gen number l = true) : l = putT gen number (getP l) ++ l.drop (16 + rd4 l) := by
  obtain ⟨_, _, _, _, e⟩ := getB_iff.1 h
  rw [e, List.take_append_drop]
theorem getP_len {gen number : Nat} {l : List UInt8} (h : getB gen number l = true) : (getP l).length = rd4 l := by
  obtain ⟨_, _, _, _, _⟩ := getB_iff.1 h
  unfold getP; simp; omega

theorem str_at (s : ByteArray) (i : Nat) (h : i < s.size) : (s[i].toNat : Int) = ((s.data.toList.getD i 0).toNat : Int) := by
  rw [List.getD_eq_getElem?_getD, List.getElem?_eq_getElem (by simpa using h)]; rfl
theorem ext_mid (s : ByteArray) (i j : Nat) : (s.extract i j).data.toList = (s.data.toList.drop i).take (j - i) := by
  rw [ByteArray.data_extract, Array.toList_extract, List.extract_eq_take_drop]

set_option maxHeartbeats 1000000 in
theorem rget_short (gen number : Nat) (s : ByteArray) (h : s.size < 16 ∨ gen = 0) (w : World) :
    Calls Tryd.prog 13 #[.string s, .int .u32 gen, .int .u32 number] w fun e w' => e = .returned (.tuple #[.string ⟨#[]⟩, .int .i64 (-1)]) ∧ Below w.heap.size w w' := by
  have hz : decide ((s.size : Int) < 16) = true ∨ (decide ((s.size : Int) < 16) = false ∧ ((gen : Int) == 0) = true) := by
    by_cases h1 : s.size < 16
    · exact Or.inl (decide_eq_true (by omega))
    · exact Or.inr ⟨decide_eq_false (by omega), by simp; omega⟩
  clear h
  rcases hz with hz | ⟨hz, hz2⟩
  all_goals
    go_enter Tryd.func13, Tryd.ntmps13
    go_wp2
    go_ret2
    exact ⟨rfl, Below.refl _ _⟩

theorem app_str (s : ByteArray) : (⟨s.data.toList.toArray⟩ : ByteArray) = s := by cases s; simp

/-- What is answered. -/
def getV (gen number : Nat) (l : List UInt8) : Value := if getB gen number l then .tuple #[.string ⟨(getP l).toArray⟩, .int .i64 ((16 + rd4 l : Nat) : Int)] else .tuple #[.string ⟨#[]⟩, .int .i64 (-1)]
theorem getV_no {gen number : Nat} {l : List UInt8} (h : getB gen number l = false) : getV gen number l = .tuple #[.string ⟨#[]⟩, .int .i64 (-1)] := by unfold getV; rw [h]; rfl
theorem getV_yes {gen number : Nat} {l : List UInt8} (h : getB gen number l = true) : getV gen number l = .tuple #[.string ⟨(getP l).toArray⟩, .int .i64 ((16 + rd4 l : Nat) : Int)] := by unfold getV; rw [h]; rfl

set_option maxHeartbeats 2000000 in
theorem rget_any (gen number : Nat) (s : ByteArray) (hg : gen < 4294967296) (hn : number < 4294967296) (hs : s.size ≤ 140737488355328) (w : World) :
    Calls Tryd.prog 13 #[.string s, .int .u32 gen, .int .u32 number] w fun e w' => e = .returned (getV gen number s.data.toList) ∧ Below w.heap.size w w' := by
  have hsl : s.data.toList.length = s.size := by simp
  by_cases h16 : s.size < 16 ∨ gen = 0
  · rw [getV_no (getB_not (by omega))]
    exact rget_short gen number s h16 w
  have hz1 : decide ((s.size : Int) < 16) = false := decide_eq_false (by omega)
  have hz2 : ((gen : Int) == 0) = false := beq_false_of_ne (by omega)
  have g0 : 0 < s.size := by omega
  have g1 : 1 < s.size := by omega
  have g2 : 2 < s.size := by omega
  have g3 : 3 < s.size := by omega
  have z1 : (1 : Int) < s.size := by omega
  have z2 : (2 : Int) < s.size := by omega
  have z3 : (3 : Int) < s.size := by omega
  have b0 := s[0].toNat_lt
  have b1 := s[1].toNat_lt
  have b2 := s[2].toNat_lt
  have b3 := s[3].toNat_lt
  have hn4 : (s[0].toNat : Int) + (256 : Int) * (s[1].toNat : Int) + (65536 : Int) * (s[2].toNat : Int) + (16777216 : Int) * (s[3].toNat : Int) = ((rd4 s.data.toList : Nat) : Int) := by
    unfold rd4
    have e0 := str_at s 0 g0
    have e1 := str_at s 1 g1
    have e2 := str_at s 2 g2
    have e3 := str_at s 3 g3
    omega
  have hn32 := rd4_lt s.data.toList
  have HG := Lib.hid (fun h => getV_no (gen := gen) (number := number) (l := s.data.toList) (getB_not h))
  have HY := Lib.hid (fun h => getV_yes (gen := gen) (number := number) (l := s.data.toList) (getB_iff.2 h))
  have hp12 : (s.extract 12 (12 + rd4 s.data.toList)).data.toList = getP s.data.toList := by rw [ext_mid]; unfold getP; rw [show 12 + rd4 s.data.toList - 12 = rd4 s.data.toList by omega]
  have hp16 : (s.extract 0 (16 + rd4 s.data.toList)).data.toList = s.data.toList.take (16 + rd4 s.data.toList) := by rw [ext_mid]; simp
  have hpe : (⟨(getP s.data.toList).toArray⟩ : ByteArray) = s.extract 12 (12 + rd4 s.data.toList) := by rw [← hp12, app_str]
  have HP := Lib.hid (fun w : World => rput_any gen number (s.extract 12 (12 + rd4 s.data.toList)) hg hn (by rw [ByteArray.size_extract]; omega) w)
  have HE : Hid (∀ a : Bool, (a = true → putT gen number (getP s.data.toList) = s.data.toList.take (16 + rd4 s.data.toList)) → True) := fun _ _ => trivial
  rw [hp12] at HP
  rw [hpe] at HY
  have H12 := Lib.hid hp12
  have H16 := Lib.hid hp16
  obtain ⟨v, hv⟩ : ∃ v, getV gen number s.data.toList = v := ⟨_, rfl⟩
  rw [hv] at HG HY ⊢
  clear hp12 hp16 hpe hv HE
  generalize hpt : putT gen number (getP s.data.toList) = pt at *
  generalize hrd : rd4 s.data.toList = n at *
  have HRD := Lib.hid hrd
  clear hrd hpt
  by_cases h1 : (1048576 : Int) < n
  · have E : Hid (v = _) := HG.out (by omega)
    clear hsl
    go_enter Tryd.func13, Tryd.ntmps13
    go_wp2_with fail
    go_region
    go_wp2_with fail
    go_ret2
    exact ⟨by rw [E.out]; rfl, drew_below w⟩
  have h1z : ¬ (1048576 : Int) < n := h1
  by_cases h2 : (s.size : Int) < n + 16
  · have E : Hid (v = _) := HG.out (by omega)
    clear hsl
    go_enter Tryd.func13, Tryd.ntmps13
    go_wp2_with fail
    go_region
    go_wp2_with fail
    go_ret2
    exact ⟨by rw [E.out]; rfl, drew_below w⟩
  have h2z : (n : Int) + 16 ≤ s.size := by omega
  have H3 := Lib.hid (fun h : pt = List.take (16 + n) s.data.toList => HY.out ⟨by omega, by omega, by omega, by omega, h⟩)
  have H4 := Lib.hid (fun h : ¬ pt = List.take (16 + n) s.data.toList => HG.out (fun k => h k.2.2.2.2))
  clear hsl HG HY
  have u1 : (12 : Int) + n ≤ s.size := by omega
  have u2 : (16 : Int) + n ≤ s.size := by omega
  have u3 : ((12 : Int) + n).toNat = 12 + n := by omega
  have u4 : ((16 : Int) + n).toNat = 16 + n := by omega
  have s1 : ∀ w' : World, (Instr.slice 9 (.string s) (some (.int .i64 12)) (some (.int .i64 (12 + n))) none).run Tryd.prog w' = .ok (.string (s.extract 12 (12 + n))) w' := fun w' => by
    rw [run_slice_string w' 9 s .i64 .i64 12 (12 + n) Tryd.underlying9 (by omega) (by omega) u1, u3]; rfl
  have s2 : ∀ w' : World, (Instr.slice 9 (.string s) none (some (.int .i64 (16 + n))) none).run Tryd.prog w' = .ok (.string (s.extract 0 (16 + n))) w' := fun w' => by
    rw [run_slice_string_h w' 9 s Tryd.underlying9 .i64 (16 + n) (by omega) u2, u4]
  have hE : Hid (v = .tuple #[.string (s.extract 12 (12 + n)), .int .i64 ((16 + n : Nat) : Int)]) ∧ (pt == (s.extract 0 (16 + n)).toList) = true ∨ Hid (v = .tuple #[.string ⟨#[]⟩, .int .i64 (-1)]) ∧ (pt == (s.extract 0 (16 + n)).toList) = false := by
    by_cases h5 : pt = List.take (16 + n) s.data.toList
    · exact Or.inl ⟨H3.out h5, by rw [ByteArray.toList_eq, H16.out, h5]; simp⟩
    · exact Or.inr ⟨H4.out h5, by rw [ByteArray.toList_eq, H16.out]; simpa using h5⟩
  clear H3 H4
  rcases hE with ⟨E, hb⟩ | ⟨E, hb⟩
  all_goals
    go_enter Tryd.func13, Tryd.ntmps13
    go_wp2_with fail
    go_region
    go_wp2_with fail
    refine Gr.region (by kernel_rfl) (by kernel_rfl) (Gr.draw1 w) ?_
    repeat (go_big_quiet_step (fail))
    go_big_quiet_step ((go_at_call 10; exact Gr.calls _ (HP.out _)))
    repeat (go_big_quiet_step (fail))
    refine wpQuiet_nil ?_
    rintro _ ⟨g, rfl⟩
    go_wp2_with fail
    go_ret2
    exact ⟨by rw [E.out]; first | rfl | (rw [show ((16 + n : Nat) : Int) = 16 + n by omega]; rfl), g.ok⟩
end Go.Proofs.YtjjmbndknjjjjaaDoor
