/- Contract of the document's reading of frames. -/
import Derived.Test.YtabknmlnlhflmaaDoorFW1
import Derived.BigQuiet
import Derived.Deep.QuietTactic
namespace Go.Proofs.YtabknmlnlhflmaaDoor
open Go.ChangeShapes Go.WideShapes Go.ChangeAt Go.RowKit Fr

/-- Four bytes as a number. -/
def rd4 (l : List UInt8) : Nat := (l.getD 0 0).toNat + 256 * (l.getD 1 0).toNat + 65536 * (l.getD 2 0).toNat + 16777216 * (l.getD 3 0).toNat
theorem rd4_lt (l : List UInt8) : rd4 l < 4294967296 := by
  unfold rd4
  have h0 := (l.getD 0 0).toNat_lt
  have h1 := (l.getD 1 0).toNat_lt
  have h2 := (l.getD 2 0).toNat_lt
  have h3 := (l.getD 3 0).toNat_lt
  omega
theorem rd4_four {n : Nat} (h : n < 4294967296) (r : List UInt8) : rd4 (four n ++ r) = n := by
  unfold rd4 four
  simp only [List.cons_append, List.getD_cons_zero, List.getD_cons_succ, List.nil_append]
  rw [u8_nat (by omega), u8_nat (by omega), u8_nat (by omega), u8_nat (by omega)]
  omega
theorem u8_self (c : UInt8) : u8 c.toNat = c := by unfold u8; simp
theorem four_rd4 {l : List UInt8} (h : 4 ≤ l.length) : four (rd4 l) = l.take 4 := by
  match l, h with
  | a :: b :: c :: d :: r, _ =>
    unfold rd4 four
    simp only [List.getD_cons_zero, List.getD_cons_succ, List.take_succ_cons, List.take_zero]
    have h0 := a.toNat_lt
    have h1 := b.toNat_lt
    have h2 := c.toNat_lt
    have h3 := d.toNat_lt
    rw [show (a.toNat + 256 * b.toNat + 65536 * c.toNat + 16777216 * d.toNat) % 256 = a.toNat by omega, show (a.toNat + 256 * b.toNat + 65536 * c.toNat + 16777216 * d.toNat) / 256 % 256 = b.toNat by omega,
      show (a.toNat + 256 * b.toNat + 65536 * c.toNat + 16777216 * d.toNat) / 65536 % 256 = c.toNat by omega, show (a.toNat + 256 * b.toNat + 65536 * c.toNat + 16777216 * d.toNat) / 16777216 = d.toNat by omega]
    simp only [u8_self]
/-- Do bytes begin with a frame? -/
def getB (gen number : Nat) (l : List UInt8) : Bool :=
  decide (16 ≤ l.length) && (decide (gen ≠ 0) && (decide (rd4 l ≤ 1048576) && (decide (rd4 l + 16 ≤ l.length) && decide (putT gen number ((l.drop 12).take (rd4 l)) = l.take (16 + rd4 l)))))
/-- Its payload. -/
def getP (l : List UInt8) : List UInt8 := (l.drop 12).take (rd4 l)
theorem getB_iff {gen number : Nat} {l : List UInt8} : getB gen number l = true ↔ 16 ≤ l.length ∧ gen ≠ 0 ∧ rd4 l ≤ 1048576 ∧ rd4 l + 16 ≤ l.length ∧ putT gen number (getP l) = l.take (16 + rd4 l) := by
  unfold getB getP; simp only [Bool.and_eq_true, decide_eq_true_eq]
theorem getB_not {gen number : Nat} {l : List UInt8} (h : ¬ (16 ≤ l.length ∧ gen ≠ 0 ∧ rd4 l ≤ 1048576 ∧ rd4 l + 16 ≤ l.length ∧ putT gen number (getP l) = l.take (16 + rd4 l))) : getB gen number l = false := by
  cases e : getB gen number l with
  | false => rfl
  | true => exact absurd (getB_iff.1 e) h
theorem headT_len (gen number : Nat) (l : List UInt8) : (headT gen number l).length = 12 + l.length := by unfold headT; simp [four_len]; omega
theorem putT_yes {gen number : Nat} {l : List UInt8} (h : gen ≠ 0) (hl : l.length ≤ 1048576) : putT gen number l = headT gen number l ++ four (Rc.sum (bn (headT gen number l))) := by unfold putT; rw [if_neg (by omega)]
theorem putT_len {gen number : Nat} {l : List UInt8} (h : gen ≠ 0) (hl : l.length ≤ 1048576) : (putT gen number l).length = 16 + l.length := by rw [putT_yes h hl, List.length_append, headT_len, four_len]; omega
/-- A frame, whatever stands behind it, is read. -/
theorem getB_put {gen number : Nat} {p r : List UInt8} (h : gen ≠ 0) (hl : p.length ≤ 1048576) : getB gen number (putT gen number p ++ r) = true ∧ getP (putT gen number p ++ r) = p ∧ rd4 (putT gen number p ++ r) = p.length := by
  have e4 : rd4 (putT gen number p ++ r) = p.length := by
    rw [putT_yes h hl]; unfold headT
    simp only [List.append_assoc]
    exact rd4_four (by omega) _
  have ep : getP (putT gen number p ++ r) = p := by
    unfold getP
    rw [e4, putT_yes h hl]; unfold headT
    simp only [List.append_assoc]
    have e12 : (four p.length ++ (four gen ++ (four number ++ (p ++ (four (Rc.sum (bn (four p.length ++ (four gen ++ (four number ++ p))))) ++ r))))).drop 12 = p ++ (four (Rc.sum (bn (four p.length ++ (four gen ++ (four number ++ p))))) ++ r) := rfl
    rw [e12, List.take_left]
  refine ⟨getB_iff.2 ⟨?_, h, by omega, ?_, ?_⟩, ep, e4⟩
  · rw [List.length_append, putT_len h hl]; omega
  · rw [e4, List.length_append, putT_len h hl]; omega
  · rw [ep, e4, List.take_append_of_le_length (by rw [putT_len h hl]; omega), List.take_of_length_le (by rw [putT_len h hl]; omega)]
/-- Bytes that begin with a frame are one, and what stands behind it. -/
theorem getB_split {gen number : Nat} {l : List UInt8} (h : getB gen number l = true) : l = putT gen number (getP l) ++ l.drop (16 + rd4 l) := by
  obtain ⟨_, _, _, _, e⟩ := getB_iff.1 h
  rw [e, List.take_append_drop]
theorem getP_len {gen number : Nat} {l : List UInt8} (h : getB gen number l = true) : (getP l).length = rd4 l := by
  obtain ⟨_, _, _, _, _⟩ := getB_iff.1 h
  unfold getP; simp; omega

theorem str_at (s : ByteArray) (i : Nat) (h : i < s.size) : (s[i].toNat : Int) = ((s.data.toList.getD i 0).toNat : Int) := by
  rw [List.getD_eq_getElem?_getD, List.getElem?_eq_getElem (by simpa using h)]; rfl
theorem ext_mid (s : ByteArray) (i j : Nat) : (s.extract i j).data.toList = (s.data.toList.drop i).take (j - i) := by
  rw [ByteArray.data_extract, Array.toList_extract, List.extract_eq_take_drop]

theorem app_str (s : ByteArray) : (⟨s.data.toList.toArray⟩ : ByteArray) = s := by cases s; simp

/-- What is answered. -/
def getV (gen number : Nat) (l : List UInt8) : Value := if getB gen number l then .tuple #[.string ⟨(getP l).toArray⟩, .int .i64 ((16 + rd4 l : Nat) : Int)] else .tuple #[.string ⟨#[]⟩, .int .i64 (-1)]
theorem getV_no {gen number : Nat} {l : List UInt8} (h : getB gen number l = false) : getV gen number l = .tuple #[.string ⟨#[]⟩, .int .i64 (-1)] := by unfold getV; rw [h]; rfl
theorem getV_yes {gen number : Nat} {l : List UInt8} (h : getB gen number l = true) : getV gen number l = .tuple #[.string ⟨(getP l).toArray⟩, .int .i64 ((16 + rd4 l : Nat) : Int)] := by unfold getV; rw [h]; rfl
end Go.Proofs.YtabknmlnlhflmaaDoor
