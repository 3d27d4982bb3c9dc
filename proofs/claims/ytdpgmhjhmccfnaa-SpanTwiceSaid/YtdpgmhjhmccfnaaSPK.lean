/- What the statements of layer 13 ask of the program's rows: contracts, as one structure. -/
import Derived.Test.YtdpgmhjhmccfnaaSW6
import Derived.Test.YtdpgmhjhmccfnaaSMath4
import Derived.Test.YtdpgmhjhmccfnaaIN
namespace Go.Proofs.Ytdpgmhjhmccfnaa
open Go.ChangeShapes Go.WideShapes Go.ChangeAt Go.RowKit Go.Joins Sp

def Int64P (x : Int) : Prop := -9223372036854775808 ≤ x ∧ x ≤ 9223372036854775807
structure SpK : Prop where
  form : ∀ (l : List Spn) (A : Option Addr) (c : Nat) (w : World), l.length ≤ 1000 → In64 l → Sl w A l.length c (sv l) → Calls Try.prog 9 #[.slice A l.length c] w (RetS (formL l) w)
  may : ∀ (l : List Spn) (A : Option Addr) (c : Nat) (w : World), l.length ≤ 1000 → In64 l → Sl w A l.length c (sv l) → Calls Try.prog 12 #[.slice A l.length c] w fun e w' => e = .returned (.bool (decide (formL l = l))) ∧ Below w.heap.size w w'
  has : ∀ (l : List Spn) (m : Int) (A : Option Addr) (c : Nat) (w : World), l.length ≤ 1000 → Int64P m → Sl w A l.length c (sv l) → Calls Try.prog 14 #[.slice A l.length c, .int .i64 m] w fun e w' => e = .returned (.bool (hasB l m)) ∧ Below w.heap.size w w'
  union : ∀ (a b : List Spn) (A B : Option Addr) (c d : Nat) (w : World), a.length ≤ 1000 → b.length ≤ 1000 → In64 a → In64 b → Sl w A a.length c (sv a) → Sl w B b.length d (sv b) → Calls Try.prog 16 #[.slice A a.length c, .slice B b.length d] w (RetS (pair (cW 0) a b) w)
  meet : ∀ (a b : List Spn) (A B : Option Addr) (c d : Nat) (w : World), a.length ≤ 1000 → b.length ≤ 1000 → In64 a → In64 b → Sl w A a.length c (sv a) → Sl w B b.length d (sv b) → Calls Try.prog 17 #[.slice A a.length c, .slice B b.length d] w (RetS (pair (cW 1) a b) w)
  minus : ∀ (a b : List Spn) (A B : Option Addr) (c d : Nat) (w : World), a.length ≤ 1000 → b.length ≤ 1000 → In64 a → In64 b → Sl w A a.length c (sv a) → Sl w B b.length d (sv b) → Calls Try.prog 18 #[.slice A a.length c, .slice B b.length d] w (RetS (pair (cW 2) a b) w)
  grow : ∀ (l : List Spn) (a b : Int) (A : Option Addr) (c : Nat) (w : World), l.length ≤ 1000 → In64 l → Int64P a → Int64P b → Sl w A l.length c (sv l) → Calls Try.prog 22 #[.slice A l.length c, .int .i64 a, .int .i64 b] w (RetS (growL l a b) w)
  cut : ∀ (l : List Spn) (x1 x2 : Int) (A : Option Addr) (c : Nat) (w : World), l.length ≤ 1000 → In64 l → Int64P x1 → Int64P x2 → Sl w A l.length c (sv l) → Calls Try.prog 20 #[.slice A l.length c, .agg #[.int .i64 x1, .int .i64 x2]] w (RetS (pair (cW 1) l [(x1, x2)]) w)
  minutes : ∀ (l : List Spn) (A : Option Addr) (c : Nat) (w : World), l.length ≤ 1000 → In64 l → Sl w A l.length c (sv l) → Calls Try.prog 21 #[.slice A l.length c] w fun e w' => e = .returned (.int .u64 (len (formL l))) ∧ Below w.heap.size w w'
theorem cK_cW (k : Int) : cK k = cW k := rfl
theorem In64.pairW {a b : List Spn} (k : Int) (ha : In64 a) (hb : In64 b) : In64 (pair (cW k) a b) := by
  have h1 := ha.bd
  have h2 := hb.bd
  have hf := pair_form (cW k) a b
  have := in_bd (lo := -9223372036854775808) (hi := 9223372036854775807) hf fun x hx => by
    rw [pairW_has] at hx
    by_cases q1 : hasB a x = true
    · have := has_bd h1 ((hasB_iff a x).1 q1); omega
    · by_cases q2 : hasB b x = true
      · have := has_bd h2 ((hasB_iff b x).1 q2); omega
      · rw [Bool.eq_false_iff.2 q1, Bool.eq_false_iff.2 q2, cW_ff] at hx; cases hx
  intro s hs
  have q := this s hs
  have q2 := form_pos hf hs
  omega
theorem In64.form {l : List Spn} (h : In64 l) : In64 (formL l) := h.pairW 0 (b := []) fun s hs => by cases hs
theorem In64.one {x1 x2 : Int} (h1 : Int64P x1) (h2 : Int64P x2) : In64 [(x1, x2)] := fun s hs => by
  obtain rfl : s = (x1, x2) := by simpa using hs
  exact ⟨h1, h2⟩
/-- Rows within these bounds have fewer minutes than there are numbers. -/
theorem len_u64 {l : List Spn} (h : In64 l) : 0 ≤ len (formL l) ∧ len (formL l) ≤ 18446744073709551615 := by
  refine ⟨len_nn (formL_form l), ?_⟩
  rw [len_is h.bd]
  have := cnt_le13 (hasB l) (-9223372036854775808) 18446744073709551615
  omega
end Go.Proofs.Ytdpgmhjhmccfnaa
