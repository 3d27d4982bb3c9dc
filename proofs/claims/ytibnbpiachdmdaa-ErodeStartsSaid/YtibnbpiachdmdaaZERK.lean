import Derived.Test.YtibnbpiachdmdaaZCUK
import Derived.Test.YtibnbpiachdmdaaZEPM
/- What the statements of layer 15 ask of the program's pickers: contracts, as one structure, over what a picker is in memory. -/
section
namespace Go.Proofs.Ytibnbpiachdmdaa
open Go.ChangeShapes Go.WideShapes Go.ChangeAt Go.RowKit Go.Joins Sp
/-- In a world, of a counter, at a pointer, there is a picker of these starts, with these blocks. -/
abbrev PkP := World → Value → Value → (Int → Prop) → (Nat → Prop) → Prop
/-- What is asked of streams of rows alone (a seat that has no others has no CuK). -/
structure CuR (St : StP) (Ct : CtP) : Prop where
  ptr : ∀ {w c p L n F}, St w c p L n F → ∃ a, p = .pointer a
  nilC : ∀ w, Ct w (.pointer none) 0 (fun _ => False)
  row : ∀ (w : World) (c : Value) (k : Nat) (C : Nat → Prop) (l : List Spn) (A : Option Addr) (d : Nat), l.length ≤ 1000 → In64 l → Ct w c k C → Sl w A l.length d (sv l) →
    Calls Try.prog 11 #[c, .slice A l.length d] w fun e w' => ∃ p F, e = .returned p ∧ St w' c p (formL l) (l.length + 1) F ∧ (∀ b, F b → w.heap.size ≤ b) ∧ Below w.heap.size w w'
structure ErK (St : StP) (Ct : CtP) (Pk : PkP) : Prop where
  lt : ∀ {w c p E F}, Pk w c p E F → ∀ b, F b → b < w.heap.size
  off : ∀ {w w' c p E F G}, Pk w c p E F → Off G w w' → (∀ b, F b → ¬ G b) → Pk w' c p E F
  congr : ∀ {w c p E E' F}, Pk w c p E F → (∀ x, E' x ↔ E x) → Pk w c p E' F
  ptr : ∀ {w c p E F}, Pk w c p E F → ∃ a, p = .pointer a
  nilP : ∀ w c, Pk w c (.pointer none) (fun _ => False) (fun _ => False)
  pick : ∀ (w : World) (c p : Value) (L : List Spn) (q : Nat) (F : Nat → Prop) (a g : Int), Int64P a → Int64P g → St w c p L q F →
    Calls Try.prog 10 #[p, .int .i64 a, .int .i64 g] w fun e w' => ∃ P F', e = .returned P ∧ Pk w' c P (Est L (kN a) (kN g)) F' ∧ (∀ b, F' b → F b ∨ w.heap.size ≤ b) ∧ Off F w w'
  next : ∀ (w : World) (c P : Value) (E F : _) (k : Nat) (C : Nat → Prop), Pk w c P E F → Ct w c k C → (∀ b, F b → ¬ C b) →
    Calls Try.prog 13 #[P] w fun e w' => ∃ (x : Int) (k' : Nat) (F' : Nat → Prop), ((e = .returned (.tuple #[.int .i64 x, .bool true]) ∧ Int64P x ∧ E x ∧ (∀ y, E y → x ≤ y) ∧ Pk w' c P (fun y => E y ∧ x < y) F') ∨ (e = .returned (.tuple #[.int .i64 0, .bool false]) ∧ (∀ y, ¬ E y) ∧ Pk w' c P E F')) ∧
      Ct w' c k' C ∧ (∀ b, F' b → F b ∨ w.heap.size ≤ b) ∧ Off (fun b => F b ∨ C b) w w'
  skip : ∀ (w : World) (c P : Value) (E F : _) (m : Int), Int64P m → Pk w c P E F →
    Calls Try.prog 12 #[P, .int .i64 m] w fun e w' => ∃ F', e = .returned (.tuple #[]) ∧ Pk w' c P (fun y => E y ∧ m ≤ y) F' ∧ (∀ b, F' b → F b ∨ w.heap.size ≤ b) ∧ Off F w w'
  starts : ∀ (w : World) (l : List Spn) (A : Option Addr) (d : Nat) (a g m : Int), l.length ≤ 1000 → In64 l → Int64P a → Int64P g → -9223372036854775808 ≤ m → m ≤ 100000 → Sl w A l.length d (sv l) →
    Calls Try.prog 9 #[.slice A l.length d, .int .i64 a, .int .i64 g, .int .i64 m] w fun e w' => ∃ (r : List Int) (A' : Option Addr) (d' : Nat), e = .returned (.slice A' r.length d') ∧ Sl w' A' r.length d' (iv r) ∧ First r (Est (formL l) (kN a) (kN g)) m ∧ (∀ x ∈ r, Int64P x) ∧ (∀ b, A' = some b → w.heap.size ≤ b.block) ∧ Below w.heap.size w w'
  up : ∀ (w : World) (m g : Int), Int64P m → Int64P g → Calls Try.prog 14 #[.int .i64 m, .int .i64 g] w fun e w' =>
    (∃ x, e = .returned (.tuple #[.int .i64 x, .bool true]) ∧ m ≤ x ∧ x ≤ 9223372036854775807 ∧ x % max 1 g = 0 ∧ x - m < max 1 g ∨ e = .returned (.tuple #[.int .i64 0, .bool false]) ∧ 9223372036854775807 - max 1 g < m) ∧ Below w.heap.size w w'
end Go.Proofs.Ytibnbpiachdmdaa
end
