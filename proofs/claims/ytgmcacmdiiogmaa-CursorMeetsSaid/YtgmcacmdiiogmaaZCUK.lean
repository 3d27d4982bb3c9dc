import Derived.Test.YtgmcacmdiiogmaaZNC
import Derived.Test.YtgmcacmdiiogmaaZSPK
import Derived.Test.YtgmcacmdiiogmaaZMB
/- What the statements of layer 14 ask of the program's streams: contracts, as one structure, over what a stream, and a counter, are in memory. -/
section
namespace Go.Proofs.Ytgmcacmdiiogmaa
open Go.ChangeShapes Go.WideShapes Go.ChangeAt Go.RowKit Go.Joins Sp

/-- In a world, of a counter, at a pointer, there is a stream of a row, that may ask so often, and has these blocks. -/
abbrev StP := World → Value → Value → List Spn → Nat → (Nat → Prop) → Prop
/-- In a world, at a pointer, there is a counter of so many, that has these blocks. -/
abbrev CtP := World → Value → Nat → (Nat → Prop) → Prop
structure CuK (St : StP) (Ct : CtP) : Prop where
  lt : ∀ {w c p L n F}, St w c p L n F → ∀ b, F b → b < w.heap.size
  mono : ∀ {w c p L n} {F F' : Nat → Prop}, St w c p L n F → (∀ b, F b → F' b) → (∀ b, F' b → b < w.heap.size) → St w c p L n F'
  off : ∀ {w w' c p L n F G}, St w c p L n F → Off G w w' → (∀ b, F b → ¬ G b) → St w' c p L n F
  form : ∀ {w c p L n F}, St w c p L n F → form L
  in64 : ∀ {w c p L n F}, St w c p L n F → In64 L
  ptr : ∀ {w c p L n F}, St w c p L n F → ∃ a, p = .pointer a
  clt : ∀ {w c k C}, Ct w c k C → ∀ b, C b → b < w.heap.size
  coff : ∀ {w w' c k C G}, Ct w c k C → Off G w w' → (∀ b, C b → ¬ G b) → Ct w' c k C
  nilS : ∀ w c, St w c (.pointer none) [] 0 (fun _ => False)
  nilC : ∀ w, Ct w (.pointer none) 0 (fun _ => False)
  newC : ∀ w : World, Calls Try.prog 10 #[] w fun e w' => ∃ c C, e = .returned c ∧ Ct w' c 0 C ∧ (∀ b, C b → w.heap.size ≤ b) ∧ Below w.heap.size w w'
  steps : ∀ w c (k : Nat) C, (k : Int) < 9223372036854775808 → Ct w c k C → Calls Try.prog 15 #[c] w fun e w' => e = .returned (.int .i64 k) ∧ Below w.heap.size w w'
  row : ∀ (w : World) (c : Value) (k : Nat) (C : Nat → Prop) (l : List Spn) (A : Option Addr) (d : Nat), l.length ≤ 1000 → In64 l → Ct w c k C → Sl w A l.length d (sv l) →
    Calls Try.prog 18 #[c, .slice A l.length d] w fun e w' => ∃ p F, e = .returned p ∧ St w' c p (formL l) (l.length + 1) F ∧ (∀ b, F b → w.heap.size ≤ b) ∧ Below w.heap.size w w'
  union : ∀ (w : World) (c : Value) (ps : List Value) (ls : List (List Spn)) (ns : List Nat) (F : Nat → Nat → Prop) (A : Option Addr) (d : Nat), ps.length ≤ 1000 → ls.length = ps.length → ns.length = ps.length →
    (∀ i p L n, ps[i]? = some p → ls[i]? = some L → ns[i]? = some n → St w c p L n (F i)) → (∀ i j b, F i b → F j b → i = j) → (∀ a, A = some a → ∀ i, i < ps.length → ¬ F i a.block) → Sl w A ps.length d ps →
    Calls Try.prog 19 #[.slice A ps.length d] w fun e w' => ∃ p F', e = .returned p ∧ St w' c p (unionL ls) ns.sum F' ∧ (∀ b, F' b → (∃ i, i < ps.length ∧ F i b) ∨ w.heap.size ≤ b) ∧ Off (fun b => ∃ i, i < ps.length ∧ F i b) w w'
  meet : ∀ (w : World) (c : Value) (ps : List Value) (ls : List (List Spn)) (ns : List Nat) (F : Nat → Nat → Prop) (A : Option Addr) (d : Nat), ps.length ≤ 1000 → ls.length = ps.length → ns.length = ps.length →
    (∀ i p L n, ps[i]? = some p → ls[i]? = some L → ns[i]? = some n → St w c p L n (F i)) → (∀ i j b, F i b → F j b → i = j) → (∀ a, A = some a → ∀ i, i < ps.length → ¬ F i a.block) → Sl w A ps.length d ps →
    Calls Try.prog 21 #[.slice A ps.length d] w fun e w' => ∃ p F', e = .returned p ∧ St w' c p (meetL ls) ns.sum F' ∧ (∀ b, F' b → (∃ i, i < ps.length ∧ F i b) ∨ w.heap.size ≤ b) ∧ Off (fun b => ∃ i, i < ps.length ∧ F i b) w w'
  gaps : ∀ (w : World) (c p : Value) (L : List Spn) (n : Nat) (F : Nat → Prop) (x1 x2 : Int), Int64P x1 → Int64P x2 → St w c p L n F →
    Calls Try.prog 20 #[p, .agg #[.int .i64 x1, .int .i64 x2]] w fun e w' => ∃ p' F', e = .returned p' ∧ St w' c p' (gapsL L (x1, x2)) n F' ∧ (∀ b, F' b → F b ∨ w.heap.size ≤ b) ∧ Off F w w'
  grow : ∀ (w : World) (c p : Value) (L : List Spn) (n : Nat) (F : Nat → Prop) (a b : Int), Int64P a → Int64P b → St w c p L n F →
    Calls Try.prog 25 #[p, .int .i64 a, .int .i64 b] w fun e w' => ∃ p' F', e = .returned p' ∧ St w' c p' (growL L a b) n F' ∧ (∀ b, F' b → F b ∨ w.heap.size ≤ b) ∧ Off F w w'
  starts : ∀ (w : World) (c p : Value) (L : List Spn) (n : Nat) (F : Nat → Prop) (a : Int), Int64P a → St w c p L n F →
    Calls Try.prog 27 #[p, .int .i64 a] w fun e w' => ∃ p' F', e = .returned p' ∧ St w' c p' (startsL L a) n F' ∧ (∀ b, F' b → F b ∨ w.heap.size ≤ b) ∧ Off F w w'
  next : ∀ (w : World) (c p : Value) (L : List Spn) (n : Nat) (F : Nat → Prop) (k : Nat) (C : Nat → Prop), St w c p L n F → Ct w c k C → (∀ b, F b → ¬ C b) →
    Calls Try.prog 13 #[p] w fun e w' => ∃ (L' : List Spn) (n' k' : Nat) (F' : Nat → Prop) (x1 x2 : Int) (ok : Bool), e = .returned (.tuple #[.agg #[.int .i64 x1, .int .i64 x2], .bool ok]) ∧
      (L = [] ∧ L' = [] ∧ x1 = 0 ∧ x2 = 0 ∧ ok = false ∨ L = (x1, x2) :: L' ∧ ok = true) ∧ St w' c p L' n' F' ∧ Ct w' c k' C ∧ k' + n' ≤ k + n ∧ (∀ b, F' b → F b ∨ w.heap.size ≤ b) ∧ Off (fun b => F b ∨ C b) w w'
  skip : ∀ (w : World) (c p : Value) (L : List Spn) (n : Nat) (F : Nat → Prop) (m : Int), Int64P m → St w c p L n F →
    Calls Try.prog 16 #[p, .int .i64 m] w fun e w' => ∃ F', e = .returned (.tuple #[]) ∧ St w' c p (behindL L m) n F' ∧ (∀ b, F' b → F b ∨ w.heap.size ≤ b) ∧ Off F w w'
  all : ∀ (w : World) (c p : Value) (L : List Spn) (n : Nat) (F : Nat → Prop) (k : Nat) (C : Nat → Prop), L.length ≤ 100000 → St w c p L n F → Ct w c k C → (∀ b, F b → ¬ C b) →
    Calls Try.prog 12 #[p] w fun e w' => ∃ (A : Option Addr) (d n' k' : Nat) (F' : Nat → Prop), e = .returned (.slice A L.length d) ∧ Sl w' A L.length d (sv L) ∧ (∀ a, A = some a → w.heap.size ≤ a.block ∧ ¬ F' a.block) ∧ St w' c p [] n' F' ∧ Ct w' c k' C ∧ k' + n' ≤ k + n ∧
      (∀ b, F' b → F b ∨ w.heap.size ≤ b) ∧ Off (fun b => F b ∨ C b) w w'


end Go.Proofs.Ytgmcacmdiiogmaa
end
