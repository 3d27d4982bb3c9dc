/- A log, as a value: what a log on a disk does, call by call. -/
import Derived.Test.YtabknmlnlhflmaaDoorDMath
import Derived.Test.YtabknmlnlhflmaaDoorFW2
namespace Go.Proofs.YtabknmlnlhflmaaDoor.Vl
open Dm Fr

structure Lg where
  falls : Int
  half : Nat
  gen : Nat
  snap : List UInt8
  recs : List (List UInt8)
  end_ : Nat
structure Lg.Ok (lg : Lg) : Prop where
  half : lg.half ≤ 2097152
  gen : lg.gen < 4294967296
  end_ : lg.end_ ≤ lg.half
  many : 16 * lg.recs.length ≤ lg.end_
def zeros (n : Nat) : List UInt8 := List.replicate n 0
theorem zeros_len (n : Nat) : (zeros n).length = n := by simp [zeros]
def roomI (half : Nat) (at_ : Int) : Int := max (min (half - at_ - 16) 1048576) (-1)
/-- Bytes are written, and made sure of. -/
def layM (m : Dk) (p : Int) (b : List UInt8) : Int × Dk := if (m.write p b).1 = 0 then (if (m.write p b).2.on then (0, (m.write p b).2.sync) else (12, (m.write p b).2)) else m.write p b
def beginM (lg : Lg) (m : Dk) (gen : Nat) (snap : List UInt8) : Int × Lg × Dk :=
  if (layM m (gen % 2 * lg.half : Nat) (zeros lg.half)).1 ≠ 0 then ((layM m (gen % 2 * lg.half : Nat) (zeros lg.half)).1, lg, (layM m (gen % 2 * lg.half : Nat) (zeros lg.half)).2)
  else if (layM (layM m (gen % 2 * lg.half : Nat) (zeros lg.half)).2 (gen % 2 * lg.half : Nat) (putT gen 0 snap)).1 ≠ 0 then
    ((layM (layM m (gen % 2 * lg.half : Nat) (zeros lg.half)).2 (gen % 2 * lg.half : Nat) (putT gen 0 snap)).1, lg, (layM (layM m (gen % 2 * lg.half : Nat) (zeros lg.half)).2 (gen % 2 * lg.half : Nat) (putT gen 0 snap)).2)
  else (0, { lg with gen := gen, snap := snap, recs := [], end_ := 16 + snap.length }, (layM (layM m (gen % 2 * lg.half : Nat) (zeros lg.half)).2 (gen % 2 * lg.half : Nat) (putT gen 0 snap)).2)
def appendM (lg : Lg) (m : Dk) (b : List UInt8) : Int × Lg × Dk :=
  if m.falls ≠ lg.falls then (12, lg, m)
  else if roomI lg.half lg.end_ < b.length then (7, lg, m)
  else if (layM m ((lg.gen % 2 * lg.half : Nat) + lg.end_) (putT lg.gen (lg.recs.length + 1) b)).1 ≠ 0 then
    ((layM m ((lg.gen % 2 * lg.half : Nat) + lg.end_) (putT lg.gen (lg.recs.length + 1) b)).1, lg, (layM m ((lg.gen % 2 * lg.half : Nat) + lg.end_) (putT lg.gen (lg.recs.length + 1) b)).2)
  else (0, { lg with recs := lg.recs ++ [b], end_ := lg.end_ + (16 + b.length) }, (layM m ((lg.gen % 2 * lg.half : Nat) + lg.end_) (putT lg.gen (lg.recs.length + 1) b)).2)
def compactM (lg : Lg) (m : Dk) (s : List UInt8) : Int × Lg × Dk :=
  if m.falls ≠ lg.falls then (12, lg, m)
  else if roomI lg.half 0 < s.length then (7, lg, m)
  else if lg.gen = 4294967295 then (11, lg, m)
  else beginM lg m (lg.gen + 1) s

/-- A half's bytes. -/
def halfB (half : Nat) (s : List UInt8) (p : Nat) : List UInt8 := (s.drop (p * half)).take half
structure Cand where
  gen : Nat
  snap : List UInt8
  end_ : Nat
  held : List UInt8
def cand (p : Nat) (b : List UInt8) (st : Cand) : Cand := if getB (rd4 (b.drop 4)) 0 b = true ∧ rd4 (b.drop 4) % 2 = p ∧ st.gen < rd4 (b.drop 4) then ⟨rd4 (b.drop 4), getP b, 16 + rd4 b, b⟩ else st
def findC (half : Nat) (s : List UInt8) : Nat → Cand
  | 0 => ⟨0, [], 0, []⟩
  | p + 1 => cand p (halfB half s p) (findC half s p)

/-- The records that bytes begin with. -/
def rd (gen : Nat) : Nat → Nat → List UInt8 → List (List UInt8)
  | _, 0, _ => []
  | k, f + 1, l => if getB gen k l then getP l :: rd gen (k + 1) f (l.drop (16 + rd4 l)) else []
def sizeT : List (List UInt8) → Nat
  | [] => 0
  | l :: r => 16 + l.length + sizeT r
theorem sizeT_app (a b : List (List UInt8)) : sizeT (a ++ b) = sizeT a + sizeT b := by
  induction a with
  | nil => simp [sizeT]
  | cons x r ih => simp only [List.cons_append, sizeT, ih]; omega
theorem sizeT_ge (a : List (List UInt8)) : 16 * a.length ≤ sizeT a := by
  induction a with
  | nil => simp [sizeT]
  | cons x r ih => simp only [sizeT, List.length_cons]; omega
def followM (lg : Lg) (m : Dk) (held : List UInt8) : Int × Lg × Dk :=
  let rs := rd lg.gen 1 (held.length + 1) (held.drop lg.end_)
  let e := lg.end_ + sizeT rs
  let lg' : Lg := { lg with recs := rs, end_ := e }
  if held.drop e = zeros (lg.half - e) then (0, lg', m) else ((layM m ((lg.gen % 2 * lg.half : Nat) + e) (zeros (lg.half - e))).1, lg', (layM m ((lg.gen % 2 * lg.half : Nat) + e) (zeros (lg.half - e))).2)
def lg0 (m : Dk) : Lg := ⟨m.falls, m.laid.length / 2, 0, [], [], 0⟩
def openM (m : Dk) : Int × Lg × Dk :=
  let c := findC (m.laid.length / 2) m.seen 2
  if c.gen = 0 then beginM (lg0 m) m 1 [] else followM { lg0 m with gen := c.gen, snap := c.snap, end_ := c.end_ } m c.held

/-- A round of reading records. -/
theorem rd_step (gen k f : Nat) (l : List UInt8) : rd gen k (f + 1) l = if getB gen k l then getP l :: rd gen (k + 1) f (l.drop (16 + rd4 l)) else [] := rfl
/-- More fuel than bytes changes nothing. -/
theorem rd_fuel (gen : Nat) : ∀ (f g k : Nat) (l : List UInt8), l.length < f → l.length < g → rd gen k f l = rd gen k g l
  | 0, _, _, _, h, _ => absurd h (Nat.not_lt_zero _)
  | _, 0, _, _, _, h => absurd h (Nat.not_lt_zero _)
  | f + 1, g + 1, k, l, hf, hg => by
    rw [rd_step, rd_step]
    split
    · have : (l.drop (16 + rd4 l)).length ≤ l.length - 16 := by simp; omega
      have h16 : 16 ≤ l.length := (getB_iff.1 ‹_›).1
      rw [rd_fuel gen f g (k + 1) _ (by omega) (by omega)]
    · rfl
end Go.Proofs.YtabknmlnlhflmaaDoor.Vl
