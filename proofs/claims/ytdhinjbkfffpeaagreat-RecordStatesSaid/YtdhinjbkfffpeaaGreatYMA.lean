
/- Plain mathematics of zones: what is added at a minute, the next turn, and of which minutes a local time comes. -/
section
namespace Zn
structure Z where
  base : Int
  n : Nat
  t : Nat → Int
  o : Nat → Int
def okT (z : Z) (i : Nat) : Prop := -900 ≤ z.o i ∧ z.o i ≤ 900 ∧ 0 ≤ z.t i ∧ z.t i ≤ 158310720 ∧ (0 < i → 2880 ≤ z.t i - z.t (i - 1))
instance (z : Z) (i : Nat) : Decidable (okT z i) := by unfold okT; infer_instance
def mayP (z : Z) : Prop := -900 ≤ z.base ∧ z.base ≤ 900 ∧ z.n ≤ 700 ∧ ∀ i, i < z.n → okT z i
instance (z : Z) : Decidable (mayP z) := by unfold mayP; infer_instance
def ah (z : Z) : Nat → Int
  | 0 => z.base
  | p + 1 => z.o p
def offTo (z : Z) (u : Int) : Nat → Int
  | 0 => z.base
  | k + 1 => if z.t k ≤ u then z.o k else offTo z u k
def off (z : Z) (u : Int) : Int := offTo z u z.n
def first (p : Nat → Bool) : Nat → Nat
  | 0 => 0
  | n + 1 => if first p n < n then first p n else if p n = true then n else n + 1
def fb (z : Z) (u : Int) : Nat := first (fun i => decide (u < z.t i)) z.n
def npB (z : Z) (l : Int) (i : Nat) : Bool := decide (l < z.t i + ah z i) || decide (l < z.t i + z.o i)
def np (z : Z) (l : Int) : Nat := first (npB z l) z.n
def atI (z : Z) (l : Int) : Int := l - ah z (np z l)
def hasP (z : Z) (l : Int) : Prop := -900 ≤ l ∧ l ≤ 158311620 ∧ mayP z ∧ 0 ≤ atI z l ∧ atI z l ≤ 158310720
instance (z : Z) (l : Int) : Decidable (hasP z l) := by unfold hasP; infer_instance
end Zn
end
section
namespace Ck
open Zn (first)
def dig (d : Int) : UInt8 := UInt8.ofNat (48 + d).toNat
def low (n : Int) : Nat → List UInt8
  | 0 => []
  | i + 1 => dig (n / 10 ^ i % 10) :: low n i
end Ck
end
section
namespace Qr
open Ck
structure R where
  freq : Int
  iv : Int
  count : Int
  until_ : Int
  bm : List Int
  bd : List Int
  bw : List (Int × Int)
  bs : List Int
  start : Int
def okN (most : Int) (below : Bool) (l : List Int) (i : Nat) : Prop :=
  l.getD i 0 ≤ most ∧ -most ≤ l.getD i 0 ∧ l.getD i 0 ≠ 0 ∧ (below = true ∨ 0 ≤ l.getD i 0) ∧ (i = 0 ∨ l.getD (i - 1) 0 < l.getD i 0)
instance (most : Int) (below : Bool) (l : List Int) (i : Nat) : Decidable (okN most below l i) := by unfold okN; infer_instance
def rowB (most : Int) (below : Bool) (l : List Int) : Bool := (List.range l.length).all fun i => decide (okN most below l i)
def okD (freq : Int) (months : Bool) (l : List (Int × Int)) (i : Nat) : Prop :=
  let d := l.getD i (0, 0)
  0 ≤ d.2 ∧ d.2 ≤ 6 ∧ -5 ≤ d.1 ∧ d.1 ≤ 5 ∧ (d.1 = 0 ∨ (3 ≤ freq ∧ (freq ≠ 4 ∨ months = true))) ∧ (i = 0 ∨ (l.getD (i - 1) (0, 0)).1 < d.1 ∨ ((l.getD (i - 1) (0, 0)).1 = d.1 ∧ (l.getD (i - 1) (0, 0)).2 < d.2))
instance (freq : Int) (months : Bool) (l : List (Int × Int)) (i : Nat) : Decidable (okD freq months l i) := by unfold okD; infer_instance
def daysB (r : R) : Bool := (List.range r.bw.length).all fun i => decide (okD r.freq (!r.bm.isEmpty) r.bw i)
def mayP (r : R) : Prop :=
  (1 ≤ r.freq ∧ r.freq ≤ 4 ∧ 1 ≤ r.iv ∧ r.iv ≤ 999 ∧ 0 ≤ r.count ∧ r.count ≤ 5000 ∧ 0 ≤ r.start ∧ r.start ≤ 6) ∧
  (r.until_ = -1 ∨ (0 ≤ r.until_ ∧ r.until_ < 158310720 ∧ r.count ≤ 0)) ∧
  (rowB 12 false r.bm = true ∧ rowB 31 true r.bd = true ∧ rowB 366 true r.bs = true ∧ daysB r = true) ∧
  (r.freq ≠ 2 ∨ r.bd = []) ∧
  (r.bs = [] ∨ r.bm ≠ [] ∨ r.bd ≠ [] ∨ r.bw ≠ [])
instance (r : R) : Decidable (mayP r) := by unfold mayP; infer_instance
end Qr
end
section
namespace Sp
abbrev Spn := Int × Int
def has (l : List Spn) (m : Int) : Prop := ∃ s ∈ l, s.1 ≤ m ∧ m < s.2
def bld (p : Int → Bool) : List Int → List Spn
  | [] => []
  | [_] => []
  | x :: y :: r =>
    if p x then
      match bld p (y :: r) with
      | [] => [(x, y)]
      | s :: q => if s.1 = y then (x, s.2) :: q else (x, y) :: s :: q
    else bld p (y :: r)
end Sp
end
section
namespace Sp
def hasB (l : List Spn) (m : Int) : Bool := l.any fun s => decide (s.1 ≤ m) && decide (m < s.2)
def putI : List Int → Int → List Int
  | [], n => [n]
  | x :: r, n => if x < n then x :: putI r n else if x = n then x :: r else n :: x :: r
def edgS (l : List Int) (s : Spn) : List Int := putI (putI l s.1) s.2
def edg (l : List Int) (a : List Spn) : List Int := a.foldl edgS l
def edges (a b : List Spn) : List Int := edg (edg [] a) b
def pair (c : Bool → Bool → Bool) (a b : List Spn) : List Spn := bld (fun z => c (hasB a z) (hasB b z)) (edges a b)
def len : List Spn → Int
  | [] => 0
  | s :: r => (s.2 - s.1) + len r
end Sp
end
section
namespace Hr
structure H where
  shifts : List (Int × Int × Int)
  off : List Int
def okS (s : Int × Int × Int) : Prop := 1 ≤ s.1 ∧ s.1 ≤ 127 ∧ 0 ≤ s.2.1 ∧ s.2.1 < s.2.2 ∧ s.2.2 ≤ 1440
instance (s : Int × Int × Int) : Decidable (okS s) := by unfold okS; infer_instance
def okO (l : List Int) (i : Nat) : Prop := 0 ≤ l.getD i 0 ∧ l.getD i 0 ≤ 109937 ∧ (0 < i → l.getD (i - 1) 0 < l.getD i 0)
instance (l : List Int) (i : Nat) : Decidable (okO l i) := by unfold okO; infer_instance
def mayH (h : H) : Prop := h.shifts.length ≤ 10 ∧ h.off.length ≤ 60 ∧ (∀ s ∈ h.shifts, okS s) ∧ ∀ i, i < h.off.length → okO h.off i
instance (h : H) : Decidable (mayH h) := by unfold mayH; infer_instance
end Hr
end
