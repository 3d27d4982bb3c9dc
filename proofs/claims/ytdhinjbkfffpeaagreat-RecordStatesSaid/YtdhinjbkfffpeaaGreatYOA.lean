import Derived.Test.YtdhinjbkfffpeaaGreatYMD
import Derived.Test.YtdhinjbkfffpeaaGreatYMA
import Derived.Lib.SmallJoins
import Derived.Test.YtdhinjbkfffpeaaGreatYMB
import Derived.Test.YtdhinjbkfffpeaaGreatYHW1
/- An event in memory. -/
section
namespace Go.Proofs.YtdhinjbkfffpeaaGreat
open Go.ChangeShapes Go.WideShapes Go.ChangeAt Go.RowKit Go.Joins Sp Qr
structure Evt where
  start : Int
  long : Int
  world : Bool
  again : Bool
  rule : R
  ex : List Int
  plus : List Int
  ch : List (Int × Int × Int)
def cv : List (Int × Int × Int) → List Value
  | [] => []
  | s :: r => .int .i64 s.1 :: .int .i64 s.2.1 :: .int .i64 s.2.2 :: cv r
structure EAt (w : World) (e : Evt) (A1 A2 A3 A4 A5 A6 A7 : Option Addr) (c1 c2 c3 c4 c5 c6 c7 : Nat) : Prop where
  r : RAt w e.rule A1 A2 A3 A4 c1 c2 c3 c4
  s5 : Sl w A5 e.ex.length c5 (iv e.ex)
  s6 : Sl w A6 e.plus.length c6 (iv e.plus)
  s7 : Sl w A7 e.ch.length c7 (cv e.ch)
theorem EAt.below {w w' : World} {e : Evt} {A1 A2 A3 A4 A5 A6 A7 : Option Addr} {c1 c2 c3 c4 c5 c6 c7 : Nat} (h : EAt w e A1 A2 A3 A4 A5 A6 A7 c1 c2 c3 c4 c5 c6 c7) (hb : Below w.heap.size w w') : EAt w' e A1 A2 A3 A4 A5 A6 A7 c1 c2 c3 c4 c5 c6 c7 :=
  ⟨h.r.below hb (Nat.le_refl _), h.s5.below hb (Nat.le_refl _), h.s6.below hb (Nat.le_refl _), h.s7.below hb (Nat.le_refl _)⟩
end Go.Proofs.YtdhinjbkfffpeaaGreat
end
section
namespace Go.Proofs.YtdhinjbkfffpeaaGreat
open Go.ChangeShapes Go.WideShapes Go.ChangeAt Go.RowKit Go.Joins
def kv {α : Type} (f : α → List Value) : List α → List Value
  | [] => []
  | x :: r => f x ++ kv f r
theorem kv_len {α : Type} {f : α → List Value} {n : Nat} (hf : ∀ x, (f x).length = n) (l : List α) : (kv f l).length = l.length * n := by
  induction l with
  | nil => simp [kv]
  | cons s r ih => simp [kv, ih, hf, Nat.succ_mul]; omega
theorem kv_at {α : Type} {f : α → List Value} {n : Nat} (hf : ∀ x, (f x).length = n) : ∀ {l : List α} {i j : Nat} {x : α} {v : Value}, l[i]? = some x → (f x)[j]? = some v → (kv f l)[i * n + j]? = some v
  | y :: r, 0, j, x, v, h, hv => by
    obtain rfl : y = x := by simpa using h
    have hj := (List.getElem?_eq_some_iff.1 hv).1
    rw [kv, List.getElem?_append_left (by simpa using hj)]
    simpa using hv
  | y :: r, i + 1, j, x, v, h, hv => by
    have ih := kv_at hf (l := r) (i := i) (j := j) (x := x) (by simpa using h) hv
    rw [kv, List.getElem?_append_right (by rw [hf, Nat.succ_mul]; omega), hf, show (i + 1) * n + j - n = i * n + j by rw [Nat.succ_mul]; omega]
    exact ih
theorem Sl.kvG {α : Type} {f : α → List Value} {n m c : Nat} {w : World} {A : Option Addr} {l : List α} (hf : ∀ x, (f x).length = n) (hn : 0 < n) (h : Sl w A m c (kv f l)) {i : Nat} {x : α} (hi : l[i]? = some x) :
    ∃ b off, A = some ⟨b, off, none⟩ ∧ b < w.heap.size ∧ ∀ (g : Gr w) (j : Nat) (v : Value), (f x)[j]? = some v → g.val.cell? ⟨b, off + (i * n + j), none⟩ = some v := by
  have hl := (List.getElem?_eq_some_iff.1 hi).1
  obtain ⟨b, off, e, hlt, hc⟩ := h.on (by rw [kv_len hf]; exact Nat.mul_pos (by omega) hn)
  exact ⟨b, off, e, hlt, fun g j v hv => cell_old (hc _ _ (kv_at hf hi hv)) g.ok⟩
end Go.Proofs.YtdhinjbkfffpeaaGreat
end
section
namespace Go.Proofs.YtdhinjbkfffpeaaGreat
open Go.ChangeShapes Go.WideShapes Go.ChangeAt Go.RowKit Go.Joins Sp
def u1 (x : Nat) : List Value := [.int .u32 (x : Int)]
def u2 (x : Nat × Int) : List Value := [.int .u32 (x.1 : Int), .int .i64 x.2]
def u3 (x : Nat × Nat) : List Value := [.int .u32 (x.1 : Int), .int .u32 (x.2 : Int)]
section
variable {w : World} {A : Option Addr} {m c i : Nat}
theorem Sl.uG {l : List Nat} {x : Nat} (h : Sl w A m c (kv u1 l)) (hi : l[i]? = some x) : ∃ b off, A = some ⟨b, off, none⟩ ∧ b < w.heap.size ∧ ∀ g : Gr w, g.val.cell? ⟨b, off + i, none⟩ = some (.int .u32 (x : Int)) := by
  obtain ⟨b, off, e, hb, hc⟩ := Sl.kvG (n := 1) (f := u1) (fun _ => rfl) (by decide) h hi
  exact ⟨b, off, e, hb, fun g => by have := hc g 0 _ rfl; rwa [Nat.mul_one] at this⟩
theorem Sl.upG {l : List (Nat × Int)} {x : Nat × Int} (h : Sl w A m c (kv u2 l)) (hi : l[i]? = some x) : ∃ b off, A = some ⟨b, off, none⟩ ∧ b < w.heap.size ∧ ∀ g : Gr w, g.val.cell? ⟨b, off + i * 2, none⟩ = some (.int .u32 (x.1 : Int)) ∧ g.val.cell? ⟨b, off + i * 2 + 1, none⟩ = some (.int .i64 x.2) := by
  obtain ⟨b, off, e, hb, hc⟩ := Sl.kvG (n := 2) (f := u2) (fun _ => rfl) (by decide) h hi
  exact ⟨b, off, e, hb, fun g => ⟨hc g 0 _ rfl, by rw [Nat.add_assoc]; exact hc g 1 _ rfl⟩⟩
theorem Sl.uuG {l : List (Nat × Nat)} {x : Nat × Nat} (h : Sl w A m c (kv u3 l)) (hi : l[i]? = some x) : ∃ b off, A = some ⟨b, off, none⟩ ∧ b < w.heap.size ∧ ∀ g : Gr w, g.val.cell? ⟨b, off + i * 2, none⟩ = some (.int .u32 (x.1 : Int)) ∧ g.val.cell? ⟨b, off + i * 2 + 1, none⟩ = some (.int .u32 (x.2 : Int)) := by
  obtain ⟨b, off, e, hb, hc⟩ := Sl.kvG (n := 2) (f := u3) (fun _ => rfl) (by decide) h hi
  exact ⟨b, off, e, hb, fun g => ⟨hc g 0 _ rfl, by rw [Nat.add_assoc]; exact hc g 1 _ rfl⟩⟩
theorem Sl.tG {l : List (Int × Int × Int)} {x : Int × Int × Int} (h : Sl w A m c (tv l)) (hi : l[i]? = some x) : ∃ b off, A = some ⟨b, off, none⟩ ∧ b < w.heap.size ∧ ∀ g : Gr w, g.val.cell? ⟨b, off + i * 3, none⟩ = some (.int .i64 x.1) ∧ g.val.cell? ⟨b, off + i * 3 + 1, none⟩ = some (.int .i64 x.2.1) ∧ g.val.cell? ⟨b, off + i * 3 + 2, none⟩ = some (.int .i64 x.2.2) := by
  obtain ⟨b, off, e, hb, p1, p2, p3⟩ := h.shift hi
  exact ⟨b, off, e, hb, fun g => ⟨cell_old p1 g.ok, cell_old p2 g.ok, cell_old p3 g.ok⟩⟩
end
theorem cv_tv' : ∀ l, cv l = tv l
  | [] => rfl
  | s :: r => by unfold cv tv; rw [cv_tv' r]
def I64 (n : Int) : Prop := -9223372036854775808 ≤ n ∧ n ≤ 9223372036854775807
def U32 (n : Nat) : Prop := n < 4294967296
structure Stg where
  base : Int
  turns : List Spn
  shifts : List (Int × Int × Int)
  off : List Int
  before : Int
  after : Int
structure StgP where
  A1 : Option Addr
  A2 : Option Addr
  A3 : Option Addr
  c1 : Nat
  c2 : Nat
  c3 : Nat
structure Stg.Fits (s : Stg) : Prop where
  base : I64 s.base
  turns : ∀ x ∈ s.turns, I64 x.1 ∧ I64 x.2
  shifts : ∀ x ∈ s.shifts, I64 x.1 ∧ I64 x.2.1 ∧ I64 x.2.2
  off : ∀ x ∈ s.off, I64 x
  before : I64 s.before
  after : I64 s.after
structure StgAt (w : World) (s : Stg) (p : StgP) : Prop where
  s1 : Sl w p.A1 s.turns.length p.c1 (sv s.turns)
  s2 : Sl w p.A2 s.shifts.length p.c2 (tv s.shifts)
  s3 : Sl w p.A3 s.off.length p.c3 (iv s.off)
theorem StgAt.below {w w' : World} {s : Stg} {p : StgP} (h : StgAt w s p) (hb : Below w.heap.size w w') : StgAt w' s p :=
  ⟨h.s1.below hb (Nat.le_refl _), h.s2.below hb (Nat.le_refl _), h.s3.below hb (Nat.le_refl _)⟩
def sCells (s : Stg) (p : StgP) : List Value := [.int .i64 s.base, .slice p.A1 s.turns.length p.c1, .slice p.A2 s.shifts.length p.c2, .slice p.A3 s.off.length p.c3, .int .i64 s.before, .int .i64 s.after]
structure Qy where
  win : Spn
  long : Int
  grid : Int
  must : List Nat
  may : List (Nat × Int)
  seats : Int
  apart : List (Nat × Nat)
  prefer : List (Int × Int × Int)
structure QyP where
  A1 : Option Addr
  A2 : Option Addr
  A3 : Option Addr
  A4 : Option Addr
  c1 : Nat
  c2 : Nat
  c3 : Nat
  c4 : Nat
structure Qy.Fits (q : Qy) : Prop where
  win : I64 q.win.1 ∧ I64 q.win.2
  long : I64 q.long
  grid : I64 q.grid
  must : ∀ x ∈ q.must, U32 x
  may : ∀ x ∈ q.may, U32 x.1 ∧ I64 x.2
  seats : I64 q.seats
  apart : ∀ x ∈ q.apart, U32 x.1 ∧ U32 x.2
  prefer : ∀ x ∈ q.prefer, I64 x.1 ∧ I64 x.2.1 ∧ I64 x.2.2
structure QyAt (w : World) (q : Qy) (p : QyP) : Prop where
  s1 : Sl w p.A1 q.must.length p.c1 (kv u1 q.must)
  s2 : Sl w p.A2 q.may.length p.c2 (kv u2 q.may)
  s3 : Sl w p.A3 q.apart.length p.c3 (kv u3 q.apart)
  s4 : Sl w p.A4 q.prefer.length p.c4 (tv q.prefer)
theorem QyAt.below {w w' : World} {q : Qy} {p : QyP} (h : QyAt w q p) (hb : Below w.heap.size w w') : QyAt w' q p :=
  ⟨h.s1.below hb (Nat.le_refl _), h.s2.below hb (Nat.le_refl _), h.s3.below hb (Nat.le_refl _), h.s4.below hb (Nat.le_refl _)⟩
def qCells (q : Qy) (p : QyP) : List Value := [.int .i64 q.win.1, .int .i64 q.win.2, .int .i64 q.long, .int .i64 q.grid, .slice p.A1 q.must.length p.c1, .slice p.A2 q.may.length p.c2, .int .i64 q.seats, .slice p.A3 q.apart.length p.c3, .slice p.A4 q.prefer.length p.c4]
structure Pl where
  id : Nat
  owner : Nat
  query : Qy
  slots : List Int
  votes : List (Nat × Int)
  until_ : Int
  state : Int
  winner : Int
structure PlP where
  q : QyP
  A1 : Option Addr
  A2 : Option Addr
  c1 : Nat
  c2 : Nat
structure Pl.Fits (o : Pl) : Prop where
  id : U32 o.id
  owner : U32 o.owner
  query : o.query.Fits
  slots : ∀ x ∈ o.slots, I64 x
  votes : ∀ x ∈ o.votes, U32 x.1 ∧ I64 x.2
  until_ : I64 o.until_
  state : I64 o.state
  winner : I64 o.winner
structure PlAt (w : World) (o : Pl) (p : PlP) : Prop where
  q : QyAt w o.query p.q
  s1 : Sl w p.A1 o.slots.length p.c1 (iv o.slots)
  s2 : Sl w p.A2 o.votes.length p.c2 (kv u2 o.votes)
theorem PlAt.below {w w' : World} {o : Pl} {p : PlP} (h : PlAt w o p) (hb : Below w.heap.size w w') : PlAt w' o p :=
  ⟨h.q.below hb, h.s1.below hb (Nat.le_refl _), h.s2.below hb (Nat.le_refl _)⟩
def pCells (o : Pl) (p : PlP) : List Value := [.int .u32 (o.id : Int), .int .u32 (o.owner : Int)] ++ qCells o.query p.q ++ [.slice p.A1 o.slots.length p.c1, .slice p.A2 o.votes.length p.c2, .int .i64 o.until_, .int .i64 o.state, .int .i64 o.winner]
structure EvP where
  A1 : Option Addr
  A2 : Option Addr
  A3 : Option Addr
  A4 : Option Addr
  A5 : Option Addr
  A6 : Option Addr
  A7 : Option Addr
  c1 : Nat
  c2 : Nat
  c3 : Nat
  c4 : Nat
  c5 : Nat
  c6 : Nat
  c7 : Nat
structure Evt.Fits (e : Evt) : Prop where
  start : I64 e.start
  long : I64 e.long
  freq : I64 e.rule.freq
  iv : I64 e.rule.iv
  count : I64 e.rule.count
  until_ : I64 e.rule.until_
  bm : ∀ x ∈ e.rule.bm, I64 x
  bd : ∀ x ∈ e.rule.bd, I64 x
  bw : ∀ x ∈ e.rule.bw, I64 x.1 ∧ I64 x.2
  bs : ∀ x ∈ e.rule.bs, I64 x
  rstart : I64 e.rule.start
  ex : ∀ x ∈ e.ex, I64 x
  plus : ∀ x ∈ e.plus, I64 x
  ch : ∀ x ∈ e.ch, I64 x.1 ∧ I64 x.2.1 ∧ I64 x.2.2
def EvAt (w : World) (e : Evt) (p : EvP) : Prop := EAt w e p.A1 p.A2 p.A3 p.A4 p.A5 p.A6 p.A7 p.c1 p.c2 p.c3 p.c4 p.c5 p.c6 p.c7
theorem EvAt.below {w w' : World} {e : Evt} {p : EvP} (h : EvAt w e p) (hb : Below w.heap.size w w') : EvAt w' e p := EAt.below h hb
def eCells (e : Evt) (p : EvP) : List Value := [.int .i64 e.start, .int .i64 e.long, .bool e.world, .bool e.again, .int .i64 e.rule.freq, .int .i64 e.rule.iv, .int .i64 e.rule.count, .int .i64 e.rule.until_, .slice p.A1 e.rule.bm.length p.c1, .slice p.A2 e.rule.bd.length p.c2, .slice p.A3 e.rule.bw.length p.c3, .slice p.A4 e.rule.bs.length p.c4, .int .i64 e.rule.start,
    .slice p.A5 e.ex.length p.c5, .slice p.A6 e.plus.length p.c6, .slice p.A7 e.ch.length p.c7]
end Go.Proofs.YtdhinjbkfffpeaaGreat
end
section
namespace Go.Proofs.YtdhinjbkfffpeaaGreat
open Go.ChangeShapes Go.WideShapes Go.ChangeAt Go.RowKit Sp
structure Rp where
  err : Int
  version : Nat
  slots : List (Int × Int × Int)
  cursor : List UInt8
  poll : Pl
structure RpP where
  A1 : Option Addr
  c1 : Nat
  o : PlP
structure RpAt (w : World) (r : Rp) (p : RpP) : Prop where
  s1 : Sl w p.A1 r.slots.length p.c1 (tv r.slots)
  o : PlAt w r.poll p.o
theorem RpAt.below {w w' : World} {r : Rp} {p : RpP} (h : RpAt w r p) (hb : Below w.heap.size w w') : RpAt w' r p := ⟨h.s1.below hb (Nat.le_refl _), h.o.below hb⟩
structure Ak where
  kind : Int
  caller : Nat
  number : Nat
  user : Nat
  id : Nat
  settings : Stg
  event : Evt
  query : Qy
  cursor : List UInt8
  count : Int
  poll : Nat
  slot : Int
  yes : Bool
  until_ : Int
structure AkP where
  s : StgP
  e : EvP
  q : QyP
structure AkAt (w : World) (a : Ak) (p : AkP) : Prop where
  s : StgAt w a.settings p.s
  e : EvAt w a.event p.e
  q : QyAt w a.query p.q
theorem AkAt.below {w w' : World} {a : Ak} {p : AkP} (h : AkAt w a p) (hb : Below w.heap.size w w') : AkAt w' a p := ⟨h.s.below hb, EvAt.below h.e hb, h.q.below hb⟩
def aCells (a : Ak) (p : AkP) : List Value := [.int .i64 a.kind, .int .u32 (a.caller : Int), .int .u64 (a.number : Int), .int .u32 (a.user : Int), .int .u32 (a.id : Int)] ++ (sCells a.settings p.s ++ (eCells a.event p.e ++ (qCells a.query p.q ++
  [.string ⟨a.cursor.toArray⟩, .int .i64 a.count, .int .u32 (a.poll : Int), .int .i64 a.slot, .bool a.yes, .int .i64 a.until_])))
end Go.Proofs.YtdhinjbkfffpeaaGreat
end
section
namespace Go.Proofs.YtdhinjbkfffpeaaGreat
open Go.ChangeShapes Go.WideShapes Go.ChangeAt Go.RowKit Sp
structure RowsAt {α π : Type} (f : α × π → List Value) (at_ : World → α → π → Prop) (w : World) (A : Option Addr) (c : Nat) (l : List α) (ps : List π) : Prop where
  s : Sl w A l.length c (kv f (l.zip ps))
  len : ps.length = l.length
  el : ∀ (i : Nat) x p, l[i]? = some x → ps[i]? = some p → at_ w x p
section
variable {α π : Type} {f : α × π → List Value} {at_ : World → α → π → Prop} {w w' : World} {A : Option Addr} {c n : Nat} {l : List α} {ps : List π}
theorem RowsAt.below (hat : ∀ w w' x p, at_ w x p → Below w.heap.size w w' → at_ w' x p) (h : RowsAt f at_ w A c l ps) (hb : Below w.heap.size w w') : RowsAt f at_ w' A c l ps :=
  ⟨h.s.below hb (Nat.le_refl _), h.len, fun i x p hx hp => hat _ _ _ _ (h.el i x p hx hp) hb⟩
theorem RowsAt.at (hf : ∀ x, (f x).length = n) (hn : 0 < n) (h : RowsAt f at_ w A c l ps) {i : Nat} {x : α} (hx : l[i]? = some x) :
    ∃ p b off, ps[i]? = some p ∧ A = some ⟨b, off, none⟩ ∧ b < w.heap.size ∧ at_ w x p ∧ ∀ (g : Gr w) (j : Nat) (v : Value), (f (x, p))[j]? = some v → g.val.cell? ⟨b, off + (i * n + j), none⟩ = some v := by
  have hi := (List.getElem?_eq_some_iff.1 hx).1
  obtain ⟨p, hp⟩ : ∃ p, ps[i]? = some p := ⟨_, List.getElem?_eq_getElem (by rw [h.len]; exact hi)⟩
  have hz : (l.zip ps)[i]? = some (x, p) := by rw [List.getElem?_zip_eq_some]; exact ⟨hx, hp⟩
  obtain ⟨b, off, hA, hb, hc⟩ := Sl.kvG hf hn h.s hz
  exact ⟨p, b, off, hp, hA, hb, h.el i x p hx hp, fun g j v hv => hc g j v hv⟩
end
def enC (y : (Nat × Evt) × EvP) : List Value := .int .u32 (y.1.1 : Int) :: eCells y.1.2 y.2
theorem enC_len (y : (Nat × Evt) × EvP) : (enC y).length = 17 := rfl
structure Us where
  id : Nat
  settings : Stg
  version : Nat
  events : List (Nat × Evt)
structure UsP where
  s : StgP
  A1 : Option Addr
  c1 : Nat
  ps : List EvP
structure UsAt (w : World) (u : Us) (p : UsP) : Prop where
  s : StgAt w u.settings p.s
  e : RowsAt enC (fun w x p => EvAt w x.2 p) w p.A1 p.c1 u.events p.ps
theorem UsAt.below {w w' : World} {u : Us} {p : UsP} (h : UsAt w u p) (hb : Below w.heap.size w w') : UsAt w' u p := ⟨h.s.below hb, h.e.below (fun _ _ _ _ h hb => EvAt.below h hb) hb⟩
def uCells (u : Us) (p : UsP) : List Value := .int .u32 (u.id : Int) :: (sCells u.settings p.s ++ [.int .u64 (u.version : Int), .slice p.A1 u.events.length p.c1])
def usC (y : Us × UsP) : List Value := uCells y.1 y.2
theorem usC_len (y : Us × UsP) : (usC y).length = 9 := rfl
def plC (y : Pl × PlP) : List Value := pCells y.1 y.2
theorem plC_len (y : Pl × PlP) : (plC y).length = 16 := rfl
def u4 (x : Nat × Nat × Nat) : List Value := [.int .u32 (x.1 : Int), .int .u64 (x.2.1 : Int), .int .u64 (x.2.2 : Int)]
theorem Sl.u4G {w : World} {A : Option Addr} {m c i : Nat} {l : List (Nat × Nat × Nat)} {x : Nat × Nat × Nat} (h : Sl w A m c (kv u4 l)) (hi : l[i]? = some x) : ∃ b off, A = some ⟨b, off, none⟩ ∧ b < w.heap.size ∧ ∀ g : Gr w, g.val.cell? ⟨b, off + i * 3, none⟩ = some (.int .u32 (x.1 : Int)) ∧ g.val.cell? ⟨b, off + i * 3 + 1, none⟩ = some (.int .u64 (x.2.1 : Int)) ∧ g.val.cell? ⟨b, off + i * 3 + 2, none⟩ = some (.int .u64 (x.2.2 : Int)) := by
  obtain ⟨b, off, e, hb, hc⟩ := Sl.kvG (n := 3) (f := u4) (fun _ => rfl) (by decide) h hi
  exact ⟨b, off, e, hb, fun g => ⟨hc g 0 _ rfl, by rw [Nat.add_assoc]; exact hc g 1 _ rfl, by rw [Nat.add_assoc]; exact hc g 2 _ rfl⟩⟩
structure Sta where
  clock : Int
  users : List Us
  polls : List Pl
  done : List (Nat × Nat × Nat)
structure StaP where
  A1 : Option Addr
  c1 : Nat
  us : List UsP
  A2 : Option Addr
  c2 : Nat
  pl : List PlP
  A3 : Option Addr
  c3 : Nat
structure StaAt (w : World) (s : Sta) (p : StaP) : Prop where
  u : RowsAt usC UsAt w p.A1 p.c1 s.users p.us
  o : RowsAt plC PlAt w p.A2 p.c2 s.polls p.pl
  d : Sl w p.A3 s.done.length p.c3 (kv u4 s.done)
theorem StaAt.below {w w' : World} {s : Sta} {p : StaP} (h : StaAt w s p) (hb : Below w.heap.size w w') : StaAt w' s p :=
  ⟨h.u.below (fun _ _ _ _ h hb => UsAt.below h hb) hb, h.o.below (fun _ _ _ _ h hb => PlAt.below h hb) hb, h.d.below hb (Nat.le_refl _)⟩
def staCells (s : Sta) (p : StaP) : List Value := [.int .i64 s.clock, .slice p.A1 s.users.length p.c1, .slice p.A2 s.polls.length p.c2, .slice p.A3 s.done.length p.c3]
end Go.Proofs.YtdhinjbkfffpeaaGreat
end
