import Derived.Test.YtgmcacmdiiogmaaZCUS3
import Derived.Test.YtgmcacmdiiogmaaZNA
import Derived.Test.YtgmcacmdiiogmaaZASF
import Derived.Test.YtgmcacmdiiogmaaZMB
import Derived.Deep.RegionHeld3
import Derived.Deep.AppendLies
import Derived.Deep.CutRange
import Derived.Deep.RegionLaw
import Derived.Deep.Cut
/- What the law of layer 14 makes of its operations: streams, and the document's rows, side by side. -/
section
namespace Go.Proofs.Ytgmcacmdiiogmaa
open Go.ChangeShapes Go.WideShapes Go.ChangeAt Go.RowKit Go.Joins Sp

/-- An operation: its kind, a row, a number, a window, two more numbers. -/
structure Op14 where
  k : Int
  l : List Spn
  n : Int
  w1 : Int
  w2 : Int
  a : Int
  b : Int
def Op14.cells (o : Op14) (A : Option Addr) (d : Nat) : List Value := [.int .i64 o.k, .slice A o.l.length d, .int .i64 o.n, .int .i64 o.w1, .int .i64 o.w2, .int .i64 o.a, .int .i64 o.b]
structure Op14.Ok (o : Op14) : Prop where
  n : Int64P o.n
  w1 : Int64P o.w1
  w2 : Int64P o.w2
  a : Int64P o.a
  b : Int64P o.b
  l : In64 o.l
/-- Operations in memory. -/
def OpsAt (w : World) (A : Option Addr) (ops : List Op14) : Prop :=
  0 < ops.length → ∃ b off, A = some ⟨b, off, none⟩ ∧ b < w.heap.size ∧ ∀ (i : Nat) (o : Op14), ops[i]? = some o → ∃ (Ai : Option Addr) (di : Nat), Sl w Ai o.l.length di (sv o.l) ∧ ∀ (j : Nat) (v : Value), (o.cells Ai di)[j]? = some v → w.cell? ⟨b, off + i * 7 + j, none⟩ = some v
theorem OpsAt.at_ {w : World} {A : Option Addr} {ops : List Op14} (h : OpsAt w A ops) {i : Nat} {o : Op14} (hi : ops[i]? = some o) :
    ∃ b off Ai di, A = some ⟨b, off, none⟩ ∧ Sl w Ai o.l.length di (sv o.l) ∧ ∀ g : Gr w, g.val.cell? ⟨b, off + i * 7, none⟩ = some (.int .i64 o.k) ∧ g.val.cell? ⟨b, off + i * 7 + 1, none⟩ = some (.slice Ai o.l.length di) ∧ g.val.cell? ⟨b, off + i * 7 + 2, none⟩ = some (.int .i64 o.n) ∧ g.val.cell? ⟨b, off + i * 7 + 3, none⟩ = some (.int .i64 o.w1) ∧ g.val.cell? ⟨b, off + i * 7 + 4, none⟩ = some (.int .i64 o.w2) ∧ g.val.cell? ⟨b, off + i * 7 + 5, none⟩ = some (.int .i64 o.a) ∧ g.val.cell? ⟨b, off + i * 7 + 6, none⟩ = some (.int .i64 o.b) := by
  have := (List.getElem?_eq_some_iff.1 hi).1
  obtain ⟨b, off, e, hlt, hc⟩ := h (by omega)
  obtain ⟨Ai, di, h1, h2⟩ := hc i o hi
  exact ⟨b, off, Ai, di, e, h1, fun g => ⟨cell_old (h2 0 _ rfl) g.ok, cell_old (h2 1 _ rfl) g.ok, cell_old (h2 2 _ rfl) g.ok, cell_old (h2 3 _ rfl) g.ok, cell_old (h2 4 _ rfl) g.ok, cell_old (h2 5 _ rfl) g.ok, cell_old (h2 6 _ rfl) g.ok⟩⟩
theorem OpsAt.below {w w' : World} {A : Option Addr} {ops : List Op14} (h : OpsAt w A ops) (hb : Below w.heap.size w w') : OpsAt w' A ops := by
  intro hn
  obtain ⟨b, off, e, hlt, hc⟩ := h hn
  refine ⟨b, off, e, Nat.lt_of_lt_of_le hlt hb.size, fun i o hi => ?_⟩
  obtain ⟨Ai, di, h1, h2⟩ := hc i o hi
  exact ⟨Ai, di, h1.below hb (Nat.le_refl _), fun j v hv => cell_old (h2 j v hv) hb⟩
theorem ptr_info : (Try.prog.info? 27).map (fun i => (i.zero, i.size, i.bytes)) = some (some (.pointer none), 1, 8) := by kernel_rfl
theorem row_info : (Try.prog.info? 28).map (fun i => (i.zero, i.size, i.bytes)) = some (some (.slice none 0 0), 1, 24) := by kernel_rfl

theorem sl_own {w : World} {base n c size : Nat} {e : TypeId} {A : Option Addr} {xs : List Value} (h : w.ownsRow base e size (.slice A n c) n xs) : Sl w A n c xs := by
  obtain ⟨A', c', e, hs⟩ := Sl.of_own h
  simp only [Value.slice.injEq, true_and] at e
  obtain ⟨rfl, rfl⟩ := e
  exact hs
theorem bel_al {w w' : World} (h : Below w.heap.size w w') (o : Obj) : Below w.heap.size w (w'.alloc o) := h.alloc h.size o
theorem own_at {V : World} {base g n c j : Nat} {e : TypeId} {xs : List Value} {v : Value} (h : V.ownsRow base e 1 (.slice (some ⟨g, 0, none⟩) n c) n xs) (hi : xs[j]? = some v) : V.cell? ⟨g, j, none⟩ = some v ∧ ∀ t, V.frozen? ⟨g, t, none⟩ = false := by
  obtain ⟨cur, hb, _⟩ := own_block h
  have := h.cells (g := g) rfl j v hi
  rw [add_plain, Nat.zero_add] at this
  exact ⟨this, fun t => unfrozen_of_block hb t⟩
/-- The box of an operation. -/
structure Bx (V : World) (b ki : Nat) (ok : Int) (Ai : Option Addr) (ol : List Spn) (di : Nat) (on ow1 ow2 oa ob : Int) (T : Nat → Nat) : Prop where
  blk : V.heap[b]? = some (.cells #[.int .i64 ok, .slice Ai ol.length di, .int .i64 on, .int .i64 ow1, .int .i64 ow2, .int .i64 oa, .int .i64 ob] 53 (0, 0))
  tag : T b = 0
theorem Bx.off {V V' : World} {b ki : Nat} {ok : Int} {Ai : Option Addr} {ol : List Spn} {di : Nat} {on ow1 ow2 oa ob : Int} {T T' : Nat → Nat} {G : Nat → Prop} (h : Bx V b ki ok Ai ol di on ow1 ow2 oa ob T) (ho : Off G V V') (hG : b < V.heap.size → T b = 0 → ¬ G b) (hT : b < V.heap.size → T b = 0 → T' b = 0) : Bx V' b ki ok Ai ol di on ow1 ow2 oa ob T' :=
  ⟨ho.heap h.blk (hG (heap_lt h.blk) h.tag), hT (heap_lt h.blk) h.tag⟩
theorem Bx.cells {V V' : World} {b ki : Nat} {ok : Int} {Ai : Option Addr} {ol : List Spn} {di : Nat} {on ow1 ow2 oa ob : Int} {T : Nat → Nat} (h : Bx V b ki ok Ai ol di on ow1 ow2 oa ob T) (hb : Below V.heap.size V V') : V'.cell? ⟨b, 0, none⟩ = some (.int .i64 ok) ∧ V'.cell? ⟨b, 1, none⟩ = some (.slice Ai ol.length di) ∧ V'.cell? ⟨b, 2, none⟩ = some (.int .i64 on) ∧ V'.cell? ⟨b, 3, none⟩ = some (.int .i64 ow1) ∧ V'.cell? ⟨b, 4, none⟩ = some (.int .i64 ow2) ∧ V'.cell? ⟨b, 5, none⟩ = some (.int .i64 oa) ∧ V'.cell? ⟨b, 6, none⟩ = some (.int .i64 ob) :=
  ⟨cell_old (blk_cell h.blk rfl) hb, cell_old (blk_cell h.blk rfl) hb, cell_old (blk_cell h.blk rfl) hb, cell_old (blk_cell h.blk rfl) hb, cell_old (blk_cell h.blk rfl) hb, cell_old (blk_cell h.blk rfl) hb, cell_old (blk_cell h.blk rfl) hb⟩
theorem ss_one {W : World} {b : Nat} {A : Option Addr} {l : List Spn} {d : Nat} {t : TypeId} (h : W.heap[b]? = some (.cells #[.slice A l.length d] t (0, 0))) (hs : Sl W A l.length d (sv l)) : SsAt W (some ⟨b, 0, none⟩) [l] := fun _ => by
  refine ⟨b, 0, rfl, (Array.getElem?_eq_some_iff.1 h).1, fun i x hx => ?_⟩
  have hi := (List.getElem?_eq_some_iff.1 hx).1
  obtain rfl : i = 0 := by simp at hi; omega
  obtain rfl : l = x := by simpa using hx
  exact ⟨A, d, blk_cell h rfl, hs⟩
/-- What the law holds: streams and rows. -/
structure Bu (St : StP) (w0 w : World) (c : Value) (m most i cs cr : Nat) (As Ar : Option Addr) (T : Nat → Nat) (ps xs : List Value) (ls : List (List Spn)) (ns : List Nat) : Prop where
  ss : SS St w0 w T c ps ls ns
  sb : SB w0 w T m As cs ps
  rb : RB w0 w T m Ar cr xs ls
  sum : ns.sum ≤ most
  tot : total ls ≤ 13 * i
theorem Bu.lxs {St : StP} {w0 w : World} {c : Value} {m most i cs cr : Nat} {As Ar : Option Addr} {T : Nat → Nat} {ps xs : List Value} {ls : List (List Spn)} {ns : List Nat} (h : Bu St w0 w c m most i cs cr As Ar T ps xs ls ns) : xs.length = m := by have := h.rb.own.1; omega
theorem Hl.bu {St : StP} {w0 w : World} {c : Value} {m most i cs cr : Nat} {As Ar : Option Addr} {T : Nat → Nat} {ps xs : List Value} {ls : List (List Spn)} {ns : List Nat} (h : Hl St w0 w T c m m cs cr As Ar ps ps xs ls ls ns) (h1 : ns.sum ≤ most) (h2 : total ls ≤ 13 * i) : ∃ T ps xs ls ns, Bu St w0 w c m most i cs cr As Ar T ps xs ls ns := ⟨T, ps, xs, ls, ns, h.ss, h.sb, h.rb, h1, h2⟩
/-- What the law hands back: a stream, the document's row, how often rows may be asked. -/
def RetB (St : StP) (c : Value) (w : World) (e : Ending) (w' : World) : Prop := ∃ (p : Value) (A : Option Addr) (d : Nat) (L : List Spn) (q most : Nat) (F : Nat → Prop),
  e = .returned (.tuple #[p, .slice A L.length d, .int .i64 most]) ∧ St w' c p L q F ∧ q ≤ most ∧ most ≤ 1000 ∧ L.length ≤ 1000 ∧ Sl w' A L.length d (sv L) ∧ (0 < L.length → ∀ a, A = some a → w.heap.size ≤ a.block ∧ ¬ F a.block) ∧ (∀ b, F b → w.heap.size ≤ b) ∧ Below w.heap.size w w'

/-- What holds ahead of each round. -/
abbrev BuR (St : StP) (w : World) (c : Value) (ops : List Op14) (s7 s8 s9 s16 : Value) (wr : World) : Prop := ∃ (i m most cs cr : Nat) (As Ar : Option Addr) (g : Gr w), wr = g.val ∧ i ≤ ops.length ∧ m ≤ i ∧ most ≤ 13 * i ∧ s16 = .int .i64 i ∧ s7 = .slice As m cs ∧ s8 = .slice Ar m cr ∧ s9 = .int .i64 most ∧ Hid (∃ T ps xs ls ns, Bu St w g.val c m most i cs cr As Ar T ps xs ls ns)
/-- Parts of code. -/
def cSeq1 : Code → Code | .seq a _ => a | c => c
def cSeq2 : Code → Code | .seq _ b => b | c => c
def cBlk : Code → Code | .block _ b => b | c => c
def cLoop : Code → Code | .loop b => b | c => c
end Go.Proofs.Ytgmcacmdiiogmaa
end
