import Derived.WalkKit
import Derived.ProofKit
import Derived.OpenShut
import Derived.Deep.QuietTactic
import Derived.BigQuiet
import Derived.Lib.Hide
import Derived.Laws.IdiomStrings
import Derived.Deep.Draws
import Derived.Lib.SmallJoins
import Derived.Laws.AppendOwn
import Derived.Laws.AppendOwnNone
import Derived.OwnWalk
import Derived.Test.YtdhinjbkfffpeaaGreatYMA
import Derived.Laws.OwnMore
import Derived.Deep.RegionHeld
/- Worlds that a base world has grown into: regions that draw their order and whose callees make memory, walked once. -/
section
namespace Go.Proofs.YtdhinjbkfffpeaaGreat
open Go.RowKit
structure Gr (w : World) where
  val : World
  ok : Below w.heap.size w val
instance (w : World) : Nonempty (Gr w) := ⟨⟨w, Below.refl _ _⟩⟩
theorem Gr.cell {w : World} (g : Gr w) (b o : Nat) (h : b < w.heap.size) : g.val.cell? ⟨b, o, none⟩ = w.cell? ⟨b, o, none⟩ :=
  g.ok.cell (p := ⟨b, o, none⟩) h
theorem Gr.size {w : World} (g : Gr w) : w.heap.size ≤ g.val.heap.size := g.ok.size
theorem Gr.start (w : World) : ∃ g : Gr w, w = g.val := ⟨⟨w, Below.refl _ _⟩, rfl⟩
theorem Gr.of {w w' : World} (h : Below w.heap.size w w') : ∃ g : Gr w, w' = g.val := ⟨⟨w', h⟩, rfl⟩
theorem Gr.on {w : World} (g : Gr w) {w' : World} (h : Below g.val.heap.size g.val w') : ∃ g' : Gr w, w' = g'.val :=
  ⟨⟨w', g.ok.trans (h.mono g.size)⟩, rfl⟩
theorem Gr.draw {w : World} (g : Gr w) : ∃ g' : Gr w, { g.val with drawn := g.val.drawn + 1 } = g'.val :=
  ⟨⟨_, g.ok.drew⟩, rfl⟩
theorem Gr.draw0 (w : World) : ∃ g' : Gr w, { w with drawn := w.drawn + 1 } = g'.val :=
  ⟨⟨_, (Below.refl _ w).drew⟩, rfl⟩
theorem Gr.calls {P : Program} {f : FuncId} {args : Array Value} {w : World} (g : Gr w) {v : Value}
    (h : Calls P f args g.val fun e w' => e = .returned v ∧ Below g.val.heap.size g.val w') : Calls P f args g.val fun e w'' => e = .returned v ∧ ∃ g' : Gr w, w'' = g'.val :=
  h.mono fun _ _ ⟨he, hb⟩ => ⟨he, g.on hb⟩
theorem Gr.calls_same {P : Program} {f : FuncId} {args : Array Value} {w : World} (g : Gr w) {v : Value}
    (h : Calls P f args g.val fun e w' => e = .returned v ∧ g.val = w') : Calls P f args g.val fun e w'' => e = .returned v ∧ ∃ g' : Gr w, w'' = g'.val :=
  h.mono fun _ _ ⟨he, hb⟩ => ⟨he, g, hb.symm⟩
theorem Gr.below1 {w : World} {o : Obj} (g : Gr (w.alloc o)) : Below w.heap.size w g.val :=
  ((Below.refl _ w).alloc (Nat.le_refl _) o).trans (g.ok.mono (by simp))
theorem Gr.cell1 {w : World} {c : Array Value} {t : TypeId} (g : Gr (w.alloc (.cells c t))) (o : Nat) (v : Value) (h : c[o]? = some v) : g.val.cell? ⟨w.heap.size, o, none⟩ = some v := by
  rw [g.cell _ _ (by simp)]; simp [go_sem, h]
theorem Gr.three {w : World} {x y z : Value} {t : TypeId} : (∀ g : Gr (w.alloc (.cells #[x, y, z] t)), g.val.cell? ⟨w.heap.size, 0, none⟩ = some x) ∧ (∀ g : Gr (w.alloc (.cells #[x, y, z] t)), g.val.cell? ⟨w.heap.size, 1, none⟩ = some y) ∧ (∀ g : Gr (w.alloc (.cells #[x, y, z] t)), g.val.cell? ⟨w.heap.size, 2, none⟩ = some z) :=
  ⟨fun g => g.cell1 0 x rfl, fun g => g.cell1 1 y rfl, fun g => g.cell1 2 z rfl⟩
theorem Gr.up1 {w : World} (g : Gr w) {o : Obj} (g2 : Gr (g.val.alloc o)) : ∃ g' : Gr w, g2.val = g'.val := g.on g2.below1
theorem Gr.region {P : Program} {id : Nat} {Q : Exit → Act → World → Prop} {a : Act} {w0 w : World} {l : List Oper} (hm : P.follows .mixedOrders = true) (hB : Region.lexB .any l.toArray = true)
    (hd : ∃ g : Gr w0, { w with drawn := w.drawn + 1 } = g.val)
    (h : wpQuiet P l.toArray (fun w' => ∃ g : Gr w0, w' = g.val) (fun a' => ∀ w', (∃ g : Gr w0, w' = g.val) → Q .normal a' w') l a) : (Code.region id l.toArray true).wp P Q a w :=
  wp_region_quiet (C := fun w' => ∃ g : Gr w0, w' = g.val) hm hB hd (by simpa using h)
end Go.Proofs.YtdhinjbkfffpeaaGreat
end
section
namespace Go.Proofs.YtdhinjbkfffpeaaGreat
open Go.RowKit
theorem Gr.fold {w : World} (g : Gr w) {o : Obj} (g2 : Gr (g.val.alloc o)) : Below w.heap.size w g2.val := by
  obtain ⟨g', e⟩ := g.up1 g2
  rw [e]; exact g'.ok
end Go.Proofs.YtdhinjbkfffpeaaGreat
end
section
namespace Go.Proofs.YtdhinjbkfffpeaaGreat
open Go.RowKit
theorem cell_old {w w' : World} {b k : Nat} {v : Value} (h : w.cell? ⟨b, k, none⟩ = some v) (hb : Below w.heap.size w w') : w'.cell? ⟨b, k, none⟩ = some v := by
  have hl : b < w.heap.size := World.block_lt_of_cell? _ _ h
  rw [hb.cell (p := ⟨b, k, none⟩) hl]; exact h
theorem ret_bool {a b : Bool} (h : a = b) : Ending.returned (.bool a) = .returned (.bool b) := by rw [h]
theorem ret_int {k : IntKind} {a b : Int} (h : a = b) : Ending.returned (.int k a) = .returned (.int k b) := by rw [h]
def OutAt (w : World) (b : Nat) (t : TypeId) (x y z : Value) : Prop := w.heap[b]? = some (.cells #[x, y, z] t (0, 0))
section
variable {w w' : World} {b : Nat} {t : TypeId} {x y z : Value}
theorem OutAt.lt (h : OutAt w b t x y z) : b < w.heap.size := by
  rcases Nat.lt_or_ge b w.heap.size with h1 | h1
  · exact h1
  · unfold OutAt at h; rw [Array.getElem?_eq_none h1] at h; cases h
theorem OutAt.cells (h : OutAt w b t x y z) : w.cell? ⟨b, 0, none⟩ = some x ∧ w.cell? ⟨b, 1, none⟩ = some y ∧ w.cell? ⟨b, 2, none⟩ = some z := by
  unfold OutAt at h
  refine ⟨?_, ?_, ?_⟩ <;> simp [World.cell?, h]
theorem OutAt.free (h : OutAt w b t x y z) (i : Nat) : w.frozen? ⟨b, i, none⟩ = false := by
  unfold OutAt at h; simp [World.frozen?, h]
theorem OutAt.new (w : World) (t : TypeId) (x y z : Value) : OutAt (w.alloc (.cells #[x, y, z] t)) w.heap.size t x y z := heap_alloc_new w _
theorem OutAt.below {B : Nat} (h : OutAt w b t x y z) (hb : Below B w w') (hB : b < B) : OutAt w' b t x y z := (hb.block b hB).trans h
theorem OutAt.up (h : OutAt w b t x y z) (hb : Below w.heap.size w w') : OutAt w' b t x y z := h.below hb h.lt
theorem OutAt.lay (h : OutAt w b t x y z) : (∀ g : Gr w, g.val.cell? ⟨b, 0, none⟩ = some x) ∧ (∀ g : Gr w, g.val.cell? ⟨b, 1, none⟩ = some y) ∧ (∀ g : Gr w, g.val.cell? ⟨b, 2, none⟩ = some z) ∧ (∀ (g : Gr w) (i : Nat), g.val.frozen? ⟨b, i, none⟩ = false) :=
  ⟨fun g => (h.up g.ok).cells.1, fun g => (h.up g.ok).cells.2.1, fun g => (h.up g.ok).cells.2.2, fun g i => (h.up g.ok).free i⟩
end
theorem conv_one {P : Program} (w : World) (x : Int) (b : UInt8) (hx : (b.toNat : Int) = x) {src dst e : TypeId} (hs : P.underlying src = some (.slice e)) (he : P.underlying e = some (.int .u8)) (hd : P.underlying dst = some .string) :
    (convert src dst (.slice (some ⟨w.heap.size, 0, none⟩) 1 1)).run P (w.alloc (.cells #[.int .u8 x] e)) = .ok (.string ⟨#[b]⟩) (w.alloc (.cells #[.int .u8 x] e)) := by
  refine run_convert_bytes_back (w.alloc (.cells #[.int .u8 x] e)) src dst e ⟨w.heap.size, 0, none⟩ 1 [b] hs he hd fun j hj => ?_
  obtain rfl : j = 0 := by simpa using hj
  simp [go_sem, hx]
end Go.Proofs.YtdhinjbkfffpeaaGreat
end
section
namespace Go.Proofs.YtdhinjbkfffpeaaGreat
open Go.ChangeShapes Go.WideShapes Go.ChangeAt Go.RowKit Go.Joins
theorem blk_cell {w : World} {b i : Nat} {cs : Array Value} {t : TypeId} {v : Value} (h : w.heap[b]? = some (.cells cs t (0, 0))) (hv : cs[i]? = some v) : w.cell? ⟨b, i, none⟩ = some v := by simp [World.cell?, h, hv]
theorem blk_free {w : World} {b : Nat} {cs : Array Value} {t : TypeId} (h : w.heap[b]? = some (.cells cs t (0, 0))) (i : Nat) : w.frozen? ⟨b, i, none⟩ = false := by simp [World.frozen?, h]
theorem heap_lt' {w : World} {b : Nat} {o : Obj} (h : w.heap[b]? = some o) : b < w.heap.size := (Array.getElem?_eq_some_iff.1 h).1
theorem blk_below {w w' : World} {b : Nat} {o : Obj} (h : w.heap[b]? = some o) (hb : Below w.heap.size w w') : w'.heap[b]? = some o := by
  rw [hb.block b (Array.getElem?_eq_some_iff.1 h).1]; exact h
theorem two_set {W : World} {b : Nat} {t : TypeId} {x0 x1 : Value} (h : W.heap[b]? = some (.cells #[x0, x1] t (0, 0))) (v0 v1 : Value) : ((W.setCell ⟨b, 0, none⟩ v0).setCell ⟨b, 1, none⟩ v1).heap[b]? = some (.cells #[v0, v1] t (0, 0)) := by
  have := block_setCell (block_setCell (i := 0) h v0) (i := 1) v1
  simpa using this
theorem heap_alloc_new2 (w : World) (o p : Obj) : ((w.alloc o).alloc p).heap[w.heap.size + 1]? = some p :=
  (congrArg (fun k => ((w.alloc o).alloc p).heap[k]?) (by simp)).trans (heap_alloc_new _ _)
theorem heap_alloc_new3 (w : World) (o p q : Obj) : (((w.alloc o).alloc p).alloc q).heap[w.heap.size + 2]? = some q :=
  (congrArg (fun k => (((w.alloc o).alloc p).alloc q).heap[k]?) (by simp)).trans (heap_alloc_new _ _)
end Go.Proofs.YtdhinjbkfffpeaaGreat
end
section
namespace Go.Proofs.YtdhinjbkfffpeaaGreat
open Go.ChangeShapes Go.WideShapes Go.ChangeAt Go.RowKit
structure Sl (w : World) (A : Option Addr) (n c : Nat) (xs : List Value) : Prop where
  le : n ≤ c
  cap : c ≤ maxLen
  nil : A = none → c = 0
  on : 0 < xs.length → ∃ b off, A = some ⟨b, off, none⟩ ∧ b < w.heap.size ∧ ∀ i v, xs[i]? = some v → w.cell? ⟨b, off + i, none⟩ = some v
section
variable {w w' : World} {A : Option Addr} {n c : Nat} {xs : List Value}
theorem Sl.none_ (w : World) : Sl w none 0 0 [] := ⟨Nat.le_refl _, Nat.zero_le _, fun _ => rfl, fun h => absurd h (by simp)⟩
theorem Sl.below {B : Nat} (h : Sl w A n c xs) (hb : Below B w w') (hB : w.heap.size ≤ B) : Sl w' A n c xs := by
  refine ⟨h.le, h.cap, h.nil, fun hn => ?_⟩
  obtain ⟨b, off, e, hlt, hc⟩ := h.on hn
  refine ⟨b, off, e, Nat.lt_of_lt_of_le hlt hb.size, fun i v hi => ?_⟩
  rw [hb.cell (p := ⟨b, off + i, none⟩) (show b < B by omega)]
  exact hc i v hi
theorem Sl.gr (h : Sl w A n c xs) (g : Gr w) : Sl g.val A n c xs := h.below g.ok (Nat.le_refl _)
theorem Sl.alloc (h : Sl w A n c xs) (o : Obj) : Sl (w.alloc o) A n c xs := h.below ((Below.refl _ w).alloc (Nat.le_refl _) o) (Nat.le_refl _)
theorem Sl.at_ (h : Sl w A n c xs) {i : Nat} {v : Value} (hi : xs[i]? = some v) : ∃ b off, A = some ⟨b, off, none⟩ ∧ b < w.heap.size ∧ w.cell? ⟨b, off + i, none⟩ = some v := by
  have hl := (List.getElem?_eq_some_iff.1 hi).1
  obtain ⟨b, off, e, hlt, hc⟩ := h.on (by omega)
  exact ⟨b, off, e, hlt, hc i v hi⟩
theorem Sl.at2 (h : Sl w A n c xs) {i j : Nat} {u v : Value} (hi : xs[i]? = some u) (hj : xs[j]? = some v) :
    ∃ b off, A = some ⟨b, off, none⟩ ∧ b < w.heap.size ∧ w.cell? ⟨b, off + i, none⟩ = some u ∧ w.cell? ⟨b, off + j, none⟩ = some v := by
  have hl := (List.getElem?_eq_some_iff.1 hi).1
  obtain ⟨b, off, e, hlt, hc⟩ := h.on (by omega)
  exact ⟨b, off, e, hlt, hc i u hi, hc j v hj⟩
theorem Sl.new (w : World) (xs : List Value) (n : Nat) (t : TypeId) (fr : Nat × Nat) (hn : n ≤ maxLen) : Sl (w.alloc (.cells xs.toArray t fr)) (some ⟨w.heap.size, 0, none⟩) n n xs := by
  refine ⟨Nat.le_refl _, hn, fun h => by simp at h, fun _ => ⟨_, _, rfl, by simp, fun i v hi => ?_⟩⟩
  rw [World.cell?_alloc_mark]
  simp [hi]
theorem Sl.of_own {base size : Nat} {e : TypeId} {v : Value} (h : w.ownsRow base e size v n xs) : ∃ A c, v = .slice A n c ∧ Sl w A n c xs := by
  rcases h.2 with ⟨rfl, rfl⟩ | ⟨g, cap, cur, rfl, _, hg, hn, hm, hs, ht⟩
  · have : xs = [] := List.eq_nil_of_length_eq_zero (by have := h.1; simpa using this)
    subst this
    exact ⟨none, 0, rfl, Sl.none_ w⟩
  · refine ⟨_, cap, rfl, hn, hm, fun h => by simp at h, fun hl => ⟨g, 0, rfl, (Array.getElem?_eq_some_iff.1 hg).1, fun i u hu => ?_⟩⟩
    have := h.cells (g := g) rfl i u hu
    rw [show (⟨g, 0, none⟩ : Addr).add i = ⟨g, 0 + i, none⟩ by unfold Addr.add; split <;> simp_all] at this
    exact this
theorem Sl.cut {P : Program} (h : Sl w A n c xs) {k s : Nat} (hk : k ≤ n) (hx : xs.length = n * s) {t : TypeId} (ht : P.underlying t = some (.slice (P.elem t))) (hs : ∀ w' : World, (sizeOf (P.elem t)).run P w' = .ok s w') :
    ∃ A1 A2 : Option Addr, (∀ w' : World, (Instr.sliceAt t (.slice A n c) none (some (.int .i64 k)) none).run P w' = .ok (.slice A1 k c) w') ∧
      (∀ w' : World, (Instr.sliceAt t (.slice A n c) (some (.int .i64 k)) none none).run P w' = .ok (.slice A2 (n - k) (c - k)) w') ∧ Sl w A1 k c (xs.take (k * s)) ∧ Sl w A2 (n - k) (c - k) (xs.drop (k * s)) := by
  have hle := h.le
  have hcap := h.cap
  refine ⟨if c = 0 then A else A.map (·.add (0 * s)), if c = k then A else A.map (·.add (k * s)), fun w' => ?_, fun w' => ?_, ⟨by omega, h.cap, ?_, ?_⟩, ⟨by omega, by omega, ?_, ?_⟩⟩
  · rw [run_sliceAt_slice w' t _ _ _ _ ht, run_slice_h w' t A n c ht .i64 k (by omega) (by omega), hs]
    simp [Result.andThen, sliced]
  · rw [run_sliceAt_slice w' t _ _ _ _ ht, run_slice_l w' t A n c ht .i64 k (by omega) (by omega), hs]
    simp [Result.andThen, sliced]
  · intro hn
    split at hn
    · assumption
    · exact h.nil (by simpa using hn)
  · intro hn
    have hk0 : 0 < xs.length := by simp at hn; omega
    obtain ⟨b, off, rfl, hlt, hc⟩ := h.on hk0
    refine ⟨b, off, by split <;> simp [Addr.add], hlt, fun i u hi => hc i u ?_⟩
    rw [List.getElem?_take] at hi
    split at hi
    · exact hi
    · cases hi
  · intro hn
    split at hn
    · omega
    · have := h.nil (by simpa using hn); omega
  · intro hn
    have hk0 : k * s < xs.length := by simp at hn; omega
    obtain ⟨b, off, rfl, hlt, hc⟩ := h.on (by omega)
    have hck : c ≠ k := by
      rintro rfl
      have : n = c := by omega
      subst this
      omega
    refine ⟨b, off + k * s, by rw [if_neg hck]; unfold Addr.add; by_cases h0 : k * s = 0 <;> simp [h0], hlt, fun i u hi => ?_⟩
    rw [Nat.add_assoc]
    exact hc (k * s + i) u (by rw [List.getElem?_drop] at hi; exact hi)
end
theorem wpList_append_sl {P : Program} {w : World} {ops : Array Oper} {rest : List Oper} {o : Oper} {a : Act} {Q : Exit → Act → World → Prop} (hgd : o.guard = none) (s x : Operand) (t : TypeId)
    (ho : o.op = .call { callee := .builtin .append, args := #[s, x], argTypes := #[t, t] })
    (base : Nat) (e : TypeId) (i : TypeInfo) (z : Value) (size bytes : Nat) (ht : P.underlying t = some (.slice e)) (hi : P.info? e = some i) (hz : i.zero = some z)
    (hsize : i.size = size) (hby : i.bytes = bytes) (hzs : z.cells.size = size) (hsz : 0 < size)
    (v : Value) (n : Nat) (xs : List Value) (hs : a.eval s = v) (hown : w.ownsRow base e size v n xs)
    (A : Option Addr) (m c : Nat) (news : List Value) (hx : a.eval x = .slice A m c) (hsl : Sl w A m c news) (hl : news.length = m * size) (h1 : ∀ u ∈ news, u.oneCell' = true)
    (h63 : n + m ≤ maxLen) (hbytes : (n + m) * bytes ≤ 140737488355328) (hbase : base ≤ w.heap.size)
    (h : ∀ v' w', w'.ownsRow base e size v' (n + m) (xs ++ news) → w.grownBy w' v.ownBlock → wpList P ops Q rest (a.put o.dst v') w') : wpList P ops Q (o :: rest) a w := by
  cases A with
  | none =>
    obtain rfl : c = 0 := hsl.nil rfl
    obtain rfl : m = 0 := Nat.le_zero.1 hsl.le
    obtain rfl : news = [] := List.eq_nil_of_length_eq_zero (by simpa using hl)
    refine wpList_append_own_none hgd s x t ho base e i size ht hi v n xs hs hown hx (h v w (by simpa using hown) ⟨rfl, rfl, rfl, Nat.le_refl _, fun _ _ _ => rfl⟩)
  | some ad =>
    refine wpList_append_own w hgd s x t ho base e i z size bytes ht hi hz hsize hby hzs hsz v n xs hs hown ad m c news hx hl (fun j u hu => ?_) h1 h63 hbytes hbase fun v' w' h2 h3 _ => h v' w' h2 h3
    obtain ⟨b, off, e, _, hc⟩ := hsl.at_ hu
    obtain rfl := Option.some.inj e
    rw [show (⟨b, off, none⟩ : Addr).add j = ⟨b, off + j, none⟩ by unfold Addr.add; split <;> simp_all]
    exact hc
end Go.Proofs.YtdhinjbkfffpeaaGreat
end
section
namespace Go.Proofs.YtdhinjbkfffpeaaGreat
open Go.ChangeShapes Go.WideShapes Go.ChangeAt Go.RowKit Sp
def iv (l : List Int) : List Value := l.map (Value.int .i64)
theorem iv_at {l : List Int} {i : Nat} {x : Int} (h : l[i]? = some x) : (iv l)[i]? = some (.int .i64 x) := by simp [iv, h]
def sv : List Spn → List Value
  | [] => []
  | s :: r => .int .i64 s.1 :: .int .i64 s.2 :: sv r
theorem sv_at : ∀ {l : List Spn} {i : Nat} {s : Spn}, l[i]? = some s → (sv l)[i * 2]? = some (.int .i64 s.1) ∧ (sv l)[i * 2 + 1]? = some (.int .i64 s.2)
  | x :: r, 0, s, h => by obtain rfl : x = s := by simpa using h
                          exact ⟨rfl, rfl⟩
  | x :: r, i + 1, s, h => by
    have ih := sv_at (l := r) (i := i) (s := s) (by simpa using h)
    rw [show (i + 1) * 2 = i * 2 + 1 + 1 by omega]
    exact ⟨by simpa [sv] using ih.1, by simpa [sv] using ih.2⟩
theorem Sl.span {w : World} {A : Option Addr} {n c : Nat} {l : List Spn} (h : Sl w A n c (sv l)) {i : Nat} {s : Spn} (hi : l[i]? = some s) :
    ∃ b off, A = some ⟨b, off, none⟩ ∧ b < w.heap.size ∧ w.cell? ⟨b, off + i * 2, none⟩ = some (.int .i64 s.1) ∧ w.cell? ⟨b, off + i * 2 + 1, none⟩ = some (.int .i64 s.2) := by
  obtain ⟨h1, h2⟩ := sv_at hi
  obtain ⟨b, off, e, hb, g1, g2⟩ := h.at2 h1 h2
  exact ⟨b, off, e, hb, g1, by rw [Nat.add_assoc]; exact g2⟩
theorem Sl.spanG {w : World} {A : Option Addr} {n c : Nat} {l : List Spn} (h : Sl w A n c (sv l)) {i : Nat} {s : Spn} (hi : l[i]? = some s) :
    ∃ b off, A = some ⟨b, off, none⟩ ∧ b < w.heap.size ∧ ∀ g : Gr w, g.val.cell? ⟨b, off + i * 2, none⟩ = some (.int .i64 s.1) ∧ g.val.cell? ⟨b, off + i * 2 + 1, none⟩ = some (.int .i64 s.2) := by
  obtain ⟨b, off, e, hb, g1, g2⟩ := h.span hi
  exact ⟨b, off, e, hb, fun g => ⟨cell_old g1 g.ok, cell_old g2 g.ok⟩⟩
theorem Sl.intG {w : World} {A : Option Addr} {n c : Nat} {l : List Int} (h : Sl w A n c (iv l)) {i : Nat} {x : Int} (hi : l[i]? = some x) :
    ∃ b off, A = some ⟨b, off, none⟩ ∧ b < w.heap.size ∧ ∀ g : Gr w, g.val.cell? ⟨b, off + i, none⟩ = some (.int .i64 x) := by
  obtain ⟨b, off, e, hb, g1⟩ := h.at_ (iv_at hi)
  exact ⟨b, off, e, hb, fun g => cell_old g1 g.ok⟩
def RetS (l : List Spn) (w : World) (e : Ending) (w' : World) : Prop := ∃ A c, e = .returned (.slice A l.length c) ∧ Sl w' A l.length c (sv l) ∧ Below w.heap.size w w'
def RetN (l : List Spn) (w : World) (e : Ending) (w' : World) : Prop := ∃ A c, e = .returned (.slice A l.length c) ∧ Sl w' A l.length c (sv l) ∧ (∀ a, A = some a → w.heap.size ≤ a.block) ∧ Below w.heap.size w w'
theorem RetN.s {l : List Spn} {w w' : World} {e : Ending} (h : RetN l w e w') : RetS l w e w' := by
  obtain ⟨A, c, h1, h2, _, h4⟩ := h
  exact ⟨A, c, h1, h2, h4⟩
theorem drop_step {α : Type} {l : List α} {i : Nat} (h : i < l.length) : l.drop i = l[i] :: l.drop (i + 1) := List.drop_eq_getElem_cons h
end Go.Proofs.YtdhinjbkfffpeaaGreat
end
section
namespace Go.Proofs.YtdhinjbkfffpeaaGreat
open Go.ChangeShapes Go.WideShapes Go.ChangeAt Go.RowKit
def BAt (w : World) (A : Option Addr) (l : List UInt8) : Prop :=
  0 < l.length → ∃ b off, A = some ⟨b, off, none⟩ ∧ b < w.heap.size ∧ ∀ i c, l[i]? = some c → w.cell? ⟨b, off + i, none⟩ = some (.int .u8 (c.toNat : Int))
theorem BAt.nil (w : World) (A : Option Addr) : BAt w A [] := fun h => absurd h (by simp)
theorem BAt.below {w w' : World} {A : Option Addr} {l : List UInt8} {B : Nat} (h : BAt w A l) (hb : Below B w w') (hB : w.heap.size ≤ B) : BAt w' A l := by
  intro hn
  obtain ⟨b, off, e, hlt, hc⟩ := h hn
  refine ⟨b, off, e, Nat.lt_of_lt_of_le hlt hb.size, fun i c hi => ?_⟩
  rw [hb.cell (p := ⟨b, off + i, none⟩) (show b < B by omega)]
  exact hc i c hi
theorem BAt.gr {w : World} {A : Option Addr} {l : List UInt8} (h : BAt w A l) (g : Gr w) : BAt g.val A l := h.below g.ok (Nat.le_refl _)
theorem BAt.at_ {w : World} {A : Option Addr} {l : List UInt8} (h : BAt w A l) {i : Nat} (hi : i < l.length) :
    ∃ b off, A = some ⟨b, off, none⟩ ∧ b < w.heap.size ∧ w.cell? ⟨b, off + i, none⟩ = some (.int .u8 (l[i].toNat : Int)) := by
  obtain ⟨b, off, e, hlt, hc⟩ := h (by omega)
  exact ⟨b, off, e, hlt, hc i _ (List.getElem?_eq_getElem hi)⟩
theorem BAt.take {w : World} {A : Option Addr} {l : List UInt8} (h : BAt w A l) (k : Nat) : BAt w A (l.take k) := by
  intro hn
  have hl : 0 < l.length := by simp at hn; omega
  obtain ⟨b, off, e, hlt, hc⟩ := h hl
  refine ⟨b, off, e, hlt, fun i c hi => hc i c ?_⟩
  rw [List.getElem?_take] at hi
  split at hi
  · exact hi
  · cases hi
theorem BAt.drop {w : World} {b off : Nat} {l : List UInt8} (h : BAt w (some ⟨b, off, none⟩) l) (k : Nat) : BAt w (some ⟨b, off + k, none⟩) (l.drop k) := by
  intro hn
  have hl : 0 < l.length := by simp at hn; omega
  obtain ⟨b', off', e, hlt, hc⟩ := h hl
  obtain ⟨rfl, rfl⟩ : b = b' ∧ off = off' := by simpa using e
  refine ⟨b, off + k, rfl, hlt, fun i c hi => ?_⟩
  rw [Nat.add_assoc]
  exact hc (k + i) c (by rw [List.getElem?_drop] at hi; exact hi)
theorem BAt.conv {P : Program} {w : World} {A : Option Addr} {l : List UInt8} (h : BAt w A l) (c : Nat) {src dst e : TypeId} (hs : P.underlying src = some (.slice e)) (he : P.underlying e = some (.int .u8)) (hd : P.underlying dst = some .string) :
    (convert src dst (.slice A l.length c)).run P w = .ok (.string ⟨l.toArray⟩) w := by
  by_cases hn : 0 < l.length
  · obtain ⟨b, off, rfl, hlt, hc⟩ := h hn
    exact run_convert_bytes_back w src dst e ⟨b, off, none⟩ c l hs he hd fun j hj => by
      rw [show (⟨b, off, none⟩ : Addr).add j = ⟨b, off + j, none⟩ by unfold Addr.add; split <;> simp_all]
      exact hc j _ (List.getElem?_eq_getElem hj)
  · obtain rfl : l = [] := List.eq_nil_of_length_eq_zero (by omega)
    cases A with
    | none =>
      rw [run_convert_bytes_string w src dst e _ _ c hs he hd]
      simp [Conv.bytesToString]
      rfl
    | some a => exact run_convert_bytes_back w src dst e a c [] hs he hd fun j hj => absurd hj (by simp)
theorem BAt.cut {P : Program} {W : World} {A : Option Addr} {l : List UInt8} (h : BAt W A l) {ca k : Nat} (hk : k ≤ l.length) (hl : l.length ≤ ca) {t : TypeId} (ht : P.underlying t = some (.slice (P.elem t))) (hs : ∀ w' : World, (sizeOf (P.elem t)).run P w' = .ok 1 w') :
    ∃ A1 A2 : Option Addr, (∀ w' : World, (Instr.sliceAt t (.slice A l.length ca) none (some (.int .i64 k)) none).run P w' = .ok (.slice A1 k ca) w') ∧
      (∀ w' : World, (Instr.sliceAt t (.slice A l.length ca) (some (.int .i64 k)) none none).run P w' = .ok (.slice A2 (l.length - k) (ca - k)) w') ∧ BAt W A1 (l.take k) ∧ BAt W A2 (l.drop k) := by
  refine ⟨if ca = 0 then A else A.map (·.add (0 * 1)), if ca = k then A else A.map (·.add (k * 1)), fun w' => ?_, fun w' => ?_, ?_, ?_⟩
  · rw [run_sliceAt_slice w' t _ _ _ _ ht, run_slice_h w' t A l.length ca ht .i64 k (by omega) (by omega), hs]
    simp [Result.andThen, sliced]
  · rw [run_sliceAt_slice w' t _ _ _ _ ht, run_slice_l w' t A l.length ca ht .i64 k (by omega) (by omega), hs]
    simp [Result.andThen, sliced]
  · intro hn
    have hk0 : 0 < k := by simp at hn; omega
    obtain ⟨b, off, rfl, hlt, hc⟩ := h (by omega)
    refine ⟨b, off, by rw [if_neg (by omega)]; simp [Addr.add], hlt, fun i c hi => hc i c ?_⟩
    rw [List.getElem?_take] at hi
    split at hi
    · exact hi
    · cases hi
  · intro hn
    have hk0 : k < l.length := by simp at hn; omega
    obtain ⟨b, off, rfl, hlt, hc⟩ := h (by omega)
    refine ⟨b, off + k, by rw [if_neg (by omega)]; unfold Addr.add; by_cases h0 : k = 0 <;> simp [h0], hlt, fun i c hi => ?_⟩
    rw [Nat.add_assoc]
    exact hc (k + i) c (by rw [List.getElem?_drop] at hi; exact hi)
def bcells (l : List UInt8) : Array Value := (l.map (fun c => Value.int .u8 (c.toNat : Int))).toArray
theorem BAt.new (w : World) (l : List UInt8) (t : TypeId) (fr : Nat × Nat) : BAt (w.alloc (.cells (bcells l) t fr)) (some ⟨w.heap.size, 0, none⟩) l := by
  intro _
  refine ⟨_, _, rfl, by simp, fun i c hi => ?_⟩
  rw [World.cell?_alloc_mark]
  simp [bcells, hi]
end Go.Proofs.YtdhinjbkfffpeaaGreat
end
section
namespace Go.Proofs.YtdhinjbkfffpeaaGreat
open Go.ChangeShapes Go.WideShapes Go.ChangeAt Go.RowKit
structure Off (F : Nat → Prop) (w w' : World) : Prop where
  os : w'.os = w.os
  tape : w'.tape = w.tape
  output : w'.output = w.output
  size : w.heap.size ≤ w'.heap.size
  block : ∀ k, k < w.heap.size → ¬ F k → w'.heap[k]? = w.heap[k]?
section
variable {F G : Nat → Prop} {w w1 w2 w' : World}
theorem Off.refl (F : Nat → Prop) (w : World) : Off F w w := ⟨rfl, rfl, rfl, Nat.le_refl _, fun _ _ _ => rfl⟩
theorem Off.trans (h : Off F w w1) (k : Off G w1 w2) (hG : ∀ b, G b → F b ∨ w.heap.size ≤ b) : Off F w w2 :=
  ⟨k.os.trans h.os, k.tape.trans h.tape, k.output.trans h.output, Nat.le_trans h.size k.size, fun b hb hF =>
    (k.block b (Nat.lt_of_lt_of_le hb h.size) (fun hg => (hG b hg).elim hF (by omega))).trans (h.block b hb hF)⟩
theorem Off.trans' (h : Off F w w1) (k : Off F w1 w2) : Off F w w2 := h.trans k fun _ hb => .inl hb
theorem Off.mono (h : Off F w w') (hG : ∀ b, b < w.heap.size → F b → G b) : Off G w w' := ⟨h.os, h.tape, h.output, h.size, fun b hb hg => h.block b hb fun hf => hg (hG b hb hf)⟩
theorem Off.of_below (h : Below w.heap.size w w') : Off F w w' := ⟨h.os, h.tape, h.output, h.size, fun b hb _ => h.block b hb⟩
theorem Off.toBelow {B : Nat} (h : Off F w w') (hB : B ≤ w.heap.size) (hF : ∀ b, F b → B ≤ b) : Below B w w' :=
  ⟨h.os, h.tape, h.output, h.size, fun b hb => h.block b (by omega) fun hf => by have := hF b hf; omega⟩
theorem Off.of_grown {row : Option Nat} (h : w.grownBy w' row) (hr : ∀ k, row = some k → F k) : Off F w w' :=
  ⟨h.os, h.tape, h.output, h.size, fun b hb hf => h.block b hb fun e => hf (hr b e.symm)⟩
theorem Off.alloc (h : Off F w w') (o : Obj) : Off F w (w'.alloc o) := h.trans (.of_below ((Below.refl _ w').alloc (Nat.le_refl _) o)) (G := F) fun _ hb => .inl hb
theorem Off.drew (h : Off F w w') : Off F w w'.drew := ⟨h.os, h.tape, h.output, h.size, h.block⟩
theorem Off.setCell (h : Off F w w') {b i : Nat} {s} (hb : F b ∨ w.heap.size ≤ b) (u : Value) : Off F w (w'.setCell ⟨b, i, s⟩ u) := by
  refine ⟨h.os, h.tape, h.output, by simpa [World.setCell] using h.size, fun k hk hf => ?_⟩
  rw [Below.heap_setCell _ _ _ _ (show k ≠ b from fun e => by subst e; exact hb.elim hf (by omega))]
  exact h.block k hk hf
theorem Off.cell (h : Off F w w') {b i : Nat} {v : Value} (hc : w.cell? ⟨b, i, none⟩ = some v) (hb : ¬ F b) : w'.cell? ⟨b, i, none⟩ = some v := by
  rw [World.cell?_of_block (h.block b (World.block_lt_of_cell? _ _ hc) hb)]; exact hc
theorem Off.heap (h : Off F w w') {b : Nat} {o : Obj} (hc : w.heap[b]? = some o) (hb : ¬ F b) : w'.heap[b]? = some o := by
  rw [h.block b (Array.getElem?_eq_some_iff.1 hc).1 hb]; exact hc
theorem heap_lt {w : World} {b : Nat} {o : Obj} (h : w.heap[b]? = some o) : b < w.heap.size := (Array.getElem?_eq_some_iff.1 h).1
def BIn (K : Nat → Prop) (w : World) (A : Option Addr) (l : List UInt8) : Prop := BAt w A l ∧ (0 < l.length → ∀ a, A = some a → K a.block)
theorem BAt.off {A : Option Addr} {l : List UInt8} (h : BAt w A l) (ho : Off F w w') (hA : 0 < l.length → ∀ a, A = some a → ¬ F a.block) : BAt w' A l := by
  intro hn
  obtain ⟨b, off, rfl, hlt, hc⟩ := h hn
  exact ⟨b, off, rfl, Nat.lt_of_lt_of_le hlt ho.size, fun i c hi => ho.cell (hc i c hi) (hA hn _ rfl)⟩
theorem BIn.off {K : Nat → Prop} {A : Option Addr} {l : List UInt8} (h : BIn K w A l) (ho : Off F w w') (hK : ∀ b, K b → ¬ F b) : BIn K w' A l :=
  ⟨h.1.off ho fun hn a ha => hK _ (h.2 hn a ha), h.2⟩
theorem BIn.mono {K K' : Nat → Prop} {A : Option Addr} {l : List UInt8} (h : BIn K w A l) (hK : ∀ b, b < w.heap.size → K b → K' b) : BIn K' w A l :=
  ⟨h.1, fun hn a ha => by
    obtain ⟨b, off, rfl, hlt, _⟩ := h.1 hn
    obtain rfl := Option.some.inj ha
    exact hK _ hlt (h.2 hn _ rfl)⟩
theorem BIn.take {K : Nat → Prop} {A : Option Addr} {l : List UInt8} (h : BIn K w A l) (k : Nat) : BIn K w A (l.take k) :=
  ⟨h.1.take k, fun hn => h.2 (by simp at hn; omega)⟩
theorem own_off {base size n : Nat} {e : TypeId} {v : Value} {xs : List Value} (h : w.ownsRow base e size v n xs) (ho : Off F w w') (hv : ∀ k, v.ownBlock = some k → ¬ F k) : w'.ownsRow base e size v n xs := by
  refine ⟨h.1, ?_⟩
  rcases h.2 with hn | ⟨g, cap, cur, rfl, hb, hgg, rest⟩
  · exact .inl hn
  · exact .inr ⟨g, cap, cur, rfl, hb, ho.heap hgg (hv g rfl), rest⟩
end
def bl (l : List UInt8) : List Value := l.map fun c => Value.int .u8 (c.toNat : Int)
theorem bl_len (l : List UInt8) : (bl l).length = l.length := by simp [bl]
theorem bl_at {l : List UInt8} {i : Nat} {c : UInt8} (h : l[i]? = some c) : (bl l)[i]? = some (.int .u8 (c.toNat : Int)) := by simp [bl, h]
theorem bl_app (a b : List UInt8) : bl (a ++ b) = bl a ++ bl b := by simp [bl]
theorem bl_one (l : List UInt8) : ∀ u ∈ bl l, u.oneCell' = true := by
  intro u hu
  obtain ⟨c, _, rfl⟩ := List.mem_map.1 hu
  simp [Value.oneCell']
theorem BAt.of_own {w : World} {base : Nat} {e : TypeId} {v : Value} {l : List UInt8} (h : w.ownsRow base e 1 v l.length (bl l)) :
    ∃ A c, v = .slice A l.length c ∧ l.length ≤ c ∧ c ≤ maxLen ∧ BAt w A l ∧ (A = none → c = 0) ∧ (∀ a, A = some a → a.off = 0 ∧ a.spot = none) := by
  rcases h.2 with ⟨rfl, h0⟩ | ⟨g, cap, cur, rfl, hb, hg, hn, hm, hs, ht⟩
  · obtain rfl : l = [] := List.eq_nil_of_length_eq_zero h0
    exact ⟨none, 0, rfl, Nat.le_refl _, Nat.zero_le _, BAt.nil _ _, fun _ => rfl, fun a h => by cases h⟩
  · refine ⟨_, cap, rfl, hn, hm, fun _ => ⟨g, 0, rfl, heap_lt hg, fun i c hi => ?_⟩, fun h => by (cases h), fun a h => by obtain rfl := Option.some.inj h; exact ⟨rfl, rfl⟩⟩
    have := h.cells (g := g) rfl i _ (bl_at hi)
    rw [show (⟨g, 0, none⟩ : Addr).add i = ⟨g, 0 + i, none⟩ by unfold Addr.add; split <;> simp_all] at this
    exact this
end Go.Proofs.YtdhinjbkfffpeaaGreat
end
section
namespace Go
section
variable {P : Program} {ops : Array Oper} {Q : Exit → Act → World → Prop} {md : Region.Mode} {S : World → Prop} {calls : Nat → Bool}
end
end Go
end
section
namespace Go
section
variable {P : Program} {ops : Array Oper} {Q : Exit → Act → World → Prop} {md : Region.Mode} {S : World → Prop} {calls : Nat → Bool}
def Region.heldBo (md : Region.Mode) (ops : Array Oper) (calls : Nat → Bool) : List Nat → Array Bool → Bool
  | [], listed => (Region.ready md ops listed).isEmpty
  | k :: l, listed => (if calls k then Region.ready md ops listed == [k] else Region.free md ops listed k && (Region.ready md ops listed).contains k) && Region.heldBo md ops calls l (listed.setIfInBounds k true)
def wpHo (P : Program) (ops : Array Oper) (S : World → Prop) (Q : Exit → Act → World → Prop) (calls : Nat → Bool) : List Nat → Act → World → Prop
  | [], a, w => Q .normal a w
  | k :: l, a, w => ∃ o, ops[k]? = some o ∧
    if calls k = true then ∀ K' : Act → World → Prop, Shut (∀ a w, S w → (S w → wpHo P ops S Q calls l a w) → K' a w) → if Region.wanted o (yielded ops a.tmps) = true then Oper.wp P o a w K' Q else K' (a.put o.dst undef) w
    else ∃ v, YieldsIf P ops S o v a ∧ wpHo P ops S Q calls l (a.put o.dst v) w
theorem wpHo_yes {o : Oper} {l : List Nat} {k : Nat} {a : Act} {w : World} {v : Value} (ho : ops[k]? = some o) (hk : calls k = false) (hw : Region.wanted o (yielded ops a.tmps) = true) (hv : ∀ w, S w → (execOp a.eval o).run P w = .ok (.value v) w)
    (h : wpHo P ops S Q calls l (a.put o.dst v) w) : wpHo P ops S Q calls (k :: l) a w := by
  refine ⟨o, ho, ?_⟩
  rw [hk]
  simp only [Bool.false_eq_true, ↓reduceIte]
  exact ⟨v, .inl ⟨hw, hv⟩, h⟩
theorem wpHo_call {o : Oper} {l : List Nat} {k : Nat} {a : Act} {w : World} (ho : ops[k]? = some o) (hk : calls k = true)
    (h : ∀ K' : Act → World → Prop, Shut (∀ a w, S w → (S w → wpHo P ops S Q calls l a w) → K' a w) → if Region.wanted o (yielded ops a.tmps) = true then Oper.wp P o a w K' Q else K' (a.put o.dst undef) w) : wpHo P ops S Q calls (k :: l) a w := by
  refine ⟨o, ho, ?_⟩
  rw [if_pos hk]
  exact h
theorem wpHo_callYes {o : Oper} {l : List Nat} {k : Nat} {a : Act} {w : World} (ho : ops[k]? = some o) (hk : calls k = true) (hw : Region.wanted o (yielded ops a.tmps) = true)
    (h : ∀ K' : Act → World → Prop, Shut (∀ a w, S w → (S w → wpHo P ops S Q calls l a w) → K' a w) → Oper.wp P o a w K' Q) : wpHo P ops S Q calls (k :: l) a w :=
  wpHo_call ho hk fun K' hK => by
    rw [if_pos hw]
    exact h K' hK
theorem wpAnyH_lexo (hn : Region.noSelect ops = true) (hQ : ∀ c a d v w, Q (.panic c) (Act.put a (some d) v) w → Q (.panic c) a w) : ∀ (l : List Nat) (listed : Array Bool) (a : Act) (w : World),
    Region.heldBo md ops calls l listed = true → S w → wpHo P ops S Q calls l a w → wpAnyH P md ops Q S l.length listed a w
  | [], listed, a, w, hB, _, h => by
    refine wpAnyH_done ?_ h 0
    simpa [Region.heldBo] using hB
  | k :: l, listed, a, w, hB, hS, h => by
    simp only [Region.heldBo, Bool.and_eq_true] at hB
    obtain ⟨h1, hB'⟩ := hB
    obtain ⟨o, h0, h⟩ := h
    cases hc : calls k with
    | true =>
      rw [hc] at h h1
      simp only [↓reduceIte, beq_iff_eq] at h h1
      refine wpAnyH_ready h1 (by simp) (AllReadyH.cons h0 (fun K' hK => h K' (fun a w hS hW => hK a w hS fun hS' => ?_)) AllReadyH.nil)
      exact wpAnyH_lexo hn hQ l _ a w hB' hS' (hW hS')
    | false =>
      rw [hc] at h h1
      simp only [Bool.false_eq_true, ↓reduceIte, Bool.and_eq_true] at h h1
      obtain ⟨v, hy, hK⟩ := h
      exact wpAnyH_take h0 hn h1.1 h1.2 (fun c a w hp => by cases hd : o.dst with | none => (rw [hd] at hp; exact hp) | some d => (rw [hd] at hp; exact hQ c a d _ w hp)) hy hS (wpAnyH_lexo hn hQ l _ _ w hB' hS hK)
theorem wp_region_lexO {id : Nat} {l : List Oper} {a : Act} {w : World} (S : World → Prop) (calls : Nat → Bool) (order : List Nat) (hl : order.length = l.length) (hm : P.follows .mixedOrders = true) (hn : Region.noSelect l.toArray = true)
    (hB : Region.heldBo .any l.toArray calls order (Array.replicate l.length false) = true) (hQ : ∀ c a d v w, Q (.panic c) (Act.put a (some d) v) w → Q (.panic c) a w)
    (hS : S w.drew) (h : wpHo P l.toArray S Q calls order a w.drew) : (Code.region id l.toArray true).wp P Q a w := by
  refine wp_region_held_drew (S := S) hm hS (fun _ => ?_)
  have := wpAnyH_lexo (md := .any) hn hQ order (Array.replicate l.length false) a w.drew hB hS h
  rw [hl] at this
  simpa using this
end
end Go
end
