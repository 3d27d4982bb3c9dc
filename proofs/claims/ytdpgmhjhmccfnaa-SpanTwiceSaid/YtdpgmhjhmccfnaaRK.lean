/- Slices as rows of cells: what stands in them; they stay in worlds that grow; cut, appended. -/
import Derived.Test.YtdpgmhjhmccfnaaKit3
import Derived.Laws.AppendOwn
import Derived.Laws.AppendOwnNone
import Derived.OwnWalk
namespace Go.Proofs.Ytdpgmhjhmccfnaa
open Go.ChangeShapes Go.WideShapes Go.ChangeAt Go.RowKit

/-- A slice that begins at A, of n elements and so much room, holds these cells. -/
structure Sl (w : World) (A : Option Addr) (n c : Nat) (xs : List Value) : Prop where
  le : n ≤ c
  cap : c ≤ maxLen
  nil : A = none → c = 0
  on : 0 < xs.length → ∃ b off, A = some ⟨b, off, none⟩ ∧ b < w.heap.size ∧ ∀ i v, xs[i]? = some v → w.cell? ⟨b, off + i, none⟩ = some v
section
variable {w w' : World} {A : Option Addr} {n c : Nat} {xs : List Value}
theorem Sl.none_ (w : World) : Sl w none 0 0 [] := ⟨Nat.le_refl _, Nat.zero_le _, fun _ => rfl, fun h => absurd h (by simp)⟩
theorem Sl.below {B : Nat} (h : Sl w A n c xs) (hb : Below B w w') (hB : w.heap.size ≤ B) : Sl w' A n c xs := by
  refine ⟨h.le, h.cap, h.nil, fun hn => ?_⟩
  obtain ⟨b, off, e, hlt, hc⟩ := h.on hn
  refine ⟨b, off, e, Nat.lt_of_lt_of_le hlt hb.size, fun i v hi => ?_⟩
  rw [hb.cell (p := ⟨b, off + i, none⟩) (show b < B by omega)]
  exact hc i v hi
theorem Sl.gr (h : Sl w A n c xs) (g : Gr w) : Sl g.val A n c xs := h.below g.ok (Nat.le_refl _)
theorem Sl.alloc (h : Sl w A n c xs) (o : Obj) : Sl (w.alloc o) A n c xs := h.below ((Below.refl _ w).alloc (Nat.le_refl _) o) (Nat.le_refl _)
theorem Sl.at_ (h : Sl w A n c xs) {i : Nat} {v : Value} (hi : xs[i]? = some v) : ∃ b off, A = some ⟨b, off, none⟩ ∧ b < w.heap.size ∧ w.cell? ⟨b, off + i, none⟩ = some v := by
  have hl := (List.getElem?_eq_some_iff.1 hi).1
  obtain ⟨b, off, e, hlt, hc⟩ := h.on (by omega)
  exact ⟨b, off, e, hlt, hc i v hi⟩
theorem Sl.at2 (h : Sl w A n c xs) {i j : Nat} {u v : Value} (hi : xs[i]? = some u) (hj : xs[j]? = some v) :
    ∃ b off, A = some ⟨b, off, none⟩ ∧ b < w.heap.size ∧ w.cell? ⟨b, off + i, none⟩ = some u ∧ w.cell? ⟨b, off + j, none⟩ = some v := by
  have hl := (List.getElem?_eq_some_iff.1 hi).1
  obtain ⟨b, off, e, hlt, hc⟩ := h.on (by omega)
  exact ⟨b, off, e, hlt, hc i u hi, hc j v hj⟩
theorem Sl.new (w : World) (xs : List Value) (n : Nat) (t : TypeId) (fr : Nat × Nat) (hn : n ≤ maxLen) : Sl (w.alloc (.cells xs.toArray t fr)) (some ⟨w.heap.size, 0, none⟩) n n xs := by
  refine ⟨Nat.le_refl _, hn, fun h => by simp at h, fun _ => ⟨_, _, rfl, by simp, fun i v hi => ?_⟩⟩
  rw [World.cell?_alloc_mark]
  simp [hi]
theorem Sl.of_own {base size : Nat} {e : TypeId} {v : Value} (h : w.ownsRow base e size v n xs) : ∃ A c, v = .slice A n c ∧ Sl w A n c xs := by
  rcases h.2 with ⟨rfl, rfl⟩ | ⟨g, cap, cur, rfl, _, hg, hn, hm, hs, ht⟩
  · have : xs = [] := List.eq_nil_of_length_eq_zero (by have := h.1; simpa using this)
    subst this
    exact ⟨none, 0, rfl, Sl.none_ w⟩
  · refine ⟨_, cap, rfl, hn, hm, fun h => by simp at h, fun hl => ⟨g, 0, rfl, (Array.getElem?_eq_some_iff.1 hg).1, fun i u hu => ?_⟩⟩
    have := h.cells (g := g) rfl i u hu
    rw [show (⟨g, 0, none⟩ : Addr).add i = ⟨g, 0 + i, none⟩ by unfold Addr.add; split <;> simp_all] at this
    exact this
theorem Sl.own_ {base size g cap : Nat} {e : TypeId} (h : w.ownsRow base e size (.slice (some ⟨g, 0, none⟩) n cap) n xs) : Sl w (some ⟨g, 0, none⟩) n cap xs := by
  obtain ⟨A, c, e, hs⟩ := Sl.of_own h
  simp only [Value.slice.injEq, true_and] at e
  obtain ⟨rfl, rfl⟩ := e
  exact hs
theorem own_block {base size g cap : Nat} {e : TypeId} (h : w.ownsRow base e size (.slice (some ⟨g, 0, none⟩) n cap) n xs) :
    ∃ cur, w.heap[g]? = some (.cells cur e (0, 0)) ∧ n ≤ cap ∧ cap ≤ maxLen ∧ cur.size = cap * size ∧ cur.toList.take (n * size) = xs ∧ base ≤ g := by
  rcases h.2 with ⟨h0, _⟩ | ⟨g', cap', cur, hv, hb, hg, hn, hm, hs, ht⟩
  · cases h0
  · simp only [Value.slice.injEq, Option.some.injEq, Addr.mk.injEq, and_true] at hv
    obtain ⟨rfl, _, rfl⟩ := hv
    exact ⟨cur, hg, hn, hm, hs, ht, hb⟩
theorem own_mk {base size g cap : Nat} {e : TypeId} {cur : Array Value} (hx : xs.length = n * size) (hb : base ≤ g) (hg : w.heap[g]? = some (.cells cur e (0, 0))) (hn : n ≤ cap) (hm : cap ≤ maxLen) (hs : cur.size = cap * size) (ht : cur.toList.take (n * size) = xs) :
    w.ownsRow base e size (.slice (some ⟨g, 0, none⟩) n cap) n xs := ⟨hx, .inr ⟨g, cap, cur, rfl, hb, hg, hn, hm, hs, ht⟩⟩
/-- A slice cut in two. -/
theorem Sl.cut {P : Program} (h : Sl w A n c xs) {k s : Nat} (hk : k ≤ n) (hx : xs.length = n * s) {t : TypeId} (ht : P.underlying t = some (.slice (P.elem t))) (hs : ∀ w' : World, (sizeOf (P.elem t)).run P w' = .ok s w') :
    ∃ A1 A2 : Option Addr, (∀ w' : World, (Instr.sliceAt t (.slice A n c) none (some (.int .i64 k)) none).run P w' = .ok (.slice A1 k c) w') ∧
      (∀ w' : World, (Instr.sliceAt t (.slice A n c) (some (.int .i64 k)) none none).run P w' = .ok (.slice A2 (n - k) (c - k)) w') ∧ Sl w A1 k c (xs.take (k * s)) ∧ Sl w A2 (n - k) (c - k) (xs.drop (k * s)) := by
  have hle := h.le
  have hcap := h.cap
  refine ⟨if c = 0 then A else A.map (·.add (0 * s)), if c = k then A else A.map (·.add (k * s)), fun w' => ?_, fun w' => ?_, ⟨by omega, h.cap, ?_, ?_⟩, ⟨by omega, by omega, ?_, ?_⟩⟩
  · rw [run_sliceAt_slice w' t _ _ _ _ ht, run_slice_h w' t A n c ht .i64 k (by omega) (by omega), hs]
    simp [Result.andThen, sliced]
  · rw [run_sliceAt_slice w' t _ _ _ _ ht, run_slice_l w' t A n c ht .i64 k (by omega) (by omega), hs]
    simp [Result.andThen, sliced]
  · intro hn
    split at hn
    · assumption
    · exact h.nil (by simpa using hn)
  · intro hn
    have hk0 : 0 < xs.length := by simp at hn; omega
    obtain ⟨b, off, rfl, hlt, hc⟩ := h.on hk0
    refine ⟨b, off, by split <;> simp [Addr.add], hlt, fun i u hi => hc i u ?_⟩
    rw [List.getElem?_take] at hi
    split at hi
    · exact hi
    · cases hi
  · intro hn
    split at hn
    · omega
    · have := h.nil (by simpa using hn); omega
  · intro hn
    have hk0 : k * s < xs.length := by simp at hn; omega
    obtain ⟨b, off, rfl, hlt, hc⟩ := h.on (by omega)
    have hck : c ≠ k := by
      rintro rfl
      have : n = c := by omega
      subst this
      omega
    refine ⟨b, off + k * s, by rw [if_neg hck]; unfold Addr.add; by_cases h0 : k * s = 0 <;> simp [h0], hlt, fun i u hi => ?_⟩
    rw [Nat.add_assoc]
    exact hc (k * s + i) u (by rw [List.getElem?_drop] at hi; exact hi)
end

/-- 'append' of a row onto one of the call's own, wherever the row stands. -/
theorem wpList_append_sl {P : Program} {w : World} {ops : Array Oper} {rest : List Oper} {o : Oper} {a : Act} {Q : Exit → Act → World → Prop} (hgd : o.guard = none) (s x : Operand) (t : TypeId)
    (ho : o.op = .call { callee := .builtin .append, args := #[s, x], argTypes := #[t, t] })
    (base : Nat) (e : TypeId) (i : TypeInfo) (z : Value) (size bytes : Nat) (ht : P.underlying t = some (.slice e)) (hi : P.info? e = some i) (hz : i.zero = some z)
    (hsize : i.size = size) (hby : i.bytes = bytes) (hzs : z.cells.size = size) (hsz : 0 < size)
    (v : Value) (n : Nat) (xs : List Value) (hs : a.eval s = v) (hown : w.ownsRow base e size v n xs)
    (A : Option Addr) (m c : Nat) (news : List Value) (hx : a.eval x = .slice A m c) (hsl : Sl w A m c news) (hl : news.length = m * size) (h1 : ∀ u ∈ news, u.oneCell' = true)
    (h63 : n + m ≤ maxLen) (hbytes : (n + m) * bytes ≤ 140737488355328) (hbase : base ≤ w.heap.size)
    (h : ∀ v' w', w'.ownsRow base e size v' (n + m) (xs ++ news) → w.grownBy w' v.ownBlock → wpList P ops Q rest (a.put o.dst v') w') : wpList P ops Q (o :: rest) a w := by
  cases A with
  | none =>
    obtain rfl : c = 0 := hsl.nil rfl
    obtain rfl : m = 0 := Nat.le_zero.1 hsl.le
    obtain rfl : news = [] := List.eq_nil_of_length_eq_zero (by simpa using hl)
    refine wpList_append_own_none hgd s x t ho base e i size ht hi v n xs hs hown hx (h v w (by simpa using hown) ⟨rfl, rfl, rfl, Nat.le_refl _, fun _ _ _ => rfl⟩)
  | some ad =>
    refine wpList_append_own w hgd s x t ho base e i z size bytes ht hi hz hsize hby hzs hsz v n xs hs hown ad m c news hx hl (fun j u hu => ?_) h1 h63 hbytes hbase fun v' w' h2 h3 _ => h v' w' h2 h3
    obtain ⟨b, off, e, _, hc⟩ := hsl.at_ hu
    obtain rfl := Option.some.inj e
    rw [show (⟨b, off, none⟩ : Addr).add j = ⟨b, off + j, none⟩ by unfold Addr.add; split <;> simp_all]
    exact hc
end Go.Proofs.Ytdpgmhjhmccfnaa
