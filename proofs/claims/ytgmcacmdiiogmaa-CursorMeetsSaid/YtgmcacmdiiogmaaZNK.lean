import Derived.Test.YtgmcacmdiiogmaaZCUK
import Derived.Test.YtgmcacmdiiogmaaZMB
/- Streams, and the document's rows, in rows of the call's own: which block belongs to what is told by a tag; how they are kept, put down, made one. -/
section
namespace Go.Proofs.Ytgmcacmdiiogmaa
open Go.ChangeShapes Go.WideShapes Go.ChangeAt Go.RowKit Go.Joins Sp

/-- All new blocks have one tag. -/
def upd (T : Nat → Nat) (s t : Nat) : Nat → Nat := fun b => if b < s then T b else t
theorem upd_old (T : Nat → Nat) {s t b : Nat} (h : b < s) : upd T s t b = T b := if_pos h
theorem upd_new (T : Nat → Nat) {s t b : Nat} (h : s ≤ b) : upd T s t b = t := if_neg (by omega)
/-- All tags from one on become that one; so do new blocks. -/
def fld (T : Nat → Nat) (s t : Nat) : Nat → Nat := fun b => if b < s then (if t ≤ T b then t else T b) else t
theorem fld_low (T : Nat → Nat) {s t b : Nat} (h : b < s) (h2 : T b < t) : fld T s t b = T b := by unfold fld; rw [if_pos h, if_neg (by omega)]
theorem fld_high (T : Nat → Nat) {s t b : Nat} (h : s ≤ b ∨ t ≤ T b) : fld T s t b = t := by
  unfold fld
  split
  · rw [if_pos (by omega)]
  · rfl
/-- The blocks, behind those of a world, that have a tag. -/
def tg (w0 w : World) (T : Nat → Nat) (t : Nat) : Nat → Prop := fun b => w0.heap.size ≤ b ∧ b < w.heap.size ∧ T b = t
/-- Streams: the i-th has the blocks of the tag i + 3. -/
structure SS (St : StP) (w0 w : World) (T : Nat → Nat) (c : Value) (ps : List Value) (ls : List (List Spn)) (ns : List Nat) : Prop where
  base : w0.heap.size ≤ w.heap.size
  ll : ls.length = ps.length
  ln : ns.length = ps.length
  st : ∀ (i : Nat) (p : Value) (L : List Spn) (q : Nat), ps[i]? = some p → ls[i]? = some L → ns[i]? = some q → St w c p L q (tg w0 w T (i + 3))
/-- Their row, of the call's own, whose tag is 1. -/
structure SB (w0 w : World) (T : Nat → Nat) (m : Nat) (As : Option Addr) (cs : Nat) (ps : List Value) : Prop where
  own : w.ownsRow w0.heap.size 27 1 (.slice As m cs) m ps
  tag : ∀ a, As = some a → T a.block = 1
/-- The document's rows in a row of the call's own, whose tag is 2; theirs is 0. -/
structure RB (w0 w : World) (T : Nat → Nat) (m : Nat) (Ar : Option Addr) (cr : Nat) (xs : List Value) (ls : List (List Spn)) : Prop where
  ll : ls.length = m
  own : w.ownsRow w0.heap.size 28 1 (.slice Ar m cr) m xs
  tag : ∀ a, Ar = some a → T a.block = 2
  at_ : ∀ (i : Nat) (L : List Spn), ls[i]? = some L → ∃ A d, xs[i]? = some (Value.slice A L.length d) ∧ Sl w A L.length d (sv L) ∧ (0 < L.length → ∀ a, A = some a → w0.heap.size ≤ a.block ∧ T a.block = 0)
section
variable {St : StP} {Ct : CtP} {w0 w w' : World} {T T' : Nat → Nat} {c : Value} {m cs cr : Nat} {As Ar : Option Addr} {ps xs : List Value} {ls : List (List Spn)} {ns : List Nat} {G : Nat → Prop}
theorem SB.lp (h : SB w0 w T m As cs ps) : ps.length = m := by have := h.own.1; omega
theorem own_tag {e : TypeId} {t : Nat} (h : w.ownsRow w0.heap.size e 1 (.slice As m cs) m ps) (ht : ∀ a, As = some a → T a.block = t) : ∀ k, (Value.slice As m cs).ownBlock = some k → w0.heap.size ≤ k ∧ k < w.heap.size ∧ T k = t := by
  intro k hk
  obtain ⟨k1, k2⟩ := h.lt k hk
  cases As with
  | none => cases hk
  | some a =>
    obtain rfl : a.block = k := by simpa [Value.ownBlock] using hk
    exact ⟨k1, k2, ht a rfl⟩
theorem SB.off (h : SB w0 w T m As cs ps) (ho : Off G w w') (hG : ∀ b, w0.heap.size ≤ b → b < w.heap.size → G b → T b ≠ 1) (hT : ∀ b, b < w.heap.size → T b = 1 → T' b = 1) : SB w0 w' T' m As cs ps :=
  ⟨own_off h.own ho fun k hk hg => by
    obtain ⟨k1, k2, k3⟩ := own_tag h.own h.tag k hk
    exact hG k k1 k2 hg k3, fun a ha => by
    subst ha
    obtain ⟨k1, k2, k3⟩ := own_tag h.own h.tag a.block rfl
    exact hT _ k2 k3⟩
/-- Streams stay where nothing of theirs turns. -/
theorem SS.off (K : CuK St Ct) (h : SS St w0 w T c ps ls ns) (ho : Off G w w') (hG : ∀ b, w0.heap.size ≤ b → b < w.heap.size → G b → T b < 3 ∨ ps.length + 3 ≤ T b) (hT : ∀ b, b < w.heap.size → 3 ≤ T b → T b < ps.length + 3 → T' b = T b) : SS St w0 w' T' c ps ls ns := by
  refine ⟨Nat.le_trans h.base ho.size, h.ll, h.ln, fun i p L q h1 h2 h3 => ?_⟩
  have hi := (List.getElem?_eq_some_iff.1 h1).1
  refine K.mono (K.off (h.st i p L q h1 h2 h3) ho fun b hb hg => ?_) (fun b hb => ⟨hb.1, Nat.lt_of_lt_of_le hb.2.1 ho.size, by rw [hT b hb.2.1 (by have := hb.2.2; omega) (by have := hb.2.2; omega)]; exact hb.2.2⟩) fun b hb => hb.2.1
  have := hG b hb.1 hb.2.1 hg
  have := hb.2.2
  omega
theorem SS.push (h : SS St w0 w T c ps ls ns) {p : Value} {L : List Spn} {q : Nat} (hs : St w c p L q (tg w0 w T (ps.length + 3))) : SS St w0 w T c (ps ++ [p]) (ls ++ [L]) (ns ++ [q]) := by
  refine ⟨h.base, by simp [h.ll], by simp [h.ln], fun i p' L' q' h1 h2 h3 => ?_⟩
  by_cases hi : i < ps.length
  · rw [List.getElem?_append_left hi] at h1
    rw [List.getElem?_append_left (by rw [h.ll]; exact hi)] at h2
    rw [List.getElem?_append_left (by rw [h.ln]; exact hi)] at h3
    exact h.st i _ _ _ h1 h2 h3
  · have hl := (List.getElem?_eq_some_iff.1 h1).1
    obtain rfl : i = ps.length := by simp at hl; omega
    rw [List.getElem?_append_right (Nat.le_refl _)] at h1
    rw [List.getElem?_append_right (by rw [h.ll]; exact Nat.le_refl _), h.ll] at h2
    rw [List.getElem?_append_right (by rw [h.ln]; exact Nat.le_refl _), h.ln] at h3
    simp at h1 h2 h3
    subst h1 h2 h3
    exact hs
theorem SS.take (h : SS St w0 w T c ps ls ns) (j : Nat) : SS St w0 w T c (ps.take j) (ls.take j) (ns.take j) := by
  refine ⟨h.base, by simp [h.ll], by simp [h.ln], fun i p L q h1 h2 h3 => ?_⟩
  have hi := (List.getElem?_eq_some_iff.1 h1).1
  simp at hi
  rw [List.getElem?_take_of_lt (by omega)] at h1 h2 h3
  exact h.st i _ _ _ h1 h2 h3
/-- The streams from the j-th on have become one. -/
theorem SS.fold (K : CuK St Ct) (h : SS St w0 w T c ps ls ns) {j : Nat} (hj : j ≤ ps.length) (ho : Off G w w') (hG : ∀ b, G b → ∃ i, tg w0 w T (j + i + 3) b) {p : Value} {L : List Spn} {q : Nat} {F : Nat → Prop} (hs : St w' c p L q F) (hF : ∀ b, F b → (∃ i, tg w0 w T (j + i + 3) b) ∨ w.heap.size ≤ b) :
    SS St w0 w' (fld T w.heap.size (j + 3)) c (ps.take j ++ [p]) (ls.take j ++ [L]) (ns.take j ++ [q]) := by
  have hl : (ps.take j).length = j := by rw [List.length_take]; omega
  refine SS.push ((h.take j).off K ho (fun b h1 h2 hg => ?_) fun b hb h1 h2 => fld_low T hb (by omega)) ?_
  · obtain ⟨i, hi⟩ := hG b hg
    have := hi.2.2
    omega
  · rw [hl]
    refine K.mono hs (fun b hb => ?_) fun b hb => hb.2.1
    have hlt := K.lt hs b hb
    rcases hF b hb with ⟨i, hi⟩ | hn
    · exact ⟨hi.1, hlt, fld_high T (.inr (by have := hi.2.2; omega))⟩
    · exact ⟨Nat.le_trans h.base hn, hlt, fld_high T (.inl hn)⟩
/-- The document's rows stay where nothing of theirs turns. -/
theorem RB.off (h : RB w0 w T m Ar cr xs ls) (ho : Off G w w') (hG : ∀ b, w0.heap.size ≤ b → b < w.heap.size → G b → T b ≠ 0 ∧ T b ≠ 2) (hT : ∀ b, b < w.heap.size → T b = 0 ∨ T b = 2 → T' b = T b) : RB w0 w' T' m Ar cr xs ls := by
  refine ⟨h.ll, own_off h.own ho fun k hk hg => ?_, fun a ha => ?_, fun i L hi => ?_⟩
  · obtain ⟨k1, k2, k3⟩ := own_tag h.own h.tag k hk
    exact (hG k k1 k2 hg).2 k3
  · subst ha
    obtain ⟨k1, k2, k3⟩ := own_tag h.own h.tag a.block rfl
    rw [hT _ k2 (.inr k3)]; exact k3
  · obtain ⟨A, d, h1, h2, h3⟩ := h.at_ i L hi
    refine ⟨A, d, h1, ⟨h2.le, h2.cap, h2.nil, fun hn => ?_⟩, fun hn a ha => ?_⟩
    · obtain ⟨b, off, rfl, hlt, hc⟩ := h2.on hn
      rw [sv_len] at hn
      have q := h3 (by omega) _ rfl
      exact ⟨b, off, rfl, Nat.lt_of_lt_of_le hlt ho.size, fun j v hv => ho.cell (hc j v hv) fun hg => (hG b q.1 hlt hg).1 q.2⟩
    · have q := h3 hn a ha
      obtain ⟨b, off, e, hlt, _⟩ := h2.on (by rw [sv_len]; omega)
      rw [ha] at e
      obtain rfl := Option.some.inj e
      exact ⟨q.1, by rw [hT b hlt (.inl q.2)]; exact q.2⟩
/-- The j-th row is put down in the place of those from it on. -/
theorem RB.set (h : RB w0 w T m Ar cr xs ls) {j m' cr' : Nat} {Ar' : Option Addr} (hj : j ≤ m) {A : Option Addr} {d : Nat} {L : List Spn} (hm : m' = j + 1)
    (hown : w'.ownsRow w0.heap.size 28 1 (.slice Ar' m' cr') m' (xs.take j ++ [Value.slice A L.length d])) (htag : ∀ a, Ar' = some a → T' a.block = 2) (ho : Off G w w') (hG : ∀ b, w0.heap.size ≤ b → b < w.heap.size → G b → T b ≠ 0) (hT : ∀ b, b < w.heap.size → T b = 0 → T' b = 0)
    (hs : Sl w' A L.length d (sv L)) (hA : 0 < L.length → ∀ a, A = some a → w0.heap.size ≤ a.block ∧ T' a.block = 0) : RB w0 w' T' m' Ar' cr' (xs.take j ++ [Value.slice A L.length d]) (ls.take j ++ [L]) := by
  have hxl : xs.length = m := by have := h.own.1; omega
  have hl : (ls.take j).length = j := by rw [List.length_take, h.ll]; omega
  have hlx : (xs.take j).length = j := by rw [List.length_take, hxl]; omega
  refine ⟨by simp [h.ll]; omega, hown, htag, fun i L' hi => ?_⟩
  by_cases hij : i < j
  · rw [List.getElem?_append_left (by omega), List.getElem?_take_of_lt hij] at hi
    obtain ⟨B, e, h1, h2, h3⟩ := h.at_ i L' hi
    refine ⟨B, e, by rw [List.getElem?_append_left (by omega), List.getElem?_take_of_lt hij]; exact h1, ⟨h2.le, h2.cap, h2.nil, fun hn => ?_⟩, fun hn a ha => ?_⟩
    · obtain ⟨b, off, rfl, hlt, hc⟩ := h2.on hn
      rw [sv_len] at hn
      have q := h3 (by omega) _ rfl
      exact ⟨b, off, rfl, Nat.lt_of_lt_of_le hlt ho.size, fun j v hv => ho.cell (hc j v hv) fun hg => hG b q.1 hlt hg q.2⟩
    · have q := h3 hn a ha
      obtain ⟨b, off, e, hlt, _⟩ := h2.on (by rw [sv_len]; omega)
      rw [ha] at e
      obtain rfl := Option.some.inj e
      exact ⟨q.1, hT b hlt q.2⟩
  · have hil := (List.getElem?_eq_some_iff.1 hi).1
    obtain rfl : i = j := by rw [List.length_append, hl] at hil; simp at hil; omega
    rw [List.getElem?_append_right (by omega), hl] at hi
    simp at hi
    subst hi
    exact ⟨A, d, by rw [List.getElem?_append_right (by omega), hlx]; simp, hs, hA⟩
end
end Go.Proofs.Ytgmcacmdiiogmaa
end

/- Streams and the document's rows in rows of the call's own: put behind the others, put in a place. -/
section
namespace Go.Proofs.Ytgmcacmdiiogmaa
open Go.ChangeShapes Go.WideShapes Go.ChangeAt Go.RowKit Go.Joins Sp

/-- What the law holds: streams (so many of them are put down in the row), and rows. -/
structure Hl (St : StP) (w0 w : World) (T : Nat → Nat) (c : Value) (m mr cs cr : Nat) (As Ar : Option Addr) (ps ps' xs : List Value) (ls' ls : List (List Spn)) (ns' : List Nat) : Prop where
  bel : Below w0.heap.size w0 w
  ss : SS St w0 w T c ps' ls' ns'
  sb : SB w0 w T m As cs ps
  rb : RB w0 w T mr Ar cr xs ls
section
variable {St : StP} {Ct : CtP} {w0 w W w5 : World} {T : Nat → Nat} {c : Value} {m mr cs cr gg cap : Nat} {As Ar : Option Addr} {ps ps' xs : List Value} {ls ls' : List (List Spn)} {ns' : List Nat} {o : Obj}
theorem own_ge {e : TypeId} {base base' : Nat} {v : Value} {n size : Nat} {xs : List Value} (h : w.ownsRow base e size v n xs) (hb : base' ≤ base) : w.ownsRow base' e size v n xs := by
  refine ⟨h.1, h.2.imp id ?_⟩
  rintro ⟨g, cap, cur, e1, e2, e3⟩
  exact ⟨g, cap, cur, e1, Nat.le_trans hb e2, e3⟩
theorem Hl.up (K : CuK St Ct) (h : Hl St w0 W T c m mr cs cr As Ar ps ps' xs ls' ls ns') (hb : Below W.heap.size W w5) (t : Nat) : Hl St w0 w5 (upd T W.heap.size t) c m mr cs cr As Ar ps ps' xs ls' ls ns' := by
  have ho := Off.of_below (F := fun _ => False) hb
  exact ⟨h.bel.trans (hb.mono h.bel.size), h.ss.off K ho (fun _ _ _ q => q.elim) fun b hb _ _ => upd_old T hb, h.sb.off ho (fun _ _ _ q => q.elim) fun b hb q => by rw [upd_old T hb]; exact q, h.rb.off ho (fun _ _ _ q => q.elim) fun b hb _ => upd_old T hb⟩
theorem grown_off {row : Option Nat} (hg : (W.alloc o).grownBy w5 row) : Off (fun b => row = some b) W w5 :=
  ((Off.refl (fun b => row = some b) W).alloc o).trans' (Off.of_grown hg fun _k hk => hk) |> fun h => h
/-- A stream is put behind the others. -/
theorem Hl.app_s (K : CuK St Ct) (h : Hl St w0 W T c m mr cs cr As Ar ps ps' xs ls' ls ns') {p : Value} (hown : w5.ownsRow w0.heap.size 27 1 (.slice (some ⟨gg, 0, none⟩) (m + 1) cap) (m + 1) (ps ++ [p]))
    (hgr : (W.alloc o).grownBy w5 (Value.slice As m cs).ownBlock) (hat : (Value.slice As m cs).ownBlock = some gg ∨ gg = (W.alloc o).heap.size) :
    Hl St w0 w5 (upd T W.heap.size 1) c (m + 1) mr cap cr (some ⟨gg, 0, none⟩) Ar (ps ++ [p]) ps' xs ls' ls ns' := by
  have ho := grown_off hgr
  have ht := own_tag h.sb.own h.sb.tag
  refine ⟨h.bel.trans (ho.toBelow h.bel.size fun b hb => (ht b hb).1), h.ss.off K ho (fun b _ _ q => .inl (by have := (ht b q).2.2; omega)) fun b hb _ _ => upd_old T hb, ⟨hown, fun a ha => ?_⟩, h.rb.off ho (fun b _ _ q => by have := (ht b q).2.2; omega) fun b hb _ => upd_old T hb⟩
  obtain rfl := Option.some.inj ha
  rcases hat with q | q
  · show upd T W.heap.size 1 gg = 1
    rw [upd_old T (ht gg q).2.1]; exact (ht gg q).2.2
  · exact upd_new T (by show W.heap.size ≤ gg; rw [q]; simp)
/-- A row is put behind the others. -/
theorem Hl.app_r (K : CuK St Ct) (h : Hl St w0 W T c m mr cs cr As Ar ps ps' xs ls' ls ns') {A : Option Addr} {d : Nat} {L : List Spn} (hs : Sl W A L.length d (sv L)) (hA : 0 < L.length → ∀ a, A = some a → w0.heap.size ≤ a.block ∧ T a.block = 0)
    (hown : w5.ownsRow w0.heap.size 28 1 (.slice (some ⟨gg, 0, none⟩) (mr + 1) cap) (mr + 1) (xs ++ [Value.slice A L.length d]))
    (hgr : (W.alloc o).grownBy w5 (Value.slice Ar mr cr).ownBlock) (hat : (Value.slice Ar mr cr).ownBlock = some gg ∨ gg = (W.alloc o).heap.size) :
    Hl St w0 w5 (upd T W.heap.size 2) c m (mr + 1) cs cap As (some ⟨gg, 0, none⟩) ps ps' (xs ++ [Value.slice A L.length d]) ls' (ls ++ [L]) ns' := by
  have ho := grown_off hgr
  have ht := own_tag h.rb.own h.rb.tag
  have hxl : xs.length = mr := by have := h.rb.own.1; omega
  have hll := h.rb.ll
  have htag : ∀ a, (some ⟨gg, 0, none⟩ : Option Addr) = some a → upd T W.heap.size 2 a.block = 2 := fun a ha => by
    obtain rfl := Option.some.inj ha
    rcases hat with q | q
    · show upd T W.heap.size 2 gg = 2
      rw [upd_old T (ht gg q).2.1]; exact (ht gg q).2.2
    · exact upd_new T (by show W.heap.size ≤ gg; rw [q]; simp)
  have hlt : 0 < L.length → ∀ a, A = some a → a.block < W.heap.size := fun hn a ha => by
    obtain ⟨b, off, e, hlt, _⟩ := hs.on (by rw [sv_len]; omega)
    rw [ha] at e
    obtain rfl := Option.some.inj e
    exact hlt
  have hs5 : Sl w5 A L.length d (sv L) := ⟨hs.le, hs.cap, hs.nil, fun hn => by
    obtain ⟨b, off, rfl, hlt, hc⟩ := hs.on hn
    rw [sv_len] at hn
    exact ⟨b, off, rfl, Nat.lt_of_lt_of_le hlt ho.size, fun i v hi => ho.cell (hc i v hi) fun q => by have q1 := (ht b q).2.2; have q2 : T b = 0 := (hA (by omega) _ rfl).2; omega⟩⟩
  refine ⟨h.bel.trans (ho.toBelow h.bel.size fun b hb => (ht b hb).1), h.ss.off K ho (fun b _ _ q => .inl (by have := (ht b q).2.2; omega)) fun b hb _ _ => upd_old T hb, h.sb.off ho (fun b _ _ q => by have := (ht b q).2.2; omega) fun b hb q => by rw [upd_old T hb]; exact q, ?_⟩
  have := h.rb.set (j := mr) (m' := mr + 1) (cr' := cap) (Ar' := some ⟨gg, 0, none⟩) (w' := w5) (T' := upd T W.heap.size 2) (A := A) (d := d) (L := L) (Nat.le_refl _) rfl (by rw [List.take_of_length_le (by omega)]; exact hown) htag ho (fun b _ _ q => by have := (ht b q).2.2; omega) (fun b hb q => by rw [upd_old T hb]; exact q) hs5 fun hn a ha => ⟨(hA hn a ha).1, by rw [upd_old T (hlt hn a ha)]; exact (hA hn a ha).2⟩
  rwa [List.take_of_length_le (by omega), List.take_of_length_le (by omega)] at this
/-- The streams' row is made anew: its first ones, and one behind. -/
theorem Hl.full_s (K : CuK St Ct) (h : Hl St w0 W T c m mr cs cr As Ar ps ps' xs ls' ls ns') {m' : Nat} {qs : List Value} (hown : w5.ownsRow W.heap.size 27 1 (.slice (some ⟨gg, 0, none⟩) m' cap) m' qs) (hb : Below W.heap.size W w5) :
    Hl St w0 w5 (upd T W.heap.size 1) c m' mr cap cr (some ⟨gg, 0, none⟩) Ar qs ps' xs ls' ls ns' := by
  have h1 := h.up K hb 1
  refine ⟨h1.bel, h1.ss, ⟨own_ge hown h.bel.size, fun a ha => ?_⟩, h1.rb⟩
  obtain rfl := Option.some.inj ha
  exact upd_new T (hown.lt gg rfl).1
theorem Hl.full_r (K : CuK St Ct) (h : Hl St w0 W T c m mr cs cr As Ar ps ps' xs ls' ls ns') {j : Nat} (hj : j ≤ mr) {A : Option Addr} {d : Nat} {L : List Spn} (hs : Sl W A L.length d (sv L)) (hA : 0 < L.length → ∀ a, A = some a → w0.heap.size ≤ a.block ∧ T a.block = 0)
    (hown : w5.ownsRow W.heap.size 28 1 (.slice (some ⟨gg, 0, none⟩) (j + 1) cap) (j + 1) (xs.take j ++ [Value.slice A L.length d])) (hb : Below W.heap.size W w5) :
    Hl St w0 w5 (upd T W.heap.size 2) c m (j + 1) cs cap As (some ⟨gg, 0, none⟩) ps ps' (xs.take j ++ [Value.slice A L.length d]) ls' (ls.take j ++ [L]) ns' := by
  have h1 := h.up K hb 2
  have hlt : 0 < L.length → ∀ a, A = some a → a.block < W.heap.size := fun hn a ha => by
    obtain ⟨b, off, e, hlt, _⟩ := hs.on (by rw [sv_len]; omega)
    rw [ha] at e
    obtain rfl := Option.some.inj e
    exact hlt
  refine ⟨h1.bel, h1.ss, h1.sb, h.rb.set hj rfl (own_ge hown h.bel.size) (fun a ha => ?_) (Off.of_below (F := fun _ => False) hb) (fun _ _ _ q => q.elim) (fun b hb q => by rw [upd_old T hb]; exact q) (hs.below hb (Nat.le_refl _)) fun hn a ha => ⟨(hA hn a ha).1, by rw [upd_old T (hlt hn a ha)]; exact (hA hn a ha).2⟩⟩
  obtain rfl := Option.some.inj ha
  exact upd_new T (hown.lt gg rfl).1
theorem own_set1 {e : TypeId} {base g cap n j : Nat} {xs : List Value} (_hj : j < n) (h : w.ownsRow base e 1 (.slice (some ⟨g, 0, none⟩) n cap) n xs) (u : Value) : (w.setCell ⟨g, j, none⟩ u).ownsRow base e 1 (.slice (some ⟨g, 0, none⟩) n cap) n (xs.set j u) := by
  obtain ⟨cur, h1, h2, h3, h4, h5, h6⟩ := own_block h
  have hx := h.1
  refine own_mk (by simpa using hx) h6 (block_setCell h1 _) h2 h3 (by simpa using h4) ?_
  rw [← h5, Array.toList_setIfInBounds, List.take_set]
theorem set_last {α : Type} {xs : List α} {j : Nat} (h : xs.length = j + 1) (u : α) : xs.set j u = xs.take j ++ [u] := by
  apply List.ext_getElem?
  intro t
  rw [List.getElem?_set]
  by_cases ht : t < j
  · rw [if_neg (by omega), List.getElem?_append_left (by simp; omega), List.getElem?_take_of_lt ht]
  · by_cases e : t = j
    · subst e
      rw [if_pos rfl, if_pos (by omega), List.getElem?_append_right (by rw [List.length_take]; omega), List.length_take]
      simp [show min t xs.length = t by omega]
    · rw [if_neg (by omega), List.getElem?_eq_none (by omega), List.getElem?_eq_none (by simp; omega)]
/-- The last stream is put anew. -/
theorem Hl.put_s (K : CuK St Ct) {j g : Nat} (h : Hl St w0 W T c (j + 1) mr cs cr (some ⟨g, 0, none⟩) Ar ps ps' xs ls' ls ns') (p : Value) :
    Hl St w0 (W.setCell ⟨g, j, none⟩ p) T c (j + 1) mr cs cr (some ⟨g, 0, none⟩) Ar (ps.take j ++ [p]) ps' xs ls' ls ns' := by
  have ht := own_tag h.sb.own h.sb.tag g rfl
  have ho : Off (fun b => b = g) W (W.setCell ⟨g, j, none⟩ p) := (Off.refl (fun b => b = g) W).setCell (.inl rfl) p
  have hl : ps.length = j + 1 := h.sb.lp
  have hown := own_set1 (Nat.lt_succ_self j) h.sb.own p
  rw [set_last hl] at hown
  exact ⟨h.bel.trans (ho.toBelow h.bel.size fun b hb => by rw [hb]; exact ht.1), h.ss.off K ho (fun b _ _ q => .inl (by subst q; have := ht.2.2; omega)) fun _ _ _ _ => rfl, ⟨hown, h.sb.tag⟩, h.rb.off ho (fun b _ _ q => by subst q; have := ht.2.2; omega) fun _ _ _ => rfl⟩
theorem Hl.put_r (K : CuK St Ct) {j g : Nat} (h : Hl St w0 W T c m (j + 1) cs cr As (some ⟨g, 0, none⟩) ps ps' xs ls' ls ns') {A : Option Addr} {d : Nat} {L : List Spn} (hs : Sl W A L.length d (sv L)) (hA : 0 < L.length → ∀ a, A = some a → w0.heap.size ≤ a.block ∧ T a.block = 0) :
    Hl St w0 (W.setCell ⟨g, j, none⟩ (.slice A L.length d)) T c m (j + 1) cs cr As (some ⟨g, 0, none⟩) ps ps' (xs.take j ++ [Value.slice A L.length d]) ls' (ls.take j ++ [L]) ns' := by
  have ht := own_tag h.rb.own h.rb.tag g rfl
  have ho : Off (fun b => b = g) W (W.setCell ⟨g, j, none⟩ (.slice A L.length d)) := (Off.refl (fun b => b = g) W).setCell (.inl rfl) _
  have hl : xs.length = j + 1 := by have := h.rb.own.1; omega
  have hown := own_set1 (Nat.lt_succ_self j) h.rb.own (.slice A L.length d)
  rw [set_last hl] at hown
  have hs5 : Sl (W.setCell ⟨g, j, none⟩ (.slice A L.length d)) A L.length d (sv L) := ⟨hs.le, hs.cap, hs.nil, fun hn => by
    obtain ⟨b, off, rfl, hlt, hc⟩ := hs.on hn
    rw [sv_len] at hn
    exact ⟨b, off, rfl, Nat.lt_of_lt_of_le hlt ho.size, fun i v hi => ho.cell (hc i v hi) fun q => by have q1 := ht.2.2; have q2 : T b = 0 := (hA (by omega) _ rfl).2; have q' : b = g := q; subst q'; omega⟩⟩
  exact ⟨h.bel.trans (ho.toBelow h.bel.size fun b hb => by rw [hb]; exact ht.1), h.ss.off K ho (fun b _ _ q => .inl (by subst q; have := ht.2.2; omega)) fun _ _ _ _ => rfl, h.sb.off ho (fun b _ _ q => by subst q; have := ht.2.2; omega) (fun _ _ q => q), h.rb.set (Nat.le_succ j) rfl hown h.rb.tag ho (fun b _ _ q => by subst q; have := ht.2.2; omega) (fun _ _ q => q) hs5 hA⟩
end
end Go.Proofs.Ytgmcacmdiiogmaa
end
