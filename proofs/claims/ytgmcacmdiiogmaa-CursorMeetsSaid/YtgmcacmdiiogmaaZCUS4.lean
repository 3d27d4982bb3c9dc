import Derived.Test.YtgmcacmdiiogmaaZCUS3
/- Streams in a row of the call's own, alone: put behind the others, made one; kept where another such row is written. -/
section
namespace Go.Proofs.Ytgmcacmdiiogmaa
open Go.ChangeShapes Go.WideShapes Go.ChangeAt Go.RowKit Go.Joins Sp

structure H1 (St : StP) (w0 w : World) (T : Nat → Nat) (c : Value) (m cs : Nat) (As : Option Addr) (ps ps' : List Value) (ls' : List (List Spn)) (ns' : List Nat) : Prop where
  bel : Below w0.heap.size w0 w
  ss : SS St w0 w T c ps' ls' ns'
  sb : SB w0 w T m As cs ps
theorem cutA_zero (A : Option Addr) (c : Nat) : cutA A c 0 = A := by
  unfold cutA
  split
  · rfl
  · rw [Nat.zero_mul]; exact add_zero13 A
section
variable {St : StP} {Ct : CtP} {w0 W w5 w' : World} {T : Nat → Nat} {c : Value} {m cs gg cap : Nat} {As : Option Addr} {ps ps' : List Value} {ls' : List (List Spn)} {ns' : List Nat} {o : Obj} {G : Nat → Prop}
theorem H1.start (w : World) (T : Nat → Nat) (c : Value) : H1 St w w T c 0 0 none [] [] [] [] := ⟨Below.refl _ _, ⟨Nat.le_refl _, rfl, rfl, fun i p L q h => by simp at h⟩, ⟨World.ownsRow_nil _ _ _ _, fun a h => by cases h⟩⟩
theorem H1.up (K : CuK St Ct) (h : H1 St w0 W T c m cs As ps ps' ls' ns') (hb : Below W.heap.size W w5) (t : Nat) : H1 St w0 w5 (upd T W.heap.size t) c m cs As ps ps' ls' ns' := by
  have ho := Off.of_below (F := fun _ => False) hb
  exact ⟨h.bel.trans (hb.mono h.bel.size), h.ss.off K ho (fun _ _ _ q => q.elim) fun b hb _ _ => upd_old T hb, h.sb.off ho (fun _ _ _ q => q.elim) fun b hb q => by rw [upd_old T hb]; exact q⟩
/-- What is written has the tag 0. -/
theorem H1.offZ (K : CuK St Ct) (h : H1 St w0 W T c m cs As ps ps' ls' ns') (ho : Off G W w') (hG : ∀ b, G b → w0.heap.size ≤ b) (h0 : ∀ b, b < W.heap.size → G b → T b = 0) : H1 St w0 w' (upd T W.heap.size 0) c m cs As ps ps' ls' ns' :=
  ⟨h.bel.trans (ho.toBelow h.bel.size hG), h.ss.off K ho (fun b _ hb q => .inl (by have := h0 b hb q; omega)) fun b hb _ _ => upd_old T hb, h.sb.off ho (fun b _ hb q => by have := h0 b hb q; omega) fun b hb q => by rw [upd_old T hb]; exact q⟩
theorem H1.push (K : CuK St Ct) (h : H1 St w0 W T c m cs As ps ps' ls' ns') {p : Value} {L : List Spn} {q : Nat} {F : Nat → Prop} (hb : Below W.heap.size W w5) (hs : St w5 c p L q F) (hF : ∀ b, F b → W.heap.size ≤ b) : H1 St w0 w5 (upd T W.heap.size (ps'.length + 3)) c m cs As ps (ps' ++ [p]) (ls' ++ [L]) (ns' ++ [q]) := by
  have h1 := h.up K hb (ps'.length + 3)
  exact ⟨h1.bel, h1.ss.push (K.mono hs (fun b hb => ⟨Nat.le_trans h.bel.size (hF b hb), K.lt hs b hb, upd_new T (hF b hb)⟩) fun b hb => hb.2.1), h1.sb⟩
theorem H1.app_s (K : CuK St Ct) (h : H1 St w0 W T c m cs As ps ps' ls' ns') {p : Value} (hown : w5.ownsRow w0.heap.size 27 1 (.slice (some ⟨gg, 0, none⟩) (m + 1) cap) (m + 1) (ps ++ [p]))
    (hgr : (W.alloc o).grownBy w5 (Value.slice As m cs).ownBlock) (hat : (Value.slice As m cs).ownBlock = some gg ∨ gg = (W.alloc o).heap.size) :
    H1 St w0 w5 (upd T W.heap.size 1) c (m + 1) cap (some ⟨gg, 0, none⟩) (ps ++ [p]) ps' ls' ns' := by
  have ho := grown_off hgr
  have ht := own_tag h.sb.own h.sb.tag
  refine ⟨h.bel.trans (ho.toBelow h.bel.size fun b hb => (ht b hb).1), h.ss.off K ho (fun b _ _ q => .inl (by have := (ht b q).2.2; omega)) fun b hb _ _ => upd_old T hb, ⟨hown, fun a ha => ?_⟩⟩
  obtain rfl := Option.some.inj ha
  rcases hat with q | q
  · show upd T W.heap.size 1 gg = 1
    rw [upd_old T (ht gg q).2.1]; exact (ht gg q).2.2
  · exact upd_new T (by show W.heap.size ≤ gg; rw [q]; simp)
/-- All streams have become one. -/
theorem H1.union (K : CuK St Ct) (h : H1 St w0 W T c m cs As ps ps ls' ns') (hm : m ≤ 1000) :
    Calls Try.prog 19 #[.slice As m cs] W fun e w' => ∃ a F', e = .returned (.pointer a) ∧ St w' c (.pointer a) (unionL ls') ns'.sum F' ∧ (∀ b, F' b → w0.heap.size ≤ b ∧ (W.heap.size ≤ b ∨ T b ≠ 0)) ∧ ∃ G : Nat → Prop, Off G W w' ∧ ∀ b, G b → w0.heap.size ≤ b ∧ T b ≠ 0 := by
  have hl := h.sb.lp
  obtain ⟨A', c', e, hsl⟩ := Sl.of_own h.sb.own
  simp only [Value.slice.injEq, true_and] at e
  obtain ⟨rfl, rfl⟩ := e
  have := K.union W c ps ls' ns' (fun i => tg w0 W T (i + 3)) As cs (by omega) h.ss.ll h.ss.ln h.ss.st (fun i i' b q1 q2 => by have := q1.2.2; have := q2.2.2; omega) (fun a ha i _ hi => by have := h.sb.tag a ha; have := hi.2.2; omega) (by rw [hl]; exact hsl)
  rw [hl] at this
  refine this.mono ?_
  rintro e w' ⟨p, F', rfl, hst, hF, ho⟩
  obtain ⟨a, rfl⟩ := K.ptr hst
  exact ⟨a, F', rfl, hst, fun b hb => (hF b hb).elim (fun ⟨i, _, hi⟩ => ⟨hi.1, .inr (by have := hi.2.2; omega)⟩) fun q => ⟨Nat.le_trans h.bel.size q, .inl q⟩, _, ho, fun b ⟨i, _, hi⟩ => ⟨hi.1, by have := hi.2.2; omega⟩⟩
end
end Go.Proofs.Ytgmcacmdiiogmaa
end
