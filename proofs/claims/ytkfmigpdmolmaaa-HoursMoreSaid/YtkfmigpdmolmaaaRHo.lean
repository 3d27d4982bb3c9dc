/- Regions that draw their order and whose calls wait for one another, walked once, in an order of one's own: each call stands alone where its turn comes; all else reads, in every world that meets S. No text of the program is read here. -/
import Derived.Test.YtkfmigpdmolmaaaRH
namespace Go
section
variable {P : Program} {ops : Array Oper} {Q : Exit → Act → World → Prop} {md : Region.Mode} {S : World → Prop} {calls : Nat → Bool}

def Region.heldBo (md : Region.Mode) (ops : Array Oper) (calls : Nat → Bool) : List Nat → Array Bool → Bool
  | [], listed => (Region.ready md ops listed).isEmpty
  | k :: l, listed => (if calls k then Region.ready md ops listed == [k] else Region.free md ops listed k && (Region.ready md ops listed).contains k) && Region.heldBo md ops calls l (listed.setIfInBounds k true)

/-- The walk in that order. -/
def wpHo (P : Program) (ops : Array Oper) (S : World → Prop) (Q : Exit → Act → World → Prop) (calls : Nat → Bool) : List Nat → Act → World → Prop
  | [], a, w => Q .normal a w
  | k :: l, a, w => ∃ o, ops[k]? = some o ∧
    if calls k = true then ∀ K' : Act → World → Prop, Shut (∀ a w, S w → (S w → wpHo P ops S Q calls l a w) → K' a w) → if Region.wanted o (yielded ops a.tmps) = true then Oper.wp P o a w K' Q else K' (a.put o.dst undef) w
    else ∃ v, YieldsIf P ops S o v a ∧ wpHo P ops S Q calls l (a.put o.dst v) w

theorem wpHo_yes {o : Oper} {l : List Nat} {k : Nat} {a : Act} {w : World} {v : Value} (ho : ops[k]? = some o) (hk : calls k = false) (hw : Region.wanted o (yielded ops a.tmps) = true) (hv : ∀ w, S w → (execOp a.eval o).run P w = .ok (.value v) w)
    (h : wpHo P ops S Q calls l (a.put o.dst v) w) : wpHo P ops S Q calls (k :: l) a w := by
  refine ⟨o, ho, ?_⟩
  rw [hk]
  simp only [Bool.false_eq_true, ↓reduceIte]
  exact ⟨v, .inl ⟨hw, hv⟩, h⟩
theorem wpHo_no {o : Oper} {l : List Nat} {k : Nat} {a : Act} {w : World} (ho : ops[k]? = some o) (hk : calls k = false) (hw : Region.wanted o (yielded ops a.tmps) = false)
    (h : wpHo P ops S Q calls l (a.put o.dst undef) w) : wpHo P ops S Q calls (k :: l) a w := by
  refine ⟨o, ho, ?_⟩
  rw [hk]
  simp only [Bool.false_eq_true, ↓reduceIte]
  exact ⟨_, .inr ⟨hw, rfl⟩, h⟩
theorem wpHo_call {o : Oper} {l : List Nat} {k : Nat} {a : Act} {w : World} (ho : ops[k]? = some o) (hk : calls k = true)
    (h : ∀ K' : Act → World → Prop, Shut (∀ a w, S w → (S w → wpHo P ops S Q calls l a w) → K' a w) → if Region.wanted o (yielded ops a.tmps) = true then Oper.wp P o a w K' Q else K' (a.put o.dst undef) w) : wpHo P ops S Q calls (k :: l) a w := by
  refine ⟨o, ho, ?_⟩
  rw [if_pos hk]
  exact h
theorem wpHo_callNo {o : Oper} {l : List Nat} {k : Nat} {a : Act} {w : World} (ho : ops[k]? = some o) (hk : calls k = true) (hw : Region.wanted o (yielded ops a.tmps) = false) (hS : S w)
    (h : wpHo P ops S Q calls l (a.put o.dst undef) w) : wpHo P ops S Q calls (k :: l) a w :=
  wpHo_call ho hk fun K' hK => by
    rw [if_neg (by rw [hw]; simp)]
    exact hK _ _ hS fun _ => h
theorem wpHo_callYes {o : Oper} {l : List Nat} {k : Nat} {a : Act} {w : World} (ho : ops[k]? = some o) (hk : calls k = true) (hw : Region.wanted o (yielded ops a.tmps) = true)
    (h : ∀ K' : Act → World → Prop, Shut (∀ a w, S w → (S w → wpHo P ops S Q calls l a w) → K' a w) → Oper.wp P o a w K' Q) : wpHo P ops S Q calls (k :: l) a w :=
  wpHo_call ho hk fun K' hK => by
    rw [if_pos hw]
    exact h K' hK

theorem wpAnyH_lexo (hn : Region.noSelect ops = true) (hQ : ∀ c a d v w, Q (.panic c) (Act.put a (some d) v) w → Q (.panic c) a w) : ∀ (l : List Nat) (listed : Array Bool) (a : Act) (w : World),
    Region.heldBo md ops calls l listed = true → S w → wpHo P ops S Q calls l a w → wpAnyH P md ops Q S l.length listed a w
  | [], listed, a, w, hB, _, h => by
    refine wpAnyH_done ?_ h 0
    simpa [Region.heldBo] using hB
  | k :: l, listed, a, w, hB, hS, h => by
    simp only [Region.heldBo, Bool.and_eq_true] at hB
    obtain ⟨h1, hB'⟩ := hB
    obtain ⟨o, h0, h⟩ := h
    cases hc : calls k with
    | true =>
      rw [hc] at h h1
      simp only [↓reduceIte, beq_iff_eq] at h h1
      refine wpAnyH_ready h1 (by simp) (AllReadyH.cons h0 (fun K' hK => h K' (fun a w hS hW => hK a w hS fun hS' => ?_)) AllReadyH.nil)
      exact wpAnyH_lexo hn hQ l _ a w hB' hS' (hW hS')
    | false =>
      rw [hc] at h h1
      simp only [Bool.false_eq_true, ↓reduceIte, Bool.and_eq_true] at h h1
      obtain ⟨v, hy, hK⟩ := h
      exact wpAnyH_take h0 hn h1.1 h1.2 (fun c a w hp => by cases hd : o.dst with | none => (rw [hd] at hp; exact hp) | some d => (rw [hd] at hp; exact hQ c a d _ w hp)) hy hS (wpAnyH_lexo hn hQ l _ _ w hB' hS hK)

theorem wp_region_lexO {id : Nat} {l : List Oper} {a : Act} {w : World} (S : World → Prop) (calls : Nat → Bool) (order : List Nat) (hl : order.length = l.length) (hm : P.follows .mixedOrders = true) (hn : Region.noSelect l.toArray = true)
    (hB : Region.heldBo .any l.toArray calls order (Array.replicate l.length false) = true) (hQ : ∀ c a d v w, Q (.panic c) (Act.put a (some d) v) w → Q (.panic c) a w)
    (hS : S w.drew) (h : wpHo P l.toArray S Q calls order a w.drew) : (Code.region id l.toArray true).wp P Q a w := by
  refine wp_region_held_drew (S := S) hm hS (fun _ => ?_)
  have := wpAnyH_lexo (md := .any) hn hQ order (Array.replicate l.length false) a w.drew hB hS h
  rw [hl] at this
  simpa using this
end
end Go
