/- Regions that draw their order and whose calls wait for one another, walked once, in the order of the text: all else reads, in every world that meets S. No text of the program is read here. -/
import Derived.Deep.RegionHeld
import Derived.BigQuiet
namespace Go
section
variable {P : Program} {ops : Array Oper} {Q : Exit → Act → World → Prop} {md : Region.Mode} {S : World → Prop} {calls : Nat → Bool}

/-- Each call stands alone where its turn comes; all else may be taken first. -/
def Region.heldB (md : Region.Mode) (ops : Array Oper) (calls : Nat → Bool) : Nat → Nat → Array Bool → Bool
  | 0, _, listed => (Region.ready md ops listed).isEmpty
  | n + 1, k, listed => (if calls k then Region.ready md ops listed == [k] else Region.free md ops listed k && (Region.ready md ops listed).contains k) && Region.heldB md ops calls n (k + 1) (listed.setIfInBounds k true)

/-- The walk in the order of the text. -/
def wpH (P : Program) (ops : Array Oper) (S : World → Prop) (Q : Exit → Act → World → Prop) (calls : Nat → Bool) : List Oper → Nat → Act → World → Prop
  | [], _, a, w => Q .normal a w
  | o :: l, k, a, w =>
    if calls k = true then ∀ K' : Act → World → Prop, Shut (∀ a w, S w → (S w → wpH P ops S Q calls l (k + 1) a w) → K' a w) → if Region.wanted o (yielded ops a.tmps) = true then Oper.wp P o a w K' Q else K' (a.put o.dst undef) w
    else ∃ v, YieldsIf P ops S o v a ∧ wpH P ops S Q calls l (k + 1) (a.put o.dst v) w

theorem wpH_yes {o : Oper} {l : List Oper} {k : Nat} {a : Act} {w : World} {v : Value} (hk : calls k = false) (hw : Region.wanted o (yielded ops a.tmps) = true) (hv : ∀ w, S w → (execOp a.eval o).run P w = .ok (.value v) w)
    (h : wpH P ops S Q calls l (k + 1) (a.put o.dst v) w) : wpH P ops S Q calls (o :: l) k a w := by
  unfold wpH
  rw [hk]
  simp only [Bool.false_eq_true, ↓reduceIte]
  exact ⟨v, .inl ⟨hw, hv⟩, h⟩
theorem wpH_no {o : Oper} {l : List Oper} {k : Nat} {a : Act} {w : World} (hk : calls k = false) (hw : Region.wanted o (yielded ops a.tmps) = false)
    (h : wpH P ops S Q calls l (k + 1) (a.put o.dst undef) w) : wpH P ops S Q calls (o :: l) k a w := by
  unfold wpH
  rw [hk]
  simp only [Bool.false_eq_true, ↓reduceIte]
  exact ⟨_, .inr ⟨hw, rfl⟩, h⟩
theorem wpH_call {o : Oper} {l : List Oper} {k : Nat} {a : Act} {w : World} (hk : calls k = true)
    (h : ∀ K' : Act → World → Prop, Shut (∀ a w, S w → (S w → wpH P ops S Q calls l (k + 1) a w) → K' a w) → if Region.wanted o (yielded ops a.tmps) = true then Oper.wp P o a w K' Q else K' (a.put o.dst undef) w) : wpH P ops S Q calls (o :: l) k a w := by
  unfold wpH
  rw [hk]
  simpa using h
theorem wpH_callNo {o : Oper} {l : List Oper} {k : Nat} {a : Act} {w : World} (hk : calls k = true) (hw : Region.wanted o (yielded ops a.tmps) = false) (hS : S w)
    (h : wpH P ops S Q calls l (k + 1) (a.put o.dst undef) w) : wpH P ops S Q calls (o :: l) k a w :=
  wpH_call hk fun K' hK => by
    rw [if_neg (by rw [hw]; simp)]
    exact hK _ _ hS fun _ => h
theorem wpH_callYes {o : Oper} {l : List Oper} {k : Nat} {a : Act} {w : World} (hk : calls k = true) (hw : Region.wanted o (yielded ops a.tmps) = true)
    (h : ∀ K' : Act → World → Prop, Shut (∀ a w, S w → (S w → wpH P ops S Q calls l (k + 1) a w) → K' a w) → Oper.wp P o a w K' Q) : wpH P ops S Q calls (o :: l) k a w :=
  wpH_call hk fun K' hK => by
    rw [if_pos hw]
    exact h K' hK

theorem wpAnyH_lex (hn : Region.noSelect ops = true) (hQ : ∀ c a d v w, Q (.panic c) (Act.put a (some d) v) w → Q (.panic c) a w) : ∀ (l : List Oper) (k : Nat) (listed : Array Bool) (a : Act) (w : World), (∀ j, j < l.length → l[j]? = ops[k + j]?) →
    Region.heldB md ops calls l.length k listed = true → S w → wpH P ops S Q calls l k a w → wpAnyH P md ops Q S l.length listed a w
  | [], _, _, a, w, _, hB, _, h => by
    refine wpAnyH_done ?_ h 0
    simpa [Region.heldB] using hB
  | o :: l, k, listed, a, w, hl, hB, hS, h => by
    have h0 : ops[k]? = some o := by simpa using (hl 0 (by simp)).symm
    have hl' : ∀ j, j < l.length → l[j]? = ops[k + 1 + j]? := fun j hj => by have := hl (j + 1) (by simpa using hj); simpa [Nat.add_assoc, Nat.add_comm 1 j] using this
    simp only [List.length_cons, Region.heldB, Bool.and_eq_true] at hB
    obtain ⟨h1, hB'⟩ := hB
    unfold wpH at h
    cases hc : calls k with
    | true =>
      rw [hc] at h h1
      simp only [↓reduceIte, beq_iff_eq] at h h1
      refine wpAnyH_ready h1 (by simp) (AllReadyH.cons h0 (fun K' hK => h K' (fun a w hS hW => hK a w hS fun hS' => ?_)) AllReadyH.nil)
      exact wpAnyH_lex hn hQ l (k + 1) _ a w hl' hB' hS' (hW hS')
    | false =>
      rw [hc] at h h1
      simp only [Bool.false_eq_true, ↓reduceIte, Bool.and_eq_true] at h h1
      obtain ⟨v, hy, hK⟩ := h
      exact wpAnyH_take h0 hn h1.1 h1.2 (fun c a w hp => by cases hd : o.dst with | none => (rw [hd] at hp; exact hp) | some d => (rw [hd] at hp; exact hQ c a d _ w hp)) hy hS (wpAnyH_lex hn hQ l (k + 1) _ _ w hl' hB' hS hK)

theorem wp_region_lexH {id : Nat} {l : List Oper} {a : Act} {w : World} (S : World → Prop) (calls : Nat → Bool) (hm : P.follows .mixedOrders = true) (hn : Region.noSelect l.toArray = true)
    (hB : Region.heldB .any l.toArray calls l.length 0 (Array.replicate l.length false) = true) (hQ : ∀ c a d v w, Q (.panic c) (Act.put a (some d) v) w → Q (.panic c) a w)
    (hS : S w.drew) (h : wpH P l.toArray S Q calls l 0 a w.drew) : (Code.region id l.toArray true).wp P Q a w := by
  refine wp_region_held_drew (S := S) hm hS (fun _ => ?_)
  have := wpAnyH_lex (md := .any) hn hQ l 0 (Array.replicate l.length false) a w.drew (fun j _ => by simp) hB hS h
  simpa using this
end
end Go
