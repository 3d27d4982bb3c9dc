import Derived.Test.YtdhinjbkfffpeaaGreatYMB
/- Regions that draw their order and whose calls wait for one another, while one operation more (a variable is made) may come up at any turn. No text of the program is read here. -/
section
namespace Go
section
variable {P : Program} {ops : Array Oper} {Q : Exit → Act → World → Prop} {md : Region.Mode} {S : World → Prop} {calls : Nat → Bool} {ka : Nat}
def needF (ka : Nat) : Bool → List Nat → Nat
  | _, [] => 0
  | d, k :: l => if k = ka then (if d then needF ka d l else 1 + needF ka true l) else 1 + needF ka d l
def Region.heldBf (md : Region.Mode) (ops : Array Oper) (calls : Nat → Bool) (ka : Nat) : Nat → Bool → List Nat → Array Bool → Bool
  | 0, _, _, _ => false
  | _ + 1, _, [], listed => (Region.ready md ops listed).isEmpty
  | n + 1, d, k :: l, listed =>
    if k = ka then (if d then Region.heldBf md ops calls ka n d l listed else (Region.ready md ops listed == [ka]) && Region.heldBf md ops calls ka n true l (listed.setIfInBounds ka true))
    else if calls k then (if d then (Region.ready md ops listed == [k]) && Region.heldBf md ops calls ka n d l (listed.setIfInBounds k true)
      else (Region.ready md ops listed == [k, ka]) && Region.heldBf md ops calls ka n d l (listed.setIfInBounds k true) && (l.contains ka && Region.heldBf md ops calls ka n true (k :: l) (listed.setIfInBounds ka true)))
    else (Region.free md ops listed k && (Region.ready md ops listed).contains k) && Region.heldBf md ops calls ka n d l (listed.setIfInBounds k true)
def wpK (P : Program) (ops : Array Oper) (S : World → Prop) (Q : Exit → Act → World → Prop) (o : Oper) (R : Act → World → Prop) (a : Act) (w : World) : Prop :=
  ∀ K' : Act → World → Prop, Shut (∀ a w, S w → (S w → R a w) → K' a w) → if Region.wanted o (yielded ops a.tmps) = true then Oper.wp P o a w K' Q else K' (a.put o.dst undef) w
def wpHf (P : Program) (ops : Array Oper) (S : World → Prop) (Q : Exit → Act → World → Prop) (calls : Nat → Bool) (ka : Nat) : Nat → Bool → List Nat → Act → World → Prop
  | 0, _, _, _, _ => False
  | _ + 1, _, [], a, w => Q .normal a w
  | n + 1, d, k :: l, a, w =>
    if k = ka then (if d then wpHf P ops S Q calls ka n d l a w else ∃ o, ops[ka]? = some o ∧ wpK P ops S Q o (wpHf P ops S Q calls ka n true l) a w)
    else ∃ o, ops[k]? = some o ∧
      if calls k = true then wpK P ops S Q o (wpHf P ops S Q calls ka n d l) a w ∧ (d = false → ∃ o2, ops[ka]? = some o2 ∧ wpK P ops S Q o2 (wpHf P ops S Q calls ka n true (k :: l)) a w)
      else ∃ v, YieldsIf P ops S o v a ∧ wpHf P ops S Q calls ka n d l (a.put o.dst v) w
theorem needF_more : ∀ l : List Nat, l.contains ka = true → needF ka false l = needF ka true l + 1
  | [], h => by simp at h
  | k :: l, h => by
    unfold needF
    by_cases hk : k = ka
    · simp only [if_pos hk, Bool.false_eq_true, ↓reduceIte]; omega
    · simp only [if_neg hk]
      have := needF_more l (by simp only [List.contains_cons, Bool.or_eq_true, beq_iff_eq] at h; exact h.resolve_left fun e => hk e.symm)
      omega
theorem wpAnyH_lexf (hn : Region.noSelect ops = true) (hQ : ∀ c a d v w, Q (.panic c) (Act.put a (some d) v) w → Q (.panic c) a w) : ∀ (n : Nat) (d : Bool) (l : List Nat) (listed : Array Bool) (a : Act) (w : World),
    Region.heldBf md ops calls ka n d l listed = true → S w → wpHf P ops S Q calls ka n d l a w → wpAnyH P md ops Q S (needF ka d l) listed a w
  | 0, _, _, _, _, _, hB, _, _ => by simp [Region.heldBf] at hB
  | n + 1, d, [], listed, a, w, hB, _, h => by
    refine wpAnyH_done ?_ h _
    simpa [Region.heldBf] using hB
  | n + 1, d, k :: l, listed, a, w, hB, hS, h => by
    unfold Region.heldBf at hB
    unfold wpHf at h
    unfold needF
    by_cases hk : k = ka
    · simp only [if_pos hk] at hB h ⊢
      cases d with
      | true =>
        simp only [↓reduceIte] at hB h ⊢
        exact wpAnyH_lexf hn hQ n true l listed a w hB hS h
      | false =>
        simp only [Bool.false_eq_true, ↓reduceIte, Bool.and_eq_true, beq_iff_eq] at hB h ⊢
        obtain ⟨o, h0, h⟩ := h
        rw [Nat.add_comm]
        refine wpAnyH_ready hB.1 (by simp) (AllReadyH.cons h0 (fun K' hK => h K' (fun a w hS hW => hK a w hS fun hS' => ?_)) AllReadyH.nil)
        exact wpAnyH_lexf hn hQ n true l _ a w hB.2 hS' (hW hS')
    · simp only [if_neg hk] at hB h ⊢
      obtain ⟨o, h0, h⟩ := h
      rw [Nat.add_comm]
      cases hc : calls k with
      | true =>
        simp only [hc, ↓reduceIte] at hB h
        cases d with
        | true =>
          simp only [↓reduceIte, Bool.and_eq_true, beq_iff_eq] at hB
          refine wpAnyH_ready hB.1 (by simp) (AllReadyH.cons h0 (fun K' hK => h.1 K' (fun a w hS hW => hK a w hS fun hS' => ?_)) AllReadyH.nil)
          exact wpAnyH_lexf hn hQ n true l _ a w hB.2 hS' (hW hS')
        | false =>
          simp only [Bool.false_eq_true, ↓reduceIte, Bool.and_eq_true, beq_iff_eq] at hB
          obtain ⟨⟨hr, hB1⟩, hl, hB2⟩ := hB
          obtain ⟨o2, h2, h3⟩ := h.2 rfl
          refine wpAnyH_ready hr (by simp) (AllReadyH.cons h0 (fun K' hK => h.1 K' (fun a w hS hW => hK a w hS fun hS' => ?_)) (AllReadyH.cons h2 (fun K' hK => h3 K' (fun a w hS hW => hK a w hS fun hS' => ?_)) AllReadyH.nil))
          · exact wpAnyH_lexf hn hQ n false l _ a w hB1 hS' (hW hS')
          · have := wpAnyH_lexf hn hQ n true (k :: l) _ a w hB2 hS' (hW hS')
            unfold needF at this
            rw [if_neg hk] at this
            rw [needF_more l hl, Nat.add_comm]
            exact this
      | false =>
        simp only [hc, Bool.false_eq_true, ↓reduceIte, Bool.and_eq_true] at hB h
        obtain ⟨v, hy, hK⟩ := h
        exact wpAnyH_take h0 hn hB.1.1 hB.1.2 (fun c a w hp => by cases hd : o.dst with | none => (rw [hd] at hp; exact hp) | some d => (rw [hd] at hp; exact hQ c a d _ w hp)) hy hS (wpAnyH_lexf hn hQ n d l _ _ w hB.2 hS hK)
theorem wp_region_lexF {id : Nat} {l : List Oper} {a : Act} {w : World} (S : World → Prop) (calls : Nat → Bool) (ka n : Nat) (order : List Nat) (hl : needF ka false order = l.length) (hm : P.follows .mixedOrders = true) (hn : Region.noSelect l.toArray = true)
    (hB : Region.heldBf .any l.toArray calls ka n false order (Array.replicate l.length false) = true) (hQ : ∀ c a d v w, Q (.panic c) (Act.put a (some d) v) w → Q (.panic c) a w)
    (hS : S w.drew) (h : ∀ OPS : Array Oper, OPS = l.toArray → wpHf P OPS S Q calls ka n false order a w.drew) : (Code.region id l.toArray true).wp P Q a w := by
  refine wp_region_held_drew (S := S) hm hS (fun _ => ?_)
  have := wpAnyH_lexf (md := .any) hn hQ n false order (Array.replicate l.length false) a w.drew hB hS (h _ rfl)
  rw [hl] at this
  simpa using this
section
variable {n : Nat} {d : Bool} {k : Nat} {l : List Nat} {o o2 : Oper} {a : Act} {w : World} {v : Value} {R : Act → World → Prop}
theorem wpHf_yes (ho : ops[k]? = some o) (hne : ¬ k = ka) (hk : calls k = false) (hw : Region.wanted o (yielded ops a.tmps) = true) (hv : ∀ w, S w → (execOp a.eval o).run P w = .ok (.value v) w)
    (h : wpHf P ops S Q calls ka n d l (a.put o.dst v) w) : wpHf P ops S Q calls ka (n + 1) d (k :: l) a w := by
  unfold wpHf
  rw [if_neg hne]
  refine ⟨o, ho, ?_⟩
  rw [hk]
  simp only [Bool.false_eq_true, ↓reduceIte]
  exact ⟨v, .inl ⟨hw, hv⟩, h⟩
theorem wpK_yes (hw : Region.wanted o (yielded ops a.tmps) = true) (h : ∀ K' : Act → World → Prop, Shut (∀ a w, S w → (S w → R a w) → K' a w) → Oper.wp P o a w K' Q) : wpK P ops S Q o R a w := fun K' hK => by
  rw [if_pos hw]; exact h K' hK
theorem wpHf_call (ho : ops[k]? = some o) (hne : ¬ k = ka) (hk : calls k = true) (h : wpK P ops S Q o (wpHf P ops S Q calls ka n true l) a w) : wpHf P ops S Q calls ka (n + 1) true (k :: l) a w := by
  unfold wpHf
  rw [if_neg hne]
  exact ⟨o, ho, by rw [if_pos hk]; exact ⟨h, fun h => by cases h⟩⟩
theorem wpHf_both (ho : ops[k]? = some o) (h2 : ops[ka]? = some o2) (hne : ¬ k = ka) (hk : calls k = true) (h : wpK P ops S Q o (wpHf P ops S Q calls ka n false l) a w) (h3 : wpK P ops S Q o2 (wpHf P ops S Q calls ka n true (k :: l)) a w) : wpHf P ops S Q calls ka (n + 1) false (k :: l) a w := by
  unfold wpHf
  rw [if_neg hne]
  exact ⟨o, ho, by rw [if_pos hk]; exact ⟨h, fun _ => ⟨o2, h2, h3⟩⟩⟩
theorem wpHf_new (h2 : ops[ka]? = some o2) (h3 : wpK P ops S Q o2 (wpHf P ops S Q calls ka n true l) a w) : wpHf P ops S Q calls ka (n + 1) false (ka :: l) a w := by
  unfold wpHf
  rw [if_pos rfl]
  exact ⟨o2, h2, h3⟩
theorem wpHf_was (h : wpHf P ops S Q calls ka n true l a w) : wpHf P ops S Q calls ka (n + 1) true (ka :: l) a w := by
  unfold wpHf
  rw [if_pos rfl]
  exact h
end
end
end Go
end
