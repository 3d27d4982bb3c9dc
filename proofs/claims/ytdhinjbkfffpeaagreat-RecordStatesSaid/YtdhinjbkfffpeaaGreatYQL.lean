import Derived.Test.YtdhinjbkfffpeaaGreatYMB
import Derived.Deep.Quiet
import Derived.BigQuiet
/- Regions that draw their order: all operations but the last are quiet in a class of worlds, and the last one, which waits for all others, may write. No text of the program is read here. -/
section
namespace Go
section
variable {P : Program} {ops : Array Oper} {md : Region.Mode} {C : World → Prop}
def Region.chainB (md : Region.Mode) (ops : Array Oper) (m : Nat) : Bool :=
  ((List.range m).all fun i => (List.range (m + 1)).any fun j => decide (i < j) && ((ops[j]?).map fun o => o.after.any fun e => Region.binds md e && decide (e.on = i)).getD false) &&
  ((List.range (m + 1)).all fun j => ((ops[j]?).map fun o => o.after.all fun e => !Region.binds md e || decide (e.on < j)).getD false)
def Region.lastB (md : Region.Mode) (ops : Array Oper) (m : Nat) : Bool :=
  decide (ops.size = m + 1) && Region.noSelect ops && Region.lexFrom md ops m 0 ((Array.replicate (m + 1) false).setIfInBounds m true) && Region.chainB md ops m
theorem chain_next {m : Nat} (h : Region.chainB md ops m = true) {i : Nat} (hi : i < m) : ∃ j o, i < j ∧ j ≤ m ∧ ops[j]? = some o ∧ ∃ e ∈ o.after, Region.binds md e = true ∧ e.on = i := by
  simp only [Region.chainB, Bool.and_eq_true, List.all_eq_true, List.mem_range, List.any_eq_true, decide_eq_true_eq] at h
  obtain ⟨j, hj, hij, ho⟩ := h.1 i hi
  cases hoj : ops[j]? with
  | none => rw [hoj] at ho; cases ho
  | some o =>
    rw [hoj] at ho
    simp only [Option.map_some, Option.getD_some] at ho
    obtain ⟨e, he, hb⟩ := Array.any_eq_true'.1 ho
    simp only [Bool.and_eq_true, decide_eq_true_eq] at hb
    exact ⟨j, o, hij, by omega, hoj, e, he, hb⟩
theorem chain_back {m : Nat} (h : Region.chainB md ops m = true) {j : Nat} (hj : j ≤ m) : ∃ o, ops[j]? = some o ∧ ∀ e ∈ o.after, Region.binds md e = true → e.on < j := by
  simp only [Region.chainB, Bool.and_eq_true, List.all_eq_true, List.mem_range, List.any_eq_true, decide_eq_true_eq] at h
  have ho := h.2 j (by omega)
  cases hoj : ops[j]? with
  | none => rw [hoj] at ho; cases ho
  | some o =>
    rw [hoj] at ho
    simp only [Option.map_some, Option.getD_some] at ho
    refine ⟨o, rfl, fun e he hb => ?_⟩
    have := Array.all_eq_true_iff_forall_mem.1 ho e he
    simpa [hb] using this
structure Region.Inv (md : Region.Mode) (ops : Array Oper) (m : Nat) (listed : Array Bool) : Prop where
  size : listed.size = m + 1
  last : listed.getD m true = false
  down : ∀ j o, ops[j]? = some o → listed.getD j false = true → ∀ e ∈ o.after, Region.binds md e = true → listed.getD e.on false = true
theorem getD_false_of {listed : Array Bool} {i : Nat} (hi : i < listed.size) (h : ¬ listed.getD i false = true) : listed.getD i true = false := by
  rw [Array.getD, dif_pos hi] at *
  simpa using h
theorem Region.Inv.all {m : Nat} {listed : Array Bool} (hI : Region.Inv md ops m listed) (hc : Region.chainB md ops m = true) (hr : m ∈ Region.ready md ops listed) :
    ∀ k i, i + k + 1 = m → listed.getD i false = true := by
  intro k
  induction k using Nat.strongRecOn with
  | _ k ih =>
    intro i hi
    obtain ⟨j, o, hij, hjm, hoj, e, he, hb, hon⟩ := chain_next hc (i := i) (by omega)
    by_cases hj : j = m
    · subst hj
      obtain ⟨_, o', ho', hall⟩ := mem_ready.1 hr
      obtain rfl : o = o' := by rw [hoj] at ho'; exact Option.some.inj ho'
      rw [← hon]; exact hall e he hb
    · have := ih (m - 1 - j) (by omega) j (by omega)
      rw [← hon]; exact hI.down j o hoj this e he hb
theorem Region.Inv.some_ {m : Nat} {listed : Array Bool} (hI : Region.Inv md ops m listed) (hc : Region.chainB md ops m = true) : Region.ready md ops listed ≠ [] := by
  have key : ∀ j, j ≤ m → listed.getD j true = false → ∃ i, i ∈ Region.ready md ops listed := by
    intro j
    induction j using Nat.strongRecOn with
    | _ j ih =>
      intro hj hn
      obtain ⟨o, ho, hlt⟩ := chain_back hc hj
      by_cases hall : ∀ e ∈ o.after, Region.binds md e = true → listed.getD e.on false = true
      · exact ⟨j, mem_ready.2 ⟨hn, o, ho, hall⟩⟩
      · simp only [Classical.not_forall] at hall
        obtain ⟨e, he, hb, hne⟩ := hall
        have := hlt e he hb
        exact ih e.on this (by omega) (getD_false_of (by rw [hI.size]; omega) hne)
  obtain ⟨i, hi⟩ := key m (Nat.le_refl _) hI.last
  intro h0
  rw [h0] at hi
  cases hi
theorem Region.Inv.next {m i : Nat} {listed : Array Bool} (hI : Region.Inv md ops m listed) (hi : i ∈ Region.ready md ops listed) (hne : i ≠ m) : Region.Inv md ops m (listed.setIfInBounds i true) := by
  refine ⟨by simp [hI.size], by rw [getD_set_ne true hne]; exact hI.last, fun j o ho hj e he hb => getD_set_true ?_⟩
  by_cases hij : i = j
  · subst hij
    obtain ⟨_, o', ho', hall⟩ := mem_ready.1 hi
    obtain rfl : o = o' := by rw [ho] at ho'; exact Option.some.inj ho'
    exact hall e he hb
  · exact hI.down j o ho (by rw [getD_set_ne false hij] at hj; exact hj) e he hb
theorem wpAny_of_quiet_last {m : Nat} {Q : Exit → Act → World → Prop} (hs : ops.size = m + 1) (hc : Region.chainB md ops m = true) : ∀ (fuel : Nat) (listed : Array Bool) (a : Act) (w : World), Region.Inv md ops m listed → C w →
    wpAnyQ P md ops C (fun a' => ∀ w', C w' → wpOp P ops Q m (fun a w => Q .normal a w) a' w') fuel (listed.setIfInBounds m true) a → wpAny P md ops Q (fuel + 1) listed a w
  | 0, listed, a, w, hI, hw, h => by
    refine ⟨fun h0 => absurd h0 (hI.some_ hc), fun i hi => ?_⟩
    by_cases him : i = m
    · subst him
      exact wpOp_mono (fun a w hq => ⟨h.1, hq⟩) (h.2 w hw)
    · have := ready_mono hi him
      rw [h.1] at this
      cases this
  | fuel + 1, listed, a, w, hI, hw, h => by
    refine ⟨fun h0 => absurd h0 (hI.some_ hc), fun i hi => ?_⟩
    by_cases him : i = m
    · subst him
      have hall := hI.all hc hi
      have hr0 : Region.ready md ops (listed.setIfInBounds i true) = [] := by
        rw [List.eq_nil_iff_forall_not_mem]
        intro j hj
        obtain ⟨hj0, o, ho, _⟩ := mem_ready.1 hj
        have hjs : j < ops.size := (Array.getElem?_eq_some_iff.1 ho).1
        by_cases hji : i = j
        · subst hji
          have : i < listed.size := by rw [hI.size]; omega
          simp [this] at hj0
        · rw [getD_set_ne true hji] at hj0
          have h1 := hall (i - 1 - j) j (by omega)
          have : j < listed.size := by rw [hI.size]; omega
          simp [this] at hj0 h1
          rw [hj0] at h1; cases h1
      refine wpOp_mono (fun a w hq => ⟨fun _ => hq, fun j hj => ?_⟩) (h.1 hr0 w hw)
      rw [hr0] at hj; cases hj
    · have h1 := h.2 i (ready_mono hi him)
      refine wpOp_of_qOp hw (fun a' w' hw' hk => wpAny_of_quiet_last hs hc fuel _ a' w' (hI.next hi him) hw' ?_) h1
      rw [Array.setIfInBounds_comm _ _ him]
      exact hk
theorem wpAnyQ_lex' {Q : Act → Prop} (hs : Region.noSelect ops = true) : ∀ (l : List Oper) (k : Nat) (listed : Array Bool) (a : Act), (∀ j, j < l.length → l[j]? = ops[k + j]?) →
    Region.lexFrom md ops l.length k listed = true → wpQuiet P ops C Q l a → wpAnyQ P md ops C Q l.length listed a
  | [], _, _, _, _, hB, h => ⟨by simpa [Region.lexFrom] using hB, h⟩
  | o :: l, k, listed, a, hl, hB, h => by
    have h0 : ops[k]? = some o := by simpa using (hl 0 (by simp)).symm
    simp only [List.length_cons, Region.lexFrom, Bool.and_eq_true] at hB
    obtain ⟨⟨hr, hf⟩, hB'⟩ := hB
    have hst : qOp P ops C k (wpQuiet P ops C Q l) a := by unfold qOp; simp only [h0]; exact h
    obtain ⟨v, hy, hK⟩ := yieldsIn_of_qOp h0 hst
    exact wpAnyQ_first h0 (Region.noSelect_spec hs) l.length listed a (Region.free_spec h0 hf) (by simpa using hr) hy
      (wpAnyQ_lex' hs l (k + 1) _ _ (fun j hj => by have := hl (j + 1) (by simpa using hj); simpa [Nat.add_assoc, Nat.add_comm 1 j] using this) hB' hK)
theorem wp_region_quiet_last {id m : Nat} {Q : Exit → Act → World → Prop} {a : Act} {w : World} (hm : P.follows .mixedOrders = true) (hB : Region.lastB .any ops m = true) (hC : C { w with drawn := w.drawn + 1 })
    (h : wpQuiet P ops C (fun a' => ∀ w', C w' → wpOp P ops Q m (fun a w => Q .normal a w) a' w') (ops.toList.take m) a) : (Code.region id ops true).wp P Q a w := by
  simp only [Region.lastB, Bool.and_eq_true, decide_eq_true_eq] at hB
  obtain ⟨⟨⟨h1, h2⟩, h3⟩, h4⟩ := hB
  refine wp_region_any hm ?_
  rw [h1]
  refine wpAny_of_quiet_last h1 h4 m _ a _ ⟨by simp, by simp, fun j o _ hj => ?_⟩ hC ?_
  · rw [Array.getD] at hj; split at hj <;> simp at hj
  · have hlen : (ops.toList.take m).length = m := by simp [h1]
    have := wpAnyQ_lex' (C := C) (md := .any) h2 (ops.toList.take m) 0 _ a (fun j hj => by rw [List.getElem?_take, if_pos (by omega)]; simp) (by rw [hlen]; exact h3) h
    rwa [hlen] at this
end
end Go
namespace Go.Proofs.YtdhinjbkfffpeaaGreat
open Go.ChangeShapes Go.WideShapes Go.ChangeAt Go.RowKit
theorem Gr.region_last {P : Program} {id m : Nat} {Q : Exit → Act → World → Prop} {a : Act} {w0 w : World} {l : List Oper} (hm : P.follows .mixedOrders = true) (hB : Region.lastB .any l.toArray m = true)
    (hd : ∃ g : Gr w0, { w with drawn := w.drawn + 1 } = g.val)
    (h : wpQuiet P l.toArray (fun w' => ∃ g : Gr w0, w' = g.val) (fun a' => ∀ w', (∃ g : Gr w0, w' = g.val) → wpOp P l.toArray Q m (fun a w => Q .normal a w) a' w') (l.take m) a) : (Code.region id l.toArray true).wp P Q a w :=
  wp_region_quiet_last (C := fun w' => ∃ g : Gr w0, w' = g.val) hm hB hd (by simpa using h)
theorem wpOp_last {P : Program} {l : List Oper} {m : Nat} {o : Oper} {Q : Exit → Act → World → Prop} {K : Act → World → Prop} {a : Act} {w : World} (ho : l[m]? = some o)
    (h : if Region.wanted o (yielded l.toArray a.tmps) = true then Oper.wp P o a w K Q else K (a.put o.dst undef) w) : wpOp P l.toArray Q m K a w := by
  unfold wpOp
  simp only [List.getElem?_toArray, ho]
  split
  · rename_i hw; rw [if_pos hw] at h; exact .inl h
  · rename_i hw; rw [if_neg hw] at h; exact h
end Go.Proofs.YtdhinjbkfffpeaaGreat
end
