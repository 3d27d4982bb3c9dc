import Derived.Test.YtdhinjbkfffpeaaZMB
import Derived.Deep.Quiet
import Derived.BigQuiet
/- Regions that draw their order: all operations but the last are quiet in a class of worlds, and the last one, which waits for all others, may write. No text of the program is read here. -/
section
namespace Go
section
variable {P : Program} {ops : Array Oper} {md : Region.Mode} {C : World → Prop}
def Region.chainB (md : Region.Mode) (ops : Array Oper) (m : Nat) : Bool :=
  ((List.range m).all fun i => (List.range (m + 1)).any fun j => decide (i < j) && ((ops[j]?).map fun o => o.after.any fun e => Region.binds md e && decide (e.on = i)).getD false) &&
  ((List.range (m + 1)).all fun j => ((ops[j]?).map fun o => o.after.all fun e => !Region.binds md e || decide (e.on < j)).getD false)
theorem chain_next {m : Nat} (h : Region.chainB md ops m = true) {i : Nat} (hi : i < m) : ∃ j o, i < j ∧ j ≤ m ∧ ops[j]? = some o ∧ ∃ e ∈ o.after, Region.binds md e = true ∧ e.on = i := by
  simp only [Region.chainB, Bool.and_eq_true, List.all_eq_true, List.mem_range, List.any_eq_true, decide_eq_true_eq] at h
  obtain ⟨j, hj, hij, ho⟩ := h.1 i hi
  cases hoj : ops[j]? with
  | none => rw [hoj] at ho; cases ho
  | some o =>
    rw [hoj] at ho
    simp only [Option.map_some, Option.getD_some] at ho
    obtain ⟨e, he, hb⟩ := Array.any_eq_true'.1 ho
    simp only [Bool.and_eq_true, decide_eq_true_eq] at hb
    exact ⟨j, o, hij, by omega, hoj, e, he, hb⟩
structure Region.Inv (md : Region.Mode) (ops : Array Oper) (m : Nat) (listed : Array Bool) : Prop where
  size : listed.size = m + 1
  last : listed.getD m true = false
  down : ∀ j o, ops[j]? = some o → listed.getD j false = true → ∀ e ∈ o.after, Region.binds md e = true → listed.getD e.on false = true
theorem Region.Inv.all {m : Nat} {listed : Array Bool} (hI : Region.Inv md ops m listed) (hc : Region.chainB md ops m = true) (hr : m ∈ Region.ready md ops listed) :
    ∀ k i, i + k + 1 = m → listed.getD i false = true := by
  intro k
  induction k using Nat.strongRecOn with
  | _ k ih =>
    intro i hi
    obtain ⟨j, o, hij, hjm, hoj, e, he, hb, hon⟩ := chain_next hc (i := i) (by omega)
    by_cases hj : j = m
    · subst hj
      obtain ⟨_, o', ho', hall⟩ := mem_ready.1 hr
      obtain rfl : o = o' := by rw [hoj] at ho'; exact Option.some.inj ho'
      rw [← hon]; exact hall e he hb
    · have := ih (m - 1 - j) (by omega) j (by omega)
      rw [← hon]; exact hI.down j o hoj this e he hb
end
end Go
namespace Go.Proofs.Ytdhinjbkfffpeaa
open Go.ChangeShapes Go.WideShapes Go.ChangeAt Go.RowKit
end Go.Proofs.Ytdhinjbkfffpeaa
end
