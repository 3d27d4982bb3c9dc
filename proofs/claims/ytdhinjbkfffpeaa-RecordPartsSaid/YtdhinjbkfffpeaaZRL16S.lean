import Derived.Test.YtdhinjbkfffpeaaZRL16
import Derived.Test.YtdhinjbkfffpeaaZJS3
import Derived.Test.YtdhinjbkfffpeaaZRL16R
/- RecordSame, walked. -/
section
namespace Go.Proofs.Ytdhinjbkfffpeaa
open Go.ChangeShapes Go.WideShapes Go.ChangeAt Go.RowKit Go.Joins Sp Fr Pk
theorem ak_info2 (r : Ak) (p : AkP) : (Try.prog.info? 48).map (·.size) = some (aCells r p).length := by kernel_rfl
theorem ak_row : (Try.prog.underlying 48).map (·.isRow) = some true := by kernel_rfl
theorem load_ak {W V : World} {b : Nat} {r : Ak} {p : AkP} (h : W.heap[b]? = some (.cells (aCells r p).toArray 48 (0, 0))) (hb : Below W.heap.size W V) :
    (Instr.loadAt 48 (.pointer (some ⟨b, 0, none⟩))).run Try.prog V = .ok (.agg (aCells r p).toArray) V :=
  load_blk (blk_below h hb) (fun j v hv => by rw [Nat.zero_add, List.getElem?_toArray]; exact hv) ak_row (ak_info2 r p)
theorem same_calls {α : Type} {f : FuncId} {args : Array Value} {w : World} {x y : α} {t : Bool} (ht : t = true ↔ x = y) (h : Calls Try.prog f args w fun e w' => ∃ b, e = .returned (.bool b) ∧ (b = true ↔ x = y) ∧ Below w.heap.size w w') :
    Calls Try.prog f args w fun e w' => e = .returned (.bool t) ∧ Below w.heap.size w w' :=
  h.mono fun e w' ⟨b, he, hb, hw⟩ => by
    have : b = t := by
      cases b <;> cases t
      · rfl
      · exact absurd (hb.2 (ht.1 rfl)) (by simp)
      · exact absurd (ht.2 (hb.1 rfl)) (by simp)
      · rfl
    exact ⟨by rw [← this]; exact he, hw⟩
end Go.Proofs.Ytdhinjbkfffpeaa
end
