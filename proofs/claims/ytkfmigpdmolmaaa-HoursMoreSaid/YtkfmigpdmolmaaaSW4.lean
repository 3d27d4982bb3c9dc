/- Contract of the document's rows: built between edges. -/
import Derived.Test.YtkfmigpdmolmaaaSW1
import Derived.Test.YtkfmigpdmolmaaaSMath3
import Derived.Deep.RegionHeld3
import Derived.Deep.AppendLies
import Derived.Lib.SmallJoins
namespace Go.Proofs.Ytkfmigpdmolmaaa
open Go.ChangeShapes Go.WideShapes Go.ChangeAt Go.RowKit Go.Joins Sp

theorem span_info : (Try.prog.info? 30).map (fun i => (i.zero, i.size, i.bytes)) = some (some (.agg #[.int .i64 0, .int .i64 0]), 2, 16) := by kernel_rfl
theorem Sl.boolG {w : World} {A : Option Addr} {n c : Nat} {l : List Bool} (h : Sl w A n c (bv l)) {i : Nat} {x : Bool} (hi : l[i]? = some x) :
    ∃ b off, A = some ⟨b, off, none⟩ ∧ b < w.heap.size ∧ ∀ g : Gr w, g.val.cell? ⟨b, off + i, none⟩ = some (.bool x) := by
  obtain ⟨b, off, e, hb, g1⟩ := h.at_ (bv_at hi)
  exact ⟨b, off, e, hb, fun g => cell_old g1 g.ok⟩
theorem joinS_len (o l : List Spn) : (joinS o l).length ≤ o.length + l.length := by
  rcases List.eq_nil_or_concat o with rfl | ⟨q, t, rfl⟩
  · rw [joinS_nil]; omega
  · rw [List.concat_eq_append]
    cases l with
    | nil => simp [joinS_end]
    | cons s r => rw [joinS_snoc]; split <;> simp <;> omega

theorem own_last {cur : Array Value} {q : List Spn} {t1 t2 y : Int} (h : cur.toList.take ((q.length + 1) * 2) = sv (q ++ [(t1, t2)])) :
    ((cur.setIfInBounds (q.length * 2) (.int .i64 t1)).setIfInBounds (q.length * 2 + 1) (.int .i64 y)).toList.take ((q.length + 1) * 2) = sv (q ++ [(t1, y)]) := by
  have hl := sv_len q
  rw [Array.toList_setIfInBounds, Array.toList_setIfInBounds, List.take_set, List.take_set, h, sv_app, sv_app]
  rw [List.set_append_right _ _ (by omega), List.set_append_right _ _ (by omega)]
  simp [sv, hl]
end Go.Proofs.Ytkfmigpdmolmaaa
