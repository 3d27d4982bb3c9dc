import Derived.Test.YtdhinjbkfffpeaaGreatYMB
import Derived.Deep.MidRow
import Derived.Deep.WholeRow
import Derived.BigQuiet
/- Blocks of many cells: a part is loaded, a part is stored, in one step. -/
section
namespace Go.Proofs.YtdhinjbkfffpeaaGreat
open Go.ChangeShapes Go.WideShapes Go.ChangeAt Go.RowKit Go.Joins
def setAll (cs : Array Value) : Nat → List Value → Array Value
  | _, [] => cs
  | o, v :: r => setAll (cs.setIfInBounds o v) (o + 1) r
theorem setCells_blk {b : Nat} {t : TypeId} : ∀ (vs : List Value) (o : Nat) (cs : Array Value) (w : World), w.heap[b]? = some (.cells cs t (0, 0)) → (w.setCells b o vs).heap[b]? = some (.cells (setAll cs o vs) t (0, 0))
  | [], _, _, _, h => h
  | v :: r, o, cs, w, h => by
    rw [World.setCells, setAll]
    exact setCells_blk r (o + 1) _ _ (block_setCell h (i := o) v)
theorem setCells_ne {b c : Nat} (hc : c ≠ b) : ∀ (vs : List Value) (o : Nat) (w : World), (w.setCells b o vs).heap[c]? = w.heap[c]?
  | [], _, _ => rfl
  | v :: r, o, w => by
    rw [World.setCells, setCells_ne hc r]
    exact Below.heap_setCell _ _ _ _ hc
theorem below_setCells {n b : Nat} {w : World} (hb : n ≤ b) : ∀ (vs : List Value) (o : Nat) (W : World), Below n w W → Below n w (W.setCells b o vs)
  | [], _, _, h => h
  | v :: r, o, W, h => by
    rw [World.setCells]
    exact below_setCells hb r (o + 1) _ (h.setCell (p := ⟨b, o, none⟩) hb v)
theorem load_blk {P : Program} {w : World} {b o : Nat} {cs : Array Value} {t : TypeId} {T : TypeId} {vs : List Value} (h : w.heap[b]? = some (.cells cs t (0, 0))) (hv : ∀ j v, vs[j]? = some v → cs[o + j]? = some v)
    (hu : (P.underlying T).map (·.isRow) = some true) (hi : (P.info? T).map (·.size) = some vs.length) : (Instr.loadAt T (.pointer (some ⟨b, o, none⟩))).run P w = .ok (.agg vs.toArray) w := by
  cases hd : P.underlying T with
  | none => rw [hd] at hu; cases hu
  | some d =>
    rw [hd] at hu
    exact run_loadAt_mid w b o T vs d (fun j v hj => blk_cell h (hv j v hj)) hd (by simpa using hu) hi
theorem exec_load {P : Program} {o : Oper} {a : Act} {w : World} {t : TypeId} {p : Operand} {v : Value} (ho : o.op = .load t p) (hl : (Instr.loadAt t (a.eval p)).run P w = .ok v w) : (execOp a.eval o).run P w = .ok (.value v) w := by
  unfold execOp
  rw [ho]
  simp [hl]
theorem wpList_load {P : Program} {ops : Array Oper} {Q : Exit → Act → World → Prop} {o : Oper} {rest : List Oper} {a : Act} {w : World} {t : TypeId} {p : Operand} {v : Value} (ho : o.op = .load t p) (hw : Region.wanted o (yielded ops a.tmps) = true)
    (hl : (Instr.loadAt t (a.eval p)).run P w = .ok v w) (h : wpList P ops Q rest (a.put o.dst v) w) : wpList P ops Q (o :: rest) a w :=
  wpList_step fun K hK => by
    rw [if_pos hw]
    unfold Oper.wp
    rw [exec_load ho hl]
    exact hK _ _ h
theorem wpList_build {P : Program} {ops : Array Oper} {Q : Exit → Act → World → Prop} {o : Oper} {rest : List Oper} {a : Act} {w : World} {t : TypeId} {ps : Array (Nat × Operand)} {v : Value} (ho : o.op = .build t ps) (hw : Region.wanted o (yielded ops a.tmps) = true)
    (hl : (Instr.build t (ps.map fun (i, x) => (i, a.eval x))).run P w = .ok v w) (h : wpList P ops Q rest (a.put o.dst v) w) : wpList P ops Q (o :: rest) a w :=
  wpList_step fun K hK => by
    have he : (execOp a.eval o).run P w = .ok (.value v) w := by
      unfold execOp
      rw [ho]
      simp [hl]
    rw [if_pos hw]
    unfold Oper.wp
    rw [he]
    exact hK _ _ h
theorem wpList_store_new {P : Program} {ops : Array Oper} {Q : Exit → Act → World → Prop} {o : Oper} {rest : List Oper} {a : Act} {w : World} {t : TypeId} {x y : Operand} {c c' : Array Value} (ho : o.op = .store t x y) (hgd : o.guard = none)
    (hx : a.eval x = .pointer (some ⟨w.heap.size, 0, none⟩)) (hy : a.eval y = .agg c') (hi : (P.info? t).map (·.size) = some c'.size) (hs : c.size = c'.size) (h1 : c'.all (·.oneCell') = true)
    (h : wpList P ops Q rest (a.put o.dst undef) (w.alloc (.cells c' t))) : wpList P ops Q (o :: rest) a (w.alloc (.cells c t)) :=
  wpList_plain hgd fun K hK => by
    unfold Oper.wp execOp
    simp only [ho, hx, hy, run_storeAt_new w t c c' hi hs h1, Sem.run_bind, Sem.run_pure, Result.andThen_ok]
    exact hK _ _ h
theorem wpList_alloc {P : Program} {ops : Array Oper} {Q : Exit → Act → World → Prop} {o : Oper} {rest : List Oper} {a : Act} {w : World} {t : TypeId} {c : Array Value} (ho : o.op = .alloc t) (hw : Region.wanted o (yielded ops a.tmps) = true)
    (hl : (Instr.alloc t true (.tuple #[])).run P w = .ok (.pointer (some ⟨w.heap.size, 0, none⟩)) (w.alloc (.cells c t))) (h : wpList P ops Q rest (a.put o.dst (.pointer (some ⟨w.heap.size, 0, none⟩))) (w.alloc (.cells c t))) : wpList P ops Q (o :: rest) a w :=
  wpList_step fun K hK => by
    have he : (execOp a.eval o).run P w = .ok (.value (.pointer (some ⟨w.heap.size, 0, none⟩))) (w.alloc (.cells c t)) := by
      unfold execOp
      rw [ho]
      simp [hl]
    rw [if_pos hw]
    unfold Oper.wp
    rw [he]
    exact hK _ _ h
theorem wpQuiet_load {P : Program} {ops : Array Oper} {C : World → Prop} {Q : Act → Prop} {o : Oper} {rest : List Oper} {a : Act} {t : TypeId} {p : Operand} {v : Value} (ho : o.op = .load t p) (hw : Region.wanted o (yielded ops a.tmps) = true)
    (hl : ∀ w, C w → (Instr.loadAt t (a.eval p)).run P w = .ok v w) (h : wpQuiet P ops C Q rest (a.put o.dst v)) : wpQuiet P ops C Q (o :: rest) a :=
  wpQuiet_step fun K hK => by rw [if_pos hw]; exact ⟨v, fun w hc => by unfold Oper.quietAt; rw [exec_load ho (hl w hc)]; exact ⟨rfl, rfl⟩, hK _ h⟩
end Go.Proofs.YtdhinjbkfffpeaaGreat
end
