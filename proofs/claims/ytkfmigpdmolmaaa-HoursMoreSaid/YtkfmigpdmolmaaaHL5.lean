/- The statement HoursMore: what it makes of hours; a row in a box that grows. -/
import Derived.Test.YtkfmigpdmolmaaaHL2
import Derived.Test.YtkfmigpdmolmaaaASL
namespace Go.Proofs.Ytkfmigpdmolmaaa
open Go.ChangeShapes Go.WideShapes Go.ChangeAt Go.RowKit Go.Joins Hr Zn Sp

theorem works_more {h : H} {s : Int × Int × Int} {add : Int → Int} {u : Int} (q : worksB h add u = true) : worksB ⟨h.shifts ++ [s], h.off⟩ add u = true := by
  rw [works_loc, Bool.and_eq_true] at *
  refine ⟨q.1, ?_⟩
  have := q.2
  unfold locB at *
  rw [Bool.and_eq_true] at *
  refine ⟨this.1, ?_⟩
  rw [List.any_append, this.2]; rfl
theorem works_less {h : H} {P : List Int} {add : Int → Int} {u : Int} (hP : ∀ x, x ∈ h.off → x ∈ P) (q : worksB ⟨h.shifts, P⟩ add u = true) : worksB h add u = true := by
  rw [works_loc, Bool.and_eq_true] at *
  refine ⟨q.1, ?_⟩
  have := q.2
  unfold locB at *
  rw [Bool.and_eq_true] at *
  refine ⟨?_, this.2⟩
  have h1 := this.1
  rw [Bool.not_eq_true', ← Bool.not_eq_true, List.any_eq_true] at *
  rintro ⟨x, hx, hd⟩
  exact h1 ⟨x, hP x hx, hd⟩
theorem int_info12 : (Try.prog.info? 3).map (fun i => (i.zero, i.size, i.bytes)) = some (some (.int .i64 0), 1, 8) := by kernel_rfl
/-- A box of hours whose days off are a row of the call's own. -/
structure Ls (W0 : World) (nb : Nat) (A1 : Option Addr) (n1 c1 : Nat) (v : Value) (P : List Int) (wr : World) : Prop where
  box : wr.heap[nb]? = some (.cells #[.slice A1 n1 c1, v] 28 (0, 0))
  own : wr.ownsRow (nb + 1) 3 1 v P.length (iv P)
  bel : Below nb W0 wr
theorem Ls.step {W0 wr w5 : World} {nb n1 c1 cv gg cap2 : Nat} {A1 Av : Option Addr} {P : List Int} {x : Int} (L : Ls W0 nb A1 n1 c1 (.slice Av P.length cv) P wr)
    (hown : w5.ownsRow (nb + 1) 3 1 (.slice (some ⟨gg, 0, none⟩) (P.length + 1) cap2) (P.length + 1) (iv P ++ [.int .i64 x])) (hgr : (wr.alloc (.cells #[.int .i64 x] 3)).grownBy w5 (Value.slice Av P.length cv).ownBlock) :
    w5.cell? ⟨nb, 1, none⟩ = some (.slice Av P.length cv) ∧ w5.frozen? ⟨nb, 1, none⟩ = false ∧ Ls W0 nb A1 n1 c1 (.slice (some ⟨gg, 0, none⟩) (P ++ [x]).length cap2) (P ++ [x]) (w5.setCell ⟨nb, 1, none⟩ (.slice (some ⟨gg, 0, none⟩) (P.length + 1) cap2)) := by
  have hlt := heap_lt L.box
  have h1 : (wr.alloc (.cells #[.int .i64 x] 3)).heap[nb]? = some (.cells #[.slice A1 n1 c1, .slice Av P.length cv] 28 (0, 0)) := by rw [heap_alloc_old _ _ hlt]; exact L.box
  have hvn : ∀ k, (Value.slice Av P.length cv).ownBlock = some k → nb + 1 ≤ k := fun k hk => (L.own.lt k hk).1
  have h2 : w5.heap[nb]? = some (.cells #[.slice A1 n1 c1, .slice Av P.length cv] 28 (0, 0)) := (Off.of_grown hgr (F := fun k => (Value.slice Av P.length cv).ownBlock = some k) (fun k hk => hk)).heap h1 (fun q => by have := hvn _ q; omega)
  have hg := (hown.lt gg rfl).1
  refine ⟨blk_cell h2 rfl, blk_free h2 _, ⟨by have := block_setCell (i := 1) h2 (.slice (some ⟨gg, 0, none⟩) (P.length + 1) cap2); simpa using this, ?_, ?_⟩⟩
  · rw [iv_app, List.length_append]
    exact ownsRow_setCell_other hown (a := ⟨nb, 1, none⟩) (fun q => by simp [Value.ownBlock] at q; omega) _
  · refine Below.setCell ?_ (p := ⟨nb, 1, none⟩) (Nat.le_refl _) _
    refine (L.bel.alloc (by omega) _).trans (⟨hgr.os, hgr.tape, hgr.output, hgr.size, fun k hk => hgr.block k (by simp; omega) (fun q => by have := hvn _ q.symm; omega)⟩)
theorem below_al {w w' : World} (h : Below w.heap.size w w') (o : Obj) : Below w.heap.size w (w'.alloc o) := h.alloc h.size o
theorem heap_new_at (w : World) (o : Obj) (B : Nat) (h : B = w.heap.size) : (w.alloc o).heap[B]? = some o := by subst h; exact heap_alloc_new _ _
theorem drew_heap (w : World) : w.drew.heap = w.heap := rfl
theorem step_store2 {w : World} {ops : Array Oper} {a : Act} {K : Act → World → Prop} {Q : Exit → Act → World → Prop} {E : Prop} {ty : TypeId} {ps : String} {af : Array Edge} {i j : Nat} {nb : Nat} {x0 x1 : Value} {B0 B1 : Option Addr} {n0 n1 d0 d1 : Nat}
  (hp : a.tmps[i]?.getD undef = .pointer (some ⟨nb, 0, none⟩)) (hv : a.tmps[j]?.getD undef = .agg #[.slice B0 n0 d0, .slice B1 n1 d1]) (hb : w.heap[nb]? = some (.cells #[x0, x1] 28 (0, 0)))
  (h : K a ((w.setCell ⟨nb, 0, none⟩ (.slice B0 n0 d0)).setCell ⟨nb, 1, none⟩ (.slice B1 n1 d1))) :
  if Region.wanted { dst := none, op := Op.store 28 (.tmp i) (.tmp j), type := ty, pos := ps, after := af, guard := none } (yielded ops a.tmps) = true then Oper.wp Try.prog { dst := none, op := Op.store 28 (.tmp i) (.tmp j), type := ty, pos := ps, after := af, guard := none } a w K Q else E := by
  have c0 : w.cell? ⟨nb, 0, none⟩ = some x0 := blk_cell hb (i := 0) rfl
  have c1 : w.cell? ⟨nb, 1, none⟩ = some x1 := blk_cell hb (i := 1) rfl
  have f0 := fun i => blk_free hb i
  simp only [Region.wanted]
  go_simp
  exact h
theorem tv_app (a b : List (Int × Int × Int)) : tv (a ++ b) = tv a ++ tv b := by induction a with | nil => rfl | cons s r ih => simp [tv, ih]
theorem more_own {w : World} {base gg cap : Nat} {l : List (Int × Int × Int)} {x1 x2 x3 : Int} (h : w.ownsRow base 44 3 (.slice (some ⟨gg, 0, none⟩) (0 + l.length + 1) cap) (0 + l.length + 1) ([] ++ tv l ++ [.int .i64 x1, .int .i64 x2, .int .i64 x3])) :
    w.ownsRow base 44 3 (.slice (some ⟨gg, 0, none⟩) (l.length + 1) cap) (l.length + 1) (tv (l ++ [(x1, x2, x3)])) := by
  rw [Nat.zero_add, List.nil_append] at h
  rw [tv_app]; exact h
/-- A box of hours, made and filled with a row of one's own. -/
theorem more_fin {W W1 : World} {nb gg cap n base : Nat} {x0 x1 y : Value} {xs : List Value} (hbel : Below W1.heap.size W1 W) (hnb : W1.heap.size ≤ nb) (hbx : W.heap[nb]? = some (.cells #[x0, x1] 28 (0, 0)))
    (hown : W.ownsRow base 44 3 (.slice (some ⟨gg, 0, none⟩) n cap) n xs) :
    Below W1.heap.size W1 ((W.setCell ⟨nb, 0, none⟩ (.slice (some ⟨gg, 0, none⟩) n cap)).setCell ⟨nb, 1, none⟩ y) ∧ ((W.setCell ⟨nb, 0, none⟩ (.slice (some ⟨gg, 0, none⟩) n cap)).setCell ⟨nb, 1, none⟩ y).heap[nb]? = some (.cells #[.slice (some ⟨gg, 0, none⟩) n cap, y] 28 (0, 0)) ∧
      Sl ((W.setCell ⟨nb, 0, none⟩ (.slice (some ⟨gg, 0, none⟩) n cap)).setCell ⟨nb, 1, none⟩ y) (some ⟨gg, 0, none⟩) n cap xs := by
  have hne : gg ≠ nb := fun e => by
    obtain ⟨cur, h1, _⟩ := own_block hown
    rw [e, hbx] at h1
    simp at h1
  refine ⟨(hbel.setCell (p := ⟨nb, 0, none⟩) hnb _).setCell (p := ⟨nb, 1, none⟩) hnb _, two_set hbx _ _, ?_⟩
  exact Sl.own_ (ownsRow_setCell_other (ownsRow_setCell_other hown (a := ⟨nb, 0, none⟩) (fun q => by simp [Value.ownBlock] at q; exact hne q) _) (a := ⟨nb, 1, none⟩) (fun q => by simp [Value.ownBlock] at q; exact hne q) _)
end Go.Proofs.Ytkfmigpdmolmaaa
