import Derived.Test.YtfjmofefciopmaaGreatZTW5
import Derived.Test.YtfjmofefciopmaaGreatZMB
/- The document's times: what its loop holds. -/
section
namespace Go.Proofs.YtfjmofefciopmaaGreat
open Go.ChangeShapes Go.WideShapes Go.ChangeAt Go.RowKit Go.Joins Qr Tm Cal
theorem Sl.off {w w' : World} {F : Nat → Prop} {A : Option Addr} {n c : Nat} {xs : List Value} (h : Sl w A n c xs) (ho : Off F w w') (hA : ∀ a, A = some a → ¬ F a.block) : Sl w' A n c xs := by
  refine ⟨h.le, h.cap, h.nil, fun hn => ?_⟩
  obtain ⟨b, off, e, hlt, hc⟩ := h.on hn
  exact ⟨b, off, e, Nat.lt_of_lt_of_le hlt ho.size, fun i v hi => ho.cell (hc i v hi) (hA _ e)⟩
def RetIO (l : List Int) (w : World) (e : Ending) (w' : World) : Prop := ∃ g c, e = .returned (.slice (some ⟨g, 0, none⟩) l.length c) ∧ w'.ownsRow w.heap.size 2 1 (.slice (some ⟨g, 0, none⟩) l.length c) l.length (iv l) ∧ Below w.heap.size w w'
theorem RetIO.ret {l : List Int} {w : World} {e : Ending} {w' : World} (h : RetIO l w e w') : RetI l w e w' := by
  obtain ⟨g, c, he, ho, hb⟩ := h
  exact ⟨_, _, he, Sl.own_ ho, hb⟩
structure TSt (w wr : World) (RC : Array Value) (rb sb ob ocap lb lcap db : Nat) (s t : Dt) (out l : List Int) : Prop where
  fr : Below w.heap.size w wr
  hr : wr.heap[rb]? = some (.cells RC 28 (0, 0))
  hs : wr.heap[sb]? = some (.cells (dcells s) 109 (0, 0))
  hd : wr.heap[db]? = some (.cells (dcells t) 109 (0, 0))
  ho : wr.ownsRow w.heap.size 2 1 (.slice (some ⟨ob, 0, none⟩) out.length ocap) out.length (iv out)
  hl : wr.ownsRow w.heap.size 3 1 (.slice (some ⟨lb, 0, none⟩) l.length lcap) l.length (iv l)
  n1 : ob ≠ rb ∧ ob ≠ sb ∧ ob ≠ db ∧ ob ≠ lb
  n2 : lb ≠ rb ∧ lb ≠ sb ∧ lb ≠ db
  n3 : w.heap.size ≤ db
section
variable {w wr w' : World} {RC : Array Value} {rb sb ob ocap lb lcap db : Nat} {s t : Dt} {out l : List Int}
theorem TSt.below (h : TSt w wr RC rb sb ob ocap lb lcap db s t out l) (hb : Below wr.heap.size wr w') : TSt w w' RC rb sb ob ocap lb lcap db s t out l := by
  have o : Off (fun _ => False) wr w' := Off.of_below hb
  exact ⟨h.fr.trans (hb.mono h.fr.size), o.heap h.hr id, o.heap h.hs id, o.heap h.hd id, own_off h.ho o (fun _ _ => id), own_off h.hl o (fun _ _ => id), h.n1, h.n2, h.n3⟩
theorem TSt.addOut (h : TSt w wr RC rb sb ob ocap lb lcap db s t out l) {o : Obj} {gg cap2 : Nat} {x : Int} (hg : (wr.alloc o).grownBy w' (Value.slice (some ⟨ob, 0, none⟩) out.length ocap).ownBlock)
    (hown : w'.ownsRow w.heap.size 2 1 (.slice (some ⟨gg, 0, none⟩) (out.length + 1) cap2) (out.length + 1) (iv out ++ [.int .i64 x])) (hat : (Value.slice (some ⟨ob, 0, none⟩) out.length ocap).ownBlock = some gg ∨ gg = (wr.alloc o).heap.size) :
    TSt w w' RC rb sb gg cap2 lb lcap db s t (out ++ [x]) l ∧ Off (fun b => b = ob) wr w' := by
  have o1 : Off (fun b => b = ob) wr w' := ((Off.refl (fun b => b = ob) wr).alloc o).trans' (Off.of_grown hg fun k hk => by simpa [Value.ownBlock] using hk.symm)
  have hlt := fun (b : Nat) (ob' : Obj) (hh : wr.heap[b]? = some ob') => heap_lt' hh
  have hob := (h.ho.lt ob rfl)
  have hlb := (h.hl.lt lb rfl)
  have hgg : gg = ob ∨ gg = wr.heap.size + 1 := by
    rcases hat with e | e
    · left; simpa [Value.ownBlock] using e.symm
    · right; simpa using e
  have hne : ∀ b, b < wr.heap.size → ob ≠ b → gg ≠ b := fun b hb hn => by rcases hgg with e | e <;> omega
  refine ⟨⟨?_, o1.heap h.hr (fun e => h.n1.1 e.symm), o1.heap h.hs (fun e => h.n1.2.1 e.symm), o1.heap h.hd (fun e => h.n1.2.2.1 e.symm), ?_, own_off h.hl o1 (fun k hk e => ?_), ⟨hne _ (hlt _ _ h.hr) h.n1.1, hne _ (hlt _ _ h.hs) h.n1.2.1, hne _ (hlt _ _ h.hd) h.n1.2.2.1, hne _ hlb.2 h.n1.2.2.2⟩, h.n2, h.n3⟩, o1⟩
  · exact h.fr.trans (o1.toBelow h.fr.size fun b e => by rw [e]; exact hob.1)
  · rw [List.length_append, iv_app]; exact hown
  · simp [Value.ownBlock] at hk; exact h.n1.2.2.2 (by omega)
theorem TSt.addL (h : TSt w wr RC rb sb ob ocap lb lcap db s t out l) {o : Obj} {gg cap2 : Nat} {x : Int} (hg : (wr.alloc o).grownBy w' (Value.slice (some ⟨lb, 0, none⟩) l.length lcap).ownBlock)
    (hown : w'.ownsRow w.heap.size 3 1 (.slice (some ⟨gg, 0, none⟩) (l.length + 1) cap2) (l.length + 1) (iv l ++ [.int .i64 x])) (hat : (Value.slice (some ⟨lb, 0, none⟩) l.length lcap).ownBlock = some gg ∨ gg = (wr.alloc o).heap.size) :
    TSt w w' RC rb sb ob ocap gg cap2 db s t out (l ++ [x]) := by
  have o1 : Off (fun b => b = lb) wr w' := ((Off.refl (fun b => b = lb) wr).alloc o).trans' (Off.of_grown hg fun k hk => by simpa [Value.ownBlock] using hk.symm)
  have hlt := fun (b : Nat) (ob' : Obj) (hh : wr.heap[b]? = some ob') => heap_lt' hh
  have hob := (h.ho.lt ob rfl)
  have hlb := (h.hl.lt lb rfl)
  have hgg : gg = lb ∨ gg = wr.heap.size + 1 := by
    rcases hat with e | e
    · left; simpa [Value.ownBlock] using e.symm
    · right; simpa using e
  have hne : ∀ b, b < wr.heap.size → lb ≠ b → gg ≠ b := fun b hb hn => by rcases hgg with e | e <;> omega
  refine ⟨?_, o1.heap h.hr (fun e => h.n2.1 e.symm), o1.heap h.hs (fun e => h.n2.2.1 e.symm), o1.heap h.hd (fun e => h.n2.2.2 e.symm), own_off h.ho o1 (fun k hk e => ?_), ?_, ⟨h.n1.1, h.n1.2.1, h.n1.2.2.1, fun e => hne ob hob.2 (fun e => h.n1.2.2.2 e.symm) e.symm⟩, ⟨hne _ (hlt _ _ h.hr) h.n2.1, hne _ (hlt _ _ h.hs) h.n2.2.1, hne _ (hlt _ _ h.hd) h.n2.2.2⟩, h.n3⟩
  · exact h.fr.trans (o1.toBelow h.fr.size fun b e => by rw [e]; exact hlb.1)
  · simp [Value.ownBlock] at hk; exact h.n1.2.2.2 (by omega)
  · rw [List.length_append, iv_app]; exact hown
theorem TSt.newL (h : TSt w wr RC rb sb ob ocap lb lcap db s t out l) : TSt w (wr.alloc (.cells #[] 3)) RC rb sb ob ocap wr.heap.size 0 db s t out [] := by
  have h2 := h.below ((Below.refl wr.heap.size wr).alloc (Nat.le_refl _) (.cells #[] 3))
  have hlt := fun (b : Nat) (ob' : Obj) (hh : wr.heap[b]? = some ob') => heap_lt' hh
  have a1 := hlt _ _ h.hr
  have a2 := hlt _ _ h.hs
  have a3 := hlt _ _ h.hd
  have a4 := (h.ho.lt ob rfl).2
  exact ⟨h2.fr, h2.hr, h2.hs, h2.hd, h2.ho, World.ownsRow_made wr #[] 0 h.fr.size (by decide) rfl, ⟨h.n1.1, h.n1.2.1, h.n1.2.2.1, by omega⟩, ⟨by omega, by omega, by omega⟩, h.n3⟩
theorem TSt.newD (h : TSt w wr RC rb sb ob ocap lb lcap db s t out l) : TSt w (wr.alloc (.cells (dcells t) 109)) RC rb sb ob ocap lb lcap wr.heap.size s t out l := by
  have h2 := h.below ((Below.refl wr.heap.size wr).alloc (Nat.le_refl _) (.cells (dcells t) 109))
  have a4 := (h.ho.lt ob rfl).2
  have a5 := (h.hl.lt lb rfl).2
  exact ⟨h2.fr, h2.hr, h2.hs, heap_alloc_new _ _, h2.ho, h2.hl, ⟨h.n1.1, h.n1.2.1, by omega, h.n1.2.2.2⟩, ⟨h.n2.1, h.n2.2.1, by omega⟩, h.fr.size⟩
theorem TSt.setD (h : TSt w wr RC rb sb ob ocap lb lcap db s t out l) (hdr : db ≠ rb) (hds : db ≠ sb) (t' : Dt) : TSt w (chain5 wr db (.int .i64 t'.n) (.int .i64 t'.y) (.int .i64 t'.m) (.int .i64 t'.d) (.int .i64 t'.w)) RC rb sb ob ocap lb lcap db s t' out l := by
  have o1 : Off (fun b => b = db) wr (chain5 wr db (.int .i64 t'.n) (.int .i64 t'.y) (.int .i64 t'.m) (.int .i64 t'.d) (.int .i64 t'.w)) :=
    (((((Off.refl (fun b => b = db) wr).setCell (b := db) (.inl rfl) _).setCell (b := db) (.inl rfl) _).setCell (b := db) (.inl rfl) _).setCell (b := db) (.inl rfl) _).setCell (b := db) (.inl rfl) _
  refine ⟨?_, o1.heap h.hr (fun e => hdr e.symm), o1.heap h.hs (fun e => hds e.symm), chain5_blk h.hd _ _ _ _ _, own_off h.ho o1 (fun k hk e => ?_), own_off h.hl o1 (fun k hk e => ?_), h.n1, h.n2, h.n3⟩
  · exact h.fr.trans (o1.toBelow h.fr.size fun b e => by rw [e]; exact h.n3)
  · simp [Value.ownBlock] at hk; exact h.n1.2.2.1 (by omega)
  · simp [Value.ownBlock] at hk; exact h.n2.2.2 (by omega)
end
end Go.Proofs.YtfjmofefciopmaaGreat
end
