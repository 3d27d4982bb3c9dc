import Derived.Test.YtibnbpiachdmdaaZNF
import Derived.Deep.RegionWith
import Derived.Lib.SliceRun
import Derived.Test.YtibnbpiachdmdaaZSP4
/- Contracts of the program's streams: one is made of others. -/
section
namespace Go.Proofs.Ytibnbpiachdmdaa
open Go.ChangeShapes Go.WideShapes Go.ChangeAt Go.RowKit Go.Joins Sp
theorem sptr_info : (Try.prog.info? 32).map (fun i => (i.zero, i.size, i.bytes)) = some (some (.pointer none), 1, 8) := by kernel_rfl
/-- A copy of a row of streams: it lies where nothing lay. -/
def ClnRet (ps : List Value) (w : World) (e : Ending) (w' : World) : Prop := ∃ A d, e = .returned (.slice A ps.length d) ∧ Sl w' A ps.length d ps ∧ (∀ a, A = some a → w.heap.size ≤ a.block ∧ a.block < w'.heap.size) ∧ Below w.heap.size w w'
set_option maxHeartbeats 1000000 in
theorem pclone14_any (ps : List Value) (A : Option Addr) (d : Nat) (hl : ps.length ≤ 1000000) (h1 : ∀ u ∈ ps, u.oneCell' = true) (w : World) (hs : Sl w A ps.length d ps) :
    Calls Try.prog 25 #[.slice A ps.length d] w (ClnRet ps w) := by
  have hnil : ∀ (w' : World) (A' : Option Addr) (n' c' : Nat), (binOp .eql 52 (.slice A' n' c') (.slice none 0 0)).run Try.prog w' = .ok (.bool A'.isNone) w' := fun w' A' n' c' => Lib.run_eql_slice_nil w' 52 32 A' n' c' 0 0 Try.underlying52
  cases A with
  | none =>
    have h0 : ps = [] := List.eq_nil_of_length_eq_zero (by have := hs.nil rfl; have := hs.le; omega)
    subst h0
    go_enter Try.func25, Try.ntmps25
    go_wp2
    go_ret
    exact ⟨none, 0, rfl, Sl.none_ w, fun a h => by (cases h), Below.refl _ _⟩
  | some a =>
    have H := Lib.hid hs
    clear hs
    obtain ⟨i0, hi0, hq0, hq1, hq2⟩ := info_parts sptr_info
    have H1 := Lib.hid h1
    have hmx : 0 + ps.length ≤ maxLen := by unfold maxLen; omega
    clear h1
    go_enter Try.func25, Try.ntmps25
    go_wp2_with (refine wpList_append_sl rfl _ _ _ (by rfl) w.heap.size 32 i0 _ 1 8 Try.underlying52 hi0 hq0 hq1 hq2 rfl (by decide) (.slice (some ⟨w.heap.size, 0, none⟩) 0 0) 0 [] (by rfl) (World.ownsRow_made (base := w.heap.size) w #[] 0 (Nat.le_refl _) (by decide) rfl) (some a) ps.length d ps (by rfl) (H.out.alloc _) (by simp) H1.out hmx (by omega) (by simp) ?_; intro v' w' hown hgr)
    rw [Nat.zero_add, List.nil_append] at hown
    go_ret
    have hb : Below w.heap.size w w' := ⟨hgr.os, hgr.tape, hgr.output, by have := hgr.size; simp at this; omega, fun k hk => by rw [hgr.block k (by simp; omega) (by simp [Value.ownBlock]; omega)]; exact Below.heap_alloc _ _ _ hk⟩
    obtain ⟨A2, c2, rfl, hs2⟩ := Sl.of_own hown
    refine ⟨A2, c2, rfl, hs2, fun a2 e => ?_, hb⟩
    subst e
    have hob : (Value.slice (some a2) ps.length c2).ownBlock = some a2.block := by simp [Value.ownBlock]
    exact ⟨own_geq hown hob, own_lt hown hob⟩
/-- What stands in a stream that was just made. -/
def ob0 (kd lo hi : Int) (A : Option Addr) (n d : Nat) : Ob := ⟨kd, lo, hi, false, -9223372036854775808, A, n, d, .pointer none, -9223372036854775808, -9223372036854775808, none, 0, 0, 0, 0, 0, -9223372036854775808⟩
def MadeRet (kd lo hi : Int) (ps : List Value) (w : World) (e : Ending) (w' : World) : Prop :=
  ∃ b A d, e = .returned (.pointer (some ⟨b, 0, none⟩)) ∧ w'.heap[b]? = some (.cells (ob0 kd lo hi A ps.length d).cs 54 (0, 0)) ∧ Sl w' A ps.length d ps ∧ (∀ a, A = some a → a.block ≠ b ∧ w.heap.size ≤ a.block ∧ a.block < w'.heap.size) ∧ w.heap.size ≤ b ∧ Below w.heap.size w w'
set_option maxHeartbeats 4000000 in
theorem pmade_any (kd lo hi : Int) (ps : List Value) (A : Option Addr) (d : Nat) (hl : ps.length ≤ 1000000) (h1 : ∀ u ∈ ps, u.oneCell' = true) (w : World) (hs : Sl w A ps.length d ps) :
    Calls Try.prog 18 #[.int .i64 kd, .agg #[.int .i64 lo, .int .i64 hi], .slice A ps.length d] w (MadeRet kd lo hi ps w) := by
  obtain ⟨W1, hW1⟩ : ∃ W1, w.alloc (.cells #[.int .i64 lo, .int .i64 hi] 26) = W1 := ⟨_, rfl⟩
  have hb1 : Below w.heap.size w W1 := by rw [← hW1]; exact (Below.refl _ w).alloc (Nat.le_refl _) _
  have hbx : W1.heap[w.heap.size]? = some (.cells #[.int .i64 lo, .int .i64 hi] 26 (0, 0)) := by rw [← hW1]; exact heap_alloc_new _ _
  have HX : Hid (∀ g : Gr W1, g.val.cell? ⟨w.heap.size, 0, none⟩ = some (.int .i64 lo) ∧ g.val.cell? ⟨w.heap.size, 1, none⟩ = some (.int .i64 hi)) := fun g => ⟨blk_cell (blk_below hbx g.ok) rfl, blk_cell (blk_below hbx g.ok) rfl⟩
  have HC := Lib.hid (fun g : Gr W1 => pclone14_any ps A d hl h1 g.val (hs.below (hb1.trans (g.ok.mono hb1.size)) (Nat.le_refl _)))
  have HB1 := Lib.hid hb1
  obtain ⟨c0, c1⟩ := HX.out ⟨W1, Below.refl _ _⟩
  obtain ⟨e0, e1⟩ := HX.out ⟨W1.drew, (Below.refl _ _).drew⟩
  clear hs hb1 hbx h1
  go_enter Try.func18, Try.ntmps18
  go_wp2_with fail
  go_region_with (go_at_call 25; refine (HC.out ⟨_, (Below.refl _ _).drew⟩).mono ?_; rintro e w' ⟨A', d', rfl, hs', hA', hb'⟩; obtain ⟨f0, f1⟩ := HX.out ⟨w', ((Below.refl _ _).drew).trans (hb'.mono (Nat.le_refl _))⟩)
  all_goals
    have HB2 : Hid (Below w.heap.size w w') := HB1.out.trans (((Below.refl _ W1).drew.trans (hb'.mono (Nat.le_refl _))).mono HB1.out.size)
    have HS := Lib.hid hs'
    have HA : Hid (∀ a : Addr, A' = some a → w.heap.size ≤ a.block ∧ a.block < w'.heap.size) := fun a e => ⟨Nat.le_trans HB1.out.size (hA' a e).1, (hA' a e).2⟩
    clear hb' hs' hA'
    go_wp2_with fail
    go_ret
    exact ⟨w'.heap.size, A', d', rfl, heap_alloc_new w' _, HS.out.alloc _, fun a e => ⟨Nat.ne_of_lt (HA.out a e).2, (HA.out a e).1, by simp; have := (HA.out a e).2; omega⟩, HB2.out.size, HB2.out.alloc HB2.out.size _⟩
end Go.Proofs.Ytibnbpiachdmdaa
end
/- Contracts of the program's streams: gaps; what a stream of others is, once it was made. -/
section
namespace Go.Proofs.Ytibnbpiachdmdaa
open Go.ChangeShapes Go.WideShapes Go.ChangeAt Go.RowKit Go.Joins Sp
/-- Blocks of a stream that was just made of others. -/
def NewF (w w' : World) (m : Nat) (F : Nat → Nat → Prop) (x : Nat) : Prop := (∃ i, i < m ∧ F i x) ∨ (w.heap.size ≤ x ∧ x < w'.heap.size)
theorem kids_of {w w' : World} {c : Value} {b : Nat} {A : Option Addr} {d : Nat} {ps : List Value} {ls : List (List Spn)} {ns : List Nat} {F : Nat → Nat → Prop} (hl : ls.length = ps.length) (hn : ns.length = ps.length)
    (hst : ∀ i p L n, ps[i]? = some p → ls[i]? = some L → ns[i]? = some n → StL w c p L n (F i)) (hdis : ∀ i j b, F i b → F j b → i = j) (hs : Sl w' A ps.length d ps) (hA : ∀ a, A = some a → a.block ≠ b ∧ w.heap.size ≤ a.block ∧ a.block < w'.heap.size) (hb : w.heap.size ≤ b) (hbe : Below w.heap.size w w') :
    ∃ lv, Kids (Rof (Lv c lv)) w' b A ps.length d ps (fun i x => has (ls.getD i []) x) (-9223372036854775808) ns.sum (NewF w w' ps.length F) := by
  have ho : Off (fun _ => False) w w' := .of_below hbe
  have hall : ∀ i p, ps[i]? = some p → StL w' c p (ls.getD i []) (ns.getD i 0) (F i) := fun i p hp => by
    have hi := (List.getElem?_eq_some_iff.1 hp).1
    have h1 : ls[i]? = some (ls.getD i []) := by rw [List.getD_eq_getElem?_getD, List.getElem?_eq_getElem (by omega)]; rfl
    have h2 : ns[i]? = some (ns.getD i 0) := by rw [List.getD_eq_getElem?_getD, List.getElem?_eq_getElem (by omega)]; rfl
    exact (hst i p _ _ hp h1 h2).off ho fun _ _ => id
  have hlt : ∀ i x, i < ps.length → F i x → x < w.heap.size := fun i x hi hx => by
    have h1 : ls[i]? = some (ls.getD i []) := by rw [List.getD_eq_getElem?_getD, List.getElem?_eq_getElem (by omega)]; rfl
    have h2 : ns[i]? = some (ns.getD i 0) := by rw [List.getD_eq_getElem?_getD, List.getElem?_eq_getElem (by omega)]; rfl
    exact (hst i _ _ _ (List.getElem?_eq_getElem hi) h1 h2).lt x hx
  obtain ⟨lv, hlv⟩ := levels (P := fun d i => ∀ p, ps[i]? = some p → ∃ lo hi, Lv c d w' p (fun x => has (ls.getD i []) x) lo hi (-9223372036854775808) (ns.getD i 0) (F i)) (fun i d e hde h p hp => by
    obtain ⟨lo, hi, h⟩ := h p hp
    exact ⟨lo, hi, Lv.up c hde h⟩) ps.length (fun i hi => by
      obtain ⟨_, _, d, lo, hi', h⟩ := hall i _ (List.getElem?_eq_getElem hi)
      exact ⟨d, fun p hp => by
        rw [List.getElem?_eq_getElem hi] at hp
        obtain rfl := Option.some.inj hp
        exact ⟨lo, hi', h⟩⟩)
  refine ⟨lv, hs, rfl, fun a e => ⟨(hA a e).1, .inr ⟨(hA a e).2.1, (hA a e).2.2⟩⟩, fun i x hi hx => ?_, fun i => ns.getD i 0, F, ⟨fun i p hp => hlv i (List.getElem?_eq_some_iff.1 hp).1 p hp, fun i hi hx => ?_, fun i a hi e hx => ?_, fun i x hi hx => .inl ⟨i, hi, hx⟩, fun i j x _ _ h1 h2 => hdis i j x h1 h2⟩, ?_⟩
  · obtain ⟨hf, h64, d, lo, hi', h⟩ := hall i _ (List.getElem?_eq_getElem hi)
    obtain ⟨s, hs, s1, s2⟩ := hx
    have := h64 s hs
    omega
  · have := hlt i b hi hx; omega
  · have := hlt i _ hi hx; have := (hA a e).2.1; omega
  · rw [← hn, sumTo_list]; exact Nat.le_refl _
/-- A stream of others, once its parts stand in memory. -/
theorem StL.of_node {w w' : World} {c : Value} {b : Nat} {o : Ob} {K : Int → Prop} {L : List Spn} {lv n m : Nat} {F : Nat → Nat → Prop} (hw : Below w.heap.size w w') (hF : ∀ i x, i < m → F i x → x < w.heap.size) (hb : w'.heap[b]? = some (.cells o.cs 54 (0, 0))) (hbn : w.heap.size ≤ b) (hok : o.Ok) (hu : o.unt = -9223372036854775808)
    (hf : form L) (h64 : In64 L) (his : ∀ x, has L x ↔ o.lo ≤ x ∧ x < o.hi ∧ K x) (hk : Kd (Rof (Lv c lv)) w' b o c K (-9223372036854775808) n (NewF w w' m F)) : StL w' c (.pointer (some ⟨b, 0, none⟩)) L n (NewF w w' m F) := by
  refine ⟨hf, h64, lv + 1, o.lo, o.hi, .inr ⟨b, o, K, rfl, rfl, rfl, hb, .inr ⟨hbn, heap_lt hb⟩, fun x hx => ?_, hok, his, fun x hx hx2 => by omega, hk.qm (Lv.kg c lv) (by omega)⟩⟩
  rcases hx with ⟨i, hi, hx⟩ | hx
  · exact Nat.lt_of_lt_of_le (hF i x hi hx) hw.size
  · exact hx.2
theorem ob0_ok {kd lo hi : Int} {A : Option Addr} {n d : Nat} (h1 : Int64P lo) (h2 : Int64P hi) : (ob0 kd lo hi A n d).Ok := by
  refine ⟨h1, h2, ?_, ?_, ?_, ?_, ?_, ?_, ?_⟩ <;> (simp only [ob0, Int64P]; omega)
/-- Where a stream's minutes may lie. -/
theorem StL.roomOf {w : World} {c p : Value} {L : List Spn} {n : Nat} {F : Nat → Prop} (h : StL w c p L n F) : ∃ lo hi, Int64P lo ∧ Int64P hi ∧ (∀ x, has L x → lo ≤ x ∧ x < hi) ∧
    ∀ g : Gr w, Calls Try.prog 23 #[p] g.val fun e w' => e = .returned (.agg #[.int .i64 lo, .int .i64 hi]) ∧ Below g.val.heap.size g.val w' := by
  obtain ⟨h1, h2, d, lo, hi, h⟩ := h
  obtain ⟨R, g, _, hR⟩ := Lv.node' c d
  have h := hR.1 h
  obtain ⟨r1, r2, r3⟩ := h.room
  exact ⟨lo, hi, r1, r2, r3, fun gr => proomOf_any c p _ lo hi _ n F gr.val (h.off g (.of_below gr.ok) (G := fun _ => False) fun _ _ => id)⟩
theorem one_disj {F : Nat → Prop} : ∀ i j b, (fun i x => i = 0 ∧ F x) i b → (fun i x => i = 0 ∧ F x) j b → i = j := fun _ _ _ h1 h2 => h1.1.trans h2.1.symm
/-- .. of one other. -/
theorem kid_of {w w' : World} {c p : Value} {b : Nat} {A : Option Addr} {d : Nat} {L : List Spn} {n : Nat} {F : Nat → Prop} (hst : StL w c p L n F) (hs : Sl w' A 1 d [p]) (hA : ∀ a, A = some a → a.block ≠ b ∧ w.heap.size ≤ a.block ∧ a.block < w'.heap.size) (hb : w.heap.size ≤ b) (hbe : Below w.heap.size w w') :
    ∃ lv, Kids (Rof (Lv c lv)) w' b A 1 d [p] (fun _ x => has L x) (-9223372036854775808) n (NewF w w' 1 fun i x => i = 0 ∧ F x) := by
  obtain ⟨lv, hk⟩ := kids_of (w := w) (w' := w') (c := c) (b := b) (A := A) (d := d) (ps := [p]) (ls := [L]) (ns := [n]) (F := fun i x => i = 0 ∧ F x) rfl rfl (fun i p' L' n' h1 h2 h3 => by
    have hi : i = 0 := by have := (List.getElem?_eq_some_iff.1 h1).1; simp at this; exact this
    subst hi
    obtain rfl : p = p' := by simpa using h1
    obtain rfl : L = L' := by simpa using h2
    obtain rfl : n = n' := by simpa using h3
    obtain ⟨a1, a2, d, lo, hi, h⟩ := hst
    refine ⟨a1, a2, d, lo, hi, ?_⟩
    obtain ⟨R, g, _, hR⟩ := Lv.node' c d
    exact hR.2 ((hR.1 h).wider (fun k hk => ⟨rfl, hk⟩) fun k hk => (hR.1 h).lt k hk.2)) one_disj hs hA hb hbe
  refine ⟨lv, ⟨hk.sl, hk.bn, hk.blk, fun i x hi hx => ?_, ?_⟩⟩
  · have hi0 : i = 0 := by simpa using hi
    subst hi0
    exact hk.bd 0 x (by simp) hx
  · obtain ⟨ns, Fs, h1, h2⟩ := hk.kids
    refine ⟨ns, Fs, ⟨fun i p' hi => ?_, h1.own, h1.row, h1.in_, h1.apart⟩, by simpa using h2⟩
    have hi0 : i = 0 := by have := (List.getElem?_eq_some_iff.1 hi).1; simpa using this
    subst hi0
    exact h1.kid 0 p' hi
/-- A stream of another one was made. -/
def MkRet (c : Value) (L : List Spn) (n m : Nat) (F : Nat → Nat → Prop) (w : World) (e : Ending) (w' : World) : Prop := ∃ p, e = .returned p ∧ StL w' c p L n (NewF w w' m F) ∧ Below w.heap.size w w'
end Go.Proofs.Ytibnbpiachdmdaa
end
/- Contracts of the program's streams: a stream of a row; of many others. -/
section
namespace Go.Proofs.Ytibnbpiachdmdaa
open Go.ChangeShapes Go.WideShapes Go.ChangeAt Go.RowKit Go.Joins Sp
set_option maxRecDepth 100000 in
set_option maxHeartbeats 4000000 in
theorem prow14_any (w : World) (c : Value) (k : Nat) (C : Nat → Prop) (l : List Spn) (A : Option Addr) (d : Nat) (hl : l.length ≤ 1000) (hi : In64 l) (hc : CtAt w c k C) (hs : Sl w A l.length d (sv l)) :
    Calls Try.prog 11 #[c, .slice A l.length d] w (MkRet c (formL l) (l.length + 1) 0 (fun _ _ => False) w) := by
  have HM := Lib.hid (pmade_any 0 (-9223372036854775808) 9223372036854775807 [] none 0 (by simp) (by simp) w (Sl.none_ w))
  obtain ⟨ca, rfl⟩ : ∃ a, c = .pointer a := by
    rcases hc.2 with ⟨e, _⟩ | ⟨b', e, _⟩
    · exact ⟨_, e⟩
    · exact ⟨_, e⟩
  have HF : Hid (∀ w1, Below w.heap.size w w1 → Calls Try.prog 19 #[.slice A l.length d] w1 (RetO (formL l) w1)) := fun w1 hb => pform13_any l A d w1 (by omega) (hs.below hb (Nat.le_refl _))
  have HI := Lib.hid hi
  clear hc hs hi
  go_enter Try.func11, Try.ntmps11
  go_wp2_with fail
  go_at_call 18
  refine HM.out.mono ?_
  rintro e w1 ⟨b, A1, d1, rfl, hb, hs1, hA1, hbn, hbe⟩
  have HFM := Lib.hid (HF.out w1 hbe)
  have HB := Lib.hid hb
  have HBN := Lib.hid hbn
  have HBE := Lib.hid hbe
  clear hb hs1 hA1 hbn hbe
  go_wp2_with fail
  go_at_call 19
  refine HFM.out.mono ?_
  rintro e w2 ⟨v, rfl, how, hb2⟩
  have HOW := Lib.hid how
  obtain ⟨A2, d2, rfl, hs2⟩ := Sl.of_own how
  have hk2 := blk_below HB.out hb2
  have c5 : _ = some (Value.pointer none) := blk_cell hk2 (i := 6) rfl
  have cf := blk_free hk2
  have hk3 := block_setCell hk2 (i := 6) (.pointer ca)
  have c9 : _ = some (Value.slice none 0 0) := blk_cell hk3 (i := 9) rfl
  have cf3 := blk_free hk3
  have hk4 := block_setCell hk3 (i := 9) (.slice A2 (formL l).length d2)
  have ho : Off (fun x => x = b) w2 ((w2.setCell ⟨b, 6, none⟩ (.pointer ca)).setCell ⟨b, 9, none⟩ (.slice A2 (formL l).length d2)) := ((Off.refl (fun x => x = b) w2).setCell (b := b) (.inl rfl) _).setCell (b := b) (.inl rfl) _
  have hab : ∀ a, A2 = some a → a.block ≠ b ∧ w.heap.size ≤ a.block ∧ a.block < w2.heap.size := fun a e => by
    subst e
    have hob : (Value.slice (some a) (formL l).length d2).ownBlock = some a.block := by simp [Value.ownBlock]
    have h1 := own_geq how hob
    have h2 := own_lt how hob
    have h3 := heap_lt HB.out
    have h4 := HBE.out.size
    exact ⟨by omega, by omega, h2⟩
  have hbt : Below w.heap.size w ((w2.setCell ⟨b, 6, none⟩ (.pointer ca)).setCell ⟨b, 9, none⟩ (.slice A2 (formL l).length d2)) :=
    (((HBE.out.trans (hb2.mono HBE.out.size)).setCell (p := ⟨b, 6, none⟩) HBN.out _).setCell (p := ⟨b, 9, none⟩) HBN.out _)
  have HR : Hid (MkRet (.pointer ca) (formL l) (l.length + 1) 0 (fun _ _ => False) w (.returned (.pointer (some ⟨b, 0, none⟩))) ((w2.setCell ⟨b, 6, none⟩ (.pointer ca)).setCell ⟨b, 9, none⟩ (.slice A2 (formL l).length d2))) := by
    have hff := formL_form l
    have hf64 := HI.out.form
    refine ⟨_, rfl, StL.of_node (o := { ob0 0 (-9223372036854775808) 9223372036854775807 A1 0 d1 with ct := .pointer ca, ra := A2, rn := (formL l).length, rc := d2 }) (K := fun x => has (formL l) x) (lv := 0) hbt (fun i x hi _ => by omega) hk4 HBN.out ?_ rfl hff hf64 (fun x => ?_) (.row (formL l) rfl rfl (sl_off hs2 ho fun a e => (hab a e).1) rfl hff hf64 (fun a e => ⟨(hab a e).1, .inr ⟨(hab a e).2.1, Nat.lt_of_lt_of_le (hab a e).2.2 ho.size⟩⟩) (fun _ _ => Iff.rfl) (.inl ⟨rfl, rfl, ?_⟩)), hbt⟩
    · have h := ob0_ok (kd := 0) (lo := -9223372036854775808) (hi := 9223372036854775807) (A := A1) (n := 0) (d := d1) (by unfold Int64P; omega) (by unfold Int64P; omega)
      exact ⟨h.lo, h.hi, h.unt, h.h1, h.h2, h.ah, h.be, h.lg, h.gn⟩
    · refine ⟨fun h => ?_, fun h => h.2.2⟩
      obtain ⟨s, hs, s1, s2⟩ := h
      have := hf64 s hs
      refine ⟨?_, ?_, s, hs, s1, s2⟩
      · show (-9223372036854775808 : Int) ≤ x; omega
      · show x < (9223372036854775807 : Int); omega
    · have := form_len l; omega
  clear how hs2 hk2 hk3 hk4 ho hab hbt hb2
  go_wp2_with fail
  go_ret
  exact HR.out
/-- What is known of streams that another one is made of. -/
structure Strs (w : World) (c : Value) (ps : List Value) (ls : List (List Spn)) (ns : List Nat) (F : Nat → Nat → Prop) (A : Option Addr) (d : Nat) : Prop where
  lp : ps.length ≤ 1000
  ll : ls.length = ps.length
  ln : ns.length = ps.length
  st : ∀ i p L n, ps[i]? = some p → ls[i]? = some L → ns[i]? = some n → StL w c p L n (F i)
  ap : ∀ i j b, F i b → F j b → i = j
  sl : Sl w A ps.length d ps
theorem Strs.at_ {w : World} {c : Value} {ps : List Value} {ls : List (List Spn)} {ns : List Nat} {F : Nat → Nat → Prop} {A : Option Addr} {d : Nat} (h : Strs w c ps ls ns F A d) {i : Nat} (hi : i < ps.length) : ∃ p L n, ps[i]? = some p ∧ ls[i]? = some L ∧ ls.getD i [] = L ∧ StL w c p L n (F i) := by
  have h1 := List.getElem?_eq_getElem hi
  have h2 := List.getElem?_eq_getElem (show i < ls.length by have := h.ll; omega)
  have h3 := List.getElem?_eq_getElem (show i < ns.length by have := h.ln; omega)
  exact ⟨_, _, _, h1, h2, by rw [List.getD_eq_getElem?_getD, h2]; rfl, h.st i _ _ _ h1 h2 h3⟩
end Go.Proofs.Ytibnbpiachdmdaa
end
