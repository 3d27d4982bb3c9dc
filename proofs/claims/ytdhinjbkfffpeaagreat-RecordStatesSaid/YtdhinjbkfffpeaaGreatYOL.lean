import Derived.Test.YtdhinjbkfffpeaaGreatYRP7r
import Derived.Test.YtdhinjbkfffpeaaGreatYBlk2
import Derived.Test.YtdhinjbkfffpeaaGreatYRHf
import Derived.BigRegion
import Derived.Deep.CutRange
import Derived.Test.YtdhinjbkfffpeaaGreatYOK
/- Contracts of the program's pass: events. -/
section
namespace Go.Proofs.YtdhinjbkfffpeaaGreat
open Go.ChangeShapes Go.WideShapes Go.ChangeAt Go.RowKit Go.Joins Sp Fr Pk
def OwnK (F K : Nat → Prop) (w : World) (p : World → Prop) : Prop := ∀ V, Off (fun k => F k ∨ K k) w V → p V
section
variable {w w' : World} {P s R : Nat} {m : Md} {b : Bool} {F F1 K : Nat → Prop} {p : World → Prop}
theorem OwnK.step (h : OwnK F K w p) (k : PsTo w w' P m b F F1) : OwnK F1 K w' p := fun V hV =>
 h V ⟨hV.os.trans k.off.os, hV.tape.trans k.off.tape, hV.output.trans k.off.output, Nat.le_trans k.off.size hV.size, fun j hj hn =>
  (hV.block j (Nat.lt_of_lt_of_le hj k.off.size) fun hq => hq.elim (fun q => (k.new j q).elim (fun q => hn (.inl q)) fun q => by omega) fun q => hn (.inr q)).trans (k.off.block j hj fun q => hn (.inl q))⟩
theorem Own.toK (h : Own F s w p) (hK : ∀ k, K k → k < s) : OwnK F K w p := fun V hV => h V (hV.mono fun k _ hk => hk.imp id (hK k))
theorem OwnK.store (h : OwnK F K w p) (hR : K R) (o : Nat) (vs : List Value) : OwnK F K (w.setCells R o vs) p := fun V hV => h V (((off_setCells vs o w).mono fun _k _ hk => .inr (hk ▸ hR)).trans' hV)
theorem OwnK.own (h : OwnK F K w p) (hs : ∀ k, k < s → K k) : Own F s w p := fun V hV => h V (hV.mono fun k _ hk => hk.imp id (hs k))
theorem OwnK.told {m' : Md} {b' : Bool} {Y Z : World → Prop} (h : OwnK F K w Y) (k : PsTo w w' P m' b' F F1) (hZ : Own F1 w.heap.size w' Z) (hK : ∀ j, K j → j < w.heap.size) : OwnK F1 K w' (fun V => Y V ∧ Z V) := fun V hV => ⟨(h.step k) V hV, (hZ.toK hK) V hV⟩
theorem OwnK.const {q : Prop} (h : q) : OwnK F K w (fun _ => q) := fun _ _ => h
end
structure Sq (W w : World) (P : Nat) (m : Md) (b : Bool) (F0 F : Nat → Prop) (C : Nat) (Y : World → Prop) : Prop where
 tt : PsTo W w P m b F0 F
 y : OwnK F (fun k => k < W.heap.size ∨ k = C) w Y
section
variable {W w w' : World} {P C : Nat} {m m' : Md} {b b' : Bool} {F0 F F' : Nat → Prop} {Y Z : World → Prop}
theorem Sq.tel (h : Sq W w P m b F0 F C Y) (k : PsTo w w' P m' b' F F') : Sq W w' P m' b' F0 F' C Y := ⟨h.tt.trans k, h.y.step k⟩
theorem Sq.told (h : Sq W w P m b F0 F C Y) (k : PsTo w w' P m' b' F F') (hZ : Own F' w.heap.size w' Z) (hs : C < w.heap.size) : Sq W w' P m' b' F0 F' C (fun V => Y V ∧ Z V) :=
 ⟨h.tt.trans k, fun V hV => ⟨(h.y.step k) V hV, (hZ.toK fun _j hj => hj.elim (fun q => Nat.lt_of_lt_of_le q h.tt.off.size) fun q => q ▸ hs) V hV⟩⟩
theorem Sq.store (h : Sq W w P m b F0 F C Y) (h1 : W.heap.size ≤ C) (h2 : ¬ F C) (o : Nat) (vs : List Value) : Sq W (w.setCells C o vs) P m b F0 F C Y := ⟨h.tt.store h1 h2 o vs, h.y.store (.inr rfl) o vs⟩
theorem Sq.set (h : Sq W w P m b F0 F C Y) (h1 : W.heap.size ≤ C) (h2 : ¬ F C) (o : Nat) (v : Value) : Sq W (w.setCell ⟨C, o, none⟩ v) P m b F0 F C Y := h.store h1 h2 o [v]
end
def rdM {α β : Type} (f : α → β) (rd : Rd → α × Rd) (r : Rd) : β × Rd := (f (rd r).1, (rd r).2)
section
variable {α β γ δ : Type}
theorem rdP_mapL (f : α → β) (a : Rd → α × Rd) (c : Rd → γ × Rd) : rdP (rdM f a) c = rdM (fun x : α × γ => (f x.1, x.2)) (rdP a c) := rfl
theorem rdP_mapR (f : α → β) (c : Rd → γ × Rd) (a : Rd → α × Rd) : rdP c (rdM f a) = rdM (fun x : γ × α => (x.1, f x.2)) (rdP c a) := rfl
theorem rdP_assoc (a : Rd → α × Rd) (b : Rd → β × Rd) (c : Rd → γ × Rd) : rdP (rdP a b) c = rdM (fun x : α × β × γ => ((x.1, x.2.1), x.2.2)) (rdP a (rdP b c)) := rfl
theorem rdM_rdM (f : α → β) (g : β → γ) (a : Rd → α × Rd) : rdM g (rdM f a) = rdM (fun x => g (f x)) a := rfl
end
structure Hd (W1 wx : World) (P : Nat) (m2 : Md) (b2 : Bool) (F F2 : Nat → Prop) (C : Nat) (cs : Array Value) (T : TypeId) : Prop where
 tt : PsTo W1 wx P m2 b2 F F2
 blk : wx.heap[C]? = some (.cells cs T (0, 0))
 nC : ¬ F2 C
 le : W1.heap.size ≤ C
theorem St.alloc {W w : World} {P : Nat} {m : Md} {b : Bool} {F0 F : Nat → Prop} {X Y : World → Prop} (h : St W w P m b F0 F X Y) (o : Obj) : St W (w.alloc o) P m b F0 F X Y :=
 have hb : Below w.heap.size w (w.alloc o) := (Below.refl _ _).alloc (Nat.le_refl _) _
 ⟨h.to.below hb, h.x.below hb, h.y.below hb⟩
def cdEvH : Cd (Int × Int × Bool) := cdSig.pair ((cdInt 10080).pair cdFlag)
def cdEvR : Cd (Qr.R × List Int × List Int × List (Int × Int × Int)) := cdRu.pair ((cdRow cdSig 50).pair ((cdRow cdSig 50).pair (cdRow cdCh 50)))
def evTail (x : Evt) : Nat := 10 + (cdRu.cost x.rule + ((cdRow cdSig 50).cost x.ex + ((cdRow cdSig 50).cost x.plus + ((cdRow cdCh 50).cost x.ch))))
def cdEvB (h : Int × Int × Bool) : Cd Evt := ⟨Evt.tail, fun e => (e.start, e.long, e.again) = h ∧ (e.again = true → e.rest.O) ∧ plainP e, rdEvB h, evTail, (cod_evb h).bad⟩
def cdEv : Cd Evt := ⟨Evt.T, fun e => e.O ∧ plainP e, rdEvt, fun x => cdSig.cost x.start + ((cdInt 10080).cost x.long + (cdFlag.cost x.again + evTail x)), cod_evt.bad⟩
theorem dn_ev {x y : Evt} {m m1 m2 : Md} {b b1 b2 : Bool} {h : Int × Int × Bool} (h1 : Dn cdEvH (x.start, x.long, x.again) m b h m1 b1) (h2 : Dn (cdEvB h) x m1 b1 y m2 b2) : Dn cdEv x m b y m2 b2 :=
 h1.two (d := cdEvB) (D := cdEv) h2 (fun _ e => e) (by show 10 + (10 + 10) + evTail x ≤ 10 + (10 + (10 + evTail x)); omega)
  (fun o => ⟨⟨o.1.1, o.1.2.1, trivial⟩, ⟨rfl, o.1.2.2, o.2⟩, rfl⟩) (fun _ => by show Evt.T x = _; simp only [Evt.T, cdEvH, Cd.pair, cdSig, cdInt, cdFlag, cdEvB, List.append_assoc]) rfl (fun r => by rw [show cdEvH.rd = rdEvH from rfl]; rfl)
theorem dn_evR {x : Evt} {a c : Int} {r : Qr.R} {l k : List Int} {g : List (Int × Int × Int)} {m m1 : Md} {b b1 : Bool} (h : Dn cdEvR (x.rule, x.ex, x.plus, x.ch) m b (r, l, k, g) m1 b1) : Dn (cdEvB (a, c, true)) x m b ⟨a, c, false, true, r, l, k, g⟩ m1 b1 := by
 refine h.conv (fun t => Evt.ofR (a, c, true) (t.1.freq, t.1.iv, t.1.count, t.1.until_, t.1.bm, t.1.bd, t.1.bw, t.1.bs, t.1.start, t.2.1, t.2.2.1, t.2.2.2)) (Nat.le_add_left _ _) (fun o => ?_) (fun o => ?_) rfl (fun rr => ?_)
 ·obtain ⟨o1, o2, o3⟩ := o
  obtain ⟨x1, x2, x3, x4, x5, x6, x7, x8⟩ := x
  simp only [Prod.mk.injEq] at o1
  obtain ⟨rfl, rfl, rfl⟩ := o1
  have q := o2 rfl
  have q3 := o3.1 rfl
  simp only at q3
  subst q3
  unfold Evt.rest EvR.O at q
  obtain ⟨q1, q2, q3, q4, q5, q6, q7, q8, q9, q10, q11, q12⟩ := q
  exact ⟨⟨⟨q1, q2, q3, q4, q5, q6, q7, q8, q9⟩, q10, q11, q12⟩, rfl⟩
 ·obtain ⟨o1, o2, o3⟩ := o
  have ha : x.again = true := by rw [Prod.mk.injEq, Prod.mk.injEq] at o1; exact o1.2.2
  show Evt.tail x = _
  unfold Evt.tail
  rw [if_pos ha]
  simp only [EvR.T, Evt.rest, cdEvR, Cd.pair, cdRu, RuT, cdRow, cdSig, cdCh, List.append_assoc]
 ·show rdEvB (a, c, true) rr = _
  unfold rdEvB
  rw [if_pos rfl, show cdEvR.rd = rdP (rdM Ru.of rdRuT) (rdP (rdRow 50 rdSig) (rdP (rdRow 50 rdSig) (rdRow 50 rdCh))) from rfl]
  unfold rdRuT
  simp only [rdP_mapL, rdP_assoc, rdP_mapR, rdM_rdM]
  show (Evt.ofR (a, c, true) (rdEvR rr).1, (rdEvR rr).2) = (_, (rdEvR rr).2)
  rw [Prod.mk.injEq]
  refine ⟨?_, rfl⟩
  unfold rdM
  show _ = _
  change Evt.ofR (a, c, true) (rdEvR rr).1 = _
  unfold rdEvR
  generalize rdP (rdI 4) _ rr = q
  rfl
theorem dn_evW {x : Evt} {a c : Int} {q : Bool} {m m1 : Md} {b b1 : Bool} (h : Dn cdFlag x.world m b q m1 b1) : Dn (cdEvB (a, c, false)) x m b ⟨a, c, q, false, zeroR, [], [], []⟩ m1 b1 := by
 refine h.conv (fun t => Evt.ofW (a, c, false) t) (Nat.le_add_right _ _) (fun o => ?_) (fun o => ?_) rfl (fun rr => ?_)
 ·obtain ⟨o1, o2, o3⟩ := o
  obtain ⟨x1, x2, x3, x4, x5, x6, x7, x8⟩ := x
  simp only [Prod.mk.injEq] at o1
  obtain ⟨rfl, rfl, rfl⟩ := o1
  obtain ⟨p1, p2, p3, p4⟩ := o3.2 rfl
  simp only at p1 p2 p3 p4
  have p2 := List.length_eq_zero_iff.1 p2
  have p3 := List.length_eq_zero_iff.1 p3
  have p4 := List.length_eq_zero_iff.1 p4
  subst p1 p2 p3 p4
  exact ⟨trivial, rfl⟩
 ·obtain ⟨o1, o2, o3⟩ := o
  have ha : ¬ x.again = true := by rw [Prod.mk.injEq, Prod.mk.injEq] at o1; rw [o1.2.2]; simp
  show Evt.tail x = _
  unfold Evt.tail
  rw [if_neg ha]; rfl
 ·show rdEvB (a, c, false) rr = _
  unfold rdEvB
  rw [if_neg (by simp)]
  rfl
theorem noEvt_atZ (w : World) (a c : Int) (q r : Bool) : EvAt w ⟨a, c, q, r, zeroR, [], [], []⟩ noEvP := ⟨⟨Sl.none_ _, Sl.none_ _, Sl.none_ _, Sl.none_ _⟩, Sl.none_ _, Sl.none_ _, Sl.none_ _⟩
set_option maxRecDepth 100000 in
set_option maxHeartbeats 4000000 in
theorem pevent_any (P : Nat) (x : Evt) (p : EvP) (hx : x.Fits) (m : Md) (b : Bool) (F : Nat → Prop) (w : World) (h : PsAt w P m b F) (hr : m.Room (cdEv.cost x)) (hz : m.Rd → x = noEvt) (hm : Held F w (fun V => EvAt V x p)) :
  Calls Tryz.prog 105 #[.pointer (some ⟨P, 0, none⟩), .agg (eCells x p).toArray] w (Told (fun (y : Evt) (q : EvP) => .agg (eCells y q).toArray) EvAt cdEv x P m b F w) := by
 show Calls Tryz.prog 105 #[.pointer (some ⟨P, 0, none⟩), .agg #[.int .i64 x.start, .int .i64 x.long, .bool x.world, .bool x.again, .int .i64 x.rule.freq, .int .i64 x.rule.iv, .int .i64 x.rule.count, .int .i64 x.rule.until_, .slice p.A1 x.rule.bm.length p.c1, .slice p.A2 x.rule.bd.length p.c2, .slice p.A3 x.rule.bw.length p.c3, .slice p.A4 x.rule.bs.length p.c4, .int .i64 x.rule.start, .slice p.A5 x.ex.length p.c5, .slice p.A6 x.plus.length p.c6, .slice p.A7 x.ch.length p.c7]] w _
 obtain ⟨W1, hW1⟩ : ∃ W1, ((w.alloc (.cells #[.int .i64 x.start, .int .i64 x.long, .bool x.world, .bool x.again, .int .i64 x.rule.freq, .int .i64 x.rule.iv, .int .i64 x.rule.count, .int .i64 x.rule.until_, .slice p.A1 x.rule.bm.length p.c1, .slice p.A2 x.rule.bd.length p.c2, .slice p.A3 x.rule.bw.length p.c3, .slice p.A4 x.rule.bs.length p.c4, .int .i64 x.rule.start, .slice p.A5 x.ex.length p.c5, .slice p.A6 x.plus.length p.c6, .slice p.A7 x.ch.length p.c7] 63)).alloc (.cells #[.int .i64 0, .int .i64 0, .bool false, .bool false, .int .i64 0, .int .i64 0, .int .i64 0, .int .i64 0, .slice none 0 0, .slice none 0 0, .slice none 0 0, .slice none 0 0, .int .i64 0, .slice none 0 0, .slice none 0 0, .slice none 0 0] 63)) = W1 := ⟨_, rfl⟩
 have HB : Hid (Below w.heap.size w W1) := by show Below _ _ _; rw [← hW1]; exact ((Below.refl _ _).alloc (Nat.le_refl _) _).alloc (by simp) _
 have hb1 : W1.heap[w.heap.size]? = some (.cells #[.int .i64 x.start, .int .i64 x.long, .bool x.world, .bool x.again, .int .i64 x.rule.freq, .int .i64 x.rule.iv, .int .i64 x.rule.count, .int .i64 x.rule.until_, .slice p.A1 x.rule.bm.length p.c1, .slice p.A2 x.rule.bd.length p.c2, .slice p.A3 x.rule.bw.length p.c3, .slice p.A4 x.rule.bs.length p.c4, .int .i64 x.rule.start, .slice p.A5 x.ex.length p.c5, .slice p.A6 x.plus.length p.c6, .slice p.A7 x.ch.length p.c7] 63 (0, 0)) := by rw [← hW1, heap_alloc_old _ _ (by simp), heap_alloc_new]
 have hb2 : W1.heap[w.heap.size + 1]? = some (.cells #[.int .i64 0, .int .i64 0, .bool false, .bool false, .int .i64 0, .int .i64 0, .int .i64 0, .int .i64 0, .slice none 0 0, .slice none 0 0, .slice none 0 0, .slice none 0 0, .int .i64 0, .slice none 0 0, .slice none 0 0, .slice none 0 0] 63 (0, 0)) := by rw [← hW1]; exact heap_alloc_new2 _ _ _
 have n1 : ¬ F w.heap.size := h.not (by omega)
 have n2 : ¬ F (w.heap.size + 1) := h.not (by omega)
 have HN2 : Hid (¬ F (w.heap.size + 1) ∧ w.heap.size + 1 < W1.heap.size) := ⟨n2, heap_lt hb2⟩
 have E1 := Lib.hid hW1
 obtain ⟨XB, hXB⟩ : ∃ X : World → Prop, X = fun V => V.heap[w.heap.size]? = some (.cells #[.int .i64 x.start, .int .i64 x.long, .bool x.world, .bool x.again, .int .i64 x.rule.freq, .int .i64 x.rule.iv, .int .i64 x.rule.count, .int .i64 x.rule.until_, .slice p.A1 x.rule.bm.length p.c1, .slice p.A2 x.rule.bd.length p.c2, .slice p.A3 x.rule.bw.length p.c3, .slice p.A4 x.rule.bs.length p.c4, .int .i64 x.rule.start, .slice p.A5 x.ex.length p.c5, .slice p.A6 x.plus.length p.c6, .slice p.A7 x.ch.length p.c7] 63 (0, 0)) := ⟨_, rfl⟩
 obtain ⟨X, hX⟩ : ∃ X : World → Prop, X = fun V => (XB V ∧ V.heap[w.heap.size + 1]? = some (.cells #[.int .i64 0, .int .i64 0, .bool false, .bool false, .int .i64 0, .int .i64 0, .int .i64 0, .int .i64 0, .slice none 0 0, .slice none 0 0, .slice none 0 0, .slice none 0 0, .int .i64 0, .slice none 0 0, .slice none 0 0, .slice none 0 0] 63 (0, 0))) ∧ EvAt V x p := ⟨_, rfl⟩
 have HZL : Hid (∀ V, XB V → V.cell? ⟨w.heap.size, 0, none⟩ = some (.int .i64 x.start) ∧ V.cell? ⟨w.heap.size, 1, none⟩ = some (.int .i64 x.long) ∧ V.cell? ⟨w.heap.size, 2, none⟩ = some (.bool x.world) ∧ V.cell? ⟨w.heap.size, 3, none⟩ = some (.bool x.again) ∧ V.cell? ⟨w.heap.size, 4, none⟩ = some (.int .i64 x.rule.freq) ∧ V.cell? ⟨w.heap.size, 5, none⟩ = some (.int .i64 x.rule.iv) ∧ V.cell? ⟨w.heap.size, 6, none⟩ = some (.int .i64 x.rule.count) ∧ V.cell? ⟨w.heap.size, 7, none⟩ = some (.int .i64 x.rule.until_) ∧ V.cell? ⟨w.heap.size, 8, none⟩ = some (.slice p.A1 x.rule.bm.length p.c1) ∧ V.cell? ⟨w.heap.size, 9, none⟩ = some (.slice p.A2 x.rule.bd.length p.c2) ∧ V.cell? ⟨w.heap.size, 10, none⟩ = some (.slice p.A3 x.rule.bw.length p.c3) ∧ V.cell? ⟨w.heap.size, 11, none⟩ = some (.slice p.A4 x.rule.bs.length p.c4) ∧ V.cell? ⟨w.heap.size, 12, none⟩ = some (.int .i64 x.rule.start) ∧ V.cell? ⟨w.heap.size, 13, none⟩ = some (.slice p.A5 x.ex.length p.c5) ∧ V.cell? ⟨w.heap.size, 14, none⟩ = some (.slice p.A6 x.plus.length p.c6) ∧ V.cell? ⟨w.heap.size, 15, none⟩ = some (.slice p.A7 x.ch.length p.c7)) := fun V hV => by
  rw [hXB] at hV
  exact ⟨blk_cell hV rfl, blk_cell hV rfl, blk_cell hV rfl, blk_cell hV rfl, blk_cell hV rfl, blk_cell hV rfl, blk_cell hV rfl, blk_cell hV rfl, blk_cell hV rfl, blk_cell hV rfl, blk_cell hV rfl, blk_cell hV rfl, blk_cell hV rfl, blk_cell hV rfl, blk_cell hV rfl, blk_cell hV rfl⟩
 have HXB : Hid (∀ V, X V → XB V) := fun V hV => by rw [hX] at hV; exact hV.1.1
 have HXR : Hid (∀ V, X V → V.heap[w.heap.size + 1]? = some (.cells #[.int .i64 0, .int .i64 0, .bool false, .bool false, .int .i64 0, .int .i64 0, .int .i64 0, .int .i64 0, .slice none 0 0, .slice none 0 0, .slice none 0 0, .slice none 0 0, .int .i64 0, .slice none 0 0, .slice none 0 0, .slice none 0 0] 63 (0, 0))) := fun V hV => by rw [hX] at hV; exact hV.1.2
 have HXM : Hid (∀ V, X V → EvAt V x p) := fun V hV => by rw [hX] at hV; exact hV.2
 have HXA : Hid (∀ V o, XB V → XB (V.alloc o)) := fun V o hV => by
  rw [hXB] at hV ⊢
  show (V.alloc o).heap[w.heap.size]? = _
  rw [heap_alloc_old _ _ (heap_lt hV)]; exact hV
 have HXS : Hid (∀ V C o vs, w.heap.size ≠ C → XB V → XB (V.setCells C o vs)) := fun V C o vs hne hV => by
  rw [hXB] at hV ⊢
  show (V.setCells C o vs).heap[w.heap.size]? = _
  rw [setCells_ne hne]; exact hV
 have HXH : Hid (Held F W1 X) := by show Held _ _ _; rw [hX, hXB]; exact ((Held.blk hb1 n1).and (Held.blk hb2 n2)).and (hm.below HB.out)
 have HS0 : Hid (St W1 W1.drew P m b F F X (fun _ => True)) := (St.start (h.below HB.out) HXH.out).drew
 have HR0 : Hid (m.Room (cdSig.cost x.start + ((cdInt 10080).cost x.long + (cdFlag.cost x.again + evTail x)))) := hr
 have HM0 : Hid (m.Rd → m.Rd) := id
 have HZ := Lib.hid hz
 have HC0 := Lib.hid (fun mx bx Fx wx h hr => psigned_any P x.start hx.start mx bx Fx wx h hr)
 have HC1 := Lib.hid (fun mx bx Fx wx h hr => plong_any P x.long hx.long mx bx Fx wx h hr)
 have HC2 := Lib.hid (fun mx bx Fx wx h hr => pflag_any P x.again mx bx Fx wx h hr)
 have HCw := Lib.hid (fun mx bx Fx wx h hr => pflag_any P x.world mx bx Fx wx h hr)
 have HCr := Lib.hid (fun mx bx Fx wx h hr hz hm => prule_any P x.rule ⟨p.A1, p.A2, p.A3, p.A4, p.c1, p.c2, p.c3, p.c4⟩ ⟨hx.freq, hx.iv, hx.count, hx.until_, hx.bm, hx.bd, hx.bw, hx.bs, hx.rstart⟩ mx bx Fx wx h hr hz hm)
 have HCx := Lib.hid (fun mx bx Fx wx h hr hz hm => prowSi_any P x.ex p.A5 p.c5 50 (by decide) hx.ex mx bx Fx wx h hr hz hm)
 have HCp := Lib.hid (fun mx bx Fx wx h hr hz hm => prowSi_any P x.plus p.A6 p.c6 50 (by decide) hx.plus mx bx Fx wx h hr hz hm)
 have HCc := Lib.hid (fun mx bx Fx wx h hr hz hm => prowCh_any P x.ch p.A7 p.c7 50 (by decide) hx.ch mx bx Fx wx h hr hz hm)
 clear hW1 hX hXB hb1 hb2 n1 n2 h hr hz hm
 go_enter Tryz.func105, Tryz.ntmps105
 go_upto_region 1 with fail
 rw [E1.out]
 generalize (Value.agg #[.int .i64 x.start, .int .i64 x.long, .bool x.world, .bool x.again, .int .i64 x.rule.freq, .int .i64 x.rule.iv, .int .i64 x.rule.count, .int .i64 x.rule.until_, .slice p.A1 x.rule.bm.length p.c1, .slice p.A2 x.rule.bd.length p.c2, .slice p.A3 x.rule.bw.length p.c3, .slice p.A4 x.rule.bs.length p.c4, .int .i64 x.rule.start, .slice p.A5 x.ex.length p.c5, .slice p.A6 x.plus.length p.c6, .slice p.A7 x.ch.length p.c7]) = va
 go_cut [5] from 6 to 54 (fun s5 wx => ∃ (C : Nat) (y0 y1 : Int) (y2 : Bool) (m2 : Md) (b2 : Bool) (F2 : Nat → Prop), s5 = .pointer (some ⟨C, 0, none⟩) ∧ Hid (Hd W1 wx P m2 b2 F F2 C #[.int .i64 y0, .int .i64 y1, .bool false, .bool y2, .int .i64 0, .int .i64 0, .int .i64 0, .int .i64 0, .slice none 0 0, .slice none 0 0, .slice none 0 0, .slice none 0 0, .int .i64 0, .slice none 0 0, .slice none 0 0, .slice none 0 0] 63) ∧ Hid (Dn cdEvH (x.start, x.long, x.again) m b (y0, y1, y2) m2 b2))
 case first =>
  refine wp_region_lexF XB (fun k => [3, 7, 11, 14].contains k) 13 40 [0, 1, 2, 4, 5, 6, 8, 9, 10, 3, 7, 11, 12, 13, 14] rfl (by kernel_rfl) (by kernel_rfl) (by kernel_rfl) (fun _ _ _ _ _ h => h) (HXB.out _ HS0.out.now) (fun OPS hOPS => ?_)
  generalize World.drew W1 = w0 at *
  have hk0 := congrArg (fun x => x[0]?) hOPS
  simp only [List.getElem?_toArray, List.getElem?_cons_zero, List.getElem?_cons_succ] at hk0
  have hk1 := congrArg (fun x => x[1]?) hOPS
  simp only [List.getElem?_toArray, List.getElem?_cons_zero, List.getElem?_cons_succ] at hk1
  have hk2 := congrArg (fun x => x[2]?) hOPS
  simp only [List.getElem?_toArray, List.getElem?_cons_zero, List.getElem?_cons_succ] at hk2
  have hk3 := congrArg (fun x => x[3]?) hOPS
  simp only [List.getElem?_toArray, List.getElem?_cons_zero, List.getElem?_cons_succ] at hk3
  have hk4 := congrArg (fun x => x[4]?) hOPS
  simp only [List.getElem?_toArray, List.getElem?_cons_zero, List.getElem?_cons_succ] at hk4
  have hk5 := congrArg (fun x => x[5]?) hOPS
  simp only [List.getElem?_toArray, List.getElem?_cons_zero, List.getElem?_cons_succ] at hk5
  have hk6 := congrArg (fun x => x[6]?) hOPS
  simp only [List.getElem?_toArray, List.getElem?_cons_zero, List.getElem?_cons_succ] at hk6
  have hk7 := congrArg (fun x => x[7]?) hOPS
  simp only [List.getElem?_toArray, List.getElem?_cons_zero, List.getElem?_cons_succ] at hk7
  have hk8 := congrArg (fun x => x[8]?) hOPS
  simp only [List.getElem?_toArray, List.getElem?_cons_zero, List.getElem?_cons_succ] at hk8
  have hk9 := congrArg (fun x => x[9]?) hOPS
  simp only [List.getElem?_toArray, List.getElem?_cons_zero, List.getElem?_cons_succ] at hk9
  have hk10 := congrArg (fun x => x[10]?) hOPS
  simp only [List.getElem?_toArray, List.getElem?_cons_zero, List.getElem?_cons_succ] at hk10
  have hk11 := congrArg (fun x => x[11]?) hOPS
  simp only [List.getElem?_toArray, List.getElem?_cons_zero, List.getElem?_cons_succ] at hk11
  have hk12 := congrArg (fun x => x[12]?) hOPS
  simp only [List.getElem?_toArray, List.getElem?_cons_zero, List.getElem?_cons_succ] at hk12
  have hk13 := congrArg (fun x => x[13]?) hOPS
  simp only [List.getElem?_toArray, List.getElem?_cons_zero, List.getElem?_cons_succ] at hk13
  have hk14 := congrArg (fun x => x[14]?) hOPS
  simp only [List.getElem?_toArray, List.getElem?_cons_zero, List.getElem?_cons_succ] at hk14
  clear hOPS
  refine wpHf_yes (v := ?_) hk0 (by decide) rfl rfl (fun w' hS => ?_) ?_; rotate_left; (go_simp; with_reducible rfl); (try simp only [Act.put, List.setIfInBounds_toArray, List.set_cons_zero, List.set_cons_succ])
  refine wpHf_yes (v := ?_) hk1 (by decide) rfl rfl (fun w' hS => ?_) ?_; rotate_left; (go_simp; with_reducible rfl); (try simp only [Act.put, List.setIfInBounds_toArray, List.set_cons_zero, List.set_cons_succ])
  refine wpHf_yes (v := ?_) hk2 (by decide) rfl rfl (fun w' hS => ?_) ?_; rotate_left; (obtain ⟨f0, f1, f2, f3, f4, f5, f6, f7, f8, f9, f10, f11, f12, f13, f14, f15⟩ := HZL.out w' hS; go_simp; with_reducible rfl); (try simp only [Act.put, List.setIfInBounds_toArray, List.set_cons_zero, List.set_cons_succ])
  refine wpHf_yes (v := ?_) hk4 (by decide) rfl rfl (fun w' hS => ?_) ?_; rotate_left; (go_simp; with_reducible rfl); (try simp only [Act.put, List.setIfInBounds_toArray, List.set_cons_zero, List.set_cons_succ])
  refine wpHf_yes (v := ?_) hk5 (by decide) rfl rfl (fun w' hS => ?_) ?_; rotate_left; (go_simp; with_reducible rfl); (try simp only [Act.put, List.setIfInBounds_toArray, List.set_cons_zero, List.set_cons_succ])
  refine wpHf_yes (v := ?_) hk6 (by decide) rfl rfl (fun w' hS => ?_) ?_; rotate_left; (obtain ⟨f0, f1, f2, f3, f4, f5, f6, f7, f8, f9, f10, f11, f12, f13, f14, f15⟩ := HZL.out w' hS; go_simp; with_reducible rfl); (try simp only [Act.put, List.setIfInBounds_toArray, List.set_cons_zero, List.set_cons_succ])
  refine wpHf_yes (v := ?_) hk8 (by decide) rfl rfl (fun w' hS => ?_) ?_; rotate_left; (go_simp; with_reducible rfl); (try simp only [Act.put, List.setIfInBounds_toArray, List.set_cons_zero, List.set_cons_succ])
  refine wpHf_yes (v := ?_) hk9 (by decide) rfl rfl (fun w' hS => ?_) ?_; rotate_left; (go_simp; with_reducible rfl); (try simp only [Act.put, List.setIfInBounds_toArray, List.set_cons_zero, List.set_cons_succ])
  refine wpHf_yes (v := ?_) hk10 (by decide) rfl rfl (fun w' hS => ?_) ?_; rotate_left; (obtain ⟨f0, f1, f2, f3, f4, f5, f6, f7, f8, f9, f10, f11, f12, f13, f14, f15⟩ := HZL.out w' hS; go_simp; with_reducible rfl); (try simp only [Act.put, List.setIfInBounds_toArray, List.set_cons_zero, List.set_cons_succ])
  refine wpHf_both hk3 hk13 (by decide) rfl (wpK_yes rfl (fun K hK => ?_)) (wpK_yes rfl (fun K hK => ?_))
  ·go_simp
   go_at_call 90
   refine (HC0.out _ _ _ _ HS0.out.to.at_ (HR0.out.mono (Nat.le_add_right _ _))).mono ?_
   rintro e w1 ⟨y0, m0, b0, F0, rfl, hT, hD, hy⟩
   have HD0 := Lib.hid hD
   have HR1 := Lib.hid (hD.room HR0.out)
   have HM1 : Hid (m0.Rd → m.Rd) := fun hm => HM0.out (hD.mode.1 hm)
   have HS1 := Lib.hid (HS0.out.tel hT)
   clear hT hD hy HS0 HR0 HC0 HM0
   refine hK _ _ (HXB.out _ HS1.out.now) (fun _ => ?_)
   clear hK K
   refine wpHf_both hk7 hk13 (by decide) rfl (wpK_yes rfl (fun K hK => ?_)) (wpK_yes rfl (fun K hK => ?_))
   ·go_simp
    go_at_call 142
    refine (HC1.out _ _ _ _ HS1.out.to.at_ (HR1.out.mono (Nat.le_add_right _ _))).mono ?_
    rintro e w2 ⟨y1, m1, b1, F1, rfl, hT, hD, hy⟩
    have HD1 := Lib.hid hD
    have HR2 := Lib.hid (hD.room HR1.out)
    have HM2 : Hid (m1.Rd → m.Rd) := fun hm => HM1.out (hD.mode.1 hm)
    have HS2 := Lib.hid (HS1.out.tel hT)
    clear hT hD hy HS1 HR1 HC1 HM1
    refine hK _ _ (HXB.out _ HS2.out.now) (fun _ => ?_)
    clear hK K
    refine wpHf_both hk11 hk13 (by decide) rfl (wpK_yes rfl (fun K hK => ?_)) (wpK_yes rfl (fun K hK => ?_))
    ·go_simp
     go_at_call 65
     refine (HC2.out _ _ _ _ HS2.out.to.at_ (HR2.out.mono (Nat.le_add_right _ _))).mono ?_
     rintro e w3 ⟨y2, m2, b2, F2, rfl, hT, hD, hy⟩
     have HD2 := Lib.hid hD
     have HR3 := Lib.hid (hD.room HR2.out)
     have HM3 : Hid (m2.Rd → m.Rd) := fun hm => HM2.out (hD.mode.1 hm)
     have HS3 := Lib.hid (HS2.out.tel hT)
     clear hT hD hy HS2 HR2 HC2 HM2
     refine hK _ _ (HXB.out _ HS3.out.now) (fun _ => ?_)
     clear hK K
     refine wpHf_yes (v := ?_) hk12 (by decide) rfl rfl (fun w' hS => ?_) ?_; rotate_left; (go_simp; with_reducible rfl); (try simp only [Act.put, List.setIfInBounds_toArray, List.set_cons_zero, List.set_cons_succ])
     refine wpHf_new hk13 (wpK_yes rfl (fun K hK => ?_))
     go_simp
     refine hK _ _ (HXA.out _ _ (HXB.out _ HS3.out.now)) (fun _ => ?_)
     clear hK K
     have hca := heap_alloc_new w3 (.cells #[.int .i64 0, .int .i64 0, .bool false, .bool false, .int .i64 0, .int .i64 0, .int .i64 0, .int .i64 0, .slice none 0 0, .slice none 0 0, .slice none 0 0, .slice none 0 0, .int .i64 0, .slice none 0 0, .slice none 0 0, .slice none 0 0] 63)
     have hst := HS3.out.alloc (.cells #[.int .i64 0, .int .i64 0, .bool false, .bool false, .int .i64 0, .int .i64 0, .int .i64 0, .int .i64 0, .slice none 0 0, .slice none 0 0, .slice none 0 0, .slice none 0 0, .int .i64 0, .slice none 0 0, .slice none 0 0, .slice none 0 0] 63)
     obtain ⟨C, hC⟩ : ∃ C, w3.heap.size = C := ⟨_, rfl⟩
     obtain ⟨v3, hv⟩ : ∃ v, w3.alloc (.cells #[.int .i64 0, .int .i64 0, .bool false, .bool false, .int .i64 0, .int .i64 0, .int .i64 0, .int .i64 0, .slice none 0 0, .slice none 0 0, .slice none 0 0, .slice none 0 0, .int .i64 0, .slice none 0 0, .slice none 0 0, .slice none 0 0] 63) = v := ⟨_, rfl⟩
     have Hnf3 : Hid (¬ F2 C) := by show ¬ _; rw [← hC]; exact HS3.out.to.at_.not (Nat.le_refl _)
     have HCle : Hid (W1.heap.size ≤ C) := by show _ ≤ _; rw [← hC]; exact HS3.out.to.off.size
     have HCne : Hid (w.heap.size ≠ C) := by have h1 := HCle.out; have h2 := HN2.out.2; show _ ≠ _; omega
     rw [hv] at hca hst ⊢
     rw [hC] at hca ⊢
     clear HS3 hC hv
     have HS3 := Lib.hid hst
     have HE3 : Hid (v3.heap[C]? = some (.cells #[.int .i64 0, .int .i64 0, .bool false, .bool false, .int .i64 0, .int .i64 0, .int .i64 0, .int .i64 0, .slice none 0 0, .slice none 0 0, .slice none 0 0, .slice none 0 0, .int .i64 0, .slice none 0 0, .slice none 0 0, .slice none 0 0] 63 (0, 0))) := hca
     clear hst hca
     refine wpHf_call hk14 (by decide) rfl (wpK_yes rfl (fun K hK => ?_))
     refine wp_store_mid 63 (.tmp 5) (.tmp 18) rfl C 0 #[.int .i64 y0, .int .i64 y1, .bool false, .bool y2, .int .i64 0, .int .i64 0, .int .i64 0, .int .i64 0, .slice none 0 0, .slice none 0 0, .slice none 0 0, .slice none 0 0, .int .i64 0, .slice none 0 0, .slice none 0 0, .slice none 0 0] rfl rfl (blk_there HE3.out (by simp)) (by kernel_rfl) (by simp [Value.oneCell']) ?_
     refine hK _ _ (HXS.out _ _ _ _ HCne.out (HXB.out _ HS3.out.now)) (fun _ => ?_)
     simp only [Act.put]
     clear hK K
     have hset := setCells_blk (b := C) [.int .i64 y0, .int .i64 y1, .bool false, .bool y2, .int .i64 0, .int .i64 0, .int .i64 0, .int .i64 0, .slice none 0 0, .slice none 0 0, .slice none 0 0, .slice none 0 0, .int .i64 0, .slice none 0 0, .slice none 0 0, .slice none 0 0] 0 _ _ HE3.out
     rw [setAll_all (by rfl)] at hset
     have HTT := HS3.out.to.store HCle.out Hnf3.out 0 [.int .i64 y0, .int .i64 y1, .bool false, .bool y2, .int .i64 0, .int .i64 0, .int .i64 0, .int .i64 0, .slice none 0 0, .slice none 0 0, .slice none 0 0, .slice none 0 0, .int .i64 0, .slice none 0 0, .slice none 0 0, .slice none 0 0]
     show Exit.then _ _ _ _ _
     go_wp2_with fail
     go_meet
     case rel =>
      exact ⟨C, y0, y1, y2, m2, b2, F2, rfl, ⟨HTT, hset, Hnf3.out, HCle.out⟩, HD0.out.pair (HD1.out.pair HD2.out)⟩
    ·go_simp
     refine hK _ _ (HXA.out _ _ (HXB.out _ HS2.out.now)) (fun _ => ?_)
     clear hK K
     have hca := heap_alloc_new w2 (.cells #[.int .i64 0, .int .i64 0, .bool false, .bool false, .int .i64 0, .int .i64 0, .int .i64 0, .int .i64 0, .slice none 0 0, .slice none 0 0, .slice none 0 0, .slice none 0 0, .int .i64 0, .slice none 0 0, .slice none 0 0, .slice none 0 0] 63)
     have hst := HS2.out.alloc (.cells #[.int .i64 0, .int .i64 0, .bool false, .bool false, .int .i64 0, .int .i64 0, .int .i64 0, .int .i64 0, .slice none 0 0, .slice none 0 0, .slice none 0 0, .slice none 0 0, .int .i64 0, .slice none 0 0, .slice none 0 0, .slice none 0 0] 63)
     obtain ⟨C, hC⟩ : ∃ C, w2.heap.size = C := ⟨_, rfl⟩
     obtain ⟨v2, hv⟩ : ∃ v, w2.alloc (.cells #[.int .i64 0, .int .i64 0, .bool false, .bool false, .int .i64 0, .int .i64 0, .int .i64 0, .int .i64 0, .slice none 0 0, .slice none 0 0, .slice none 0 0, .slice none 0 0, .int .i64 0, .slice none 0 0, .slice none 0 0, .slice none 0 0] 63) = v := ⟨_, rfl⟩
     have Hnf2 : Hid (¬ F1 C) := by show ¬ _; rw [← hC]; exact HS2.out.to.at_.not (Nat.le_refl _)
     have HCle : Hid (W1.heap.size ≤ C) := by show _ ≤ _; rw [← hC]; exact HS2.out.to.off.size
     have HCne : Hid (w.heap.size ≠ C) := by have h1 := HCle.out; have h2 := HN2.out.2; show _ ≠ _; omega
     rw [hv] at hca hst ⊢
     rw [hC] at hca ⊢
     clear HS2 hC hv
     have HS2 := Lib.hid hst
     have HE2 : Hid (v2.heap[C]? = some (.cells #[.int .i64 0, .int .i64 0, .bool false, .bool false, .int .i64 0, .int .i64 0, .int .i64 0, .int .i64 0, .slice none 0 0, .slice none 0 0, .slice none 0 0, .slice none 0 0, .int .i64 0, .slice none 0 0, .slice none 0 0, .slice none 0 0] 63 (0, 0))) := hca
     clear hst hca
     refine wpHf_call hk11 (by decide) rfl (wpK_yes rfl (fun K hK => ?_))
     go_simp
     go_at_call 65
     refine (HC2.out _ _ _ _ HS2.out.to.at_ (HR2.out.mono (Nat.le_add_right _ _))).mono ?_
     rintro e w3 ⟨y2, m2, b2, F2, rfl, hT, hD, hy⟩
     have HD2 := Lib.hid hD
     have HR3 := Lib.hid (hD.room HR2.out)
     have HM3 : Hid (m2.Rd → m.Rd) := fun hm => HM2.out (hD.mode.1 hm)
     have HS3 := Lib.hid (HS2.out.tel hT)
     have HE3 := Lib.hid (hT.off.heap HE2.out Hnf2.out)
     have Hnf3 : Hid (¬ F2 C) := hT.not Hnf2.out (heap_lt HE2.out)
     clear hT hD hy HS2 HR2 HC2 HM2 HE2 Hnf2
     refine hK _ _ (HXB.out _ HS3.out.now) (fun _ => ?_)
     clear hK K
     refine wpHf_yes (v := ?_) hk12 (by decide) rfl rfl (fun w' hS => ?_) ?_; rotate_left; (go_simp; with_reducible rfl); (try simp only [Act.put, List.setIfInBounds_toArray, List.set_cons_zero, List.set_cons_succ])
     refine wpHf_was ?_
     refine wpHf_call hk14 (by decide) rfl (wpK_yes rfl (fun K hK => ?_))
     refine wp_store_mid 63 (.tmp 5) (.tmp 18) rfl C 0 #[.int .i64 y0, .int .i64 y1, .bool false, .bool y2, .int .i64 0, .int .i64 0, .int .i64 0, .int .i64 0, .slice none 0 0, .slice none 0 0, .slice none 0 0, .slice none 0 0, .int .i64 0, .slice none 0 0, .slice none 0 0, .slice none 0 0] rfl rfl (blk_there HE3.out (by simp)) (by kernel_rfl) (by simp [Value.oneCell']) ?_
     refine hK _ _ (HXS.out _ _ _ _ HCne.out (HXB.out _ HS3.out.now)) (fun _ => ?_)
     simp only [Act.put]
     clear hK K
     have hset := setCells_blk (b := C) [.int .i64 y0, .int .i64 y1, .bool false, .bool y2, .int .i64 0, .int .i64 0, .int .i64 0, .int .i64 0, .slice none 0 0, .slice none 0 0, .slice none 0 0, .slice none 0 0, .int .i64 0, .slice none 0 0, .slice none 0 0, .slice none 0 0] 0 _ _ HE3.out
     rw [setAll_all (by rfl)] at hset
     have HTT := HS3.out.to.store HCle.out Hnf3.out 0 [.int .i64 y0, .int .i64 y1, .bool false, .bool y2, .int .i64 0, .int .i64 0, .int .i64 0, .int .i64 0, .slice none 0 0, .slice none 0 0, .slice none 0 0, .slice none 0 0, .int .i64 0, .slice none 0 0, .slice none 0 0, .slice none 0 0]
     show Exit.then _ _ _ _ _
     go_wp2_with fail
     go_meet
     case rel =>
      exact ⟨C, y0, y1, y2, m2, b2, F2, rfl, ⟨HTT, hset, Hnf3.out, HCle.out⟩, HD0.out.pair (HD1.out.pair HD2.out)⟩
   ·go_simp
    refine hK _ _ (HXA.out _ _ (HXB.out _ HS1.out.now)) (fun _ => ?_)
    clear hK K
    have hca := heap_alloc_new w1 (.cells #[.int .i64 0, .int .i64 0, .bool false, .bool false, .int .i64 0, .int .i64 0, .int .i64 0, .int .i64 0, .slice none 0 0, .slice none 0 0, .slice none 0 0, .slice none 0 0, .int .i64 0, .slice none 0 0, .slice none 0 0, .slice none 0 0] 63)
    have hst := HS1.out.alloc (.cells #[.int .i64 0, .int .i64 0, .bool false, .bool false, .int .i64 0, .int .i64 0, .int .i64 0, .int .i64 0, .slice none 0 0, .slice none 0 0, .slice none 0 0, .slice none 0 0, .int .i64 0, .slice none 0 0, .slice none 0 0, .slice none 0 0] 63)
    obtain ⟨C, hC⟩ : ∃ C, w1.heap.size = C := ⟨_, rfl⟩
    obtain ⟨v1, hv⟩ : ∃ v, w1.alloc (.cells #[.int .i64 0, .int .i64 0, .bool false, .bool false, .int .i64 0, .int .i64 0, .int .i64 0, .int .i64 0, .slice none 0 0, .slice none 0 0, .slice none 0 0, .slice none 0 0, .int .i64 0, .slice none 0 0, .slice none 0 0, .slice none 0 0] 63) = v := ⟨_, rfl⟩
    have Hnf1 : Hid (¬ F0 C) := by show ¬ _; rw [← hC]; exact HS1.out.to.at_.not (Nat.le_refl _)
    have HCle : Hid (W1.heap.size ≤ C) := by show _ ≤ _; rw [← hC]; exact HS1.out.to.off.size
    have HCne : Hid (w.heap.size ≠ C) := by have h1 := HCle.out; have h2 := HN2.out.2; show _ ≠ _; omega
    rw [hv] at hca hst ⊢
    rw [hC] at hca ⊢
    clear HS1 hC hv
    have HS1 := Lib.hid hst
    have HE1 : Hid (v1.heap[C]? = some (.cells #[.int .i64 0, .int .i64 0, .bool false, .bool false, .int .i64 0, .int .i64 0, .int .i64 0, .int .i64 0, .slice none 0 0, .slice none 0 0, .slice none 0 0, .slice none 0 0, .int .i64 0, .slice none 0 0, .slice none 0 0, .slice none 0 0] 63 (0, 0))) := hca
    clear hst hca
    refine wpHf_call hk7 (by decide) rfl (wpK_yes rfl (fun K hK => ?_))
    go_simp
    go_at_call 142
    refine (HC1.out _ _ _ _ HS1.out.to.at_ (HR1.out.mono (Nat.le_add_right _ _))).mono ?_
    rintro e w2 ⟨y1, m1, b1, F1, rfl, hT, hD, hy⟩
    have HD1 := Lib.hid hD
    have HR2 := Lib.hid (hD.room HR1.out)
    have HM2 : Hid (m1.Rd → m.Rd) := fun hm => HM1.out (hD.mode.1 hm)
    have HS2 := Lib.hid (HS1.out.tel hT)
    have HE2 := Lib.hid (hT.off.heap HE1.out Hnf1.out)
    have Hnf2 : Hid (¬ F1 C) := hT.not Hnf1.out (heap_lt HE1.out)
    clear hT hD hy HS1 HR1 HC1 HM1 HE1 Hnf1
    refine hK _ _ (HXB.out _ HS2.out.now) (fun _ => ?_)
    clear hK K
    refine wpHf_call hk11 (by decide) rfl (wpK_yes rfl (fun K hK => ?_))
    go_simp
    go_at_call 65
    refine (HC2.out _ _ _ _ HS2.out.to.at_ (HR2.out.mono (Nat.le_add_right _ _))).mono ?_
    rintro e w3 ⟨y2, m2, b2, F2, rfl, hT, hD, hy⟩
    have HD2 := Lib.hid hD
    have HR3 := Lib.hid (hD.room HR2.out)
    have HM3 : Hid (m2.Rd → m.Rd) := fun hm => HM2.out (hD.mode.1 hm)
    have HS3 := Lib.hid (HS2.out.tel hT)
    have HE3 := Lib.hid (hT.off.heap HE2.out Hnf2.out)
    have Hnf3 : Hid (¬ F2 C) := hT.not Hnf2.out (heap_lt HE2.out)
    clear hT hD hy HS2 HR2 HC2 HM2 HE2 Hnf2
    refine hK _ _ (HXB.out _ HS3.out.now) (fun _ => ?_)
    clear hK K
    refine wpHf_yes (v := ?_) hk12 (by decide) rfl rfl (fun w' hS => ?_) ?_; rotate_left; (go_simp; with_reducible rfl); (try simp only [Act.put, List.setIfInBounds_toArray, List.set_cons_zero, List.set_cons_succ])
    refine wpHf_was ?_
    refine wpHf_call hk14 (by decide) rfl (wpK_yes rfl (fun K hK => ?_))
    refine wp_store_mid 63 (.tmp 5) (.tmp 18) rfl C 0 #[.int .i64 y0, .int .i64 y1, .bool false, .bool y2, .int .i64 0, .int .i64 0, .int .i64 0, .int .i64 0, .slice none 0 0, .slice none 0 0, .slice none 0 0, .slice none 0 0, .int .i64 0, .slice none 0 0, .slice none 0 0, .slice none 0 0] rfl rfl (blk_there HE3.out (by simp)) (by kernel_rfl) (by simp [Value.oneCell']) ?_
    refine hK _ _ (HXS.out _ _ _ _ HCne.out (HXB.out _ HS3.out.now)) (fun _ => ?_)
    simp only [Act.put]
    clear hK K
    have hset := setCells_blk (b := C) [.int .i64 y0, .int .i64 y1, .bool false, .bool y2, .int .i64 0, .int .i64 0, .int .i64 0, .int .i64 0, .slice none 0 0, .slice none 0 0, .slice none 0 0, .slice none 0 0, .int .i64 0, .slice none 0 0, .slice none 0 0, .slice none 0 0] 0 _ _ HE3.out
    rw [setAll_all (by rfl)] at hset
    have HTT := HS3.out.to.store HCle.out Hnf3.out 0 [.int .i64 y0, .int .i64 y1, .bool false, .bool y2, .int .i64 0, .int .i64 0, .int .i64 0, .int .i64 0, .slice none 0 0, .slice none 0 0, .slice none 0 0, .slice none 0 0, .int .i64 0, .slice none 0 0, .slice none 0 0, .slice none 0 0]
    show Exit.then _ _ _ _ _
    go_wp2_with fail
    go_meet
    case rel =>
     exact ⟨C, y0, y1, y2, m2, b2, F2, rfl, ⟨HTT, hset, Hnf3.out, HCle.out⟩, HD0.out.pair (HD1.out.pair HD2.out)⟩
  ·go_simp
   refine hK _ _ (HXA.out _ _ (HXB.out _ HS0.out.now)) (fun _ => ?_)
   clear hK K
   have hca := heap_alloc_new w0 (.cells #[.int .i64 0, .int .i64 0, .bool false, .bool false, .int .i64 0, .int .i64 0, .int .i64 0, .int .i64 0, .slice none 0 0, .slice none 0 0, .slice none 0 0, .slice none 0 0, .int .i64 0, .slice none 0 0, .slice none 0 0, .slice none 0 0] 63)
   have hst := HS0.out.alloc (.cells #[.int .i64 0, .int .i64 0, .bool false, .bool false, .int .i64 0, .int .i64 0, .int .i64 0, .int .i64 0, .slice none 0 0, .slice none 0 0, .slice none 0 0, .slice none 0 0, .int .i64 0, .slice none 0 0, .slice none 0 0, .slice none 0 0] 63)
   obtain ⟨C, hC⟩ : ∃ C, w0.heap.size = C := ⟨_, rfl⟩
   obtain ⟨v0, hv⟩ : ∃ v, w0.alloc (.cells #[.int .i64 0, .int .i64 0, .bool false, .bool false, .int .i64 0, .int .i64 0, .int .i64 0, .int .i64 0, .slice none 0 0, .slice none 0 0, .slice none 0 0, .slice none 0 0, .int .i64 0, .slice none 0 0, .slice none 0 0, .slice none 0 0] 63) = v := ⟨_, rfl⟩
   have Hnf0 : Hid (¬ F C) := by show ¬ _; rw [← hC]; exact HS0.out.to.at_.not (Nat.le_refl _)
   have HCle : Hid (W1.heap.size ≤ C) := by show _ ≤ _; rw [← hC]; exact HS0.out.to.off.size
   have HCne : Hid (w.heap.size ≠ C) := by have h1 := HCle.out; have h2 := HN2.out.2; show _ ≠ _; omega
   rw [hv] at hca hst ⊢
   rw [hC] at hca ⊢
   clear HS0 hC hv
   have HS0 := Lib.hid hst
   have HE0 : Hid (v0.heap[C]? = some (.cells #[.int .i64 0, .int .i64 0, .bool false, .bool false, .int .i64 0, .int .i64 0, .int .i64 0, .int .i64 0, .slice none 0 0, .slice none 0 0, .slice none 0 0, .slice none 0 0, .int .i64 0, .slice none 0 0, .slice none 0 0, .slice none 0 0] 63 (0, 0))) := hca
   clear hst hca
   refine wpHf_call hk3 (by decide) rfl (wpK_yes rfl (fun K hK => ?_))
   go_simp
   go_at_call 90
   refine (HC0.out _ _ _ _ HS0.out.to.at_ (HR0.out.mono (Nat.le_add_right _ _))).mono ?_
   rintro e w1 ⟨y0, m0, b0, F0, rfl, hT, hD, hy⟩
   have HD0 := Lib.hid hD
   have HR1 := Lib.hid (hD.room HR0.out)
   have HM1 : Hid (m0.Rd → m.Rd) := fun hm => HM0.out (hD.mode.1 hm)
   have HS1 := Lib.hid (HS0.out.tel hT)
   have HE1 := Lib.hid (hT.off.heap HE0.out Hnf0.out)
   have Hnf1 : Hid (¬ F0 C) := hT.not Hnf0.out (heap_lt HE0.out)
   clear hT hD hy HS0 HR0 HC0 HM0 HE0 Hnf0
   refine hK _ _ (HXB.out _ HS1.out.now) (fun _ => ?_)
   clear hK K
   refine wpHf_call hk7 (by decide) rfl (wpK_yes rfl (fun K hK => ?_))
   go_simp
   go_at_call 142
   refine (HC1.out _ _ _ _ HS1.out.to.at_ (HR1.out.mono (Nat.le_add_right _ _))).mono ?_
   rintro e w2 ⟨y1, m1, b1, F1, rfl, hT, hD, hy⟩
   have HD1 := Lib.hid hD
   have HR2 := Lib.hid (hD.room HR1.out)
   have HM2 : Hid (m1.Rd → m.Rd) := fun hm => HM1.out (hD.mode.1 hm)
   have HS2 := Lib.hid (HS1.out.tel hT)
   have HE2 := Lib.hid (hT.off.heap HE1.out Hnf1.out)
   have Hnf2 : Hid (¬ F1 C) := hT.not Hnf1.out (heap_lt HE1.out)
   clear hT hD hy HS1 HR1 HC1 HM1 HE1 Hnf1
   refine hK _ _ (HXB.out _ HS2.out.now) (fun _ => ?_)
   clear hK K
   refine wpHf_call hk11 (by decide) rfl (wpK_yes rfl (fun K hK => ?_))
   go_simp
   go_at_call 65
   refine (HC2.out _ _ _ _ HS2.out.to.at_ (HR2.out.mono (Nat.le_add_right _ _))).mono ?_
   rintro e w3 ⟨y2, m2, b2, F2, rfl, hT, hD, hy⟩
   have HD2 := Lib.hid hD
   have HR3 := Lib.hid (hD.room HR2.out)
   have HM3 : Hid (m2.Rd → m.Rd) := fun hm => HM2.out (hD.mode.1 hm)
   have HS3 := Lib.hid (HS2.out.tel hT)
   have HE3 := Lib.hid (hT.off.heap HE2.out Hnf2.out)
   have Hnf3 : Hid (¬ F2 C) := hT.not Hnf2.out (heap_lt HE2.out)
   clear hT hD hy HS2 HR2 HC2 HM2 HE2 Hnf2
   refine hK _ _ (HXB.out _ HS3.out.now) (fun _ => ?_)
   clear hK K
   refine wpHf_yes (v := ?_) hk12 (by decide) rfl rfl (fun w' hS => ?_) ?_; rotate_left; (go_simp; with_reducible rfl); (try simp only [Act.put, List.setIfInBounds_toArray, List.set_cons_zero, List.set_cons_succ])
   refine wpHf_was ?_
   refine wpHf_call hk14 (by decide) rfl (wpK_yes rfl (fun K hK => ?_))
   refine wp_store_mid 63 (.tmp 5) (.tmp 18) rfl C 0 #[.int .i64 y0, .int .i64 y1, .bool false, .bool y2, .int .i64 0, .int .i64 0, .int .i64 0, .int .i64 0, .slice none 0 0, .slice none 0 0, .slice none 0 0, .slice none 0 0, .int .i64 0, .slice none 0 0, .slice none 0 0, .slice none 0 0] rfl rfl (blk_there HE3.out (by simp)) (by kernel_rfl) (by simp [Value.oneCell']) ?_
   refine hK _ _ (HXS.out _ _ _ _ HCne.out (HXB.out _ HS3.out.now)) (fun _ => ?_)
   simp only [Act.put]
   clear hK K
   have hset := setCells_blk (b := C) [.int .i64 y0, .int .i64 y1, .bool false, .bool y2, .int .i64 0, .int .i64 0, .int .i64 0, .int .i64 0, .slice none 0 0, .slice none 0 0, .slice none 0 0, .slice none 0 0, .int .i64 0, .slice none 0 0, .slice none 0 0, .slice none 0 0] 0 _ _ HE3.out
   rw [setAll_all (by rfl)] at hset
   have HTT := HS3.out.to.store HCle.out Hnf3.out 0 [.int .i64 y0, .int .i64 y1, .bool false, .bool y2, .int .i64 0, .int .i64 0, .int .i64 0, .int .i64 0, .slice none 0 0, .slice none 0 0, .slice none 0 0, .slice none 0 0, .int .i64 0, .slice none 0 0, .slice none 0 0, .slice none 0 0]
   show Exit.then _ _ _ _ _
   go_wp2_with fail
   go_meet
   case rel =>
    exact ⟨C, y0, y1, y2, m2, b2, F2, rfl, ⟨HTT, hset, Hnf3.out, HCle.out⟩, HD0.out.pair (HD1.out.pair HD2.out)⟩
 case rest =>
 obtain ⟨C, y0, y1, y2, m2, b2, F2, rfl, HH, HHL⟩ := hcut
 obtain ⟨w4, hw4⟩ : ∃ q, q = wc := ⟨_, rfl⟩
 subst hw4
 have HQ4 : Hid (Sq W1 w4 P m2 b2 F F2 C (fun _ => True)) := ⟨HH.out.tt, OwnK.const trivial⟩
 have HE4 := Lib.hid HH.out.blk
 have HnC : Hid (¬ F2 C) := HH.out.nC
 have hWC : W1.heap.size ≤ C := HH.out.le
 have hC4 : C + 1 ≤ w4.heap.size := heap_lt HE4.out
 have hCR : w.heap.size + 1 < C := by have := HN2.out.2; omega
 have HR3 : Hid (m2.Room (evTail x)) := HHL.out.room (c := cdEvH) (n := evTail x) (HR0.out.mono (by show 10 + (10 + 10) + evTail x ≤ 10 + (10 + (10 + evTail x)); omega))
 have HM3 : Hid (m2.Rd → m.Rd) := fun hm => HHL.out.mode.1 hm
 clear HR0 HM0 HS0 HC0 HC1 HC2 HH
 cases y2 with
 | false =>
  obtain ⟨f0, f1, f2, f3, f4, f5, f6, f7, f8, f9, f10, f11, f12, f13, f14, f15⟩ := HZL.out w4 (HXB.out _ (HXH.out.step HQ4.out.tt).now)
  have g2 : w4.cell? ⟨C, 2, none⟩ = some (.bool false) := blk_cell HE4.out rfl
  have g3 : w4.cell? ⟨C, 3, none⟩ = some (.bool false) := blk_cell HE4.out rfl
  have gz := fun i => blk_free (b := C) HE4.out i
  have HRw : Hid (m2.Room (10 + (cdRu.cost x.rule + ((cdRow cdSig 50).cost x.ex + ((cdRow cdSig 50).cost x.plus + ((cdRow cdCh 50).cost x.ch)))))) := HR3.out
  go_wp2_with fail
  go_at_call 65
  refine (HCw.out _ _ _ _ HQ4.out.tt.at_ (HRw.out.mono (Nat.le_add_right _ _))).mono ?_
  rintro e w5 ⟨yw, m3, b3, F3, rfl, hT, hD, hy⟩
  have HDw := Lib.hid hD
  have HQ5 := Lib.hid (HQ4.out.tel hT)
  have HE5 := Lib.hid (hT.off.heap HE4.out HnC.out)
  have HnC3 : Hid (¬ F3 C) := hT.not HnC.out (by omega)
  clear f0 f1 f2 f3 f4 f5 f6 f7 f8 f9 f10 f11 f12 f13 f14 f15 g2 g3 gz
  clear hT hD hy
  obtain ⟨f0, f1, f2, f3, f4, f5, f6, f7, f8, f9, f10, f11, f12, f13, f14, f15⟩ := HZL.out w5 (HXB.out _ (HXH.out.step HQ5.out.tt).now)
  have g2 : w5.cell? ⟨C, 2, none⟩ = some (.bool false) := blk_cell HE5.out rfl
  have gz := fun i => blk_free (b := C) HE5.out i
  go_upto_region 4 with fail
  have hset := block_setCell HE5.out (i := 2) (.bool yw)
  have hset : (w5.setCell ⟨C, 2, none⟩ (.bool yw)).heap[C]? = some (.cells #[.int .i64 y0, .int .i64 y1, .bool yw, .bool false, .int .i64 0, .int .i64 0, .int .i64 0, .int .i64 0, .slice none 0 0, .slice none 0 0, .slice none 0 0, .slice none 0 0, .int .i64 0, .slice none 0 0, .slice none 0 0, .slice none 0 0] 63 (0, 0)) := by rw [hset]; rfl
  have HQ6 := Lib.hid (HQ5.out.set (C := C) (by omega) HnC3.out 2 (.bool yw))
  obtain ⟨w6, hw6⟩ : ∃ w6, w5.setCell ⟨C, 2, none⟩ (.bool yw) = w6 := ⟨_, rfl⟩
  rw [hw6] at hset HQ6 ⊢
  have HE6 := Lib.hid hset
  clear f0 f1 f2 f3 f4 f5 f6 f7 f8 f9 f10 f11 f12 f13 f14 f15 g2 gz
  clear hw6 hset
  have HRB := Lib.hid (HXR.out _ (HXH.out.step HQ6.out.tt).now)
  go_wp2_with (first
   | (refine wpList_load (v := .agg #[.int .i64 y0, .int .i64 y1, .bool yw, .bool false, .int .i64 0, .int .i64 0, .int .i64 0, .int .i64 0, .slice none 0 0, .slice none 0 0, .slice none 0 0, .slice none 0 0, .int .i64 0, .slice none 0 0, .slice none 0 0, .slice none 0 0]) rfl rfl (load_blk (vs := [.int .i64 y0, .int .i64 y1, .bool yw, .bool false, .int .i64 0, .int .i64 0, .int .i64 0, .int .i64 0, .slice none 0 0, .slice none 0 0, .slice none 0 0, .slice none 0 0, .int .i64 0, .slice none 0 0, .slice none 0 0, .slice none 0 0]) HE6.out (fun j v hj => by simpa using hj) rfl (by kernel_rfl)) ?_; simp only [Act.put])
   | (refine wpList_store_mid rfl 63 (.tmp 4) (.tmp 27) rfl (w.heap.size + 1) 0 #[.int .i64 y0, .int .i64 y1, .bool yw, .bool false, .int .i64 0, .int .i64 0, .int .i64 0, .int .i64 0, .slice none 0 0, .slice none 0 0, .slice none 0 0, .slice none 0 0, .int .i64 0, .slice none 0 0, .slice none 0 0, .slice none 0 0] rfl rfl (blk_there HRB.out (by simp)) (by kernel_rfl) (by simp [Value.oneCell']) ?_))
  have hset := setCells_blk (b := w.heap.size + 1) [.int .i64 y0, .int .i64 y1, .bool yw, .bool false, .int .i64 0, .int .i64 0, .int .i64 0, .int .i64 0, .slice none 0 0, .slice none 0 0, .slice none 0 0, .slice none 0 0, .int .i64 0, .slice none 0 0, .slice none 0 0, .slice none 0 0] 0 _ _ HRB.out
  rw [setAll_all (by rfl)] at hset
  have HTO := Lib.hid (HQ6.out.tt.store' HB.out (R := w.heap.size + 1) (by omega) (HQ6.out.tt.not HN2.out.1 HN2.out.2) 0 [.int .i64 y0, .int .i64 y1, .bool yw, .bool false, .int .i64 0, .int .i64 0, .int .i64 0, .int .i64 0, .slice none 0 0, .slice none 0 0, .slice none 0 0, .slice none 0 0, .int .i64 0, .slice none 0 0, .slice none 0 0, .slice none 0 0])
  have HOW := Lib.hid ((HQ6.out.y.store (R := w.heap.size + 1) (.inl HN2.out.2) 0 [.int .i64 y0, .int .i64 y1, .bool yw, .bool false, .int .i64 0, .int .i64 0, .int .i64 0, .int .i64 0, .slice none 0 0, .slice none 0 0, .slice none 0 0, .slice none 0 0, .int .i64 0, .slice none 0 0, .slice none 0 0, .slice none 0 0]).own (s := w.heap.size) fun k hk => .inl (Nat.lt_of_lt_of_le hk HB.out.size))
  have HSE := Lib.hid hset
  clear hset
  refine bodyPost_ret (results_cell_row rfl _ _ (w.heap.size + 1) 63 #[.int .i64 y0, .int .i64 y1, .bool yw, .bool false, .int .i64 0, .int .i64 0, .int .i64 0, .int .i64 0, .slice none 0 0, .slice none 0 0, .slice none 0 0, .slice none 0 0, .int .i64 0, .slice none 0 0, .slice none 0 0, .slice none 0 0] (0, 0) _ rfl HSE.out Tryz.underlying63 rfl (by kernel_rfl)) rfl ?_
  exact ⟨⟨y0, y1, yw, false, zeroR, [], [], []⟩, noEvP, _, _, _, rfl, HTO.out, HOW.out.imp (fun V hV => noEvt_atZ V _ _ _ _), dn_ev HHL.out (dn_evW HDw.out)⟩
 | true =>
  obtain ⟨f0, f1, f2, f3, f4, f5, f6, f7, f8, f9, f10, f11, f12, f13, f14, f15⟩ := HZL.out w4 (HXB.out _ (HXH.out.step HQ4.out.tt).now)
  have g3 : w4.cell? ⟨C, 3, none⟩ = some (.bool true) := blk_cell HE4.out rfl
  have gz := fun i => blk_free (b := C) HE4.out i
  have HRr : Hid (m2.Room (cdRu.cost x.rule + ((cdRow cdSig 50).cost x.ex + ((cdRow cdSig 50).cost x.plus + ((cdRow cdCh 50).cost x.ch + 0))))) := HR3.out.mono (by unfold evTail; omega)
  go_wp2_with fail
  go_at_call 143
  refine (HCr.out _ _ _ _ HQ4.out.tt.at_ (HRr.out.mono (Nat.le_add_right _ _)) (fun hm => by rw [HZ.out (HM3.out hm)] <;> rfl) ((HXH.out.step HQ4.out.tt).imp fun V hV => (HXM.out V hV).r)).mono ?_
  rintro e w5 ⟨yr, qr, m3, b3, F3, rfl, hT, hO, hD⟩
  have HDr := Lib.hid hD
  have HRx := Lib.hid (hD.room HRr.out)
  have HM4 : Hid (m3.Rd → m.Rd) := fun hm => HM3.out (hD.mode.1 hm)
  have HQ5 := Lib.hid (HQ4.out.told hT hO hC4)
  have HE5 := Lib.hid (hT.off.heap HE4.out HnC.out)
  have HnC5 : Hid (¬ F3 C) := hT.not HnC.out (by omega)
  have hC5 : C + 1 ≤ w5.heap.size := Nat.le_trans hC4 hT.off.size
  clear f0 f1 f2 f3 f4 f5 f6 f7 f8 f9 f10 f11 f12 f13 f14 f15 g3 gz
  clear hT hD hO
  simp only [ruCells]
  go_upto_region 6 with (refine wpList_store_mid rfl 60 (.tmp 32) (.tmp 31) rfl C 4 #[.int .i64 yr.freq, .int .i64 yr.iv, .int .i64 yr.count, .int .i64 yr.until_, .slice qr.A1 yr.bm.length qr.c1, .slice qr.A2 yr.bd.length qr.c2, .slice qr.A3 yr.bw.length qr.c3, .slice qr.A4 yr.bs.length qr.c4, .int .i64 yr.start] rfl rfl (blk_there HE5.out (by simp)) (by kernel_rfl) (by simp [Value.oneCell']) ?_)
  have hset := setCells_blk (b := C) [.int .i64 yr.freq, .int .i64 yr.iv, .int .i64 yr.count, .int .i64 yr.until_, .slice qr.A1 yr.bm.length qr.c1, .slice qr.A2 yr.bd.length qr.c2, .slice qr.A3 yr.bw.length qr.c3, .slice qr.A4 yr.bs.length qr.c4, .int .i64 yr.start] 4 _ _ HE5.out
  have hset : (w5.setCells C 4 [.int .i64 yr.freq, .int .i64 yr.iv, .int .i64 yr.count, .int .i64 yr.until_, .slice qr.A1 yr.bm.length qr.c1, .slice qr.A2 yr.bd.length qr.c2, .slice qr.A3 yr.bw.length qr.c3, .slice qr.A4 yr.bs.length qr.c4, .int .i64 yr.start]).heap[C]? = some (.cells #[.int .i64 y0, .int .i64 y1, .bool false, .bool true, .int .i64 yr.freq, .int .i64 yr.iv, .int .i64 yr.count, .int .i64 yr.until_, .slice qr.A1 yr.bm.length qr.c1, .slice qr.A2 yr.bd.length qr.c2, .slice qr.A3 yr.bw.length qr.c3, .slice qr.A4 yr.bs.length qr.c4, .int .i64 yr.start, .slice none 0 0, .slice none 0 0, .slice none 0 0] 63 (0, 0)) := hset.trans (congrArg (fun z => some (Obj.cells z 63 (0, 0))) (setAll_part [.int .i64 yr.freq, .int .i64 yr.iv, .int .i64 yr.count, .int .i64 yr.until_, .slice qr.A1 yr.bm.length qr.c1, .slice qr.A2 yr.bd.length qr.c2, .slice qr.A3 yr.bw.length qr.c3, .slice qr.A4 yr.bs.length qr.c4, .int .i64 yr.start] [.int .i64 y0, .int .i64 y1, .bool false, .bool true] [.int .i64 0, .int .i64 0, .int .i64 0, .int .i64 0, .slice none 0 0, .slice none 0 0, .slice none 0 0, .slice none 0 0, .int .i64 0] [.slice none 0 0, .slice none 0 0, .slice none 0 0] rfl))
  have HQ6 := Lib.hid (HQ5.out.store (C := C) (by omega) HnC5.out 4 [.int .i64 yr.freq, .int .i64 yr.iv, .int .i64 yr.count, .int .i64 yr.until_, .slice qr.A1 yr.bm.length qr.c1, .slice qr.A2 yr.bd.length qr.c2, .slice qr.A3 yr.bw.length qr.c3, .slice qr.A4 yr.bs.length qr.c4, .int .i64 yr.start])
  obtain ⟨w6, hw6⟩ : ∃ w6, w5.setCells C 4 [.int .i64 yr.freq, .int .i64 yr.iv, .int .i64 yr.count, .int .i64 yr.until_, .slice qr.A1 yr.bm.length qr.c1, .slice qr.A2 yr.bd.length qr.c2, .slice qr.A3 yr.bw.length qr.c3, .slice qr.A4 yr.bs.length qr.c4, .int .i64 yr.start] = w6 := ⟨_, rfl⟩
  have hw6b : w5.setCells C 4 #[.int .i64 yr.freq, .int .i64 yr.iv, .int .i64 yr.count, .int .i64 yr.until_, .slice qr.A1 yr.bm.length qr.c1, .slice qr.A2 yr.bd.length qr.c2, .slice qr.A3 yr.bw.length qr.c3, .slice qr.A4 yr.bs.length qr.c4, .int .i64 yr.start].toList = w6 := hw6
  have hC6 : C + 1 ≤ w6.heap.size := by rw [← hw6]; exact Nat.le_trans hC5 (off_setCells _ _ _).size
  rw [hw6b]
  rw [hw6] at hset HQ6
  have HE6 := Lib.hid hset
  clear hw6 hw6b hset
  obtain ⟨f0, f1, f2, f3, f4, f5, f6, f7, f8, f9, f10, f11, f12, f13, f14, f15⟩ := HZL.out w6 (HXB.out _ (HXH.out.step HQ6.out.tt).now)
  have gz := fun i => blk_free (b := C) HE6.out i
  go_wp2_with fail
  go_at_call 122
  refine (HCx.out _ _ _ _ HQ6.out.tt.at_ (HRx.out.mono (Nat.le_add_right _ _)) (fun hm => by rw [HZ.out (HM4.out hm)] <;> rfl) ((HXH.out.step HQ6.out.tt).imp fun V hV => by rw [← iv_kv]; exact (HXM.out V hV).s5)).mono ?_
  rintro e w7 ⟨yx, qx, m4, b4, F4, rfl, hT, hO, hD⟩
  have HDx := Lib.hid hD
  have HRp := Lib.hid (hD.room HRx.out)
  have HM5 : Hid (m4.Rd → m.Rd) := fun hm => HM4.out (hD.mode.1 hm)
  have HQ7 := Lib.hid (HQ6.out.told hT hO hC6)
  have HE7 := Lib.hid (hT.off.heap HE6.out HnC5.out)
  have HnC6 : Hid (¬ F4 C) := hT.not HnC5.out (by omega)
  have hC7 : C + 1 ≤ w7.heap.size := Nat.le_trans hC6 hT.off.size
  clear f0 f1 f2 f3 f4 f5 f6 f7 f8 f9 f10 f11 f12 f13 f14 f15 gz hT hD hO
  obtain ⟨f0, f1, f2, f3, f4, f5, f6, f7, f8, f9, f10, f11, f12, f13, f14, f15⟩ := HZL.out w7 (HXB.out _ (HXH.out.step HQ7.out.tt).now)
  have g13 : w7.cell? ⟨C, 13, none⟩ = some (.slice none 0 0) := blk_cell HE7.out rfl
  have gz := fun i => blk_free (b := C) HE7.out i
  go_upto_region 7 with fail
  have hset := block_setCell HE7.out (i := 13) (.slice qx.1 yx.length qx.2)
  have hset : (w7.setCell ⟨C, 13, none⟩ (.slice qx.1 yx.length qx.2)).heap[C]? = some (.cells #[.int .i64 y0, .int .i64 y1, .bool false, .bool true, .int .i64 yr.freq, .int .i64 yr.iv, .int .i64 yr.count, .int .i64 yr.until_, .slice qr.A1 yr.bm.length qr.c1, .slice qr.A2 yr.bd.length qr.c2, .slice qr.A3 yr.bw.length qr.c3, .slice qr.A4 yr.bs.length qr.c4, .int .i64 yr.start, .slice qx.1 yx.length qx.2, .slice none 0 0, .slice none 0 0] 63 (0, 0)) := by rw [hset]; rfl
  have HQ8 := Lib.hid (HQ7.out.set (C := C) (by omega) HnC6.out 13 (.slice qx.1 yx.length qx.2))
  obtain ⟨w8, hw⟩ : ∃ w8, w7.setCell ⟨C, 13, none⟩ (.slice qx.1 yx.length qx.2) = w8 := ⟨_, rfl⟩
  have hC8 : C + 1 ≤ w8.heap.size := by rw [← hw]; exact Nat.le_trans hC7 (by simp [World.setCell])
  rw [hw] at hset HQ8 ⊢
  have HE8 := Lib.hid hset
  clear f0 f1 f2 f3 f4 f5 f6 f7 f8 f9 f10 f11 f12 f13 f14 f15 g13 gz hw hset
  obtain ⟨f0, f1, f2, f3, f4, f5, f6, f7, f8, f9, f10, f11, f12, f13, f14, f15⟩ := HZL.out w8 (HXB.out _ (HXH.out.step HQ8.out.tt).now)
  have gz := fun i => blk_free (b := C) HE8.out i
  go_wp2_with fail
  go_at_call 122
  refine (HCp.out _ _ _ _ HQ8.out.tt.at_ (HRp.out.mono (Nat.le_add_right _ _)) (fun hm => by rw [HZ.out (HM5.out hm)] <;> rfl) ((HXH.out.step HQ8.out.tt).imp fun V hV => by rw [← iv_kv]; exact (HXM.out V hV).s6)).mono ?_
  rintro e w9 ⟨yp, qp, m5, b5, F5, rfl, hT, hO, hD⟩
  have HDp := Lib.hid hD
  have HRc := Lib.hid (hD.room HRp.out)
  have HM6 : Hid (m5.Rd → m.Rd) := fun hm => HM5.out (hD.mode.1 hm)
  have HQ9 := Lib.hid (HQ8.out.told hT hO hC8)
  have HE9 := Lib.hid (hT.off.heap HE8.out HnC6.out)
  have HnC7 : Hid (¬ F5 C) := hT.not HnC6.out (by omega)
  have hC9 : C + 1 ≤ w9.heap.size := Nat.le_trans hC8 hT.off.size
  clear f0 f1 f2 f3 f4 f5 f6 f7 f8 f9 f10 f11 f12 f13 f14 f15 gz hT hD hO
  obtain ⟨f0, f1, f2, f3, f4, f5, f6, f7, f8, f9, f10, f11, f12, f13, f14, f15⟩ := HZL.out w9 (HXB.out _ (HXH.out.step HQ9.out.tt).now)
  have g14 : w9.cell? ⟨C, 14, none⟩ = some (.slice none 0 0) := blk_cell HE9.out rfl
  have gz := fun i => blk_free (b := C) HE9.out i
  go_upto_region 8 with fail
  have hset := block_setCell HE9.out (i := 14) (.slice qp.1 yp.length qp.2)
  have hset : (w9.setCell ⟨C, 14, none⟩ (.slice qp.1 yp.length qp.2)).heap[C]? = some (.cells #[.int .i64 y0, .int .i64 y1, .bool false, .bool true, .int .i64 yr.freq, .int .i64 yr.iv, .int .i64 yr.count, .int .i64 yr.until_, .slice qr.A1 yr.bm.length qr.c1, .slice qr.A2 yr.bd.length qr.c2, .slice qr.A3 yr.bw.length qr.c3, .slice qr.A4 yr.bs.length qr.c4, .int .i64 yr.start, .slice qx.1 yx.length qx.2, .slice qp.1 yp.length qp.2, .slice none 0 0] 63 (0, 0)) := by rw [hset]; rfl
  have HQ10 := Lib.hid (HQ9.out.set (C := C) (by omega) HnC7.out 14 (.slice qp.1 yp.length qp.2))
  obtain ⟨w10, hw⟩ : ∃ w10, w9.setCell ⟨C, 14, none⟩ (.slice qp.1 yp.length qp.2) = w10 := ⟨_, rfl⟩
  have hC10 : C + 1 ≤ w10.heap.size := by rw [← hw]; exact Nat.le_trans hC9 (by simp [World.setCell])
  rw [hw] at hset HQ10 ⊢
  have HE10 := Lib.hid hset
  clear f0 f1 f2 f3 f4 f5 f6 f7 f8 f9 f10 f11 f12 f13 f14 f15 g14 gz hw hset
  obtain ⟨f0, f1, f2, f3, f4, f5, f6, f7, f8, f9, f10, f11, f12, f13, f14, f15⟩ := HZL.out w10 (HXB.out _ (HXH.out.step HQ10.out.tt).now)
  have gz := fun i => blk_free (b := C) HE10.out i
  go_wp2_with fail
  go_at_call 144
  refine (HCc.out _ _ _ _ HQ10.out.tt.at_ (HRc.out.mono (Nat.le_add_right _ _)) (fun hm => by rw [HZ.out (HM6.out hm)] <;> rfl) ((HXH.out.step HQ10.out.tt).imp fun V hV => by rw [← cv_kv]; exact (HXM.out V hV).s7)).mono ?_
  rintro e w11 ⟨yc, qc, m6, b6, F6, rfl, hT, hO, hD⟩
  have HDc := Lib.hid hD
  have HRe := Lib.hid (hD.room HRc.out)
  have HM7 : Hid (m6.Rd → m.Rd) := fun hm => HM6.out (hD.mode.1 hm)
  have HQ11 := Lib.hid (HQ10.out.told hT hO hC10)
  have HE11 := Lib.hid (hT.off.heap HE10.out HnC7.out)
  have HnC8 : Hid (¬ F6 C) := hT.not HnC7.out (by omega)
  have hC11 : C + 1 ≤ w11.heap.size := Nat.le_trans hC10 hT.off.size
  clear f0 f1 f2 f3 f4 f5 f6 f7 f8 f9 f10 f11 f12 f13 f14 f15 gz hT hD hO
  obtain ⟨f0, f1, f2, f3, f4, f5, f6, f7, f8, f9, f10, f11, f12, f13, f14, f15⟩ := HZL.out w11 (HXB.out _ (HXH.out.step HQ11.out.tt).now)
  have g15 : w11.cell? ⟨C, 15, none⟩ = some (.slice none 0 0) := blk_cell HE11.out rfl
  have gz := fun i => blk_free (b := C) HE11.out i
  go_upto_region 9 with fail
  have hset := block_setCell HE11.out (i := 15) (.slice qc.1 yc.length qc.2)
  have hset : (w11.setCell ⟨C, 15, none⟩ (.slice qc.1 yc.length qc.2)).heap[C]? = some (.cells #[.int .i64 y0, .int .i64 y1, .bool false, .bool true, .int .i64 yr.freq, .int .i64 yr.iv, .int .i64 yr.count, .int .i64 yr.until_, .slice qr.A1 yr.bm.length qr.c1, .slice qr.A2 yr.bd.length qr.c2, .slice qr.A3 yr.bw.length qr.c3, .slice qr.A4 yr.bs.length qr.c4, .int .i64 yr.start, .slice qx.1 yx.length qx.2, .slice qp.1 yp.length qp.2, .slice qc.1 yc.length qc.2] 63 (0, 0)) := by rw [hset]; rfl
  have HQ12 := Lib.hid (HQ11.out.set (C := C) (by omega) HnC8.out 15 (.slice qc.1 yc.length qc.2))
  obtain ⟨w12, hw⟩ : ∃ w12, w11.setCell ⟨C, 15, none⟩ (.slice qc.1 yc.length qc.2) = w12 := ⟨_, rfl⟩
  have hC12 : C + 1 ≤ w12.heap.size := by rw [← hw]; exact Nat.le_trans hC11 (by simp [World.setCell])
  rw [hw] at hset HQ12 ⊢
  have HE12 := Lib.hid hset
  clear f0 f1 f2 f3 f4 f5 f6 f7 f8 f9 f10 f11 f12 f13 f14 f15 g15 gz hw hset
  have HRB := Lib.hid (HXR.out _ (HXH.out.step HQ12.out.tt).now)
  go_wp2_with (first
   | (refine wpList_load (v := .agg #[.int .i64 y0, .int .i64 y1, .bool false, .bool true, .int .i64 yr.freq, .int .i64 yr.iv, .int .i64 yr.count, .int .i64 yr.until_, .slice qr.A1 yr.bm.length qr.c1, .slice qr.A2 yr.bd.length qr.c2, .slice qr.A3 yr.bw.length qr.c3, .slice qr.A4 yr.bs.length qr.c4, .int .i64 yr.start, .slice qx.1 yx.length qx.2, .slice qp.1 yp.length qp.2, .slice qc.1 yc.length qc.2]) rfl rfl (load_blk (vs := [.int .i64 y0, .int .i64 y1, .bool false, .bool true, .int .i64 yr.freq, .int .i64 yr.iv, .int .i64 yr.count, .int .i64 yr.until_, .slice qr.A1 yr.bm.length qr.c1, .slice qr.A2 yr.bd.length qr.c2, .slice qr.A3 yr.bw.length qr.c3, .slice qr.A4 yr.bs.length qr.c4, .int .i64 yr.start, .slice qx.1 yx.length qx.2, .slice qp.1 yp.length qp.2, .slice qc.1 yc.length qc.2]) HE12.out (fun j v hj => by simpa using hj) rfl (by kernel_rfl)) ?_; simp only [Act.put])
   | (refine wpList_store_mid rfl 63 (.tmp 4) (.tmp 54) rfl (w.heap.size + 1) 0 #[.int .i64 y0, .int .i64 y1, .bool false, .bool true, .int .i64 yr.freq, .int .i64 yr.iv, .int .i64 yr.count, .int .i64 yr.until_, .slice qr.A1 yr.bm.length qr.c1, .slice qr.A2 yr.bd.length qr.c2, .slice qr.A3 yr.bw.length qr.c3, .slice qr.A4 yr.bs.length qr.c4, .int .i64 yr.start, .slice qx.1 yx.length qx.2, .slice qp.1 yp.length qp.2, .slice qc.1 yc.length qc.2] rfl rfl (blk_there HRB.out (by simp)) (by kernel_rfl) (by simp [Value.oneCell']) ?_))
  have hset := setCells_blk (b := w.heap.size + 1) [.int .i64 y0, .int .i64 y1, .bool false, .bool true, .int .i64 yr.freq, .int .i64 yr.iv, .int .i64 yr.count, .int .i64 yr.until_, .slice qr.A1 yr.bm.length qr.c1, .slice qr.A2 yr.bd.length qr.c2, .slice qr.A3 yr.bw.length qr.c3, .slice qr.A4 yr.bs.length qr.c4, .int .i64 yr.start, .slice qx.1 yx.length qx.2, .slice qp.1 yp.length qp.2, .slice qc.1 yc.length qc.2] 0 _ _ HRB.out
  rw [setAll_all (by rfl)] at hset
  have HTO := Lib.hid (HQ12.out.tt.store' HB.out (R := w.heap.size + 1) (by omega) (HQ12.out.tt.not HN2.out.1 HN2.out.2) 0 [.int .i64 y0, .int .i64 y1, .bool false, .bool true, .int .i64 yr.freq, .int .i64 yr.iv, .int .i64 yr.count, .int .i64 yr.until_, .slice qr.A1 yr.bm.length qr.c1, .slice qr.A2 yr.bd.length qr.c2, .slice qr.A3 yr.bw.length qr.c3, .slice qr.A4 yr.bs.length qr.c4, .int .i64 yr.start, .slice qx.1 yx.length qx.2, .slice qp.1 yp.length qp.2, .slice qc.1 yc.length qc.2])
  have HOW := Lib.hid ((HQ12.out.y.store (R := w.heap.size + 1) (.inl HN2.out.2) 0 [.int .i64 y0, .int .i64 y1, .bool false, .bool true, .int .i64 yr.freq, .int .i64 yr.iv, .int .i64 yr.count, .int .i64 yr.until_, .slice qr.A1 yr.bm.length qr.c1, .slice qr.A2 yr.bd.length qr.c2, .slice qr.A3 yr.bw.length qr.c3, .slice qr.A4 yr.bs.length qr.c4, .int .i64 yr.start, .slice qx.1 yx.length qx.2, .slice qp.1 yp.length qp.2, .slice qc.1 yc.length qc.2]).own (s := w.heap.size) fun k hk => .inl (Nat.lt_of_lt_of_le hk HB.out.size))
  have HSE := Lib.hid hset
  clear hset
  refine bodyPost_ret (results_cell_row rfl _ _ (w.heap.size + 1) 63 #[.int .i64 y0, .int .i64 y1, .bool false, .bool true, .int .i64 yr.freq, .int .i64 yr.iv, .int .i64 yr.count, .int .i64 yr.until_, .slice qr.A1 yr.bm.length qr.c1, .slice qr.A2 yr.bd.length qr.c2, .slice qr.A3 yr.bw.length qr.c3, .slice qr.A4 yr.bs.length qr.c4, .int .i64 yr.start, .slice qx.1 yx.length qx.2, .slice qp.1 yp.length qp.2, .slice qc.1 yc.length qc.2] (0, 0) _ rfl HSE.out Tryz.underlying63 rfl (by kernel_rfl)) rfl ?_
  exact ⟨⟨y0, y1, false, true, yr, yx, yp, yc⟩, ⟨qr.A1, qr.A2, qr.A3, qr.A4, qx.1, qp.1, qc.1, qr.c1, qr.c2, qr.c3, qr.c4, qx.2, qp.2, qc.2⟩, _, _, _, rfl, HTO.out, HOW.out.imp (fun V hV => ⟨hV.1.1.1.2, (by rw [iv_kv]; exact hV.1.1.2), (by rw [iv_kv]; exact hV.1.2), (by rw [cv_kv]; exact hV.2)⟩), dn_ev HHL.out (dn_evR (show Dn cdEvR _ _ _ _ _ _ from HDr.out.pair (HDx.out.pair (HDp.out.pair HDc.out))))⟩
end Go.Proofs.YtdhinjbkfffpeaaGreat
end
section
namespace Go.Proofs.YtdhinjbkfffpeaaGreat
open Go.ChangeShapes Go.WideShapes Go.ChangeAt Go.RowKit Go.Joins Sp Fr Pk
end Go.Proofs.YtdhinjbkfffpeaaGreat
end
