import Derived.Test.YtdhinjbkfffpeaaGreatYOL
import Derived.Test.YtdhinjbkfffpeaaGreatYOK
/- Contracts of the program's pass: requests: how they are told. -/
section
namespace Go.Proofs.YtdhinjbkfffpeaaGreat
open Go.ChangeShapes Go.WideShapes Go.ChangeAt Go.RowKit Go.Joins Sp Fr Pk
def akZ : Ak := noAk (0, 0, 0)
def akH (k : Int) (c n : Nat) : Ak := { noAk (k, c, n) with user := 0 }
theorem akc_info (r : Ak) (p : AkP) : (Tryz.prog.info? 65).map (·.size) = some (aCells r p).toArray.size := by kernel_rfl
theorem akc_info2 (r : Ak) (p : AkP) : (Tryz.prog.info? 65).map (·.size) = some (aCells r p).length := by kernel_rfl
theorem akc_one (r : Ak) (p : AkP) : (aCells r p).toArray.all (·.oneCell') = true := by simp [aCells, sCells, eCells, qCells, Value.oneCell']
theorem wp_alloc {P : Program} {o : Oper} {a : Act} {w : World} {K : Act → World → Prop} {Q : Exit → Act → World → Prop} {t : TypeId} {c : Array Value} (ho : o.op = .alloc t)
  (hl : (Instr.alloc t true (.tuple #[])).run P w = .ok (.pointer (some ⟨w.heap.size, 0, none⟩)) (w.alloc (.cells c t))) (h : K (a.put o.dst (.pointer (some ⟨w.heap.size, 0, none⟩))) (w.alloc (.cells c t))) : Oper.wp P o a w K Q := by
 have he : (execOp a.eval o).run P w = .ok (.value (.pointer (some ⟨w.heap.size, 0, none⟩))) (w.alloc (.cells c t)) := by
  unfold execOp
  rw [ho]
  simp [hl]
 unfold Oper.wp
 rw [he]
 exact h
theorem exec_build {P : Program} {o : Oper} {a : Act} {w : World} {t : TypeId} {ps : Array (Nat × Operand)} {v : Value} (ho : o.op = .build t ps) (hl : (Instr.build t (ps.map fun (i, x) => (i, a.eval x))).run P w = .ok v w) : (execOp a.eval o).run P w = .ok (.value v) w := by
 unfold execOp
 rw [ho]
 simp [hl]
def akTail (x : Ak) : Nat := cdStg.cost x.settings + (cdEv.cost x.event + (cdQy.cost x.query + (x.cursor.length + 100)))
def cdAkH : Cd (Int × Nat × Nat) := (cdInt 11).pair ((cdNum 4294967295).pair (cdNum 18446744073709551615))
def cdAkB (h : Int × Nat × Nat) : Cd Ak := ⟨Ak.bodyT, fun a => (a.kind, a.caller, a.number) = h ∧ (1 ≤ a.kind ∧ a.kind ≤ 11) ∧ a.named = a ∧ a.bodyO, rdAkB h, akTail, (cod_akb h).bad⟩
def cdAk : Cd Ak := ⟨Ak.T, Ak.O, rdAk, fun x => 30 + akTail x, cod_ak.bad⟩
theorem dn_ak {x y : Ak} {m m1 m2 : Md} {b b1 b2 : Bool} {h : Int × Nat × Nat} (h1 : Dn cdAkH (x.kind, x.caller, x.number) m b h m1 b1) (h2 : Dn (cdAkB h) x m1 b1 y m2 b2) : Dn cdAk x m b y m2 b2 :=
 h1.two (d := cdAkB) (D := cdAk) h2 (fun _ e => e) (by show (10 + (10 + 10)) + akTail x ≤ 30 + akTail x; omega) (fun o => ⟨⟨⟨by have := o.2.1.1; show (0 : Int) ≤ x.kind; omega, o.2.1.2⟩, u32_le.1 o.1.1, u64_le.1 o.1.2⟩, ⟨rfl, o.2.1, o.2.2⟩, rfl⟩) (fun _ => rfl) rfl (fun r => by rw [show cdAkH.rd = rdAkH from rfl]; rfl)
theorem dn_ak2 {x : Ak} {c n : Nat} {m : Md} {b : Bool} : Dn (cdAkB (2, c, n)) x m b (noAk (2, c, n)) m b := by
 refine (Dn.unit m b).conv (fun t => mkAk2 (2, c, n) t) (Nat.zero_le _) (fun o => ?_) (fun o => ?_) rfl (fun _ => rfl)
 ·obtain ⟨q1, _, q3, q4⟩ := o
  obtain ⟨a1, a2, a3, a4, a5, a6, a7, a8, a9, a10, a11, a12, a13, a14⟩ := x
  simp only [Prod.mk.injEq] at q1
  obtain ⟨rfl, rfl, rfl⟩ := q1
  exact ⟨trivial, q3⟩
 ·obtain ⟨q1, _, q3, q4⟩ := o
  obtain ⟨a1, a2, a3, a4, a5, a6, a7, a8, a9, a10, a11, a12, a13, a14⟩ := x
  simp only [Prod.mk.injEq] at q1
  obtain ⟨rfl, rfl, rfl⟩ := q1
  rfl
end Go.Proofs.YtdhinjbkfffpeaaGreat
end
section
namespace Go.Proofs.YtdhinjbkfffpeaaGreat
open Go.ChangeShapes Go.WideShapes Go.ChangeAt Go.RowKit Go.Joins Sp Fr Pk
set_option maxRecDepth 100000 in
set_option maxHeartbeats 4000000 in
theorem pask2_any (P : Nat) (x : Ak) (p : AkP) (hx : x.Fits) (m : Md) (b : Bool) (F : Nat → Prop) (w : World) (h : PsAt w P m b F) (hr : m.Room (cdAk.cost x)) (hz : m.Rd → x = noAk (0, 0, 0)) (hm : Held F w (fun V => AkAt V x p)) (H2 : ∀ y m2 b2, Dn cdAkH (x.kind, x.caller, x.number) m b y m2 b2 → y.1 = 2) :
  Calls Tryz.prog 57 #[.pointer (some ⟨P, 0, none⟩), .agg (aCells x p).toArray] w (Told (fun (y : Ak) (q : AkP) => .agg (aCells y q).toArray) AkAt cdAk x P m b F w) := by
 obtain ⟨W1, hW1⟩ : ∃ W1, ((w.alloc (.cells (aCells x p).toArray 65)).alloc (.cells #[.int .i64 0, .int .u32 0, .int .u64 0, .int .u32 0, .int .u32 0, .int .i64 0, .slice none 0 0, .slice none 0 0, .slice none 0 0, .int .i64 0, .int .i64 0, .int .i64 0, .int .i64 0, .bool false, .bool false, .int .i64 0, .int .i64 0, .int .i64 0, .int .i64 0, .slice none 0 0, .slice none 0 0, .slice none 0 0, .slice none 0 0, .int .i64 0, .slice none 0 0, .slice none 0 0, .slice none 0 0, .int .i64 0, .int .i64 0, .int .i64 0, .int .i64 0, .slice none 0 0, .slice none 0 0, .int .i64 0, .slice none 0 0, .slice none 0 0, .string ⟨#[]⟩, .int .i64 0, .int .u32 0, .int .i64 0, .bool false, .int .i64 0] 65)) = W1 := ⟨_, rfl⟩
 have HB : Hid (Below w.heap.size w W1) := by show Below _ _ _; rw [← hW1]; exact ((Below.refl _ _).alloc (Nat.le_refl _) _).alloc (by simp) _
 have hb1 : W1.heap[w.heap.size]? = some (.cells (aCells x p).toArray 65 (0, 0)) := by rw [← hW1, heap_alloc_old _ _ (by simp), heap_alloc_new]
 have hb2 : W1.heap[w.heap.size + 1]? = some (.cells (aCells akZ noAkP).toArray 65 (0, 0)) := by rw [← hW1]; exact heap_alloc_new2 _ _ _
 have n1 : ¬ F w.heap.size := h.not (by omega)
 have n2 : ¬ F (w.heap.size + 1) := h.not (by omega)
 have HN2 : Hid (¬ F (w.heap.size + 1) ∧ w.heap.size + 1 < W1.heap.size) := ⟨n2, heap_lt hb2⟩
 have E1 := Lib.hid hW1
 obtain ⟨XB, hXB⟩ : ∃ X : World → Prop, X = fun V => V.heap[w.heap.size]? = some (.cells (aCells x p).toArray 65 (0, 0)) := ⟨_, rfl⟩
 obtain ⟨X, hX⟩ : ∃ X : World → Prop, X = fun V => (XB V ∧ V.heap[w.heap.size + 1]? = some (.cells (aCells akZ noAkP).toArray 65 (0, 0))) ∧ AkAt V x p := ⟨_, rfl⟩
 have HXV : Hid (∀ V, XB V → V.heap[w.heap.size]? = some (.cells (aCells x p).toArray 65 (0, 0))) := fun V hV => by rw [hXB] at hV; exact hV
 have HZL : Hid (∀ V, XB V → V.cell? ⟨w.heap.size, 0, none⟩ = some (.int .i64 x.kind) ∧ V.cell? ⟨w.heap.size, 1, none⟩ = some (.int .u32 (x.caller : Int)) ∧ V.cell? ⟨w.heap.size, 2, none⟩ = some (.int .u64 (x.number : Int))) := fun V hV => by
  have hV := HXV.out V hV
  exact ⟨blk_cell hV rfl, blk_cell hV rfl, blk_cell hV rfl⟩
 have HXB : Hid (∀ V, X V → XB V) := fun V hV => by rw [hX] at hV; exact hV.1.1
 have HXR : Hid (∀ V, X V → V.heap[w.heap.size + 1]? = some (.cells (aCells akZ noAkP).toArray 65 (0, 0))) := fun V hV => by rw [hX] at hV; exact hV.1.2
 have HXM : Hid (∀ V, X V → AkAt V x p) := fun V hV => by rw [hX] at hV; exact hV.2
 have HXA : Hid (∀ V o, XB V → XB (V.alloc o)) := fun V o hV => by
  rw [hXB] at hV ⊢
  show (V.alloc o).heap[w.heap.size]? = _
  rw [heap_alloc_old _ _ (heap_lt hV)]; exact hV
 have HXD : Hid (∀ V, XB V → XB V.drew) := fun V hV => by rw [hXB] at hV ⊢; exact hV
 have HXS : Hid (∀ V C o vs, w.heap.size ≠ C → XB V → XB (V.setCells C o vs)) := fun V C o vs hne hV => by
  rw [hXB] at hV ⊢
  show (V.setCells C o vs).heap[w.heap.size]? = _
  rw [setCells_ne hne]; exact hV
 have HXH : Hid (Held F W1 X) := by show Held _ _ _; rw [hX, hXB]; exact ((Held.blk hb1 n1).and (Held.blk hb2 n2)).and (hm.below HB.out)
 have HS0 : Hid (St W1 W1.drew P m b F F X (fun _ => True)) := (St.start (h.below HB.out) HXH.out).drew
 have HR0 : Hid (m.Room ((cdInt 11).cost x.kind + ((cdNum 4294967295).cost x.caller + ((cdNum 18446744073709551615).cost x.number + akTail x)))) := hr.mono (by show 10 + (10 + (10 + akTail x)) ≤ 30 + akTail x; omega)
 have HM0 : Hid (m.Rd → m.Rd) := id
 have HZ := Lib.hid hz
 have HXF := Lib.hid hx
 have HK2 := Lib.hid H2
 have HC0 := Lib.hid (fun mx bx Fx wx h hr => pnumberI_any P x.kind 11 (by decide) hx.kind mx bx Fx wx h hr)
 have HC1 := Lib.hid (fun mx bx Fx wx h hr => pid_any P x.caller hx.caller mx bx Fx wx h hr)
 have HC2 := Lib.hid (fun mx bx Fx wx h hr => panyNumber_any P x.number hx.number mx bx Fx wx h hr)
 clear hW1 hX hXB hb1 hb2 n1 n2 h hr hz hm hx H2
 go_enter Tryz.func57, Tryz.ntmps57
 go_upto_region 1 with fail
 rw [E1.out]
 generalize (Value.agg (aCells x p).toArray) = va
 go_cut [5] from 6 to 138 (fun s5 wx => ∃ (C : Nat) (y0 : Int) (y1 y2 : Nat) (m2 : Md) (b2 : Bool) (F2 : Nat → Prop), s5 = .pointer (some ⟨C, 0, none⟩) ∧ Hid (Hd W1 wx P m2 b2 F F2 C (aCells (akH y0 y1 y2) noAkP).toArray 65) ∧ Hid (Dn cdAkH (x.kind, x.caller, x.number) m b (y0, y1, y2) m2 b2))
 case first =>
  refine wp_region_lexF XB (fun k => [3, 7, 11, 14].contains k) 13 50 [0, 1, 2, 4, 5, 6, 8, 9, 10, 3, 7, 11, 12, 13, 14] rfl (by kernel_rfl) (by kernel_rfl) (by kernel_rfl) (fun _ _ _ _ _ h => h) (HXB.out _ HS0.out.now) (fun OPS hOPS => ?_)
  generalize World.drew W1 = w0 at *
  have hk0 := congrArg (fun x => x[0]?) hOPS
  simp only [List.getElem?_toArray, List.getElem?_cons_zero, List.getElem?_cons_succ] at hk0
  have hk1 := congrArg (fun x => x[1]?) hOPS
  simp only [List.getElem?_toArray, List.getElem?_cons_zero, List.getElem?_cons_succ] at hk1
  have hk2 := congrArg (fun x => x[2]?) hOPS
  simp only [List.getElem?_toArray, List.getElem?_cons_zero, List.getElem?_cons_succ] at hk2
  have hk3 := congrArg (fun x => x[3]?) hOPS
  simp only [List.getElem?_toArray, List.getElem?_cons_zero, List.getElem?_cons_succ] at hk3
  have hk4 := congrArg (fun x => x[4]?) hOPS
  simp only [List.getElem?_toArray, List.getElem?_cons_zero, List.getElem?_cons_succ] at hk4
  have hk5 := congrArg (fun x => x[5]?) hOPS
  simp only [List.getElem?_toArray, List.getElem?_cons_zero, List.getElem?_cons_succ] at hk5
  have hk6 := congrArg (fun x => x[6]?) hOPS
  simp only [List.getElem?_toArray, List.getElem?_cons_zero, List.getElem?_cons_succ] at hk6
  have hk7 := congrArg (fun x => x[7]?) hOPS
  simp only [List.getElem?_toArray, List.getElem?_cons_zero, List.getElem?_cons_succ] at hk7
  have hk8 := congrArg (fun x => x[8]?) hOPS
  simp only [List.getElem?_toArray, List.getElem?_cons_zero, List.getElem?_cons_succ] at hk8
  have hk9 := congrArg (fun x => x[9]?) hOPS
  simp only [List.getElem?_toArray, List.getElem?_cons_zero, List.getElem?_cons_succ] at hk9
  have hk10 := congrArg (fun x => x[10]?) hOPS
  simp only [List.getElem?_toArray, List.getElem?_cons_zero, List.getElem?_cons_succ] at hk10
  have hk11 := congrArg (fun x => x[11]?) hOPS
  simp only [List.getElem?_toArray, List.getElem?_cons_zero, List.getElem?_cons_succ] at hk11
  have hk12 := congrArg (fun x => x[12]?) hOPS
  simp only [List.getElem?_toArray, List.getElem?_cons_zero, List.getElem?_cons_succ] at hk12
  have hk13 := congrArg (fun x => x[13]?) hOPS
  simp only [List.getElem?_toArray, List.getElem?_cons_zero, List.getElem?_cons_succ] at hk13
  have hk14 := congrArg (fun x => x[14]?) hOPS
  simp only [List.getElem?_toArray, List.getElem?_cons_zero, List.getElem?_cons_succ] at hk14
  clear hOPS
  refine wpHf_yes (v := ?_) hk0 (by decide) rfl rfl (fun w' hS => ?_) ?_; rotate_left; (go_simp; with_reducible rfl); (try simp only [Act.put, List.setIfInBounds_toArray, List.set_cons_zero, List.set_cons_succ])
  refine wpHf_yes (v := ?_) hk1 (by decide) rfl rfl (fun w' hS => ?_) ?_; rotate_left; (go_simp; with_reducible rfl); (try simp only [Act.put, List.setIfInBounds_toArray, List.set_cons_zero, List.set_cons_succ])
  refine wpHf_yes (v := ?_) hk2 (by decide) rfl rfl (fun w' hS => ?_) ?_; rotate_left; (obtain ⟨f0, f1, f2⟩ := HZL.out w' hS; go_simp; with_reducible rfl); (try simp only [Act.put, List.setIfInBounds_toArray, List.set_cons_zero, List.set_cons_succ])
  refine wpHf_yes (v := ?_) hk4 (by decide) rfl rfl (fun w' hS => ?_) ?_; rotate_left; (go_simp; with_reducible rfl); (try simp only [Act.put, List.setIfInBounds_toArray, List.set_cons_zero, List.set_cons_succ])
  refine wpHf_yes (v := ?_) hk5 (by decide) rfl rfl (fun w' hS => ?_) ?_; rotate_left; (go_simp; with_reducible rfl); (try simp only [Act.put, List.setIfInBounds_toArray, List.set_cons_zero, List.set_cons_succ])
  refine wpHf_yes (v := ?_) hk6 (by decide) rfl rfl (fun w' hS => ?_) ?_; rotate_left; (obtain ⟨f0, f1, f2⟩ := HZL.out w' hS; go_simp; with_reducible rfl); (try simp only [Act.put, List.setIfInBounds_toArray, List.set_cons_zero, List.set_cons_succ])
  refine wpHf_yes (v := ?_) hk8 (by decide) rfl rfl (fun w' hS => ?_) ?_; rotate_left; (go_simp; with_reducible rfl); (try simp only [Act.put, List.setIfInBounds_toArray, List.set_cons_zero, List.set_cons_succ])
  refine wpHf_yes (v := ?_) hk9 (by decide) rfl rfl (fun w' hS => ?_) ?_; rotate_left; (go_simp; with_reducible rfl); (try simp only [Act.put, List.setIfInBounds_toArray, List.set_cons_zero, List.set_cons_succ])
  refine wpHf_yes (v := ?_) hk10 (by decide) rfl rfl (fun w' hS => ?_) ?_; rotate_left; (obtain ⟨f0, f1, f2⟩ := HZL.out w' hS; go_simp; with_reducible rfl); (try simp only [Act.put, List.setIfInBounds_toArray, List.set_cons_zero, List.set_cons_succ])
  refine wpHf_both hk3 hk13 (by decide) rfl (wpK_yes rfl (fun K hK => ?_)) (wpK_yes rfl (fun K hK => ?_))
  ·go_simp
   go_at_call 102
   refine (HC0.out _ _ _ _ HS0.out.to.at_ (HR0.out.mono (Nat.le_add_right _ _))).mono ?_
   rintro e w1 ⟨y0, m0, b0, F0, rfl, hT, hD, hy⟩
   have HD0 := Lib.hid hD
   have HR1 := Lib.hid (hD.room HR0.out)
   have HM1 : Hid (m0.Rd → m.Rd) := fun hm => HM0.out (hD.mode.1 hm)
   have HS1 := Lib.hid (HS0.out.tel hT)
   clear hT hD hy HS0 HR0 HC0 HM0
   refine hK _ _ (HXB.out _ HS1.out.now) (fun _ => ?_)
   clear hK K
   refine wpHf_both hk7 hk13 (by decide) rfl (wpK_yes rfl (fun K hK => ?_)) (wpK_yes rfl (fun K hK => ?_))
   ·go_simp
    go_at_call 103
    refine (HC1.out _ _ _ _ HS1.out.to.at_ (HR1.out.mono (Nat.le_add_right _ _))).mono ?_
    rintro e w2 ⟨y1, m1, b1, F1, rfl, hT, hD, hy⟩
    have HD1 := Lib.hid hD
    have HR2 := Lib.hid (hD.room HR1.out)
    have HM2 : Hid (m1.Rd → m.Rd) := fun hm => HM1.out (hD.mode.1 hm)
    have HS2 := Lib.hid (HS1.out.tel hT)
    clear hT hD hy HS1 HR1 HC1 HM1
    refine hK _ _ (HXB.out _ HS2.out.now) (fun _ => ?_)
    clear hK K
    refine wpHf_both hk11 hk13 (by decide) rfl (wpK_yes rfl (fun K hK => ?_)) (wpK_yes rfl (fun K hK => ?_))
    ·go_simp
     go_at_call 61
     refine (HC2.out _ _ _ _ HS2.out.to.at_ (HR2.out.mono (Nat.le_add_right _ _))).mono ?_
     rintro e w3 ⟨y2, m2, b2, F2, rfl, hT, hD, hy⟩
     have HD2 := Lib.hid hD
     have HR3 := Lib.hid (hD.room HR2.out)
     have HM3 : Hid (m2.Rd → m.Rd) := fun hm => HM2.out (hD.mode.1 hm)
     have HS3 := Lib.hid (HS2.out.tel hT)
     clear hT hD hy HS2 HR2 HC2 HM2
     refine hK _ _ (HXB.out _ HS3.out.now) (fun _ => ?_)
     clear hK K
     refine wpHf_yes (v := .agg (aCells (akH y0 y1 y2) noAkP).toArray) hk12 (by decide) rfl rfl (fun w' hS => exec_build rfl (by kernel_rfl)) ?_
     (try simp only [Act.put, List.setIfInBounds_toArray, List.set_cons_zero, List.set_cons_succ])
     refine wpHf_new hk13 (wpK_yes rfl (fun K hK => ?_))
     refine wp_alloc (c := (aCells akZ noAkP).toArray) rfl rfl ?_
     refine hK _ _ (HXA.out _ _ (HXB.out _ HS3.out.now)) (fun _ => ?_)
     (try simp only [Act.put, List.setIfInBounds_toArray, List.set_cons_zero, List.set_cons_succ])
     clear hK K
     have hca := heap_alloc_new w3 (.cells (aCells akZ noAkP).toArray 65)
     have hst := HS3.out.alloc (.cells (aCells akZ noAkP).toArray 65)
     obtain ⟨C, hC⟩ : ∃ C, w3.heap.size = C := ⟨_, rfl⟩
     obtain ⟨v3, hv⟩ : ∃ v, w3.alloc (.cells (aCells akZ noAkP).toArray 65) = v := ⟨_, rfl⟩
     have Hnf3 : Hid (¬ F2 C) := by show ¬ _; rw [← hC]; exact HS3.out.to.at_.not (Nat.le_refl _)
     have HCle : Hid (W1.heap.size ≤ C) := by show _ ≤ _; rw [← hC]; exact HS3.out.to.off.size
     have HCne : Hid (w.heap.size ≠ C) := by have h1 := HCle.out; have h2 := HN2.out.2; show _ ≠ _; omega
     rw [hv] at hca hst ⊢
     rw [hC] at hca ⊢
     clear HS3 hC hv
     have HS3 := Lib.hid hst
     have HE3 : Hid (v3.heap[C]? = some (.cells (aCells akZ noAkP).toArray 65 (0, 0))) := hca
     clear hst hca
     refine wpHf_call hk14 (by decide) rfl (wpK_yes rfl (fun K hK => ?_))
     refine wp_store_mid 65 (.tmp 5) (.tmp 18) rfl C 0 (aCells (akH y0 y1 y2) noAkP).toArray rfl rfl (blk_there HE3.out (Nat.le_refl _)) (akc_info _ _) (akc_one _ _) ?_
     refine hK _ _ (HXS.out _ _ _ _ HCne.out (HXB.out _ HS3.out.now)) (fun _ => ?_)
     simp only [Act.put]
     clear hK K
     have hset := setCells_blk (b := C) (aCells (akH y0 y1 y2) noAkP) 0 _ _ HE3.out
     rw [setAll_all (by rfl)] at hset
     have HTT := HS3.out.to.store HCle.out Hnf3.out 0 (aCells (akH y0 y1 y2) noAkP)
     show Exit.then _ _ _ _ _
     go_wp2_with fail
     go_meet
     case rel =>
      exact ⟨C, y0, y1, y2, m2, b2, F2, rfl, ⟨HTT, hset, Hnf3.out, HCle.out⟩, HD0.out.pair (HD1.out.pair HD2.out)⟩
    ·refine wp_alloc (c := (aCells akZ noAkP).toArray) rfl rfl ?_
     refine hK _ _ (HXA.out _ _ (HXB.out _ HS2.out.now)) (fun _ => ?_)
     (try simp only [Act.put, List.setIfInBounds_toArray, List.set_cons_zero, List.set_cons_succ])
     clear hK K
     have hca := heap_alloc_new w2 (.cells (aCells akZ noAkP).toArray 65)
     have hst := HS2.out.alloc (.cells (aCells akZ noAkP).toArray 65)
     obtain ⟨C, hC⟩ : ∃ C, w2.heap.size = C := ⟨_, rfl⟩
     obtain ⟨v2, hv⟩ : ∃ v, w2.alloc (.cells (aCells akZ noAkP).toArray 65) = v := ⟨_, rfl⟩
     have Hnf2 : Hid (¬ F1 C) := by show ¬ _; rw [← hC]; exact HS2.out.to.at_.not (Nat.le_refl _)
     have HCle : Hid (W1.heap.size ≤ C) := by show _ ≤ _; rw [← hC]; exact HS2.out.to.off.size
     have HCne : Hid (w.heap.size ≠ C) := by have h1 := HCle.out; have h2 := HN2.out.2; show _ ≠ _; omega
     rw [hv] at hca hst ⊢
     rw [hC] at hca ⊢
     clear HS2 hC hv
     have HS2 := Lib.hid hst
     have HE2 : Hid (v2.heap[C]? = some (.cells (aCells akZ noAkP).toArray 65 (0, 0))) := hca
     clear hst hca
     refine wpHf_call hk11 (by decide) rfl (wpK_yes rfl (fun K hK => ?_))
     go_simp
     go_at_call 61
     refine (HC2.out _ _ _ _ HS2.out.to.at_ (HR2.out.mono (Nat.le_add_right _ _))).mono ?_
     rintro e w3 ⟨y2, m2, b2, F2, rfl, hT, hD, hy⟩
     have HD2 := Lib.hid hD
     have HR3 := Lib.hid (hD.room HR2.out)
     have HM3 : Hid (m2.Rd → m.Rd) := fun hm => HM2.out (hD.mode.1 hm)
     have HS3 := Lib.hid (HS2.out.tel hT)
     have HE3 := Lib.hid (hT.off.heap HE2.out Hnf2.out)
     have Hnf3 : Hid (¬ F2 C) := hT.not Hnf2.out (heap_lt HE2.out)
     clear hT hD hy HS2 HR2 HC2 HM2 HE2 Hnf2
     refine hK _ _ (HXB.out _ HS3.out.now) (fun _ => ?_)
     clear hK K
     refine wpHf_yes (v := .agg (aCells (akH y0 y1 y2) noAkP).toArray) hk12 (by decide) rfl rfl (fun w' hS => exec_build rfl (by kernel_rfl)) ?_
     (try simp only [Act.put, List.setIfInBounds_toArray, List.set_cons_zero, List.set_cons_succ])
     refine wpHf_was ?_
     refine wpHf_call hk14 (by decide) rfl (wpK_yes rfl (fun K hK => ?_))
     refine wp_store_mid 65 (.tmp 5) (.tmp 18) rfl C 0 (aCells (akH y0 y1 y2) noAkP).toArray rfl rfl (blk_there HE3.out (Nat.le_refl _)) (akc_info _ _) (akc_one _ _) ?_
     refine hK _ _ (HXS.out _ _ _ _ HCne.out (HXB.out _ HS3.out.now)) (fun _ => ?_)
     simp only [Act.put]
     clear hK K
     have hset := setCells_blk (b := C) (aCells (akH y0 y1 y2) noAkP) 0 _ _ HE3.out
     rw [setAll_all (by rfl)] at hset
     have HTT := HS3.out.to.store HCle.out Hnf3.out 0 (aCells (akH y0 y1 y2) noAkP)
     show Exit.then _ _ _ _ _
     go_wp2_with fail
     go_meet
     case rel =>
      exact ⟨C, y0, y1, y2, m2, b2, F2, rfl, ⟨HTT, hset, Hnf3.out, HCle.out⟩, HD0.out.pair (HD1.out.pair HD2.out)⟩
   ·refine wp_alloc (c := (aCells akZ noAkP).toArray) rfl rfl ?_
    refine hK _ _ (HXA.out _ _ (HXB.out _ HS1.out.now)) (fun _ => ?_)
    (try simp only [Act.put, List.setIfInBounds_toArray, List.set_cons_zero, List.set_cons_succ])
    clear hK K
    have hca := heap_alloc_new w1 (.cells (aCells akZ noAkP).toArray 65)
    have hst := HS1.out.alloc (.cells (aCells akZ noAkP).toArray 65)
    obtain ⟨C, hC⟩ : ∃ C, w1.heap.size = C := ⟨_, rfl⟩
    obtain ⟨v1, hv⟩ : ∃ v, w1.alloc (.cells (aCells akZ noAkP).toArray 65) = v := ⟨_, rfl⟩
    have Hnf1 : Hid (¬ F0 C) := by show ¬ _; rw [← hC]; exact HS1.out.to.at_.not (Nat.le_refl _)
    have HCle : Hid (W1.heap.size ≤ C) := by show _ ≤ _; rw [← hC]; exact HS1.out.to.off.size
    have HCne : Hid (w.heap.size ≠ C) := by have h1 := HCle.out; have h2 := HN2.out.2; show _ ≠ _; omega
    rw [hv] at hca hst ⊢
    rw [hC] at hca ⊢
    clear HS1 hC hv
    have HS1 := Lib.hid hst
    have HE1 : Hid (v1.heap[C]? = some (.cells (aCells akZ noAkP).toArray 65 (0, 0))) := hca
    clear hst hca
    refine wpHf_call hk7 (by decide) rfl (wpK_yes rfl (fun K hK => ?_))
    go_simp
    go_at_call 103
    refine (HC1.out _ _ _ _ HS1.out.to.at_ (HR1.out.mono (Nat.le_add_right _ _))).mono ?_
    rintro e w2 ⟨y1, m1, b1, F1, rfl, hT, hD, hy⟩
    have HD1 := Lib.hid hD
    have HR2 := Lib.hid (hD.room HR1.out)
    have HM2 : Hid (m1.Rd → m.Rd) := fun hm => HM1.out (hD.mode.1 hm)
    have HS2 := Lib.hid (HS1.out.tel hT)
    have HE2 := Lib.hid (hT.off.heap HE1.out Hnf1.out)
    have Hnf2 : Hid (¬ F1 C) := hT.not Hnf1.out (heap_lt HE1.out)
    clear hT hD hy HS1 HR1 HC1 HM1 HE1 Hnf1
    refine hK _ _ (HXB.out _ HS2.out.now) (fun _ => ?_)
    clear hK K
    refine wpHf_call hk11 (by decide) rfl (wpK_yes rfl (fun K hK => ?_))
    go_simp
    go_at_call 61
    refine (HC2.out _ _ _ _ HS2.out.to.at_ (HR2.out.mono (Nat.le_add_right _ _))).mono ?_
    rintro e w3 ⟨y2, m2, b2, F2, rfl, hT, hD, hy⟩
    have HD2 := Lib.hid hD
    have HR3 := Lib.hid (hD.room HR2.out)
    have HM3 : Hid (m2.Rd → m.Rd) := fun hm => HM2.out (hD.mode.1 hm)
    have HS3 := Lib.hid (HS2.out.tel hT)
    have HE3 := Lib.hid (hT.off.heap HE2.out Hnf2.out)
    have Hnf3 : Hid (¬ F2 C) := hT.not Hnf2.out (heap_lt HE2.out)
    clear hT hD hy HS2 HR2 HC2 HM2 HE2 Hnf2
    refine hK _ _ (HXB.out _ HS3.out.now) (fun _ => ?_)
    clear hK K
    refine wpHf_yes (v := .agg (aCells (akH y0 y1 y2) noAkP).toArray) hk12 (by decide) rfl rfl (fun w' hS => exec_build rfl (by kernel_rfl)) ?_
    (try simp only [Act.put, List.setIfInBounds_toArray, List.set_cons_zero, List.set_cons_succ])
    refine wpHf_was ?_
    refine wpHf_call hk14 (by decide) rfl (wpK_yes rfl (fun K hK => ?_))
    refine wp_store_mid 65 (.tmp 5) (.tmp 18) rfl C 0 (aCells (akH y0 y1 y2) noAkP).toArray rfl rfl (blk_there HE3.out (Nat.le_refl _)) (akc_info _ _) (akc_one _ _) ?_
    refine hK _ _ (HXS.out _ _ _ _ HCne.out (HXB.out _ HS3.out.now)) (fun _ => ?_)
    simp only [Act.put]
    clear hK K
    have hset := setCells_blk (b := C) (aCells (akH y0 y1 y2) noAkP) 0 _ _ HE3.out
    rw [setAll_all (by rfl)] at hset
    have HTT := HS3.out.to.store HCle.out Hnf3.out 0 (aCells (akH y0 y1 y2) noAkP)
    show Exit.then _ _ _ _ _
    go_wp2_with fail
    go_meet
    case rel =>
     exact ⟨C, y0, y1, y2, m2, b2, F2, rfl, ⟨HTT, hset, Hnf3.out, HCle.out⟩, HD0.out.pair (HD1.out.pair HD2.out)⟩
  ·refine wp_alloc (c := (aCells akZ noAkP).toArray) rfl rfl ?_
   refine hK _ _ (HXA.out _ _ (HXB.out _ HS0.out.now)) (fun _ => ?_)
   (try simp only [Act.put, List.setIfInBounds_toArray, List.set_cons_zero, List.set_cons_succ])
   clear hK K
   have hca := heap_alloc_new w0 (.cells (aCells akZ noAkP).toArray 65)
   have hst := HS0.out.alloc (.cells (aCells akZ noAkP).toArray 65)
   obtain ⟨C, hC⟩ : ∃ C, w0.heap.size = C := ⟨_, rfl⟩
   obtain ⟨v0, hv⟩ : ∃ v, w0.alloc (.cells (aCells akZ noAkP).toArray 65) = v := ⟨_, rfl⟩
   have Hnf0 : Hid (¬ F C) := by show ¬ _; rw [← hC]; exact HS0.out.to.at_.not (Nat.le_refl _)
   have HCle : Hid (W1.heap.size ≤ C) := by show _ ≤ _; rw [← hC]; exact HS0.out.to.off.size
   have HCne : Hid (w.heap.size ≠ C) := by have h1 := HCle.out; have h2 := HN2.out.2; show _ ≠ _; omega
   rw [hv] at hca hst ⊢
   rw [hC] at hca ⊢
   clear HS0 hC hv
   have HS0 := Lib.hid hst
   have HE0 : Hid (v0.heap[C]? = some (.cells (aCells akZ noAkP).toArray 65 (0, 0))) := hca
   clear hst hca
   refine wpHf_call hk3 (by decide) rfl (wpK_yes rfl (fun K hK => ?_))
   go_simp
   go_at_call 102
   refine (HC0.out _ _ _ _ HS0.out.to.at_ (HR0.out.mono (Nat.le_add_right _ _))).mono ?_
   rintro e w1 ⟨y0, m0, b0, F0, rfl, hT, hD, hy⟩
   have HD0 := Lib.hid hD
   have HR1 := Lib.hid (hD.room HR0.out)
   have HM1 : Hid (m0.Rd → m.Rd) := fun hm => HM0.out (hD.mode.1 hm)
   have HS1 := Lib.hid (HS0.out.tel hT)
   have HE1 := Lib.hid (hT.off.heap HE0.out Hnf0.out)
   have Hnf1 : Hid (¬ F0 C) := hT.not Hnf0.out (heap_lt HE0.out)
   clear hT hD hy HS0 HR0 HC0 HM0 HE0 Hnf0
   refine hK _ _ (HXB.out _ HS1.out.now) (fun _ => ?_)
   clear hK K
   refine wpHf_call hk7 (by decide) rfl (wpK_yes rfl (fun K hK => ?_))
   go_simp
   go_at_call 103
   refine (HC1.out _ _ _ _ HS1.out.to.at_ (HR1.out.mono (Nat.le_add_right _ _))).mono ?_
   rintro e w2 ⟨y1, m1, b1, F1, rfl, hT, hD, hy⟩
   have HD1 := Lib.hid hD
   have HR2 := Lib.hid (hD.room HR1.out)
   have HM2 : Hid (m1.Rd → m.Rd) := fun hm => HM1.out (hD.mode.1 hm)
   have HS2 := Lib.hid (HS1.out.tel hT)
   have HE2 := Lib.hid (hT.off.heap HE1.out Hnf1.out)
   have Hnf2 : Hid (¬ F1 C) := hT.not Hnf1.out (heap_lt HE1.out)
   clear hT hD hy HS1 HR1 HC1 HM1 HE1 Hnf1
   refine hK _ _ (HXB.out _ HS2.out.now) (fun _ => ?_)
   clear hK K
   refine wpHf_call hk11 (by decide) rfl (wpK_yes rfl (fun K hK => ?_))
   go_simp
   go_at_call 61
   refine (HC2.out _ _ _ _ HS2.out.to.at_ (HR2.out.mono (Nat.le_add_right _ _))).mono ?_
   rintro e w3 ⟨y2, m2, b2, F2, rfl, hT, hD, hy⟩
   have HD2 := Lib.hid hD
   have HR3 := Lib.hid (hD.room HR2.out)
   have HM3 : Hid (m2.Rd → m.Rd) := fun hm => HM2.out (hD.mode.1 hm)
   have HS3 := Lib.hid (HS2.out.tel hT)
   have HE3 := Lib.hid (hT.off.heap HE2.out Hnf2.out)
   have Hnf3 : Hid (¬ F2 C) := hT.not Hnf2.out (heap_lt HE2.out)
   clear hT hD hy HS2 HR2 HC2 HM2 HE2 Hnf2
   refine hK _ _ (HXB.out _ HS3.out.now) (fun _ => ?_)
   clear hK K
   refine wpHf_yes (v := .agg (aCells (akH y0 y1 y2) noAkP).toArray) hk12 (by decide) rfl rfl (fun w' hS => exec_build rfl (by kernel_rfl)) ?_
   (try simp only [Act.put, List.setIfInBounds_toArray, List.set_cons_zero, List.set_cons_succ])
   refine wpHf_was ?_
   refine wpHf_call hk14 (by decide) rfl (wpK_yes rfl (fun K hK => ?_))
   refine wp_store_mid 65 (.tmp 5) (.tmp 18) rfl C 0 (aCells (akH y0 y1 y2) noAkP).toArray rfl rfl (blk_there HE3.out (Nat.le_refl _)) (akc_info _ _) (akc_one _ _) ?_
   refine hK _ _ (HXS.out _ _ _ _ HCne.out (HXB.out _ HS3.out.now)) (fun _ => ?_)
   simp only [Act.put]
   clear hK K
   have hset := setCells_blk (b := C) (aCells (akH y0 y1 y2) noAkP) 0 _ _ HE3.out
   rw [setAll_all (by rfl)] at hset
   have HTT := HS3.out.to.store HCle.out Hnf3.out 0 (aCells (akH y0 y1 y2) noAkP)
   show Exit.then _ _ _ _ _
   go_wp2_with fail
   go_meet
   case rel =>
    exact ⟨C, y0, y1, y2, m2, b2, F2, rfl, ⟨HTT, hset, Hnf3.out, HCle.out⟩, HD0.out.pair (HD1.out.pair HD2.out)⟩
 case rest =>
 obtain ⟨C, y0, y1, y2, m2, b2, F2, rfl, HH, HHL⟩ := hcut
 obtain ⟨w4, hw4⟩ : ∃ q, q = wc := ⟨_, rfl⟩
 subst hw4
 have HQ4 : Hid (Sq W1 w4 P m2 b2 F F2 C (fun _ => True)) := ⟨HH.out.tt, OwnK.const trivial⟩
 have HE4 := Lib.hid HH.out.blk
 have HnC : Hid (¬ F2 C) := HH.out.nC
 have hWC : W1.heap.size ≤ C := HH.out.le
 have hCR : w.heap.size + 1 < C := by have := HN2.out.2; omega
 have HCne : Hid (w.heap.size ≠ C) := by show _ ≠ _; omega
 have HR : Hid (m2.Room (akTail x)) := HHL.out.room (c := cdAkH) (n := akTail x) (HR0.out.mono (by show 10 + (10 + 10) + akTail x ≤ 10 + (10 + (10 + akTail x)); omega))
 have HM : Hid (m2.Rd → m.Rd) := fun hm => HHL.out.mode.1 hm
 clear HR0 HM0 HS0 HC0 HC1 HC2 HH
 have g1 : w4.cell? ⟨C, 1, none⟩ = some (.int .u32 (y1 : Int)) := blk_cell HE4.out rfl
 have g3 : w4.cell? ⟨C, 3, none⟩ = some (.int .u32 0) := blk_cell HE4.out rfl
 have gz := fun i => blk_free (b := C) HE4.out i
 go_upto_region 3 with fail
 have hset := block_setCell HE4.out (i := 3) (.int .u32 (y1 : Int))
 have hset : (w4.setCell ⟨C, 3, none⟩ (.int .u32 (y1 : Int))).heap[C]? = some (.cells (aCells (noAk (y0, y1, y2)) noAkP).toArray 65 (0, 0)) := hset
 have HQ5 := Lib.hid (HQ4.out.set (C := C) hWC HnC.out 3 (.int .u32 (y1 : Int)))
 obtain ⟨w5, hw5⟩ : ∃ w5, w4.setCell ⟨C, 3, none⟩ (.int .u32 (y1 : Int)) = w5 := ⟨_, rfl⟩
 rw [hw5] at hset HQ5 ⊢
 have HE5 := Lib.hid hset
 clear g1 g3 gz hw5 hset HQ4 HE4
 obtain rfl : y0 = 2 := HK2.out _ _ _ HHL.out
 have g0 : w5.cell? ⟨C, 0, none⟩ = some (.int .i64 2) := blk_cell HE5.out rfl
 have HRB := Lib.hid (HXR.out _ (HXH.out.step HQ5.out.tt).now)
 go_wp2_with (first
  | (refine wpList_load (v := .agg (aCells (noAk (2, y1, y2)) noAkP).toArray) rfl rfl (load_blk (vs := (aCells (noAk (2, y1, y2)) noAkP)) HE5.out (fun j v hj => by simpa using hj) rfl (akc_info2 _ _)) ?_; simp only [Act.put])
  | (refine wpList_store_mid rfl 65 (.tmp 4) (.tmp 138) rfl (w.heap.size + 1) 0 (aCells (noAk (2, y1, y2)) noAkP).toArray rfl rfl (blk_there HRB.out (Nat.le_refl _)) (akc_info _ _) (akc_one _ _) ?_))
 have hset := setCells_blk (b := w.heap.size + 1) (aCells (noAk (2, y1, y2)) noAkP) 0 _ _ HRB.out
 rw [setAll_all (by rfl)] at hset
 have HTO := Lib.hid (HQ5.out.tt.store' HB.out (R := w.heap.size + 1) (by omega) (HQ5.out.tt.not HN2.out.1 HN2.out.2) 0 (aCells (noAk (2, y1, y2)) noAkP))
 have HOW := Lib.hid ((HQ5.out.y.store (R := w.heap.size + 1) (.inl HN2.out.2) 0 (aCells (noAk (2, y1, y2)) noAkP)).own (s := w.heap.size) fun k hk => .inl (Nat.lt_of_lt_of_le hk HB.out.size))
 have HSE := Lib.hid hset
 clear hset
 refine bodyPost_ret (results_cell_row rfl _ _ (w.heap.size + 1) 65 (aCells (noAk (2, y1, y2)) noAkP).toArray (0, 0) _ rfl HSE.out Tryz.underlying65 rfl (akc_info _ _)) rfl ?_
 exact ⟨noAk (2, y1, y2), noAkP, _, _, _, rfl, HTO.out, HOW.out.imp (fun V hV => ⟨noStg_at _, noEvt_at _, (noPl_at V).q⟩), dn_ak HHL.out dn_ak2⟩
end Go.Proofs.YtdhinjbkfffpeaaGreat
end
