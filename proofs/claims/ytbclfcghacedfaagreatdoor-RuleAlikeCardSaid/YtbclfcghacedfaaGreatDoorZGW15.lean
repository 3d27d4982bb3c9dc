import Derived.Test.YtbclfcghacedfaaGreatDoorZGW14
import Derived.Test.YtbclfcghacedfaaGreatDoorZMB
/- Contract of the program's readers, by the parts' names. (Written by gen/gen_gw15.py.) -/
section
namespace Go.Proofs.YtbclfcghacedfaaGreatDoor
open Go.ChangeShapes Go.WideShapes Go.ChangeAt Go.RowKit Go.Joins Qr Ck Sp
open Go.ChangeMaps (setBlock)

def keyL (k : Nat) : List UInt8 := match k with | 0 => kFREQ | 1 => kINTERVAL | 2 => kCOUNT | 3 => kUNTIL | 4 => kBYMONTH | 5 => kBYMONTHDAY | 6 => kBYDAY | 7 => kBYSETPOS | 8 => kWKST | _ => []
def keyB (k : Nat) : ByteArray := ⟨(keyL k).toArray⟩
def CloK (rb k : Nat) (v : Value) (w : World) : Prop := match k with
  | 0 => CloI 81 (fnv 54) rb 0 v w
  | 1 => CloI 81 (fnv 55) rb 1 v w
  | 2 => CloI 81 (fnv 55) rb 2 v w
  | 3 => CloI 83 (fnv 57) rb 3 v w
  | 4 => ∃ b3, w.cell? ⟨b3, 0, none⟩ = some (fnv 55) ∧ CloI 85 (.func (.func 86) #[] #[.pointer (some ⟨b3, 0, none⟩)]) rb 4 v w
  | 5 => ∃ b3, w.cell? ⟨b3, 0, none⟩ = some (fnv 55) ∧ CloI 85 (.func (.func 86) #[] #[.pointer (some ⟨b3, 0, none⟩)]) rb 5 v w
  | 6 => ∃ b3, w.cell? ⟨b3, 0, none⟩ = some (fnv 62) ∧ CloI 87 (.func (.func 88) #[] #[.pointer (some ⟨b3, 0, none⟩)]) rb 6 v w
  | 7 => ∃ b3, w.cell? ⟨b3, 0, none⟩ = some (fnv 55) ∧ CloI 85 (.func (.func 86) #[] #[.pointer (some ⟨b3, 0, none⟩)]) rb 7 v w
  | 8 => CloI 81 (fnv 63) rb 8 v w
  | _ => False
def KeepC (w w' : World) : Prop := ∀ b o v, w.cell? ⟨b, o, none⟩ = some v → w'.cell? ⟨b, o, none⟩ = some v
theorem CloI.keep {f : FuncId} {rd : Value} {rb k : Nat} {v : Value} {w w' : World} (h : CloI f rd rb k v w) (hk : KeepC w w') : CloI f rd rb k v w' := by
  obtain ⟨b1, b2, e, h1, h2⟩ := h
  exact ⟨b1, b2, e, hk _ _ _ h1, hk _ _ _ h2⟩
theorem CloR.keep {f : FuncId} {rd : Value} {v : Value} {w w' : World} (h : CloR f rd v w) (hk : KeepC w w') : CloR f rd v w' := by
  obtain ⟨b3, e, h1⟩ := h
  exact ⟨b3, e, hk _ _ _ h1⟩
theorem CloK.keep {rb k : Nat} {v : Value} {w w' : World} (h : CloK rb k v w) (hk : KeepC w w') : CloK rb k v w' := by
  match k, h with
  | 0, h => exact CloI.keep h hk
  | 1, h => exact CloI.keep h hk
  | 2, h => exact CloI.keep h hk
  | 3, h => exact CloI.keep h hk
  | 4, ⟨b3, h1, h2⟩ => exact ⟨b3, hk _ _ _ h1, h2.keep hk⟩
  | 5, ⟨b3, h1, h2⟩ => exact ⟨b3, hk _ _ _ h1, h2.keep hk⟩
  | 6, ⟨b3, h1, h2⟩ => exact ⟨b3, hk _ _ _ h1, h2.keep hk⟩
  | 7, ⟨b3, h1, h2⟩ => exact ⟨b3, hk _ _ _ h1, h2.keep hk⟩
  | 8, h => exact CloI.keep h hk
def Good (rb : Nat) (w : World) (x : MapEntry) : Prop := ∃ k, k < 9 ∧ x.key = .string (keyB k) ∧ CloK rb k x.val w
theorem Good.keep {rb : Nat} {w w' : World} {x : MapEntry} (h : Good rb w x) (hk : KeepC w w') : Good rb w' x := by
  obtain ⟨k, h1, h2, h3⟩ := h
  exact ⟨k, h1, h2, h3.keep hk⟩
theorem keyB_size (k : Nat) : (keyB k).size ≤ maxLen := by
  have : (keyL k).length ≤ 100 := by unfold keyL; split <;> decide
  show (keyL k).toArray.size ≤ _
  rw [List.size_toArray]; unfold maxLen; omega
theorem key_str : Tryz.prog.underlying 9 = some .string := by kernel_rfl
theorem good_key {rb : Nat} {w : World} {x : MapEntry} (h : Good rb w x) : ∃ l, keyOf Tryz.prog 9 x.key = some l := by
  obtain ⟨k, _, h2, _⟩ := h
  exact ⟨_, by rw [h2]; exact WideMaps.keyOf_string_mk key_str (keyB_size k)⟩

structure RM (B rb : Nat) (w w' : World) : Prop where
  keep : KeepC w w'
  below : Below B w w'
  maps : ∀ (b : Nat) (es : Array MapEntry) (c : Nat), w.heap[b]? = some (Obj.map es c) → ∃ (es' : Array MapEntry) (c' : Nat), w'.heap[b]? = some (Obj.map es' c') ∧ (∀ x' ∈ es'.toList, x' ∈ es.toList ∨ Good rb w' x') ∧ ∀ x ∈ es.toList, ∃ x' ∈ es'.toList, x'.key = x.key
theorem RM.of_below {B rb : Nat} {w w' : World} (h : Below w.heap.size w w') (hB : B ≤ w.heap.size) : RM B rb w w' :=
  ⟨fun b o v hc => cell_old hc h, h.mono hB, fun b es c hb => ⟨es, c, by rw [h.block b (heap_lt hb)]; exact hb, fun x hx => .inl hx, fun x hx => ⟨x, hx, rfl⟩⟩⟩
theorem RM.refl {B rb : Nat} (w : World) (hB : B ≤ w.heap.size) : RM B rb w w := .of_below (Below.refl _ _) hB
theorem setBlock_heap (w : World) (b : Nat) (o : Obj) (j : Nat) (h : j ≠ b) : (setBlock w b o).heap[j]? = w.heap[j]? := by
  show (w.heap.setIfInBounds b o)[j]? = _
  rw [Array.getElem?_setIfInBounds_ne (Ne.symm h)]
theorem setBlock_self (w : World) (b : Nat) (o : Obj) (h : b < w.heap.size) : (setBlock w b o).heap[b]? = some o := by
  show (w.heap.setIfInBounds b o)[b]? = _
  simp [h]
theorem RM.store {B rb mb : Nat} {w : World} {es es' : Array MapEntry} {c c' : Nat} (hB : B ≤ mb) (hb : w.heap[mb]? = some (.map es c)) (h1 : ∀ x' ∈ es'.toList, x' ∈ es.toList ∨ Good rb (setBlock w mb (.map es' c')) x') (h2 : ∀ x ∈ es.toList, ∃ x' ∈ es'.toList, x'.key = x.key) :
    RM B rb w (setBlock w mb (.map es' c')) := by
  refine ⟨fun b o v hc => ?_, ⟨rfl, rfl, rfl, by show _ ≤ (w.heap.setIfInBounds _ _).size; simp, fun j hj => setBlock_heap w mb _ j (by omega)⟩, fun b es0 c0 hb0 => ?_⟩
  · have : b ≠ mb := by
      intro e; subst e
      unfold World.cell? at hc
      rw [hb] at hc
      simp at hc
    rw [World.cell?_of_block (setBlock_heap w mb _ b this)]; exact hc
  · by_cases e : b = mb
    · subst e
      rw [hb] at hb0
      cases hb0
      exact ⟨es', c', setBlock_self w b _ (heap_lt hb), h1, h2⟩
    · exact ⟨es0, c0, by rw [setBlock_heap w mb _ b e]; exact hb0, fun x hx => .inl hx, fun x hx => ⟨x, hx, rfl⟩⟩

/-- What an operation establishes. -/
inductive Spc where
  | ptr (d k : Nat)
  | clo (d k : Nat)
  | row (d : Nat) (f r : FuncId)
  | ins (k : Nat)
  | mp (d : Nat)
def holds (B rb : Nat) (s : Spc) (a : Act) (w : World) : Prop := match s with
  | .ptr d k => a.tmps[d]? = some (.pointer (some ⟨rb, k, none⟩))
  | .clo d k => ∃ v, a.tmps[d]? = some v ∧ CloK rb k v w
  | .row d f r => ∃ v, a.tmps[d]? = some v ∧ CloR f (fnv r) v w
  | .ins k => ∃ mb es c, a.tmps[3]? = some (.map (some mb)) ∧ w.heap[mb]? = some (.map es c) ∧ ∃ x ∈ es.toList, x.key = .string (keyB k)
  | .mp d => ∃ mb es c, a.tmps[d]? = some (.map (some mb)) ∧ a.tmps[3]? = some (.map (some mb)) ∧ B ≤ mb ∧ w.heap[mb]? = some (.map es c) ∧ ∀ x ∈ es.toList, Good rb w x
def readsS (s : Spc) : List Tmp := match s with | .ptr d _ => [d] | .clo d _ => [d] | .row d _ _ => [d] | .ins _ => [3] | .mp d => [d, 3]
theorem holds_keep {B rb : Nat} {s : Spc} {a a' : Act} {w w' : World} (h : holds B rb s a w) (ht : ∀ d ∈ readsS s, a'.tmps[d]? = a.tmps[d]?) (hR : RM B rb w w') : holds B rb s a' w' := by
  cases s with
  | ptr d k => show _ = _; rw [ht d (by simp [readsS])]; exact h
  | clo d k => obtain ⟨v, h1, h2⟩ := h; exact ⟨v, by rw [ht d (by simp [readsS])]; exact h1, h2.keep hR.keep⟩
  | row d f r => obtain ⟨v, h1, h2⟩ := h; exact ⟨v, by rw [ht d (by simp [readsS])]; exact h1, h2.keep hR.keep⟩
  | ins k =>
    obtain ⟨mb, es, c, h1, h2, x, hx, hk⟩ := h
    obtain ⟨es', c', e1, _, e3⟩ := hR.maps mb es c h2
    obtain ⟨x', hx', hk'⟩ := e3 x hx
    exact ⟨mb, es', c', by rw [ht 3 (by simp [readsS])]; exact h1, e1, x', hx', by rw [hk', hk]⟩
  | mp d =>
    obtain ⟨mb, es, c, h0, h1, hB, h2, hg⟩ := h
    obtain ⟨es', c', e1, e2, _⟩ := hR.maps mb es c h2
    refine ⟨mb, es', c', by rw [ht d (by simp [readsS])]; exact h0, by rw [ht 3 (by simp [readsS])]; exact h1, hB, e1, fun x hx => ?_⟩
    rcases e2 x hx with h | h
    · exact (hg x h).keep hR.keep
    · exact h
def specR : List Spc := [.mp 3, .ptr 4 0, .ptr 5 0, .ptr 6 0, .clo 7 0, .ins 0, .ptr 8 0, .ptr 9 0, .ptr 10 1, .clo 11 1, .ins 1, .ptr 12 0, .ptr 13 0, .ptr 14 2, .clo 15 2, .ins 2, .ptr 16 0, .ptr 17 0, .ptr 18 3, .clo 19 3, .ins 3, .ptr 20 0, .ptr 21 0, .ptr 22 4, .row 23 86 55, .clo 24 4, .ins 4, .ptr 25 0, .ptr 26 0, .ptr 27 5, .row 28 86 55, .clo 29 5, .ins 5, .ptr 30 0, .ptr 31 0, .ptr 32 6, .row 33 88 62, .clo 34 6, .ins 6, .ptr 35 0, .ptr 36 0, .ptr 37 7, .row 38 86 55, .clo 39 7, .ins 7, .ptr 40 0, .ptr 41 0, .ptr 42 8, .clo 43 8, .ins 8, .mp 44, .mp 2]
noncomputable def opsR : List Oper := match Tryz.f35.body with | some (.seq _ (.seq (.region _ ops _) _)) => ops.toList | _ => []
theorem factsR : Region.factsB opsR.toArray (fun j => ((specR[j]?).map readsS).getD []) = true := by kernel_rfl
theorem opsR_len : opsR.length = 52 := by kernel_rfl
def factR (B rb : Nat) (j : Nat) (a : Act) (w : World) : Prop := match specR[j]? with | some s => holds B rb s a w | none => False
theorem put_self {a : Act} {d : Nat} {v : Value} (h : d < a.tmps.size) : (a.put (some d) v).tmps[d]? = some v := by
  show (a.tmps.setIfInBounds d v)[d]? = _; simp [h]
theorem put_other {a : Act} {d e : Nat} {v : Value} (h : e ≠ d) : (a.put (some d) v).tmps[e]? = a.tmps[e]? := put_get (dst := some d) (by simp; exact fun h' => h h'.symm)
theorem readersT : Tryz.prog.underlying 53 = some (.map 9 34) := by kernel_rfl

set_option maxRecDepth 100000 in
theorem stepR_0 (B rb : Nat) (a : Act) (w : World) (Q : Exit → Act → World → Prop) (o : Oper) (ho : opsR.toArray[0]? = some o) (hz : a.tmps.size = 45) (_h0 : a.tmps[0]? = some (.pointer (some ⟨rb, 0, none⟩))) (hB : B ≤ w.heap.size) (hd : ∀ e ∈ o.after, factR B rb e.on a w) :
    o.wp Tryz.prog a w (fun a' w' => ∃ v, a' = a.put o.dst v ∧ B ≤ w'.heap.size ∧ RM B rb w w' ∧ factR B rb 0 a' w') Q := by
  simp only [opsR, Tryz.f35, List.getElem?_toArray, List.getElem?_cons_zero, Option.some.injEq] at ho
  subst ho
  generalize hKK : (fun (a' : Act) (w' : World) => _) = K
  have HKK := Lib.hid hKK
  have HZ := Lib.hid hz
  clear hKK hz
  have hmm := @run_makeMap Tryz.prog
  have HB := Lib.hid hB
  clear hd
  go_simp
  have hb2 : Below w.heap.size w (w.alloc (.map #[] 0)) := (Below.refl _ w).alloc (Nat.le_refl _) _
  rw [← HKK.out]
  have hz := HZ.out
  exact ⟨_, rfl, Nat.le_trans hB hb2.size, .of_below hb2 hB, ⟨w.heap.size, #[], 0, put_self (by omega), put_self (by omega), hB, heap_alloc_new w _, fun x hx => by simp at hx⟩⟩

set_option maxRecDepth 100000 in
theorem stepR_1 (B rb : Nat) (a : Act) (w : World) (Q : Exit → Act → World → Prop) (o : Oper) (ho : opsR.toArray[1]? = some o) (hz : a.tmps.size = 45) (h0 : a.tmps[0]? = some (.pointer (some ⟨rb, 0, none⟩))) (hB : B ≤ w.heap.size) (hd : ∀ e ∈ o.after, factR B rb e.on a w) :
    o.wp Tryz.prog a w (fun a' w' => ∃ v, a' = a.put o.dst v ∧ B ≤ w'.heap.size ∧ RM B rb w w' ∧ factR B rb 1 a' w') Q := by
  simp only [opsR, Tryz.f35, List.getElem?_toArray, List.getElem?_cons_succ, List.getElem?_cons_zero, Option.some.injEq] at ho
  subst ho
  generalize hKK : (fun (a' : Act) (w' : World) => _) = K
  have HKK := Lib.hid hKK
  have HZ := Lib.hid hz
  clear hKK hz
  clear hd
  go_simp
  rw [← HKK.out]
  have hz := HZ.out
  exact ⟨_, rfl, hB, .refl w hB, put_self (by omega)⟩

set_option maxRecDepth 100000 in
theorem stepR_2 (B rb : Nat) (a : Act) (w : World) (Q : Exit → Act → World → Prop) (o : Oper) (ho : opsR.toArray[2]? = some o) (hz : a.tmps.size = 45) (_h0 : a.tmps[0]? = some (.pointer (some ⟨rb, 0, none⟩))) (hB : B ≤ w.heap.size) (hd : ∀ e ∈ o.after, factR B rb e.on a w) :
    o.wp Tryz.prog a w (fun a' w' => ∃ v, a' = a.put o.dst v ∧ B ≤ w'.heap.size ∧ RM B rb w w' ∧ factR B rb 2 a' w') Q := by
  simp only [opsR, Tryz.f35, List.getElem?_toArray, List.getElem?_cons_succ, List.getElem?_cons_zero, Option.some.injEq] at ho
  subst ho
  generalize hKK : (fun (a' : Act) (w' : World) => _) = K
  have HKK := Lib.hid hKK
  have HZ := Lib.hid hz
  clear hKK hz
  have h1 : a.tmps[4]? = some (.pointer (some ⟨rb, 0, none⟩)) := hd _ (Array.mem_singleton.2 rfl)
  clear hd
  go_simp
  rw [← HKK.out]
  have hz := HZ.out
  exact ⟨_, rfl, hB, .refl w hB, put_self (by omega)⟩

set_option maxRecDepth 100000 in
theorem stepR_3 (B rb : Nat) (a : Act) (w : World) (Q : Exit → Act → World → Prop) (o : Oper) (ho : opsR.toArray[3]? = some o) (hz : a.tmps.size = 45) (_h0 : a.tmps[0]? = some (.pointer (some ⟨rb, 0, none⟩))) (hB : B ≤ w.heap.size) (hd : ∀ e ∈ o.after, factR B rb e.on a w) :
    o.wp Tryz.prog a w (fun a' w' => ∃ v, a' = a.put o.dst v ∧ B ≤ w'.heap.size ∧ RM B rb w w' ∧ factR B rb 3 a' w') Q := by
  simp only [opsR, Tryz.f35, List.getElem?_toArray, List.getElem?_cons_succ, List.getElem?_cons_zero, Option.some.injEq] at ho
  subst ho
  generalize hKK : (fun (a' : Act) (w' : World) => _) = K
  have HKK := Lib.hid hKK
  have HZ := Lib.hid hz
  clear hKK hz
  have h1 : a.tmps[5]? = some (.pointer (some ⟨rb, 0, none⟩)) := hd _ (Array.mem_singleton.2 rfl)
  clear hd
  go_simp
  rw [← HKK.out]
  have hz := HZ.out
  exact ⟨_, rfl, hB, .refl w hB, put_self (by omega)⟩

set_option maxRecDepth 100000 in
set_option maxHeartbeats 1000000 in
theorem stepR_4 (B rb : Nat) (a : Act) (w : World) (Q : Exit → Act → World → Prop) (o : Oper) (ho : opsR.toArray[4]? = some o) (hz : a.tmps.size = 45) (_h0 : a.tmps[0]? = some (.pointer (some ⟨rb, 0, none⟩))) (hB : B ≤ w.heap.size) (hd : ∀ e ∈ o.after, factR B rb e.on a w) :
    o.wp Tryz.prog a w (fun a' w' => ∃ v, a' = a.put o.dst v ∧ B ≤ w'.heap.size ∧ RM B rb w w' ∧ factR B rb 4 a' w') Q := by
  simp only [opsR, Tryz.f35, List.getElem?_toArray, List.getElem?_cons_succ, List.getElem?_cons_zero, Option.some.injEq] at ho
  subst ho
  generalize hKK : (fun (a' : Act) (w' : World) => _) = K
  have HKK := Lib.hid hKK
  have HZ := Lib.hid hz
  clear hKK hz
  have h1 : a.tmps[6]? = some (.pointer (some ⟨rb, 0, none⟩)) := hd ({ on := 3, ground := .data } : Edge) (by simp)
  have HM := Lib.hid (mk_int rb 0 54 #[] w)
  clear hd
  go_simp
  refine HM.out.mono ?_
  rintro e w' ⟨v, rfl, hc, hb⟩
  show K _ _
  rw [← HKK.out]
  have hz := HZ.out
  exact ⟨v, rfl, Nat.le_trans hB hb.size, .of_below hb hB, ⟨v, put_self (by omega), hc⟩⟩

set_option maxRecDepth 100000 in
set_option maxHeartbeats 1000000 in
theorem stepR_5 (B rb : Nat) (a : Act) (w : World) (Q : Exit → Act → World → Prop) (o : Oper) (ho : opsR.toArray[5]? = some o) (hz : a.tmps.size = 45) (_h0 : a.tmps[0]? = some (.pointer (some ⟨rb, 0, none⟩))) (hB : B ≤ w.heap.size) (hd : ∀ e ∈ o.after, factR B rb e.on a w) :
    o.wp Tryz.prog a w (fun a' w' => ∃ v, a' = a.put o.dst v ∧ B ≤ w'.heap.size ∧ RM B rb w w' ∧ factR B rb 5 a' w') Q := by
  simp only [opsR, Tryz.f35, List.getElem?_toArray, List.getElem?_cons_succ, List.getElem?_cons_zero, Option.some.injEq] at ho
  subst ho
  generalize hKK : (fun (a' : Act) (w' : World) => _) = K
  have HKK := Lib.hid hKK
  have HZ := Lib.hid hz
  clear hKK hz
  obtain ⟨v, h1, hcl⟩ : ∃ v, a.tmps[7]? = some v ∧ CloK rb 0 v w := hd ({ on := 4, ground := .data } : Edge) (by simp)
  obtain ⟨mb, es, c, h3, _, hmb, hhp, hg⟩ : ∃ (mb : Nat) (es : Array MapEntry) (c : Nat), a.tmps[3]? = some (Value.map (some mb)) ∧ a.tmps[3]? = some (Value.map (some mb)) ∧ B ≤ mb ∧ w.heap[mb]? = some (Obj.map es c) ∧ ∀ x ∈ es.toList, Good rb w x := hd ({ on := 0, ground := .data } : Edge) (by simp)
  obtain ⟨es', c', hr, e1, e2, e3⟩ := run_storeE (Maps.string_keyed key_str) readersT hhp (fun x hx => good_key (hg x hx)) (key := .string (keyB 0)) (val := v) (WideMaps.keyOf_string_mk key_str (keyB_size 0))
  have hR : RM B rb w (setBlock w mb (.map es' c')) := RM.store hmb hhp (fun x' hx' => (e1 x' hx').imp id fun ⟨q1, q2⟩ => ⟨0, by omega, q1, by
    rw [q2]
    refine hcl.keep fun b o v hc => ?_
    have : b ≠ mb := by
      intro e; subst e
      unfold World.cell? at hc
      rw [hhp] at hc
      simp at hc
    rw [World.cell?_of_block (setBlock_heap w mb _ b this)]; exact hc⟩) e2
  have HE3 := Lib.hid e3
  have HHP := Lib.hid hhp
  have hr' : (Instr.mapUpdate 53 (.map (some mb)) (.string ⟨#[70, 82, 69, 81]⟩) v).run Tryz.prog w = .ok () (setBlock w mb (.map es' c')) := hr
  have HSZ : Hid (B ≤ (setBlock w mb (.map es' c')).heap.size) := by show B ≤ (w.heap.setIfInBounds _ _).size; simpa using hB
  clear hd hr e1 e2 e3 hg hhp hcl
  have HRR := Lib.hid hR
  clear hR
  go_simp
  rw [← HKK.out]
  exact ⟨undef, rfl, HSZ.out, HRR.out, ⟨mb, es', c', h3, setBlock_self w mb _ (heap_lt HHP.out), HE3.out⟩⟩

set_option maxRecDepth 100000 in
theorem stepR_6 (B rb : Nat) (a : Act) (w : World) (Q : Exit → Act → World → Prop) (o : Oper) (ho : opsR.toArray[6]? = some o) (hz : a.tmps.size = 45) (h0 : a.tmps[0]? = some (.pointer (some ⟨rb, 0, none⟩))) (hB : B ≤ w.heap.size) (hd : ∀ e ∈ o.after, factR B rb e.on a w) :
    o.wp Tryz.prog a w (fun a' w' => ∃ v, a' = a.put o.dst v ∧ B ≤ w'.heap.size ∧ RM B rb w w' ∧ factR B rb 6 a' w') Q := by
  simp only [opsR, Tryz.f35, List.getElem?_toArray, List.getElem?_cons_succ, List.getElem?_cons_zero, Option.some.injEq] at ho
  subst ho
  generalize hKK : (fun (a' : Act) (w' : World) => _) = K
  have HKK := Lib.hid hKK
  have HZ := Lib.hid hz
  clear hKK hz
  clear hd
  go_simp
  rw [← HKK.out]
  have hz := HZ.out
  exact ⟨_, rfl, hB, .refl w hB, put_self (by omega)⟩

set_option maxRecDepth 100000 in
theorem stepR_7 (B rb : Nat) (a : Act) (w : World) (Q : Exit → Act → World → Prop) (o : Oper) (ho : opsR.toArray[7]? = some o) (hz : a.tmps.size = 45) (_h0 : a.tmps[0]? = some (.pointer (some ⟨rb, 0, none⟩))) (hB : B ≤ w.heap.size) (hd : ∀ e ∈ o.after, factR B rb e.on a w) :
    o.wp Tryz.prog a w (fun a' w' => ∃ v, a' = a.put o.dst v ∧ B ≤ w'.heap.size ∧ RM B rb w w' ∧ factR B rb 7 a' w') Q := by
  simp only [opsR, Tryz.f35, List.getElem?_toArray, List.getElem?_cons_succ, List.getElem?_cons_zero, Option.some.injEq] at ho
  subst ho
  generalize hKK : (fun (a' : Act) (w' : World) => _) = K
  have HKK := Lib.hid hKK
  have HZ := Lib.hid hz
  clear hKK hz
  have h1 : a.tmps[8]? = some (.pointer (some ⟨rb, 0, none⟩)) := hd _ (Array.mem_singleton.2 rfl)
  clear hd
  go_simp
  rw [← HKK.out]
  have hz := HZ.out
  exact ⟨_, rfl, hB, .refl w hB, put_self (by omega)⟩

set_option maxRecDepth 100000 in
theorem stepR_8 (B rb : Nat) (a : Act) (w : World) (Q : Exit → Act → World → Prop) (o : Oper) (ho : opsR.toArray[8]? = some o) (hz : a.tmps.size = 45) (_h0 : a.tmps[0]? = some (.pointer (some ⟨rb, 0, none⟩))) (hB : B ≤ w.heap.size) (hd : ∀ e ∈ o.after, factR B rb e.on a w) :
    o.wp Tryz.prog a w (fun a' w' => ∃ v, a' = a.put o.dst v ∧ B ≤ w'.heap.size ∧ RM B rb w w' ∧ factR B rb 8 a' w') Q := by
  simp only [opsR, Tryz.f35, List.getElem?_toArray, List.getElem?_cons_succ, List.getElem?_cons_zero, Option.some.injEq] at ho
  subst ho
  generalize hKK : (fun (a' : Act) (w' : World) => _) = K
  have HKK := Lib.hid hKK
  have HZ := Lib.hid hz
  clear hKK hz
  have h1 : a.tmps[9]? = some (.pointer (some ⟨rb, 0, none⟩)) := hd _ (Array.mem_singleton.2 rfl)
  clear hd
  go_simp
  rw [← HKK.out]
  have hz := HZ.out
  exact ⟨_, rfl, hB, .refl w hB, put_self (by omega)⟩

set_option maxRecDepth 100000 in
set_option maxHeartbeats 1000000 in
theorem stepR_9 (B rb : Nat) (a : Act) (w : World) (Q : Exit → Act → World → Prop) (o : Oper) (ho : opsR.toArray[9]? = some o) (hz : a.tmps.size = 45) (_h0 : a.tmps[0]? = some (.pointer (some ⟨rb, 0, none⟩))) (hB : B ≤ w.heap.size) (hd : ∀ e ∈ o.after, factR B rb e.on a w) :
    o.wp Tryz.prog a w (fun a' w' => ∃ v, a' = a.put o.dst v ∧ B ≤ w'.heap.size ∧ RM B rb w w' ∧ factR B rb 9 a' w') Q := by
  simp only [opsR, Tryz.f35, List.getElem?_toArray, List.getElem?_cons_succ, List.getElem?_cons_zero, Option.some.injEq] at ho
  subst ho
  generalize hKK : (fun (a' : Act) (w' : World) => _) = K
  have HKK := Lib.hid hKK
  have HZ := Lib.hid hz
  clear hKK hz
  have h1 : a.tmps[10]? = some (.pointer (some ⟨rb, 1, none⟩)) := hd ({ on := 8, ground := .data } : Edge) (by simp)
  have HM := Lib.hid (mk_int rb 1 55 #[] w)
  clear hd
  go_simp
  refine HM.out.mono ?_
  rintro e w' ⟨v, rfl, hc, hb⟩
  show K _ _
  rw [← HKK.out]
  have hz := HZ.out
  exact ⟨v, rfl, Nat.le_trans hB hb.size, .of_below hb hB, ⟨v, put_self (by omega), hc⟩⟩

set_option maxRecDepth 100000 in
set_option maxHeartbeats 1000000 in
theorem stepR_10 (B rb : Nat) (a : Act) (w : World) (Q : Exit → Act → World → Prop) (o : Oper) (ho : opsR.toArray[10]? = some o) (hz : a.tmps.size = 45) (_h0 : a.tmps[0]? = some (.pointer (some ⟨rb, 0, none⟩))) (hB : B ≤ w.heap.size) (hd : ∀ e ∈ o.after, factR B rb e.on a w) :
    o.wp Tryz.prog a w (fun a' w' => ∃ v, a' = a.put o.dst v ∧ B ≤ w'.heap.size ∧ RM B rb w w' ∧ factR B rb 10 a' w') Q := by
  simp only [opsR, Tryz.f35, List.getElem?_toArray, List.getElem?_cons_succ, List.getElem?_cons_zero, Option.some.injEq] at ho
  subst ho
  generalize hKK : (fun (a' : Act) (w' : World) => _) = K
  have HKK := Lib.hid hKK
  have HZ := Lib.hid hz
  clear hKK hz
  obtain ⟨v, h1, hcl⟩ : ∃ v, a.tmps[11]? = some v ∧ CloK rb 1 v w := hd ({ on := 9, ground := .data } : Edge) (by simp)
  obtain ⟨mb, es, c, h3, _, hmb, hhp, hg⟩ : ∃ (mb : Nat) (es : Array MapEntry) (c : Nat), a.tmps[3]? = some (Value.map (some mb)) ∧ a.tmps[3]? = some (Value.map (some mb)) ∧ B ≤ mb ∧ w.heap[mb]? = some (Obj.map es c) ∧ ∀ x ∈ es.toList, Good rb w x := hd ({ on := 0, ground := .data } : Edge) (by simp)
  obtain ⟨es', c', hr, e1, e2, e3⟩ := run_storeE (Maps.string_keyed key_str) readersT hhp (fun x hx => good_key (hg x hx)) (key := .string (keyB 1)) (val := v) (WideMaps.keyOf_string_mk key_str (keyB_size 1))
  have hR : RM B rb w (setBlock w mb (.map es' c')) := RM.store hmb hhp (fun x' hx' => (e1 x' hx').imp id fun ⟨q1, q2⟩ => ⟨1, by omega, q1, by
    rw [q2]
    refine hcl.keep fun b o v hc => ?_
    have : b ≠ mb := by
      intro e; subst e
      unfold World.cell? at hc
      rw [hhp] at hc
      simp at hc
    rw [World.cell?_of_block (setBlock_heap w mb _ b this)]; exact hc⟩) e2
  have HE3 := Lib.hid e3
  have HHP := Lib.hid hhp
  have hr' : (Instr.mapUpdate 53 (.map (some mb)) (.string ⟨#[73, 78, 84, 69, 82, 86, 65, 76]⟩) v).run Tryz.prog w = .ok () (setBlock w mb (.map es' c')) := hr
  have HSZ : Hid (B ≤ (setBlock w mb (.map es' c')).heap.size) := by show B ≤ (w.heap.setIfInBounds _ _).size; simpa using hB
  clear hd hr e1 e2 e3 hg hhp hcl
  have HRR := Lib.hid hR
  clear hR
  go_simp
  rw [← HKK.out]
  exact ⟨undef, rfl, HSZ.out, HRR.out, ⟨mb, es', c', h3, setBlock_self w mb _ (heap_lt HHP.out), HE3.out⟩⟩

set_option maxRecDepth 100000 in
theorem stepR_11 (B rb : Nat) (a : Act) (w : World) (Q : Exit → Act → World → Prop) (o : Oper) (ho : opsR.toArray[11]? = some o) (hz : a.tmps.size = 45) (h0 : a.tmps[0]? = some (.pointer (some ⟨rb, 0, none⟩))) (hB : B ≤ w.heap.size) (hd : ∀ e ∈ o.after, factR B rb e.on a w) :
    o.wp Tryz.prog a w (fun a' w' => ∃ v, a' = a.put o.dst v ∧ B ≤ w'.heap.size ∧ RM B rb w w' ∧ factR B rb 11 a' w') Q := by
  simp only [opsR, Tryz.f35, List.getElem?_toArray, List.getElem?_cons_succ, List.getElem?_cons_zero, Option.some.injEq] at ho
  subst ho
  generalize hKK : (fun (a' : Act) (w' : World) => _) = K
  have HKK := Lib.hid hKK
  have HZ := Lib.hid hz
  clear hKK hz
  clear hd
  go_simp
  rw [← HKK.out]
  have hz := HZ.out
  exact ⟨_, rfl, hB, .refl w hB, put_self (by omega)⟩

set_option maxRecDepth 100000 in
theorem stepR_12 (B rb : Nat) (a : Act) (w : World) (Q : Exit → Act → World → Prop) (o : Oper) (ho : opsR.toArray[12]? = some o) (hz : a.tmps.size = 45) (_h0 : a.tmps[0]? = some (.pointer (some ⟨rb, 0, none⟩))) (hB : B ≤ w.heap.size) (hd : ∀ e ∈ o.after, factR B rb e.on a w) :
    o.wp Tryz.prog a w (fun a' w' => ∃ v, a' = a.put o.dst v ∧ B ≤ w'.heap.size ∧ RM B rb w w' ∧ factR B rb 12 a' w') Q := by
  simp only [opsR, Tryz.f35, List.getElem?_toArray, List.getElem?_cons_succ, List.getElem?_cons_zero, Option.some.injEq] at ho
  subst ho
  generalize hKK : (fun (a' : Act) (w' : World) => _) = K
  have HKK := Lib.hid hKK
  have HZ := Lib.hid hz
  clear hKK hz
  have h1 : a.tmps[12]? = some (.pointer (some ⟨rb, 0, none⟩)) := hd _ (Array.mem_singleton.2 rfl)
  clear hd
  go_simp
  rw [← HKK.out]
  have hz := HZ.out
  exact ⟨_, rfl, hB, .refl w hB, put_self (by omega)⟩

set_option maxRecDepth 100000 in
theorem stepR_13 (B rb : Nat) (a : Act) (w : World) (Q : Exit → Act → World → Prop) (o : Oper) (ho : opsR.toArray[13]? = some o) (hz : a.tmps.size = 45) (_h0 : a.tmps[0]? = some (.pointer (some ⟨rb, 0, none⟩))) (hB : B ≤ w.heap.size) (hd : ∀ e ∈ o.after, factR B rb e.on a w) :
    o.wp Tryz.prog a w (fun a' w' => ∃ v, a' = a.put o.dst v ∧ B ≤ w'.heap.size ∧ RM B rb w w' ∧ factR B rb 13 a' w') Q := by
  simp only [opsR, Tryz.f35, List.getElem?_toArray, List.getElem?_cons_succ, List.getElem?_cons_zero, Option.some.injEq] at ho
  subst ho
  generalize hKK : (fun (a' : Act) (w' : World) => _) = K
  have HKK := Lib.hid hKK
  have HZ := Lib.hid hz
  clear hKK hz
  have h1 : a.tmps[13]? = some (.pointer (some ⟨rb, 0, none⟩)) := hd _ (Array.mem_singleton.2 rfl)
  clear hd
  go_simp
  rw [← HKK.out]
  have hz := HZ.out
  exact ⟨_, rfl, hB, .refl w hB, put_self (by omega)⟩

set_option maxRecDepth 100000 in
set_option maxHeartbeats 1000000 in
theorem stepR_14 (B rb : Nat) (a : Act) (w : World) (Q : Exit → Act → World → Prop) (o : Oper) (ho : opsR.toArray[14]? = some o) (hz : a.tmps.size = 45) (_h0 : a.tmps[0]? = some (.pointer (some ⟨rb, 0, none⟩))) (hB : B ≤ w.heap.size) (hd : ∀ e ∈ o.after, factR B rb e.on a w) :
    o.wp Tryz.prog a w (fun a' w' => ∃ v, a' = a.put o.dst v ∧ B ≤ w'.heap.size ∧ RM B rb w w' ∧ factR B rb 14 a' w') Q := by
  simp only [opsR, Tryz.f35, List.getElem?_toArray, List.getElem?_cons_succ, List.getElem?_cons_zero, Option.some.injEq] at ho
  subst ho
  generalize hKK : (fun (a' : Act) (w' : World) => _) = K
  have HKK := Lib.hid hKK
  have HZ := Lib.hid hz
  clear hKK hz
  have h1 : a.tmps[14]? = some (.pointer (some ⟨rb, 2, none⟩)) := hd ({ on := 13, ground := .data } : Edge) (by simp)
  have HM := Lib.hid (mk_int rb 2 55 #[] w)
  clear hd
  go_simp
  refine HM.out.mono ?_
  rintro e w' ⟨v, rfl, hc, hb⟩
  show K _ _
  rw [← HKK.out]
  have hz := HZ.out
  exact ⟨v, rfl, Nat.le_trans hB hb.size, .of_below hb hB, ⟨v, put_self (by omega), hc⟩⟩

set_option maxRecDepth 100000 in
set_option maxHeartbeats 1000000 in
theorem stepR_15 (B rb : Nat) (a : Act) (w : World) (Q : Exit → Act → World → Prop) (o : Oper) (ho : opsR.toArray[15]? = some o) (hz : a.tmps.size = 45) (_h0 : a.tmps[0]? = some (.pointer (some ⟨rb, 0, none⟩))) (hB : B ≤ w.heap.size) (hd : ∀ e ∈ o.after, factR B rb e.on a w) :
    o.wp Tryz.prog a w (fun a' w' => ∃ v, a' = a.put o.dst v ∧ B ≤ w'.heap.size ∧ RM B rb w w' ∧ factR B rb 15 a' w') Q := by
  simp only [opsR, Tryz.f35, List.getElem?_toArray, List.getElem?_cons_succ, List.getElem?_cons_zero, Option.some.injEq] at ho
  subst ho
  generalize hKK : (fun (a' : Act) (w' : World) => _) = K
  have HKK := Lib.hid hKK
  have HZ := Lib.hid hz
  clear hKK hz
  obtain ⟨v, h1, hcl⟩ : ∃ v, a.tmps[15]? = some v ∧ CloK rb 2 v w := hd ({ on := 14, ground := .data } : Edge) (by simp)
  obtain ⟨mb, es, c, h3, _, hmb, hhp, hg⟩ : ∃ (mb : Nat) (es : Array MapEntry) (c : Nat), a.tmps[3]? = some (Value.map (some mb)) ∧ a.tmps[3]? = some (Value.map (some mb)) ∧ B ≤ mb ∧ w.heap[mb]? = some (Obj.map es c) ∧ ∀ x ∈ es.toList, Good rb w x := hd ({ on := 0, ground := .data } : Edge) (by simp)
  obtain ⟨es', c', hr, e1, e2, e3⟩ := run_storeE (Maps.string_keyed key_str) readersT hhp (fun x hx => good_key (hg x hx)) (key := .string (keyB 2)) (val := v) (WideMaps.keyOf_string_mk key_str (keyB_size 2))
  have hR : RM B rb w (setBlock w mb (.map es' c')) := RM.store hmb hhp (fun x' hx' => (e1 x' hx').imp id fun ⟨q1, q2⟩ => ⟨2, by omega, q1, by
    rw [q2]
    refine hcl.keep fun b o v hc => ?_
    have : b ≠ mb := by
      intro e; subst e
      unfold World.cell? at hc
      rw [hhp] at hc
      simp at hc
    rw [World.cell?_of_block (setBlock_heap w mb _ b this)]; exact hc⟩) e2
  have HE3 := Lib.hid e3
  have HHP := Lib.hid hhp
  have hr' : (Instr.mapUpdate 53 (.map (some mb)) (.string ⟨#[67, 79, 85, 78, 84]⟩) v).run Tryz.prog w = .ok () (setBlock w mb (.map es' c')) := hr
  have HSZ : Hid (B ≤ (setBlock w mb (.map es' c')).heap.size) := by show B ≤ (w.heap.setIfInBounds _ _).size; simpa using hB
  clear hd hr e1 e2 e3 hg hhp hcl
  have HRR := Lib.hid hR
  clear hR
  go_simp
  rw [← HKK.out]
  exact ⟨undef, rfl, HSZ.out, HRR.out, ⟨mb, es', c', h3, setBlock_self w mb _ (heap_lt HHP.out), HE3.out⟩⟩

set_option maxRecDepth 100000 in
theorem stepR_16 (B rb : Nat) (a : Act) (w : World) (Q : Exit → Act → World → Prop) (o : Oper) (ho : opsR.toArray[16]? = some o) (hz : a.tmps.size = 45) (h0 : a.tmps[0]? = some (.pointer (some ⟨rb, 0, none⟩))) (hB : B ≤ w.heap.size) (hd : ∀ e ∈ o.after, factR B rb e.on a w) :
    o.wp Tryz.prog a w (fun a' w' => ∃ v, a' = a.put o.dst v ∧ B ≤ w'.heap.size ∧ RM B rb w w' ∧ factR B rb 16 a' w') Q := by
  simp only [opsR, Tryz.f35, List.getElem?_toArray, List.getElem?_cons_succ, List.getElem?_cons_zero, Option.some.injEq] at ho
  subst ho
  generalize hKK : (fun (a' : Act) (w' : World) => _) = K
  have HKK := Lib.hid hKK
  have HZ := Lib.hid hz
  clear hKK hz
  clear hd
  go_simp
  rw [← HKK.out]
  have hz := HZ.out
  exact ⟨_, rfl, hB, .refl w hB, put_self (by omega)⟩

set_option maxRecDepth 100000 in
theorem stepR_17 (B rb : Nat) (a : Act) (w : World) (Q : Exit → Act → World → Prop) (o : Oper) (ho : opsR.toArray[17]? = some o) (hz : a.tmps.size = 45) (_h0 : a.tmps[0]? = some (.pointer (some ⟨rb, 0, none⟩))) (hB : B ≤ w.heap.size) (hd : ∀ e ∈ o.after, factR B rb e.on a w) :
    o.wp Tryz.prog a w (fun a' w' => ∃ v, a' = a.put o.dst v ∧ B ≤ w'.heap.size ∧ RM B rb w w' ∧ factR B rb 17 a' w') Q := by
  simp only [opsR, Tryz.f35, List.getElem?_toArray, List.getElem?_cons_succ, List.getElem?_cons_zero, Option.some.injEq] at ho
  subst ho
  generalize hKK : (fun (a' : Act) (w' : World) => _) = K
  have HKK := Lib.hid hKK
  have HZ := Lib.hid hz
  clear hKK hz
  have h1 : a.tmps[16]? = some (.pointer (some ⟨rb, 0, none⟩)) := hd _ (Array.mem_singleton.2 rfl)
  clear hd
  go_simp
  rw [← HKK.out]
  have hz := HZ.out
  exact ⟨_, rfl, hB, .refl w hB, put_self (by omega)⟩

set_option maxRecDepth 100000 in
theorem stepR_18 (B rb : Nat) (a : Act) (w : World) (Q : Exit → Act → World → Prop) (o : Oper) (ho : opsR.toArray[18]? = some o) (hz : a.tmps.size = 45) (_h0 : a.tmps[0]? = some (.pointer (some ⟨rb, 0, none⟩))) (hB : B ≤ w.heap.size) (hd : ∀ e ∈ o.after, factR B rb e.on a w) :
    o.wp Tryz.prog a w (fun a' w' => ∃ v, a' = a.put o.dst v ∧ B ≤ w'.heap.size ∧ RM B rb w w' ∧ factR B rb 18 a' w') Q := by
  simp only [opsR, Tryz.f35, List.getElem?_toArray, List.getElem?_cons_succ, List.getElem?_cons_zero, Option.some.injEq] at ho
  subst ho
  generalize hKK : (fun (a' : Act) (w' : World) => _) = K
  have HKK := Lib.hid hKK
  have HZ := Lib.hid hz
  clear hKK hz
  have h1 : a.tmps[17]? = some (.pointer (some ⟨rb, 0, none⟩)) := hd _ (Array.mem_singleton.2 rfl)
  clear hd
  go_simp
  rw [← HKK.out]
  have hz := HZ.out
  exact ⟨_, rfl, hB, .refl w hB, put_self (by omega)⟩

set_option maxRecDepth 100000 in
set_option maxHeartbeats 1000000 in
theorem stepR_19 (B rb : Nat) (a : Act) (w : World) (Q : Exit → Act → World → Prop) (o : Oper) (ho : opsR.toArray[19]? = some o) (hz : a.tmps.size = 45) (_h0 : a.tmps[0]? = some (.pointer (some ⟨rb, 0, none⟩))) (hB : B ≤ w.heap.size) (hd : ∀ e ∈ o.after, factR B rb e.on a w) :
    o.wp Tryz.prog a w (fun a' w' => ∃ v, a' = a.put o.dst v ∧ B ≤ w'.heap.size ∧ RM B rb w w' ∧ factR B rb 19 a' w') Q := by
  simp only [opsR, Tryz.f35, List.getElem?_toArray, List.getElem?_cons_succ, List.getElem?_cons_zero, Option.some.injEq] at ho
  subst ho
  generalize hKK : (fun (a' : Act) (w' : World) => _) = K
  have HKK := Lib.hid hKK
  have HZ := Lib.hid hz
  clear hKK hz
  have h1 : a.tmps[18]? = some (.pointer (some ⟨rb, 3, none⟩)) := hd ({ on := 18, ground := .data } : Edge) (by simp)
  have HM := Lib.hid (mk_int64 rb 3 57 #[] w)
  clear hd
  go_simp
  refine HM.out.mono ?_
  rintro e w' ⟨v, rfl, hc, hb⟩
  show K _ _
  rw [← HKK.out]
  have hz := HZ.out
  exact ⟨v, rfl, Nat.le_trans hB hb.size, .of_below hb hB, ⟨v, put_self (by omega), hc⟩⟩

set_option maxRecDepth 100000 in
set_option maxHeartbeats 1000000 in
theorem stepR_20 (B rb : Nat) (a : Act) (w : World) (Q : Exit → Act → World → Prop) (o : Oper) (ho : opsR.toArray[20]? = some o) (hz : a.tmps.size = 45) (_h0 : a.tmps[0]? = some (.pointer (some ⟨rb, 0, none⟩))) (hB : B ≤ w.heap.size) (hd : ∀ e ∈ o.after, factR B rb e.on a w) :
    o.wp Tryz.prog a w (fun a' w' => ∃ v, a' = a.put o.dst v ∧ B ≤ w'.heap.size ∧ RM B rb w w' ∧ factR B rb 20 a' w') Q := by
  simp only [opsR, Tryz.f35, List.getElem?_toArray, List.getElem?_cons_succ, List.getElem?_cons_zero, Option.some.injEq] at ho
  subst ho
  generalize hKK : (fun (a' : Act) (w' : World) => _) = K
  have HKK := Lib.hid hKK
  have HZ := Lib.hid hz
  clear hKK hz
  obtain ⟨v, h1, hcl⟩ : ∃ v, a.tmps[19]? = some v ∧ CloK rb 3 v w := hd ({ on := 19, ground := .data } : Edge) (by simp)
  obtain ⟨mb, es, c, h3, _, hmb, hhp, hg⟩ : ∃ (mb : Nat) (es : Array MapEntry) (c : Nat), a.tmps[3]? = some (Value.map (some mb)) ∧ a.tmps[3]? = some (Value.map (some mb)) ∧ B ≤ mb ∧ w.heap[mb]? = some (Obj.map es c) ∧ ∀ x ∈ es.toList, Good rb w x := hd ({ on := 0, ground := .data } : Edge) (by simp)
  obtain ⟨es', c', hr, e1, e2, e3⟩ := run_storeE (Maps.string_keyed key_str) readersT hhp (fun x hx => good_key (hg x hx)) (key := .string (keyB 3)) (val := v) (WideMaps.keyOf_string_mk key_str (keyB_size 3))
  have hR : RM B rb w (setBlock w mb (.map es' c')) := RM.store hmb hhp (fun x' hx' => (e1 x' hx').imp id fun ⟨q1, q2⟩ => ⟨3, by omega, q1, by
    rw [q2]
    refine hcl.keep fun b o v hc => ?_
    have : b ≠ mb := by
      intro e; subst e
      unfold World.cell? at hc
      rw [hhp] at hc
      simp at hc
    rw [World.cell?_of_block (setBlock_heap w mb _ b this)]; exact hc⟩) e2
  have HE3 := Lib.hid e3
  have HHP := Lib.hid hhp
  have hr' : (Instr.mapUpdate 53 (.map (some mb)) (.string ⟨#[85, 78, 84, 73, 76]⟩) v).run Tryz.prog w = .ok () (setBlock w mb (.map es' c')) := hr
  have HSZ : Hid (B ≤ (setBlock w mb (.map es' c')).heap.size) := by show B ≤ (w.heap.setIfInBounds _ _).size; simpa using hB
  clear hd hr e1 e2 e3 hg hhp hcl
  have HRR := Lib.hid hR
  clear hR
  go_simp
  rw [← HKK.out]
  exact ⟨undef, rfl, HSZ.out, HRR.out, ⟨mb, es', c', h3, setBlock_self w mb _ (heap_lt HHP.out), HE3.out⟩⟩

set_option maxRecDepth 100000 in
theorem stepR_21 (B rb : Nat) (a : Act) (w : World) (Q : Exit → Act → World → Prop) (o : Oper) (ho : opsR.toArray[21]? = some o) (hz : a.tmps.size = 45) (h0 : a.tmps[0]? = some (.pointer (some ⟨rb, 0, none⟩))) (hB : B ≤ w.heap.size) (hd : ∀ e ∈ o.after, factR B rb e.on a w) :
    o.wp Tryz.prog a w (fun a' w' => ∃ v, a' = a.put o.dst v ∧ B ≤ w'.heap.size ∧ RM B rb w w' ∧ factR B rb 21 a' w') Q := by
  simp only [opsR, Tryz.f35, List.getElem?_toArray, List.getElem?_cons_succ, List.getElem?_cons_zero, Option.some.injEq] at ho
  subst ho
  generalize hKK : (fun (a' : Act) (w' : World) => _) = K
  have HKK := Lib.hid hKK
  have HZ := Lib.hid hz
  clear hKK hz
  clear hd
  go_simp
  rw [← HKK.out]
  have hz := HZ.out
  exact ⟨_, rfl, hB, .refl w hB, put_self (by omega)⟩

set_option maxRecDepth 100000 in
theorem stepR_22 (B rb : Nat) (a : Act) (w : World) (Q : Exit → Act → World → Prop) (o : Oper) (ho : opsR.toArray[22]? = some o) (hz : a.tmps.size = 45) (_h0 : a.tmps[0]? = some (.pointer (some ⟨rb, 0, none⟩))) (hB : B ≤ w.heap.size) (hd : ∀ e ∈ o.after, factR B rb e.on a w) :
    o.wp Tryz.prog a w (fun a' w' => ∃ v, a' = a.put o.dst v ∧ B ≤ w'.heap.size ∧ RM B rb w w' ∧ factR B rb 22 a' w') Q := by
  simp only [opsR, Tryz.f35, List.getElem?_toArray, List.getElem?_cons_succ, List.getElem?_cons_zero, Option.some.injEq] at ho
  subst ho
  generalize hKK : (fun (a' : Act) (w' : World) => _) = K
  have HKK := Lib.hid hKK
  have HZ := Lib.hid hz
  clear hKK hz
  have h1 : a.tmps[20]? = some (.pointer (some ⟨rb, 0, none⟩)) := hd _ (Array.mem_singleton.2 rfl)
  clear hd
  go_simp
  rw [← HKK.out]
  have hz := HZ.out
  exact ⟨_, rfl, hB, .refl w hB, put_self (by omega)⟩

set_option maxRecDepth 100000 in
theorem stepR_23 (B rb : Nat) (a : Act) (w : World) (Q : Exit → Act → World → Prop) (o : Oper) (ho : opsR.toArray[23]? = some o) (hz : a.tmps.size = 45) (_h0 : a.tmps[0]? = some (.pointer (some ⟨rb, 0, none⟩))) (hB : B ≤ w.heap.size) (hd : ∀ e ∈ o.after, factR B rb e.on a w) :
    o.wp Tryz.prog a w (fun a' w' => ∃ v, a' = a.put o.dst v ∧ B ≤ w'.heap.size ∧ RM B rb w w' ∧ factR B rb 23 a' w') Q := by
  simp only [opsR, Tryz.f35, List.getElem?_toArray, List.getElem?_cons_succ, List.getElem?_cons_zero, Option.some.injEq] at ho
  subst ho
  generalize hKK : (fun (a' : Act) (w' : World) => _) = K
  have HKK := Lib.hid hKK
  have HZ := Lib.hid hz
  clear hKK hz
  have h1 : a.tmps[21]? = some (.pointer (some ⟨rb, 0, none⟩)) := hd _ (Array.mem_singleton.2 rfl)
  clear hd
  go_simp
  rw [← HKK.out]
  have hz := HZ.out
  exact ⟨_, rfl, hB, .refl w hB, put_self (by omega)⟩

set_option maxRecDepth 100000 in
set_option maxHeartbeats 1000000 in
theorem stepR_24 (B rb : Nat) (a : Act) (w : World) (Q : Exit → Act → World → Prop) (o : Oper) (ho : opsR.toArray[24]? = some o) (hz : a.tmps.size = 45) (_h0 : a.tmps[0]? = some (.pointer (some ⟨rb, 0, none⟩))) (hB : B ≤ w.heap.size) (hd : ∀ e ∈ o.after, factR B rb e.on a w) :
    o.wp Tryz.prog a w (fun a' w' => ∃ v, a' = a.put o.dst v ∧ B ≤ w'.heap.size ∧ RM B rb w w' ∧ factR B rb 24 a' w') Q := by
  simp only [opsR, Tryz.f35, List.getElem?_toArray, List.getElem?_cons_succ, List.getElem?_cons_zero, Option.some.injEq] at ho
  subst ho
  generalize hKK : (fun (a' : Act) (w' : World) => _) = K
  have HKK := Lib.hid hKK
  have HZ := Lib.hid hz
  clear hKK hz
  have HM := Lib.hid (mk_rint 55 #[] w)
  clear hd
  go_simp
  refine HM.out.mono ?_
  rintro e w' ⟨v, rfl, hc, hb⟩
  show K _ _
  rw [← HKK.out]
  have hz := HZ.out
  exact ⟨v, rfl, Nat.le_trans hB hb.size, .of_below hb hB, ⟨v, put_self (by omega), hc⟩⟩

set_option maxRecDepth 100000 in
set_option maxHeartbeats 1000000 in
theorem stepR_25 (B rb : Nat) (a : Act) (w : World) (Q : Exit → Act → World → Prop) (o : Oper) (ho : opsR.toArray[25]? = some o) (hz : a.tmps.size = 45) (_h0 : a.tmps[0]? = some (.pointer (some ⟨rb, 0, none⟩))) (hB : B ≤ w.heap.size) (hd : ∀ e ∈ o.after, factR B rb e.on a w) :
    o.wp Tryz.prog a w (fun a' w' => ∃ v, a' = a.put o.dst v ∧ B ≤ w'.heap.size ∧ RM B rb w w' ∧ factR B rb 25 a' w') Q := by
  simp only [opsR, Tryz.f35, List.getElem?_toArray, List.getElem?_cons_succ, List.getElem?_cons_zero, Option.some.injEq] at ho
  subst ho
  generalize hKK : (fun (a' : Act) (w' : World) => _) = K
  have HKK := Lib.hid hKK
  have HZ := Lib.hid hz
  clear hKK hz
  have h1 : a.tmps[22]? = some (.pointer (some ⟨rb, 4, none⟩)) := hd ({ on := 23, ground := .data } : Edge) (by simp)
  obtain ⟨v0, h2, b3, rfl, h3⟩ : ∃ v, a.tmps[23]? = some v ∧ CloR 86 (fnv 55) v w := hd ({ on := 24, ground := .data } : Edge) (by simp)
  have HM := Lib.hid (mk_ints rb 4 86 #[.pointer (some ⟨b3, 0, none⟩)] w)
  have H3 := Lib.hid h3
  clear hd h3
  go_simp
  refine HM.out.mono ?_
  rintro e w' ⟨v, rfl, hc, hb⟩
  show K _ _
  rw [← HKK.out]
  have hz := HZ.out
  exact ⟨v, rfl, Nat.le_trans hB hb.size, .of_below hb hB, ⟨v, put_self (by omega), b3, cell_old H3.out hb, hc⟩⟩

set_option maxRecDepth 100000 in
set_option maxHeartbeats 1000000 in
theorem stepR_26 (B rb : Nat) (a : Act) (w : World) (Q : Exit → Act → World → Prop) (o : Oper) (ho : opsR.toArray[26]? = some o) (hz : a.tmps.size = 45) (_h0 : a.tmps[0]? = some (.pointer (some ⟨rb, 0, none⟩))) (hB : B ≤ w.heap.size) (hd : ∀ e ∈ o.after, factR B rb e.on a w) :
    o.wp Tryz.prog a w (fun a' w' => ∃ v, a' = a.put o.dst v ∧ B ≤ w'.heap.size ∧ RM B rb w w' ∧ factR B rb 26 a' w') Q := by
  simp only [opsR, Tryz.f35, List.getElem?_toArray, List.getElem?_cons_succ, List.getElem?_cons_zero, Option.some.injEq] at ho
  subst ho
  generalize hKK : (fun (a' : Act) (w' : World) => _) = K
  have HKK := Lib.hid hKK
  have HZ := Lib.hid hz
  clear hKK hz
  obtain ⟨v, h1, hcl⟩ : ∃ v, a.tmps[24]? = some v ∧ CloK rb 4 v w := hd ({ on := 25, ground := .data } : Edge) (by simp)
  obtain ⟨mb, es, c, h3, _, hmb, hhp, hg⟩ : ∃ (mb : Nat) (es : Array MapEntry) (c : Nat), a.tmps[3]? = some (Value.map (some mb)) ∧ a.tmps[3]? = some (Value.map (some mb)) ∧ B ≤ mb ∧ w.heap[mb]? = some (Obj.map es c) ∧ ∀ x ∈ es.toList, Good rb w x := hd ({ on := 0, ground := .data } : Edge) (by simp)
  obtain ⟨es', c', hr, e1, e2, e3⟩ := run_storeE (Maps.string_keyed key_str) readersT hhp (fun x hx => good_key (hg x hx)) (key := .string (keyB 4)) (val := v) (WideMaps.keyOf_string_mk key_str (keyB_size 4))
  have hR : RM B rb w (setBlock w mb (.map es' c')) := RM.store hmb hhp (fun x' hx' => (e1 x' hx').imp id fun ⟨q1, q2⟩ => ⟨4, by omega, q1, by
    rw [q2]
    refine hcl.keep fun b o v hc => ?_
    have : b ≠ mb := by
      intro e; subst e
      unfold World.cell? at hc
      rw [hhp] at hc
      simp at hc
    rw [World.cell?_of_block (setBlock_heap w mb _ b this)]; exact hc⟩) e2
  have HE3 := Lib.hid e3
  have HHP := Lib.hid hhp
  have hr' : (Instr.mapUpdate 53 (.map (some mb)) (.string ⟨#[66, 89, 77, 79, 78, 84, 72]⟩) v).run Tryz.prog w = .ok () (setBlock w mb (.map es' c')) := hr
  have HSZ : Hid (B ≤ (setBlock w mb (.map es' c')).heap.size) := by show B ≤ (w.heap.setIfInBounds _ _).size; simpa using hB
  clear hd hr e1 e2 e3 hg hhp hcl
  have HRR := Lib.hid hR
  clear hR
  go_simp
  rw [← HKK.out]
  exact ⟨undef, rfl, HSZ.out, HRR.out, ⟨mb, es', c', h3, setBlock_self w mb _ (heap_lt HHP.out), HE3.out⟩⟩

set_option maxRecDepth 100000 in
theorem stepR_27 (B rb : Nat) (a : Act) (w : World) (Q : Exit → Act → World → Prop) (o : Oper) (ho : opsR.toArray[27]? = some o) (hz : a.tmps.size = 45) (h0 : a.tmps[0]? = some (.pointer (some ⟨rb, 0, none⟩))) (hB : B ≤ w.heap.size) (hd : ∀ e ∈ o.after, factR B rb e.on a w) :
    o.wp Tryz.prog a w (fun a' w' => ∃ v, a' = a.put o.dst v ∧ B ≤ w'.heap.size ∧ RM B rb w w' ∧ factR B rb 27 a' w') Q := by
  simp only [opsR, Tryz.f35, List.getElem?_toArray, List.getElem?_cons_succ, List.getElem?_cons_zero, Option.some.injEq] at ho
  subst ho
  generalize hKK : (fun (a' : Act) (w' : World) => _) = K
  have HKK := Lib.hid hKK
  have HZ := Lib.hid hz
  clear hKK hz
  clear hd
  go_simp
  rw [← HKK.out]
  have hz := HZ.out
  exact ⟨_, rfl, hB, .refl w hB, put_self (by omega)⟩

set_option maxRecDepth 100000 in
theorem stepR_28 (B rb : Nat) (a : Act) (w : World) (Q : Exit → Act → World → Prop) (o : Oper) (ho : opsR.toArray[28]? = some o) (hz : a.tmps.size = 45) (_h0 : a.tmps[0]? = some (.pointer (some ⟨rb, 0, none⟩))) (hB : B ≤ w.heap.size) (hd : ∀ e ∈ o.after, factR B rb e.on a w) :
    o.wp Tryz.prog a w (fun a' w' => ∃ v, a' = a.put o.dst v ∧ B ≤ w'.heap.size ∧ RM B rb w w' ∧ factR B rb 28 a' w') Q := by
  simp only [opsR, Tryz.f35, List.getElem?_toArray, List.getElem?_cons_succ, List.getElem?_cons_zero, Option.some.injEq] at ho
  subst ho
  generalize hKK : (fun (a' : Act) (w' : World) => _) = K
  have HKK := Lib.hid hKK
  have HZ := Lib.hid hz
  clear hKK hz
  have h1 : a.tmps[25]? = some (.pointer (some ⟨rb, 0, none⟩)) := hd _ (Array.mem_singleton.2 rfl)
  clear hd
  go_simp
  rw [← HKK.out]
  have hz := HZ.out
  exact ⟨_, rfl, hB, .refl w hB, put_self (by omega)⟩

set_option maxRecDepth 100000 in
theorem stepR_29 (B rb : Nat) (a : Act) (w : World) (Q : Exit → Act → World → Prop) (o : Oper) (ho : opsR.toArray[29]? = some o) (hz : a.tmps.size = 45) (_h0 : a.tmps[0]? = some (.pointer (some ⟨rb, 0, none⟩))) (hB : B ≤ w.heap.size) (hd : ∀ e ∈ o.after, factR B rb e.on a w) :
    o.wp Tryz.prog a w (fun a' w' => ∃ v, a' = a.put o.dst v ∧ B ≤ w'.heap.size ∧ RM B rb w w' ∧ factR B rb 29 a' w') Q := by
  simp only [opsR, Tryz.f35, List.getElem?_toArray, List.getElem?_cons_succ, List.getElem?_cons_zero, Option.some.injEq] at ho
  subst ho
  generalize hKK : (fun (a' : Act) (w' : World) => _) = K
  have HKK := Lib.hid hKK
  have HZ := Lib.hid hz
  clear hKK hz
  have h1 : a.tmps[26]? = some (.pointer (some ⟨rb, 0, none⟩)) := hd _ (Array.mem_singleton.2 rfl)
  clear hd
  go_simp
  rw [← HKK.out]
  have hz := HZ.out
  exact ⟨_, rfl, hB, .refl w hB, put_self (by omega)⟩

set_option maxRecDepth 100000 in
set_option maxHeartbeats 1000000 in
theorem stepR_30 (B rb : Nat) (a : Act) (w : World) (Q : Exit → Act → World → Prop) (o : Oper) (ho : opsR.toArray[30]? = some o) (hz : a.tmps.size = 45) (_h0 : a.tmps[0]? = some (.pointer (some ⟨rb, 0, none⟩))) (hB : B ≤ w.heap.size) (hd : ∀ e ∈ o.after, factR B rb e.on a w) :
    o.wp Tryz.prog a w (fun a' w' => ∃ v, a' = a.put o.dst v ∧ B ≤ w'.heap.size ∧ RM B rb w w' ∧ factR B rb 30 a' w') Q := by
  simp only [opsR, Tryz.f35, List.getElem?_toArray, List.getElem?_cons_succ, List.getElem?_cons_zero, Option.some.injEq] at ho
  subst ho
  generalize hKK : (fun (a' : Act) (w' : World) => _) = K
  have HKK := Lib.hid hKK
  have HZ := Lib.hid hz
  clear hKK hz
  have HM := Lib.hid (mk_rint 55 #[] w)
  clear hd
  go_simp
  refine HM.out.mono ?_
  rintro e w' ⟨v, rfl, hc, hb⟩
  show K _ _
  rw [← HKK.out]
  have hz := HZ.out
  exact ⟨v, rfl, Nat.le_trans hB hb.size, .of_below hb hB, ⟨v, put_self (by omega), hc⟩⟩

set_option maxRecDepth 100000 in
set_option maxHeartbeats 1000000 in
theorem stepR_31 (B rb : Nat) (a : Act) (w : World) (Q : Exit → Act → World → Prop) (o : Oper) (ho : opsR.toArray[31]? = some o) (hz : a.tmps.size = 45) (_h0 : a.tmps[0]? = some (.pointer (some ⟨rb, 0, none⟩))) (hB : B ≤ w.heap.size) (hd : ∀ e ∈ o.after, factR B rb e.on a w) :
    o.wp Tryz.prog a w (fun a' w' => ∃ v, a' = a.put o.dst v ∧ B ≤ w'.heap.size ∧ RM B rb w w' ∧ factR B rb 31 a' w') Q := by
  simp only [opsR, Tryz.f35, List.getElem?_toArray, List.getElem?_cons_succ, List.getElem?_cons_zero, Option.some.injEq] at ho
  subst ho
  generalize hKK : (fun (a' : Act) (w' : World) => _) = K
  have HKK := Lib.hid hKK
  have HZ := Lib.hid hz
  clear hKK hz
  have h1 : a.tmps[27]? = some (.pointer (some ⟨rb, 5, none⟩)) := hd ({ on := 29, ground := .data } : Edge) (by simp)
  obtain ⟨v0, h2, b3, rfl, h3⟩ : ∃ v, a.tmps[28]? = some v ∧ CloR 86 (fnv 55) v w := hd ({ on := 30, ground := .data } : Edge) (by simp)
  have HM := Lib.hid (mk_ints rb 5 86 #[.pointer (some ⟨b3, 0, none⟩)] w)
  have H3 := Lib.hid h3
  clear hd h3
  go_simp
  refine HM.out.mono ?_
  rintro e w' ⟨v, rfl, hc, hb⟩
  show K _ _
  rw [← HKK.out]
  have hz := HZ.out
  exact ⟨v, rfl, Nat.le_trans hB hb.size, .of_below hb hB, ⟨v, put_self (by omega), b3, cell_old H3.out hb, hc⟩⟩

set_option maxRecDepth 100000 in
set_option maxHeartbeats 1000000 in
theorem stepR_32 (B rb : Nat) (a : Act) (w : World) (Q : Exit → Act → World → Prop) (o : Oper) (ho : opsR.toArray[32]? = some o) (hz : a.tmps.size = 45) (_h0 : a.tmps[0]? = some (.pointer (some ⟨rb, 0, none⟩))) (hB : B ≤ w.heap.size) (hd : ∀ e ∈ o.after, factR B rb e.on a w) :
    o.wp Tryz.prog a w (fun a' w' => ∃ v, a' = a.put o.dst v ∧ B ≤ w'.heap.size ∧ RM B rb w w' ∧ factR B rb 32 a' w') Q := by
  simp only [opsR, Tryz.f35, List.getElem?_toArray, List.getElem?_cons_succ, List.getElem?_cons_zero, Option.some.injEq] at ho
  subst ho
  generalize hKK : (fun (a' : Act) (w' : World) => _) = K
  have HKK := Lib.hid hKK
  have HZ := Lib.hid hz
  clear hKK hz
  obtain ⟨v, h1, hcl⟩ : ∃ v, a.tmps[29]? = some v ∧ CloK rb 5 v w := hd ({ on := 31, ground := .data } : Edge) (by simp)
  obtain ⟨mb, es, c, h3, _, hmb, hhp, hg⟩ : ∃ (mb : Nat) (es : Array MapEntry) (c : Nat), a.tmps[3]? = some (Value.map (some mb)) ∧ a.tmps[3]? = some (Value.map (some mb)) ∧ B ≤ mb ∧ w.heap[mb]? = some (Obj.map es c) ∧ ∀ x ∈ es.toList, Good rb w x := hd ({ on := 0, ground := .data } : Edge) (by simp)
  obtain ⟨es', c', hr, e1, e2, e3⟩ := run_storeE (Maps.string_keyed key_str) readersT hhp (fun x hx => good_key (hg x hx)) (key := .string (keyB 5)) (val := v) (WideMaps.keyOf_string_mk key_str (keyB_size 5))
  have hR : RM B rb w (setBlock w mb (.map es' c')) := RM.store hmb hhp (fun x' hx' => (e1 x' hx').imp id fun ⟨q1, q2⟩ => ⟨5, by omega, q1, by
    rw [q2]
    refine hcl.keep fun b o v hc => ?_
    have : b ≠ mb := by
      intro e; subst e
      unfold World.cell? at hc
      rw [hhp] at hc
      simp at hc
    rw [World.cell?_of_block (setBlock_heap w mb _ b this)]; exact hc⟩) e2
  have HE3 := Lib.hid e3
  have HHP := Lib.hid hhp
  have hr' : (Instr.mapUpdate 53 (.map (some mb)) (.string ⟨#[66, 89, 77, 79, 78, 84, 72, 68, 65, 89]⟩) v).run Tryz.prog w = .ok () (setBlock w mb (.map es' c')) := hr
  have HSZ : Hid (B ≤ (setBlock w mb (.map es' c')).heap.size) := by show B ≤ (w.heap.setIfInBounds _ _).size; simpa using hB
  clear hd hr e1 e2 e3 hg hhp hcl
  have HRR := Lib.hid hR
  clear hR
  go_simp
  rw [← HKK.out]
  exact ⟨undef, rfl, HSZ.out, HRR.out, ⟨mb, es', c', h3, setBlock_self w mb _ (heap_lt HHP.out), HE3.out⟩⟩

set_option maxRecDepth 100000 in
theorem stepR_33 (B rb : Nat) (a : Act) (w : World) (Q : Exit → Act → World → Prop) (o : Oper) (ho : opsR.toArray[33]? = some o) (hz : a.tmps.size = 45) (h0 : a.tmps[0]? = some (.pointer (some ⟨rb, 0, none⟩))) (hB : B ≤ w.heap.size) (hd : ∀ e ∈ o.after, factR B rb e.on a w) :
    o.wp Tryz.prog a w (fun a' w' => ∃ v, a' = a.put o.dst v ∧ B ≤ w'.heap.size ∧ RM B rb w w' ∧ factR B rb 33 a' w') Q := by
  simp only [opsR, Tryz.f35, List.getElem?_toArray, List.getElem?_cons_succ, List.getElem?_cons_zero, Option.some.injEq] at ho
  subst ho
  generalize hKK : (fun (a' : Act) (w' : World) => _) = K
  have HKK := Lib.hid hKK
  have HZ := Lib.hid hz
  clear hKK hz
  clear hd
  go_simp
  rw [← HKK.out]
  have hz := HZ.out
  exact ⟨_, rfl, hB, .refl w hB, put_self (by omega)⟩

set_option maxRecDepth 100000 in
theorem stepR_34 (B rb : Nat) (a : Act) (w : World) (Q : Exit → Act → World → Prop) (o : Oper) (ho : opsR.toArray[34]? = some o) (hz : a.tmps.size = 45) (_h0 : a.tmps[0]? = some (.pointer (some ⟨rb, 0, none⟩))) (hB : B ≤ w.heap.size) (hd : ∀ e ∈ o.after, factR B rb e.on a w) :
    o.wp Tryz.prog a w (fun a' w' => ∃ v, a' = a.put o.dst v ∧ B ≤ w'.heap.size ∧ RM B rb w w' ∧ factR B rb 34 a' w') Q := by
  simp only [opsR, Tryz.f35, List.getElem?_toArray, List.getElem?_cons_succ, List.getElem?_cons_zero, Option.some.injEq] at ho
  subst ho
  generalize hKK : (fun (a' : Act) (w' : World) => _) = K
  have HKK := Lib.hid hKK
  have HZ := Lib.hid hz
  clear hKK hz
  have h1 : a.tmps[30]? = some (.pointer (some ⟨rb, 0, none⟩)) := hd _ (Array.mem_singleton.2 rfl)
  clear hd
  go_simp
  rw [← HKK.out]
  have hz := HZ.out
  exact ⟨_, rfl, hB, .refl w hB, put_self (by omega)⟩

set_option maxRecDepth 100000 in
theorem stepR_35 (B rb : Nat) (a : Act) (w : World) (Q : Exit → Act → World → Prop) (o : Oper) (ho : opsR.toArray[35]? = some o) (hz : a.tmps.size = 45) (_h0 : a.tmps[0]? = some (.pointer (some ⟨rb, 0, none⟩))) (hB : B ≤ w.heap.size) (hd : ∀ e ∈ o.after, factR B rb e.on a w) :
    o.wp Tryz.prog a w (fun a' w' => ∃ v, a' = a.put o.dst v ∧ B ≤ w'.heap.size ∧ RM B rb w w' ∧ factR B rb 35 a' w') Q := by
  simp only [opsR, Tryz.f35, List.getElem?_toArray, List.getElem?_cons_succ, List.getElem?_cons_zero, Option.some.injEq] at ho
  subst ho
  generalize hKK : (fun (a' : Act) (w' : World) => _) = K
  have HKK := Lib.hid hKK
  have HZ := Lib.hid hz
  clear hKK hz
  have h1 : a.tmps[31]? = some (.pointer (some ⟨rb, 0, none⟩)) := hd _ (Array.mem_singleton.2 rfl)
  clear hd
  go_simp
  rw [← HKK.out]
  have hz := HZ.out
  exact ⟨_, rfl, hB, .refl w hB, put_self (by omega)⟩

set_option maxRecDepth 100000 in
set_option maxHeartbeats 1000000 in
theorem stepR_36 (B rb : Nat) (a : Act) (w : World) (Q : Exit → Act → World → Prop) (o : Oper) (ho : opsR.toArray[36]? = some o) (hz : a.tmps.size = 45) (_h0 : a.tmps[0]? = some (.pointer (some ⟨rb, 0, none⟩))) (hB : B ≤ w.heap.size) (hd : ∀ e ∈ o.after, factR B rb e.on a w) :
    o.wp Tryz.prog a w (fun a' w' => ∃ v, a' = a.put o.dst v ∧ B ≤ w'.heap.size ∧ RM B rb w w' ∧ factR B rb 36 a' w') Q := by
  simp only [opsR, Tryz.f35, List.getElem?_toArray, List.getElem?_cons_succ, List.getElem?_cons_zero, Option.some.injEq] at ho
  subst ho
  generalize hKK : (fun (a' : Act) (w' : World) => _) = K
  have HKK := Lib.hid hKK
  have HZ := Lib.hid hz
  clear hKK hz
  have HM := Lib.hid (mk_rday 62 #[] w)
  clear hd
  go_simp
  refine HM.out.mono ?_
  rintro e w' ⟨v, rfl, hc, hb⟩
  show K _ _
  rw [← HKK.out]
  have hz := HZ.out
  exact ⟨v, rfl, Nat.le_trans hB hb.size, .of_below hb hB, ⟨v, put_self (by omega), hc⟩⟩

set_option maxRecDepth 100000 in
set_option maxHeartbeats 1000000 in
theorem stepR_37 (B rb : Nat) (a : Act) (w : World) (Q : Exit → Act → World → Prop) (o : Oper) (ho : opsR.toArray[37]? = some o) (hz : a.tmps.size = 45) (_h0 : a.tmps[0]? = some (.pointer (some ⟨rb, 0, none⟩))) (hB : B ≤ w.heap.size) (hd : ∀ e ∈ o.after, factR B rb e.on a w) :
    o.wp Tryz.prog a w (fun a' w' => ∃ v, a' = a.put o.dst v ∧ B ≤ w'.heap.size ∧ RM B rb w w' ∧ factR B rb 37 a' w') Q := by
  simp only [opsR, Tryz.f35, List.getElem?_toArray, List.getElem?_cons_succ, List.getElem?_cons_zero, Option.some.injEq] at ho
  subst ho
  generalize hKK : (fun (a' : Act) (w' : World) => _) = K
  have HKK := Lib.hid hKK
  have HZ := Lib.hid hz
  clear hKK hz
  have h1 : a.tmps[32]? = some (.pointer (some ⟨rb, 6, none⟩)) := hd ({ on := 35, ground := .data } : Edge) (by simp)
  obtain ⟨v0, h2, b3, rfl, h3⟩ : ∃ v, a.tmps[33]? = some v ∧ CloR 88 (fnv 62) v w := hd ({ on := 36, ground := .data } : Edge) (by simp)
  have HM := Lib.hid (mk_days rb 6 88 #[.pointer (some ⟨b3, 0, none⟩)] w)
  have H3 := Lib.hid h3
  clear hd h3
  go_simp
  refine HM.out.mono ?_
  rintro e w' ⟨v, rfl, hc, hb⟩
  show K _ _
  rw [← HKK.out]
  have hz := HZ.out
  exact ⟨v, rfl, Nat.le_trans hB hb.size, .of_below hb hB, ⟨v, put_self (by omega), b3, cell_old H3.out hb, hc⟩⟩

set_option maxRecDepth 100000 in
set_option maxHeartbeats 1000000 in
theorem stepR_38 (B rb : Nat) (a : Act) (w : World) (Q : Exit → Act → World → Prop) (o : Oper) (ho : opsR.toArray[38]? = some o) (hz : a.tmps.size = 45) (_h0 : a.tmps[0]? = some (.pointer (some ⟨rb, 0, none⟩))) (hB : B ≤ w.heap.size) (hd : ∀ e ∈ o.after, factR B rb e.on a w) :
    o.wp Tryz.prog a w (fun a' w' => ∃ v, a' = a.put o.dst v ∧ B ≤ w'.heap.size ∧ RM B rb w w' ∧ factR B rb 38 a' w') Q := by
  simp only [opsR, Tryz.f35, List.getElem?_toArray, List.getElem?_cons_succ, List.getElem?_cons_zero, Option.some.injEq] at ho
  subst ho
  generalize hKK : (fun (a' : Act) (w' : World) => _) = K
  have HKK := Lib.hid hKK
  have HZ := Lib.hid hz
  clear hKK hz
  obtain ⟨v, h1, hcl⟩ : ∃ v, a.tmps[34]? = some v ∧ CloK rb 6 v w := hd ({ on := 37, ground := .data } : Edge) (by simp)
  obtain ⟨mb, es, c, h3, _, hmb, hhp, hg⟩ : ∃ (mb : Nat) (es : Array MapEntry) (c : Nat), a.tmps[3]? = some (Value.map (some mb)) ∧ a.tmps[3]? = some (Value.map (some mb)) ∧ B ≤ mb ∧ w.heap[mb]? = some (Obj.map es c) ∧ ∀ x ∈ es.toList, Good rb w x := hd ({ on := 0, ground := .data } : Edge) (by simp)
  obtain ⟨es', c', hr, e1, e2, e3⟩ := run_storeE (Maps.string_keyed key_str) readersT hhp (fun x hx => good_key (hg x hx)) (key := .string (keyB 6)) (val := v) (WideMaps.keyOf_string_mk key_str (keyB_size 6))
  have hR : RM B rb w (setBlock w mb (.map es' c')) := RM.store hmb hhp (fun x' hx' => (e1 x' hx').imp id fun ⟨q1, q2⟩ => ⟨6, by omega, q1, by
    rw [q2]
    refine hcl.keep fun b o v hc => ?_
    have : b ≠ mb := by
      intro e; subst e
      unfold World.cell? at hc
      rw [hhp] at hc
      simp at hc
    rw [World.cell?_of_block (setBlock_heap w mb _ b this)]; exact hc⟩) e2
  have HE3 := Lib.hid e3
  have HHP := Lib.hid hhp
  have hr' : (Instr.mapUpdate 53 (.map (some mb)) (.string ⟨#[66, 89, 68, 65, 89]⟩) v).run Tryz.prog w = .ok () (setBlock w mb (.map es' c')) := hr
  have HSZ : Hid (B ≤ (setBlock w mb (.map es' c')).heap.size) := by show B ≤ (w.heap.setIfInBounds _ _).size; simpa using hB
  clear hd hr e1 e2 e3 hg hhp hcl
  have HRR := Lib.hid hR
  clear hR
  go_simp
  rw [← HKK.out]
  exact ⟨undef, rfl, HSZ.out, HRR.out, ⟨mb, es', c', h3, setBlock_self w mb _ (heap_lt HHP.out), HE3.out⟩⟩

set_option maxRecDepth 100000 in
theorem stepR_39 (B rb : Nat) (a : Act) (w : World) (Q : Exit → Act → World → Prop) (o : Oper) (ho : opsR.toArray[39]? = some o) (hz : a.tmps.size = 45) (h0 : a.tmps[0]? = some (.pointer (some ⟨rb, 0, none⟩))) (hB : B ≤ w.heap.size) (hd : ∀ e ∈ o.after, factR B rb e.on a w) :
    o.wp Tryz.prog a w (fun a' w' => ∃ v, a' = a.put o.dst v ∧ B ≤ w'.heap.size ∧ RM B rb w w' ∧ factR B rb 39 a' w') Q := by
  simp only [opsR, Tryz.f35, List.getElem?_toArray, List.getElem?_cons_succ, List.getElem?_cons_zero, Option.some.injEq] at ho
  subst ho
  generalize hKK : (fun (a' : Act) (w' : World) => _) = K
  have HKK := Lib.hid hKK
  have HZ := Lib.hid hz
  clear hKK hz
  clear hd
  go_simp
  rw [← HKK.out]
  have hz := HZ.out
  exact ⟨_, rfl, hB, .refl w hB, put_self (by omega)⟩

set_option maxRecDepth 100000 in
theorem stepR_40 (B rb : Nat) (a : Act) (w : World) (Q : Exit → Act → World → Prop) (o : Oper) (ho : opsR.toArray[40]? = some o) (hz : a.tmps.size = 45) (_h0 : a.tmps[0]? = some (.pointer (some ⟨rb, 0, none⟩))) (hB : B ≤ w.heap.size) (hd : ∀ e ∈ o.after, factR B rb e.on a w) :
    o.wp Tryz.prog a w (fun a' w' => ∃ v, a' = a.put o.dst v ∧ B ≤ w'.heap.size ∧ RM B rb w w' ∧ factR B rb 40 a' w') Q := by
  simp only [opsR, Tryz.f35, List.getElem?_toArray, List.getElem?_cons_succ, List.getElem?_cons_zero, Option.some.injEq] at ho
  subst ho
  generalize hKK : (fun (a' : Act) (w' : World) => _) = K
  have HKK := Lib.hid hKK
  have HZ := Lib.hid hz
  clear hKK hz
  have h1 : a.tmps[35]? = some (.pointer (some ⟨rb, 0, none⟩)) := hd _ (Array.mem_singleton.2 rfl)
  clear hd
  go_simp
  rw [← HKK.out]
  have hz := HZ.out
  exact ⟨_, rfl, hB, .refl w hB, put_self (by omega)⟩

set_option maxRecDepth 100000 in
theorem stepR_41 (B rb : Nat) (a : Act) (w : World) (Q : Exit → Act → World → Prop) (o : Oper) (ho : opsR.toArray[41]? = some o) (hz : a.tmps.size = 45) (_h0 : a.tmps[0]? = some (.pointer (some ⟨rb, 0, none⟩))) (hB : B ≤ w.heap.size) (hd : ∀ e ∈ o.after, factR B rb e.on a w) :
    o.wp Tryz.prog a w (fun a' w' => ∃ v, a' = a.put o.dst v ∧ B ≤ w'.heap.size ∧ RM B rb w w' ∧ factR B rb 41 a' w') Q := by
  simp only [opsR, Tryz.f35, List.getElem?_toArray, List.getElem?_cons_succ, List.getElem?_cons_zero, Option.some.injEq] at ho
  subst ho
  generalize hKK : (fun (a' : Act) (w' : World) => _) = K
  have HKK := Lib.hid hKK
  have HZ := Lib.hid hz
  clear hKK hz
  have h1 : a.tmps[36]? = some (.pointer (some ⟨rb, 0, none⟩)) := hd _ (Array.mem_singleton.2 rfl)
  clear hd
  go_simp
  rw [← HKK.out]
  have hz := HZ.out
  exact ⟨_, rfl, hB, .refl w hB, put_self (by omega)⟩

set_option maxRecDepth 100000 in
set_option maxHeartbeats 1000000 in
theorem stepR_42 (B rb : Nat) (a : Act) (w : World) (Q : Exit → Act → World → Prop) (o : Oper) (ho : opsR.toArray[42]? = some o) (hz : a.tmps.size = 45) (_h0 : a.tmps[0]? = some (.pointer (some ⟨rb, 0, none⟩))) (hB : B ≤ w.heap.size) (hd : ∀ e ∈ o.after, factR B rb e.on a w) :
    o.wp Tryz.prog a w (fun a' w' => ∃ v, a' = a.put o.dst v ∧ B ≤ w'.heap.size ∧ RM B rb w w' ∧ factR B rb 42 a' w') Q := by
  simp only [opsR, Tryz.f35, List.getElem?_toArray, List.getElem?_cons_succ, List.getElem?_cons_zero, Option.some.injEq] at ho
  subst ho
  generalize hKK : (fun (a' : Act) (w' : World) => _) = K
  have HKK := Lib.hid hKK
  have HZ := Lib.hid hz
  clear hKK hz
  have HM := Lib.hid (mk_rint 55 #[] w)
  clear hd
  go_simp
  refine HM.out.mono ?_
  rintro e w' ⟨v, rfl, hc, hb⟩
  show K _ _
  rw [← HKK.out]
  have hz := HZ.out
  exact ⟨v, rfl, Nat.le_trans hB hb.size, .of_below hb hB, ⟨v, put_self (by omega), hc⟩⟩

set_option maxRecDepth 100000 in
set_option maxHeartbeats 1000000 in
theorem stepR_43 (B rb : Nat) (a : Act) (w : World) (Q : Exit → Act → World → Prop) (o : Oper) (ho : opsR.toArray[43]? = some o) (hz : a.tmps.size = 45) (_h0 : a.tmps[0]? = some (.pointer (some ⟨rb, 0, none⟩))) (hB : B ≤ w.heap.size) (hd : ∀ e ∈ o.after, factR B rb e.on a w) :
    o.wp Tryz.prog a w (fun a' w' => ∃ v, a' = a.put o.dst v ∧ B ≤ w'.heap.size ∧ RM B rb w w' ∧ factR B rb 43 a' w') Q := by
  simp only [opsR, Tryz.f35, List.getElem?_toArray, List.getElem?_cons_succ, List.getElem?_cons_zero, Option.some.injEq] at ho
  subst ho
  generalize hKK : (fun (a' : Act) (w' : World) => _) = K
  have HKK := Lib.hid hKK
  have HZ := Lib.hid hz
  clear hKK hz
  have h1 : a.tmps[37]? = some (.pointer (some ⟨rb, 7, none⟩)) := hd ({ on := 41, ground := .data } : Edge) (by simp)
  obtain ⟨v0, h2, b3, rfl, h3⟩ : ∃ v, a.tmps[38]? = some v ∧ CloR 86 (fnv 55) v w := hd ({ on := 42, ground := .data } : Edge) (by simp)
  have HM := Lib.hid (mk_ints rb 7 86 #[.pointer (some ⟨b3, 0, none⟩)] w)
  have H3 := Lib.hid h3
  clear hd h3
  go_simp
  refine HM.out.mono ?_
  rintro e w' ⟨v, rfl, hc, hb⟩
  show K _ _
  rw [← HKK.out]
  have hz := HZ.out
  exact ⟨v, rfl, Nat.le_trans hB hb.size, .of_below hb hB, ⟨v, put_self (by omega), b3, cell_old H3.out hb, hc⟩⟩

set_option maxRecDepth 100000 in
set_option maxHeartbeats 1000000 in
theorem stepR_44 (B rb : Nat) (a : Act) (w : World) (Q : Exit → Act → World → Prop) (o : Oper) (ho : opsR.toArray[44]? = some o) (hz : a.tmps.size = 45) (_h0 : a.tmps[0]? = some (.pointer (some ⟨rb, 0, none⟩))) (hB : B ≤ w.heap.size) (hd : ∀ e ∈ o.after, factR B rb e.on a w) :
    o.wp Tryz.prog a w (fun a' w' => ∃ v, a' = a.put o.dst v ∧ B ≤ w'.heap.size ∧ RM B rb w w' ∧ factR B rb 44 a' w') Q := by
  simp only [opsR, Tryz.f35, List.getElem?_toArray, List.getElem?_cons_succ, List.getElem?_cons_zero, Option.some.injEq] at ho
  subst ho
  generalize hKK : (fun (a' : Act) (w' : World) => _) = K
  have HKK := Lib.hid hKK
  have HZ := Lib.hid hz
  clear hKK hz
  obtain ⟨v, h1, hcl⟩ : ∃ v, a.tmps[39]? = some v ∧ CloK rb 7 v w := hd ({ on := 43, ground := .data } : Edge) (by simp)
  obtain ⟨mb, es, c, h3, _, hmb, hhp, hg⟩ : ∃ (mb : Nat) (es : Array MapEntry) (c : Nat), a.tmps[3]? = some (Value.map (some mb)) ∧ a.tmps[3]? = some (Value.map (some mb)) ∧ B ≤ mb ∧ w.heap[mb]? = some (Obj.map es c) ∧ ∀ x ∈ es.toList, Good rb w x := hd ({ on := 0, ground := .data } : Edge) (by simp)
  obtain ⟨es', c', hr, e1, e2, e3⟩ := run_storeE (Maps.string_keyed key_str) readersT hhp (fun x hx => good_key (hg x hx)) (key := .string (keyB 7)) (val := v) (WideMaps.keyOf_string_mk key_str (keyB_size 7))
  have hR : RM B rb w (setBlock w mb (.map es' c')) := RM.store hmb hhp (fun x' hx' => (e1 x' hx').imp id fun ⟨q1, q2⟩ => ⟨7, by omega, q1, by
    rw [q2]
    refine hcl.keep fun b o v hc => ?_
    have : b ≠ mb := by
      intro e; subst e
      unfold World.cell? at hc
      rw [hhp] at hc
      simp at hc
    rw [World.cell?_of_block (setBlock_heap w mb _ b this)]; exact hc⟩) e2
  have HE3 := Lib.hid e3
  have HHP := Lib.hid hhp
  have hr' : (Instr.mapUpdate 53 (.map (some mb)) (.string ⟨#[66, 89, 83, 69, 84, 80, 79, 83]⟩) v).run Tryz.prog w = .ok () (setBlock w mb (.map es' c')) := hr
  have HSZ : Hid (B ≤ (setBlock w mb (.map es' c')).heap.size) := by show B ≤ (w.heap.setIfInBounds _ _).size; simpa using hB
  clear hd hr e1 e2 e3 hg hhp hcl
  have HRR := Lib.hid hR
  clear hR
  go_simp
  rw [← HKK.out]
  exact ⟨undef, rfl, HSZ.out, HRR.out, ⟨mb, es', c', h3, setBlock_self w mb _ (heap_lt HHP.out), HE3.out⟩⟩

set_option maxRecDepth 100000 in
theorem stepR_45 (B rb : Nat) (a : Act) (w : World) (Q : Exit → Act → World → Prop) (o : Oper) (ho : opsR.toArray[45]? = some o) (hz : a.tmps.size = 45) (h0 : a.tmps[0]? = some (.pointer (some ⟨rb, 0, none⟩))) (hB : B ≤ w.heap.size) (hd : ∀ e ∈ o.after, factR B rb e.on a w) :
    o.wp Tryz.prog a w (fun a' w' => ∃ v, a' = a.put o.dst v ∧ B ≤ w'.heap.size ∧ RM B rb w w' ∧ factR B rb 45 a' w') Q := by
  simp only [opsR, Tryz.f35, List.getElem?_toArray, List.getElem?_cons_succ, List.getElem?_cons_zero, Option.some.injEq] at ho
  subst ho
  generalize hKK : (fun (a' : Act) (w' : World) => _) = K
  have HKK := Lib.hid hKK
  have HZ := Lib.hid hz
  clear hKK hz
  clear hd
  go_simp
  rw [← HKK.out]
  have hz := HZ.out
  exact ⟨_, rfl, hB, .refl w hB, put_self (by omega)⟩

set_option maxRecDepth 100000 in
theorem stepR_46 (B rb : Nat) (a : Act) (w : World) (Q : Exit → Act → World → Prop) (o : Oper) (ho : opsR.toArray[46]? = some o) (hz : a.tmps.size = 45) (_h0 : a.tmps[0]? = some (.pointer (some ⟨rb, 0, none⟩))) (hB : B ≤ w.heap.size) (hd : ∀ e ∈ o.after, factR B rb e.on a w) :
    o.wp Tryz.prog a w (fun a' w' => ∃ v, a' = a.put o.dst v ∧ B ≤ w'.heap.size ∧ RM B rb w w' ∧ factR B rb 46 a' w') Q := by
  simp only [opsR, Tryz.f35, List.getElem?_toArray, List.getElem?_cons_succ, List.getElem?_cons_zero, Option.some.injEq] at ho
  subst ho
  generalize hKK : (fun (a' : Act) (w' : World) => _) = K
  have HKK := Lib.hid hKK
  have HZ := Lib.hid hz
  clear hKK hz
  have h1 : a.tmps[40]? = some (.pointer (some ⟨rb, 0, none⟩)) := hd _ (Array.mem_singleton.2 rfl)
  clear hd
  go_simp
  rw [← HKK.out]
  have hz := HZ.out
  exact ⟨_, rfl, hB, .refl w hB, put_self (by omega)⟩

set_option maxRecDepth 100000 in
theorem stepR_47 (B rb : Nat) (a : Act) (w : World) (Q : Exit → Act → World → Prop) (o : Oper) (ho : opsR.toArray[47]? = some o) (hz : a.tmps.size = 45) (_h0 : a.tmps[0]? = some (.pointer (some ⟨rb, 0, none⟩))) (hB : B ≤ w.heap.size) (hd : ∀ e ∈ o.after, factR B rb e.on a w) :
    o.wp Tryz.prog a w (fun a' w' => ∃ v, a' = a.put o.dst v ∧ B ≤ w'.heap.size ∧ RM B rb w w' ∧ factR B rb 47 a' w') Q := by
  simp only [opsR, Tryz.f35, List.getElem?_toArray, List.getElem?_cons_succ, List.getElem?_cons_zero, Option.some.injEq] at ho
  subst ho
  generalize hKK : (fun (a' : Act) (w' : World) => _) = K
  have HKK := Lib.hid hKK
  have HZ := Lib.hid hz
  clear hKK hz
  have h1 : a.tmps[41]? = some (.pointer (some ⟨rb, 0, none⟩)) := hd _ (Array.mem_singleton.2 rfl)
  clear hd
  go_simp
  rw [← HKK.out]
  have hz := HZ.out
  exact ⟨_, rfl, hB, .refl w hB, put_self (by omega)⟩

set_option maxRecDepth 100000 in
set_option maxHeartbeats 1000000 in
theorem stepR_48 (B rb : Nat) (a : Act) (w : World) (Q : Exit → Act → World → Prop) (o : Oper) (ho : opsR.toArray[48]? = some o) (hz : a.tmps.size = 45) (_h0 : a.tmps[0]? = some (.pointer (some ⟨rb, 0, none⟩))) (hB : B ≤ w.heap.size) (hd : ∀ e ∈ o.after, factR B rb e.on a w) :
    o.wp Tryz.prog a w (fun a' w' => ∃ v, a' = a.put o.dst v ∧ B ≤ w'.heap.size ∧ RM B rb w w' ∧ factR B rb 48 a' w') Q := by
  simp only [opsR, Tryz.f35, List.getElem?_toArray, List.getElem?_cons_succ, List.getElem?_cons_zero, Option.some.injEq] at ho
  subst ho
  generalize hKK : (fun (a' : Act) (w' : World) => _) = K
  have HKK := Lib.hid hKK
  have HZ := Lib.hid hz
  clear hKK hz
  have h1 : a.tmps[42]? = some (.pointer (some ⟨rb, 8, none⟩)) := hd ({ on := 47, ground := .data } : Edge) (by simp)
  have HM := Lib.hid (mk_int rb 8 63 #[] w)
  clear hd
  go_simp
  refine HM.out.mono ?_
  rintro e w' ⟨v, rfl, hc, hb⟩
  show K _ _
  rw [← HKK.out]
  have hz := HZ.out
  exact ⟨v, rfl, Nat.le_trans hB hb.size, .of_below hb hB, ⟨v, put_self (by omega), hc⟩⟩

set_option maxRecDepth 100000 in
set_option maxHeartbeats 1000000 in
theorem stepR_49 (B rb : Nat) (a : Act) (w : World) (Q : Exit → Act → World → Prop) (o : Oper) (ho : opsR.toArray[49]? = some o) (hz : a.tmps.size = 45) (_h0 : a.tmps[0]? = some (.pointer (some ⟨rb, 0, none⟩))) (hB : B ≤ w.heap.size) (hd : ∀ e ∈ o.after, factR B rb e.on a w) :
    o.wp Tryz.prog a w (fun a' w' => ∃ v, a' = a.put o.dst v ∧ B ≤ w'.heap.size ∧ RM B rb w w' ∧ factR B rb 49 a' w') Q := by
  simp only [opsR, Tryz.f35, List.getElem?_toArray, List.getElem?_cons_succ, List.getElem?_cons_zero, Option.some.injEq] at ho
  subst ho
  generalize hKK : (fun (a' : Act) (w' : World) => _) = K
  have HKK := Lib.hid hKK
  have HZ := Lib.hid hz
  clear hKK hz
  obtain ⟨v, h1, hcl⟩ : ∃ v, a.tmps[43]? = some v ∧ CloK rb 8 v w := hd ({ on := 48, ground := .data } : Edge) (by simp)
  obtain ⟨mb, es, c, h3, _, hmb, hhp, hg⟩ : ∃ (mb : Nat) (es : Array MapEntry) (c : Nat), a.tmps[3]? = some (Value.map (some mb)) ∧ a.tmps[3]? = some (Value.map (some mb)) ∧ B ≤ mb ∧ w.heap[mb]? = some (Obj.map es c) ∧ ∀ x ∈ es.toList, Good rb w x := hd ({ on := 0, ground := .data } : Edge) (by simp)
  obtain ⟨es', c', hr, e1, e2, e3⟩ := run_storeE (Maps.string_keyed key_str) readersT hhp (fun x hx => good_key (hg x hx)) (key := .string (keyB 8)) (val := v) (WideMaps.keyOf_string_mk key_str (keyB_size 8))
  have hR : RM B rb w (setBlock w mb (.map es' c')) := RM.store hmb hhp (fun x' hx' => (e1 x' hx').imp id fun ⟨q1, q2⟩ => ⟨8, by omega, q1, by
    rw [q2]
    refine hcl.keep fun b o v hc => ?_
    have : b ≠ mb := by
      intro e; subst e
      unfold World.cell? at hc
      rw [hhp] at hc
      simp at hc
    rw [World.cell?_of_block (setBlock_heap w mb _ b this)]; exact hc⟩) e2
  have HE3 := Lib.hid e3
  have HHP := Lib.hid hhp
  have hr' : (Instr.mapUpdate 53 (.map (some mb)) (.string ⟨#[87, 75, 83, 84]⟩) v).run Tryz.prog w = .ok () (setBlock w mb (.map es' c')) := hr
  have HSZ : Hid (B ≤ (setBlock w mb (.map es' c')).heap.size) := by show B ≤ (w.heap.setIfInBounds _ _).size; simpa using hB
  clear hd hr e1 e2 e3 hg hhp hcl
  have HRR := Lib.hid hR
  clear hR
  go_simp
  rw [← HKK.out]
  exact ⟨undef, rfl, HSZ.out, HRR.out, ⟨mb, es', c', h3, setBlock_self w mb _ (heap_lt HHP.out), HE3.out⟩⟩

set_option maxRecDepth 100000 in
set_option maxHeartbeats 1000000 in
theorem stepR_50 (B rb : Nat) (a : Act) (w : World) (Q : Exit → Act → World → Prop) (o : Oper) (ho : opsR.toArray[50]? = some o) (hz : a.tmps.size = 45) (_h0 : a.tmps[0]? = some (.pointer (some ⟨rb, 0, none⟩))) (hB : B ≤ w.heap.size) (hd : ∀ e ∈ o.after, factR B rb e.on a w) :
    o.wp Tryz.prog a w (fun a' w' => ∃ v, a' = a.put o.dst v ∧ B ≤ w'.heap.size ∧ RM B rb w w' ∧ factR B rb 50 a' w') Q := by
  simp only [opsR, Tryz.f35, List.getElem?_toArray, List.getElem?_cons_succ, List.getElem?_cons_zero, Option.some.injEq] at ho
  subst ho
  generalize hKK : (fun (a' : Act) (w' : World) => _) = K
  have HKK := Lib.hid hKK
  have HZ := Lib.hid hz
  clear hKK hz
  obtain ⟨mb, es, c, h3, h3', hmb, hhp, hg⟩ : ∃ (mb : Nat) (es : Array MapEntry) (c : Nat), a.tmps[3]? = some (Value.map (some mb)) ∧ a.tmps[3]? = some (Value.map (some mb)) ∧ B ≤ mb ∧ w.heap[mb]? = some (Obj.map es c) ∧ ∀ x ∈ es.toList, Good rb w x := hd ({ on := 0, ground := .data } : Edge) (by simp)
  have HG := Lib.hid hg
  have HH := Lib.hid hhp
  clear hd hg hhp
  go_simp
  rw [← HKK.out]
  have hz := HZ.out
  exact ⟨_, rfl, hB, .refl w hB, ⟨mb, es, c, put_self (by omega), (put_other (by decide)).trans h3', hmb, HH.out, HG.out⟩⟩

set_option maxRecDepth 100000 in
set_option maxHeartbeats 1000000 in
theorem stepR_51 (B rb : Nat) (a : Act) (w : World) (Q : Exit → Act → World → Prop) (o : Oper) (ho : opsR.toArray[51]? = some o) (hz : a.tmps.size = 45) (_h0 : a.tmps[0]? = some (.pointer (some ⟨rb, 0, none⟩))) (hB : B ≤ w.heap.size) (hd : ∀ e ∈ o.after, factR B rb e.on a w) :
    o.wp Tryz.prog a w (fun a' w' => ∃ v, a' = a.put o.dst v ∧ B ≤ w'.heap.size ∧ RM B rb w w' ∧ factR B rb 51 a' w') Q := by
  simp only [opsR, Tryz.f35, List.getElem?_toArray, List.getElem?_cons_succ, List.getElem?_cons_zero, Option.some.injEq] at ho
  subst ho
  generalize hKK : (fun (a' : Act) (w' : World) => _) = K
  have HKK := Lib.hid hKK
  have HZ := Lib.hid hz
  clear hKK hz
  obtain ⟨mb, es, c, h4, h3, hmb, hhp, hg⟩ : ∃ (mb : Nat) (es : Array MapEntry) (c : Nat), a.tmps[44]? = some (Value.map (some mb)) ∧ a.tmps[3]? = some (Value.map (some mb)) ∧ B ≤ mb ∧ w.heap[mb]? = some (Obj.map es c) ∧ ∀ x ∈ es.toList, Good rb w x := hd ({ on := 50, ground := .data } : Edge) (by simp)
  have HG := Lib.hid hg
  have HH := Lib.hid hhp
  clear hd hg hhp
  go_simp
  rw [← HKK.out]
  have hz := HZ.out
  exact ⟨_, rfl, hB, .refl w hB, ⟨mb, es, c, put_self (by omega), (put_other (by decide)).trans h3, hmb, HH.out, HG.out⟩⟩

set_option maxRecDepth 100000 in
theorem stepR_all (B rb i : Nat) (a : Act) (w : World) (Q : Exit → Act → World → Prop) (o : Oper) (ho : opsR.toArray[i]? = some o) (hz : a.tmps.size = 45) (h0 : a.tmps[0]? = some (.pointer (some ⟨rb, 0, none⟩))) (hB : B ≤ w.heap.size) (hd : ∀ e ∈ o.after, factR B rb e.on a w) :
    o.wp Tryz.prog a w (fun a' w' => ∃ v, a' = a.put o.dst v ∧ B ≤ w'.heap.size ∧ RM B rb w w' ∧ factR B rb i a' w') Q := by
  have hi : i < 52 := by have := (Array.getElem?_eq_some_iff.1 ho).1; rw [List.size_toArray, opsR_len] at this; exact this
  match i, hi with
  | 0, _ => exact stepR_0 B rb a w Q o ho hz h0 hB hd
  | 1, _ => exact stepR_1 B rb a w Q o ho hz h0 hB hd
  | 2, _ => exact stepR_2 B rb a w Q o ho hz h0 hB hd
  | 3, _ => exact stepR_3 B rb a w Q o ho hz h0 hB hd
  | 4, _ => exact stepR_4 B rb a w Q o ho hz h0 hB hd
  | 5, _ => exact stepR_5 B rb a w Q o ho hz h0 hB hd
  | 6, _ => exact stepR_6 B rb a w Q o ho hz h0 hB hd
  | 7, _ => exact stepR_7 B rb a w Q o ho hz h0 hB hd
  | 8, _ => exact stepR_8 B rb a w Q o ho hz h0 hB hd
  | 9, _ => exact stepR_9 B rb a w Q o ho hz h0 hB hd
  | 10, _ => exact stepR_10 B rb a w Q o ho hz h0 hB hd
  | 11, _ => exact stepR_11 B rb a w Q o ho hz h0 hB hd
  | 12, _ => exact stepR_12 B rb a w Q o ho hz h0 hB hd
  | 13, _ => exact stepR_13 B rb a w Q o ho hz h0 hB hd
  | 14, _ => exact stepR_14 B rb a w Q o ho hz h0 hB hd
  | 15, _ => exact stepR_15 B rb a w Q o ho hz h0 hB hd
  | 16, _ => exact stepR_16 B rb a w Q o ho hz h0 hB hd
  | 17, _ => exact stepR_17 B rb a w Q o ho hz h0 hB hd
  | 18, _ => exact stepR_18 B rb a w Q o ho hz h0 hB hd
  | 19, _ => exact stepR_19 B rb a w Q o ho hz h0 hB hd
  | 20, _ => exact stepR_20 B rb a w Q o ho hz h0 hB hd
  | 21, _ => exact stepR_21 B rb a w Q o ho hz h0 hB hd
  | 22, _ => exact stepR_22 B rb a w Q o ho hz h0 hB hd
  | 23, _ => exact stepR_23 B rb a w Q o ho hz h0 hB hd
  | 24, _ => exact stepR_24 B rb a w Q o ho hz h0 hB hd
  | 25, _ => exact stepR_25 B rb a w Q o ho hz h0 hB hd
  | 26, _ => exact stepR_26 B rb a w Q o ho hz h0 hB hd
  | 27, _ => exact stepR_27 B rb a w Q o ho hz h0 hB hd
  | 28, _ => exact stepR_28 B rb a w Q o ho hz h0 hB hd
  | 29, _ => exact stepR_29 B rb a w Q o ho hz h0 hB hd
  | 30, _ => exact stepR_30 B rb a w Q o ho hz h0 hB hd
  | 31, _ => exact stepR_31 B rb a w Q o ho hz h0 hB hd
  | 32, _ => exact stepR_32 B rb a w Q o ho hz h0 hB hd
  | 33, _ => exact stepR_33 B rb a w Q o ho hz h0 hB hd
  | 34, _ => exact stepR_34 B rb a w Q o ho hz h0 hB hd
  | 35, _ => exact stepR_35 B rb a w Q o ho hz h0 hB hd
  | 36, _ => exact stepR_36 B rb a w Q o ho hz h0 hB hd
  | 37, _ => exact stepR_37 B rb a w Q o ho hz h0 hB hd
  | 38, _ => exact stepR_38 B rb a w Q o ho hz h0 hB hd
  | 39, _ => exact stepR_39 B rb a w Q o ho hz h0 hB hd
  | 40, _ => exact stepR_40 B rb a w Q o ho hz h0 hB hd
  | 41, _ => exact stepR_41 B rb a w Q o ho hz h0 hB hd
  | 42, _ => exact stepR_42 B rb a w Q o ho hz h0 hB hd
  | 43, _ => exact stepR_43 B rb a w Q o ho hz h0 hB hd
  | 44, _ => exact stepR_44 B rb a w Q o ho hz h0 hB hd
  | 45, _ => exact stepR_45 B rb a w Q o ho hz h0 hB hd
  | 46, _ => exact stepR_46 B rb a w Q o ho hz h0 hB hd
  | 47, _ => exact stepR_47 B rb a w Q o ho hz h0 hB hd
  | 48, _ => exact stepR_48 B rb a w Q o ho hz h0 hB hd
  | 49, _ => exact stepR_49 B rb a w Q o ho hz h0 hB hd
  | 50, _ => exact stepR_50 B rb a w Q o ho hz h0 hB hd
  | 51, _ => exact stepR_51 B rb a w Q o ho hz h0 hB hd
  | n + 52, h => omega
/-- The readers in memory: a map of closures by the parts' names. -/
def ReadersAt (rb mb : Nat) (w : World) : Prop := ∃ es c, w.heap[mb]? = some (Obj.map es c) ∧ (∀ x ∈ es.toList, Good rb w x) ∧ ∀ k, k < 9 → ∃ x ∈ es.toList, x.key = .string (keyB k)
theorem dst0 : ∀ (i : Nat) o, opsR.toArray[i]? = some o → o.dst ≠ some 0 := by
  have h : (opsR.all fun o => o.dst != some 0) = true := by kernel_rfl
  intro i o ho
  have := List.all_eq_true.1 h o (by rw [List.getElem?_toArray] at ho; exact List.mem_of_getElem? ho)
  simpa using this
set_option maxRecDepth 100000 in
set_option maxHeartbeats 1000000 in
theorem readers_any (rb : Nat) (w : World) :
    Calls Tryz.prog 35 #[.pointer (some ⟨rb, 0, none⟩)] w fun e w' => ∃ mb, e = .returned (.map (some mb)) ∧ ReadersAt rb mb w' ∧ w.heap.size ≤ mb ∧ Below w.heap.size w w' := by
  go_enter Tryz.func35, Tryz.ntmps35
  go_upto_region 1 with fail
  refine wp_region_facts (by kernel_rfl) (fun j => ((specR[j]?).map readsS).getD []) factsR (factR w.heap.size rb) (fun _ => RM w.heap.size rb) (fun w' => w.heap.size ≤ w'.heap.size ∧ Below w.heap.size w w') ⟨Nat.le_refl _, (Below.refl _ w).drew⟩ ?hst ?hstep ?hend
  case hst =>
    intro i j a a' w1 w2 _ hF ht hR
    unfold factR at hF ⊢
    cases hs : specR[j]? with
    | none => rw [hs] at hF; exact hF
    | some s =>
      rw [hs] at hF
      simp only [hs, Option.map_some, Option.getD_some] at ht
      exact holds_keep hF ht hR
  case hstep =>
    intro i o ho a w1 hS hg hd
    refine Oper.wp_mono (fun a' w' hh => ?_) (stepR_all w.heap.size rb i a w1 _ o ho hS.size ((hS.keep 0 ?_).trans rfl) hg.1 hd)
    · obtain ⟨v, h1, h2, h3, h4⟩ := hh
      exact ⟨v, h1, ⟨h2, hg.2.trans (h3.below)⟩, h3, h4⟩
    · exact dst0
  case hend =>
    intro a w1 hS hg hF
    obtain ⟨mb, es, c, h2, h3, hmb, hhp, hgd⟩ : ∃ (mb : Nat) (es : Array MapEntry) (c : Nat), a.tmps[2]? = some (Value.map (some mb)) ∧ a.tmps[3]? = some (Value.map (some mb)) ∧ w.heap.size ≤ mb ∧ w1.heap[mb]? = some (Obj.map es c) ∧ ∀ x ∈ es.toList, Good rb w1 x := hF 51 (by decide)
    have hI : ∀ k, k < 9 → ∃ x ∈ es.toList, x.key = .string (keyB k) := by
      have key : ∀ k, holds w.heap.size rb (.ins k) a w1 → ∃ x ∈ es.toList, x.key = .string (keyB k) := fun k hk => by
        obtain ⟨mb', es', c', e1, e2, e3⟩ := hk
        rw [h3] at e1
        obtain rfl : mb = mb' := by injection e1 with e1; injection e1 with e1; injection e1
        rw [hhp] at e2
        injection e2 with e2
        injection e2 with e2 e4
        subst e2
        exact e3
      intro k hk
      match k, hk with
      | 0, _ => exact key 0 (hF 5 (by decide))
      | 1, _ => exact key 1 (hF 10 (by decide))
      | 2, _ => exact key 2 (hF 15 (by decide))
      | 3, _ => exact key 3 (hF 20 (by decide))
      | 4, _ => exact key 4 (hF 26 (by decide))
      | 5, _ => exact key 5 (hF 32 (by decide))
      | 6, _ => exact key 6 (hF 38 (by decide))
      | 7, _ => exact key 7 (hF 44 (by decide))
      | 8, _ => exact key 8 (hF 49 (by decide))
      | n + 9, h => omega
    have hdf : a.defers = [] := hS.defers
    have HRA : Hid (ReadersAt rb mb w1) := ⟨es, c, hhp, hgd, hI⟩
    have HBB := Lib.hid hg.2
    have HMB := Lib.hid hmb
    clear hF hgd hI hg hhp hmb h3 hS
    show Exit.then _ _ _ _ _
    go_wp2
    exact bodyPost_ret (v := .map (some mb)) (by simp [results, Tryz.results35, go_sem, h2]) hdf ⟨mb, rfl, HRA.out, HMB.out, HBB.out⟩
end Go.Proofs.YtbclfcghacedfaaGreatDoor
end
