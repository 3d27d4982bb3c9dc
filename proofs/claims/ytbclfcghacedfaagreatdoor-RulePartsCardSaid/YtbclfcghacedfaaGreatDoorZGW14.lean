import Derived.Test.YtbclfcghacedfaaGreatDoorZGW13
import Derived.Test.YtbclfcghacedfaaGreatDoorZMB
import Derived.Test.YtbclfcghacedfaaGreatDoorZMD
/- Contracts of the program's rules: what reads a part into a rule. -/
section
namespace Go.Proofs.YtbclfcghacedfaaGreatDoor
open Go.ChangeShapes Go.WideShapes Go.ChangeAt Go.RowKit Go.Joins Qr Ck Sp

/-- A closure that reads a part into a place of a rule's box. -/
def CloI (f : FuncId) (rd : Value) (rb k : Nat) (v : Value) (w : World) : Prop := ∃ b1 b2, v = .func (.func f) #[] #[.pointer (some ⟨b1, 0, none⟩), .pointer (some ⟨b2, 0, none⟩)] ∧ w.cell? ⟨b1, 0, none⟩ = some rd ∧ w.cell? ⟨b2, 0, none⟩ = some (.pointer (some ⟨rb, k, none⟩))
/-- A closure that reads a row. -/
def CloR (f : FuncId) (rd : Value) (v : Value) (w : World) : Prop := ∃ b3, v = .func (.func f) #[] #[.pointer (some ⟨b3, 0, none⟩)] ∧ w.cell? ⟨b3, 0, none⟩ = some rd
def fnv (f : FuncId) : Value := .func (.func f) #[] #[]

theorem mk_int (rb k : Nat) (rf : FuncId) (cb : Array Value) (w : World) : Calls Tryz.prog 53 #[.pointer (some ⟨rb, k, none⟩), .func (.func rf) #[] cb] w fun e w' => ∃ v, e = .returned v ∧ CloI 81 (.func (.func rf) #[] cb) rb k v w' ∧ Below w.heap.size w w' := by
  have Z : Hid (∀ o1 o2 : Obj, Below w.heap.size w ((w.alloc o1).alloc o2)) := fun o1 o2 => ((Below.refl _ w).alloc (Nat.le_refl _) _).alloc (by simp) _
  go_enter Tryz.func53, Tryz.ntmps53
  go_wp2
  go_ret
  exact ⟨_, rfl, ⟨w.heap.size + 1, w.heap.size, rfl, by simp [go_sem], by simp [go_sem]⟩, Z.out _ _⟩

theorem mk_int64 (rb k : Nat) (rf : FuncId) (cb : Array Value) (w : World) : Calls Tryz.prog 56 #[.pointer (some ⟨rb, k, none⟩), .func (.func rf) #[] cb] w fun e w' => ∃ v, e = .returned v ∧ CloI 83 (.func (.func rf) #[] cb) rb k v w' ∧ Below w.heap.size w w' := by
  have Z : Hid (∀ o1 o2 : Obj, Below w.heap.size w ((w.alloc o1).alloc o2)) := fun o1 o2 => ((Below.refl _ w).alloc (Nat.le_refl _) _).alloc (by simp) _
  go_enter Tryz.func56, Tryz.ntmps56
  go_wp2
  go_ret
  exact ⟨_, rfl, ⟨w.heap.size + 1, w.heap.size, rfl, by simp [go_sem], by simp [go_sem]⟩, Z.out _ _⟩

theorem mk_ints (rb k : Nat) (rf : FuncId) (cb : Array Value) (w : World) : Calls Tryz.prog 58 #[.pointer (some ⟨rb, k, none⟩), .func (.func rf) #[] cb] w fun e w' => ∃ v, e = .returned v ∧ CloI 85 (.func (.func rf) #[] cb) rb k v w' ∧ Below w.heap.size w w' := by
  have Z : Hid (∀ o1 o2 : Obj, Below w.heap.size w ((w.alloc o1).alloc o2)) := fun o1 o2 => ((Below.refl _ w).alloc (Nat.le_refl _) _).alloc (by simp) _
  go_enter Tryz.func58, Tryz.ntmps58
  go_wp2
  go_ret
  exact ⟨_, rfl, ⟨w.heap.size + 1, w.heap.size, rfl, by simp [go_sem], by simp [go_sem]⟩, Z.out _ _⟩

theorem mk_days (rb k : Nat) (rf : FuncId) (cb : Array Value) (w : World) : Calls Tryz.prog 60 #[.pointer (some ⟨rb, k, none⟩), .func (.func rf) #[] cb] w fun e w' => ∃ v, e = .returned v ∧ CloI 87 (.func (.func rf) #[] cb) rb k v w' ∧ Below w.heap.size w w' := by
  have Z : Hid (∀ o1 o2 : Obj, Below w.heap.size w ((w.alloc o1).alloc o2)) := fun o1 o2 => ((Below.refl _ w).alloc (Nat.le_refl _) _).alloc (by simp) _
  go_enter Tryz.func60, Tryz.ntmps60
  go_wp2
  go_ret
  exact ⟨_, rfl, ⟨w.heap.size + 1, w.heap.size, rfl, by simp [go_sem], by simp [go_sem]⟩, Z.out _ _⟩

theorem mk_rint (rf : FuncId) (cb : Array Value) (w : World) : Calls Tryz.prog 59 #[.func (.func rf) #[] cb] w fun e w' => ∃ v, e = .returned v ∧ CloR 86 (.func (.func rf) #[] cb) v w' ∧ Below w.heap.size w w' := by
  have Z : Hid (∀ o1 : Obj, Below w.heap.size w (w.alloc o1)) := fun o1 => (Below.refl _ w).alloc (Nat.le_refl _) _
  go_enter Tryz.func59, Tryz.ntmps59
  go_wp2
  go_ret
  exact ⟨_, rfl, ⟨w.heap.size, rfl, by simp [go_sem]⟩, Z.out _⟩

theorem mk_rday (rf : FuncId) (cb : Array Value) (w : World) : Calls Tryz.prog 61 #[.func (.func rf) #[] cb] w fun e w' => ∃ v, e = .returned v ∧ CloR 88 (.func (.func rf) #[] cb) v w' ∧ Below w.heap.size w w' := by
  have Z : Hid (∀ o1 : Obj, Below w.heap.size w (w.alloc o1)) := fun o1 => (Below.refl _ w).alloc (Nat.le_refl _) _
  go_enter Tryz.func61, Tryz.ntmps61
  go_wp2
  go_ret
  exact ⟨_, rfl, ⟨w.heap.size, rfl, by simp [go_sem]⟩, Z.out _⟩

set_option maxHeartbeats 1000000 in
theorem run_freq (s : ByteArray) (x : Int) (ok : Bool) (rb k b1 b2 : Nat) (old : Value) (w : World) (h1 : w.cell? ⟨b1, 0, none⟩ = some (fnv 54)) (h2 : w.cell? ⟨b2, 0, none⟩ = some (.pointer (some ⟨rb, k, none⟩)))
    (hc : w.cell? ⟨rb, k, none⟩ = some old) (hf : w.frozen? ⟨rb, k, none⟩ = false) (_ho : old.oneCell' = true) (hR : Calls Tryz.prog 54 #[.string s] w fun e w' => e = .returned (.tuple #[.int .i64 x, .bool ok]) ∧ Below w.heap.size w w') :
    Calls Tryz.prog 81 (#[.string s] ++ #[.pointer (some ⟨b1, 0, none⟩), .pointer (some ⟨b2, 0, none⟩)]) w fun e w' => ∃ g : Gr w, e = .returned (.bool ok) ∧ w' = g.val.setCell ⟨rb, k, none⟩ (.int .i64 x) := by
  unfold fnv at h1
  have HR := Lib.hid hR
  have H2 := Lib.hid (fun g : Gr w => cell_old h2 g.ok)
  have HC := Lib.hid (fun g : Gr w => cell_old hc g.ok)
  have hlt : rb < w.heap.size := World.block_lt_of_cell? _ _ hc
  have HF := Lib.hid (fun g : Gr w => (g.frozen rb k hlt).trans hf)
  clear hR h2 hc hf hlt
  simp only [List.append_toArray, List.cons_append, List.nil_append]
  go_enter Tryz.func81, Tryz.ntmps81
  go_wp2_with (go_at_call 54; (with_reducible refine HR.out.mono ?_); rintro e w' ⟨rfl, hbb⟩; obtain ⟨g, rfl⟩ := Gr.of hbb; clear hbb; have c2 := H2.out g; have cc := HC.out g; have ff := HF.out g)
  go_ret
  exact ⟨g, rfl, rfl⟩

set_option maxHeartbeats 1000000 in
theorem run_num (s : ByteArray) (x : Int) (ok : Bool) (rb k b1 b2 : Nat) (old : Value) (w : World) (h1 : w.cell? ⟨b1, 0, none⟩ = some (fnv 55)) (h2 : w.cell? ⟨b2, 0, none⟩ = some (.pointer (some ⟨rb, k, none⟩)))
    (hc : w.cell? ⟨rb, k, none⟩ = some old) (hf : w.frozen? ⟨rb, k, none⟩ = false) (_ho : old.oneCell' = true) (hR : Calls Tryz.prog 55 #[.string s] w fun e w' => e = .returned (.tuple #[.int .i64 x, .bool ok]) ∧ Below w.heap.size w w') :
    Calls Tryz.prog 81 (#[.string s] ++ #[.pointer (some ⟨b1, 0, none⟩), .pointer (some ⟨b2, 0, none⟩)]) w fun e w' => ∃ g : Gr w, e = .returned (.bool ok) ∧ w' = g.val.setCell ⟨rb, k, none⟩ (.int .i64 x) := by
  unfold fnv at h1
  have HR := Lib.hid hR
  have H2 := Lib.hid (fun g : Gr w => cell_old h2 g.ok)
  have HC := Lib.hid (fun g : Gr w => cell_old hc g.ok)
  have hlt : rb < w.heap.size := World.block_lt_of_cell? _ _ hc
  have HF := Lib.hid (fun g : Gr w => (g.frozen rb k hlt).trans hf)
  clear hR h2 hc hf hlt
  simp only [List.append_toArray, List.cons_append, List.nil_append]
  go_enter Tryz.func81, Tryz.ntmps81
  go_wp2_with (go_at_call 55; (with_reducible refine HR.out.mono ?_); rintro e w' ⟨rfl, hbb⟩; obtain ⟨g, rfl⟩ := Gr.of hbb; clear hbb; have c2 := H2.out g; have cc := HC.out g; have ff := HF.out g)
  go_ret
  exact ⟨g, rfl, rfl⟩

set_option maxHeartbeats 1000000 in
theorem run_wk (s : ByteArray) (x : Int) (ok : Bool) (rb k b1 b2 : Nat) (old : Value) (w : World) (h1 : w.cell? ⟨b1, 0, none⟩ = some (fnv 63)) (h2 : w.cell? ⟨b2, 0, none⟩ = some (.pointer (some ⟨rb, k, none⟩)))
    (hc : w.cell? ⟨rb, k, none⟩ = some old) (hf : w.frozen? ⟨rb, k, none⟩ = false) (_ho : old.oneCell' = true) (hR : Calls Tryz.prog 63 #[.string s] w fun e w' => e = .returned (.tuple #[.int .i64 x, .bool ok]) ∧ Below w.heap.size w w') :
    Calls Tryz.prog 81 (#[.string s] ++ #[.pointer (some ⟨b1, 0, none⟩), .pointer (some ⟨b2, 0, none⟩)]) w fun e w' => ∃ g : Gr w, e = .returned (.bool ok) ∧ w' = g.val.setCell ⟨rb, k, none⟩ (.int .i64 x) := by
  unfold fnv at h1
  have HR := Lib.hid hR
  have H2 := Lib.hid (fun g : Gr w => cell_old h2 g.ok)
  have HC := Lib.hid (fun g : Gr w => cell_old hc g.ok)
  have hlt : rb < w.heap.size := World.block_lt_of_cell? _ _ hc
  have HF := Lib.hid (fun g : Gr w => (g.frozen rb k hlt).trans hf)
  clear hR h2 hc hf hlt
  simp only [List.append_toArray, List.cons_append, List.nil_append]
  go_enter Tryz.func81, Tryz.ntmps81
  go_wp2_with (go_at_call 63; (with_reducible refine HR.out.mono ?_); rintro e w' ⟨rfl, hbb⟩; obtain ⟨g, rfl⟩ := Gr.of hbb; clear hbb; have c2 := H2.out g; have cc := HC.out g; have ff := HF.out g)
  go_ret
  exact ⟨g, rfl, rfl⟩

set_option maxHeartbeats 1000000 in
theorem run_until (s : ByteArray) (x : Int) (ok : Bool) (rb k b1 b2 : Nat) (old : Value) (w : World) (h1 : w.cell? ⟨b1, 0, none⟩ = some (fnv 57)) (h2 : w.cell? ⟨b2, 0, none⟩ = some (.pointer (some ⟨rb, k, none⟩)))
    (hc : w.cell? ⟨rb, k, none⟩ = some old) (hf : w.frozen? ⟨rb, k, none⟩ = false) (_ho : old.oneCell' = true) (hR : Calls Tryz.prog 57 #[.string s] w fun e w' => e = .returned (.tuple #[.int .i64 x, .bool ok]) ∧ Below w.heap.size w w') :
    Calls Tryz.prog 83 (#[.string s] ++ #[.pointer (some ⟨b1, 0, none⟩), .pointer (some ⟨b2, 0, none⟩)]) w fun e w' => ∃ g : Gr w, e = .returned (.bool ok) ∧ w' = g.val.setCell ⟨rb, k, none⟩ (.int .i64 x) := by
  unfold fnv at h1
  have HR := Lib.hid hR
  have H2 := Lib.hid (fun g : Gr w => cell_old h2 g.ok)
  have HC := Lib.hid (fun g : Gr w => cell_old hc g.ok)
  have hlt : rb < w.heap.size := World.block_lt_of_cell? _ _ hc
  have HF := Lib.hid (fun g : Gr w => (g.frozen rb k hlt).trans hf)
  clear hR h2 hc hf hlt
  simp only [List.append_toArray, List.cons_append, List.nil_append]
  go_enter Tryz.func83, Tryz.ntmps83
  go_wp2_with (go_at_call 57; (with_reducible refine HR.out.mono ?_); rintro e w' ⟨rfl, hbb⟩; obtain ⟨g, rfl⟩ := Gr.of hbb; clear hbb; have c2 := H2.out g; have cc := HC.out g; have ff := HF.out g)
  go_ret
  exact ⟨g, rfl, rfl⟩

set_option maxHeartbeats 1000000 in
theorem run_ints (s : ByteArray) (q : Option (List Int)) (rb k b1 b2 b3 : Nat) (old : Value) (w : World) (h1 : w.cell? ⟨b1, 0, none⟩ = some (.func (.func 86) #[] #[.pointer (some ⟨b3, 0, none⟩)])) (h2 : w.cell? ⟨b2, 0, none⟩ = some (.pointer (some ⟨rb, k, none⟩)))
    (hc : w.cell? ⟨rb, k, none⟩ = some old) (hf : w.frozen? ⟨rb, k, none⟩ = false) (_ho : old.oneCell' = true) (hR : Calls Tryz.prog 86 #[.string s, .pointer (some ⟨b3, 0, none⟩)] w (RetRow iv q w)) :
    Calls Tryz.prog 85 (#[.string s] ++ #[.pointer (some ⟨b1, 0, none⟩), .pointer (some ⟨b2, 0, none⟩)]) w fun e w' => ∃ (g : Gr w) (A : Option Addr) (n c : Nat), e = .returned (.bool q.isSome) ∧ w' = g.val.setCell ⟨rb, k, none⟩ (.slice A n c) ∧
      ∀ l, q = some l → n = l.length ∧ Sl g.val A l.length c (iv l) ∧ ∀ a, A = some a → w.heap.size ≤ a.block := by
  have HR := Lib.hid hR
  have H2 := Lib.hid (fun g : Gr w => cell_old h2 g.ok)
  have HC := Lib.hid (fun g : Gr w => cell_old hc g.ok)
  have hlt : rb < w.heap.size := World.block_lt_of_cell? _ _ hc
  have HF := Lib.hid (fun g : Gr w => (g.frozen rb k hlt).trans hf)
  clear hR h2 hc hf hlt
  simp only [List.append_toArray, List.cons_append, List.nil_append]
  cases q with
  | none =>
    go_enter Tryz.func85, Tryz.ntmps85
    go_wp2_with (go_at_call 86; (with_reducible refine HR.out.mono ?_); rintro e w' ⟨rfl, hbb⟩; obtain ⟨g, rfl⟩ := Gr.of hbb; clear hbb; have c2 := H2.out g; have cc := HC.out g; have ff := HF.out g)
    go_ret
    exact ⟨g, none, 0, 0, rfl, rfl, fun l hl => by cases hl⟩
  | some l =>
    go_enter Tryz.func85, Tryz.ntmps85
    go_wp2_with (go_at_call 86; (with_reducible refine HR.out.mono ?_); rintro e w' ⟨A, c, rfl, hsl, hfr, hbb⟩; obtain ⟨g, rfl⟩ := Gr.of hbb; clear hbb; have HSL := Lib.hid hsl; have HFR := Lib.hid hfr; clear hsl hfr; have c2 := H2.out g; have cc := HC.out g; have ff := HF.out g)
    go_ret
    exact ⟨g, A, l.length, c, rfl, rfl, fun l' hl => by cases hl; exact ⟨rfl, HSL.out, HFR.out⟩⟩

set_option maxHeartbeats 1000000 in
theorem run_days (s : ByteArray) (q : Option (List (Int × Int))) (rb k b1 b2 b3 : Nat) (old : Value) (w : World) (h1 : w.cell? ⟨b1, 0, none⟩ = some (.func (.func 88) #[] #[.pointer (some ⟨b3, 0, none⟩)])) (h2 : w.cell? ⟨b2, 0, none⟩ = some (.pointer (some ⟨rb, k, none⟩)))
    (hc : w.cell? ⟨rb, k, none⟩ = some old) (hf : w.frozen? ⟨rb, k, none⟩ = false) (_ho : old.oneCell' = true) (hR : Calls Tryz.prog 88 #[.string s, .pointer (some ⟨b3, 0, none⟩)] w (RetRow sv q w)) :
    Calls Tryz.prog 87 (#[.string s] ++ #[.pointer (some ⟨b1, 0, none⟩), .pointer (some ⟨b2, 0, none⟩)]) w fun e w' => ∃ (g : Gr w) (A : Option Addr) (n c : Nat), e = .returned (.bool q.isSome) ∧ w' = g.val.setCell ⟨rb, k, none⟩ (.slice A n c) ∧
      ∀ l, q = some l → n = l.length ∧ Sl g.val A l.length c (sv l) ∧ ∀ a, A = some a → w.heap.size ≤ a.block := by
  have HR := Lib.hid hR
  have H2 := Lib.hid (fun g : Gr w => cell_old h2 g.ok)
  have HC := Lib.hid (fun g : Gr w => cell_old hc g.ok)
  have hlt : rb < w.heap.size := World.block_lt_of_cell? _ _ hc
  have HF := Lib.hid (fun g : Gr w => (g.frozen rb k hlt).trans hf)
  clear hR h2 hc hf hlt
  simp only [List.append_toArray, List.cons_append, List.nil_append]
  cases q with
  | none =>
    go_enter Tryz.func87, Tryz.ntmps87
    go_wp2_with (go_at_call 88; (with_reducible refine HR.out.mono ?_); rintro e w' ⟨rfl, hbb⟩; obtain ⟨g, rfl⟩ := Gr.of hbb; clear hbb; have c2 := H2.out g; have cc := HC.out g; have ff := HF.out g)
    go_ret
    exact ⟨g, none, 0, 0, rfl, rfl, fun l hl => by cases hl⟩
  | some l =>
    go_enter Tryz.func87, Tryz.ntmps87
    go_wp2_with (go_at_call 88; (with_reducible refine HR.out.mono ?_); rintro e w' ⟨A, c, rfl, hsl, hfr, hbb⟩; obtain ⟨g, rfl⟩ := Gr.of hbb; clear hbb; have HSL := Lib.hid hsl; have HFR := Lib.hid hfr; clear hsl hfr; have c2 := H2.out g; have cc := HC.out g; have ff := HF.out g)
    go_ret
    exact ⟨g, A, l.length, c, rfl, rfl, fun l' hl => by cases hl; exact ⟨rfl, HSL.out, HFR.out⟩⟩
end Go.Proofs.YtbclfcghacedfaaGreatDoor
end
