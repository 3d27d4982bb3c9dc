import Derived.BigQuiet
import Derived.Deep.QuietTactic
import Derived.Deep.Cut
import Derived.Deep.AppendLies
import Derived.Test.YtdhinjbkfffpeaaGreatYOA
import Derived.Test.YtdhinjbkfffpeaaGreatYJS5
/- Contract of the document's records: is more in a state than is gone through? -/
section
namespace Go.Proofs.YtdhinjbkfffpeaaGreat
open Go.ChangeShapes Go.WideShapes Go.ChangeAt Go.RowKit Sp
def greatU16 (u : Us) : Prop := greatS16 u.settings ∨ 10 < u.events.length ∨ ∃ x ∈ u.events, greatE16 x.2
def greatSt16 (a : Sta) : Prop := 12 < a.users.length ∨ 8 < a.polls.length ∨ 100 < a.done.length ∨ (∃ u ∈ a.users, greatU16 u) ∨ ∃ o ∈ a.polls, greatP16 o
theorem none_step {α : Type} {P : α → Prop} {l : List α} {i : Nat} {x : α} (hx : l[i]? = some x) (h : ∀ y ∈ l.take i, ¬ P y) (hn : ¬ P x) : ∀ y ∈ l.take (i + 1), ¬ P y := by
 intro y hy
 rw [List.take_add_one, hx] at hy
 rcases List.mem_append.1 hy with hy | hy
 ·exact h y hy
 ·rcases List.mem_singleton.1 hy with rfl; exact hn
set_option maxRecDepth 100000 in
set_option maxHeartbeats 4000000 in
theorem rGreatState_any (a : Sta) (p : StaP) (w : World) (ha : StaAt w a p) :
  Calls Tryz.prog 16 #[.agg (staCells a p).toArray] w fun e w' => ∃ r, e = .returned (.bool r) ∧ (r = true ↔ greatSt16 a) ∧ Below w.heap.size w w' := by
 obtain ⟨r, hr⟩ : ∃ r : Bool, r = true ↔ greatSt16 a := by classical exact ⟨decide (greatSt16 a), by simp⟩
 suffices h : Calls Tryz.prog 16 #[.agg (staCells a p).toArray] w fun e w' => e = .returned (.bool r) ∧ Below w.heap.size w w' from h.mono fun e w' h => ⟨r, h.1, hr, h.2⟩
 unfold staCells
 simp only [List.toArray]
 have HUa : Hid (∀ wr, Below w.heap.size w wr → RowsAt usC UsAt wr p.A1 p.c1 a.users p.us) := fun wr hb' => ha.u.below (fun _ _ _ _ h hb => UsAt.below h hb) hb'
 have HPa : Hid (∀ wr, Below w.heap.size w wr → RowsAt plC PlAt wr p.A2 p.c2 a.polls p.pl) := fun wr hb' => ha.o.below (fun _ _ _ _ h hb => PlAt.below h hb) hb'
 have hl1 := len_le16 ha.u.s
 have hl2 := len_le16 ha.o.s
 have hl3 := len_le16 ha.d
 clear ha
 obtain ⟨W, hW⟩ : ∃ W, w.alloc (.cells #[.int .i64 a.clock, .slice p.A1 a.users.length p.c1, .slice p.A2 a.polls.length p.c2, .slice p.A3 a.done.length p.c3] 73) = W := ⟨_, rfl⟩
 have hBW : Below w.heap.size w W := by rw [← hW]; exact (Below.refl _ w).alloc (Nat.le_refl _) _
 have HG : Hid (∀ g : Gr W, Below w.heap.size w g.val) := fun g => hBW.trans (g.ok.mono hBW.size)
 have HA : Hid (∀ (g : Gr W) (k : Nat) (v : Value), (#[.int .i64 a.clock, .slice p.A1 a.users.length p.c1, .slice p.A2 a.polls.length p.c2, .slice p.A3 a.done.length p.c3] : Array Value)[k]? = some v → g.val.cell? ⟨w.heap.size, k, none⟩ = some v) := fun g k v hv => cell_old (by rw [← hW]; exact blk_cell (cs := #[.int .i64 a.clock, .slice p.A1 a.users.length p.c1, .slice p.A2 a.polls.length p.c2, .slice p.A3 a.done.length p.c3]) (t := 73) (heap_alloc_new _ _) hv) g.ok
 have E1 := Lib.hid hW
 have HR := Lib.hid hr
 clear hW hBW hr
 have fa1 := HA.out ⟨W, Below.refl _ _⟩ 1 (.slice p.A1 a.users.length p.c1) rfl
 have fa2 := HA.out ⟨W, Below.refl _ _⟩ 2 (.slice p.A2 a.polls.length p.c2) rfl
 have fa3 := HA.out ⟨W, Below.refl _ _⟩ 3 (.slice p.A3 a.done.length p.c3) rfl
 try simp only at fa1 fa2 fa3
 by_cases h0 : 12 < a.users.length
 ·have eb0 : decide ((12 : Int) < (a.users.length : Int)) = true := decide_eq_true (by omega)
  have E : Hid (r = true) := HR.out.2 (Or.inl h0)
  clear h0
  go_enter Tryz.func16, Tryz.ntmps16
  go_upto_region 1 with fail
  rw [E1.out]
  go_wp2_with fail
  go_ret
  exact ⟨ret_bool E.out.symm, HG.out ⟨W, Below.refl _ _⟩⟩
 have eb0 : decide ((12 : Int) < (a.users.length : Int)) = false := decide_eq_false (by omega)
 by_cases h1 : 8 < a.polls.length
 ·have eb1 : decide ((8 : Int) < (a.polls.length : Int)) = true := decide_eq_true (by omega)
  have E : Hid (r = true) := HR.out.2 (Or.inr (Or.inl h1))
  clear h1
  go_enter Tryz.func16, Tryz.ntmps16
  go_upto_region 1 with fail
  rw [E1.out]
  go_wp2_with fail
  go_ret
  exact ⟨ret_bool E.out.symm, HG.out ⟨W, Below.refl _ _⟩⟩
 have eb1 : decide ((8 : Int) < (a.polls.length : Int)) = false := decide_eq_false (by omega)
 by_cases h2 : 100 < a.done.length
 ·have eb2 : decide ((100 : Int) < (a.done.length : Int)) = true := decide_eq_true (by omega)
  have E : Hid (r = true) := HR.out.2 (Or.inr (Or.inr (Or.inl h2)))
  clear h2
  go_enter Tryz.func16, Tryz.ntmps16
  go_upto_region 1 with fail
  rw [E1.out]
  go_wp2_with fail
  go_ret
  exact ⟨ret_bool E.out.symm, HG.out ⟨W, Below.refl _ _⟩⟩
 have eb2 : decide ((100 : Int) < (a.done.length : Int)) = false := decide_eq_false (by omega)
 have HR2 : Hid (r = true ↔ (∃ u ∈ a.users, greatU16 u) ∨ ∃ o ∈ a.polls, greatP16 o) := HR.out.trans ⟨fun h => by rcases h with h | h | h | h <;> first | exact absurd h h0 | exact absurd h h1 | exact absurd h h2 | exact h, fun h => Or.inr (Or.inr (Or.inr h))⟩
 clear HR h0 h1 h2
 go_enter Tryz.func16, Tryz.ntmps16
 go_upto_region 1 with fail
 rw [E1.out]
 go_wp2_with fail
 clear fa1 fa2 fa3 eb0 eb1 eb2
 go_loopw [26] (fun s wr => ∃ (i : Nat) (g : Gr W), wr = g.val ∧ i ≤ a.users.length ∧ s = .int .i64 i ∧ Hid (∀ u ∈ a.users.take i, ¬ greatU16 u)) (fun s _ => a.users.length - (intOf s).toNat)
 case atStart => exact ⟨0, ⟨W, Below.refl _ _⟩, rfl, Nat.zero_le _, rfl, fun u hu => by simp at hu⟩
 case round =>
  obtain ⟨i, g, rfl, hi, rfl, HI⟩ := hrel
  by_cases hlt : i < a.users.length
  ·have hiz : (i : Int) < a.users.length := by omega
   obtain ⟨x, hx⟩ : ∃ x, a.users[i]? = some x := ⟨_, List.getElem?_eq_getElem hlt⟩
   have HY : Hid (greatU16 x → r = true) := fun h => HR2.out.2 (Or.inl ⟨x, List.mem_of_getElem? hx, h⟩)
   have HT : Hid (¬ greatU16 x → ∀ u ∈ a.users.take (i + 1), ¬ greatU16 u) := fun h => none_step hx HI.out h
   clear HI
   have fa1 := HA.out g 1 (.slice p.A1 a.users.length p.c1) rfl
   try simp only at fa1
   obtain ⟨px, bb0, off0, _, hA0, _, hx1, hc⟩ := (HUa.out g.val (HG.out g)).at usC_len (by decide) hx
   rw [hA0] at fa1
   clear hx hA0
   have X0 : g.val.cell? ⟨bb0, off0 + i * 9, none⟩ = some (.int .u32 (x.id : Int)) := hc ⟨_, Below.refl _ _⟩ 0 _ rfl
   have X1 : g.val.cell? ⟨bb0, off0 + i * 9 + 1, none⟩ = some (.int .i64 x.settings.base) := by have := hc ⟨_, Below.refl _ _⟩ 1 _ rfl; rwa [← Nat.add_assoc] at this
   have X2 : g.val.cell? ⟨bb0, off0 + i * 9 + 2, none⟩ = some (.slice px.s.A1 x.settings.turns.length px.s.c1) := by have := hc ⟨_, Below.refl _ _⟩ 2 _ rfl; rwa [← Nat.add_assoc] at this
   have X3 : g.val.cell? ⟨bb0, off0 + i * 9 + 3, none⟩ = some (.slice px.s.A2 x.settings.shifts.length px.s.c2) := by have := hc ⟨_, Below.refl _ _⟩ 3 _ rfl; rwa [← Nat.add_assoc] at this
   have X4 : g.val.cell? ⟨bb0, off0 + i * 9 + 4, none⟩ = some (.slice px.s.A3 x.settings.off.length px.s.c3) := by have := hc ⟨_, Below.refl _ _⟩ 4 _ rfl; rwa [← Nat.add_assoc] at this
   have X5 : g.val.cell? ⟨bb0, off0 + i * 9 + 5, none⟩ = some (.int .i64 x.settings.before) := by have := hc ⟨_, Below.refl _ _⟩ 5 _ rfl; rwa [← Nat.add_assoc] at this
   have X6 : g.val.cell? ⟨bb0, off0 + i * 9 + 6, none⟩ = some (.int .i64 x.settings.after) := by have := hc ⟨_, Below.refl _ _⟩ 6 _ rfl; rwa [← Nat.add_assoc] at this
   have X7 : g.val.cell? ⟨bb0, off0 + i * 9 + 7, none⟩ = some (.int .u64 (x.version : Int)) := by have := hc ⟨_, Below.refl _ _⟩ 7 _ rfl; rwa [← Nat.add_assoc] at this
   have X8 : g.val.cell? ⟨bb0, off0 + i * 9 + 8, none⟩ = some (.slice px.A1 x.events.length px.c1) := by have := hc ⟨_, Below.refl _ _⟩ 8 _ rfl; rwa [← Nat.add_assoc] at this
   have HUx := Lib.hid hx1
   clear hc hx1
   obtain ⟨W2, hW2⟩ : ∃ W2, g.val.alloc (.cells #[.int .u32 (x.id : Int), .int .i64 x.settings.base, .slice px.s.A1 x.settings.turns.length px.s.c1, .slice px.s.A2 x.settings.shifts.length px.s.c2, .slice px.s.A3 x.settings.off.length px.s.c3, .int .i64 x.settings.before, .int .i64 x.settings.after, .int .u64 (x.version : Int), .slice px.A1 x.events.length px.c1] 105) = W2 := ⟨_, rfl⟩
   have hB2 : Below g.val.heap.size g.val W2 := by rw [← hW2]; exact (Below.refl _ _).alloc (Nat.le_refl _) _
   have HO2 : Hid (∀ G : Gr W2, Below g.val.heap.size g.val G.val) := fun G => hB2.trans (G.ok.mono hB2.size)
   have HG2 : Hid (∀ G : Gr W2, Below w.heap.size w G.val) := fun G => (HG.out g).trans ((HO2.out G).mono (HG.out g).size)
   have HBx : Hid (∀ (G : Gr W2) (k : Nat) (v : Value), (#[.int .u32 (x.id : Int), .int .i64 x.settings.base, .slice px.s.A1 x.settings.turns.length px.s.c1, .slice px.s.A2 x.settings.shifts.length px.s.c2, .slice px.s.A3 x.settings.off.length px.s.c3, .int .i64 x.settings.before, .int .i64 x.settings.after, .int .u64 (x.version : Int), .slice px.A1 x.events.length px.c1] : Array Value)[k]? = some v → G.val.cell? ⟨g.val.heap.size, k, none⟩ = some v) := fun G k v hv => cell_old (by rw [← hW2]; exact blk_cell (cs := #[.int .u32 (x.id : Int), .int .i64 x.settings.base, .slice px.s.A1 x.settings.turns.length px.s.c1, .slice px.s.A2 x.settings.shifts.length px.s.c2, .slice px.s.A3 x.settings.off.length px.s.c3, .int .i64 x.settings.before, .int .i64 x.settings.after, .int .u64 (x.version : Int), .slice px.A1 x.events.length px.c1]) (t := 105) (heap_alloc_new _ _) hv) G.ok
   have HUE : Hid (∀ G : Gr W2, RowsAt enC (fun w x p => EvAt w x.2 p) G.val px.A1 px.c1 x.events px.ps) := fun G => HUx.out.e.below (fun _ _ _ _ h hb => EvAt.below h hb) (HO2.out G)
   have HE2 := Lib.hid hW2
   clear hW2 hB2
   go_wp2_with fail
   go_at_call 34
   rw [HE2.out]
   refine (rGreatSettings_any x.settings px.s W2 (HUx.out.s.below (HO2.out ⟨W2, Below.refl _ _⟩))).mono ?_
   rintro e w2 ⟨v, rfl, hv, hb⟩
   obtain ⟨G2, rfl⟩ := Gr.on ⟨W2, Below.refl _ _⟩ hb
   clear hb fa1 X0 X1 X2 X3 X4 X5 X6 X7 X8
   have fb8 := HBx.out G2 8 (.slice px.A1 x.events.length px.c1) rfl
   try simp only at fb8
   cases v with
   | true =>
    have E : Hid (r = true) := HY.out (Or.inl (hv.1 rfl))
    clear hv
    go_wp2_with fail
    go_ret
    exact ⟨ret_bool E.out.symm, HG2.out G2⟩
   | false =>
    have HN0 : Hid (¬ greatS16 x.settings) := fun k => by have := hv.2 k; cases this
    clear hv
    by_cases h3 : 10 < x.events.length
    ·have eb3 : decide ((10 : Int) < (x.events.length : Int)) = true := decide_eq_true (by omega)
     have E : Hid (r = true) := HY.out (Or.inr (Or.inl h3))
     clear h3
     go_wp2_with fail
     go_ret
     exact ⟨ret_bool E.out.symm, HG2.out G2⟩
    have eb3 : decide ((10 : Int) < (x.events.length : Int)) = false := decide_eq_false (by omega)
    have HN3 := Lib.hid h3
    have hl4 : x.events.length ≤ 10 := by omega
    clear h3
    go_wp2_with fail
    clear fb8 eb3
    go_loopw [46] (fun s wr => ∃ (k : Nat) (G : Gr W2), wr = G.val ∧ k ≤ x.events.length ∧ s = .int .i64 k ∧ Hid (∀ y ∈ x.events.take k, ¬ greatE16 y.2)) (fun s _ => x.events.length - (intOf s).toNat)
    case atStart => exact ⟨0, G2, rfl, Nat.zero_le _, rfl, fun u hu => by simp at hu⟩
    case round =>
     obtain ⟨k, G, rfl, hk, rfl, HI⟩ := hrel
     by_cases hlk : k < x.events.length
     ·have hkz : (k : Int) < x.events.length := by omega
      obtain ⟨y, hy⟩ : ∃ y, x.events[k]? = some y := ⟨_, List.getElem?_eq_getElem hlk⟩
      have HYy : Hid (greatE16 y.2 → r = true) := fun h => HY.out (Or.inr (Or.inr ⟨y, List.mem_of_getElem? hy, h⟩))
      have HTy : Hid (¬ greatE16 y.2 → ∀ z ∈ x.events.take (k + 1), ¬ greatE16 z.2) := fun h => none_step (P := fun z : Nat × Evt => greatE16 z.2) hy HI.out h
      clear HI
      have fb8 := HBx.out G 8 (.slice px.A1 x.events.length px.c1) rfl
      try simp only at fb8
      obtain ⟨py, bb1, off1, _, hA1, _, hy1, hd⟩ := (HUE.out G).at enC_len (by decide) hy
      rw [hA1] at fb8
      clear hy hA1
      have Y1 : G.val.cell? ⟨bb1, off1 + k * 17 + 1, none⟩ = some (.int .i64 y.2.start) := by have := hd ⟨_, Below.refl _ _⟩ 1 _ rfl; rwa [← Nat.add_assoc] at this
      have Y2 : G.val.cell? ⟨bb1, off1 + k * 17 + 2, none⟩ = some (.int .i64 y.2.long) := by have := hd ⟨_, Below.refl _ _⟩ 2 _ rfl; rwa [← Nat.add_assoc] at this
      have Y3 : G.val.cell? ⟨bb1, off1 + k * 17 + 3, none⟩ = some (.bool y.2.world) := by have := hd ⟨_, Below.refl _ _⟩ 3 _ rfl; rwa [← Nat.add_assoc] at this
      have Y4 : G.val.cell? ⟨bb1, off1 + k * 17 + 4, none⟩ = some (.bool y.2.again) := by have := hd ⟨_, Below.refl _ _⟩ 4 _ rfl; rwa [← Nat.add_assoc] at this
      have Y5 : G.val.cell? ⟨bb1, off1 + k * 17 + 5, none⟩ = some (.int .i64 y.2.rule.freq) := by have := hd ⟨_, Below.refl _ _⟩ 5 _ rfl; rwa [← Nat.add_assoc] at this
      have Y6 : G.val.cell? ⟨bb1, off1 + k * 17 + 6, none⟩ = some (.int .i64 y.2.rule.iv) := by have := hd ⟨_, Below.refl _ _⟩ 6 _ rfl; rwa [← Nat.add_assoc] at this
      have Y7 : G.val.cell? ⟨bb1, off1 + k * 17 + 7, none⟩ = some (.int .i64 y.2.rule.count) := by have := hd ⟨_, Below.refl _ _⟩ 7 _ rfl; rwa [← Nat.add_assoc] at this
      have Y8 : G.val.cell? ⟨bb1, off1 + k * 17 + 8, none⟩ = some (.int .i64 y.2.rule.until_) := by have := hd ⟨_, Below.refl _ _⟩ 8 _ rfl; rwa [← Nat.add_assoc] at this
      have Y9 : G.val.cell? ⟨bb1, off1 + k * 17 + 9, none⟩ = some (.slice py.A1 y.2.rule.bm.length py.c1) := by have := hd ⟨_, Below.refl _ _⟩ 9 _ rfl; rwa [← Nat.add_assoc] at this
      have Y10 : G.val.cell? ⟨bb1, off1 + k * 17 + 10, none⟩ = some (.slice py.A2 y.2.rule.bd.length py.c2) := by have := hd ⟨_, Below.refl _ _⟩ 10 _ rfl; rwa [← Nat.add_assoc] at this
      have Y11 : G.val.cell? ⟨bb1, off1 + k * 17 + 11, none⟩ = some (.slice py.A3 y.2.rule.bw.length py.c3) := by have := hd ⟨_, Below.refl _ _⟩ 11 _ rfl; rwa [← Nat.add_assoc] at this
      have Y12 : G.val.cell? ⟨bb1, off1 + k * 17 + 12, none⟩ = some (.slice py.A4 y.2.rule.bs.length py.c4) := by have := hd ⟨_, Below.refl _ _⟩ 12 _ rfl; rwa [← Nat.add_assoc] at this
      have Y13 : G.val.cell? ⟨bb1, off1 + k * 17 + 13, none⟩ = some (.int .i64 y.2.rule.start) := by have := hd ⟨_, Below.refl _ _⟩ 13 _ rfl; rwa [← Nat.add_assoc] at this
      have Y14 : G.val.cell? ⟨bb1, off1 + k * 17 + 14, none⟩ = some (.slice py.A5 y.2.ex.length py.c5) := by have := hd ⟨_, Below.refl _ _⟩ 14 _ rfl; rwa [← Nat.add_assoc] at this
      have Y15 : G.val.cell? ⟨bb1, off1 + k * 17 + 15, none⟩ = some (.slice py.A6 y.2.plus.length py.c6) := by have := hd ⟨_, Below.refl _ _⟩ 15 _ rfl; rwa [← Nat.add_assoc] at this
      have Y16 : G.val.cell? ⟨bb1, off1 + k * 17 + 16, none⟩ = some (.slice py.A7 y.2.ch.length py.c7) := by have := hd ⟨_, Below.refl _ _⟩ 16 _ rfl; rwa [← Nat.add_assoc] at this
      have HYa := Lib.hid hy1
      clear hd hy1
      go_wp2_with fail
      go_at_call 35
      refine (rGreatEvent_any y.2 py G.val HYa.out).mono ?_
      rintro e w3 ⟨v, rfl, hv, hb⟩
      obtain ⟨G3, rfl⟩ := G.on hb
      clear hb fb8 Y1 Y2 Y3 Y4 Y5 Y6 Y7 Y8 Y9 Y10 Y11 Y12 Y13 Y14 Y15 Y16
      cases v with
      | true =>
       have E : Hid (r = true) := HYy.out (hv.1 rfl)
       clear hv
       go_wp2_with fail
       go_ret
       exact ⟨ret_bool E.out.symm, HG2.out G3⟩
      | false =>
       have HI2 := Lib.hid (HTy.out (fun k => by have := hv.2 k; cases this))
       clear hv
       go_wp2_with fail
       go_roundw
       case rel => exact ⟨k + 1, G3, rfl, hlk, by go_num, HI2.out⟩
       case measure => simp [intOf]; omega
     ·obtain rfl : k = x.events.length := by omega
      have HI2 := Lib.hid (HT.out (fun h => by
       rcases h with h | h | ⟨y, hy, h⟩
       ·exact HN0.out h
       ·exact HN3.out h
       ·exact HI.out y (by rw [List.take_length]; exact hy) h))
      clear HI HT HY
      obtain ⟨g3, hg3⟩ := g.on (HO2.out G)
      rw [hg3]
      go_wp2_with fail
      go_roundw
      case rel => exact ⟨i + 1, g3, rfl, hlt, by go_num, HI2.out⟩
      case measure => simp [intOf]; omega
  ·obtain rfl : i = a.users.length := by omega
   have HNU : Hid (∀ u ∈ a.users, ¬ greatU16 u) := by have := HI.out; rwa [List.take_length] at this
   clear HI
   have fa2 := HA.out g 2 (.slice p.A2 a.polls.length p.c2) rfl
   try simp only at fa2
   go_wp2_with fail
   clear fa2
   go_loopw [61] (fun s wr => ∃ (i : Nat) (g : Gr W), wr = g.val ∧ i ≤ a.polls.length ∧ s = .int .i64 i ∧ Hid (∀ o ∈ a.polls.take i, ¬ greatP16 o)) (fun s _ => a.polls.length - (intOf s).toNat)
   case atStart => exact ⟨0, g, rfl, Nat.zero_le _, rfl, fun u hu => by simp at hu⟩
   case round =>
    obtain ⟨i, g, rfl, hi, rfl, HI⟩ := hrel
    by_cases hlt : i < a.polls.length
    ·have hiz : (i : Int) < a.polls.length := by omega
     obtain ⟨x, hx⟩ : ∃ x, a.polls[i]? = some x := ⟨_, List.getElem?_eq_getElem hlt⟩
     have HY : Hid (greatP16 x → r = true) := fun h => HR2.out.2 (Or.inr ⟨x, List.mem_of_getElem? hx, h⟩)
     have HT : Hid (¬ greatP16 x → ∀ u ∈ a.polls.take (i + 1), ¬ greatP16 u) := fun h => none_step hx HI.out h
     clear HI
     have fa2 := HA.out g 2 (.slice p.A2 a.polls.length p.c2) rfl
     try simp only at fa2
     obtain ⟨px, bb0, off0, _, hA0, _, hx1, hc⟩ := (HPa.out g.val (HG.out g)).at plC_len (by decide) hx
     rw [hA0] at fa2
     clear hx hA0
     have X0 : g.val.cell? ⟨bb0, off0 + i * 16, none⟩ = some (.int .u32 (x.id : Int)) := hc ⟨_, Below.refl _ _⟩ 0 _ rfl
     have X1 : g.val.cell? ⟨bb0, off0 + i * 16 + 1, none⟩ = some (.int .u32 (x.owner : Int)) := by have := hc ⟨_, Below.refl _ _⟩ 1 _ rfl; rwa [← Nat.add_assoc] at this
     have X2 : g.val.cell? ⟨bb0, off0 + i * 16 + 2, none⟩ = some (.int .i64 x.query.win.1) := by have := hc ⟨_, Below.refl _ _⟩ 2 _ rfl; rwa [← Nat.add_assoc] at this
     have X3 : g.val.cell? ⟨bb0, off0 + i * 16 + 3, none⟩ = some (.int .i64 x.query.win.2) := by have := hc ⟨_, Below.refl _ _⟩ 3 _ rfl; rwa [← Nat.add_assoc] at this
     have X4 : g.val.cell? ⟨bb0, off0 + i * 16 + 4, none⟩ = some (.int .i64 x.query.long) := by have := hc ⟨_, Below.refl _ _⟩ 4 _ rfl; rwa [← Nat.add_assoc] at this
     have X5 : g.val.cell? ⟨bb0, off0 + i * 16 + 5, none⟩ = some (.int .i64 x.query.grid) := by have := hc ⟨_, Below.refl _ _⟩ 5 _ rfl; rwa [← Nat.add_assoc] at this
     have X6 : g.val.cell? ⟨bb0, off0 + i * 16 + 6, none⟩ = some (.slice px.q.A1 x.query.must.length px.q.c1) := by have := hc ⟨_, Below.refl _ _⟩ 6 _ rfl; rwa [← Nat.add_assoc] at this
     have X7 : g.val.cell? ⟨bb0, off0 + i * 16 + 7, none⟩ = some (.slice px.q.A2 x.query.may.length px.q.c2) := by have := hc ⟨_, Below.refl _ _⟩ 7 _ rfl; rwa [← Nat.add_assoc] at this
     have X8 : g.val.cell? ⟨bb0, off0 + i * 16 + 8, none⟩ = some (.int .i64 x.query.seats) := by have := hc ⟨_, Below.refl _ _⟩ 8 _ rfl; rwa [← Nat.add_assoc] at this
     have X9 : g.val.cell? ⟨bb0, off0 + i * 16 + 9, none⟩ = some (.slice px.q.A3 x.query.apart.length px.q.c3) := by have := hc ⟨_, Below.refl _ _⟩ 9 _ rfl; rwa [← Nat.add_assoc] at this
     have X10 : g.val.cell? ⟨bb0, off0 + i * 16 + 10, none⟩ = some (.slice px.q.A4 x.query.prefer.length px.q.c4) := by have := hc ⟨_, Below.refl _ _⟩ 10 _ rfl; rwa [← Nat.add_assoc] at this
     have X11 : g.val.cell? ⟨bb0, off0 + i * 16 + 11, none⟩ = some (.slice px.A1 x.slots.length px.c1) := by have := hc ⟨_, Below.refl _ _⟩ 11 _ rfl; rwa [← Nat.add_assoc] at this
     have X12 : g.val.cell? ⟨bb0, off0 + i * 16 + 12, none⟩ = some (.slice px.A2 x.votes.length px.c2) := by have := hc ⟨_, Below.refl _ _⟩ 12 _ rfl; rwa [← Nat.add_assoc] at this
     have X13 : g.val.cell? ⟨bb0, off0 + i * 16 + 13, none⟩ = some (.int .i64 x.until_) := by have := hc ⟨_, Below.refl _ _⟩ 13 _ rfl; rwa [← Nat.add_assoc] at this
     have X14 : g.val.cell? ⟨bb0, off0 + i * 16 + 14, none⟩ = some (.int .i64 x.state) := by have := hc ⟨_, Below.refl _ _⟩ 14 _ rfl; rwa [← Nat.add_assoc] at this
     have X15 : g.val.cell? ⟨bb0, off0 + i * 16 + 15, none⟩ = some (.int .i64 x.winner) := by have := hc ⟨_, Below.refl _ _⟩ 15 _ rfl; rwa [← Nat.add_assoc] at this
     have HPx := Lib.hid hx1
     clear hc hx1
     go_wp2_with fail
     go_at_call 22
     refine (rGreatPoll_any x px g.val HPx.out).mono ?_
     rintro e w3 ⟨v, rfl, hv, hb⟩
     obtain ⟨g3, rfl⟩ := g.on hb
     clear hb fa2 X0 X1 X2 X3 X4 X5 X6 X7 X8 X9 X10 X11 X12 X13 X14 X15
     cases v with
     | true =>
      have E : Hid (r = true) := HY.out (hv.1 rfl)
      clear hv
      go_wp2_with fail
      go_ret
      exact ⟨ret_bool E.out.symm, HG.out g3⟩
     | false =>
      have HI2 := Lib.hid (HT.out (fun k => by have := hv.2 k; cases this))
      clear hv
      go_wp2_with fail
      go_roundw
      case rel => exact ⟨i + 1, g3, rfl, hlt, by go_num, HI2.out⟩
      case measure => simp [intOf]; omega
    ·obtain rfl : i = a.polls.length := by omega
     have HNP : Hid (∀ o ∈ a.polls, ¬ greatP16 o) := by have := HI.out; rwa [List.take_length] at this
     clear HI
     have E : Hid (r = false) := Bool.eq_false_iff.2 fun k => (HR2.out.1 k).elim (fun ⟨u, hu, h⟩ => HNU.out u hu h) (fun ⟨o, ho, h⟩ => HNP.out o ho h)
     go_wp2_with fail
     go_ret
     exact ⟨ret_bool E.out.symm, HG.out g⟩
end Go.Proofs.YtdhinjbkfffpeaaGreat
end
