/- Contracts of the program's disk: the first bytes of all that waits. -/
import Derived.Test.YtabknmlnlhflmaaDoorDW4
import Derived.Deep.AppendLies
namespace Go.Proofs.YtabknmlnlhflmaaDoor
open Go.ChangeShapes Go.WideShapes Go.ChangeAt Go.RowKit Go.Joins Dm

theorem write_info : (Tryd.prog.info? 71).map (fun i => (i.zero, i.size, i.bytes)) = some (some (.agg #[.int .i64 0, .slice none 0 0]), 2, 32) := by kernel_rfl

theorem first_step {k : Nat} {l : List (Nat × List UInt8)} {i : Nat} {p : Nat × List UInt8} (hp : l[i]? = some p) :
    first k (l.drop i) = if k < p.2.length then [(p.1, p.2.take k)] else p :: first (k - p.2.length) (l.drop (i + 1)) := by
  rw [List.drop_eq_getElem_cons (List.getElem?_eq_some_iff.1 hp).1, (List.getElem?_eq_some_iff.1 hp).2]
  rfl
theorem own_take {w : World} {base size g n cap : Nat} {e : TypeId} {xs : List Value} (h : w.ownsRow base e size (.slice (some ⟨g, 0, none⟩) n cap) n xs) {i : Nat} (hi : i ≤ n) : w.ownsRow base e size (.slice (some ⟨g, 0, none⟩) i cap) i (xs.take (i * size)) := by
  obtain ⟨cur, hg, hn, hm, hs, ht, hb⟩ := own_block h
  have hx := h.1
  have : i * size ≤ n * size := Nat.mul_le_mul_right _ hi
  exact own_mk (by simp; omega) hb hg (by omega) hm hs (by rw [← ht, List.take_take, Nat.min_eq_left this])

theorem run_head {P : Program} (A : Option Addr) (n c i : Nat) (hi : i ≤ n) (hc : n ≤ c) {t : TypeId} {s : Nat} (ht : P.underlying t = some (.slice (P.elem t))) (hs : ∀ w' : World, (sizeOf (P.elem t)).run P w' = .ok s w') (w' : World) :
    (Instr.sliceAt t (.slice A n c) none (some (.int .i64 i)) none).run P w' = .ok (.slice A i c) w' := by
  rw [run_sliceAt_slice w' t _ _ _ _ ht, run_slice_h w' t A n c ht .i64 i (by omega) (by omega), hs]
  cases A with
  | none => simp [Result.andThen, sliced]
  | some a => simp [Result.andThen, sliced, Addr.add]

set_option maxRecDepth 100000 in
set_option maxHeartbeats 2000000 in
theorem firstBytes_any (wv : Value) (k0 : Int) (l : List (Nat × List UInt8)) (xs : List Value) (K : Nat → Prop) (hk0 : -9223372036854775808 ≤ k0 ∧ k0 ≤ 9223372036854775807) (hl : l.length ≤ 4294967296) (hsz : ∀ p ∈ l, p.1 + p.2.length ≤ 4194304) (w : World)
    (hown : w.ownsRow 0 71 2 wv l.length xs) (hw : Waits w K l xs) (hK : ∀ b, K b → wv.ownBlock ≠ some b) :
    Calls Tryd.prog 45 #[wv, .int .i64 k0] w fun e w' => ∃ v' xs', e = .returned v' ∧ w'.ownsRow 0 71 2 v' (first k0.toNat l).length xs' ∧ Waits w' K (first k0.toNat l) xs' ∧ w.grownBy w' wv.ownBlock ∧
      (∀ g, v'.ownBlock = some g → wv.ownBlock = some g ∨ w.heap.size ≤ g) := by
  obtain ⟨wa, wc, rfl, hS⟩ := Sl.of_own hown
  obtain ⟨i0, hi0, hq0, hq1, hq2⟩ := info_parts write_info
  have HOW := Lib.hid hown
  have HWT := Lib.hid hw
  have HS := Lib.hid hS
  have HK := Lib.hid hK
  have hm1 : (if k0 < 0 then 0 else k0) = (k0.toNat : Int) := by split <;> omega
  have hm2 : k0.toNat ≤ 9223372036854775807 := by omega
  clear hown hw hS hK
  go_enter Tryd.func45, Tryd.ntmps45
  go_wp2_with fail
  go_loopw [1, 11] (fun s1 s11 wr => ∃ (i k : Nat), i ≤ l.length ∧ s1 = .int .i64 k ∧ s11 = .int .i64 i ∧ k ≤ 9223372036854775807 ∧ Hid (Below w.heap.size w wr) ∧ Hid (first k0.toNat l = l.take i ++ first k (l.drop i))) (fun _ s11 _ => l.length - (intOf s11).toNat)
  case atStart => exact ⟨0, k0.toNat, Nat.zero_le _, by rw [show max k0 0 = (k0.toNat : Int) by omega], rfl, hm2, Below.refl _ _, by simp [Hid]⟩
  case round =>
    obtain ⟨i, k, hi, rfl, rfl, hkm, HB, HF⟩ := hrel
    by_cases hlt : i < l.length
    · have hiz : (i : Int) < l.length := by omega
      have hw1 : IntKind.i64.wrap ((i : Int) + 1) = i + 1 := by rw [IntKind.wrap_i64]; omega
      obtain ⟨p, hp⟩ : ∃ p, l[i]? = some p := ⟨_, List.getElem?_eq_getElem hlt⟩
      have hpf := hsz p (List.mem_of_getElem? hp)
      obtain ⟨g, cap, A, c, e0, e1, e2, h1, h2, h3, h4⟩ := Waits.cells (w := wr) (HWT.out.off (F := fun _ => False) (.of_below HB.out) (fun _ _ h => h)) (own_off HOW.out (F := fun _ => False) (.of_below HB.out) (fun _ _ h => h)) hp
      simp only [Value.slice.injEq, true_and] at e0
      obtain ⟨rfl, rfl⟩ := e0
      have hst := first_step (k := k) hp
      by_cases hk : k < p.2.length
      · have hkz : (k : Int) < p.2.length := by omega
        rw [if_pos hk] at hst
        have r1 := fun w' => run_head (P := Tryd.prog) (t := 46) (s := 2) (some ⟨g, 0, none⟩) l.length wc i (by omega) HS.out.le (by kernel_rfl) (fun w' => by kernel_rfl) w'
        have r2 := fun w' => run_head (P := Tryd.prog) (t := 23) (s := 1) A p.2.length c k (by omega) h1 (by kernel_rfl) (fun w' => by kernel_rfl) w'
        have HOI := Lib.hid (own_take (own_off HOW.out (F := fun _ => False) (.of_below HB.out) (fun _ _ h => h)) hi)
        have b0 : (wr.alloc (.cells #[.int .i64 (p.1 : Int), .slice A p.2.length c] 71)).cell? ⟨wr.heap.size, 0, none⟩ = some (.int .i64 (p.1 : Int)) := by simp [go_sem]
        have b1 : (wr.alloc (.cells #[.int .i64 (p.1 : Int), .slice A p.2.length c] 71)).cell? ⟨wr.heap.size, 1, none⟩ = some (.slice A p.2.length c) := by simp [go_sem]
        have HBB := Lib.hid (And.intro b0 b1)
        obtain ⟨W3, hW3⟩ : ∃ W3, ((wr.alloc (.cells #[.int .i64 (p.1 : Int), .slice A p.2.length c] 71)).alloc (.cells #[.int .i64 (p.1 : Int), .slice A k c] 71)).drew = W3 := ⟨_, rfl⟩
        have H3 := Lib.hid hW3
        have L3 : Hid (W3.heap[wr.heap.size + 1]? = some (.cells #[.int .i64 (p.1 : Int), .slice A k c] 71 (0, 0))) := by
          show _ = _; rw [← hW3, show wr.heap.size + 1 = (wr.alloc (.cells #[.int .i64 (p.1 : Int), .slice A p.2.length c] 71)).heap.size by simp]; exact heap_alloc_new _ _
        have O3 : Hid (Off (fun _ => False) wr W3) := by show Off _ _ _; rw [← hW3]; exact (((Off.refl _ wr).alloc _).alloc _).drew
        have B3 : Hid (W3.cell? ⟨wr.heap.size, 0, none⟩ = some (.int .i64 (p.1 : Int)) ∧ W3.cell? ⟨wr.heap.size, 1, none⟩ = some (.slice A p.2.length c)) := by
          show _ ∧ _; rw [← hW3]; exact ⟨cell_old b0 (((Below.refl _ _).alloc (Nat.le_refl _) _).drew), cell_old b1 (((Below.refl _ _).alloc (Nat.le_refl _) _).drew)⟩
        have OW3 : Hid (W3.ownsRow 0 71 2 (.slice (some ⟨g, 0, none⟩) i wc) i (xs.take (i * 2))) := own_off HOI.out O3.out (fun _ _ h => h)
        have hgw : g < wr.heap.size := World.block_lt_of_cell? _ _ e1
        have hng : some wr.heap.size ≠ (Value.slice (some ⟨g, 0, none⟩) i wc).ownBlock := by simp [Value.ownBlock]; omega
        have H4 := Lib.hid h4
        clear h4 b0 b1 hp hW3
        go_wp2_with fail
        go_region_held3 (fun w' => w'.cell? ⟨wr.heap.size, 0, none⟩ = some (.int .i64 (p.1 : Int)) ∧ w'.cell? ⟨wr.heap.size, 0 + 1, none⟩ = some (.slice A p.2.length c))
          (first | exact HBB.out | (rw [H3.out]; exact B3.out) | exact ⟨hgr2.cell B3.out.1 hng, hgr2.cell B3.out.2 hng⟩)
          ((rw [H3.out]; refine step_append_lies _ (by rfl) _ _ _ (by rfl) 0 71 i0 _ 2 32 Tryd.underlying46 hi0 hq0 hq1 hq2 rfl (by decide) (.slice (some ⟨g, 0, none⟩) i wc) i (xs.take (i * 2)) (by rfl) OW3.out ⟨wr.heap.size + 1, 0, none⟩ 1 1 [.int .i64 (p.1 : Int), .slice A k c] (by rfl) (by rfl) (World.news_of_block (cs := #[.int .i64 (p.1 : Int), .slice A k c]) (t := 71) (fr := (0, 0)) L3.out) (by simp [Value.oneCell']) (Nat.lt_succ_self 0) (by unfold maxLen; omega) (by omega) (Nat.zero_le _) W3.heap.size rfl ?_; intro gg cap2 w2 hown2 hgr2 hat hlt2))
        go_wp2_with fail
        go_ret
        have o2 : Off (fun b => b = g) wr w2 := (O3.out.mono (fun _ _ h => h.elim)).trans' (Off.of_grown hgr2 fun b hb => by simp [Value.ownBlock] at hb; exact hb.symm)
        have o1 : Off (fun b => b = g) w w2 := (Off.of_below HB.out).trans' o2
        have hKg : ∀ b, K b → ¬ b = g := fun b hb e => HK.out b hb (by rw [e]; rfl)
        have hfe : first k0.toNat l = l.take i ++ [(p.1, p.2.take k)] := by rw [HF.out, hst]
        have hfl : (first k0.toNat l).length = i + 1 := by rw [hfe]; simp; omega
        have hkl : (p.2.take k).length = k := by simp; omega
        refine ⟨_, _, rfl, by rw [hfl]; exact hown2, ?_, ⟨o1.os, o1.tape, o1.output, o1.size, fun b hb hne => o1.block b hb fun e => hne (by rw [e]; rfl)⟩, fun b hb => ?_⟩
        · rw [hfe]
          have hs := Waits.snoc (p := (p.1, p.2.take k)) (A := A) (c := c) (by show (p.2.take k).length ≤ c; omega) h2 h3 ((H4.out.take k).off o2 hKg) ((HWT.out.take i).off o1 hKg)
          simp only [hkl] at hs
          exact hs
        · rcases hat with e | e
          · simp [Value.ownBlock] at e hb ⊢
            left; rw [e, hb]
          · simp [Value.ownBlock] at hb
            right
            have := O3.out.size
            have := HB.out.size
            omega
      · have hkz : ¬ (k : Int) < p.2.length := by omega
        rw [if_neg hk] at hst
        have hw2 : IntKind.i64.wrap ((k : Int) - p.2.length) = ((k - p.2.length : Nat) : Int) := by rw [IntKind.wrap_i64]; omega
        have HFN : Hid (first k0.toNat l = l.take (i + 1) ++ first (k - p.2.length) (l.drop (i + 1))) := by
          show _ = _; rw [HF.out, hst, List.take_add_one, hp]; simp
        have hk2 : k - p.2.length ≤ 9223372036854775807 := by omega
        clear h4 hp
        go_wp2_with fail
        go_roundw
        case rel => exact ⟨i + 1, k - p.2.length, by omega, rfl, by go_num, hk2, HB.out.alloc HB.out.size _, HFN⟩
        case measure => simp [intOf]; omega
    · have hiz : ¬ (i : Int) < l.length := by omega
      go_wp2_with fail
      go_ret
      have hfe : first k0.toNat l = l := by rw [HF.out, show i = l.length by omega, List.drop_length, List.take_length]; simp [first]
      rw [hfe]
      exact ⟨_, rfl, _, own_off HOW.out (F := fun _ => False) (.of_below HB.out) (fun _ _ h => h), HWT.out.off (F := fun _ => False) (.of_below HB.out) (fun _ _ h => h), ⟨HB.out.os, HB.out.tape, HB.out.output, HB.out.size, fun b hb _ => HB.out.block b hb⟩, fun g hg => .inl hg⟩
end Go.Proofs.YtabknmlnlhflmaaDoor
