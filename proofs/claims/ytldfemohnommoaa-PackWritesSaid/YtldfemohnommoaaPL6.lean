/- The laws' walks: rows of things, there and back. -/
import Derived.Test.YtldfemohnommoaaPL1
import Derived.Test.YtldfemohnommoaaPW1
import Derived.Deep.RegionHeld3
import Derived.Deep.Cut
namespace Go.Proofs.Ytldfemohnommoaa
open Go.ChangeShapes Go.WideShapes Go.ChangeAt Go.RowKit Go.Joins Fr Pk

/-- A thing as bytes. -/
def opT (o : Op8) : List UInt8 := if o.k = 0 then numT o.n else if o.k = 1 then numT (zig o.s) else if o.k = 2 then textT o.t.data.toList else flagT o.f
def opsT : List Op8 → List UInt8
  | [] => []
  | o :: r => opT o ++ opsT r
theorem ops_snoc (l : List Op8) (o : Op8) : opsT (l ++ [o]) = opsT l ++ opT o := by
  induction l with
  | nil => simp [opsT]
  | cons a r ih => simp [opsT, ih]
theorem opT_len {o : Op8} (h : o.Ok) (ht : o.t.size ≤ 200) : (opT o).length ≤ 210 := by
  have h1 := num_len10 h.n
  have hz : zig o.s < 18446744073709551616 := by have := h.s; unfold zig; split <;> omega
  have h2 := num_len10 hz
  have h3 := num_len10 (n := o.t.data.toList.length) (by have : o.t.data.toList.length = o.t.size := rfl; omega)
  have h4 : o.t.data.toList.length = o.t.size := rfl
  unfold opT
  split
  · omega
  · split
    · omega
    · split
      · simp [textT] at h3 ⊢; omega
      · cases o.f <;> simp [flagT]
theorem ops_len : ∀ {l : List Op8}, (∀ o ∈ l, o.Ok ∧ o.t.size ≤ 200) → (opsT l).length ≤ 210 * l.length
  | [], _ => by simp [opsT]
  | o :: r, h => by
    have h1 := opT_len (h o (by simp)).1 (h o (by simp)).2
    have h2 := ops_len (l := r) fun t ht => h t (by simp [ht])
    simp only [opsT, List.length_append, List.length_cons]
    omega

theorem drop_of {l : List Op8} {i : Nat} {o : Op8} (h : l[i]? = some o) : opsT (l.drop i) = opT o ++ opsT (l.drop (i + 1)) := by
  obtain ⟨hi, e⟩ := List.getElem?_eq_some_iff.1 h
  rw [List.drop_eq_getElem_cons hi, e]; rfl
/-- A writer that was made behind a world. -/
structure WrOf (w0 w : World) (D : Nat) (X : List UInt8) (F : Nat → Prop) : Prop where
  x : WrAt w D X F
  fB : ∀ k, F k → w0.heap.size ≤ k
  below : Below w0.heap.size w0 w
theorem WrOf.up {w0 w w' : World} {D : Nat} {X : List UInt8} {F : Nat → Prop} (h : WrOf w0 w D X F) (hb : Below w.heap.size w w') : WrOf w0 w' D X F :=
  ⟨h.x.below hb, h.fB, h.below.trans (hb.mono h.below.size)⟩
theorem WrOf.to {w0 w w' : World} {D : Nat} {X X' : List UInt8} {F : Nat → Prop} (h : WrOf w0 w D X F) (k : WrTo w w' D X' F) : ∃ F', WrOf w0 w' D X' F' := by
  have hB := k.toBelow h.below.size h.fB
  obtain ⟨F', h1, o, i⟩ := k
  exact ⟨F', h1, fun b hb => (i b hb).elim (h.fB b) fun hs => Nat.le_trans h.below.size hs, h.below.trans hB⟩

def OneAt (w : World) (b : Nat) (k : Int) (n : Nat) (s : Int) (t : ByteArray) (f : Bool) : Prop := w.heap[b]? = some (.cells #[.int .i64 k, .int .u64 n, .int .i64 s, .string t, .bool f] 28 (0, 0))
theorem OneAt.cells {w : World} {b : Nat} {k : Int} {n : Nat} {s : Int} {t : ByteArray} {f : Bool} (h : OneAt w b k n s t f) : w.cell? ⟨b, 0, none⟩ = some (.int .i64 k) ∧ w.cell? ⟨b, 1, none⟩ = some (.int .u64 n) ∧ w.cell? ⟨b, 2, none⟩ = some (.int .i64 s) ∧ w.cell? ⟨b, 3, none⟩ = some (.string t) ∧ w.cell? ⟨b, 4, none⟩ = some (.bool f) := by
  unfold OneAt at h
  refine ⟨?_, ?_, ?_, ?_, ?_⟩ <;> simp [World.cell?, h]
theorem OneAt.off {w w' : World} {b : Nat} {k : Int} {n : Nat} {s : Int} {t : ByteArray} {f : Bool} {F : Nat → Prop} (h : OneAt w b k n s t f) (ho : Off F w w') (hb : ¬ F b) : OneAt w' b k n s t f := ho.heap h hb

set_option maxRecDepth 100000 in
set_option maxHeartbeats 4000000 in
theorem packWrites_walk (l : List Op8) (A : Option Addr) (c : Nat) (w : World) (hA : Sl w A l.length c (kv Op8.cells l)) (hl : ∀ o ∈ l, o.Ok) :
    Calls Try.prog 3 #[.slice A l.length c] w fun e w' => e = .returned (.bool true) ∧ Below w.heap.size w w' := by
  have HF := Lib.hid (fixed8_any w)
  by_cases h100 : 100 < l.length
  · have hz : (100 : Int) < l.length := by omega
    clear hA h100
    go_enter Try.func3, Try.ntmps3
    go_wp2_with fail
    go_at_call 8
    refine HF.out.mono ?_
    rintro e w' ⟨rfl, hb⟩
    go_wp2_with fail
    go_ret
    exact ⟨rfl, hb⟩
  have hz : ¬ (100 : Int) < l.length := by omega
  have HA := Lib.hid hA
  have HL := Lib.hid hl
  have HN := Lib.hid (wr_new w)
  have hal : l.length ≤ 100 := by omega
  clear hA h100 hl
  go_enter Try.func3, Try.ntmps3
  go_wp2_with fail
  go_at_call 9
  refine HN.out.mono ?_
  rintro e w1 ⟨D, F, rfl, h1, b1, f1⟩
  have H1 : Hid (∃ F, WrOf w w1 D [] F) := ⟨F, h1, f1, b1⟩
  clear h1 b1 f1 HN
  go_wp2_with fail
  go_loopw [4, 18] (fun s4 s18 wr => ∃ (i : Nat), i ≤ l.length ∧ s4 = .string ⟨(opsT (l.take i)).toArray⟩ ∧ s18 = .int .i64 i ∧ Hid (∃ F, WrOf w wr D (opsT (l.take i)) F) ∧ Hid (∀ o ∈ l.take i, o.Ok ∧ o.t.size ≤ 200)) (fun _ s18 _ => l.length - (intOf s18).toNat)
  case atStart => exact ⟨0, Nat.zero_le _, rfl, rfl, H1.out, fun o h => by simp at h⟩
  case round =>
    obtain ⟨i, hi, rfl, rfl, HW, HS⟩ := hrel
    obtain ⟨F, hW⟩ := HW.out
    by_cases hlt : i < l.length
    · have hiz : (i : Int) < l.length := by omega
      have hw1 : IntKind.i64.wrap ((i : Int) + 1) = i + 1 := by rw [IntKind.wrap_i64]; omega
      obtain ⟨o, ho⟩ : ∃ o, l[i]? = some o := ⟨_, List.getElem?_eq_getElem hlt⟩
      obtain ⟨ab, ao, rfl, hab, hac⟩ := Sl.kvG Op8.len (by decide) HA.out ho
      have hok := HL.out o (List.mem_of_getElem? ho)
      have HTk : Hid (l.take (i + 1) = l.take i ++ [o]) := by show _ = _; rw [List.take_add_one, ho]; rfl
      have hac' : ∀ j v, o.cells[j]? = some v → wr.cell? ⟨ab, ao + i * 5 + j, none⟩ = some v := fun j v hj => by rw [Nat.add_assoc]; exact hac ⟨wr, hW.below⟩ j v hj
      have HOK := Lib.hid hok
      have HWW := Lib.hid hW
      clear ho hac hok
      obtain ⟨k, n, s, t, f⟩ := o
      have r0 : wr.cell? ⟨ab, ao + i * 5, none⟩ = some (.int .i64 k) := hac' 0 (.int .i64 k) rfl
      have r1 := hac' 1 (.int .u64 n) rfl
      have r2 := hac' 2 (.int .i64 s) rfl
      have r3 := hac' 3 (.string t) rfl
      have r4 := hac' 4 (.bool f) rfl
      clear hac' hW
      go_upto_region 8 with fail
      obtain ⟨W4, hW4⟩ : ∃ W4, wr.alloc (.cells #[.int .i64 k, .int .u64 n, .int .i64 s, .string t, .bool f] 28) = W4 := ⟨_, rfl⟩
      have hb4 : Below wr.heap.size wr W4 := by rw [← hW4]; exact (Below.refl _ wr).alloc (Nat.le_refl _) _
      have hop : OneAt W4 wr.heap.size k n s t f := by rw [← hW4]; exact heap_alloc_new _ _
      have H4 := Lib.hid (HWW.out.up hb4)
      have HOP := Lib.hid hop
      obtain ⟨d0, d1, d2, d3, d4⟩ := hop.cells
      have hnF : ¬ F wr.heap.size := fun h => Nat.lt_irrefl _ (HWW.out.x.lt _ h)
      have HNF := Lib.hid hnF
      rw [hW4]
      clear hW4 hb4 hop hnF r0 r1 r2 r3 r4
      have hlx := ops_len HS.out
      simp at hlx
      by_cases h200 : 200 < t.size
      · have h2z : (200 : Int) < t.size := by omega
        have HF2 := Lib.hid (fixed8_any W4)
        go_wp2_with fail
        go_at_call 8
        refine HF2.out.mono ?_
        rintro e w' ⟨rfl, hb⟩
        go_wp2_with fail
        go_ret
        exact ⟨rfl, H4.out.below.trans (hb.mono H4.out.below.size)⟩
      have h2z : ¬ (200 : Int) < t.size := by omega
      have HS2 : Hid (∀ o ∈ l.take (i + 1), o.Ok ∧ o.t.size ≤ 200) := fun o ho => by
        rw [HTk.out] at ho
        rcases List.mem_append.1 ho with ho | ho
        · exact HS.out o ho
        · obtain rfl := List.mem_singleton.1 ho
          exact ⟨HOK.out, Nat.not_lt.1 h200⟩
      have hln : (opsT (l.take i)).length ≤ 21000 := by omega
      have HLN := Lib.hid hln
      have HOL := Lib.hid (opT_len HOK.out (Nat.not_lt.1 h200))
      clear h200 hlx
      by_cases k0 : k = 0
      · subst k0
        have HT : Hid (opT ⟨0, n, s, t, f⟩ = numT n) := by show _ = _; unfold opT; rw [if_pos rfl]
        have hol := HOL.out
        rw [HT.out] at hol
        have HX := Lib.hid (wr_number_any D n HOK.out.n _ F (by have := HLN.out; omega) W4 H4.out.x)
        have HR := Lib.hid (fun w : World => rnum_any n HOK.out.n w)
        go_wp2_with fail
        go_at_call 10
        refine HX.out.mono ?_
        rintro e w5 ⟨rfl, hT⟩
        have hop5 : OneAt w5 wr.heap.size 0 n s t f := by obtain ⟨_, _, o5, _⟩ := hT; exact HOP.out.off o5 HNF.out
        obtain ⟨d0, d1, d2, d3, d4⟩ := hop5.cells
        have H5 := Lib.hid (H4.out.to hT)
        clear hop5 hT
        go_wp2_with fail
        go_at_call 11
        refine (HR.out _).mono ?_
        rintro e w6 ⟨rfl, hb6⟩
        go_wp2_with fail
        go_roundw
        case rel => exact ⟨i + 1, hlt, congrArg Value.string (by rw [HTk.out, ops_snoc, HT.out]; exact ByteArray.mk_append_mk _ _), by go_num, by obtain ⟨F5, h5⟩ := H5.out; exact ⟨F5, by rw [HTk.out, ops_snoc, HT.out]; exact h5.up hb6⟩, HS2.out⟩
        case measure => simp [intOf]; omega
      have k0b : (k == 0) = false := by simpa using k0
      by_cases k1 : k = 1
      · subst k1
        have HT : Hid (opT ⟨1, n, s, t, f⟩ = numT (zig s)) := by show _ = _; unfold opT; rw [if_neg (by omega), if_pos rfl]
        have hol := HOL.out
        rw [HT.out] at hol
        have HX := Lib.hid (wr_signed_any D s HOK.out.s.1 HOK.out.s.2 _ F (by have := HLN.out; omega) W4 H4.out.x)
        have HR := Lib.hid (fun w : World => rsigned_any s HOK.out.s.1 HOK.out.s.2 w)
        go_wp2_with fail
        go_at_call 12
        refine HX.out.mono ?_
        rintro e w5 ⟨rfl, hT⟩
        have hop5 : OneAt w5 wr.heap.size 1 n s t f := by obtain ⟨_, _, o5, _⟩ := hT; exact HOP.out.off o5 HNF.out
        obtain ⟨d0, d1, d2, d3, d4⟩ := hop5.cells
        have H5 := Lib.hid (H4.out.to hT)
        clear hop5 hT
        go_wp2_with fail
        go_at_call 13
        refine (HR.out _).mono ?_
        rintro e w6 ⟨rfl, hb6⟩
        go_wp2_with fail
        go_roundw
        case rel => exact ⟨i + 1, hlt, congrArg Value.string (by rw [HTk.out, ops_snoc, HT.out]; exact ByteArray.mk_append_mk _ _), by go_num, by obtain ⟨F5, h5⟩ := H5.out; exact ⟨F5, by rw [HTk.out, ops_snoc, HT.out]; exact h5.up hb6⟩, HS2.out⟩
        case measure => simp [intOf]; omega
      have k1b : (k == 1) = false := by simpa using k1
      by_cases k2 : k = 2
      · subst k2
        have HT : Hid (opT ⟨2, n, s, t, f⟩ = textT t.data.toList) := by show _ = _; unfold opT; rw [if_neg (by omega), if_neg (by omega), if_pos rfl]
        have hol := HOL.out
        rw [HT.out] at hol
        have HX := Lib.hid (wr_text_any D t _ F (by have := HLN.out; omega) W4 H4.out.x)
        have HR := Lib.hid (fun w : World => rtext_any t (by omega) w)
        go_wp2_with fail
        go_at_call 14
        refine HX.out.mono ?_
        rintro e w5 ⟨rfl, hT⟩
        have hop5 : OneAt w5 wr.heap.size 2 n s t f := by obtain ⟨_, _, o5, _⟩ := hT; exact HOP.out.off o5 HNF.out
        obtain ⟨d0, d1, d2, d3, d4⟩ := hop5.cells
        have H5 := Lib.hid (H4.out.to hT)
        clear hop5 hT
        go_wp2_with fail
        go_at_call 15
        refine (HR.out _).mono ?_
        rintro e w6 ⟨rfl, hb6⟩
        go_wp2_with fail
        go_roundw
        case rel => exact ⟨i + 1, hlt, congrArg Value.string (by rw [HTk.out, ops_snoc, HT.out]; exact ByteArray.mk_append_mk _ _), by go_num, by obtain ⟨F5, h5⟩ := H5.out; exact ⟨F5, by rw [HTk.out, ops_snoc, HT.out]; exact h5.up hb6⟩, HS2.out⟩
        case measure => simp [intOf]; omega
      have k2b : (k == 2) = false := by simpa using k2
      have HT : Hid (opT ⟨k, n, s, t, f⟩ = flagT f) := by show _ = _; unfold opT; rw [if_neg k0, if_neg k1, if_neg k2]
      have hol := HOL.out
      rw [HT.out] at hol
      have HX := Lib.hid (wr_flag_any D f _ F (by have := HLN.out; omega) W4 H4.out.x)
      have HR := Lib.hid (fun w : World => rflag_any f w)
      go_wp2_with fail
      go_at_call 16
      refine HX.out.mono ?_
      rintro e w5 ⟨rfl, hT⟩
      have hop5 : OneAt w5 wr.heap.size k n s t f := by obtain ⟨_, _, o5, _⟩ := hT; exact HOP.out.off o5 HNF.out
      obtain ⟨d0, d1, d2, d3, d4⟩ := hop5.cells
      have H5 := Lib.hid (H4.out.to hT)
      clear hop5 hT
      go_wp2_with fail
      go_at_call 17
      refine (HR.out _).mono ?_
      rintro e w6 ⟨rfl, rfl⟩
      go_wp2_with fail
      go_roundw
      case rel => exact ⟨i + 1, hlt, congrArg Value.string (by rw [HTk.out, ops_snoc, HT.out]; exact ByteArray.mk_append_mk _ _), by go_num, by obtain ⟨F5, h5⟩ := H5.out; exact ⟨F5, by rw [HTk.out, ops_snoc, HT.out]; exact h5⟩, HS2.out⟩
      case measure => simp [intOf]; omega
    · have hiz : ¬ (i : Int) < l.length := by omega
      obtain rfl : i = l.length := by omega
      have htl : l.take l.length = l := List.take_of_length_le (Nat.le_refl _)
      rw [htl] at HS hW ⊢
      have hlx := ops_len HS.out
      obtain ⟨X, hX⟩ : ∃ X, opsT l = X := ⟨_, rfl⟩
      have HX0 : Hid (opsT (l.drop 0) = X) := hX
      rw [hX] at hlx hW ⊢
      have hxl : X.length ≤ 140737488355328 := by omega
      have HTx := Lib.hid HS.out
      have HWW := Lib.hid hW
      have HBy := Lib.hid (wr_bytes_any D X F hxl wr hW.x)
      clear hX hlx htl hW HW HS
      go_wp2_with fail
      go_at_call 18
      refine HBy.out.mono ?_
      rintro e w3 hR
      obtain ⟨A3, c3, rfl, hf⟩ := hR.fresh
      have hcv := hf.at_.1.conv (P := Try.prog) c3 (dst := 9) Try.underlying37 Try.underlying5 Try.underlying9
      have H3 := Lib.hid (HWW.out.up hf.below)
      have HBy2 := Lib.hid (wr_bytes_any D X F hxl w3 H3.out.x)
      clear hR hf
      go_wp2_with fail
      go_at_call 18
      refine HBy2.out.mono ?_
      rintro e w4 hR
      obtain ⟨A4, c4, rfl, hf⟩ := hR.fresh
      have B4 : Hid (Below w.heap.size w w4) := (H3.out.up hf.below).below
      have HRd := Lib.hid (rd_new A4 c4 X hf.le hf.cap hf.nil hxl w4 hf.at_.1)
      clear hR hf
      go_wp2_with fail
      go_at_call 19
      refine HRd.out.mono ?_
      rintro e w5 ⟨R, G, rfl, h5, b5, g5⟩
      have HR5 : Hid (RdAt w5 R (some X) G ∧ Below w.heap.size w w5) := ⟨h5, B4.out.trans (b5.mono B4.out.size)⟩
      have HG : Hid (∀ k, G k → w.heap.size ≤ k) := fun k hk => Nat.le_trans B4.out.size (g5 k hk)
      clear h5 b5 g5
      go_wp2_with fail
      go_loopw [82] (fun s82 wx => ∃ (i : Nat), i ≤ l.length ∧ s82 = .int .i64 i ∧ Hid (RdAt wx R (some (opsT (l.drop i))) G ∧ Below w.heap.size w wx)) (fun s82 _ => l.length - (intOf s82).toNat)
      case atStart => exact ⟨0, Nat.zero_le _, rfl, by show _ ∧ _; rw [HX0.out]; exact HR5.out⟩
      case round =>
        obtain ⟨i, hi, rfl, HR⟩ := hrel
        by_cases hlt : i < l.length
        · have hiz : (i : Int) < l.length := by omega
          have hw1 : IntKind.i64.wrap ((i : Int) + 1) = i + 1 := by rw [IntKind.wrap_i64]; omega
          obtain ⟨o, ho⟩ : ∃ o, l[i]? = some o := ⟨_, List.getElem?_eq_getElem hlt⟩
          obtain ⟨ab, ao, rfl, hab, hac⟩ := Sl.kvG Op8.len (by decide) HA.out ho
          have hok := HTx.out o (List.mem_of_getElem? ho)
          have HDr := Lib.hid (drop_of ho)
          have hac' : ∀ j v, o.cells[j]? = some v → wr.cell? ⟨ab, ao + i * 5 + j, none⟩ = some v := fun j v hj => by rw [Nat.add_assoc]; exact hac ⟨wr, HR.out.2⟩ j v hj
          have HOK := Lib.hid hok
          clear ho hac hok
          obtain ⟨k, n, s, t, f⟩ := o
          have r0 : wr.cell? ⟨ab, ao + i * 5, none⟩ = some (.int .i64 k) := hac' 0 (.int .i64 k) rfl
          have r1 := hac' 1 (.int .u64 n) rfl
          have r2 := hac' 2 (.int .i64 s) rfl
          have r3 := hac' 3 (.string t) rfl
          have r4 := hac' 4 (.bool f) rfl
          clear hac'
          go_upto_region 29 with fail
          obtain ⟨W4, hW4⟩ : ∃ W4, wr.alloc (.cells #[.int .i64 k, .int .u64 n, .int .i64 s, .string t, .bool f] 28) = W4 := ⟨_, rfl⟩
          have hb4 : Below wr.heap.size wr W4 := by rw [← hW4]; exact (Below.refl _ wr).alloc (Nat.le_refl _) _
          have hop : OneAt W4 wr.heap.size k n s t f := by rw [← hW4]; exact heap_alloc_new _ _
          have H4 : Hid (RdAt W4 R (some (opT ⟨k, n, s, t, f⟩ ++ opsT (l.drop (i + 1)))) G ∧ Below w.heap.size w W4) := ⟨by rw [← HDr.out]; exact HR.out.1.below hb4, HR.out.2.trans (hb4.mono HR.out.2.size)⟩
          have hnR : wr.heap.size ≠ R := fun e => by have := HR.out.1.lt R HR.out.1.fD; omega
          have HNR := Lib.hid hnR
          have HOP := Lib.hid hop
          obtain ⟨d0, d1, d2, d3, d4⟩ := hop.cells
          rw [hW4]
          clear hW4 hb4 hop hnR r0 r1 r2 r3 r4
          by_cases k0 : k = 0
          · subst k0
            have HT : Hid (opT ⟨0, n, s, t, f⟩ = numT n) := by show _ = _; unfold opT; rw [if_pos rfl]
            have HX := Lib.hid (rd_number R 18446744073709551615 (by omega) _ G W4.drew (H4.out.1.below (drew_below W4)))
            rw [HT.out, rdNum_put HOK.out.1.n (by have := HOK.out.1.n; omega)] at HX
            have HC : Hid (∀ w', RdTo W4.drew w' R (some (opsT (l.drop (i + 1)))) G → w'.cell? ⟨wr.heap.size, 1, none⟩ = some (.int .u64 n)) := fun w' h => (h.2.heap (HOP.out.off (Off.of_below (F := fun _ => False) (drew_below W4)) (fun h => h)) HNR.out |> fun q => (OneAt.cells (k := 0) (n := n) (s := s) (t := t) (f := f) q)).2.1
            go_wp2_with fail
            go_region_held3 (fun w' => w'.cell? ⟨wr.heap.size, 1, none⟩ = some (.int .u64 n)) (first | assumption | (simp only [World.drew_cell?]; assumption)) (first
              | (go_at_call 20; refine HX.out.mono ?_; rintro e w6 ⟨rfl, hT⟩; have d6 := HC.out w6 hT))
            all_goals
              have H6 := Lib.hid hT
              have HBd := Lib.hid (rd_bad R _ G w6 hT.1)
              clear hT
              go_wp2_with fail
              go_at_call 24
              refine HBd.out.mono ?_
              rintro e w' ⟨rfl, rfl⟩
              go_wp2_with fail
              go_roundw
              case rel => exact ⟨i + 1, hlt, by go_num, H6.out.1, H4.out.2.trans (((drew_below W4).mono H4.out.2.size).trans (H6.out.toBelow (Nat.le_trans H4.out.2.size (drew_below W4).size) HG.out))⟩
              case measure => simp [intOf]; omega
          have k0b : (k == 0) = false := by simpa using k0
          by_cases k1 : k = 1
          · subst k1
            have HT : Hid (opT ⟨1, n, s, t, f⟩ = numT (zig s)) := by show _ = _; unfold opT; rw [if_neg (by omega), if_pos rfl]
            have HX := Lib.hid (rd_signed R _ G W4.drew (H4.out.1.below (drew_below W4)))
            rw [HT.out, rdSig_put HOK.out.1.s.1 HOK.out.1.s.2] at HX
            have HC : Hid (∀ w', RdTo W4.drew w' R (some (opsT (l.drop (i + 1)))) G → w'.cell? ⟨wr.heap.size, 2, none⟩ = some (.int .i64 s)) := fun w' h => (h.2.heap (HOP.out.off (Off.of_below (F := fun _ => False) (drew_below W4)) (fun h => h)) HNR.out |> fun q => (OneAt.cells (k := 1) (n := n) (s := s) (t := t) (f := f) q)).2.2.1
            go_wp2_with fail
            go_region_held3 (fun w' => w'.cell? ⟨wr.heap.size, 2, none⟩ = some (.int .i64 s)) (first | assumption | (simp only [World.drew_cell?]; assumption)) (first
              | (go_at_call 21; refine HX.out.mono ?_; rintro e w6 ⟨rfl, hT⟩; have d6 := HC.out w6 hT))
            all_goals
              have H6 := Lib.hid hT
              have HBd := Lib.hid (rd_bad R _ G w6 hT.1)
              clear hT
              go_wp2_with fail
              go_at_call 24
              refine HBd.out.mono ?_
              rintro e w' ⟨rfl, rfl⟩
              go_wp2_with fail
              go_roundw
              case rel => exact ⟨i + 1, hlt, by go_num, H6.out.1, H4.out.2.trans (((drew_below W4).mono H4.out.2.size).trans (H6.out.toBelow (Nat.le_trans H4.out.2.size (drew_below W4).size) HG.out))⟩
              case measure => simp [intOf]; omega
          have k1b : (k == 1) = false := by simpa using k1
          by_cases k2 : k = 2
          · subst k2
            have HT : Hid (opT ⟨2, n, s, t, f⟩ = textT t.data.toList) := by show _ = _; unfold opT; rw [if_neg (by omega), if_neg (by omega), if_pos rfl]
            have HX := Lib.hid (rd_text R 200 (by omega) _ G W4.drew (H4.out.1.below (drew_below W4)))
            rw [HT.out, rdText_put (by have : t.size ≤ 200 := HOK.out.2; show t.size < _; omega) (by have : t.size ≤ 200 := HOK.out.2; show ((t.size : Nat) : Int) ≤ 200; omega)] at HX
            have HC : Hid (∀ w', RdTo W4.drew w' R (some (opsT (l.drop (i + 1)))) G → w'.cell? ⟨wr.heap.size, 3, none⟩ = some (.string t)) := fun w' h => (h.2.heap (HOP.out.off (Off.of_below (F := fun _ => False) (drew_below W4)) (fun h => h)) HNR.out |> fun q => (OneAt.cells (k := 2) (n := n) (s := s) (t := t) (f := f) q)).2.2.2.1
            go_wp2_with fail
            go_region_held3 (fun w' => w'.cell? ⟨wr.heap.size, 3, none⟩ = some (.string t)) (first | assumption | (simp only [World.drew_cell?]; assumption)) (first
              | (go_at_call 22; refine HX.out.mono ?_; rintro e w6 ⟨rfl, hT⟩; have d6 := HC.out w6 hT))
            all_goals
              have H6 := Lib.hid hT
              have HBd := Lib.hid (rd_bad R _ G w6 hT.1)
              clear hT
              go_wp2_with fail
              go_at_call 24
              refine HBd.out.mono ?_
              rintro e w' ⟨rfl, rfl⟩
              go_wp2_with fail
              go_roundw
              case rel => exact ⟨i + 1, hlt, by go_num, H6.out.1, H4.out.2.trans (((drew_below W4).mono H4.out.2.size).trans (H6.out.toBelow (Nat.le_trans H4.out.2.size (drew_below W4).size) HG.out))⟩
              case measure => simp [intOf]; omega
          have k2b : (k == 2) = false := by simpa using k2
          have HT : Hid (opT ⟨k, n, s, t, f⟩ = flagT f) := by show _ = _; unfold opT; rw [if_neg k0, if_neg k1, if_neg k2]
          have HX := Lib.hid (rd_flag R _ G W4.drew (H4.out.1.below (drew_below W4)))
          rw [HT.out, rdFlag_put f] at HX
          have HC : Hid (∀ w', RdTo W4.drew w' R (some (opsT (l.drop (i + 1)))) G → w'.cell? ⟨wr.heap.size, 4, none⟩ = some (.bool f)) := fun w' h => (h.2.heap (HOP.out.off (Off.of_below (F := fun _ => False) (drew_below W4)) (fun h => h)) HNR.out |> fun q => (OneAt.cells (k := k) (n := n) (s := s) (t := t) (f := f) q)).2.2.2.2
          go_wp2_with fail
          go_region_held3 (fun w' => w'.cell? ⟨wr.heap.size, 4, none⟩ = some (.bool f)) (first | assumption | (simp only [World.drew_cell?]; assumption)) (first
            | (go_at_call 23; refine HX.out.mono ?_; rintro e w6 ⟨rfl, hT⟩; have d6 := HC.out w6 hT))
          all_goals
            have H6 := Lib.hid hT
            have HBd := Lib.hid (rd_bad R _ G w6 hT.1)
            clear hT
            go_wp2_with fail
            go_at_call 24
            refine HBd.out.mono ?_
            rintro e w' ⟨rfl, rfl⟩
            go_wp2_with fail
            go_roundw
            case rel => exact ⟨i + 1, hlt, by go_num, H6.out.1, H4.out.2.trans (((drew_below W4).mono H4.out.2.size).trans (H6.out.toBelow (Nat.le_trans H4.out.2.size (drew_below W4).size) HG.out))⟩
            case measure => simp [intOf]; omega
        · have hiz : ¬ (i : Int) < l.length := by omega
          obtain rfl : i = l.length := by omega
          rw [List.drop_of_length_le (Nat.le_refl _)] at HR
          have HF9 := Lib.hid (fixed8_any wr)
          have HE := Lib.hid (fun w' (hb : Below wr.heap.size wr w') => rd_end R _ G w' (HR.out.1.below hb))
          go_wp2_with fail
          go_at_call 8
          refine HF9.out.mono ?_
          rintro e w7 ⟨rfl, hb⟩
          have HBb := Lib.hid hb
          have HEE := Lib.hid (HE.out w7 hb)
          clear hb
          go_wp2_with fail
          go_at_call 25
          refine HEE.out.mono ?_
          rintro e w' ⟨rfl, rfl⟩
          go_wp2_with fail
          go_ret
          exact ⟨ret_bool (by simp [opsT]), HR.out.2.trans (HBb.out.mono HR.out.2.size)⟩
end Go.Proofs.Ytldfemohnommoaa
