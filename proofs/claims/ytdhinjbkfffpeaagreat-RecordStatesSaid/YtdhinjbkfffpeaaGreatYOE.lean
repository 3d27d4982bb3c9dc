import Derived.Test.YtdhinjbkfffpeaaGreatRows
import Derived.Test.YtdhinjbkfffpeaaGreatYMB
import Derived.Deep.RegionHeld3
import Derived.Deep.AppendLies
import Derived.Lib.SliceRun
import Derived.Lib.SmallJoins
import Derived.WalkKit
import Derived.Laws.MakeOwn
import Derived.Test.YtdhinjbkfffpeaaGreatYOD
import Derived.Lib.AppendStr
/- Contracts of the library's copy of bytes; rows of bytes that are handed back. -/
section
namespace Go.Proofs.YtdhinjbkfffpeaaGreat
open Go.ChangeShapes Go.WideShapes Go.ChangeAt Go.RowKit Go.Joins
theorem u8_info : (Tryz.prog.info? 5).map (fun i => (i.zero, i.size, i.bytes)) = some (some (.int .u8 0), 1, 1) := by kernel_rfl
theorem Sl.of_bytes {w : World} {A : Option Addr} {l : List UInt8} (h : BAt w A l) {c : Nat} (hl : l.length ≤ c) (hc : c ≤ maxLen) (hn : A = none → c = 0) : Sl w A l.length c (bl l) := by
  refine ⟨hl, hc, hn, fun h0 => ?_⟩
  obtain ⟨b, off, rfl, hb, hcl⟩ := h (by rwa [bl_len] at h0)
  refine ⟨b, off, rfl, hb, fun i v hi => ?_⟩
  obtain ⟨c, hc⟩ : ∃ c, l[i]? = some c := by
    have := (List.getElem?_eq_some_iff.1 hi).1
    exact ⟨_, List.getElem?_eq_getElem (by rwa [bl_len] at this)⟩
  rw [bl_at hc] at hi
  rw [← Option.some.inj hi]
  exact hcl i c hc
def RetB (l : List UInt8) (w : World) (e : Ending) (w' : World) : Prop := ∃ v, e = .returned v ∧ w'.ownsRow w.heap.size 5 1 v l.length (bl l) ∧ Below w.heap.size w w'
theorem clone_any (A : Option Addr) (c : Nat) (l : List UInt8) (hl : l.length ≤ c) (hc : c ≤ maxLen) (hn : A = none → c = 0) (hb : l.length ≤ 140737488355328) (w : World) (h : BAt w A l) :
    Calls Tryz.prog 109 #[.slice A l.length c] w (RetB l w) := by
  have hnil : ∀ (w' : World) (A' : Option Addr) (n' c' : Nat), (binOp .eql 42 (.slice A' n' c') (.slice none 0 0)).run Tryz.prog w' = .ok (.bool A'.isNone) w' := fun w' A' n' c' => Lib.run_eql_slice_nil w' 42 5 A' n' c' 0 0 Tryz.underlying42
  cases A with
  | none =>
    obtain rfl : c = 0 := hn rfl
    obtain rfl : l = [] := List.eq_nil_of_length_eq_zero (by omega)
    go_enter Tryz.func109, Tryz.ntmps109
    go_wp2
    go_ret
    exact ⟨_, rfl, World.ownsRow_nil _ _ _ _, Below.refl _ _⟩
  | some a =>
    have hS := Sl.of_bytes h hl hc hn
    have H := Lib.hid hS
    clear hS h
    obtain ⟨i0, hi0, hq0, hq1, hq2⟩ := info_parts u8_info
    have h1 := Lib.hid (bl_one l)
    have hmx : 0 + l.length ≤ maxLen := by omega
    go_enter Tryz.func109, Tryz.ntmps109
    go_wp2_with (refine wpList_append_sl rfl _ _ _ (by rfl) w.heap.size 5 i0 _ 1 1 Tryz.underlying42 hi0 hq0 hq1 hq2 rfl (by decide) (.slice (some ⟨w.heap.size, 0, none⟩) 0 0) 0 [] (by rfl) (World.ownsRow_made (base := w.heap.size) w #[] 0 (Nat.le_refl _) (by decide) rfl) (some a) l.length c (bl l) (by rfl) (H.out.alloc _) (by rw [bl_len]; omega) h1.out hmx (by omega) (by simp) ?_; intro v' w' hown hgr)
    go_ret
    refine ⟨_, rfl, by simpa using hown, ?_⟩
    exact ⟨hgr.os, hgr.tape, hgr.output, by have := hgr.size; simp at this; omega, fun k hk => by rw [hgr.block k (by simp; omega) (by simp [Value.ownBlock]; omega)]; exact Below.heap_alloc _ _ _ hk⟩
structure Fresh (w w' : World) (A : Option Addr) (n c : Nat) (l : List UInt8) : Prop where
  len : l.length = n
  le : n ≤ c
  cap : c ≤ maxLen
  nil : A = none → c = 0
  at_ : BIn (fun k => w.heap.size ≤ k) w' A l
  below : Below w.heap.size w w'
theorem RetB.fresh {l : List UInt8} {w w' : World} {e : Ending} (h : RetB l w e w') : ∃ A c, e = .returned (.slice A l.length c) ∧ Fresh w w' A l.length c l := by
  obtain ⟨v, rfl, hown, hb⟩ := h
  obtain ⟨A, c, rfl, h1, h2, h3, h4, _⟩ := BAt.of_own hown
  exact ⟨A, c, rfl, rfl, h1, h2, h4, ⟨h3, fun _ a ha => by subst ha; exact (hown.lt a.block rfl).1⟩, hb⟩
end Go.Proofs.YtdhinjbkfffpeaaGreat
end
section
namespace Go.Proofs.YtdhinjbkfffpeaaGreat
open Go.ChangeShapes Go.WideShapes Go.ChangeAt Go.RowKit Go.Joins Fr Pk
structure WrIn (w : World) (D : Nat) (v : Value) (l : List UInt8) (F : Nat → Prop) : Prop where
  blk : w.heap[D]? = some (.cells #[v] 187 (0, 0))
  own : w.ownsRow 0 5 1 v l.length (bl l)
  ne : v.ownBlock ≠ some D
  fD : F D
  fv : ∀ k, v.ownBlock = some k → F k
  lt : ∀ k, F k → k < w.heap.size
def WrAt (w : World) (D : Nat) (l : List UInt8) (F : Nat → Prop) : Prop := ∃ v, WrIn w D v l F
def WrTo (w w' : World) (D : Nat) (l : List UInt8) (F : Nat → Prop) : Prop := ∃ F', WrAt w' D l F' ∧ Off F w w' ∧ ∀ k, F' k → F k ∨ w.heap.size ≤ k
section
variable {w w1 w2 w' : World} {D : Nat} {v v' : Value} {l l' : List UInt8} {F F1 G : Nat → Prop}
theorem WrIn.cell (h : WrIn w D v l F) : w.cell? ⟨D, 0, none⟩ = some v := by have hb := h.blk; simp [World.cell?, hb]
theorem WrIn.free (h : WrIn w D v l F) (i : Nat) : w.frozen? ⟨D, i, none⟩ = false := by have hb := h.blk; simp [World.frozen?, hb]
theorem WrIn.off (h : WrIn w D v l F) (ho : Off G w w') (hG : ∀ b, F b → ¬ G b) : WrIn w' D v l F :=
  ⟨ho.heap h.blk (hG _ h.fD), own_off h.own ho fun k hk => hG _ (h.fv k hk), h.ne, h.fD, h.fv, fun k hk => Nat.lt_of_lt_of_le (h.lt k hk) ho.size⟩
theorem WrAt.off (h : WrAt w D l F) (ho : Off G w w') (hG : ∀ b, F b → ¬ G b) : WrAt w' D l F := by obtain ⟨v, h⟩ := h; exact ⟨v, h.off ho hG⟩
theorem WrAt.below (h : WrAt w D l F) (hb : Below w.heap.size w w') : WrAt w' D l F := h.off (Off.of_below (F := fun _ => False) hb) fun _ _ h => h
theorem WrAt.lt (h : WrAt w D l F) : ∀ k, F k → k < w.heap.size := by obtain ⟨v, h⟩ := h; exact h.lt
theorem WrAt.self (h : WrAt w D l F) : WrTo w w D l F := ⟨F, h, .refl _ _, fun _ hk => .inl hk⟩
theorem WrTo.step (o1 : Off F w w1) (i1 : ∀ k, F1 k → F k ∨ w.heap.size ≤ k) (h : WrTo w1 w2 D l F1) : WrTo w w2 D l F := by
  obtain ⟨F2, h2, o2, i2⟩ := h
  exact ⟨F2, h2, o1.trans o2 i1, fun b hb => (i2 b hb).elim (i1 b) fun hs => .inr (Nat.le_trans o1.size hs)⟩
theorem WrTo.trans (h : WrTo w w1 D l F) (k : ∀ F1, WrAt w1 D l F1 → WrTo w1 w2 D l' F1) : WrTo w w2 D l' F := by
  obtain ⟨F1, h1, o1, i1⟩ := h
  exact WrTo.step o1 i1 (k F1 h1)
theorem WrIn.set (h : WrIn w D v l F) (ho : Off (fun k => v.ownBlock = some k) w w2) (hown : w2.ownsRow 0 5 1 v' l'.length (bl l')) (hat : ∀ k, v'.ownBlock = some k → v.ownBlock = some k ∨ w.heap.size ≤ k) :
    WrTo w (w2.setCell ⟨D, 0, none⟩ v') D l' F := by
  have hD := heap_lt h.blk
  have neD : v'.ownBlock ≠ some D := fun e => (hat D e).elim h.ne fun h => by omega
  have o2 : Off (fun k => k = D) w2 (w2.setCell ⟨D, 0, none⟩ v') := (Off.refl (fun k => k = D) w2).setCell (b := D) (.inl rfl) _
  refine ⟨fun k => F k ∨ v'.ownBlock = some k, ⟨v', ?_, own_off hown o2 fun k hk e => neD (by rw [hk, e]), neD, .inl h.fD, fun k hk => .inr hk, fun k hk => ?_⟩, (ho.mono (G := F) fun k _ hk => h.fv k hk).setCell (b := D) (.inl h.fD) _, fun k hk => ?_⟩
  · have := block_setCell (ho.heap h.blk h.ne) (i := 0) v'
    simpa using this
  · rcases hk with hk | hk
    · exact Nat.lt_of_lt_of_le (h.lt k hk) (Nat.le_trans ho.size o2.size)
    · exact Nat.lt_of_lt_of_le (hown.lt k hk).2 o2.size
  · rcases hk with hk | hk
    · exact .inl hk
    · exact (hat k hk).elim (fun e => .inl (h.fv k e)) .inr
theorem WrIn.mid (h : WrIn w D v l F) (ho : Off (fun k => v.ownBlock = some k) w w2) : w2.cell? ⟨D, 0, none⟩ = some v ∧ w2.frozen? ⟨D, 0, none⟩ = false := by
  have hb := ho.heap h.blk h.ne
  exact ⟨by simp [World.cell?, hb], by simp [World.frozen?, hb]⟩
end
theorem wr_new (w : World) :
    Calls Tryz.prog 58 #[] w fun e w' => ∃ D F, e = .returned (.pointer (some ⟨D, 0, none⟩)) ∧ WrAt w' D [] F ∧ Below w.heap.size w w' ∧ ∀ b, F b → w.heap.size ≤ b := by
  go_enter Tryz.func58, Tryz.ntmps58
  go_wp2
  go_ret
  exact ⟨w.heap.size, fun k => k = w.heap.size, rfl, ⟨.slice none 0 0, heap_alloc_new w _, World.ownsRow_nil _ _ _ _, by simp [Value.ownBlock], rfl, fun k hk => by simp [Value.ownBlock] at hk, fun k hk => by simp; omega⟩, (Below.refl _ w).alloc (Nat.le_refl _) _, fun b hb => by omega⟩
theorem bl_snoc (l : List UInt8) (n : Nat) (hn : n < 256) (x : Int) (hx : x = n) : bl (l ++ [u8 n]) = bl l ++ [.int .u8 x] := by
  subst hx; rw [bl_app]; simp [bl, u8_nat hn]
set_option maxRecDepth 100000 in
set_option maxHeartbeats 1000000 in
theorem wr_number_any (D n : Nat) (hn : n < 18446744073709551616) (l : List UInt8) (F : Nat → Prop) (hl : l.length + 10 ≤ 140737488355328) (w : World) (h : WrAt w D l F) :
    Calls Tryz.prog 111 #[.pointer (some ⟨D, 0, none⟩), .int .u64 n] w fun e w' => e = .returned (.tuple #[]) ∧ WrTo w w' D (l ++ numT n) F := by
  obtain ⟨i0, hi0, hq0, hq1, hq2⟩ := info_parts u8_info
  have HL := Lib.hid (num_len10 hn)
  have H := Lib.hid h
  clear h
  go_enter Tryz.func111, Tryz.ntmps111
  go_wp2_with fail
  go_loopw [1] (fun s1 wr => ∃ (m : Nat) (p : List UInt8), m < 18446744073709551616 ∧ s1 = .int .u64 m ∧ Hid (numT n = p ++ numT m) ∧ Hid (WrTo w wr D (l ++ p) F)) (fun s1 _ => (intOf s1).toNat)
  case atStart => exact ⟨n, [], hn, rfl, rfl, by show WrTo _ _ _ _ _; rw [List.append_nil]; exact H.out.self⟩
  case round =>
    obtain ⟨m, p, hm, rfl, HN, HW⟩ := hrel
    obtain ⟨F1, ⟨v, hIn⟩, o1, i1⟩ := HW.out
    have hp1 : (l ++ p).length + 1 ≤ 140737488355328 := by
      have h1 := HL.out
      rw [HN.out] at h1
      have := List.length_pos_iff.2 (num_ne m)
      simp at h1 ⊢; omega
    have hmx : (l ++ p).length + 1 ≤ maxLen := by unfold maxLen; omega
    have hby : ((l ++ p).length + 1) * 1 ≤ 140737488355328 := by omega
    have hc := hIn.cell
    have HI := Lib.hid hIn
    have O1 := Lib.hid o1
    have I1 := Lib.hid i1
    clear hIn o1 i1
    by_cases hz : m < 128
    · have hzi : (m : Int) < 128 := by omega
      have e4 : IntKind.u8.wrap (m : Int) = m := by rw [IntKind.wrap_u8']; omega
      go_wp2_with (at_builtin; refine wpList_append_lies _ rfl _ _ _ rfl 0 5 i0 (.int .u8 0) 1 1 Tryz.underlying42 hi0 hq0 hq1 hq2 rfl (by decide) v (l ++ p).length _ rfl (HI.out.own.alloc _) ⟨wr.heap.size, 0, none⟩ 1 1 [.int .u8 _] rfl rfl (World.news_of_block (fr := (0, 0)) (heap_alloc_new wr _)) (by simp [Value.oneCell']) (by decide) hmx hby (by simp) (wr.heap.size + 1) (by simp) ?_)
      intro gg cap2 w3 hown hgr hat hlt
      have ho : Off (fun k => v.ownBlock = some k) wr w3 := ((Off.refl _ wr).alloc _).trans' (Off.of_grown hgr fun k hk => hk)
      obtain ⟨c3, f3⟩ := HI.out.mid ho
      have HO := Lib.hid ho
      have HOW : Hid (w3.ownsRow 0 5 1 (.slice (some ⟨gg, 0, none⟩) (l.length + p.length + 1) cap2) (l ++ p ++ [Fr.u8 m]).length (bl (l ++ p ++ [Fr.u8 m]))) := by
        show World.ownsRow _ _ _ _ _ _ _
        rw [bl_snoc _ m (by omega) _ rfl, show (l ++ p ++ [Fr.u8 m]).length = l.length + p.length + 1 by rw [List.length_append, List.length_append]; rfl]; exact hown
      have HAT := Lib.hid hat
      clear ho hown hgr hat
      go_wp2_with fail
      first | go_end0 | refine bodyPost_ret (results_none rfl _ _ _) rfl ?_
      refine ⟨rfl, ?_⟩
      rw [HN.out, num_small hz, ← List.append_assoc]
      exact WrTo.step O1.out I1.out (HI.out.set HO.out HOW.out fun k hk => by
        obtain rfl : gg = k := by simpa [Value.ownBlock] using hk
        exact HAT.out.imp id fun e => by omega)
    · have hzi : ¬ (m : Int) < 128 := by omega
      have hzj : (128 : Int) ≤ m := by omega
      have e1 : IntKind.u64.wrap ((m : Int) / 128) = (m : Int) / 128 := by rw [IntKind.wrap_u64]; omega
      have e2 : (m : Int).tmod 128 = (m : Int) % 128 := Int.tmod_eq_emod_of_nonneg (by omega)
      have e5 : (m : Int).tdiv 128 = (m : Int) / 128 := Int.tdiv_eq_ediv_of_nonneg (by omega)
      have e3 : IntKind.u64.wrap ((m : Int) % 128 + 128) = (m : Int) % 128 + 128 := by rw [IntKind.wrap_u64]; omega
      have e4 : IntKind.u8.wrap ((m : Int) % 128 + 128) = (m : Int) % 128 + 128 := by rw [IntKind.wrap_u8']; omega
      go_wp2_with (at_builtin; refine wpList_append_lies _ rfl _ _ _ rfl 0 5 i0 (.int .u8 0) 1 1 Tryz.underlying42 hi0 hq0 hq1 hq2 rfl (by decide) v (l ++ p).length _ rfl (HI.out.own.alloc _) ⟨wr.heap.size, 0, none⟩ 1 1 [.int .u8 _] rfl rfl (World.news_of_block (fr := (0, 0)) (heap_alloc_new wr _)) (by simp [Value.oneCell']) (by decide) hmx hby (by simp) (wr.heap.size + 1) (by simp) ?_)
      intro gg cap2 w3 hown hgr hat hlt
      have ho : Off (fun k => v.ownBlock = some k) wr w3 := ((Off.refl _ wr).alloc _).trans' (Off.of_grown hgr fun k hk => hk)
      obtain ⟨c3, f3⟩ := HI.out.mid ho
      have HO := Lib.hid ho
      have HOW : Hid (w3.ownsRow 0 5 1 (.slice (some ⟨gg, 0, none⟩) (l.length + p.length + 1) cap2) (l ++ p ++ [Fr.u8 (128 + m % 128)]).length (bl (l ++ p ++ [Fr.u8 (128 + m % 128)]))) := by
        show World.ownsRow _ _ _ _ _ _ _
        rw [bl_snoc _ (128 + m % 128) (by omega) ((m : Int) % 128 + 128) (by omega), show (l ++ p ++ [Fr.u8 (128 + m % 128)]).length = l.length + p.length + 1 by rw [List.length_append, List.length_append]; rfl]; exact hown
      have HAT := Lib.hid hat
      clear ho hown hgr hat
      go_wp2_with fail
      go_roundw
      case rel =>
        refine ⟨m / 128, p ++ [Fr.u8 (128 + m % 128)], by omega, by go_num, ?_, ?_⟩
        · show _ = _; rw [HN.out, num_great hz, List.append_assoc]; rfl
        · show WrTo _ _ _ _ _
          rw [← List.append_assoc]
          exact WrTo.step O1.out I1.out (HI.out.set HO.out HOW.out fun k hk => by
            obtain rfl : gg = k := by simpa [Value.ownBlock] using hk
            exact HAT.out.imp id fun e => by omega)
      case measure => simp [intOf]; omega
end Go.Proofs.YtdhinjbkfffpeaaGreat
end
section
namespace Go.Proofs.YtdhinjbkfffpeaaGreat
open Go.ChangeShapes Go.WideShapes Go.ChangeAt Go.RowKit Go.Joins Fr Pk
theorem wr_signed_any (D : Nat) (n : Int) (h1 : -9223372036854775808 ≤ n) (h2 : n ≤ 9223372036854775807) (l : List UInt8) (F : Nat → Prop) (hl : l.length + 10 ≤ 140737488355328) (w : World) (h : WrAt w D l F) :
    Calls Tryz.prog 129 #[.pointer (some ⟨D, 0, none⟩), .int .i64 n] w fun e w' => e = .returned (.tuple #[]) ∧ WrTo w w' D (l ++ numT (zig n)) F := by
  have hz : zig n < 18446744073709551616 := by unfold zig; split <;> omega
  have HN := Lib.hid (wr_number_any D (zig n) hz l F hl w h)
  generalize hr : numT (zig n) = r at *
  clear hr hz h
  by_cases h0 : 0 ≤ n
  · rw [show ((zig n : Nat) : Int) = 2 * n by unfold zig; rw [if_pos h0]; omega] at HN
    have hw1 : IntKind.u64.wrap n = n := by rw [IntKind.wrap_u64]; omega
    have hw2 : IntKind.u64.wrap (2 * n) = 2 * n := by rw [IntKind.wrap_u64]; omega
    clear h1 h2
    go_enter Tryz.func129, Tryz.ntmps129
    go_wp2_with fail
    go_at_call 111
    refine HN.out.mono ?_
    rintro e w' ⟨rfl, hb⟩
    go_wp2_with fail
    first | go_end0 | refine bodyPost_ret (results_none rfl _ _ _) rfl ?_
    exact ⟨rfl, hb⟩
  · rw [show ((zig n : Nat) : Int) = 2 * (-(n + 1)) + 1 by unfold zig; rw [if_neg h0]; omega] at HN
    have hw0 : IntKind.i64.wrap (n + 1) = n + 1 := by rw [IntKind.wrap_i64]; omega
    have hw3 : IntKind.i64.wrap (-(n + 1)) = -(n + 1) := by rw [IntKind.wrap_i64]; omega
    have hw1 : IntKind.u64.wrap (-(n + 1)) = -(n + 1) := by rw [IntKind.wrap_u64]; omega
    have hw2 : IntKind.u64.wrap (2 * (-(n + 1))) = 2 * (-(n + 1)) := by rw [IntKind.wrap_u64]; omega
    have hw4 : IntKind.u64.wrap (2 * (-(n + 1)) + 1) = 2 * (-(n + 1)) + 1 := by rw [IntKind.wrap_u64]; omega
    clear h1 h2
    go_enter Tryz.func129, Tryz.ntmps129
    go_wp2_with fail
    go_at_call 111
    refine HN.out.mono ?_
    rintro e w' ⟨rfl, hb⟩
    go_wp2_with fail
    first | go_end0 | refine bodyPost_ret (results_none rfl _ _ _) rfl ?_
    exact ⟨rfl, hb⟩
theorem wr_flag_any (D : Nat) (b : Bool) (l : List UInt8) (F : Nat → Prop) (hl : l.length + 10 ≤ 140737488355328) (w : World) (h : WrAt w D l F) :
    Calls Tryz.prog 120 #[.pointer (some ⟨D, 0, none⟩), .bool b] w fun e w' => e = .returned (.tuple #[]) ∧ WrTo w w' D (l ++ flagT b) F := by
  rw [flag_num]
  have HN := Lib.hid (wr_number_any D (if b then 1 else 0) (by split <;> omega) l F hl w h)
  clear h
  cases b
  all_goals
    simp only [Bool.false_eq_true, if_true, if_false] at HN ⊢
    go_enter Tryz.func120, Tryz.ntmps120
    go_wp2_with fail
    go_at_call 111
    refine HN.out.mono ?_
    rintro e w' ⟨rfl, hb⟩
    go_wp2_with fail
    first | go_end0 | refine bodyPost_ret (results_none rfl _ _ _) rfl ?_
    exact ⟨rfl, hb⟩
theorem wr_bytes_any (D : Nat) (l : List UInt8) (F : Nat → Prop) (hl : l.length ≤ 140737488355328) (w : World) (h : WrAt w D l F) :
    Calls Tryz.prog 59 #[.pointer (some ⟨D, 0, none⟩)] w (RetB l w) := by
  obtain ⟨v, h⟩ := h
  have hc := h.cell
  obtain ⟨A, c, rfl, h1, h2, h3, h4, _⟩ := BAt.of_own h.own
  have HC := Lib.hid (clone_any A c l h1 h2 h4 hl w h3)
  clear h h1 h2 h3 h4
  go_enter Tryz.func59, Tryz.ntmps59
  go_wp2_with fail
  go_at_call 109
  refine HC.out.mono ?_
  rintro e w' ⟨v, rfl, hown, hb⟩
  have HO := Lib.hid hown
  have HB := Lib.hid hb
  clear hown hb
  go_wp2_with fail
  go_ret
  exact ⟨v, rfl, HO.out, HB.out⟩
end Go.Proofs.YtdhinjbkfffpeaaGreat
end
