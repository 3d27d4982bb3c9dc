import Derived.Test.YtnccgfdaddbndaaZNW5
/- Contracts of the program's times: copies of rows; a rule's course. -/
section
namespace Go.Proofs.Ytnccgfdaddbndaa
open Go.ChangeShapes Go.WideShapes Go.ChangeAt Go.RowKit Go.Joins Qr Tm Cal

theorem dayn_info10 : (Try.prog.info? 58).map (fun i => (i.zero, i.size, i.bytes)) = some (some (.agg #[.int .i64 0, .int .i64 0]), 2, 16) := by kernel_rfl
/-- A slice whose cells lie at or above a block. -/
structure Sb (w : World) (B : Nat) (A : Option Addr) (n c : Nat) (xs : List Value) : Prop where
  sl : Sl w A n c xs
  up : ∀ a, A = some a → B ≤ a.block
theorem Sb.same {w w' : World} {B : Nat} {A : Option Addr} {n c : Nat} {xs : List Value} (h : Sb w B A n c xs) (hs : ∀ k, B ≤ k → k < w.heap.size → w'.heap[k]? = w.heap[k]?) (hz : w.heap.size ≤ w'.heap.size) : Sb w' B A n c xs := by
  refine ⟨⟨h.sl.le, h.sl.cap, h.sl.nil, fun hn => ?_⟩, h.up⟩
  obtain ⟨b, off, e, hlt, hc⟩ := h.sl.on hn
  refine ⟨b, off, e, by omega, fun i v hi => ?_⟩
  have := h.up _ e
  have h2 := hc i v hi
  unfold World.cell? at h2 ⊢
  simp only at h2 ⊢
  rw [hs b this hlt]; exact h2
theorem Sb.below {w w' : World} {B : Nat} {A : Option Addr} {n c : Nat} {xs : List Value} (h : Sb w B A n c xs) (hb : Below w.heap.size w w') : Sb w' B A n c xs := h.same (fun k _ hk => hb.block k hk) hb.size
theorem Sb.set {w : World} {B b i : Nat} {A : Option Addr} {n c : Nat} {xs : List Value} (h : Sb w B A n c xs) (hb : b < B) (v : Value) : Sb (w.setCell ⟨b, i, none⟩ v) B A n c xs :=
  h.same (fun k hk _ => Below.heap_setCell _ _ _ _ (by intro e; subst e; exact absurd hb (by simpa using hk))) (by simp [World.setCell])
theorem Sb.alloc {w : World} {B : Nat} {A : Option Addr} {n c : Nat} {xs : List Value} (h : Sb w B A n c xs) (o : Obj) : Sb (w.alloc o) B A n c xs := h.below ((Below.refl _ w).alloc (Nat.le_refl _) o)
theorem Sb.of_own {w : World} {B base size : Nat} {e : TypeId} {v : Value} {n : Nat} {xs : List Value} (h : w.ownsRow base e size v n xs) (hB : B ≤ base) : ∃ A c, v = .slice A n c ∧ Sb w B A n c xs := by
  obtain ⟨A, c, rfl, hs⟩ := Sl.of_own h
  refine ⟨A, c, rfl, hs, fun a ha => ?_⟩
  rcases h.2 with ⟨h0, _⟩ | ⟨g, cap, cur, hv, hb, _⟩
  · cases h0; cases ha
  · simp only [Value.slice.injEq] at hv; rw [hv.1] at ha; cases ha; show B ≤ g; omega
theorem Sb.new (w : World) (B : Nat) (hB : B ≤ w.heap.size) (xs : List Value) (n : Nat) (t : TypeId) (hn : n ≤ maxLen) : Sb (w.alloc (.cells xs.toArray t (0, 0))) B (some ⟨w.heap.size, 0, none⟩) n n xs :=
  ⟨Sl.new w xs n t (0, 0) hn, fun a h => by cases h; exact hB⟩

theorem pcloneI_any (l : List Int) (A : Option Addr) (c : Nat) (hl : l.length ≤ 10000) (w : World) (hs : Sl w A l.length c (iv l)) :
    Calls Try.prog 44 #[.slice A l.length c] w fun e w' => (∃ A' c', e = .returned (.slice A' l.length c') ∧ Sb w' w.heap.size A' l.length c' (iv l)) ∧ Below w.heap.size w w' := by
  cases A with
  | none =>
    have h0 : l = [] := List.eq_nil_of_length_eq_zero (by have := hs.nil rfl; have := hs.le; omega)
    subst h0
    refine (Try.slices_Clone_int_nil 0 c w).mono ?_
    rintro e w' ⟨rfl, rfl⟩
    exact ⟨⟨none, 0, rfl, Sl.none_ _, fun a h => by cases h⟩, Below.refl _ _⟩
  | some a =>
    by_cases h0 : l.length = 0
    · obtain rfl := List.eq_nil_of_length_eq_zero h0
      refine (Try.slices_Clone_int_zero a c w).mono ?_
      rintro e w' ⟨v, rfl, hown, _, hb⟩
      obtain ⟨A', c', rfl, hs'⟩ := Sb.of_own hown (Nat.le_refl _)
      exact ⟨⟨A', c', rfl, hs'⟩, hb⟩
    · obtain ⟨b, off, e, _⟩ := sl_some hs (by omega)
      cases e
      refine (Try.slices_Clone_int b off l.length c l w (Nat.le_refl _) (by omega) (sl_all hs (by omega))).mono ?_
      rintro e w' ⟨v, rfl, hown, _, hb⟩
      rw [List.take_length] at hown
      obtain ⟨A', c', rfl, hs'⟩ := Sb.of_own hown (Nat.le_refl _)
      exact ⟨⟨A', c', rfl, hs'⟩, hb⟩
set_option maxHeartbeats 1000000 in
theorem pcloneD_any (l : List (Int × Int)) (A : Option Addr) (c : Nat) (hl : l.length ≤ 10000) (w : World) (hs : Sl w A l.length c (sv l)) :
    Calls Try.prog 45 #[.slice A l.length c] w fun e w' => (∃ A' c', e = .returned (.slice A' l.length c') ∧ Sb w' w.heap.size A' l.length c' (sv l)) ∧ Below w.heap.size w w' := by
  have hnil : ∀ (w' : World) (A' : Option Addr) (n' c' : Nat), (binOp .eql 23 (.slice A' n' c') (.slice none 0 0)).run Try.prog w' = .ok (.bool A'.isNone) w' := fun w' A' n' c' => Lib.run_eql_slice_nil w' 23 58 A' n' c' 0 0 Try.underlying23
  cases A with
  | none =>
    have h0 : l = [] := List.eq_nil_of_length_eq_zero (by have := hs.nil rfl; have := hs.le; omega)
    subst h0
    go_enter Try.func45, Try.ntmps45
    go_wp2
    go_ret
    exact ⟨⟨none, 0, rfl, Sl.none_ _, fun a h => by cases h⟩, Below.refl _ _⟩
  | some a =>
    have H := Lib.hid hs
    clear hs
    obtain ⟨i0, hi0, hq0, hq1, hq2⟩ := info_parts dayn_info10
    have h1 := Lib.hid (sv_one (l := l))
    have hmx : 0 + l.length ≤ maxLen := by unfold maxLen; omega
    go_enter Try.func45, Try.ntmps45
    go_wp2_with (refine wpList_append_sl rfl _ _ _ (by rfl) w.heap.size 58 i0 _ 2 16 Try.underlying23 hi0 hq0 hq1 hq2 rfl (by decide) (.slice (some ⟨w.heap.size, 0, none⟩) 0 0) 0 [] (by rfl) (World.ownsRow_made (base := w.heap.size) w #[] 0 (Nat.le_refl _) (by decide) rfl) (some a) l.length c (sv l) (by rfl) (H.out.alloc _) (sv_len l) h1.out hmx (by omega) (by simp) ?_; intro v' w' hown hgr)
    rw [Nat.zero_add] at hown
    obtain ⟨A', c', rfl, hs'⟩ := Sb.of_own hown (Nat.le_refl _)
    go_ret
    refine ⟨⟨A', c', rfl, by simpa using hs'⟩, ?_⟩
    exact ⟨hgr.os, hgr.tape, hgr.output, by have := hgr.size; simp at this; omega, fun k hk => by rw [hgr.block k (by simp; omega) (by simp [Value.ownBlock]; omega)]; exact Below.heap_alloc _ _ _ hk⟩
end Go.Proofs.Ytnccgfdaddbndaa
end
