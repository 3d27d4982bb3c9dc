/- Contracts of the library's copy of bytes; rows of bytes that are handed back. -/
import Derived.Test.YtldfemohnommoaaRows
import Derived.Test.YtldfemohnommoaaOff
import Derived.Deep.RegionHeld3
import Derived.Deep.AppendLies
import Derived.Lib.SliceRun
import Derived.Lib.SmallJoins
import Derived.WalkKit
import Derived.Laws.MakeOwn
namespace Go.Proofs.Ytldfemohnommoaa
open Go.ChangeShapes Go.WideShapes Go.ChangeAt Go.RowKit Go.Joins

theorem u8_info : (Try.prog.info? 5).map (fun i => (i.zero, i.size, i.bytes)) = some (some (.int .u8 0), 1, 1) := by kernel_rfl
theorem Sl.of_bytes {w : World} {A : Option Addr} {l : List UInt8} (h : BAt w A l) {c : Nat} (hl : l.length ≤ c) (hc : c ≤ maxLen) (hn : A = none → c = 0) : Sl w A l.length c (bl l) := by
  refine ⟨hl, hc, hn, fun h0 => ?_⟩
  obtain ⟨b, off, rfl, hb, hcl⟩ := h (by rwa [bl_len] at h0)
  refine ⟨b, off, rfl, hb, fun i v hi => ?_⟩
  obtain ⟨c, hc⟩ : ∃ c, l[i]? = some c := by
    have := (List.getElem?_eq_some_iff.1 hi).1
    exact ⟨_, List.getElem?_eq_getElem (by rwa [bl_len] at this)⟩
  rw [bl_at hc] at hi
  rw [← Option.some.inj hi]
  exact hcl i c hc

/-- A row of bytes of the call's own is handed back. -/
def RetB (l : List UInt8) (w : World) (e : Ending) (w' : World) : Prop := ∃ v, e = .returned v ∧ w'.ownsRow w.heap.size 5 1 v l.length (bl l) ∧ Below w.heap.size w w'

theorem clone_any (A : Option Addr) (c : Nat) (l : List UInt8) (hl : l.length ≤ c) (hc : c ≤ maxLen) (hn : A = none → c = 0) (hb : l.length ≤ 140737488355328) (w : World) (h : BAt w A l) :
    Calls Try.prog 26 #[.slice A l.length c] w (RetB l w) := by
  have hnil : ∀ (w' : World) (A' : Option Addr) (n' c' : Nat), (binOp .eql 37 (.slice A' n' c') (.slice none 0 0)).run Try.prog w' = .ok (.bool A'.isNone) w' := fun w' A' n' c' => Lib.run_eql_slice_nil w' 37 5 A' n' c' 0 0 Try.underlying37
  cases A with
  | none =>
    obtain rfl : c = 0 := hn rfl
    obtain rfl : l = [] := List.eq_nil_of_length_eq_zero (by omega)
    go_enter Try.func26, Try.ntmps26
    go_wp2
    go_ret
    exact ⟨_, rfl, World.ownsRow_nil _ _ _ _, Below.refl _ _⟩
  | some a =>
    have hS := Sl.of_bytes h hl hc hn
    have H := Lib.hid hS
    clear hS h
    obtain ⟨i0, hi0, hq0, hq1, hq2⟩ := info_parts u8_info
    have h1 := Lib.hid (bl_one l)
    have hmx : 0 + l.length ≤ maxLen := by omega
    go_enter Try.func26, Try.ntmps26
    go_wp2_with (refine wpList_append_sl rfl _ _ _ (by rfl) w.heap.size 5 i0 _ 1 1 Try.underlying37 hi0 hq0 hq1 hq2 rfl (by decide) (.slice (some ⟨w.heap.size, 0, none⟩) 0 0) 0 [] (by rfl) (World.ownsRow_made (base := w.heap.size) w #[] 0 (Nat.le_refl _) (by decide) rfl) (some a) l.length c (bl l) (by rfl) (H.out.alloc _) (by rw [bl_len]; omega) h1.out hmx (by omega) (by simp) ?_; intro v' w' hown hgr)
    go_ret
    refine ⟨_, rfl, by simpa using hown, ?_⟩
    exact ⟨hgr.os, hgr.tape, hgr.output, by have := hgr.size; simp at this; omega, fun k hk => by rw [hgr.block k (by simp; omega) (by simp [Value.ownBlock]; omega)]; exact Below.heap_alloc _ _ _ hk⟩

/-- A part of a row of the call's own, from a place on. -/
theorem own_cut {P : Program} {w : World} {base : Nat} {e t : TypeId} {v : Value} {n : Nat} {xs : List Value} (h : w.ownsRow base e 1 v n xs) {k : Nat} (hk : k ≤ n) (ht : P.underlying t = some (.slice (P.elem t))) (hs : ∀ w' : World, (sizeOf (P.elem t)).run P w' = .ok 1 w') :
    ∃ dp dc, (∀ w' : World, (Instr.sliceAt t v (some (.int .i64 k)) none none).run P w' = .ok (.slice dp (n - k) dc) w') ∧ (0 < n - k → ∃ g, v.ownBlock = some g ∧ dp = some ⟨g, k, none⟩) := by
  rcases h.2 with ⟨rfl, rfl⟩ | ⟨g, cap, cur, rfl, hb, hg, hn, hm, hsz, htk⟩
  · obtain rfl : k = 0 := by omega
    refine ⟨none, 0, fun w' => ?_, fun h => absurd h (by simp)⟩
    rw [run_sliceAt_slice w' t _ _ _ _ ht, run_slice_l w' t none 0 0 ht .i64 ((0 : Nat) : Int) (by omega) (by omega), hs]
    simp [Result.andThen, sliced]
  · refine ⟨if cap = k then some ⟨g, 0, none⟩ else (some ⟨g, 0, none⟩ : Option Addr).map (·.add (k * 1)), cap - k, fun w' => ?_, fun h0 => ⟨g, rfl, ?_⟩⟩
    · rw [run_sliceAt_slice w' t _ _ _ _ ht, run_slice_l w' t _ n cap ht .i64 k (by omega) (by omega), hs]
      simp [Result.andThen, sliced]
    · rw [if_neg (by omega)]
      simp only [Option.map_some, Nat.mul_one, Addr.add]
      by_cases h1 : k = 0 <;> simp [h1]

/-- New bytes: what a copy hands back. -/
structure Fresh (w w' : World) (A : Option Addr) (n c : Nat) (l : List UInt8) : Prop where
  len : l.length = n
  le : n ≤ c
  cap : c ≤ maxLen
  nil : A = none → c = 0
  at_ : BIn (fun k => w.heap.size ≤ k) w' A l
  below : Below w.heap.size w w'
theorem RetB.fresh {l : List UInt8} {w w' : World} {e : Ending} (h : RetB l w e w') : ∃ A c, e = .returned (.slice A l.length c) ∧ Fresh w w' A l.length c l := by
  obtain ⟨v, rfl, hown, hb⟩ := h
  obtain ⟨A, c, rfl, h1, h2, h3, h4, _⟩ := BAt.of_own hown
  exact ⟨A, c, rfl, rfl, h1, h2, h4, ⟨h3, fun _ a ha => by subst ha; exact (hown.lt a.block rfl).1⟩, hb⟩

theorem madeBytes (n : Nat) : madeCells #[Value.int .u8 0] n = (bl (List.replicate n 0)).toArray := by
  apply Array.ext
  · simp [madeCells, bl_len]
  · intro i h1 h2
    simp [madeCells, bl, Nat.mod_one]
end Go.Proofs.Ytldfemohnommoaa
