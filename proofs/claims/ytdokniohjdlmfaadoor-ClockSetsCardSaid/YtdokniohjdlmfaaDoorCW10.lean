/- The program's days of a set: an iterator's contract. -/
import Derived.RangeFuncNested
import Derived.RangeFuncBound
import Derived.RangeFuncCalls
import Derived.RangeFuncLeaves
import Derived.Shelf.Abstract
import Derived.Shelf.RegionOpen
import Derived.WalkKit
import Derived.OwnWalkIn
import Derived.TacticsInMore
import Derived.LoopNIn
import Derived.LoopIn
import Derived.Test.YtdokniohjdlmfaaDoorCW6
import Derived.Test.YtdokniohjdlmfaaDoorCMath3
namespace Go.Proofs.YtdokniohjdlmfaaDoor
open Go.RowKit Go.Shelf Ck

attribute [local go_sem] Oper.semAt_some

/-- The days of a set, below the k-th. -/
def dl (set : Int) : Nat → List (Fin 7)
  | 0 => []
  | k + 1 => if set / 2 ^ k % 2 = 1 then dl set k ++ [Fin.ofNat 7 k] else dl set k
theorem dl_len (set : Int) (k : Nat) : (dl set k).length ≤ k := by
  induction k with
  | zero => exact Nat.le_refl _
  | succ k ih =>
    unfold dl
    split
    · rw [List.length_append]; simp; omega
    · omega
theorem dl_yes {set : Int} {k : Nat} (h : set / 2 ^ k % 2 = 1) : dl set (k + 1) = dl set k ++ [Fin.ofNat 7 k] := by rw [dl, if_pos h]
theorem dl_no {set : Int} {k : Nat} (h : ¬ set / 2 ^ k % 2 = 1) : dl set (k + 1) = dl set k := by rw [dl, if_neg h]
theorem dl_pre (set : Int) {k m : Nat} (h : k ≤ m) : dl set k <+: dl set m := by
  induction m with
  | zero => obtain rfl : k = 0 := by omega
            exact List.prefix_refl _
  | succ m ih =>
    by_cases e : k = m + 1
    · subst e; exact List.prefix_refl _
    · refine (ih (by omega)).trans ?_
      rw [show dl set (m + 1) = if set / 2 ^ m % 2 = 1 then dl set m ++ [Fin.ofNat 7 m] else dl set m from rfl]
      split
      · exact List.prefix_append _ _
      · exact List.prefix_refl _
/-- The text of some days. -/
def wtS (t : List UInt8) (x : Fin 7) : List UInt8 := if t = [] then nm x.val else t ++ [44] ++ nm x.val
def wt (l : List (Fin 7)) : List UInt8 := l.foldl wtS []
theorem wt_snoc (l : List (Fin 7)) (x : Fin 7) : wt (l ++ [x]) = wtS (wt l) x := by unfold wt; rw [List.foldl_append]; rfl
theorem wt_dl (set : Int) (k : Nat) (h : k ≤ 7) : wt (dl set k) = wdI set k := by
  induction k with
  | zero => rfl
  | succ k ih =>
    have hv : (Fin.ofNat 7 k).val = k := Nat.mod_eq_of_lt (by omega)
    rw [wdI]
    by_cases hb : set / 2 ^ k % 2 = 1
    · rw [dl_yes hb, wt_snoc, ih (by omega), if_pos hb]; unfold wtS; rw [hv]
    · rw [dl_no hb, ih (by omega), if_neg hb]
theorem wtF_len (l : List (Fin 7)) : ∀ t : List UInt8, (l.foldl wtS t).length ≤ t.length + 3 * l.length := by
  induction l with
  | nil => intro t; simp
  | cons x l ih =>
    intro t
    have h := ih (wtS t x)
    have h2 : (wtS t x).length ≤ t.length + 3 := by
      have h3 := nm_len x.val
      unfold wtS
      split
      · omega
      · simp only [List.length_append, List.length_cons, List.length_nil]; omega
    simp only [List.foldl_cons, List.length_cons]
    omega
theorem wt_len (l : List (Fin 7)) : (wt l).length ≤ 3 * l.length := by have := wtF_len l []; simpa [wt] using this

theorem wraps_i64 (n : Int) (h₀ : 0 ≤ n) (h₁ : n < 2 ^ 62) : IntKind.i64.wrap n = n := by rw [IntKind.wrap_i64]; omega
theorem and_one (x : Int) (h0 : 0 ≤ x) (h1 : x < 2 ^ 62) : bits .and .i64 x 1 = x % 2 := by
  have := bits_mask .i64 62 (by decide) wraps_i64 1 (by decide) x h0 h1
  simpa using this

/-- The iterator's own box is kept. -/
def KpC (Bs : Nat) (W W' : World) : Prop := W'.cell? ⟨Bs, 0, none⟩ = W.cell? ⟨Bs, 0, none⟩
theorem kpC_t {Bs : Nat} {A B C : World} (h1 : KpC Bs A B) (h2 : KpC Bs B C) : KpC Bs A C := Eq.trans h2 h1
theorem kpC_b {Bs : Nat} {w : World} (hb : Bs < w.heap.size) (W : World) (l : Nat) (o o' : Obj) (hl : w.heap.size ≤ l) (_ : W.heap[l]? = some o) (_ : o.isCells = false) (_ : o.isWalk = false) : KpC Bs W (W.putObj l o') := by
  unfold KpC World.cell?
  have : (W.putObj l o').heap[Bs]? = W.heap[Bs]? := by
    show (W.heap.setIfInBounds l o')[Bs]? = _
    rw [Array.getElem?_setIfInBounds_ne (by omega)]
  simp only [this]

set_option maxRecDepth 100000 in
set_option maxHeartbeats 2000000 in
theorem days1_in (F : Fence) (n : Nat) (h50 : F.fn 50) (hro : F.round = none) (hn : 1 ≤ n) (l Bs : Nat) (set : Int) (h0 : 0 ≤ set) (h1 : set < 128) (J Jx : List (Fin 7) → World → Prop)
    (hY : ∀ pre x W, J pre W → pre.length < 7 → YieldAt F (n - 1) Tryd.prog l #[.int .i64 (x.val : Int)] W fun e W' =>
      (e = .returned (.bool true) ∧ J (pre ++ [x]) W' ∧ KpC Bs W W') ∨ (e = .returned (.bool false) ∧ Jx (pre ++ [x]) W'))
    (W : World) (hBs : W.cell? ⟨Bs, 0, none⟩ = some (.int .i64 set)) (hJ0 : J [] W) :
    CallsIn F n Tryd.prog 50 #[.func (.yield l) #[] #[], .pointer (some ⟨Bs, 0, none⟩)] W fun e W' => (∃ v, e = .returned v) ∧
      ((∃ ys, ys = dl set 7 ∧ J ys W') ∨ (∃ pre, (∃ k, k ≤ 7 ∧ pre = dl set k) ∧ Jx pre W')) := by
  refine callsIn_of_wp Tryd.func50 rfl h50 ?_ hro
  simp only [Tryd.ntmps50, List.size_toArray, List.length_cons, List.length_nil, Nat.reduceAdd, Nat.reduceSub, Array.replicate_succ, Array.replicate_zero, List.push_toArray, List.append_toArray, List.nil_append, List.cons_append]
  gi_wp2
  gi_loopw [4] (fun i wr => ∃ k : Nat, k ≤ 7 ∧ i = .int .i64 k ∧ J (dl set k) wr ∧ wr.cell? ⟨Bs, 0, none⟩ = some (.int .i64 set))
    (fun i _ => 7 - (intOf i).toNat)
  case atStart => exact ⟨0, Nat.zero_le _, rfl, hJ0, hBs⟩
  case round =>
    obtain ⟨k, hk, rfl, hJs, hcx⟩ := hrel
    by_cases hlt : k < 7
    · have hkz : (k : Int) < 7 := by omega
      have hq0 := div2_nn h0 k
      have hq1 := div2_le h0 k
      by_cases hbit : set / 2 ^ k % 2 = 1
      · obtain ⟨fn, tmps, assign, body, hy, hR⟩ := hY _ (Fin.ofNat 7 k) wr hJs (by have := dl_len set k; omega)
        have hv : (Fin.ofNat 7 k).val = k := Nat.mod_eq_of_lt hlt
        rw [hv] at hy
        have hand : bits .and .i64 (set / 2 ^ k) 1 = 1 := by rw [and_one _ hq0 (by omega), hbit]
        have hdl := dl_yes hbit
        clear hbit
        gi_wp2
        refine hR.mono ?_
        rintro e W3 (⟨rfl, hJ3, hk3⟩ | ⟨rfl, hJx3⟩)
        · gi_wp2
          go_roundw
          case rel => exact ⟨k + 1, by omega, by simp, by rw [hdl]; exact hJ3, Eq.trans hk3 hcx⟩
          case measure => simp [intOf]; omega
        · gi_wp2
          refine bodyPost_ret (results_none rfl _ _ _) rfl ?_
          exact ⟨⟨_, rfl⟩, .inr ⟨_, ⟨k + 1, by omega, hdl.symm⟩, hJx3⟩⟩
      · have hand : bits .and .i64 (set / 2 ^ k) 1 = 0 := by rw [and_one _ hq0 (by omega)]; omega
        have hdl := dl_no hbit
        clear hbit
        gi_wp2
        refine ⟨fun _ h => (by cases h), ?_⟩
        gi_wp2
        go_roundw
        case rel => exact ⟨k + 1, by omega, by simp, by rw [hdl]; exact hJs, hcx⟩
        case measure => simp [intOf]; omega
    · obtain rfl : k = 7 := by omega
      gi_wp2
      go_end0
      exact ⟨⟨_, rfl⟩, .inl ⟨_, rfl, hJs⟩⟩

theorem days_in (F : Fence) (n : Nat) (h35 : F.fn 35) (hro : F.round = none) (set : Int) (w : World) :
    CallsIn F n Tryd.prog 35 #[.int .i64 set] w fun e w' => e = .returned (.func (.func 50) #[] #[.pointer (some ⟨w.heap.size, 0, none⟩)]) ∧ w' = w.alloc (.cells #[.int .i64 set] 3) := by
  refine callsIn_of_wp Tryd.func35 rfl h35 ?_ hro
  simp only [Tryd.ntmps35, List.size_toArray, List.length_cons, List.length_nil, Nat.reduceAdd, Nat.reduceSub, Array.replicate_succ, Array.replicate_zero, List.push_toArray, List.append_toArray, List.nil_append, List.cons_append]
  gi_wp2
  go_ret
  exact ⟨rfl, rfl⟩
theorem days_stops (F : Fence) (n : Nat) (h50 : F.fn 50) (hro : F.round = none) (hn : 1 ≤ n) (Bs : Nat) (set : Int) (h0 : 0 ≤ set) (h1 : set < 128) (w : World) (hBs : Bs < w.heap.size)
    (hc : w.cell? ⟨Bs, 0, none⟩ = some (.int .i64 set)) :
    SeqStopsK F n Tryd.prog 50 #[.pointer (some ⟨Bs, 0, none⟩)] (fun x : Fin 7 => #[Value.int .i64 (x.val : Int)]) (KpC Bs) (fun ys => ys = dl set 7) (fun pre => pre <+: dl set 7) 7 w := fun l J Jx W hW _ _ hY hJ0 => by
  have hc' := (hW.cell (p := ⟨Bs, 0, none⟩) hBs).trans hc
  refine (days1_in F n h50 hro hn l Bs set h0 h1 J Jx hY W hc' hJ0).mono ?_
  rintro e W' ⟨he, ⟨ys, rfl, hj⟩ | ⟨pre, ⟨k, hk, rfl⟩, hj⟩⟩
  · exact ⟨he, .inl ⟨_, rfl, hj⟩⟩
  · exact ⟨he, .inr ⟨_, dl_pre set hk, hj⟩⟩
end Go.Proofs.YtdokniohjdlmfaaDoor
