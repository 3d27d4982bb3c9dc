/- A log on a disk that doesn't fall: what is appended is there when it is opened anew. -/
import Derived.Test.YtabknmlnlhflmaaDoorVMath
import Derived.Test.YtabknmlnlhflmaaDoorFW5
namespace Go.Proofs.YtabknmlnlhflmaaDoor.Vl
open Dm Fr

structure Quiet (m : Dk) : Prop where
  waits : m.waits = []
  on : m.on = true
  fuse : m.fuse < 0
theorem over_nil (s : List UInt8) (p : Nat) : over s (p, []) = s := by simp [over]
theorem layM_quiet {m : Dk} (h : Quiet m) {p : Nat} {b : List UInt8} (hf : p + b.length ≤ m.laid.length) : layM m p b = (0, { m with laid := over m.laid (p, b) }) := by
  obtain ⟨laid, waits, on, falls, fuse, keep⟩ := m
  obtain ⟨h1, h2, h3⟩ := h
  simp only at h1 h2 h3 hf
  subst h1 h2
  have hw : (Dk.mk laid [] true falls fuse keep).write p b = (0, ⟨laid, if b = [] then [] else [(p, b)], true, falls, fuse, keep⟩) := by
    unfold Dk.write
    rw [if_neg (by simp), if_neg (by simp [Dk.hasB]; omega)]
    have h0 : ¬ fuse = 0 := by omega
    have h1 : ¬ 0 < fuse := by omega
    unfold Dk.told
    by_cases hb : b = []
    · subst hb
      simp [Dk.burn, h0, h1]
    · simp [Dk.burn, h0, h1, hb]
  unfold layM
  rw [hw]
  simp only [if_true, Dk.sync, Dk.seen]
  by_cases hb : b = []
  · subst hb; simp [Dm.seen, over_nil]
  · simp [Dm.seen, hb]
theorem Quiet.laid {m : Dk} (h : Quiet m) (s : List UInt8) : Quiet { m with laid := s } := ⟨h.waits, h.on, h.fuse⟩
theorem Quiet.seen {m : Dk} (h : Quiet m) : m.seen = m.laid := by unfold Dk.seen; rw [h.waits]; rfl

/-- A log and its disk, both as they should be. -/
structure Good (lg : Lg) (m : Dk) : Prop where
  quiet : Quiet m
  falls : m.falls = lg.falls
  half : lg.half = m.laid.length / 2
  size : m.laid.length ≤ 4194304
  gen : lg.gen ≠ 0
  ok : lg.Ok
theorem start_le {half gen e n k : Nat} (h : half = n / 2) (hk : e + k ≤ half) : gen % 2 * half + e + k ≤ n := by
  rcases Nat.mod_two_eq_zero_or_one gen with h2 | h2 <;> rw [h2] <;> omega

theorem beginM_good {lg : Lg} {m : Dk} (hq : Quiet m) (hh : lg.half = m.laid.length / 2) (gen : Nat) {s : List UInt8} (hg : gen ≠ 0) (hfit : 16 + s.length ≤ lg.half) (hs : s.length ≤ 1048576) :
    beginM lg m gen s = (0, { lg with gen := gen, snap := s, recs := [], end_ := 16 + s.length }, { m with laid := over (over m.laid (gen % 2 * lg.half, zeros lg.half)) (gen % 2 * lg.half, putT gen 0 s) }) := by
  have hp := putT_len (gen := gen) (number := 0) (l := s) hg hs
  have h1 := start_le (gen := gen) (e := 0) (k := lg.half) hh (by omega)
  have h2 := start_le (gen := gen) (e := 0) (k := 16 + s.length) hh (by omega)
  have L1 := layM_quiet hq (p := gen % 2 * lg.half) (b := zeros lg.half) (by rw [zeros_len]; omega)
  have hl : (over m.laid (gen % 2 * lg.half, zeros lg.half)).length = m.laid.length := over_len _ _ (by show _ + (zeros lg.half).length ≤ _; rw [zeros_len]; omega)
  have L2 := layM_quiet (hq.laid (over m.laid (gen % 2 * lg.half, zeros lg.half))) (p := gen % 2 * lg.half) (b := putT gen 0 s) (by show _ ≤ (over m.laid (gen % 2 * lg.half, zeros lg.half)).length; rw [hl, hp]; omega)
  unfold beginM
  rw [L1]
  simp only
  rw [L2]
  simp
theorem appendM_good {lg : Lg} {m : Dk} (h : Good lg m) {b : List UInt8} (hr : ¬ roomI lg.half lg.end_ < b.length) :
    appendM lg m b = (0, { lg with recs := lg.recs ++ [b], end_ := lg.end_ + (16 + b.length) }, { m with laid := over m.laid (lg.gen % 2 * lg.half + lg.end_, putT lg.gen (lg.recs.length + 1) b) }) := by
  have hfit : lg.end_ + (16 + b.length) ≤ lg.half ∧ b.length ≤ 1048576 := by have := h.ok.end_; unfold roomI at hr; omega
  have hp := putT_len (gen := lg.gen) (number := lg.recs.length + 1) (l := b) h.gen hfit.2
  have h1 := start_le (gen := lg.gen) (e := lg.end_) (k := 16 + b.length) h.half hfit.1
  have L1 := layM_quiet h.quiet (p := lg.gen % 2 * lg.half + lg.end_) (b := putT lg.gen (lg.recs.length + 1) b) (by rw [hp]; exact h1)
  rw [Int.natCast_add] at L1
  unfold appendM
  rw [if_neg (by simpa using h.falls), if_neg hr, L1]
  simp
theorem appendM_full {lg : Lg} {m : Dk} (h : Good lg m) {b : List UInt8} (hr : roomI lg.half lg.end_ < b.length) : appendM lg m b = (7, lg, m) := by
  unfold appendM
  rw [if_neg (by simpa using h.falls), if_pos hr]
theorem Good.append {lg : Lg} {m : Dk} (h : Good lg m) {b : List UInt8} (hr : ¬ roomI lg.half lg.end_ < b.length) :
    Good { lg with recs := lg.recs ++ [b], end_ := lg.end_ + (16 + b.length) } { m with laid := over m.laid (lg.gen % 2 * lg.half + lg.end_, putT lg.gen (lg.recs.length + 1) b) } := by
  have hfit : lg.end_ + (16 + b.length) ≤ lg.half ∧ b.length ≤ 1048576 := by have := h.ok.end_; unfold roomI at hr; omega
  have hp := putT_len (gen := lg.gen) (number := lg.recs.length + 1) (l := b) h.gen hfit.2
  have h1 := start_le (gen := lg.gen) (e := lg.end_) (k := 16 + b.length) h.half hfit.1
  have hl : (over m.laid (lg.gen % 2 * lg.half + lg.end_, putT lg.gen (lg.recs.length + 1) b)).length = m.laid.length := over_len _ _ (by show _ + (putT _ _ _).length ≤ _; rw [hp]; exact h1)
  refine ⟨h.quiet.laid _, h.falls, ?_, ?_, h.gen, ⟨h.ok.half, h.ok.gen, hfit.1, ?_⟩⟩
  · show lg.half = (over _ _).length / 2; rw [hl]; exact h.half
  · show (over _ _).length ≤ _; rw [hl]; exact h.size
  · have := h.ok.many; simp; omega
theorem Good.begin {lg : Lg} {m : Dk} (hq : Quiet m) (hf : m.falls = lg.falls) (hh : lg.half = m.laid.length / 2) (hsz : m.laid.length ≤ 4194304) (gen : Nat) {s : List UInt8} (hg : gen ≠ 0) (hg2 : gen < 4294967296) (hfit : 16 + s.length ≤ lg.half) (hs : s.length ≤ 1048576) :
    Good { lg with gen := gen, snap := s, recs := [], end_ := 16 + s.length } { m with laid := over (over m.laid (gen % 2 * lg.half, zeros lg.half)) (gen % 2 * lg.half, putT gen 0 s) } := by
  have hp := putT_len (gen := gen) (number := 0) (l := s) hg hs
  have h1 := start_le (gen := gen) (e := 0) (k := lg.half) hh (by omega)
  have h2 := start_le (gen := gen) (e := 0) (k := 16 + s.length) hh (by omega)
  have hl : (over m.laid (gen % 2 * lg.half, zeros lg.half)).length = m.laid.length := over_len _ _ (by show _ + (zeros lg.half).length ≤ _; rw [zeros_len]; omega)
  have hl2 : (over (over m.laid (gen % 2 * lg.half, zeros lg.half)) (gen % 2 * lg.half, putT gen 0 s)).length = m.laid.length := by rw [over_len _ _ (by show _ + (putT _ _ _).length ≤ _; rw [hp, hl]; omega), hl]
  refine ⟨hq.laid _, hf, ?_, ?_, hg, ⟨by show lg.half ≤ _; omega, hg2, hfit, by simp⟩⟩
  · show lg.half = (over _ _).length / 2; rw [hl2]; exact hh
  · show (over _ _).length ≤ _; rw [hl2]; exact hsz
theorem compactM_good {lg : Lg} {m : Dk} (h : Good lg m) {s : List UInt8} (hr : ¬ roomI lg.half 0 < s.length) (hg : lg.gen ≠ 4294967295) : compactM lg m s = beginM lg m (lg.gen + 1) s := by
  unfold compactM
  rw [if_neg (by simpa using h.falls), if_neg hr, if_neg hg]
theorem compactM_full {lg : Lg} {m : Dk} (h : Good lg m) {s : List UInt8} (hr : roomI lg.half 0 < s.length) : compactM lg m s = (7, lg, m) := by
  unfold compactM
  rw [if_neg (by simpa using h.falls), if_pos hr]

theorem rd4_zeros (n : Nat) : rd4 (zeros n) = 0 := by
  have : ∀ i, (zeros n).getD i 0 = 0 := fun i => by
    rw [List.getD_eq_getElem?_getD]
    unfold zeros
    rw [List.getElem?_replicate]
    split <;> rfl
  unfold rd4
  rw [this, this, this, this]; rfl
theorem zeros_drop (n k : Nat) : (zeros n).drop k = zeros (n - k) := by unfold zeros; simp
theorem zeros_take (n k : Nat) : (zeros n).take k = zeros (min k n) := by unfold zeros; simp
theorem getB_zeros {gen number n : Nat} (hg : gen < 4294967296) (hn : number < 4294967296) : getB gen number (zeros n) = false := by
  refine getB_none hg hn fun h => ?_
  have := h.2.1
  rw [zeros_drop, rd4_zeros] at this
  omega
theorem findC_zeros (half n : Nat) : ∀ p, findC half (zeros n) p = ⟨0, [], 0, []⟩
  | 0 => rfl
  | p + 1 => by
    have hb : halfB half (zeros n) p = zeros (min half (n - p * half)) := by unfold halfB; rw [zeros_drop, zeros_take]
    unfold findC cand
    rw [hb, zeros_drop, rd4_zeros, getB_zeros (by omega) (by omega), if_neg (by simp)]
    exact findC_zeros half n p
theorem new_quiet (n : Nat) : Quiet (Dk.new n) := ⟨rfl, rfl, by simp [Dk.new]⟩
theorem openM_new {n : Nat} (hn : n ≤ 4194304) (h64 : 64 ≤ n / 2) :
    openM (Dk.new n) = (0, ⟨0, n / 2, 1, [], [], 16⟩, { Dk.new n with laid := over (over (zeros n) (n / 2, zeros (n / 2))) (n / 2, putT 1 0 []) }) ∧
    Good ⟨0, n / 2, 1, [], [], 16⟩ { Dk.new n with laid := over (over (zeros n) (n / 2, zeros (n / 2))) (n / 2, putT 1 0 []) } := by
  have hl : (Dk.new n).laid.length = n := by simp [Dk.new]
  have hb := beginM_good (lg := lg0 (Dk.new n)) (new_quiet n) rfl 1 (s := []) (by omega) (by show 16 + 0 ≤ (Dk.new n).laid.length / 2; rw [hl]; omega) (by simp)
  have hg := Good.begin (lg := lg0 (Dk.new n)) (new_quiet n) rfl rfl (by rw [hl]; exact hn) 1 (s := []) (by omega) (by omega) (by show 16 + 0 ≤ (Dk.new n).laid.length / 2; rw [hl]; omega) (by simp)
  have hf : (findC ((Dk.new n).laid.length / 2) (Dk.new n).seen 2).gen = 0 := by
    rw [(new_quiet n).seen, show (Dk.new n).laid = zeros n from rfl, findC_zeros]
  have e1 : (lg0 (Dk.new n)) = ⟨0, n / 2, 0, [], [], 0⟩ := by unfold lg0; rw [hl]; rfl
  unfold openM
  simp only [hf, if_true]
  rw [hb]
  rw [e1] at hg ⊢
  simp only [Nat.one_mod, Nat.one_mul] at hg ⊢
  exact ⟨rfl, hg⟩

/-- Frames one behind the other, their numbers from k on. -/
def rowsT (gen : Nat) : Nat → List (List UInt8) → List UInt8
  | _, [] => []
  | k, p :: t => putT gen k p ++ rowsT gen (k + 1) t
theorem rowsT_snoc (gen : Nat) (p : List UInt8) : ∀ (ls : List (List UInt8)) (k : Nat), rowsT gen k (ls ++ [p]) = rowsT gen k ls ++ putT gen (k + ls.length) p
  | [], k => by simp [rowsT]
  | q :: t, k => by
    simp only [List.cons_append, rowsT, List.length_cons]
    rw [rowsT_snoc gen p t (k + 1), List.append_assoc, show k + 1 + t.length = k + (t.length + 1) by omega]
theorem rowsT_len {gen : Nat} (hg : gen ≠ 0) : ∀ (ls : List (List UInt8)) (k : Nat), (∀ p ∈ ls, p.length ≤ 1048576) → (rowsT gen k ls).length = sizeT ls
  | [], k, _ => rfl
  | p :: t, k, h => by
    simp only [rowsT, List.length_append, sizeT]
    rw [putT_len hg (h p (by simp)), rowsT_len hg t (k + 1) fun q hq => h q (by simp [hq])]
theorem rd_rows {gen n : Nat} (hg : gen ≠ 0) (hg2 : gen < 4294967296) : ∀ (ls : List (List UInt8)) (k f : Nat), (∀ p ∈ ls, p.length ≤ 1048576) → k + ls.length < 4294967296 → (rowsT gen k ls ++ zeros n).length < f → rd gen k f (rowsT gen k ls ++ zeros n) = ls
  | [], k, f, _, hk, hf => by
    rw [rowsT, List.nil_append]
    cases f with
    | zero => rfl
    | succ f => rw [rd_step, getB_zeros hg2 (by simpa using hk)]; rfl
  | p :: t, k, 0, _, _, hf => absurd hf (Nat.not_lt_zero _)
  | p :: t, k, f + 1, h, hk, hf => by
    obtain ⟨h1, h2, h3⟩ := getB_put (number := k) (r := rowsT gen (k + 1) t ++ zeros n) hg (h p (by simp))
    have hpl := putT_len (gen := gen) (number := k) (l := p) hg (h p (by simp))
    rw [rowsT, List.append_assoc, rd_step, h1, if_pos rfl, h2, h3, List.drop_append_of_le_length (by omega), List.drop_of_length_le (by omega), List.nil_append]
    rw [rowsT, List.append_assoc, List.length_append, hpl] at hf
    rw [rd_rows hg hg2 t (k + 1) f (fun q hq => h q (by simp [hq])) (by simp at hk; omega) (by omega)]

/-- What lies in a log's own half. -/
def ownT (lg : Lg) : List UInt8 := putT lg.gen 0 lg.snap ++ rowsT lg.gen 1 lg.recs
structure Inv (lg : Lg) (m : Dk) : Prop extends Good lg m where
  h64 : 64 ≤ lg.half
  long : lg.snap.length ≤ 1048576 ∧ ∀ p ∈ lg.recs, p.length ≤ 1048576
  end_eq : lg.end_ = (ownT lg).length
  own : halfB lg.half m.laid (lg.gen % 2) = ownT lg ++ zeros (lg.half - (ownT lg).length)
  other : getB (rd4 ((halfB lg.half m.laid ((lg.gen + 1) % 2)).drop 4)) 0 (halfB lg.half m.laid ((lg.gen + 1) % 2)) = true → rd4 ((halfB lg.half m.laid ((lg.gen + 1) % 2)).drop 4) < lg.gen

theorem halfB_same {half q e : Nat} {s b : List UInt8} (hq : q * half + half ≤ s.length) (he : e + b.length ≤ half) : halfB half (over s (q * half + e, b)) q = over (halfB half s q) (e, b) := by
  have hl : (halfB half s q).length = half := by unfold halfB; simp; omega
  have hol : (over s (q * half + e, b)).length = s.length := over_len _ _ (by show q * half + e + b.length ≤ _; omega)
  apply List.ext_getElem?
  intro i
  by_cases hi : i < half
  · unfold halfB
    rw [List.getElem?_take, if_pos hi, List.getElem?_drop, over_at _ _ (by show q * half + e + b.length ≤ _; omega), over_at _ _ (by show e + b.length ≤ (halfB half s q).length; omega), List.getElem?_take, if_pos hi, List.getElem?_drop]
    simp only
    by_cases h1 : e ≤ i ∧ i < e + b.length
    · rw [if_pos ⟨by omega, by omega⟩, if_pos h1]; congr 1; omega
    · rw [if_neg (by omega), if_neg h1]
  · rw [List.getElem?_eq_none (by unfold halfB; simp; omega), List.getElem?_eq_none (by rw [over_len _ _ (by show e + b.length ≤ (halfB half s q).length; omega)]; omega)]
theorem halfB_other {half q r e : Nat} {s b : List UInt8} (hq : q * half + half ≤ s.length) (he : e + b.length ≤ half) (hr : r < 2) (hq2 : q < 2) (hne : r ≠ q) : halfB half (over s (q * half + e, b)) r = halfB half s r := by
  apply List.ext_getElem?
  intro i
  unfold halfB
  rw [List.getElem?_take, List.getElem?_take]
  split
  · rw [List.getElem?_drop, List.getElem?_drop, over_at _ _ (by show q * half + e + b.length ≤ _; omega), if_neg]
    simp only
    have : (q = 0 ∧ r = 1) ∨ (q = 1 ∧ r = 0) := by omega
    rcases this with ⟨rfl, rfl⟩ | ⟨rfl, rfl⟩ <;> omega
  · rfl
theorem over_tail {t b : List UInt8} {n : Nat} (h : t.length + b.length ≤ n) : over (t ++ zeros (n - t.length)) (t.length, b) = (t ++ b) ++ zeros (n - (t ++ b).length) := by
  unfold over
  rw [List.take_append_of_le_length (by simp), List.take_of_length_le (by simp)]
  rw [List.drop_append, List.drop_of_length_le (by simp), zeros_drop, List.nil_append, List.append_assoc, List.length_append]
  simp only [Nat.add_sub_cancel_left]
  rw [show n - t.length - b.length = n - (t.length + b.length) by omega]

theorem Inv.append {lg : Lg} {m : Dk} (h : Inv lg m) {b : List UInt8} (hr : ¬ roomI lg.half lg.end_ < b.length) :
    Inv { lg with recs := lg.recs ++ [b], end_ := lg.end_ + (16 + b.length) } { m with laid := over m.laid (lg.gen % 2 * lg.half + lg.end_, putT lg.gen (lg.recs.length + 1) b) } := by
  have hfit : lg.end_ + (16 + b.length) ≤ lg.half ∧ b.length ≤ 1048576 := by have := h.ok.end_; unfold roomI at hr; omega
  have hp := putT_len (gen := lg.gen) (number := lg.recs.length + 1) (l := b) h.gen hfit.2
  have h1 := start_le (gen := lg.gen) (e := lg.half) (k := 0) h.half (by omega)
  have hT : ownT { lg with recs := lg.recs ++ [b], end_ := lg.end_ + (16 + b.length) } = ownT lg ++ putT lg.gen (lg.recs.length + 1) b := by
    show putT lg.gen 0 lg.snap ++ rowsT lg.gen 1 (lg.recs ++ [b]) = _
    rw [rowsT_snoc, ← List.append_assoc, Nat.add_comm 1]; rfl
  have hm2 : lg.gen % 2 < 2 := Nat.mod_lt _ (by omega)
  have hm3 : (lg.gen + 1) % 2 < 2 := Nat.mod_lt _ (by omega)
  refine ⟨h.toGood.append hr, h.h64, ⟨h.long.1, fun p hpm => ?_⟩, ?_, ?_, ?_⟩
  · rcases List.mem_append.1 hpm with hpm | hpm
    · exact h.long.2 p hpm
    · obtain rfl : p = b := by simpa using hpm
      exact hfit.2
  · show lg.end_ + (16 + b.length) = _
    rw [hT, List.length_append, hp, ← h.end_eq]
  · show halfB lg.half (over m.laid _) (lg.gen % 2) = _
    rw [hT, halfB_same (by omega) (by rw [hp]; exact hfit.1), h.own]
    conv => lhs; rw [h.end_eq]
    rw [over_tail (by rw [hp, ← h.end_eq]; exact hfit.1)]
  · show getB (rd4 ((halfB lg.half (over m.laid _) ((lg.gen + 1) % 2)).drop 4)) 0 (halfB lg.half (over m.laid _) ((lg.gen + 1) % 2)) = true → rd4 ((halfB lg.half (over m.laid _) ((lg.gen + 1) % 2)).drop 4) < lg.gen
    rw [halfB_other (by omega) (by rw [hp]; exact hfit.1) hm3 hm2 (by omega)]
    exact h.other
theorem own_first {gen : Nat} {s r : List UInt8} (hg : gen ≠ 0) (hg2 : gen < 4294967296) (hs : s.length ≤ 1048576) : rd4 ((putT gen 0 s ++ r).drop 4) = gen := ((getB_ways hg2 (by omega)).1 (getB_put (number := 0) (r := r) hg hs).1).2.1
theorem Inv.begin {lg : Lg} {m : Dk} (hq : Quiet m) (hf : m.falls = lg.falls) (hh : lg.half = m.laid.length / 2) (hsz : m.laid.length ≤ 4194304) (gen : Nat) {s : List UInt8} (hg : gen ≠ 0) (hg2 : gen < 4294967296) (h64 : 64 ≤ lg.half) (hfit : 16 + s.length ≤ lg.half) (hs : s.length ≤ 1048576)
    (hoth : getB (rd4 ((halfB lg.half m.laid ((gen + 1) % 2)).drop 4)) 0 (halfB lg.half m.laid ((gen + 1) % 2)) = true → rd4 ((halfB lg.half m.laid ((gen + 1) % 2)).drop 4) < gen) :
    Inv { lg with gen := gen, snap := s, recs := [], end_ := 16 + s.length } { m with laid := over (over m.laid (gen % 2 * lg.half, zeros lg.half)) (gen % 2 * lg.half, putT gen 0 s) } := by
  have hp := putT_len (gen := gen) (number := 0) (l := s) hg hs
  have h1 := start_le (gen := gen) (e := lg.half) (k := 0) hh (by omega)
  have hm2 : gen % 2 < 2 := Nat.mod_lt _ (by omega)
  have hm3 : (gen + 1) % 2 < 2 := Nat.mod_lt _ (by omega)
  have hl : (over m.laid (gen % 2 * lg.half, zeros lg.half)).length = m.laid.length := over_len _ _ (by show _ + (zeros lg.half).length ≤ _; rw [zeros_len]; omega)
  have hT : ownT { lg with gen := gen, snap := s, recs := [], end_ := 16 + s.length } = putT gen 0 s := by show putT gen 0 s ++ rowsT gen 1 [] = _; simp [rowsT]
  have hz : over (halfB lg.half m.laid (gen % 2)) (0, zeros lg.half) = zeros lg.half := by
    unfold over
    have : (halfB lg.half m.laid (gen % 2)).length = lg.half := by unfold halfB; simp; omega
    simp only [List.take_zero, List.nil_append, zeros_len, Nat.zero_add]
    rw [List.drop_of_length_le (by omega), List.append_nil]
  have e1 : halfB lg.half (over (over m.laid (gen % 2 * lg.half, zeros lg.half)) (gen % 2 * lg.half, putT gen 0 s)) (gen % 2) = putT gen 0 s ++ zeros (lg.half - (putT gen 0 s).length) := by
    have a1 := halfB_same (half := lg.half) (q := gen % 2) (e := 0) (s := over m.laid (gen % 2 * lg.half, zeros lg.half)) (b := putT gen 0 s) (by rw [hl]; omega) (by rw [hp]; omega)
    have a2 := halfB_same (half := lg.half) (q := gen % 2) (e := 0) (s := m.laid) (b := zeros lg.half) (by omega) (by rw [zeros_len]; omega)
    rw [Nat.add_zero] at a1 a2
    rw [a1, a2, hz]
    have := over_tail (t := []) (b := putT gen 0 s) (n := lg.half) (by rw [hp]; simp; omega)
    simpa using this
  have e2 : halfB lg.half (over (over m.laid (gen % 2 * lg.half, zeros lg.half)) (gen % 2 * lg.half, putT gen 0 s)) ((gen + 1) % 2) = halfB lg.half m.laid ((gen + 1) % 2) := by
    have a1 := halfB_other (half := lg.half) (q := gen % 2) (r := (gen + 1) % 2) (e := 0) (s := over m.laid (gen % 2 * lg.half, zeros lg.half)) (b := putT gen 0 s) (by rw [hl]; omega) (by rw [hp]; omega) hm3 hm2 (by omega)
    have a2 := halfB_other (half := lg.half) (q := gen % 2) (r := (gen + 1) % 2) (e := 0) (s := m.laid) (b := zeros lg.half) (by omega) (by rw [zeros_len]; omega) hm3 hm2 (by omega)
    rw [Nat.add_zero] at a1 a2
    rw [a1, a2]
  refine ⟨Good.begin hq hf hh hsz gen hg hg2 hfit hs, h64, ⟨hs, fun p hpm => by simp at hpm⟩, ?_, ?_, ?_⟩
  · show 16 + s.length = _; rw [hT, hp]
  · rw [hT]; exact e1
  · show getB (rd4 ((halfB lg.half (over (over _ _) _) ((gen + 1) % 2)).drop 4)) 0 (halfB lg.half (over (over _ _) _) ((gen + 1) % 2)) = true → rd4 ((halfB lg.half (over (over _ _) _) ((gen + 1) % 2)).drop 4) < gen
    rw [e2]
    exact hoth
/-- The log laid down anew holds the old one in the other half. -/
theorem Inv.compact {lg : Lg} {m : Dk} (h : Inv lg m) {s : List UInt8} (hr : ¬ roomI lg.half 0 < s.length) (hg : lg.gen ≠ 4294967295) :
    ∃ lg' m', compactM lg m s = (0, lg', m') ∧ Inv lg' m' ∧ lg' = { lg with gen := lg.gen + 1, snap := s, recs := [], end_ := 16 + s.length } := by
  have hfit : 16 + s.length ≤ lg.half ∧ s.length ≤ 1048576 := by have := h.ok.half; unfold roomI at hr; omega
  have hgl := h.ok.gen
  refine ⟨_, _, ?_, Inv.begin h.quiet h.falls h.half h.size (lg.gen + 1) (by omega) (by omega) h.h64 hfit.1 hfit.2 ?_, rfl⟩
  · rw [compactM_good h.toGood hr hg]
    exact beginM_good h.quiet h.half (lg.gen + 1) (by omega) hfit.1 hfit.2
  · intro _
    rw [show (lg.gen + 1 + 1) % 2 = lg.gen % 2 by omega, h.own, ownT, List.append_assoc, own_first h.gen hgl h.long.1]
    omega
theorem openM_inv {lg : Lg} {m : Dk} (h : Inv lg m) : openM m = (0, lg, m) := by
  have hgl := h.ok.gen
  have hb : halfB lg.half m.laid (lg.gen % 2) = putT lg.gen 0 lg.snap ++ (rowsT lg.gen 1 lg.recs ++ zeros (lg.half - (ownT lg).length)) := by rw [h.own, ownT, List.append_assoc]
  obtain ⟨p1, p2, p3⟩ := getB_put (number := 0) (r := rowsT lg.gen 1 lg.recs ++ zeros (lg.half - (ownT lg).length)) h.gen h.long.1
  have p4 := own_first (gen := lg.gen) (s := lg.snap) (r := rowsT lg.gen 1 lg.recs ++ zeros (lg.half - (ownT lg).length)) h.gen hgl h.long.1
  have hown : ∀ st : Cand, st.gen < lg.gen → cand (lg.gen % 2) (halfB lg.half m.laid (lg.gen % 2)) st = ⟨lg.gen, lg.snap, 16 + lg.snap.length, halfB lg.half m.laid (lg.gen % 2)⟩ := fun st hst => by
    unfold cand
    rw [hb, p4, p1, p2, p3, if_pos ⟨rfl, rfl, hst⟩]
  have hoth : ∀ st : Cand, cand ((lg.gen + 1) % 2) (halfB lg.half m.laid ((lg.gen + 1) % 2)) st = st ∨ ((cand ((lg.gen + 1) % 2) (halfB lg.half m.laid ((lg.gen + 1) % 2)) st).gen < lg.gen ∧ st.gen < lg.gen) := fun st => by
    unfold cand
    split
    · rename_i hc
      have := h.other hc.1
      exact .inr ⟨this, Nat.lt_trans hc.2.2 this⟩
    · exact .inl rfl
  have hF : findC (m.laid.length / 2) m.seen 2 = ⟨lg.gen, lg.snap, 16 + lg.snap.length, halfB lg.half m.laid (lg.gen % 2)⟩ := by
    rw [h.quiet.seen, ← h.half]
    have hg0 := h.gen
    rcases Nat.mod_two_eq_zero_or_one lg.gen with h2 | h2
    · have h3 : (lg.gen + 1) % 2 = 1 := by omega
      show cand 1 (halfB lg.half m.laid 1) (cand 0 (halfB lg.half m.laid 0) ⟨0, [], 0, []⟩) = _
      have a1 := hown ⟨0, [], 0, []⟩ (by show 0 < _; omega)
      rw [h2] at a1 ⊢
      rw [a1]
      have a2 := hoth ⟨lg.gen, lg.snap, 16 + lg.snap.length, halfB lg.half m.laid 0⟩
      rw [h3] at a2
      rcases a2 with a2 | a2
      · exact a2
      · exact absurd a2.2 (Nat.lt_irrefl _)
    · have h3 : (lg.gen + 1) % 2 = 0 := by omega
      show cand 1 (halfB lg.half m.laid 1) (cand 0 (halfB lg.half m.laid 0) ⟨0, [], 0, []⟩) = _
      have a2 := hoth ⟨0, [], 0, []⟩
      rw [h3] at a2
      have hlt : (cand 0 (halfB lg.half m.laid 0) ⟨0, [], 0, []⟩).gen < lg.gen := by
        rcases a2 with a2 | a2
        · rw [a2]; show 0 < _; omega
        · exact a2.1
      have a1 := hown _ hlt
      rw [h2] at a1 ⊢
      exact a1
  have hpl := putT_len (gen := lg.gen) (number := 0) (l := lg.snap) h.gen h.long.1
  have hot : (ownT lg).length = 16 + lg.snap.length + sizeT lg.recs := by unfold ownT; rw [List.length_append, hpl, rowsT_len h.gen _ _ h.long.2]
  have hend := h.end_eq
  have hE := h.ok.end_
  have hbl : (halfB lg.half m.laid (lg.gen % 2)).length = lg.half := by rw [h.own]; simp [zeros_len]; omega
  have hdrop : (halfB lg.half m.laid (lg.gen % 2)).drop (16 + lg.snap.length) = rowsT lg.gen 1 lg.recs ++ zeros (lg.half - (ownT lg).length) := by
    rw [hb, List.drop_append_of_le_length (by omega), List.drop_of_length_le (by omega), List.nil_append]
  have hmany := h.ok.many
  have hhf := h.ok.half
  have hrd : rd lg.gen 1 ((halfB lg.half m.laid (lg.gen % 2)).length + 1) ((halfB lg.half m.laid (lg.gen % 2)).drop (16 + lg.snap.length)) = lg.recs := by
    rw [hdrop]
    refine rd_rows h.gen hgl _ _ _ h.long.2 (by omega) ?_
    rw [← hdrop]; simp; omega
  have hdr2 : (halfB lg.half m.laid (lg.gen % 2)).drop (16 + lg.snap.length + sizeT lg.recs) = zeros (lg.half - (16 + lg.snap.length + sizeT lg.recs)) := by
    rw [← List.drop_drop, hdrop, List.drop_append_of_le_length (by rw [rowsT_len h.gen _ _ h.long.2]; omega), List.drop_of_length_le (by rw [rowsT_len h.gen _ _ h.long.2]; omega), List.nil_append, hot]
  unfold openM
  simp only [hF]
  rw [if_neg h.gen]
  unfold followM
  simp only [hrd]
  rw [show (lg0 m).half = lg.half from h.half.symm, hdr2, if_pos rfl]
  have hff := h.falls
  have hhh := h.half
  obtain ⟨f, hf, g, s, r, e⟩ := lg
  simp only [lg0] at *
  rw [show e = 16 + s.length + sizeT r from hend.trans hot, hff]
end Go.Proofs.YtabknmlnlhflmaaDoor.Vl
