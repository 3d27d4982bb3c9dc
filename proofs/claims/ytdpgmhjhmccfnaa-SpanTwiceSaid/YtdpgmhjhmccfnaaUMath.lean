/- Streams' rows in plain numbers. No text of the program is read here. -/
import Derived.Test.YtdpgmhjhmccfnaaSMath2
import Derived.Test.YtdpgmhjhmccfnaaSMath3
namespace Sp
/-- What a pair is of, by its kind (as 'cK'). -/
def cW (k : Int) (x y : Bool) : Bool := if k = 1 then x && y else if 1 < k then x && !y else x || y
theorem cW_ff (k : Int) : cW k false false = false := by unfold cW; split <;> (try split) <;> rfl
def formL (l : List Spn) : List Spn := pair (cW 0) l []
def lowI (n b : Int) : Int := if 0 < b then (if n < -9223372036854775808 + b then -9223372036854775808 else n - b) else n
def highI (n b : Int) : Int := if 0 < b then (if 9223372036854775807 - b < n then 9223372036854775807 else n + b) else n
def growL (l : List Spn) (a b : Int) : List Spn := formL ((formL l).map fun s => (lowI s.1 a, highI s.2 b))
def startsL (l : List Spn) (n : Int) : List Spn := (formL l).filterMap fun s => if max 1 n ≤ s.2 - s.1 then some (s.1, s.2 - max 1 n + 1) else none
def unionFrom (o : List Spn) (ls : List (List Spn)) : List Spn := ls.foldl (fun o l => pair (cW 0) o l) o
def unionL (ls : List (List Spn)) : List Spn := unionFrom [] ls
def meetFrom (o : List Spn) (ls : List (List Spn)) : List Spn := ls.foldl (fun o l => pair (cW 1) o l) o
def meetL : List (List Spn) → List Spn
  | [] => []
  | l :: r => meetFrom (formL l) r
def gapsL (l : List Spn) (w : Spn) : List Spn := pair (cW 2) [w] l
def behindL (l : List Spn) (m : Int) : List Spn := l.filterMap fun s => if m < s.2 then some (max s.1 m, s.2) else none
theorem behind_snoc (l : List Spn) (m : Int) (i : Nat) (s : Spn) (h : l[i]? = some s) : behindL (l.take (i + 1)) m = behindL (l.take i) m ++ (if m < s.2 then [(max s.1 m, s.2)] else []) := by
  rw [List.take_add_one, h]; unfold behindL
  rw [List.filterMap_append]; congr 1
  by_cases hm : m < s.2 <;> simp [hm]
theorem starts_snoc (f : List Spn) (k : Int) (i : Nat) (s : Spn) (h : f[i]? = some s) : (f.take (i + 1)).filterMap (fun s => if k ≤ s.2 - s.1 then some (s.1, s.2 - k + 1) else none) = (f.take i).filterMap (fun s => if k ≤ s.2 - s.1 then some (s.1, s.2 - k + 1) else none) ++ (if k ≤ s.2 - s.1 then [(s.1, s.2 - k + 1)] else []) := by
  rw [List.take_add_one, h, List.filterMap_append]; congr 1
  by_cases hm : k ≤ s.2 - s.1 <;> simp [hm]
theorem union_drop (o : List Spn) (ls : List (List Spn)) (i : Nat) (l : List Spn) (h : ls[i]? = some l) : unionFrom o (ls.drop i) = unionFrom (pair (cW 0) o l) (ls.drop (i + 1)) := by
  rw [List.drop_eq_getElem_cons (List.getElem?_eq_some_iff.1 h).1, (List.getElem?_eq_some_iff.1 h).2]; rfl
theorem meet_drop (o : List Spn) (ls : List (List Spn)) (i : Nat) (l : List Spn) (h : ls[i]? = some l) : meetFrom o (ls.drop i) = meetFrom (pair (cW 1) o l) (ls.drop (i + 1)) := by
  rw [List.drop_eq_getElem_cons (List.getElem?_eq_some_iff.1 h).1, (List.getElem?_eq_some_iff.1 h).2]; rfl
theorem bld_skip (p : Int → Bool) (y : Int) (r : List Int) (h : p y = false) : bld p (y :: r) = bld p r := by
  cases r with
  | nil => simp [bld]
  | cons z r => rw [bld_two, if_neg (by rw [h]; simp)]
theorem bld_head (p : Int → Bool) (y z : Int) (r : List Int) (h : p y = true) : ∃ s q, bld p (y :: z :: r) = s :: q ∧ s.1 = y := by
  rw [bld_two, if_pos h]
  split
  · exact ⟨_, _, rfl, rfl⟩
  · split
    · exact ⟨_, _, rfl, rfl⟩
    · exact ⟨_, _, rfl, rfl⟩
theorem bld_len (p : Int → Bool) : ∀ (n : Nat) (e : List Int), e.length ≤ n → 2 * (bld p e).length ≤ e.length
  | _, [], _ => by simp [bld]
  | _, [x], _ => by simp [bld]
  | 0, x :: y :: r, h => by simp at h
  | n + 1, x :: y :: r, h => by
    simp only [List.length_cons] at h
    have ih := bld_len p n (y :: r) (by simp; omega)
    have ih2 := bld_len p n r (by omega)
    have hh := bld_head p y
    have hs := bld_skip p y r
    rw [bld_two]
    split
    · split
      · simp
      · rename_i s q hq
        rw [hq] at ih
        split
        · simp at ih ⊢; omega
        · rename_i hne
          have hy : p y = false := by
            cases hp : p y with
            | false => rfl
            | true =>
              cases r with
              | nil => simp [bld] at hq
              | cons z r2 =>
                obtain ⟨s', q', e', h'⟩ := hh z r2 hp
                rw [e'] at hq
                obtain ⟨rfl, rfl⟩ := List.cons.inj hq
                exact absurd h' hne
          rw [← hs hy, hq] at ih2
          simp at ih2 ⊢; omega
    · simp at ih ⊢; omega
theorem putI_len2 (l : List Int) (n : Int) : (putI l n).length ≤ l.length + 1 := by
  induction l with
  | nil => simp [putI]
  | cons x r ih =>
    unfold putI
    repeat' split
    all_goals simp at ih ⊢
    all_goals omega
theorem edg_len2 (a : List Spn) : ∀ l, (edg l a).length ≤ l.length + 2 * a.length := by
  induction a with
  | nil => intro l; simp [edg]
  | cons s r ih =>
    intro l
    have := ih (edgS l s)
    have h1 := putI_len2 (putI l s.1) s.2
    have h2 := putI_len2 l s.1
    unfold edg at this ⊢
    unfold edgS at this
    simp only [List.foldl_cons, List.length_cons]
    unfold edgS
    omega
theorem pair_len (c : Bool → Bool → Bool) (a b : List Spn) : (pair c a b).length ≤ a.length + b.length := by
  unfold pair
  have h1 := bld_len (fun z => c (hasB a z) (hasB b z)) _ (edges a b) (Nat.le_refl _)
  have h2 := edg_len2 b (edg [] a)
  have h3 := edg_len2 a []
  unfold edges at h1
  unfold edges
  simp at h3
  omega
theorem form_len (l : List Spn) : (formL l).length ≤ l.length := by have := pair_len (cW 0) l []; simpa [formL] using this
theorem formFrom_lt : ∀ {l : List Spn} {lo : Int}, formFrom lo l → ∀ s ∈ l, s.1 < s.2
  | [], _, _, s, h => by cases h
  | x :: r, lo, hf, s, h => by
    rcases List.mem_cons.1 h with rfl | h
    · exact hf.2.1
    · exact formFrom_lt hf.2.2 s h
theorem form_lt {l : List Spn} (h : form l) : ∀ s ∈ l, s.1 < s.2 := by
  cases l with
  | nil => intro s hs; cases hs
  | cons x r =>
    intro s hs
    rcases List.mem_cons.1 hs with rfl | hs
    · exact h.1
    · exact formFrom_lt h.2 s hs
theorem formL_lt (l : List Spn) : ∀ s ∈ formL l, s.1 < s.2 := form_lt (pair_form _ _ _)
/-- How many spans rows have together. -/
def total (ls : List (List Spn)) : Nat := (ls.map List.length).sum
theorem total_drop (ls : List (List Spn)) (i : Nat) (l : List Spn) (h : ls[i]? = some l) : total (ls.drop i) = l.length + total (ls.drop (i + 1)) := by
  rw [List.drop_eq_getElem_cons (List.getElem?_eq_some_iff.1 h).1, (List.getElem?_eq_some_iff.1 h).2]; simp [total]
end Sp
