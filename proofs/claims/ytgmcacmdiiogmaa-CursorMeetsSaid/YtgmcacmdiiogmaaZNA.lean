import Derived.Test.YtgmcacmdiiogmaaZMA
/- Streams' rows in plain numbers. No text of the program is read here. -/
section
namespace Sp
/-- What a pair is of, by its kind (as 'cK'). -/
def cW (k : Int) (x y : Bool) : Bool := if k = 1 then x && y else if 1 < k then x && !y else x || y
theorem cW_ff (k : Int) : cW k false false = false := by unfold cW; split <;> (try split) <;> rfl
def formL (l : List Spn) : List Spn := pair (cW 0) l []
def lowI (n b : Int) : Int := if 0 < b then (if n < -9223372036854775808 + b then -9223372036854775808 else n - b) else n
def highI (n b : Int) : Int := if 0 < b then (if 9223372036854775807 - b < n then 9223372036854775807 else n + b) else n
def growL (l : List Spn) (a b : Int) : List Spn := formL ((formL l).map fun s => (lowI s.1 a, highI s.2 b))
def startsL (l : List Spn) (n : Int) : List Spn := (formL l).filterMap fun s => if max 1 n ≤ s.2 - s.1 then some (s.1, s.2 - max 1 n + 1) else none
def unionFrom (o : List Spn) (ls : List (List Spn)) : List Spn := ls.foldl (fun o l => pair (cW 0) o l) o
def unionL (ls : List (List Spn)) : List Spn := unionFrom [] ls
def meetFrom (o : List Spn) (ls : List (List Spn)) : List Spn := ls.foldl (fun o l => pair (cW 1) o l) o
def meetL : List (List Spn) → List Spn
  | [] => []
  | l :: r => meetFrom (formL l) r
def gapsL (l : List Spn) (w : Spn) : List Spn := pair (cW 2) [w] l
def behindL (l : List Spn) (m : Int) : List Spn := l.filterMap fun s => if m < s.2 then some (max s.1 m, s.2) else none
theorem behind_snoc (l : List Spn) (m : Int) (i : Nat) (s : Spn) (h : l[i]? = some s) : behindL (l.take (i + 1)) m = behindL (l.take i) m ++ (if m < s.2 then [(max s.1 m, s.2)] else []) := by
  rw [List.take_add_one, h]; unfold behindL
  rw [List.filterMap_append]; congr 1
  by_cases hm : m < s.2 <;> simp [hm]
theorem starts_snoc (f : List Spn) (k : Int) (i : Nat) (s : Spn) (h : f[i]? = some s) : (f.take (i + 1)).filterMap (fun s => if k ≤ s.2 - s.1 then some (s.1, s.2 - k + 1) else none) = (f.take i).filterMap (fun s => if k ≤ s.2 - s.1 then some (s.1, s.2 - k + 1) else none) ++ (if k ≤ s.2 - s.1 then [(s.1, s.2 - k + 1)] else []) := by
  rw [List.take_add_one, h, List.filterMap_append]; congr 1
  by_cases hm : k ≤ s.2 - s.1 <;> simp [hm]
theorem union_drop (o : List Spn) (ls : List (List Spn)) (i : Nat) (l : List Spn) (h : ls[i]? = some l) : unionFrom o (ls.drop i) = unionFrom (pair (cW 0) o l) (ls.drop (i + 1)) := by
  rw [List.drop_eq_getElem_cons (List.getElem?_eq_some_iff.1 h).1, (List.getElem?_eq_some_iff.1 h).2]; rfl
theorem meet_drop (o : List Spn) (ls : List (List Spn)) (i : Nat) (l : List Spn) (h : ls[i]? = some l) : meetFrom o (ls.drop i) = meetFrom (pair (cW 1) o l) (ls.drop (i + 1)) := by
  rw [List.drop_eq_getElem_cons (List.getElem?_eq_some_iff.1 h).1, (List.getElem?_eq_some_iff.1 h).2]; rfl
theorem bld_skip (p : Int → Bool) (y : Int) (r : List Int) (h : p y = false) : bld p (y :: r) = bld p r := by
  cases r with
  | nil => simp [bld]
  | cons z r => rw [bld_two, if_neg (by rw [h]; simp)]
theorem bld_head (p : Int → Bool) (y z : Int) (r : List Int) (h : p y = true) : ∃ s q, bld p (y :: z :: r) = s :: q ∧ s.1 = y := by
  rw [bld_two, if_pos h]
  split
  · exact ⟨_, _, rfl, rfl⟩
  · split
    · exact ⟨_, _, rfl, rfl⟩
    · exact ⟨_, _, rfl, rfl⟩
theorem bld_len (p : Int → Bool) : ∀ (n : Nat) (e : List Int), e.length ≤ n → 2 * (bld p e).length ≤ e.length
  | _, [], _ => by simp [bld]
  | _, [x], _ => by simp [bld]
  | 0, x :: y :: r, h => by simp at h
  | n + 1, x :: y :: r, h => by
    simp only [List.length_cons] at h
    have ih := bld_len p n (y :: r) (by simp; omega)
    have ih2 := bld_len p n r (by omega)
    have hh := bld_head p y
    have hs := bld_skip p y r
    rw [bld_two]
    split
    · split
      · simp
      · rename_i s q hq
        rw [hq] at ih
        split
        · simp at ih ⊢; omega
        · rename_i hne
          have hy : p y = false := by
            cases hp : p y with
            | false => rfl
            | true =>
              cases r with
              | nil => simp [bld] at hq
              | cons z r2 =>
                obtain ⟨s', q', e', h'⟩ := hh z r2 hp
                rw [e'] at hq
                obtain ⟨rfl, rfl⟩ := List.cons.inj hq
                exact absurd h' hne
          rw [← hs hy, hq] at ih2
          simp at ih2 ⊢; omega
    · simp at ih ⊢; omega
theorem putI_len2 (l : List Int) (n : Int) : (putI l n).length ≤ l.length + 1 := by
  induction l with
  | nil => simp [putI]
  | cons x r ih =>
    unfold putI
    repeat' split
    all_goals simp at ih ⊢
    all_goals omega
theorem edg_len2 (a : List Spn) : ∀ l, (edg l a).length ≤ l.length + 2 * a.length := by
  induction a with
  | nil => intro l; simp [edg]
  | cons s r ih =>
    intro l
    have := ih (edgS l s)
    have h1 := putI_len2 (putI l s.1) s.2
    have h2 := putI_len2 l s.1
    unfold edg at this ⊢
    unfold edgS at this
    simp only [List.foldl_cons, List.length_cons]
    unfold edgS
    omega
theorem pair_len (c : Bool → Bool → Bool) (a b : List Spn) : (pair c a b).length ≤ a.length + b.length := by
  unfold pair
  have h1 := bld_len (fun z => c (hasB a z) (hasB b z)) _ (edges a b) (Nat.le_refl _)
  have h2 := edg_len2 b (edg [] a)
  have h3 := edg_len2 a []
  unfold edges at h1
  unfold edges
  simp at h3
  omega
theorem form_len (l : List Spn) : (formL l).length ≤ l.length := by have := pair_len (cW 0) l []; simpa [formL] using this
theorem formFrom_lt : ∀ {l : List Spn} {lo : Int}, formFrom lo l → ∀ s ∈ l, s.1 < s.2
  | [], _, _, s, h => by cases h
  | x :: r, lo, hf, s, h => by
    rcases List.mem_cons.1 h with rfl | h
    · exact hf.2.1
    · exact formFrom_lt hf.2.2 s h
theorem form_lt {l : List Spn} (h : form l) : ∀ s ∈ l, s.1 < s.2 := by
  cases l with
  | nil => intro s hs; cases hs
  | cons x r =>
    intro s hs
    rcases List.mem_cons.1 hs with rfl | hs
    · exact h.1
    · exact formFrom_lt h.2 s hs
theorem formL_lt (l : List Spn) : ∀ s ∈ formL l, s.1 < s.2 := form_lt (pair_form _ _ _)
/-- How many spans rows have together. -/
def total (ls : List (List Spn)) : Nat := (ls.map List.length).sum
theorem total_drop (ls : List (List Spn)) (i : Nat) (l : List Spn) (h : ls[i]? = some l) : total (ls.drop i) = l.length + total (ls.drop (i + 1)) := by
  rw [List.drop_eq_getElem_cons (List.getElem?_eq_some_iff.1 h).1, (List.getElem?_eq_some_iff.1 h).2]; simp [total]
end Sp
end

/- A row found minute by minute. No text of the program is read here. -/
section
namespace Sp
theorem formFrom_snoc : ∀ (l : List Spn) (lo : Int) (s : Spn), formFrom lo (l ++ [s]) ↔ formFrom lo l ∧ lo < s.1 ∧ (∀ t ∈ l, t.2 < s.1) ∧ s.1 < s.2
  | [], lo, s => by simp [formFrom]
  | x :: r, lo, s => by
    have ih := formFrom_snoc r x.2 s
    simp only [List.cons_append, formFrom, ih, List.forall_mem_cons]
    constructor
    · rintro ⟨h1, h2, h3, h4, h5, h6⟩
      exact ⟨⟨h1, h2, h3⟩, by omega, ⟨h4, h5⟩, h6⟩
    · rintro ⟨⟨h1, h2, h3⟩, h4, ⟨h5, h6⟩, h7⟩
      exact ⟨h1, h2, h3, h5, h6, h7⟩
theorem form_snoc (l : List Spn) (s : Spn) : form (l ++ [s]) ↔ form l ∧ (∀ t ∈ l, t.2 < s.1) ∧ s.1 < s.2 := by
  cases l with
  | nil => simp [form, formFrom]
  | cons x r =>
    have := formFrom_snoc r x.2 s
    simp only [List.cons_append, form, this, List.forall_mem_cons]
    constructor
    · rintro ⟨h1, h2, h3, h4, h5⟩
      exact ⟨⟨h1, h2⟩, ⟨h3, h4⟩, h5⟩
    · rintro ⟨⟨h1, h2⟩, ⟨h3, h4⟩, h5⟩
      exact ⟨h1, h2, h3, h4, h5⟩
theorem has_snoc (l : List Spn) (s : Spn) (x : Int) : has (l ++ [s]) x ↔ has l x ∨ (s.1 ≤ x ∧ x < s.2) := by
  rw [has_append, has_cons]
  constructor
  · rintro (h | h | h)
    · exact .inl h
    · exact .inr h
    · exact absurd h (has_nil x)
  · rintro (h | h)
    · exact .inl h
    · exact .inr (.inl h)
/-- What is found ahead of a minute, no span open. -/
structure ShutR (q : Int → Prop) (a m : Int) (l : List Spn) : Prop where
  form : form l
  ends : ∀ t ∈ l, t.2 < m
  has : ∀ x, has l x ↔ a ≤ x ∧ x < m ∧ q x
/-- .. a span open since a minute. -/
structure OpnR (q : Int → Prop) (a m f : Int) (l : List Spn) : Prop where
  form : form (l ++ [(f, m)])
  has : ∀ x, Sp.has (l ++ [(f, m)]) x ↔ a ≤ x ∧ x < m ∧ q x
theorem ShutR.start (q : Int → Prop) (a : Int) : ShutR q a a [] := ⟨trivial, (fun t h => by cases h), fun x => ⟨fun h => absurd h (has_nil x), fun h => by omega⟩⟩
theorem ShutR.opens {q : Int → Prop} {a m : Int} {l : List Spn} (h : ShutR q a m l) (ha : a ≤ m) (hm : q m) : OpnR q a (m + 1) m l := by
  refine ⟨(form_snoc _ _).2 ⟨h.form, h.ends, by show m < m + 1; omega⟩, fun x => ?_⟩
  rw [has_snoc, h.has]
  constructor
  · rintro (⟨h1, h2, h3⟩ | h1)
    · exact ⟨h1, by omega, h3⟩
    · have : x = m := by have h2 := h1.1; have h3 := h1.2; simp only at h2 h3; omega
      subst this; exact ⟨ha, by omega, hm⟩
  · rintro ⟨h1, h2, h3⟩
    by_cases e : x = m
    · exact .inr ⟨by simp only; omega, by simp only; omega⟩
    · exact .inl ⟨h1, by omega, h3⟩
theorem ShutR.stays {q : Int → Prop} {a m : Int} {l : List Spn} (h : ShutR q a m l) (hm : ¬ q m) : ShutR q a (m + 1) l := by
  refine ⟨h.form, fun t ht => by have := h.ends t ht; omega, fun x => ?_⟩
  rw [h.has]
  constructor
  · rintro ⟨h1, h2, h3⟩; exact ⟨h1, by omega, h3⟩
  · rintro ⟨h1, h2, h3⟩
    have : x ≠ m := fun e => hm (e ▸ h3)
    exact ⟨h1, by omega, h3⟩
theorem OpnR.lt {q : Int → Prop} {a m f : Int} {l : List Spn} (h : OpnR q a m f l) : f < m := ((form_snoc _ _).1 h.form).2.2
theorem OpnR.goes {q : Int → Prop} {a m f : Int} {l : List Spn} (h : OpnR q a m f l) (ha : a ≤ m) (hm : q m) : OpnR q a (m + 1) f l := by
  have h1 := (form_snoc _ _).1 h.form
  have hl := h.lt
  refine ⟨(form_snoc _ _).2 ⟨h1.1, h1.2.1, by show f < m + 1; omega⟩, fun x => ?_⟩
  have hx := h.has x
  rw [has_snoc] at hx ⊢
  simp only at hx ⊢
  constructor
  · rintro (k | k)
    · have := hx.1 (.inl k); exact ⟨this.1, by omega, this.2.2⟩
    · by_cases e : x = m
      · subst e; exact ⟨ha, by omega, hm⟩
      · have := hx.1 (.inr ⟨k.1, by omega⟩); exact ⟨this.1, by omega, this.2.2⟩
  · rintro ⟨k1, k2, k3⟩
    by_cases e : x = m
    · subst e; exact .inr ⟨by omega, by omega⟩
    · rcases hx.2 ⟨k1, by omega, k3⟩ with k | k
      · exact .inl k
      · exact .inr ⟨k.1, by omega⟩
theorem OpnR.shuts {q : Int → Prop} {a m f : Int} {l : List Spn} (h : OpnR q a m f l) (hm : ¬ q m) : ShutR q a (m + 1) (l ++ [(f, m)]) := by
  have h1 := (form_snoc _ _).1 h.form
  have hl := h.lt
  refine ⟨h.form, fun t ht => ?_, fun x => ?_⟩
  · rcases List.mem_append.1 ht with k | k
    · have := h1.2.1 t k; simp only at this; omega
    · obtain rfl : t = (f, m) := by simpa using k
      show m < m + 1; omega
  · rw [h.has]
    constructor
    · rintro ⟨h1, h2, h3⟩; exact ⟨h1, by omega, h3⟩
    · rintro ⟨h1, h2, h3⟩
      have : x ≠ m := fun e => hm (e ▸ h3)
      exact ⟨h1, by omega, h3⟩
end Sp
end

/- Rows of minutes: what the statements of layer 13 ask: forms, counts, growing twice. No text of the program is read here. -/
section
namespace Sp
theorem pairW_has (k : Int) (a b : List Spn) (m : Int) : has (pair (cW k) a b) m ↔ cW k (hasB a m) (hasB b m) = true := pair_has (cW k) (cW_ff k) a b m
theorem pairW_hasB (k : Int) (a b : List Spn) (m : Int) : hasB (pair (cW k) a b) m = cW k (hasB a m) (hasB b m) := by
  rw [Bool.eq_iff_iff, hasB_iff, pairW_has]
theorem formL_hasB (l : List Spn) (m : Int) : hasB (formL l) m = hasB l m := by
  unfold formL
  rw [pairW_hasB]
  unfold cW
  simp [hasB]
theorem formL_has (l : List Spn) (m : Int) : has (formL l) m ↔ has l m := by rw [← hasB_iff, ← hasB_iff, formL_hasB]
theorem formL_form (l : List Spn) : form (formL l) := pair_form _ _ _
theorem formL_id {l : List Spn} (h : form l) : formL l = l := form_unique _ _ (formL_form l) h (formL_has l)
theorem formL_iff (l : List Spn) : formL l = l ↔ form l := ⟨fun h => h ▸ formL_form l, formL_id⟩
theorem formL_twice (l : List Spn) : formL (formL l) = formL l := formL_id (formL_form l)
theorem from_above : ∀ {l : List Spn} {lo : Int}, formFrom lo l → ∀ t ∈ l, lo < t.1 ∧ t.1 < t.2
  | [], _, _, t, h => by cases h
  | x :: r, lo, hf, t, h => by
    rcases List.mem_cons.1 h with rfl | h
    · exact ⟨hf.1, hf.2.1⟩
    · have h1 := from_above hf.2.2 t h
      have h2 := hf.1
      have h3 := hf.2.1
      exact ⟨by omega, h1.2⟩
theorem from_apart : ∀ {l : List Spn} {lo : Int}, formFrom lo l → ∀ s ∈ l, ∀ t ∈ l, t = s ∨ t.2 < s.1 ∨ s.2 < t.1
  | [], _, _, s, h, _, _ => by cases h
  | x :: r, lo, hf, s, hs, t, ht => by
    rcases List.mem_cons.1 hs with h1 | h1
    · rcases List.mem_cons.1 ht with h2 | h2
      · exact .inl (h2.trans h1.symm)
      · rw [h1]; exact .inr (.inr (from_above hf.2.2 t h2).1)
    · rcases List.mem_cons.1 ht with h2 | h2
      · rw [h2]; exact .inr (.inl (from_above hf.2.2 s h1).1)
      · exact from_apart hf.2.2 s h1 t h2
theorem form_from {l : List Spn} (h : form l) : ∃ lo, formFrom lo l := by
  cases l with
  | nil => exact ⟨0, trivial⟩
  | cons x r => exact ⟨x.1 - 1, by omega, h⟩
theorem form_apart {l : List Spn} (h : form l) {s t : Spn} (hs : s ∈ l) (ht : t ∈ l) : t = s ∨ t.2 < s.1 ∨ s.2 < t.1 := by
  obtain ⟨lo, hf⟩ := form_from h
  exact from_apart hf s hs t ht
theorem form_pos {l : List Spn} (h : form l) {s : Spn} (hs : s ∈ l) : s.1 < s.2 := by
  obtain ⟨lo, hf⟩ := form_from h
  exact (from_above hf s hs).2
/-- Beside a span of a row in its form there is none. -/
theorem form_stop {l : List Spn} (h : form l) {s : Spn} (hs : s ∈ l) : ¬ has l s.2 ∧ ¬ has l (s.1 - 1) := by
  have h0 := form_pos h hs
  constructor
  · rintro ⟨t, ht, h1, h2⟩
    rcases form_apart h hs ht with rfl | q | q <;> omega
  · rintro ⟨t, ht, h1, h2⟩
    rcases form_apart h hs ht with rfl | q | q <;> omega
/-- Minutes one behind the other lie in one span. -/
theorem form_one {l : List Spn} (h : form l) {a b : Int} (hab : a < b) (hh : ∀ x, a ≤ x → x < b → has l x) : ∃ s ∈ l, s.1 ≤ a ∧ b ≤ s.2 := by
  obtain ⟨s, hs, h1, h2⟩ := hh a (Int.le_refl _) hab
  refine ⟨s, hs, h1, ?_⟩
  by_cases q : b ≤ s.2
  · exact q
  · exact absurd (hh s.2 (by omega) (by omega)) (form_stop h hs).1
theorem cnt_le13 (p : Int → Bool) (a : Int) (n : Nat) : cntN p a n ≤ n := by
  induction n with
  | zero => exact Nat.le_refl _
  | succ n ih => unfold cntN; split <;> omega
theorem in_bd {r : List Spn} {lo hi : Int} (hf : form r) (h : ∀ x, has r x → lo ≤ x ∧ x < hi) : ∀ s ∈ r, lo ≤ s.1 ∧ s.2 ≤ hi := fun s hs => by
  have h0 := form_pos hf hs
  have h1 := h s.1 ⟨s, hs, Int.le_refl _, h0⟩
  have h2 := h (s.2 - 1) ⟨s, hs, by omega, by omega⟩
  omega
theorem has_bd {l : List Spn} {lo hi : Int} (h : ∀ s ∈ l, lo ≤ s.1 ∧ s.2 ≤ hi) {x : Int} (hx : has l x) : lo ≤ x ∧ x < hi := by
  obtain ⟨s, hs, h1, h2⟩ := hx
  have := h s hs
  omega
/-- How many minutes are in a row, counted in a window that holds it. -/
theorem len_is {l : List Spn} {lo : Int} {n : Nat} (h : ∀ s ∈ l, lo ≤ s.1 ∧ s.2 ≤ lo + n) : len (formL l) = cntN (hasB l) lo n := by
  rw [len_cnt (formL l) lo n (formL_form l) (in_bd (formL_form l) fun x hx => has_bd h ((formL_has l x).1 hx))]
  congr 1
  exact cnt_congr fun m _ _ => formL_hasB l m
theorem len_pairW {a b : List Spn} {lo : Int} {n : Nat} (k : Int) (ha : ∀ s ∈ a, lo ≤ s.1 ∧ s.2 ≤ lo + n) (hb : ∀ s ∈ b, lo ≤ s.1 ∧ s.2 ≤ lo + n) : len (pair (cW k) a b) = cntN (fun m => cW k (hasB a m) (hasB b m)) lo n := by
  have hf := pair_form (cW k) a b
  have hbd : ∀ x, has (pair (cW k) a b) x → lo ≤ x ∧ x < lo + n := fun x hx => by
    rw [pairW_has] at hx
    by_cases q1 : hasB a x = true
    · exact has_bd ha ((hasB_iff a x).1 q1)
    · by_cases q2 : hasB b x = true
      · exact has_bd hb ((hasB_iff b x).1 q2)
      · rw [Bool.eq_false_iff.2 q1, Bool.eq_false_iff.2 q2, cW_ff] at hx; cases hx
  rw [len_cnt _ lo n hf (in_bd hf hbd)]
  congr 1
  exact cnt_congr fun m _ _ => pairW_hasB k a b m
/-- Of two rows the union, and what is in both, have as many minutes as both rows. -/
theorem len_two {a b : List Spn} {lo : Int} {n : Nat} (ha : ∀ s ∈ a, lo ≤ s.1 ∧ s.2 ≤ lo + n) (hb : ∀ s ∈ b, lo ≤ s.1 ∧ s.2 ≤ lo + n) :
    len (pair (cW 0) a b) + len (pair (cW 1) a b) = len (formL a) + len (formL b) ∧ len (pair (cW 1) a b) + len (pair (cW 2) a b) = len (formL a) := by
  rw [len_pairW 0 ha hb, len_pairW 1 ha hb, len_pairW 2 ha hb, len_is ha, len_is hb]
  have h1 := cnt_pt (p := fun m => cW 0 (hasB a m) (hasB b m)) (q := fun m => cW 1 (hasB a m) (hasB b m)) (r := hasB a) (s := hasB b) (fun m => by simp only [cW]; cases hasB a m <;> cases hasB b m <;> decide) lo n
  have h2 := cnt_pt (p := fun m => cW 1 (hasB a m) (hasB b m)) (q := fun m => cW 2 (hasB a m) (hasB b m)) (r := hasB a) (s := fun _ => false) (fun m => by simp only [cW]; cases hasB a m <;> cases hasB b m <;> decide) lo n
  have h3 : cntN (fun _ => false) lo n = 0 := cnt_none fun _ _ _ => rfl
  omega
/-- Which minutes are in a row that is grown, where no end is as far as there are minutes. -/
theorem grow_has {l : List Spn} {a b : Int} (ha : 0 ≤ a) (hb : 0 ≤ b) (hl : ∀ s ∈ formL l, -9223372036854775808 + a ≤ s.1 ∧ s.2 ≤ 9223372036854775807 - b) (x : Int) :
    has (growL l a b) x ↔ ∃ s ∈ formL l, s.1 - a ≤ x ∧ x < s.2 + b := by
  unfold growL
  rw [formL_has]
  have e : ∀ s ∈ formL l, lowI s.1 a = s.1 - a ∧ highI s.2 b = s.2 + b := fun s hs => by
    have := hl s hs
    unfold lowI highI
    constructor
    · split
      · rw [if_neg (by omega)]
      · omega
    · split
      · rw [if_neg (by omega)]
      · omega
  constructor
  · rintro ⟨t, ht, h1, h2⟩
    obtain ⟨s, hs, rfl⟩ := List.mem_map.1 ht
    obtain ⟨e1, e2⟩ := e s hs
    simp only [e1, e2] at h1 h2
    exact ⟨s, hs, h1, h2⟩
  · rintro ⟨s, hs, h1, h2⟩
    obtain ⟨e1, e2⟩ := e s hs
    exact ⟨_, List.mem_map.2 ⟨s, hs, rfl⟩, by simp only [e1]; exact h1, by simp only [e2]; exact h2⟩
theorem growL_form (l : List Spn) (a b : Int) : form (growL l a b) := formL_form _
theorem form_in {l : List Spn} {lo hi : Int} (h : ∀ s ∈ l, lo ≤ s.1 ∧ s.2 ≤ hi) : ∀ s ∈ formL l, lo ≤ s.1 ∧ s.2 ≤ hi :=
  in_bd (formL_form l) fun x hx => has_bd h ((formL_has l x).1 hx)
theorem grow_in {l : List Spn} {a b lo hi : Int} (ha : 0 ≤ a) (hb : 0 ≤ b) (hl : ∀ s ∈ l, lo ≤ s.1 ∧ s.2 ≤ hi) (h1 : -9223372036854775808 + a ≤ lo) (h2 : hi ≤ 9223372036854775807 - b) : ∀ s ∈ growL l a b, lo - a ≤ s.1 ∧ s.2 ≤ hi + b := by
  have hf := form_in hl
  refine in_bd (growL_form l a b) fun x hx => ?_
  obtain ⟨s, hs, q1, q2⟩ := (grow_has ha hb (fun s hs => by have := hf s hs; omega) x).1 hx
  have := hf s hs
  omega
/-- A row that is grown twice is grown by both together. -/
theorem grow_twice {l : List Spn} {a b c d lo hi : Int} (ha : 0 ≤ a) (hb : 0 ≤ b) (hc : 0 ≤ c) (hd : 0 ≤ d) (hl : ∀ s ∈ l, lo ≤ s.1 ∧ s.2 ≤ hi) (h1 : -9223372036854775808 + (a + c) ≤ lo) (h2 : hi ≤ 9223372036854775807 - (b + d)) :
    growL (growL l a b) c d = growL l (a + c) (b + d) := by
  have hf := form_in hl
  have hg := grow_in ha hb hl (by omega) (by omega)
  have hG := growL_form l a b
  have e1 := fun x => grow_has (l := l) ha hb (fun s hs => by have := hf s hs; omega) x
  refine form_unique _ _ (growL_form _ _ _) (growL_form _ _ _) fun x => ?_
  rw [grow_has (l := growL l a b) hc hd (fun s hs => by rw [formL_id hG] at hs; have := hg s hs; omega), grow_has (l := l) (by omega) (by omega) (fun s hs => by have := hf s hs; omega), formL_id hG]
  constructor
  · rintro ⟨s, hs, q1, q2⟩
    have h0 := form_pos hG hs
    obtain ⟨n1, n2⟩ := form_stop hG hs
    by_cases w1 : x < s.1
    · obtain ⟨t, ht, t1, t2⟩ := (e1 s.1).1 ⟨s, hs, Int.le_refl _, h0⟩
      have : ¬ t.1 - a ≤ s.1 - 1 := fun q => n2 ((e1 _).2 ⟨t, ht, q, by omega⟩)
      exact ⟨t, ht, by omega, by omega⟩
    · by_cases w2 : x < s.2
      · obtain ⟨t, ht, t1, t2⟩ := (e1 x).1 ⟨s, hs, by omega, w2⟩
        exact ⟨t, ht, by omega, by omega⟩
      · obtain ⟨t, ht, t1, t2⟩ := (e1 (s.2 - 1)).1 ⟨s, hs, by omega, by omega⟩
        have : ¬ s.2 < t.2 + b := fun q => n1 ((e1 _).2 ⟨t, ht, by omega, q⟩)
        exact ⟨t, ht, by omega, by omega⟩
  · rintro ⟨s, hs, q1, q2⟩
    have h0 := form_pos (formL_form l) hs
    obtain ⟨t, ht, t1, t2⟩ := form_one hG (a := s.1 - a) (b := s.2 + b) (by omega) (fun y y1 y2 => (e1 y).2 ⟨s, hs, y1, y2⟩)
    exact ⟨t, ht, by omega, by omega⟩
theorem grow_none {l : List Spn} {b : Int} (hb : b ≤ 0) : growL l 0 b = formL l := by
  unfold growL
  have e : ((formL l).map fun s => (lowI s.1 0, highI s.2 b)) = formL l := by
    conv => rhs; rw [← List.map_id (formL l)]
    refine List.map_congr_left fun s _ => ?_
    unfold lowI highI
    rw [if_neg (by omega), if_neg (by omega)]; rfl
  rw [e, formL_twice]
end Sp
end

/- Streams' rows in plain numbers: how many spans they have; a row alone. No text of the program is read here. -/
section
namespace Sp
theorem union_one (l : List Spn) : unionL [l] = formL l :=
  form_unique _ _ (pair_form (cW 0) [] l) (formL_form l) fun m => by
    show has (pair (cW 0) [] l) m ↔ _
    rw [pairW_has, formL_has, ← hasB_iff]
    simp [cW, hasB]
theorem unionFrom_len : ∀ (ls : List (List Spn)) (o : List Spn), (unionFrom o ls).length ≤ o.length + total ls
  | [], o => by simp [unionFrom, total]
  | l :: r, o => by
    have h1 := unionFrom_len r (pair (cW 0) o l)
    have h2 := pair_len (cW 0) o l
    have h3 : total (l :: r) = l.length + total r := by simp [total]
    show (unionFrom (pair (cW 0) o l) r).length ≤ _
    omega
theorem union_len (ls : List (List Spn)) : (unionL ls).length ≤ total ls := by have := unionFrom_len ls []; simpa [unionL] using this
theorem meetFrom_len : ∀ (ls : List (List Spn)) (o : List Spn), (meetFrom o ls).length ≤ o.length + total ls
  | [], o => by simp [meetFrom, total]
  | l :: r, o => by
    have h1 := meetFrom_len r (pair (cW 1) o l)
    have h2 := pair_len (cW 1) o l
    have h3 : total (l :: r) = l.length + total r := by simp [total]
    show (meetFrom (pair (cW 1) o l) r).length ≤ _
    omega
theorem meet_len : ∀ (ls : List (List Spn)), (meetL ls).length ≤ total ls
  | [] => Nat.zero_le _
  | l :: r => by
    have h1 := meetFrom_len r (formL l)
    have h2 := form_len l
    have h3 : total (l :: r) = l.length + total r := by simp [total]
    show (meetFrom (formL l) r).length ≤ _
    omega
theorem gaps_len (l : List Spn) (w : Spn) : (gapsL l w).length ≤ l.length + 1 := by have := pair_len (cW 2) [w] l; simp at this; unfold gapsL; omega
theorem growL_len (l : List Spn) (a b : Int) : (growL l a b).length ≤ l.length := by
  have h1 := form_len l
  have h2 := form_len ((formL l).map fun s => (lowI s.1 a, highI s.2 b))
  simp at h2
  unfold growL; omega
theorem startsL_len (l : List Spn) (n : Int) : (startsL l n).length ≤ l.length := by
  have h1 := form_len l
  have h2 := List.length_filterMap_le (fun s : Spn => if max 1 n ≤ s.2 - s.1 then some (s.1, s.2 - max 1 n + 1) else none) (formL l)
  unfold startsL; omega
theorem total_app (a b : List (List Spn)) : total (a ++ b) = total a + total b := by simp [total]
theorem total_one (l : List Spn) : total [l] = l.length := by simp [total]
theorem total_cut (ls : List (List Spn)) (j : Nat) : total (ls.take j) + total (ls.drop j) = total ls := by rw [← total_app, List.take_append_drop]
theorem sum_cut (ns : List Nat) (j : Nat) : (ns.take j).sum + (ns.drop j).sum = ns.sum := by rw [← List.sum_append, List.take_append_drop]
end Sp
end

/- A row to which spans are put whose starts rise; what is worked in a stretch, day by day, shift by shift. No text of the program is read here. -/
section
namespace Sp
theorem form_len_from : ∀ (l : List Spn) (lo hi : Int), formFrom lo l → (∀ t ∈ l, t.2 ≤ hi) → lo ≤ hi → (l.length : Int) ≤ hi - lo
  | [], lo, hi, _, _, h => by simp; omega
  | s :: r, lo, hi, h, hh, h0 => by
    have h1 := hh s List.mem_cons_self
    have h2 := h.1
    have h3 := h.2.1
    have ih := form_len_from r s.2 hi h.2.2 (fun t ht => hh t (List.mem_cons_of_mem _ ht)) h1
    rw [List.length_cons]; omega
/-- A span joined to a row whose starts aren't behind its own. -/
def jn (l : List Spn) (s : Spn) : List Spn :=
  match l.getLast? with
  | none => [s]
  | some t => if t.2 < s.1 then l ++ [s] else l.dropLast ++ [(t.1, max t.2 s.2)]
theorem jn_nil (s : Spn) : jn [] s = [s] := rfl
theorem jn_snoc (q : List Spn) (t s : Spn) : jn (q ++ [t]) s = if t.2 < s.1 then q ++ [t] ++ [s] else q ++ [(t.1, max t.2 s.2)] := by
  unfold jn; simp
theorem mem_has {l : List Spn} (h : form l) {t : Spn} (ht : t ∈ l) : t.1 < t.2 := by
  obtain ⟨a, b, rfl⟩ := List.append_of_mem ht
  have h1 : form ((a ++ [t]) ++ b) := by simpa using h
  have : ∀ (b q : List Spn), form (q ++ b) → form q := by
    intro b
    induction b with
    | nil => intro q h; simpa using h
    | cons x r ih => intro q h; have := ih (q ++ [x]) (by simpa using h); exact ((form_snoc _ _).1 this).1
  exact ((form_snoc _ _).1 (this b _ h1)).2.2
structure Jn (l : List Spn) (s : Spn) (r : List Spn) : Prop where
  form : form r
  starts : ∀ t ∈ r, t.1 ≤ s.1
  has : ∀ x, has r x ↔ has l x ∨ (s.1 ≤ x ∧ x < s.2)
  len : r.length ≤ l.length + 1
theorem jn_is {l : List Spn} {s : Spn} (h : form l) (hs : ∀ t ∈ l, t.1 ≤ s.1) (h0 : s.1 < s.2) : Jn l s (jn l s) := by
  rcases List.eq_nil_or_concat l with rfl | ⟨q, t, rfl⟩
  · rw [jn_nil]
    refine ⟨⟨h0, trivial⟩, fun t ht => ?_, fun x => ?_, by simp⟩
    · obtain rfl : t = s := by simpa using ht
      exact Int.le_refl _
    · rw [has_cons]
      constructor
      · rintro (k | k)
        · exact .inr k
        · exact absurd k (has_nil x)
      · rintro (k | k)
        · exact absurd k (has_nil x)
        · exact .inl k
  · rw [List.concat_eq_append] at *
    obtain ⟨k1, k2, k3⟩ := (form_snoc _ _).1 h
    have kt := hs t (by simp)
    rw [jn_snoc]
    by_cases hlt : t.2 < s.1
    · rw [if_pos hlt]
      refine ⟨(form_snoc _ _).2 ⟨h, fun u hu => ?_, h0⟩, fun u hu => ?_, fun x => has_snoc _ _ _, by simp⟩
      · rcases List.mem_append.1 hu with p | p
        · have := k2 u p; omega
        · obtain rfl : u = t := by simpa using p
          exact hlt
      · rcases List.mem_append.1 hu with p | p
        · exact hs u p
        · obtain rfl : u = s := by simpa using p
          exact Int.le_refl _
    · rw [if_neg hlt]
      refine ⟨(form_snoc _ _).2 ⟨k1, k2, by show t.1 < max t.2 s.2; omega⟩, fun u hu => ?_, fun x => ?_, by simp⟩
      · rcases List.mem_append.1 hu with p | p
        · exact hs u (List.mem_append.2 (.inl p))
        · obtain rfl : u = (t.1, max t.2 s.2) := by simpa using p
          exact kt
      · rw [has_snoc, has_snoc]
        simp only
        constructor
        · rintro (p | p)
          · exact .inl (.inl p)
          · by_cases e : x < t.2
            · exact .inl (.inr ⟨p.1, e⟩)
            · exact .inr ⟨by omega, by omega⟩
        · rintro ((p | p) | p)
          · exact .inl p
          · exact .inr ⟨p.1, by omega⟩
          · exact .inr ⟨by omega, by omega⟩
end Sp
namespace Hr
open Sp
/-- The day of a local time, and its minute. -/
def dyI (l : Int) : Int := (l + 10080) / 1440 - 7
def miI (l : Int) : Int := (l + 10080) % 1440
theorem dy_mi (l : Int) : l = dyI l * 1440 + miI l ∧ 0 ≤ miI l ∧ miI l < 1440 := by unfold dyI miI; omega
theorem dy_of {l d : Int} : dyI l = d ↔ d * 1440 ≤ l ∧ l < d * 1440 + 1440 := by unfold dyI; omega
theorem dy_lt {l d : Int} : dyI l < d ↔ l < d * 1440 := by unfold dyI; omega
/-- Is a local time worked? -/
def locB (h : H) (l : Int) : Bool := !(h.off.any fun d => decide (d = dyI l)) && h.shifts.any (onB (dyI l) (miI l))
theorem works_loc (h : H) (add : Int → Int) (u : Int) : worksB h add u = (decide (0 ≤ u) && decide (u ≤ 158310719) && locB h (u + add u)) := rfl
/-- Shifts in order. -/
def InT (l : List (Int × Int × Int)) : Prop := l.Pairwise fun a b => a.2.1 ≤ b.2.1
theorem int_at {l : List (Int × Int × Int)} (h : InT l) {i j : Nat} {a b : Int × Int × Int} (hi : l[i]? = some a) (hj : l[j]? = some b) (hij : i ≤ j) : a.2.1 ≤ b.2.1 := by
  obtain ⟨hi', rfl⟩ := List.getElem?_eq_some_iff.1 hi
  obtain ⟨hj', rfl⟩ := List.getElem?_eq_some_iff.1 hj
  by_cases e : i = j
  · subst e; exact Int.le_refl _
  · exact List.pairwise_iff_getElem.1 h i j hi' hj' (by omega)
/-- What is there ahead of a day, within a stretch. -/
structure DayR (R0 : List Spn) (h : H) (a b add d : Int) (l : List Spn) : Prop where
  form : form l
  has : ∀ x, Sp.has l x ↔ Sp.has R0 x ∨ (a ≤ x ∧ x < b ∧ dyI (x + add) < d ∧ locB h (x + add) = true)
/-- .. ahead of a shift of a day that isn't off. -/
structure ShiftR (R0 : List Spn) (h : H) (T : List (Int × Int × Int)) (a b add d : Int) (k : Nat) (l : List Spn) : Prop where
  form : form l
  next : ∀ i s, k ≤ i → T[i]? = some s → ∀ t ∈ l, t.1 ≤ max (d * 1440 - add + s.2.1) a
  has : ∀ x, Sp.has l x ↔ (Sp.has R0 x ∨ (a ≤ x ∧ x < b ∧ dyI (x + add) < d ∧ locB h (x + add) = true)) ∨ (a ≤ x ∧ x < b ∧ dyI (x + add) = d ∧ (T.take k).any (onB d (miI (x + add))) = true)
section
variable {R0 l : List Spn} {h : H} {T : List (Int × Int × Int)} {a b add d : Int} {k : Nat}
theorem DayR.start (hf : Sp.form R0) : DayR R0 h a b add (dyI (a + add)) R0 := by
  refine ⟨hf, fun x => ⟨.inl, ?_⟩⟩
  rintro (q | ⟨q1, _, q3, _⟩)
  · exact q
  · rw [dy_lt] at q3
    have := (dy_of (l := a + add) (d := dyI (a + add))).1 rfl
    omega
theorem DayR.off (q : DayR R0 h a b add d l) (ho : (h.off.any fun x => decide (x = d)) = true) : DayR R0 h a b add (d + 1) l := by
  refine ⟨q.form, fun x => ?_⟩
  rw [q.has]
  refine or_congr Iff.rfl ⟨fun ⟨h1, h2, h3, h4⟩ => ⟨h1, h2, by omega, h4⟩, fun ⟨h1, h2, h3, h4⟩ => ⟨h1, h2, ?_, h4⟩⟩
  by_cases e : dyI (x + add) = d
  · unfold locB at h4
    rw [e, ho] at h4
    simp at h4
  · omega
theorem DayR.shifts (q : DayR R0 h a b add d l) (h0 : ∀ x, Sp.has R0 x → x < a) (hT : ∀ s ∈ T, 0 ≤ s.2.1) : ShiftR R0 h T a b add d 0 l := by
  refine ⟨q.form, fun i s _ hi t ht => ?_, fun x => ?_⟩
  · have h1 := mem_has q.form ht
    have h2 := (q.has t.1).1 ⟨t, ht, Int.le_refl _, h1⟩
    have h3 := hT s (List.mem_of_getElem? hi)
    rcases h2 with p | ⟨p1, p2, p3, _⟩
    · have := h0 _ p; omega
    · rw [dy_lt] at p3; omega
  · rw [q.has]
    simp
theorem take_any {α : Type} {p : α → Bool} {l : List α} {k : Nat} {x : α} (h : l[k]? = some x) : (l.take (k + 1)).any p = true ↔ (l.take k).any p = true ∨ p x = true := by
  rw [List.take_add_one, h, List.any_append]; simp
/-- A shift that isn't on this day, or has no minute in the stretch. -/
theorem ShiftR.skip (q : ShiftR R0 h T a b add d k l) {s : Int × Int × Int} (hs : T[k]? = some s) (h0 : 0 ≤ s.2.1 ∧ s.2.2 ≤ 1440) (hn : bitB s.1 ((d + 7) % 7).toNat = false ∨ ¬ max (d * 1440 - add + s.2.1) a < min (d * 1440 - add + s.2.2) b) : ShiftR R0 h T a b add d (k + 1) l := by
  refine ⟨q.form, fun i s' hi hs' t ht => q.next i s' (by omega) hs' t ht, fun x => ?_⟩
  rw [q.has]
  refine or_congr Iff.rfl ⟨fun ⟨h1, h2, h3, h4⟩ => ⟨h1, h2, h3, (take_any hs).2 (.inl h4)⟩, fun ⟨h1, h2, h3, h4⟩ => ⟨h1, h2, h3, ?_⟩⟩
  rcases (take_any hs).1 h4 with p | p
  · exact p
  · exfalso
    unfold onB at p
    rw [Bool.and_eq_true, Bool.and_eq_true, decide_eq_true_eq, decide_eq_true_eq] at p
    have hm := dy_mi (x + add)
    rw [h3] at hm
    rcases hn with e | e
    · rw [e] at p; exact absurd p.1.1 (by simp)
    · omega
/-- A shift that has. -/
theorem ShiftR.join (q : ShiftR R0 h T a b add d k l) (hT : InT T) {s : Int × Int × Int} (hs : T[k]? = some s) (h0 : 0 ≤ s.2.1 ∧ s.2.2 ≤ 1440) (hb : bitB s.1 ((d + 7) % 7).toNat = true) (hn : max (d * 1440 - add + s.2.1) a < min (d * 1440 - add + s.2.2) b) :
    ShiftR R0 h T a b add d (k + 1) (jn l (max (d * 1440 - add + s.2.1) a, min (d * 1440 - add + s.2.2) b)) := by
  have hj := jn_is (s := (max (d * 1440 - add + s.2.1) a, min (d * 1440 - add + s.2.2) b)) q.form (fun t ht => q.next k s (Nat.le_refl _) hs t ht) hn
  refine ⟨hj.form, fun i s' hi hs' t ht => ?_, fun x => ?_⟩
  · have h1 := hj.starts t ht
    have h2 := int_at hT hs hs' (by omega)
    simp only at h1
    omega
  · rw [hj.has, q.has]
    simp only
    constructor
    · rintro ((p | ⟨p1, p2, p3, p4⟩) | p)
      · exact .inl p
      · exact .inr ⟨p1, p2, p3, (take_any hs).2 (.inl p4)⟩
      · have hd : dyI (x + add) = d := dy_of.2 (by omega)
        have hm := dy_mi (x + add)
        rw [hd] at hm
        refine .inr ⟨by omega, by omega, hd, (take_any hs).2 (.inr ?_)⟩
        unfold onB
        rw [hb, decide_eq_true (show s.2.1 ≤ miI (x + add) by omega), decide_eq_true (show miI (x + add) < s.2.2 by omega)]; rfl
    · rintro (p | ⟨p1, p2, p3, p4⟩)
      · exact .inl (.inl p)
      · rcases (take_any hs).1 p4 with p | p
        · exact .inl (.inr ⟨p1, p2, p3, p⟩)
        · unfold onB at p
          rw [Bool.and_eq_true, Bool.and_eq_true, decide_eq_true_eq, decide_eq_true_eq] at p
          have hm := dy_mi (x + add)
          rw [p3] at hm
          exact .inr (by omega)
theorem ShiftR.ends (q : ShiftR R0 h T a b add d T.length l) (hp : T.Perm h.shifts) (ho : (h.off.any fun x => decide (x = d)) = false) : DayR R0 h a b add (d + 1) l := by
  refine ⟨q.form, fun x => ?_⟩
  rw [q.has, List.take_length]
  have ha : ∀ m, T.any (onB d m) = h.shifts.any (onB d m) := fun m => by
    rw [Bool.eq_iff_iff, List.any_eq_true, List.any_eq_true]
    exact ⟨fun ⟨s, h1, h2⟩ => ⟨s, hp.mem_iff.1 h1, h2⟩, fun ⟨s, h1, h2⟩ => ⟨s, hp.mem_iff.2 h1, h2⟩⟩
  rw [ha, or_assoc]
  refine or_congr Iff.rfl ⟨?_, ?_⟩
  · rintro (⟨h1, h2, h3, h4⟩ | ⟨h1, h2, h3, h4⟩)
    · exact ⟨h1, h2, by omega, h4⟩
    · refine ⟨h1, h2, by omega, ?_⟩
      unfold locB
      rw [h3, ho, h4]; rfl
  · rintro ⟨h1, h2, h3, h4⟩
    by_cases e : dyI (x + add) = d
    · refine .inr ⟨h1, h2, e, ?_⟩
      unfold locB at h4
      rw [e, ho] at h4
      simpa using h4
    · exact .inl ⟨h1, h2, by omega, h4⟩
theorem DayR.ends (q : DayR R0 h a b add d l) (hd : dyI (b - 1 + add) < d) (x : Int) : Sp.has l x ↔ Sp.has R0 x ∨ (a ≤ x ∧ x < b ∧ locB h (x + add) = true) := by
  rw [q.has]
  refine or_congr Iff.rfl ⟨fun ⟨h1, h2, _, h4⟩ => ⟨h1, h2, h4⟩, fun ⟨h1, h2, h4⟩ => ⟨h1, h2, ?_, h4⟩⟩
  rw [dy_lt] at hd ⊢
  omega
/-- A row within bounds has no more spans than minutes. -/
theorem len_in {l : List Spn} {lo hi : Int} (hf : form l) (hlo : lo ≤ hi) (h : ∀ x, Sp.has l x → lo ≤ x ∧ x < hi) : (l.length : Int) ≤ hi - lo + 1 := by
  have h2 : ∀ t ∈ l, lo ≤ t.1 ∧ t.2 ≤ hi := fun t ht => by
    have h0 := mem_has hf ht
    have h1 := h t.1 ⟨t, ht, Int.le_refl _, h0⟩
    have h3 := h (t.2 - 1) ⟨t, ht, by omega, by omega⟩
    omega
  have hf' : formFrom (lo - 1) l := by
    cases l with
    | nil => trivial
    | cons s r => exact ⟨by have := h2 s List.mem_cons_self; omega, hf⟩
  have := form_len_from l (lo - 1) hi hf' (fun t ht => (h2 t ht).2) (by omega)
  omega
end
end Hr
end

/- Rows of minutes: ways to a form: joined in the order of their starts, sorted, left out, grown and cut span by span, two rows gone through together. No text of the program is read here. -/
section
namespace Sp
theorem formL_congr {a b : List Spn} (h : ∀ m, has a m ↔ has b m) : formL a = formL b :=
  form_unique _ _ (formL_form a) (formL_form b) fun m => by rw [formL_has, formL_has, h]
theorem has_perm {a b : List Spn} (h : a.Perm b) (m : Int) : has a m ↔ has b m := by
  constructor <;> rintro ⟨s, hs, q⟩
  · exact ⟨s, h.mem_iff.1 hs, q⟩
  · exact ⟨s, h.mem_iff.2 hs, q⟩
theorem formL_perm {a b : List Spn} (h : a.Perm b) : formL a = formL b := formL_congr (has_perm h)
theorem has_filter {l : List Spn} {p : Spn → Bool} (hp : ∀ s, s.1 < s.2 → p s = true) (m : Int) : has (l.filter p) m ↔ has l m := by
  constructor
  · rintro ⟨s, hs, q⟩
    exact ⟨s, (List.mem_filter.1 hs).1, q⟩
  · rintro ⟨s, hs, q⟩
    exact ⟨s, List.mem_filter.2 ⟨hs, hp s (by omega)⟩, q⟩
theorem formL_filter (l : List Spn) {p : Spn → Bool} (hp : ∀ s, s.1 < s.2 → p s = true) : formL (l.filter p) = formL l := formL_congr (has_filter hp)
theorem pairW_congr (k : Int) {a b a' b' : List Spn} (h1 : ∀ m, has a m ↔ has a' m) (h2 : ∀ m, has b m ↔ has b' m) : pair (cW k) a b = pair (cW k) a' b' :=
  form_unique _ _ (pair_form _ _ _) (pair_form _ _ _) fun m => by
    rw [pairW_has, pairW_has, show hasB a m = hasB a' m from by rw [Bool.eq_iff_iff, hasB_iff, hasB_iff, h1], show hasB b m = hasB b' m from by rw [Bool.eq_iff_iff, hasB_iff, hasB_iff, h2]]
theorem pairW_forms (k : Int) (a b : List Spn) : pair (cW k) (formL a) (formL b) = pair (cW k) a b := pairW_congr k (formL_has a) (formL_has b)
theorem or_has (a b : List Spn) (m : Int) : has (pair (cW 0) a b) m ↔ has a m ∨ has b m := by
  rw [pairW_has, ← hasB_iff, ← hasB_iff]; unfold cW; cases hasB a m <;> cases hasB b m <;> decide
theorem and_has (a b : List Spn) (m : Int) : has (pair (cW 1) a b) m ↔ has a m ∧ has b m := by
  rw [pairW_has, ← hasB_iff, ← hasB_iff]; unfold cW; cases hasB a m <;> cases hasB b m <;> decide
theorem but_has (a b : List Spn) (m : Int) : has (pair (cW 2) a b) m ↔ has a m ∧ ¬ has b m := by
  rw [pairW_has, ← hasB_iff, ← hasB_iff]; unfold cW; cases hasB a m <;> cases hasB b m <;> decide
theorem union_form (a b : List Spn) : pair (cW 0) a b = formL (a ++ b) :=
  form_unique _ _ (pair_form _ _ _) (formL_form _) fun m => by rw [or_has, formL_has, has_append]
theorem pair_of {k : Int} {a b r : List Spn} (hf : form r) (h : ∀ m, has r m ↔ has (pair (cW k) a b) m) : r = pair (cW k) a b := form_unique _ _ hf (pair_form _ _ _) h
theorem formL_of {l r : List Spn} (hf : form r) (h : ∀ m, has r m ↔ has l m) : r = formL l := form_unique _ _ hf (formL_form _) fun m => by rw [h, formL_has]
/-- Spans joined one by one, their starts in order. -/
theorem fold_jn : ∀ (l q : List Spn), form q → (∀ t ∈ q, ∀ s ∈ l, t.1 ≤ s.1) → l.Pairwise (fun a b => a.1 ≤ b.1) → (∀ s ∈ l, s.1 < s.2) →
    form (l.foldl jn q) ∧ (∀ x, has (l.foldl jn q) x ↔ has q x ∨ has l x) ∧ (l.foldl jn q).length ≤ q.length + l.length
  | [], q, hq, _, _, _ => ⟨hq, fun x => by simp [has_nil], by simp⟩
  | s :: r, q, hq, hs, hp, h0 => by
    have J := jn_is hq (fun t ht => hs t ht s List.mem_cons_self) (h0 s List.mem_cons_self)
    have hp' := List.pairwise_cons.1 hp
    obtain ⟨k1, k2, k3⟩ := fold_jn r (jn q s) J.form (fun t ht u hu => Int.le_trans (J.starts t ht) (hp'.1 u hu)) hp'.2 (fun u hu => h0 u (List.mem_cons_of_mem _ hu))
    refine ⟨k1, fun x => ?_, ?_⟩
    · rw [List.foldl_cons, k2, J.has, has_cons, or_assoc]
    · have := J.len
      rw [List.foldl_cons, List.length_cons]; omega
theorem fold_is {l : List Spn} (hp : l.Pairwise fun a b => a.1 ≤ b.1) (h0 : ∀ s ∈ l, s.1 < s.2) : l.foldl jn [] = formL l := by
  obtain ⟨k1, k2, _⟩ := fold_jn l [] trivial (fun t ht => by cases ht) hp h0
  exact formL_of k1 fun x => by rw [k2]; simp [has_nil]
theorem fold_take {l : List Spn} {k : Nat} {s : Spn} (h : l[k]? = some s) (q : List Spn) : (l.take (k + 1)).foldl jn q = jn ((l.take k).foldl jn q) s := by
  rw [List.take_add_one, h]; simp
/-- A row joined from the first k spans of it. -/
theorem fold_mid {l : List Spn} (hp : l.Pairwise fun a b => a.1 ≤ b.1) (h0 : ∀ s ∈ l, s.1 < s.2) (k : Nat) : form ((l.take k).foldl jn []) ∧ ((l.take k).foldl jn []).length ≤ k := by
  obtain ⟨k1, _, k3⟩ := fold_jn (l.take k) [] trivial (fun t ht => by cases ht) (hp.sublist (List.take_sublist k l)) (fun s hs => h0 s (List.mem_of_mem_take hs))
  refine ⟨k1, ?_⟩
  have := List.length_take_le k l
  simp only [List.length_nil, Nat.zero_add] at k3
  omega
/-- What lies in a window, span by span. -/
theorem cut_map (l : List Spn) (w : Spn) : formL (l.map fun s => (max s.1 w.1, min s.2 w.2)) = pair (cW 1) l [w] :=
  form_unique _ _ (formL_form _) (pair_form _ _ _) fun m => by
    rw [formL_has, and_has]
    constructor
    · rintro ⟨t, ht, q⟩
      obtain ⟨s, hs, rfl⟩ := List.mem_map.1 ht
      exact ⟨⟨s, hs, by omega, by omega⟩, w, List.mem_singleton.2 rfl, by omega, by omega⟩
    · rintro ⟨⟨s, hs, q1, q2⟩, t, ht, q3, q4⟩
      obtain rfl : t = w := List.mem_singleton.1 ht
      exact ⟨_, List.mem_map.2 ⟨s, hs, rfl⟩, by dsimp only; omega, by dsimp only; omega⟩
/-- What two rows have in common, pair by pair. -/
theorem meet_map (a b : List Spn) : formL (a.flatMap fun s => b.map fun t => (max s.1 t.1, min s.2 t.2)) = pair (cW 1) a b :=
  form_unique _ _ (formL_form _) (pair_form _ _ _) fun m => by
    rw [formL_has, and_has]
    constructor
    · rintro ⟨u, hu, q⟩
      obtain ⟨s, hs, k⟩ := List.mem_flatMap.1 hu
      obtain ⟨t, ht, rfl⟩ := List.mem_map.1 k
      exact ⟨⟨s, hs, by omega, by omega⟩, t, ht, by omega, by omega⟩
    · rintro ⟨⟨s, hs, q1, q2⟩, t, ht, q3, q4⟩
      exact ⟨_, List.mem_flatMap.2 ⟨s, hs, List.mem_map.2 ⟨t, ht, rfl⟩⟩, by dsimp only; omega, by dsimp only; omega⟩
theorem low_le (n : Int) {b x : Int} (hx : -9223372036854775808 ≤ x) : lowI n b ≤ x ↔ n - max b 0 ≤ x := by
  unfold lowI; split
  · split <;> omega
  · omega
theorem high_lt (n : Int) {b x : Int} (hx : x < 9223372036854775807) : x < highI n b ↔ x < n + max b 0 := by
  unfold highI; split
  · split <;> omega
  · omega
/-- Spans grown one by one, those that are empty left out: the form grown. -/
theorem grow_ne {l : List Spn} (hl : ∀ s ∈ l, (-9223372036854775808 ≤ s.1 ∧ s.1 ≤ 9223372036854775807) ∧ -9223372036854775808 ≤ s.2 ∧ s.2 ≤ 9223372036854775807) (a b : Int) {p : Spn → Bool} (hp : ∀ s, p s = true ↔ s.1 < s.2) :
    formL ((l.filter p).map fun s => (lowI s.1 a, highI s.2 b)) = growL l a b := by
  have lo_ge : ∀ n c : Int, -9223372036854775808 ≤ n → -9223372036854775808 ≤ lowI n c := fun n c h => by unfold lowI; split <;> (try split) <;> omega
  have hi_le : ∀ n c : Int, n ≤ 9223372036854775807 → highI n c ≤ 9223372036854775807 := fun n c h => by unfold highI; split <;> (try split) <;> omega
  have hf : ∀ s ∈ formL l, -9223372036854775808 ≤ s.1 ∧ s.2 ≤ 9223372036854775807 := in_bd (formL_form l) fun x hx => by
    obtain ⟨s, hs, q1, q2⟩ := (formL_has l x).1 hx
    have := hl s hs
    omega
  refine formL_congr fun x => ?_
  constructor
  · rintro ⟨u, hu, q1, q2⟩
    obtain ⟨s, hs, rfl⟩ := List.mem_map.1 hu
    obtain ⟨hs, hn⟩ := List.mem_filter.1 hs
    have hn := (hp s).1 hn
    have hb := hl s hs
    have q3 := lo_ge s.1 a hb.1.1
    have q4 := hi_le s.2 b hb.2.2
    dsimp only at q1 q2
    obtain ⟨t, ht, t1, t2⟩ := form_one (formL_form l) (a := s.1) (b := s.2) hn (fun y y1 y2 => (formL_has l y).2 ⟨s, hs, y1, y2⟩)
    have w1 := (low_le s.1 (b := a) (x := x) (by omega)).1 q1
    have w2 := (high_lt s.2 (b := b) (x := x) (by omega)).1 q2
    exact ⟨_, List.mem_map.2 ⟨t, ht, rfl⟩, (low_le _ (by omega)).2 (by omega), (high_lt _ (by omega)).2 (by omega)⟩
  · rintro ⟨u, hu, q1, q2⟩
    obtain ⟨t, ht, rfl⟩ := List.mem_map.1 hu
    have hb := hf t ht
    have hn := form_pos (formL_form l) ht
    have q3 := lo_ge t.1 a hb.1
    have q4 := hi_le t.2 b hb.2
    dsimp only at q1 q2
    have w1 := (low_le t.1 (b := a) (x := x) (by omega)).1 q1
    have w2 := (high_lt t.2 (b := b) (x := x) (by omega)).1 q2
    have pick : ∀ y, t.1 ≤ y → y < t.2 → (y ≤ x ∨ y = t.1) → (x ≤ y ∨ y = t.2 - 1) → ∃ s ∈ (l.filter p).map fun s => (lowI s.1 a, highI s.2 b), s.1 ≤ x ∧ x < s.2 := by
      intro y y1 y2 y3 y4
      obtain ⟨s, hs, s1, s2⟩ := (formL_has l y).1 ⟨t, ht, y1, y2⟩
      refine ⟨_, List.mem_map.2 ⟨s, List.mem_filter.2 ⟨hs, (hp s).2 (by omega)⟩, rfl⟩, (low_le _ (by omega)).2 ?_, (high_lt _ (by omega)).2 ?_⟩
      · rcases y3 with y3 | y3 <;> omega
      · rcases y4 with y4 | y4 <;> omega
    by_cases c1 : x < t.1
    · exact pick t.1 (Int.le_refl _) hn (.inr rfl) (.inl (by omega))
    · by_cases c2 : x < t.2
      · exact pick x (by omega) c2 (.inl (Int.le_refl _)) (.inl (Int.le_refl _))
      · exact pick (t.2 - 1) (by omega) (by omega) (.inl (by omega)) (.inr rfl)
end Sp
end

/- Rows of minutes: a row made from low to high: all below a point is done. No text of the program is read here. -/
section
namespace Sp
theorem from_pw : ∀ {l : List Spn} {lo : Int}, formFrom lo l → l.Pairwise fun a b => a.2 < b.1
  | [], _, _ => List.Pairwise.nil
  | s :: r, _, h => List.pairwise_cons.2 ⟨fun t ht => (from_above h.2.2 t ht).1, from_pw h.2.2⟩
theorem form_pw {l : List Spn} (h : form l) : l.Pairwise fun a b => a.2 < b.1 := (form_from h).elim fun _ => from_pw
theorem form_at {l : List Spn} (h : form l) {i j : Nat} {s t : Spn} (hs : l[i]? = some s) (ht : l[j]? = some t) (hij : i < j) : s.2 < t.1 := by
  obtain ⟨hi, rfl⟩ := List.getElem?_eq_some_iff.1 hs
  obtain ⟨hj, rfl⟩ := List.getElem?_eq_some_iff.1 ht
  exact List.pairwise_iff_getElem.1 (form_pw h) i j hi hj hij
theorem at_pos {l : List Spn} (h : form l) {i : Nat} {s : Spn} (hs : l[i]? = some s) : s.1 < s.2 := form_pos h (List.mem_of_getElem? hs)
/-- Behind all spans ahead of i, and ahead of that: in none. -/
theorem form_out {l : List Spn} (h : form l) {i : Nat} {x : Int} (hi : i ≤ l.length) (h1 : ∀ k t, k + 1 = i → l[k]? = some t → t.2 ≤ x) (h2 : ∀ t, l[i]? = some t → x < t.1) : ¬ has l x := by
  rintro ⟨s, hs, s1, s2⟩
  obtain ⟨k, hk⟩ := List.getElem?_of_mem hs
  rcases Nat.lt_trichotomy k i with q | q | q
  · by_cases e : k + 1 = i
    · have := h1 k s e hk; omega
    · obtain ⟨hk', _⟩ := List.getElem?_eq_some_iff.1 hk
      cases hm : l[i - 1]? with
      | none =>
        have := List.getElem?_eq_none_iff.1 hm
        omega
      | some t =>
        have p1 := form_at h hk hm (by omega)
        have p2 := h1 (i - 1) t (by omega) hm
        have p3 := at_pos h hm
        omega
  · subst q
    have := h2 s hk; omega
  · cases hm : l[i]? with
    | none =>
      have := List.getElem?_eq_none_iff.1 hm
      obtain ⟨hk', _⟩ := List.getElem?_eq_some_iff.1 hk
      omega
    | some t =>
      have p1 := form_at h hm hk q
      have p2 := h2 t hm
      have p3 := at_pos h hm
      omega
/-- Behind all spans ahead of i, ahead of all behind it: in it, or in none. -/
theorem form_is {l : List Spn} (h : form l) {i : Nat} {s : Spn} (hs : l[i]? = some s) {x : Int} (h1 : ∀ k t, k + 1 = i → l[k]? = some t → t.2 ≤ x) (h2 : ∀ t, l[i + 1]? = some t → x < t.1) : has l x ↔ s.1 ≤ x ∧ x < s.2 := by
  obtain ⟨hi, _⟩ := List.getElem?_eq_some_iff.1 hs
  constructor
  · intro hx
    by_cases c1 : x < s.1
    · exact absurd hx (form_out h (i := i) (by omega) h1 fun t ht => by rw [hs] at ht; cases ht; exact c1)
    · by_cases c2 : x < s.2
      · exact ⟨by omega, c2⟩
      · exact absurd hx (form_out h (i := i + 1) (by omega) (fun k t hk ht => by
          obtain rfl : k = i := by omega
          rw [hs] at ht; cases ht; omega) h2)
  · exact fun q => ⟨s, List.mem_of_getElem? hs, q⟩
theorem form_before {l : List Spn} (h : form l) {i : Nat} {s : Spn} (hs : l[i]? = some s) : ¬ has l (s.1 - 1) := (form_stop h (List.mem_of_getElem? hs)).2
theorem form_after {l : List Spn} (h : form l) {i : Nat} {s : Spn} (hs : l[i]? = some s) : ¬ has l s.2 := (form_stop h (List.mem_of_getElem? hs)).1
/-- A row of the minutes of p below y, in its form. -/
structure Swp (p : Int → Prop) (y : Int) (out : List Spn) : Prop where
  form : form out
  has : ∀ x, has out x ↔ p x ∧ x < y
namespace Swp
variable {p : Int → Prop} {y z : Int} {out : List Spn}
theorem start (h : ∀ x, p x → y ≤ x) : Swp p y [] := ⟨trivial, fun x => ⟨fun q => absurd q (has_nil x), fun q => by have := h x q.1; omega⟩⟩
theorem skip (w : Swp p y out) (h : y ≤ z) (hn : ∀ x, y ≤ x → x < z → ¬ p x) : Swp p z out := ⟨w.form, fun x => by
  rw [w.has]
  constructor
  · exact fun q => ⟨q.1, by omega⟩
  · intro q
    refine ⟨q.1, ?_⟩
    by_cases c : x < y
    · exact c
    · exact absurd q.1 (hn x (by omega) q.2)⟩
theorem ends (w : Swp p y out) {u : Spn} (hu : u ∈ out) : u.2 ≤ y := by
  have h0 := form_pos w.form hu
  have := ((w.has (u.2 - 1)).1 ⟨u, hu, by omega, by omega⟩).2
  omega
theorem put (w : Swp p y out) (h : y < z) (hp : ∀ x, y ≤ x → x < z → p x) (h0 : ¬ p (y - 1)) : Swp p z (out ++ [(y, z)]) := by
  refine ⟨(form_snoc _ _).2 ⟨w.form, fun u hu => ?_, h⟩, fun x => ?_⟩
  · have q := form_pos w.form hu
    have k := (w.has (u.2 - 1)).1 ⟨u, hu, by omega, by omega⟩
    have : u.2 - 1 ≠ y - 1 := fun e => h0 (e ▸ k.1)
    have := k.2
    dsimp only
    omega
  · rw [has_snoc, w.has]
    constructor
    · rintro (q | q)
      · exact ⟨q.1, by omega⟩
      · exact ⟨hp x q.1 q.2, q.2⟩
    · intro q
      by_cases c : x < y
      · exact .inl ⟨q.1, c⟩
      · exact .inr ⟨by dsimp only; omega, q.2⟩
theorem join (w : Swp p y out) (h : y < z) (hp : ∀ x, y ≤ x → x < z → p x) : Swp p z (jn out (y, z)) := by
  have J := jn_is (s := (y, z)) w.form (fun t ht => by have := w.ends ht; have := form_pos w.form ht; dsimp only; omega) h
  refine ⟨J.form, fun x => ?_⟩
  rw [J.has, w.has]
  constructor
  · rintro (q | q)
    · exact ⟨q.1, by omega⟩
    · exact ⟨hp x q.1 q.2, q.2⟩
  · intro q
    by_cases c : x < y
    · exact .inl ⟨q.1, c⟩
    · exact .inr ⟨by dsimp only; omega, q.2⟩
theorem whole (w : Swp p y out) (h : ∀ x, p x → x < y) (x : Int) : Sp.has out x ↔ p x := by
  rw [w.has]; exact ⟨fun q => q.1, fun q => ⟨q, h x q⟩⟩
theorem isPair {k : Int} {a b : List Spn} (w : Swp (fun x => Sp.has (pair (cW k) a b) x) y out) (h : ∀ x, Sp.has (pair (cW k) a b) x → x < y) : out = pair (cW k) a b := pair_of w.form (w.whole h)
theorem congr {q : Int → Prop} (w : Swp p y out) (h : ∀ x, p x ↔ q x) : Swp q y out := ⟨w.form, fun x => by rw [w.has, h]⟩
end Swp
end Sp
end

/- Rows whose numbers are such of 64 bits. No text of the program is read here. -/
section
namespace Go.Proofs.Ytgmcacmdiiogmaa
open Sp
/-- All numbers of a row are such. -/
def In64 (l : List Spn) : Prop := ∀ s ∈ l, (-9223372036854775808 ≤ s.1 ∧ s.1 ≤ 9223372036854775807) ∧ (-9223372036854775808 ≤ s.2 ∧ s.2 ≤ 9223372036854775807)
theorem In64.bd {l : List Spn} (h : In64 l) : ∀ s ∈ l, (-9223372036854775808 : Int) ≤ s.1 ∧ s.2 ≤ -9223372036854775808 + (18446744073709551615 : Nat) := fun s hs => by
  have := h s hs
  omega
end Go.Proofs.Ytgmcacmdiiogmaa
end

/- Streams' rows minute by minute, in plain numbers: what each kind of stream has; the next span of a row. No text of the program is read here. -/
section
namespace Sp
theorem unionFromL_has : ∀ (ls : List (List Spn)) (o : List Spn) (m : Int), has (unionFrom o ls) m ↔ has o m ∨ ∃ l ∈ ls, has l m
  | [], o, m => by simp [unionFrom]
  | l :: r, o, m => by
    show has (unionFrom (pair (cW 0) o l) r) m ↔ _
    rw [unionFromL_has r, or_has]
    simp only [List.mem_cons, exists_eq_or_imp, or_assoc]
theorem unionL_has (ls : List (List Spn)) (m : Int) : has (unionL ls) m ↔ ∃ l ∈ ls, has l m := by
  unfold unionL
  rw [unionFromL_has]
  simp [has_nil]
theorem unionFromL_form : ∀ (ls : List (List Spn)) (o : List Spn), form o → form (unionFrom o ls)
  | [], _, h => h
  | l :: r, o, _ => unionFromL_form r _ (pair_form (cW 0) o l)
theorem unionL_form (ls : List (List Spn)) : form (unionL ls) := unionFromL_form ls [] trivial
theorem meetFromL_has : ∀ (ls : List (List Spn)) (o : List Spn) (m : Int), has (meetFrom o ls) m ↔ has o m ∧ ∀ l ∈ ls, has l m
  | [], o, m => by simp [meetFrom]
  | l :: r, o, m => by
    show has (meetFrom (pair (cW 1) o l) r) m ↔ _
    rw [meetFromL_has r, and_has]
    simp only [List.mem_cons, forall_eq_or_imp, and_assoc]
theorem meetFromL_form : ∀ (ls : List (List Spn)) (o : List Spn), form o → form (meetFrom o ls)
  | [], _, h => h
  | l :: r, o, _ => meetFromL_form r _ (pair_form (cW 1) o l)
theorem meetL_has (ls : List (List Spn)) (m : Int) : has (meetL ls) m ↔ 0 < ls.length ∧ ∀ l ∈ ls, has l m := by
  cases ls with
  | nil => simp [meetL, has_nil]
  | cons l r =>
    show has (meetFrom (formL l) r) m ↔ _
    rw [meetFromL_has, formL_has]
    simp
theorem meetL_form (ls : List (List Spn)) : form (meetL ls) := by
  cases ls with
  | nil => exact trivial
  | cons l r => exact meetFromL_form r _ (formL_form l)
theorem gapsL_has (l : List Spn) (w : Spn) (m : Int) : has (gapsL l w) m ↔ (w.1 ≤ m ∧ m < w.2) ∧ ¬ has l m := by
  unfold gapsL
  rw [but_has, has_cons]
  simp [has_nil]
theorem gapsL_form (l : List Spn) (w : Spn) : form (gapsL l w) := pair_form _ _ _
theorem lowI_ge {n c : Int} (h : -9223372036854775808 ≤ n) : -9223372036854775808 ≤ lowI n c := by unfold lowI; split <;> (try split) <;> omega
theorem highI_le {n c : Int} (h : n ≤ 9223372036854775807) : highI n c ≤ 9223372036854775807 := by unfold highI; split <;> (try split) <;> omega
theorem growL_has {l : List Spn} (hl : ∀ s ∈ l, -9223372036854775808 ≤ s.1 ∧ s.2 ≤ 9223372036854775807) (a b m : Int) :
    has (growL l a b) m ↔ (-9223372036854775808 ≤ m ∧ m < 9223372036854775807) ∧ ∃ x, has l x ∧ x - max a 0 ≤ m ∧ m ≤ x + max b 0 := by
  unfold growL
  rw [formL_has]
  have hf := form_in hl
  constructor
  · rintro ⟨u, hu, q1, q2⟩
    obtain ⟨s, hs, rfl⟩ := List.mem_map.1 hu
    have hb := hf s hs
    have hp := form_pos (formL_form l) hs
    dsimp only at q1 q2
    have w0 := lowI_ge (n := s.1) (c := a) hb.1
    have w3 := highI_le (n := s.2) (c := b) hb.2
    have w1 := (low_le s.1 (b := a) (x := m) (by omega)).1 q1
    have w2 := (high_lt s.2 (b := b) (x := m) (by omega)).1 q2
    refine ⟨by omega, ?_⟩
    by_cases h1 : m < s.1
    · exact ⟨s.1, (formL_has l _).1 ⟨s, hs, by omega, by omega⟩, by omega, by omega⟩
    · by_cases h2 : m < s.2
      · exact ⟨m, (formL_has l _).1 ⟨s, hs, by omega, by omega⟩, by omega, by omega⟩
      · exact ⟨s.2 - 1, (formL_has l _).1 ⟨s, hs, by omega, by omega⟩, by omega, by omega⟩
  · rintro ⟨⟨m1, m2⟩, x, hx, q1, q2⟩
    obtain ⟨s, hs, x1, x2⟩ := (formL_has l x).2 hx
    exact ⟨_, List.mem_map.2 ⟨s, hs, rfl⟩, (low_le _ (by omega)).2 (by omega), (high_lt _ (by omega)).2 (by omega)⟩
theorem pw_form : ∀ (l : List Spn) (lo : Int), (∀ s ∈ l, lo < s.1 ∧ s.1 < s.2) → l.Pairwise (fun a b => a.2 < b.1) → formFrom lo l
  | [], _, _, _ => trivial
  | s :: r, lo, h, hp => ⟨(h s (by simp)).1, (h s (by simp)).2, pw_form r s.2 (fun t ht => ⟨(List.pairwise_cons.1 hp).1 t ht, (h t (by simp [ht])).2⟩) (List.pairwise_cons.1 hp).2⟩
theorem pw_form' {l : List Spn} (h : ∀ s ∈ l, s.1 < s.2) (hp : l.Pairwise (fun a b => a.2 < b.1)) : form l := by
  cases l with
  | nil => exact trivial
  | cons s r => exact ⟨h s (by simp), pw_form r s.2 (fun t ht => ⟨(List.pairwise_cons.1 hp).1 t ht, h t (by simp [ht])⟩) (List.pairwise_cons.1 hp).2⟩
theorem startsL_form (l : List Spn) (n : Int) : form (startsL l n) := by
  have hpw := form_pw (formL_form l)
  refine pw_form' (fun s hs => ?_) ?_
  · obtain ⟨t, _, h⟩ := List.mem_filterMap.1 hs
    split at h
    · obtain rfl := Option.some.inj h; dsimp only; omega
    · cases h
  · unfold startsL
    rw [List.pairwise_filterMap]
    refine hpw.imp ?_
    intro a b hab u hu v hv
    split at hu
    · split at hv
      · obtain rfl := Option.some.inj hu; obtain rfl := Option.some.inj hv; dsimp only; omega
      · cases hv
    · cases hu
theorem startsL_has (l : List Spn) (n m : Int) : has (startsL l n) m ↔ ∀ x, m ≤ x → x < m + max 1 n → has l x := by
  constructor
  · rintro ⟨u, hu, q1, q2⟩ x x1 x2
    obtain ⟨s, hs, h⟩ := List.mem_filterMap.1 hu
    split at h
    · obtain rfl := Option.some.inj h
      dsimp only at q1 q2
      exact (formL_has l x).1 ⟨s, hs, by omega, by omega⟩
    · cases h
  · intro h
    obtain ⟨s, hs, s1, s2⟩ := form_one (formL_form l) (a := m) (b := m + max 1 n) (by omega) fun x x1 x2 => (formL_has l x).2 (h x x1 x2)
    exact ⟨(s.1, s.2 - max 1 n + 1), List.mem_filterMap.2 ⟨s, hs, by rw [if_pos (by omega)]⟩, by dsimp only; omega, by dsimp only; omega⟩
theorem behindL_has (l : List Spn) (k m : Int) : has (behindL l k) m ↔ k ≤ m ∧ has l m := by
  constructor
  · rintro ⟨u, hu, q1, q2⟩
    obtain ⟨s, hs, h⟩ := List.mem_filterMap.1 hu
    split at h
    · obtain rfl := Option.some.inj h
      dsimp only at q1 q2
      exact ⟨by omega, s, hs, by omega, by omega⟩
    · cases h
  · rintro ⟨hk, s, hs, q1, q2⟩
    exact ⟨(max s.1 k, s.2), List.mem_filterMap.2 ⟨s, hs, by rw [if_pos (by omega)]⟩, by dsimp only; omega, by dsimp only; omega⟩
theorem behindL_form {l : List Spn} (h : form l) (k : Int) : form (behindL l k) := by
  have hpw := form_pw h
  refine pw_form' (fun s hs => ?_) ?_
  · obtain ⟨t, ht, e⟩ := List.mem_filterMap.1 hs
    have := form_pos h ht
    split at e
    · obtain rfl := Option.some.inj e; dsimp only; omega
    · cases e
  · unfold behindL
    rw [List.pairwise_filterMap]
    refine List.Pairwise.imp_of_mem ?_ hpw
    intro a b ha hb hab u hu v hv
    have hb := form_pos h hb
    split at hu
    · split at hv
      · obtain rfl := Option.some.inj hu; obtain rfl := Option.some.inj hv; dsimp only; omega
      · cases hv
    · cases hu
/-- All numbers of a row in its form lie where its minutes do. -/
theorem form_bd {l : List Spn} (hf : form l) (h : ∀ x, has l x → -9223372036854775808 ≤ x ∧ x < 9223372036854775807) : ∀ s ∈ l, (-9223372036854775808 ≤ s.1 ∧ s.1 ≤ 9223372036854775807) ∧ (-9223372036854775808 ≤ s.2 ∧ s.2 ≤ 9223372036854775807) := fun s hs => by
  have h0 := form_pos hf hs
  have h1 := h s.1 ⟨s, hs, by omega, by omega⟩
  have h2 := h (s.2 - 1) ⟨s, hs, by omega, by omega⟩
  omega
/-- The next span of a row, found minute by minute: none is left. -/
theorem next_none {l : List Spn} (hf : form l) {lo : Int} (h1 : ∀ x, has l x → lo ≤ x) (h2 : ∀ x, lo ≤ x → ¬ has l x) : l = [] := by
  cases l with
  | nil => rfl
  | cons s r =>
    have := form_pos hf (s := s) (by simp)
    have hh : has (s :: r) s.1 := ⟨s, by simp, by omega, by omega⟩
    exact absurd hh (h2 _ (h1 _ hh))
/-- It is the first one: what is left lies behind it. -/
theorem next_some {l : List Spn} (hf : form l) {lo a b : Int} (h1 : ∀ x, has l x → lo ≤ x) (hlo : lo ≤ a) (h2 : ∀ x, lo ≤ x → x < a → ¬ has l x) (hab : a < b) (h3 : ∀ x, a ≤ x → x < b → has l x) (h4 : ¬ has l b) :
    ∃ r, l = (a, b) :: r ∧ form r ∧ ∀ x, has r x ↔ b ≤ x ∧ has l x := by
  cases l with
  | nil => exact absurd (h3 a (by omega) hab) (has_nil a)
  | cons s r =>
    have hp := form_pos hf (s := s) (by simp)
    have hs : has (s :: r) s.1 := ⟨s, by simp, by omega, by omega⟩
    have ha : s.1 = a := by
      have g1 : a ≤ s.1 := by
        by_cases h : s.1 < a
        · exact absurd hs (h2 _ (h1 _ hs) h)
        · omega
      rcases (has_cons s r a).1 (h3 a (by omega) hab) with h | h
      · omega
      · have := has_above hf.2 h; omega
    have hb : s.2 = b := by
      by_cases h : b < s.2
      · exact absurd ⟨s, by simp, by omega, h⟩ h4
      · by_cases h' : s.2 < b
        · exact absurd (h3 s.2 (by omega) h') (form_stop hf (s := s) (by simp)).1
        · omega
    obtain ⟨s1, s2⟩ := s
    simp only at ha hb hp
    subst ha hb
    refine ⟨r, rfl, formFrom_form hf.2, fun x => ?_⟩
    rw [has_cons]
    constructor
    · intro h
      have := has_above hf.2 h
      dsimp only at this
      exact ⟨by omega, .inr h⟩
    · rintro ⟨q, h | h⟩
      · dsimp only at h; omega
      · exact h
/-- Sums of so many numbers. -/
def sumTo (f : Nat → Nat) : Nat → Nat
  | 0 => 0
  | k + 1 => sumTo f k + f k
theorem sumTo_congr {f g : Nat → Nat} : ∀ {k : Nat}, (∀ i, i < k → f i = g i) → sumTo f k = sumTo g k
  | 0, _ => rfl
  | k + 1, h => by
    show sumTo f k + f k = sumTo g k + g k
    rw [sumTo_congr (k := k) fun i hi => h i (by omega), h k (by omega)]
theorem sumTo_upd (f : Nat → Nat) (i x : Nat) : ∀ {k : Nat}, i < k → sumTo (fun j => if j = i then x else f j) k + f i = sumTo f k + x
  | 0, h => by omega
  | k + 1, h => by
    show sumTo _ k + (if k = i then x else f k) + f i = sumTo f k + f k + x
    by_cases e : k = i
    · subst e
      rw [if_pos rfl, sumTo_congr (k := k) (g := f) fun j hj => if_neg (by omega)]; omega
    · rw [if_neg e]
      have := sumTo_upd f i x (k := k) (by omega)
      omega
theorem sumTo_list : ∀ (l : List Nat), sumTo (fun i => l.getD i 0) l.length = l.sum := by
  intro l
  have h : ∀ k, k ≤ l.length → sumTo (fun i => l.getD i 0) k = (l.take k).sum := by
    intro k
    induction k with
    | zero => intro _; rfl
    | succ k ih =>
      intro hk
      show sumTo _ k + l.getD k 0 = _
      rw [ih (by omega), List.take_succ_eq_append_getElem (by omega), List.sum_append, List.getD_eq_getElem?_getD, List.getElem?_eq_getElem (by omega)]
      simp
  have := h l.length (Nat.le_refl _)
  rwa [List.take_length] at this
/-- The first span of a row that is left. -/
theorem form_cut {s : Spn} {r : List Spn} {x m : Int} (hm : s.2 ≤ m) (hx : m ≤ x) : has (s :: r) x ↔ has r x := by
  rw [has_cons]
  constructor
  · rintro (h | h)
    · omega
    · exact h
  · exact .inr
theorem form_first {s : Spn} {r : List Spn} (hf : form (s :: r)) {x : Int} (hx : x < s.2) : has (s :: r) x ↔ s.1 ≤ x := by
  rw [has_cons]
  constructor
  · rintro (h | h)
    · exact h.1
    · have := has_above hf.2 h; omega
  · exact fun h => .inl ⟨h, hx⟩
theorem form_touch {s : Spn} {r : List Spn} (hf : form (s :: r)) : ¬ has (s :: r) s.2 := (form_stop hf (by simp)).1
end Sp
end

/- Rows of minutes: two rows in their forms gone through together, by two places. No text of the program is read here. -/
section
namespace Sp
/-- All minutes that both rows have, below y, are out; the spans ahead of i, and of j, are passed. -/
structure Meets (a b : List Spn) (i j : Nat) (y : Int) (out : List Spn) : Prop where
  swp : Swp (fun x => has a x ∧ has b x) y out
  ia : i ≤ a.length
  jb : j ≤ b.length
  pa : ∀ k s, k + 1 = i → a[k]? = some s → s.2 ≤ y
  pb : ∀ k s, k + 1 = j → b[k]? = some s → s.2 ≤ y
  qa : ∀ s, a[i]? = some s → y ≤ s.2
  qb : ∀ s, b[j]? = some s → y ≤ s.2
  lo : ∀ s t, a[i]? = some s → b[j]? = some t → y < max s.1 t.1
namespace Meets
variable {a b : List Spn} {i j : Nat} {y : Int} {out : List Spn}
theorem swap (m : Meets a b i j y out) : Meets b a j i y out :=
  ⟨m.swp.congr fun _ => and_comm, m.jb, m.ia, m.pb, m.pa, m.qb, m.qa, fun s t hs ht => by have := m.lo t s ht hs; omega⟩
theorem start (ha : form a) (hb : form b) : ∃ y, Meets a b 0 0 y [] := by
  obtain ⟨u, hu⟩ := form_from ha
  obtain ⟨v, hv⟩ := form_from hb
  have fa := from_above hu
  have fb := from_above hv
  refine ⟨min u v, Swp.start fun x q => ?_, Nat.zero_le _, Nat.zero_le _, fun k s h => by omega, fun k s h => by omega, fun s h => ?_, fun s h => ?_, fun s t h _ => ?_⟩
  · obtain ⟨s, hs, s1, s2⟩ := q.1
    have := fa s hs; omega
  · have := fa s (List.mem_of_getElem? h); omega
  · have := fb s (List.mem_of_getElem? h); omega
  · have := fa s (List.mem_of_getElem? h); omega
/-- The first row's span ends first, or both end at once: it is passed. -/
theorem stepA (m : Meets a b i j y out) (ha : form a) (hb : form b) {s t : Spn} (hs : a[i]? = some s) (ht : b[j]? = some t) (h : s.2 ≤ t.2) :
    Meets a b (i + 1) j s.2 (if max s.1 t.1 < min s.2 t.2 then out ++ [(max s.1 t.1, min s.2 t.2)] else out) := by
  have e : min s.2 t.2 = s.2 := by omega
  rw [e]
  have hlo := m.lo s t hs ht
  have hy := m.qa s hs
  have hia := (List.getElem?_eq_some_iff.1 hs).1
  have A : ∀ x, y ≤ x → x < s.2 → (has a x ↔ s.1 ≤ x ∧ x < s.2) := fun x x1 x2 => form_is ha hs (fun k u hk hu => by have := m.pa k u hk hu; omega) fun u hu => by
    have := form_at ha hs hu (by omega); omega
  have B : ∀ x, y ≤ x → x < s.2 → (has b x ↔ t.1 ≤ x ∧ x < t.2) := fun x x1 x2 => form_is hb ht (fun k u hk hu => by have := m.pb k u hk hu; omega) fun u hu => by
    have := form_at hb ht hu (by omega); omega
  have S : Swp (fun x => has a x ∧ has b x) s.2 (if max s.1 t.1 < s.2 then out ++ [(max s.1 t.1, s.2)] else out) := by
    split
    · rename_i c
      refine (m.swp.skip (z := max s.1 t.1) (by omega) fun x x1 x2 q => ?_).put c (fun x x1 x2 => ⟨(A x (by omega) x2).2 (by omega), (B x (by omega) x2).2 (by omega)⟩) fun q => ?_
      · have k1 := (A x x1 (by omega)).1 q.1
        have k2 := (B x x1 (by omega)).1 q.2
        omega
      · by_cases c2 : t.1 ≤ s.1
        · exact form_before ha hs (by have := q.1; rwa [show max s.1 t.1 = s.1 by omega] at this)
        · exact form_before hb ht (by have := q.2; rwa [show max s.1 t.1 = t.1 by omega] at this)
    · rename_i c
      refine m.swp.skip hy fun x x1 x2 q => ?_
      have k1 := (A x x1 x2).1 q.1
      have k2 := (B x x1 x2).1 q.2
      omega
  refine ⟨S, hia, m.jb, fun k u hk hu => ?_, fun k u hk hu => Int.le_trans (m.pb k u hk hu) hy, fun u hu => ?_, fun u hu => ?_, fun u v hu hv => ?_⟩
  · obtain rfl : k = i := by omega
    rw [hs] at hu; cases hu; exact Int.le_refl _
  · have := form_at ha hs hu (by omega)
    have := at_pos ha hu
    omega
  · rw [ht] at hu; cases hu; exact h
  · have := form_at ha hs hu (by omega); omega
theorem stepB (m : Meets a b i j y out) (ha : form a) (hb : form b) {s t : Spn} (hs : a[i]? = some s) (ht : b[j]? = some t) (h : t.2 ≤ s.2) :
    Meets a b i (j + 1) t.2 (if max s.1 t.1 < min s.2 t.2 then out ++ [(max s.1 t.1, min s.2 t.2)] else out) := by
  have := (m.swap.stepA hb ha ht hs h).swap
  rwa [show max t.1 s.1 = max s.1 t.1 by omega, show min t.2 s.2 = min s.2 t.2 by omega] at this
/-- A span of the first row that ends where all is done is passed. -/
theorem passA (m : Meets a b i j y out) (ha : form a) {s : Spn} (hs : a[i]? = some s) (h : s.2 ≤ y) : Meets a b (i + 1) j y out := by
  have hia := (List.getElem?_eq_some_iff.1 hs).1
  refine ⟨m.swp, hia, m.jb, fun k u hk hu => ?_, m.pb, fun u hu => ?_, m.qb, fun u v hu hv => ?_⟩
  · obtain rfl : k = i := by omega
    rw [hs] at hu; cases hu; exact h
  · have := form_at ha hs hu (by omega)
    have := at_pos ha hu
    have := m.qa s hs
    omega
  · have := form_at ha hs hu (by omega)
    have := m.qa s hs
    omega
theorem passB (m : Meets a b i j y out) (hb : form b) {t : Spn} (ht : b[j]? = some t) (h : t.2 ≤ y) : Meets a b i (j + 1) y out := (m.swap.passA hb ht h).swap
theorem endA (m : Meets a b a.length j y out) (ha : form a) : out = pair (cW 1) a b :=
  pair_of m.swp.form fun x => by
    rw [and_has, m.swp.whole fun x q => ?_]
    refine Int.lt_of_not_ge fun c => form_out ha (Nat.le_refl _) (fun k t hk ht => Int.le_trans (m.pa k t hk ht) c) (fun t ht => ?_) q.1
    have := (List.getElem?_eq_some_iff.1 ht).1
    omega
theorem endB (m : Meets a b i b.length y out) (hb : form b) : out = pair (cW 1) a b := by
  rw [m.swap.endA hb]
  exact form_unique _ _ (pair_form _ _ _) (pair_form _ _ _) fun x => by rw [and_has, and_has, and_comm]
/-- One of the two is gone through. -/
theorem ends (m : Meets a b i j y out) (h : i = a.length ∨ j = b.length) (ha : form a) (hb : form b) : out = pair (cW 1) a b := by
  rcases h with rfl | rfl
  · exact m.endA ha
  · exact m.endB hb
end Meets
end Sp
end
