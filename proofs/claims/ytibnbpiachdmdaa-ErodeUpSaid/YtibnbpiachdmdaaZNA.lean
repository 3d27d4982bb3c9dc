import Derived.Test.YtibnbpiachdmdaaZMA
/- Streams' rows in plain numbers. No text of the program is read here. -/
section
namespace Sp
/-- What a pair is of, by its kind (as 'cK'). -/
def cW (k : Int) (x y : Bool) : Bool := if k = 1 then x && y else if 1 < k then x && !y else x || y
theorem cW_ff (k : Int) : cW k false false = false := by unfold cW; split <;> (try split) <;> rfl
def formL (l : List Spn) : List Spn := pair (cW 0) l []
def startsL (l : List Spn) (n : Int) : List Spn := (formL l).filterMap fun s => if max 1 n ≤ s.2 - s.1 then some (s.1, s.2 - max 1 n + 1) else none
def behindL (l : List Spn) (m : Int) : List Spn := l.filterMap fun s => if m < s.2 then some (max s.1 m, s.2) else none
theorem bld_skip (p : Int → Bool) (y : Int) (r : List Int) (h : p y = false) : bld p (y :: r) = bld p r := by
  cases r with
  | nil => simp [bld]
  | cons z r => rw [bld_two, if_neg (by rw [h]; simp)]
theorem bld_head (p : Int → Bool) (y z : Int) (r : List Int) (h : p y = true) : ∃ s q, bld p (y :: z :: r) = s :: q ∧ s.1 = y := by
  rw [bld_two, if_pos h]
  split
  · exact ⟨_, _, rfl, rfl⟩
  · split
    · exact ⟨_, _, rfl, rfl⟩
    · exact ⟨_, _, rfl, rfl⟩
theorem bld_len (p : Int → Bool) : ∀ (n : Nat) (e : List Int), e.length ≤ n → 2 * (bld p e).length ≤ e.length
  | _, [], _ => by simp [bld]
  | _, [x], _ => by simp [bld]
  | 0, x :: y :: r, h => by simp at h
  | n + 1, x :: y :: r, h => by
    simp only [List.length_cons] at h
    have ih := bld_len p n (y :: r) (by simp; omega)
    have ih2 := bld_len p n r (by omega)
    have hh := bld_head p y
    have hs := bld_skip p y r
    rw [bld_two]
    split
    · split
      · simp
      · rename_i s q hq
        rw [hq] at ih
        split
        · simp at ih ⊢; omega
        · rename_i hne
          have hy : p y = false := by
            cases hp : p y with
            | false => rfl
            | true =>
              cases r with
              | nil => simp [bld] at hq
              | cons z r2 =>
                obtain ⟨s', q', e', h'⟩ := hh z r2 hp
                rw [e'] at hq
                obtain ⟨rfl, rfl⟩ := List.cons.inj hq
                exact absurd h' hne
          rw [← hs hy, hq] at ih2
          simp at ih2 ⊢; omega
    · simp at ih ⊢; omega
theorem putI_len2 (l : List Int) (n : Int) : (putI l n).length ≤ l.length + 1 := by
  induction l with
  | nil => simp [putI]
  | cons x r ih =>
    unfold putI
    repeat' split
    all_goals simp at ih ⊢
    all_goals omega
theorem edg_len2 (a : List Spn) : ∀ l, (edg l a).length ≤ l.length + 2 * a.length := by
  induction a with
  | nil => intro l; simp [edg]
  | cons s r ih =>
    intro l
    have := ih (edgS l s)
    have h1 := putI_len2 (putI l s.1) s.2
    have h2 := putI_len2 l s.1
    unfold edg at this ⊢
    unfold edgS at this
    simp only [List.foldl_cons, List.length_cons]
    unfold edgS
    omega
theorem pair_len (c : Bool → Bool → Bool) (a b : List Spn) : (pair c a b).length ≤ a.length + b.length := by
  unfold pair
  have h1 := bld_len (fun z => c (hasB a z) (hasB b z)) _ (edges a b) (Nat.le_refl _)
  have h2 := edg_len2 b (edg [] a)
  have h3 := edg_len2 a []
  unfold edges at h1
  unfold edges
  simp at h3
  omega
theorem form_len (l : List Spn) : (formL l).length ≤ l.length := by have := pair_len (cW 0) l []; simpa [formL] using this
end Sp
end
/- A row found minute by minute. No text of the program is read here. -/
section
namespace Sp
theorem formFrom_snoc : ∀ (l : List Spn) (lo : Int) (s : Spn), formFrom lo (l ++ [s]) ↔ formFrom lo l ∧ lo < s.1 ∧ (∀ t ∈ l, t.2 < s.1) ∧ s.1 < s.2
  | [], lo, s => by simp [formFrom]
  | x :: r, lo, s => by
    have ih := formFrom_snoc r x.2 s
    simp only [List.cons_append, formFrom, ih, List.forall_mem_cons]
    constructor
    · rintro ⟨h1, h2, h3, h4, h5, h6⟩
      exact ⟨⟨h1, h2, h3⟩, by omega, ⟨h4, h5⟩, h6⟩
    · rintro ⟨⟨h1, h2, h3⟩, h4, ⟨h5, h6⟩, h7⟩
      exact ⟨h1, h2, h3, h5, h6, h7⟩
theorem form_snoc (l : List Spn) (s : Spn) : form (l ++ [s]) ↔ form l ∧ (∀ t ∈ l, t.2 < s.1) ∧ s.1 < s.2 := by
  cases l with
  | nil => simp [form, formFrom]
  | cons x r =>
    have := formFrom_snoc r x.2 s
    simp only [List.cons_append, form, this, List.forall_mem_cons]
    constructor
    · rintro ⟨h1, h2, h3, h4, h5⟩
      exact ⟨⟨h1, h2⟩, ⟨h3, h4⟩, h5⟩
    · rintro ⟨⟨h1, h2⟩, ⟨h3, h4⟩, h5⟩
      exact ⟨h1, h2, h3, h4, h5⟩
theorem has_snoc (l : List Spn) (s : Spn) (x : Int) : has (l ++ [s]) x ↔ has l x ∨ (s.1 ≤ x ∧ x < s.2) := by
  rw [has_append, has_cons]
  constructor
  · rintro (h | h | h)
    · exact .inl h
    · exact .inr h
    · exact absurd h (has_nil x)
  · rintro (h | h)
    · exact .inl h
    · exact .inr (.inl h)
/-- What is found ahead of a minute, no span open. -/
structure ShutR (q : Int → Prop) (a m : Int) (l : List Spn) : Prop where
  form : form l
  ends : ∀ t ∈ l, t.2 < m
  has : ∀ x, has l x ↔ a ≤ x ∧ x < m ∧ q x
/-- .. a span open since a minute. -/
structure OpnR (q : Int → Prop) (a m f : Int) (l : List Spn) : Prop where
  form : form (l ++ [(f, m)])
  has : ∀ x, Sp.has (l ++ [(f, m)]) x ↔ a ≤ x ∧ x < m ∧ q x
theorem ShutR.start (q : Int → Prop) (a : Int) : ShutR q a a [] := ⟨trivial, (fun t h => by cases h), fun x => ⟨fun h => absurd h (has_nil x), fun h => by omega⟩⟩
theorem ShutR.stays {q : Int → Prop} {a m : Int} {l : List Spn} (h : ShutR q a m l) (hm : ¬ q m) : ShutR q a (m + 1) l := by
  refine ⟨h.form, fun t ht => by have := h.ends t ht; omega, fun x => ?_⟩
  rw [h.has]
  constructor
  · rintro ⟨h1, h2, h3⟩; exact ⟨h1, by omega, h3⟩
  · rintro ⟨h1, h2, h3⟩
    have : x ≠ m := fun e => hm (e ▸ h3)
    exact ⟨h1, by omega, h3⟩
theorem OpnR.lt {q : Int → Prop} {a m f : Int} {l : List Spn} (h : OpnR q a m f l) : f < m := ((form_snoc _ _).1 h.form).2.2
end Sp
end
/- Rows of minutes: what the statements of layer 13 ask: forms, counts, growing twice. No text of the program is read here. -/
section
namespace Sp
theorem pairW_has (k : Int) (a b : List Spn) (m : Int) : has (pair (cW k) a b) m ↔ cW k (hasB a m) (hasB b m) = true := pair_has (cW k) (cW_ff k) a b m
theorem pairW_hasB (k : Int) (a b : List Spn) (m : Int) : hasB (pair (cW k) a b) m = cW k (hasB a m) (hasB b m) := by
  rw [Bool.eq_iff_iff, hasB_iff, pairW_has]
theorem formL_hasB (l : List Spn) (m : Int) : hasB (formL l) m = hasB l m := by
  unfold formL
  rw [pairW_hasB]
  unfold cW
  simp [hasB]
theorem formL_has (l : List Spn) (m : Int) : has (formL l) m ↔ has l m := by rw [← hasB_iff, ← hasB_iff, formL_hasB]
theorem formL_form (l : List Spn) : form (formL l) := pair_form _ _ _
theorem from_above : ∀ {l : List Spn} {lo : Int}, formFrom lo l → ∀ t ∈ l, lo < t.1 ∧ t.1 < t.2
  | [], _, _, t, h => by cases h
  | x :: r, lo, hf, t, h => by
    rcases List.mem_cons.1 h with rfl | h
    · exact ⟨hf.1, hf.2.1⟩
    · have h1 := from_above hf.2.2 t h
      have h2 := hf.1
      have h3 := hf.2.1
      exact ⟨by omega, h1.2⟩
theorem from_apart : ∀ {l : List Spn} {lo : Int}, formFrom lo l → ∀ s ∈ l, ∀ t ∈ l, t = s ∨ t.2 < s.1 ∨ s.2 < t.1
  | [], _, _, s, h, _, _ => by cases h
  | x :: r, lo, hf, s, hs, t, ht => by
    rcases List.mem_cons.1 hs with h1 | h1
    · rcases List.mem_cons.1 ht with h2 | h2
      · exact .inl (h2.trans h1.symm)
      · rw [h1]; exact .inr (.inr (from_above hf.2.2 t h2).1)
    · rcases List.mem_cons.1 ht with h2 | h2
      · rw [h2]; exact .inr (.inl (from_above hf.2.2 s h1).1)
      · exact from_apart hf.2.2 s h1 t h2
theorem form_from {l : List Spn} (h : form l) : ∃ lo, formFrom lo l := by
  cases l with
  | nil => exact ⟨0, trivial⟩
  | cons x r => exact ⟨x.1 - 1, by omega, h⟩
theorem form_apart {l : List Spn} (h : form l) {s t : Spn} (hs : s ∈ l) (ht : t ∈ l) : t = s ∨ t.2 < s.1 ∨ s.2 < t.1 := by
  obtain ⟨lo, hf⟩ := form_from h
  exact from_apart hf s hs t ht
theorem form_pos {l : List Spn} (h : form l) {s : Spn} (hs : s ∈ l) : s.1 < s.2 := by
  obtain ⟨lo, hf⟩ := form_from h
  exact (from_above hf s hs).2
/-- Beside a span of a row in its form there is none. -/
theorem form_stop {l : List Spn} (h : form l) {s : Spn} (hs : s ∈ l) : ¬ has l s.2 ∧ ¬ has l (s.1 - 1) := by
  have h0 := form_pos h hs
  constructor
  · rintro ⟨t, ht, h1, h2⟩
    rcases form_apart h hs ht with rfl | q | q <;> omega
  · rintro ⟨t, ht, h1, h2⟩
    rcases form_apart h hs ht with rfl | q | q <;> omega
/-- Minutes one behind the other lie in one span. -/
theorem form_one {l : List Spn} (h : form l) {a b : Int} (hab : a < b) (hh : ∀ x, a ≤ x → x < b → has l x) : ∃ s ∈ l, s.1 ≤ a ∧ b ≤ s.2 := by
  obtain ⟨s, hs, h1, h2⟩ := hh a (Int.le_refl _) hab
  refine ⟨s, hs, h1, ?_⟩
  by_cases q : b ≤ s.2
  · exact q
  · exact absurd (hh s.2 (by omega) (by omega)) (form_stop h hs).1
theorem in_bd {r : List Spn} {lo hi : Int} (hf : form r) (h : ∀ x, has r x → lo ≤ x ∧ x < hi) : ∀ s ∈ r, lo ≤ s.1 ∧ s.2 ≤ hi := fun s hs => by
  have h0 := form_pos hf hs
  have h1 := h s.1 ⟨s, hs, Int.le_refl _, h0⟩
  have h2 := h (s.2 - 1) ⟨s, hs, by omega, by omega⟩
  omega
theorem has_bd {l : List Spn} {lo hi : Int} (h : ∀ s ∈ l, lo ≤ s.1 ∧ s.2 ≤ hi) {x : Int} (hx : has l x) : lo ≤ x ∧ x < hi := by
  obtain ⟨s, hs, h1, h2⟩ := hx
  have := h s hs
  omega
end Sp
end
/- Streams' rows in plain numbers: how many spans they have; a row alone. No text of the program is read here. -/
section
namespace Sp
end Sp
end
/- A row to which spans are put whose starts rise; what is worked in a stretch, day by day, shift by shift. No text of the program is read here. -/
section
namespace Sp
/-- A span joined to a row whose starts aren't behind its own. -/
def jn (l : List Spn) (s : Spn) : List Spn :=
  match l.getLast? with
  | none => [s]
  | some t => if t.2 < s.1 then l ++ [s] else l.dropLast ++ [(t.1, max t.2 s.2)]
theorem jn_nil (s : Spn) : jn [] s = [s] := rfl
theorem jn_snoc (q : List Spn) (t s : Spn) : jn (q ++ [t]) s = if t.2 < s.1 then q ++ [t] ++ [s] else q ++ [(t.1, max t.2 s.2)] := by
  unfold jn; simp
theorem mem_has {l : List Spn} (h : form l) {t : Spn} (ht : t ∈ l) : t.1 < t.2 := by
  obtain ⟨a, b, rfl⟩ := List.append_of_mem ht
  have h1 : form ((a ++ [t]) ++ b) := by simpa using h
  have : ∀ (b q : List Spn), form (q ++ b) → form q := by
    intro b
    induction b with
    | nil => intro q h; simpa using h
    | cons x r ih => intro q h; have := ih (q ++ [x]) (by simpa using h); exact ((form_snoc _ _).1 this).1
  exact ((form_snoc _ _).1 (this b _ h1)).2.2
structure Jn (l : List Spn) (s : Spn) (r : List Spn) : Prop where
  form : form r
  starts : ∀ t ∈ r, t.1 ≤ s.1
  has : ∀ x, has r x ↔ has l x ∨ (s.1 ≤ x ∧ x < s.2)
  len : r.length ≤ l.length + 1
theorem jn_is {l : List Spn} {s : Spn} (h : form l) (hs : ∀ t ∈ l, t.1 ≤ s.1) (h0 : s.1 < s.2) : Jn l s (jn l s) := by
  rcases List.eq_nil_or_concat l with rfl | ⟨q, t, rfl⟩
  · rw [jn_nil]
    refine ⟨⟨h0, trivial⟩, fun t ht => ?_, fun x => ?_, by simp⟩
    · obtain rfl : t = s := by simpa using ht
      exact Int.le_refl _
    · rw [has_cons]
      constructor
      · rintro (k | k)
        · exact .inr k
        · exact absurd k (has_nil x)
      · rintro (k | k)
        · exact absurd k (has_nil x)
        · exact .inl k
  · rw [List.concat_eq_append] at *
    obtain ⟨k1, k2, k3⟩ := (form_snoc _ _).1 h
    have kt := hs t (by simp)
    rw [jn_snoc]
    by_cases hlt : t.2 < s.1
    · rw [if_pos hlt]
      refine ⟨(form_snoc _ _).2 ⟨h, fun u hu => ?_, h0⟩, fun u hu => ?_, fun x => has_snoc _ _ _, by simp⟩
      · rcases List.mem_append.1 hu with p | p
        · have := k2 u p; omega
        · obtain rfl : u = t := by simpa using p
          exact hlt
      · rcases List.mem_append.1 hu with p | p
        · exact hs u p
        · obtain rfl : u = s := by simpa using p
          exact Int.le_refl _
    · rw [if_neg hlt]
      refine ⟨(form_snoc _ _).2 ⟨k1, k2, by show t.1 < max t.2 s.2; omega⟩, fun u hu => ?_, fun x => ?_, by simp⟩
      · rcases List.mem_append.1 hu with p | p
        · exact hs u (List.mem_append.2 (.inl p))
        · obtain rfl : u = (t.1, max t.2 s.2) := by simpa using p
          exact kt
      · rw [has_snoc, has_snoc]
        simp only
        constructor
        · rintro (p | p)
          · exact .inl (.inl p)
          · by_cases e : x < t.2
            · exact .inl (.inr ⟨p.1, e⟩)
            · exact .inr ⟨by omega, by omega⟩
        · rintro ((p | p) | p)
          · exact .inl p
          · exact .inr ⟨p.1, by omega⟩
          · exact .inr ⟨by omega, by omega⟩
end Sp
namespace Hr
open Sp
/-- The day of a local time, and its minute. -/
def dyI (l : Int) : Int := (l + 10080) / 1440 - 7
def miI (l : Int) : Int := (l + 10080) % 1440
theorem dy_mi (l : Int) : l = dyI l * 1440 + miI l ∧ 0 ≤ miI l ∧ miI l < 1440 := by unfold dyI miI; omega
theorem dy_of {l d : Int} : dyI l = d ↔ d * 1440 ≤ l ∧ l < d * 1440 + 1440 := by unfold dyI; omega
theorem dy_lt {l d : Int} : dyI l < d ↔ l < d * 1440 := by unfold dyI; omega
/-- Is a local time worked? -/
def locB (h : H) (l : Int) : Bool := !(h.off.any fun d => decide (d = dyI l)) && h.shifts.any (onB (dyI l) (miI l))
/-- What is there ahead of a day, within a stretch. -/
structure DayR (R0 : List Spn) (h : H) (a b add d : Int) (l : List Spn) : Prop where
  form : form l
  has : ∀ x, Sp.has l x ↔ Sp.has R0 x ∨ (a ≤ x ∧ x < b ∧ dyI (x + add) < d ∧ locB h (x + add) = true)
/-- .. ahead of a shift of a day that isn't off. -/
structure ShiftR (R0 : List Spn) (h : H) (T : List (Int × Int × Int)) (a b add d : Int) (k : Nat) (l : List Spn) : Prop where
  form : form l
  next : ∀ i s, k ≤ i → T[i]? = some s → ∀ t ∈ l, t.1 ≤ max (d * 1440 - add + s.2.1) a
  has : ∀ x, Sp.has l x ↔ (Sp.has R0 x ∨ (a ≤ x ∧ x < b ∧ dyI (x + add) < d ∧ locB h (x + add) = true)) ∨ (a ≤ x ∧ x < b ∧ dyI (x + add) = d ∧ (T.take k).any (onB d (miI (x + add))) = true)
section
variable {R0 l : List Spn} {h : H} {T : List (Int × Int × Int)} {a b add d : Int} {k : Nat}
theorem DayR.start (hf : Sp.form R0) : DayR R0 h a b add (dyI (a + add)) R0 := by
  refine ⟨hf, fun x => ⟨.inl, ?_⟩⟩
  rintro (q | ⟨q1, _, q3, _⟩)
  · exact q
  · rw [dy_lt] at q3
    have := (dy_of (l := a + add) (d := dyI (a + add))).1 rfl
    omega
theorem DayR.off (q : DayR R0 h a b add d l) (ho : (h.off.any fun x => decide (x = d)) = true) : DayR R0 h a b add (d + 1) l := by
  refine ⟨q.form, fun x => ?_⟩
  rw [q.has]
  refine or_congr Iff.rfl ⟨fun ⟨h1, h2, h3, h4⟩ => ⟨h1, h2, by omega, h4⟩, fun ⟨h1, h2, h3, h4⟩ => ⟨h1, h2, ?_, h4⟩⟩
  by_cases e : dyI (x + add) = d
  · unfold locB at h4
    rw [e, ho] at h4
    simp at h4
  · omega
theorem DayR.shifts (q : DayR R0 h a b add d l) (h0 : ∀ x, Sp.has R0 x → x < a) (hT : ∀ s ∈ T, 0 ≤ s.2.1) : ShiftR R0 h T a b add d 0 l := by
  refine ⟨q.form, fun i s _ hi t ht => ?_, fun x => ?_⟩
  · have h1 := mem_has q.form ht
    have h2 := (q.has t.1).1 ⟨t, ht, Int.le_refl _, h1⟩
    have h3 := hT s (List.mem_of_getElem? hi)
    rcases h2 with p | ⟨p1, p2, p3, _⟩
    · have := h0 _ p; omega
    · rw [dy_lt] at p3; omega
  · rw [q.has]
    simp
theorem take_any {α : Type} {p : α → Bool} {l : List α} {k : Nat} {x : α} (h : l[k]? = some x) : (l.take (k + 1)).any p = true ↔ (l.take k).any p = true ∨ p x = true := by
  rw [List.take_add_one, h, List.any_append]; simp
/-- A shift that isn't on this day, or has no minute in the stretch. -/
theorem ShiftR.skip (q : ShiftR R0 h T a b add d k l) {s : Int × Int × Int} (hs : T[k]? = some s) (h0 : 0 ≤ s.2.1 ∧ s.2.2 ≤ 1440) (hn : bitB s.1 ((d + 7) % 7).toNat = false ∨ ¬ max (d * 1440 - add + s.2.1) a < min (d * 1440 - add + s.2.2) b) : ShiftR R0 h T a b add d (k + 1) l := by
  refine ⟨q.form, fun i s' hi hs' t ht => q.next i s' (by omega) hs' t ht, fun x => ?_⟩
  rw [q.has]
  refine or_congr Iff.rfl ⟨fun ⟨h1, h2, h3, h4⟩ => ⟨h1, h2, h3, (take_any hs).2 (.inl h4)⟩, fun ⟨h1, h2, h3, h4⟩ => ⟨h1, h2, h3, ?_⟩⟩
  rcases (take_any hs).1 h4 with p | p
  · exact p
  · exfalso
    unfold onB at p
    rw [Bool.and_eq_true, Bool.and_eq_true, decide_eq_true_eq, decide_eq_true_eq] at p
    have hm := dy_mi (x + add)
    rw [h3] at hm
    rcases hn with e | e
    · rw [e] at p; exact absurd p.1.1 (by simp)
    · omega
theorem ShiftR.ends (q : ShiftR R0 h T a b add d T.length l) (hp : T.Perm h.shifts) (ho : (h.off.any fun x => decide (x = d)) = false) : DayR R0 h a b add (d + 1) l := by
  refine ⟨q.form, fun x => ?_⟩
  rw [q.has, List.take_length]
  have ha : ∀ m, T.any (onB d m) = h.shifts.any (onB d m) := fun m => by
    rw [Bool.eq_iff_iff, List.any_eq_true, List.any_eq_true]
    exact ⟨fun ⟨s, h1, h2⟩ => ⟨s, hp.mem_iff.1 h1, h2⟩, fun ⟨s, h1, h2⟩ => ⟨s, hp.mem_iff.2 h1, h2⟩⟩
  rw [ha, or_assoc]
  refine or_congr Iff.rfl ⟨?_, ?_⟩
  · rintro (⟨h1, h2, h3, h4⟩ | ⟨h1, h2, h3, h4⟩)
    · exact ⟨h1, h2, by omega, h4⟩
    · refine ⟨h1, h2, by omega, ?_⟩
      unfold locB
      rw [h3, ho, h4]; rfl
  · rintro ⟨h1, h2, h3, h4⟩
    by_cases e : dyI (x + add) = d
    · refine .inr ⟨h1, h2, e, ?_⟩
      unfold locB at h4
      rw [e, ho] at h4
      simpa using h4
    · exact .inl ⟨h1, h2, by omega, h4⟩
theorem DayR.ends (q : DayR R0 h a b add d l) (hd : dyI (b - 1 + add) < d) (x : Int) : Sp.has l x ↔ Sp.has R0 x ∨ (a ≤ x ∧ x < b ∧ locB h (x + add) = true) := by
  rw [q.has]
  refine or_congr Iff.rfl ⟨fun ⟨h1, h2, _, h4⟩ => ⟨h1, h2, h4⟩, fun ⟨h1, h2, h4⟩ => ⟨h1, h2, ?_, h4⟩⟩
  rw [dy_lt] at hd ⊢
  omega
end
end Hr
end
/- Rows of minutes: ways to a form: joined in the order of their starts, sorted, left out, grown and cut span by span, two rows gone through together. No text of the program is read here. -/
section
namespace Sp
theorem formL_congr {a b : List Spn} (h : ∀ m, has a m ↔ has b m) : formL a = formL b :=
  form_unique _ _ (formL_form a) (formL_form b) fun m => by rw [formL_has, formL_has, h]
theorem has_perm {a b : List Spn} (h : a.Perm b) (m : Int) : has a m ↔ has b m := by
  constructor <;> rintro ⟨s, hs, q⟩
  · exact ⟨s, h.mem_iff.1 hs, q⟩
  · exact ⟨s, h.mem_iff.2 hs, q⟩
theorem formL_perm {a b : List Spn} (h : a.Perm b) : formL a = formL b := formL_congr (has_perm h)
theorem has_filter {l : List Spn} {p : Spn → Bool} (hp : ∀ s, s.1 < s.2 → p s = true) (m : Int) : has (l.filter p) m ↔ has l m := by
  constructor
  · rintro ⟨s, hs, q⟩
    exact ⟨s, (List.mem_filter.1 hs).1, q⟩
  · rintro ⟨s, hs, q⟩
    exact ⟨s, List.mem_filter.2 ⟨hs, hp s (by omega)⟩, q⟩
theorem formL_filter (l : List Spn) {p : Spn → Bool} (hp : ∀ s, s.1 < s.2 → p s = true) : formL (l.filter p) = formL l := formL_congr (has_filter hp)
theorem and_has (a b : List Spn) (m : Int) : has (pair (cW 1) a b) m ↔ has a m ∧ has b m := by
  rw [pairW_has, ← hasB_iff, ← hasB_iff]; unfold cW; cases hasB a m <;> cases hasB b m <;> decide
theorem pair_of {k : Int} {a b r : List Spn} (hf : form r) (h : ∀ m, has r m ↔ has (pair (cW k) a b) m) : r = pair (cW k) a b := form_unique _ _ hf (pair_form _ _ _) h
theorem formL_of {l r : List Spn} (hf : form r) (h : ∀ m, has r m ↔ has l m) : r = formL l := form_unique _ _ hf (formL_form _) fun m => by rw [h, formL_has]
/-- Spans joined one by one, their starts in order. -/
theorem fold_jn : ∀ (l q : List Spn), form q → (∀ t ∈ q, ∀ s ∈ l, t.1 ≤ s.1) → l.Pairwise (fun a b => a.1 ≤ b.1) → (∀ s ∈ l, s.1 < s.2) →
    form (l.foldl jn q) ∧ (∀ x, has (l.foldl jn q) x ↔ has q x ∨ has l x) ∧ (l.foldl jn q).length ≤ q.length + l.length
  | [], q, hq, _, _, _ => ⟨hq, fun x => by simp [has_nil], by simp⟩
  | s :: r, q, hq, hs, hp, h0 => by
    have J := jn_is hq (fun t ht => hs t ht s List.mem_cons_self) (h0 s List.mem_cons_self)
    have hp' := List.pairwise_cons.1 hp
    obtain ⟨k1, k2, k3⟩ := fold_jn r (jn q s) J.form (fun t ht u hu => Int.le_trans (J.starts t ht) (hp'.1 u hu)) hp'.2 (fun u hu => h0 u (List.mem_cons_of_mem _ hu))
    refine ⟨k1, fun x => ?_, ?_⟩
    · rw [List.foldl_cons, k2, J.has, has_cons, or_assoc]
    · have := J.len
      rw [List.foldl_cons, List.length_cons]; omega
theorem fold_is {l : List Spn} (hp : l.Pairwise fun a b => a.1 ≤ b.1) (h0 : ∀ s ∈ l, s.1 < s.2) : l.foldl jn [] = formL l := by
  obtain ⟨k1, k2, _⟩ := fold_jn l [] trivial (fun t ht => by cases ht) hp h0
  exact formL_of k1 fun x => by rw [k2]; simp [has_nil]
theorem fold_take {l : List Spn} {k : Nat} {s : Spn} (h : l[k]? = some s) (q : List Spn) : (l.take (k + 1)).foldl jn q = jn ((l.take k).foldl jn q) s := by
  rw [List.take_add_one, h]; simp
/-- A row joined from the first k spans of it. -/
theorem fold_mid {l : List Spn} (hp : l.Pairwise fun a b => a.1 ≤ b.1) (h0 : ∀ s ∈ l, s.1 < s.2) (k : Nat) : form ((l.take k).foldl jn []) ∧ ((l.take k).foldl jn []).length ≤ k := by
  obtain ⟨k1, _, k3⟩ := fold_jn (l.take k) [] trivial (fun t ht => by cases ht) (hp.sublist (List.take_sublist k l)) (fun s hs => h0 s (List.mem_of_mem_take hs))
  refine ⟨k1, ?_⟩
  have := List.length_take_le k l
  simp only [List.length_nil, Nat.zero_add] at k3
  omega
end Sp
end
/- Rows of minutes: a row made from low to high: all below a point is done. No text of the program is read here. -/
section
namespace Sp
theorem from_pw : ∀ {l : List Spn} {lo : Int}, formFrom lo l → l.Pairwise fun a b => a.2 < b.1
  | [], _, _ => List.Pairwise.nil
  | s :: r, _, h => List.pairwise_cons.2 ⟨fun t ht => (from_above h.2.2 t ht).1, from_pw h.2.2⟩
theorem form_pw {l : List Spn} (h : form l) : l.Pairwise fun a b => a.2 < b.1 := (form_from h).elim fun _ => from_pw
theorem form_at {l : List Spn} (h : form l) {i j : Nat} {s t : Spn} (hs : l[i]? = some s) (ht : l[j]? = some t) (hij : i < j) : s.2 < t.1 := by
  obtain ⟨hi, rfl⟩ := List.getElem?_eq_some_iff.1 hs
  obtain ⟨hj, rfl⟩ := List.getElem?_eq_some_iff.1 ht
  exact List.pairwise_iff_getElem.1 (form_pw h) i j hi hj hij
theorem at_pos {l : List Spn} (h : form l) {i : Nat} {s : Spn} (hs : l[i]? = some s) : s.1 < s.2 := form_pos h (List.mem_of_getElem? hs)
/-- Behind all spans ahead of i, and ahead of that: in none. -/
theorem form_out {l : List Spn} (h : form l) {i : Nat} {x : Int} (hi : i ≤ l.length) (h1 : ∀ k t, k + 1 = i → l[k]? = some t → t.2 ≤ x) (h2 : ∀ t, l[i]? = some t → x < t.1) : ¬ has l x := by
  rintro ⟨s, hs, s1, s2⟩
  obtain ⟨k, hk⟩ := List.getElem?_of_mem hs
  rcases Nat.lt_trichotomy k i with q | q | q
  · by_cases e : k + 1 = i
    · have := h1 k s e hk; omega
    · obtain ⟨hk', _⟩ := List.getElem?_eq_some_iff.1 hk
      cases hm : l[i - 1]? with
      | none =>
        have := List.getElem?_eq_none_iff.1 hm
        omega
      | some t =>
        have p1 := form_at h hk hm (by omega)
        have p2 := h1 (i - 1) t (by omega) hm
        have p3 := at_pos h hm
        omega
  · subst q
    have := h2 s hk; omega
  · cases hm : l[i]? with
    | none =>
      have := List.getElem?_eq_none_iff.1 hm
      obtain ⟨hk', _⟩ := List.getElem?_eq_some_iff.1 hk
      omega
    | some t =>
      have p1 := form_at h hm hk q
      have p2 := h2 t hm
      have p3 := at_pos h hm
      omega
/-- A row of the minutes of p below y, in its form. -/
structure Swp (p : Int → Prop) (y : Int) (out : List Spn) : Prop where
  form : form out
  has : ∀ x, has out x ↔ p x ∧ x < y
namespace Swp
variable {p : Int → Prop} {y z : Int} {out : List Spn}
theorem start (h : ∀ x, p x → y ≤ x) : Swp p y [] := ⟨trivial, fun x => ⟨fun q => absurd q (has_nil x), fun q => by have := h x q.1; omega⟩⟩
theorem skip (w : Swp p y out) (h : y ≤ z) (hn : ∀ x, y ≤ x → x < z → ¬ p x) : Swp p z out := ⟨w.form, fun x => by
  rw [w.has]
  constructor
  · exact fun q => ⟨q.1, by omega⟩
  · intro q
    refine ⟨q.1, ?_⟩
    by_cases c : x < y
    · exact c
    · exact absurd q.1 (hn x (by omega) q.2)⟩
theorem ends (w : Swp p y out) {u : Spn} (hu : u ∈ out) : u.2 ≤ y := by
  have h0 := form_pos w.form hu
  have := ((w.has (u.2 - 1)).1 ⟨u, hu, by omega, by omega⟩).2
  omega
theorem put (w : Swp p y out) (h : y < z) (hp : ∀ x, y ≤ x → x < z → p x) (h0 : ¬ p (y - 1)) : Swp p z (out ++ [(y, z)]) := by
  refine ⟨(form_snoc _ _).2 ⟨w.form, fun u hu => ?_, h⟩, fun x => ?_⟩
  · have q := form_pos w.form hu
    have k := (w.has (u.2 - 1)).1 ⟨u, hu, by omega, by omega⟩
    have : u.2 - 1 ≠ y - 1 := fun e => h0 (e ▸ k.1)
    have := k.2
    dsimp only
    omega
  · rw [has_snoc, w.has]
    constructor
    · rintro (q | q)
      · exact ⟨q.1, by omega⟩
      · exact ⟨hp x q.1 q.2, q.2⟩
    · intro q
      by_cases c : x < y
      · exact .inl ⟨q.1, c⟩
      · exact .inr ⟨by dsimp only; omega, q.2⟩
theorem whole (w : Swp p y out) (h : ∀ x, p x → x < y) (x : Int) : Sp.has out x ↔ p x := by
  rw [w.has]; exact ⟨fun q => q.1, fun q => ⟨q, h x q⟩⟩
theorem congr {q : Int → Prop} (w : Swp p y out) (h : ∀ x, p x ↔ q x) : Swp q y out := ⟨w.form, fun x => by rw [w.has, h]⟩
end Swp
end Sp
end
/- Rows whose numbers are such of 64 bits. No text of the program is read here. -/
section
namespace Go.Proofs.Ytibnbpiachdmdaa
open Sp
/-- All numbers of a row are such. -/
def In64 (l : List Spn) : Prop := ∀ s ∈ l, (-9223372036854775808 ≤ s.1 ∧ s.1 ≤ 9223372036854775807) ∧ (-9223372036854775808 ≤ s.2 ∧ s.2 ≤ 9223372036854775807)
theorem In64.bd {l : List Spn} (h : In64 l) : ∀ s ∈ l, (-9223372036854775808 : Int) ≤ s.1 ∧ s.2 ≤ -9223372036854775808 + (18446744073709551615 : Nat) := fun s hs => by
  have := h s hs
  omega
end Go.Proofs.Ytibnbpiachdmdaa
end
/- Streams' rows minute by minute, in plain numbers: what each kind of stream has; the next span of a row. No text of the program is read here. -/
section
namespace Sp
theorem pw_form : ∀ (l : List Spn) (lo : Int), (∀ s ∈ l, lo < s.1 ∧ s.1 < s.2) → l.Pairwise (fun a b => a.2 < b.1) → formFrom lo l
  | [], _, _, _ => trivial
  | s :: r, lo, h, hp => ⟨(h s (by simp)).1, (h s (by simp)).2, pw_form r s.2 (fun t ht => ⟨(List.pairwise_cons.1 hp).1 t ht, (h t (by simp [ht])).2⟩) (List.pairwise_cons.1 hp).2⟩
theorem pw_form' {l : List Spn} (h : ∀ s ∈ l, s.1 < s.2) (hp : l.Pairwise (fun a b => a.2 < b.1)) : form l := by
  cases l with
  | nil => exact trivial
  | cons s r => exact ⟨h s (by simp), pw_form r s.2 (fun t ht => ⟨(List.pairwise_cons.1 hp).1 t ht, h t (by simp [ht])⟩) (List.pairwise_cons.1 hp).2⟩
theorem startsL_form (l : List Spn) (n : Int) : form (startsL l n) := by
  have hpw := form_pw (formL_form l)
  refine pw_form' (fun s hs => ?_) ?_
  · obtain ⟨t, _, h⟩ := List.mem_filterMap.1 hs
    split at h
    · obtain rfl := Option.some.inj h; dsimp only; omega
    · cases h
  · unfold startsL
    rw [List.pairwise_filterMap]
    refine hpw.imp ?_
    intro a b hab u hu v hv
    split at hu
    · split at hv
      · obtain rfl := Option.some.inj hu; obtain rfl := Option.some.inj hv; dsimp only; omega
      · cases hv
    · cases hu
theorem startsL_has (l : List Spn) (n m : Int) : has (startsL l n) m ↔ ∀ x, m ≤ x → x < m + max 1 n → has l x := by
  constructor
  · rintro ⟨u, hu, q1, q2⟩ x x1 x2
    obtain ⟨s, hs, h⟩ := List.mem_filterMap.1 hu
    split at h
    · obtain rfl := Option.some.inj h
      dsimp only at q1 q2
      exact (formL_has l x).1 ⟨s, hs, by omega, by omega⟩
    · cases h
  · intro h
    obtain ⟨s, hs, s1, s2⟩ := form_one (formL_form l) (a := m) (b := m + max 1 n) (by omega) fun x x1 x2 => (formL_has l x).2 (h x x1 x2)
    exact ⟨(s.1, s.2 - max 1 n + 1), List.mem_filterMap.2 ⟨s, hs, by rw [if_pos (by omega)]⟩, by dsimp only; omega, by dsimp only; omega⟩
theorem behindL_has (l : List Spn) (k m : Int) : has (behindL l k) m ↔ k ≤ m ∧ has l m := by
  constructor
  · rintro ⟨u, hu, q1, q2⟩
    obtain ⟨s, hs, h⟩ := List.mem_filterMap.1 hu
    split at h
    · obtain rfl := Option.some.inj h
      dsimp only at q1 q2
      exact ⟨by omega, s, hs, by omega, by omega⟩
    · cases h
  · rintro ⟨hk, s, hs, q1, q2⟩
    exact ⟨(max s.1 k, s.2), List.mem_filterMap.2 ⟨s, hs, by rw [if_pos (by omega)]⟩, by dsimp only; omega, by dsimp only; omega⟩
theorem behindL_form {l : List Spn} (h : form l) (k : Int) : form (behindL l k) := by
  have hpw := form_pw h
  refine pw_form' (fun s hs => ?_) ?_
  · obtain ⟨t, ht, e⟩ := List.mem_filterMap.1 hs
    have := form_pos h ht
    split at e
    · obtain rfl := Option.some.inj e; dsimp only; omega
    · cases e
  · unfold behindL
    rw [List.pairwise_filterMap]
    refine List.Pairwise.imp_of_mem ?_ hpw
    intro a b ha hb hab u hu v hv
    have hb := form_pos h hb
    split at hu
    · split at hv
      · obtain rfl := Option.some.inj hu; obtain rfl := Option.some.inj hv; dsimp only; omega
      · cases hv
    · cases hu
/-- All numbers of a row in its form lie where its minutes do. -/
theorem form_bd {l : List Spn} (hf : form l) (h : ∀ x, has l x → -9223372036854775808 ≤ x ∧ x < 9223372036854775807) : ∀ s ∈ l, (-9223372036854775808 ≤ s.1 ∧ s.1 ≤ 9223372036854775807) ∧ (-9223372036854775808 ≤ s.2 ∧ s.2 ≤ 9223372036854775807) := fun s hs => by
  have h0 := form_pos hf hs
  have h1 := h s.1 ⟨s, hs, by omega, by omega⟩
  have h2 := h (s.2 - 1) ⟨s, hs, by omega, by omega⟩
  omega
/-- The next span of a row, found minute by minute: none is left. -/
theorem next_none {l : List Spn} (hf : form l) {lo : Int} (h1 : ∀ x, has l x → lo ≤ x) (h2 : ∀ x, lo ≤ x → ¬ has l x) : l = [] := by
  cases l with
  | nil => rfl
  | cons s r =>
    have := form_pos hf (s := s) (by simp)
    have hh : has (s :: r) s.1 := ⟨s, by simp, by omega, by omega⟩
    exact absurd hh (h2 _ (h1 _ hh))
/-- It is the first one: what is left lies behind it. -/
theorem next_some {l : List Spn} (hf : form l) {lo a b : Int} (h1 : ∀ x, has l x → lo ≤ x) (hlo : lo ≤ a) (h2 : ∀ x, lo ≤ x → x < a → ¬ has l x) (hab : a < b) (h3 : ∀ x, a ≤ x → x < b → has l x) (h4 : ¬ has l b) :
    ∃ r, l = (a, b) :: r ∧ form r ∧ ∀ x, has r x ↔ b ≤ x ∧ has l x := by
  cases l with
  | nil => exact absurd (h3 a (by omega) hab) (has_nil a)
  | cons s r =>
    have hp := form_pos hf (s := s) (by simp)
    have hs : has (s :: r) s.1 := ⟨s, by simp, by omega, by omega⟩
    have ha : s.1 = a := by
      have g1 : a ≤ s.1 := by
        by_cases h : s.1 < a
        · exact absurd hs (h2 _ (h1 _ hs) h)
        · omega
      rcases (has_cons s r a).1 (h3 a (by omega) hab) with h | h
      · omega
      · have := has_above hf.2 h; omega
    have hb : s.2 = b := by
      by_cases h : b < s.2
      · exact absurd ⟨s, by simp, by omega, h⟩ h4
      · by_cases h' : s.2 < b
        · exact absurd (h3 s.2 (by omega) h') (form_stop hf (s := s) (by simp)).1
        · omega
    obtain ⟨s1, s2⟩ := s
    simp only at ha hb hp
    subst ha hb
    refine ⟨r, rfl, formFrom_form hf.2, fun x => ?_⟩
    rw [has_cons]
    constructor
    · intro h
      have := has_above hf.2 h
      dsimp only at this
      exact ⟨by omega, .inr h⟩
    · rintro ⟨q, h | h⟩
      · dsimp only at h; omega
      · exact h
/-- Sums of so many numbers. -/
def sumTo (f : Nat → Nat) : Nat → Nat
  | 0 => 0
  | k + 1 => sumTo f k + f k
theorem sumTo_congr {f g : Nat → Nat} : ∀ {k : Nat}, (∀ i, i < k → f i = g i) → sumTo f k = sumTo g k
  | 0, _ => rfl
  | k + 1, h => by
    show sumTo f k + f k = sumTo g k + g k
    rw [sumTo_congr (k := k) fun i hi => h i (by omega), h k (by omega)]
theorem sumTo_upd (f : Nat → Nat) (i x : Nat) : ∀ {k : Nat}, i < k → sumTo (fun j => if j = i then x else f j) k + f i = sumTo f k + x
  | 0, h => by omega
  | k + 1, h => by
    show sumTo _ k + (if k = i then x else f k) + f i = sumTo f k + f k + x
    by_cases e : k = i
    · subst e
      rw [if_pos rfl, sumTo_congr (k := k) (g := f) fun j hj => if_neg (by omega)]; omega
    · rw [if_neg e]
      have := sumTo_upd f i x (k := k) (by omega)
      omega
theorem sumTo_list : ∀ (l : List Nat), sumTo (fun i => l.getD i 0) l.length = l.sum := by
  intro l
  have h : ∀ k, k ≤ l.length → sumTo (fun i => l.getD i 0) k = (l.take k).sum := by
    intro k
    induction k with
    | zero => intro _; rfl
    | succ k ih =>
      intro hk
      show sumTo _ k + l.getD k 0 = _
      rw [ih (by omega), List.take_succ_eq_append_getElem (by omega), List.sum_append, List.getD_eq_getElem?_getD, List.getElem?_eq_getElem (by omega)]
      simp
  have := h l.length (Nat.le_refl _)
  rwa [List.take_length] at this
/-- The first span of a row that is left. -/
theorem form_cut {s : Spn} {r : List Spn} {x m : Int} (hm : s.2 ≤ m) (hx : m ≤ x) : has (s :: r) x ↔ has r x := by
  rw [has_cons]
  constructor
  · rintro (h | h)
    · omega
    · exact h
  · exact .inr
theorem form_first {s : Spn} {r : List Spn} (hf : form (s :: r)) {x : Int} (hx : x < s.2) : has (s :: r) x ↔ s.1 ≤ x := by
  rw [has_cons]
  constructor
  · rintro (h | h)
    · exact h.1
    · have := has_above hf.2 h; omega
  · exact fun h => .inl ⟨h, hx⟩
theorem form_touch {s : Spn} {r : List Spn} (hf : form (s :: r)) : ¬ has (s :: r) s.2 := (form_stop hf (by simp)).1
end Sp
end
/- Rows of minutes: two rows in their forms gone through together, by two places. No text of the program is read here. -/
section
namespace Sp
/-- All minutes that both rows have, below y, are out; the spans ahead of i, and of j, are passed. -/
structure Meets (a b : List Spn) (i j : Nat) (y : Int) (out : List Spn) : Prop where
  swp : Swp (fun x => has a x ∧ has b x) y out
  ia : i ≤ a.length
  jb : j ≤ b.length
  pa : ∀ k s, k + 1 = i → a[k]? = some s → s.2 ≤ y
  pb : ∀ k s, k + 1 = j → b[k]? = some s → s.2 ≤ y
  qa : ∀ s, a[i]? = some s → y ≤ s.2
  qb : ∀ s, b[j]? = some s → y ≤ s.2
  lo : ∀ s t, a[i]? = some s → b[j]? = some t → y < max s.1 t.1
namespace Meets
variable {a b : List Spn} {i j : Nat} {y : Int} {out : List Spn}
theorem swap (m : Meets a b i j y out) : Meets b a j i y out :=
  ⟨m.swp.congr fun _ => and_comm, m.jb, m.ia, m.pb, m.pa, m.qb, m.qa, fun s t hs ht => by have := m.lo t s ht hs; omega⟩
theorem start (ha : form a) (hb : form b) : ∃ y, Meets a b 0 0 y [] := by
  obtain ⟨u, hu⟩ := form_from ha
  obtain ⟨v, hv⟩ := form_from hb
  have fa := from_above hu
  have fb := from_above hv
  refine ⟨min u v, Swp.start fun x q => ?_, Nat.zero_le _, Nat.zero_le _, fun k s h => by omega, fun k s h => by omega, fun s h => ?_, fun s h => ?_, fun s t h _ => ?_⟩
  · obtain ⟨s, hs, s1, s2⟩ := q.1
    have := fa s hs; omega
  · have := fa s (List.mem_of_getElem? h); omega
  · have := fb s (List.mem_of_getElem? h); omega
  · have := fa s (List.mem_of_getElem? h); omega
theorem endA (m : Meets a b a.length j y out) (ha : form a) : out = pair (cW 1) a b :=
  pair_of m.swp.form fun x => by
    rw [and_has, m.swp.whole fun x q => ?_]
    refine Int.lt_of_not_ge fun c => form_out ha (Nat.le_refl _) (fun k t hk ht => Int.le_trans (m.pa k t hk ht) c) (fun t ht => ?_) q.1
    have := (List.getElem?_eq_some_iff.1 ht).1
    omega
theorem endB (m : Meets a b i b.length y out) (hb : form b) : out = pair (cW 1) a b := by
  rw [m.swap.endA hb]
  exact form_unique _ _ (pair_form _ _ _) (pair_form _ _ _) fun x => by rw [and_has, and_has, and_comm]
/-- One of the two is gone through. -/
theorem ends (m : Meets a b i j y out) (h : i = a.length ∨ j = b.length) (ha : form a) (hb : form b) : out = pair (cW 1) a b := by
  rcases h with rfl | rfl
  · exact m.endA ha
  · exact m.endB hb
end Meets
end Sp
end
