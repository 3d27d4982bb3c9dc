/- A row to which spans are put whose starts rise; what is worked in a stretch, day by day, shift by shift. No text of the program is read here. -/
import Derived.Test.YtdpgmhjhmccfnaaHMath
import Derived.Test.YtdpgmhjhmccfnaaHMath2
namespace Sp
theorem form_len_from : ∀ (l : List Spn) (lo hi : Int), formFrom lo l → (∀ t ∈ l, t.2 ≤ hi) → lo ≤ hi → (l.length : Int) ≤ hi - lo
  | [], lo, hi, _, _, h => by simp; omega
  | s :: r, lo, hi, h, hh, h0 => by
    have h1 := hh s List.mem_cons_self
    have h2 := h.1
    have h3 := h.2.1
    have ih := form_len_from r s.2 hi h.2.2 (fun t ht => hh t (List.mem_cons_of_mem _ ht)) h1
    rw [List.length_cons]; omega
/-- A span joined to a row whose starts aren't behind its own. -/
def jn (l : List Spn) (s : Spn) : List Spn :=
  match l.getLast? with
  | none => [s]
  | some t => if t.2 < s.1 then l ++ [s] else l.dropLast ++ [(t.1, max t.2 s.2)]
theorem jn_nil (s : Spn) : jn [] s = [s] := rfl
theorem jn_snoc (q : List Spn) (t s : Spn) : jn (q ++ [t]) s = if t.2 < s.1 then q ++ [t] ++ [s] else q ++ [(t.1, max t.2 s.2)] := by
  unfold jn; simp
theorem mem_has {l : List Spn} (h : form l) {t : Spn} (ht : t ∈ l) : t.1 < t.2 := by
  obtain ⟨a, b, rfl⟩ := List.append_of_mem ht
  have h1 : form ((a ++ [t]) ++ b) := by simpa using h
  have : ∀ (b q : List Spn), form (q ++ b) → form q := by
    intro b
    induction b with
    | nil => intro q h; simpa using h
    | cons x r ih => intro q h; have := ih (q ++ [x]) (by simpa using h); exact ((form_snoc _ _).1 this).1
  exact ((form_snoc _ _).1 (this b _ h1)).2.2
structure Jn (l : List Spn) (s : Spn) (r : List Spn) : Prop where
  form : form r
  starts : ∀ t ∈ r, t.1 ≤ s.1
  has : ∀ x, has r x ↔ has l x ∨ (s.1 ≤ x ∧ x < s.2)
  len : r.length ≤ l.length + 1
theorem jn_is {l : List Spn} {s : Spn} (h : form l) (hs : ∀ t ∈ l, t.1 ≤ s.1) (h0 : s.1 < s.2) : Jn l s (jn l s) := by
  rcases List.eq_nil_or_concat l with rfl | ⟨q, t, rfl⟩
  · rw [jn_nil]
    refine ⟨⟨h0, trivial⟩, fun t ht => ?_, fun x => ?_, by simp⟩
    · obtain rfl : t = s := by simpa using ht
      exact Int.le_refl _
    · rw [has_cons]
      constructor
      · rintro (k | k)
        · exact .inr k
        · exact absurd k (has_nil x)
      · rintro (k | k)
        · exact absurd k (has_nil x)
        · exact .inl k
  · rw [List.concat_eq_append] at *
    obtain ⟨k1, k2, k3⟩ := (form_snoc _ _).1 h
    have kt := hs t (by simp)
    rw [jn_snoc]
    by_cases hlt : t.2 < s.1
    · rw [if_pos hlt]
      refine ⟨(form_snoc _ _).2 ⟨h, fun u hu => ?_, h0⟩, fun u hu => ?_, fun x => has_snoc _ _ _, by simp⟩
      · rcases List.mem_append.1 hu with p | p
        · have := k2 u p; omega
        · obtain rfl : u = t := by simpa using p
          exact hlt
      · rcases List.mem_append.1 hu with p | p
        · exact hs u p
        · obtain rfl : u = s := by simpa using p
          exact Int.le_refl _
    · rw [if_neg hlt]
      refine ⟨(form_snoc _ _).2 ⟨k1, k2, by show t.1 < max t.2 s.2; omega⟩, fun u hu => ?_, fun x => ?_, by simp⟩
      · rcases List.mem_append.1 hu with p | p
        · exact hs u (List.mem_append.2 (.inl p))
        · obtain rfl : u = (t.1, max t.2 s.2) := by simpa using p
          exact kt
      · rw [has_snoc, has_snoc]
        simp only
        constructor
        · rintro (p | p)
          · exact .inl (.inl p)
          · by_cases e : x < t.2
            · exact .inl (.inr ⟨p.1, e⟩)
            · exact .inr ⟨by omega, by omega⟩
        · rintro ((p | p) | p)
          · exact .inl p
          · exact .inr ⟨p.1, by omega⟩
          · exact .inr ⟨by omega, by omega⟩
end Sp
namespace Hr
open Sp
/-- The day of a local time, and its minute. -/
def dyI (l : Int) : Int := (l + 10080) / 1440 - 7
def miI (l : Int) : Int := (l + 10080) % 1440
theorem dy_mi (l : Int) : l = dyI l * 1440 + miI l ∧ 0 ≤ miI l ∧ miI l < 1440 := by unfold dyI miI; omega
theorem dy_of {l d : Int} : dyI l = d ↔ d * 1440 ≤ l ∧ l < d * 1440 + 1440 := by unfold dyI; omega
theorem dy_lt {l d : Int} : dyI l < d ↔ l < d * 1440 := by unfold dyI; omega
/-- Is a local time worked? -/
def locB (h : H) (l : Int) : Bool := !(h.off.any fun d => decide (d = dyI l)) && h.shifts.any (onB (dyI l) (miI l))
theorem works_loc (h : H) (add : Int → Int) (u : Int) : worksB h add u = (decide (0 ≤ u) && decide (u ≤ 158310719) && locB h (u + add u)) := rfl
/-- Shifts in order. -/
def InT (l : List (Int × Int × Int)) : Prop := l.Pairwise fun a b => a.2.1 ≤ b.2.1
theorem int_at {l : List (Int × Int × Int)} (h : InT l) {i j : Nat} {a b : Int × Int × Int} (hi : l[i]? = some a) (hj : l[j]? = some b) (hij : i ≤ j) : a.2.1 ≤ b.2.1 := by
  obtain ⟨hi', rfl⟩ := List.getElem?_eq_some_iff.1 hi
  obtain ⟨hj', rfl⟩ := List.getElem?_eq_some_iff.1 hj
  by_cases e : i = j
  · subst e; exact Int.le_refl _
  · exact List.pairwise_iff_getElem.1 h i j hi' hj' (by omega)
/-- What is there ahead of a day, within a stretch. -/
structure DayR (R0 : List Spn) (h : H) (a b add d : Int) (l : List Spn) : Prop where
  form : form l
  has : ∀ x, Sp.has l x ↔ Sp.has R0 x ∨ (a ≤ x ∧ x < b ∧ dyI (x + add) < d ∧ locB h (x + add) = true)
/-- .. ahead of a shift of a day that isn't off. -/
structure ShiftR (R0 : List Spn) (h : H) (T : List (Int × Int × Int)) (a b add d : Int) (k : Nat) (l : List Spn) : Prop where
  form : form l
  next : ∀ i s, k ≤ i → T[i]? = some s → ∀ t ∈ l, t.1 ≤ max (d * 1440 - add + s.2.1) a
  has : ∀ x, Sp.has l x ↔ (Sp.has R0 x ∨ (a ≤ x ∧ x < b ∧ dyI (x + add) < d ∧ locB h (x + add) = true)) ∨ (a ≤ x ∧ x < b ∧ dyI (x + add) = d ∧ (T.take k).any (onB d (miI (x + add))) = true)
section
variable {R0 l : List Spn} {h : H} {T : List (Int × Int × Int)} {a b add d : Int} {k : Nat}
theorem DayR.start (hf : Sp.form R0) : DayR R0 h a b add (dyI (a + add)) R0 := by
  refine ⟨hf, fun x => ⟨.inl, ?_⟩⟩
  rintro (q | ⟨q1, _, q3, _⟩)
  · exact q
  · rw [dy_lt] at q3
    have := (dy_of (l := a + add) (d := dyI (a + add))).1 rfl
    omega
theorem DayR.off (q : DayR R0 h a b add d l) (ho : (h.off.any fun x => decide (x = d)) = true) : DayR R0 h a b add (d + 1) l := by
  refine ⟨q.form, fun x => ?_⟩
  rw [q.has]
  refine or_congr Iff.rfl ⟨fun ⟨h1, h2, h3, h4⟩ => ⟨h1, h2, by omega, h4⟩, fun ⟨h1, h2, h3, h4⟩ => ⟨h1, h2, ?_, h4⟩⟩
  by_cases e : dyI (x + add) = d
  · unfold locB at h4
    rw [e, ho] at h4
    simp at h4
  · omega
theorem DayR.shifts (q : DayR R0 h a b add d l) (h0 : ∀ x, Sp.has R0 x → x < a) (hT : ∀ s ∈ T, 0 ≤ s.2.1) : ShiftR R0 h T a b add d 0 l := by
  refine ⟨q.form, fun i s _ hi t ht => ?_, fun x => ?_⟩
  · have h1 := mem_has q.form ht
    have h2 := (q.has t.1).1 ⟨t, ht, Int.le_refl _, h1⟩
    have h3 := hT s (List.mem_of_getElem? hi)
    rcases h2 with p | ⟨p1, p2, p3, _⟩
    · have := h0 _ p; omega
    · rw [dy_lt] at p3; omega
  · rw [q.has]
    simp
theorem take_any {α : Type} {p : α → Bool} {l : List α} {k : Nat} {x : α} (h : l[k]? = some x) : (l.take (k + 1)).any p = true ↔ (l.take k).any p = true ∨ p x = true := by
  rw [List.take_add_one, h, List.any_append]; simp
/-- A shift that isn't on this day, or has no minute in the stretch. -/
theorem ShiftR.skip (q : ShiftR R0 h T a b add d k l) {s : Int × Int × Int} (hs : T[k]? = some s) (h0 : 0 ≤ s.2.1 ∧ s.2.2 ≤ 1440) (hn : bitB s.1 ((d + 7) % 7).toNat = false ∨ ¬ max (d * 1440 - add + s.2.1) a < min (d * 1440 - add + s.2.2) b) : ShiftR R0 h T a b add d (k + 1) l := by
  refine ⟨q.form, fun i s' hi hs' t ht => q.next i s' (by omega) hs' t ht, fun x => ?_⟩
  rw [q.has]
  refine or_congr Iff.rfl ⟨fun ⟨h1, h2, h3, h4⟩ => ⟨h1, h2, h3, (take_any hs).2 (.inl h4)⟩, fun ⟨h1, h2, h3, h4⟩ => ⟨h1, h2, h3, ?_⟩⟩
  rcases (take_any hs).1 h4 with p | p
  · exact p
  · exfalso
    unfold onB at p
    rw [Bool.and_eq_true, Bool.and_eq_true, decide_eq_true_eq, decide_eq_true_eq] at p
    have hm := dy_mi (x + add)
    rw [h3] at hm
    rcases hn with e | e
    · rw [e] at p; exact absurd p.1.1 (by simp)
    · omega
/-- A shift that has. -/
theorem ShiftR.join (q : ShiftR R0 h T a b add d k l) (hT : InT T) {s : Int × Int × Int} (hs : T[k]? = some s) (h0 : 0 ≤ s.2.1 ∧ s.2.2 ≤ 1440) (hb : bitB s.1 ((d + 7) % 7).toNat = true) (hn : max (d * 1440 - add + s.2.1) a < min (d * 1440 - add + s.2.2) b) :
    ShiftR R0 h T a b add d (k + 1) (jn l (max (d * 1440 - add + s.2.1) a, min (d * 1440 - add + s.2.2) b)) := by
  have hj := jn_is (s := (max (d * 1440 - add + s.2.1) a, min (d * 1440 - add + s.2.2) b)) q.form (fun t ht => q.next k s (Nat.le_refl _) hs t ht) hn
  refine ⟨hj.form, fun i s' hi hs' t ht => ?_, fun x => ?_⟩
  · have h1 := hj.starts t ht
    have h2 := int_at hT hs hs' (by omega)
    simp only at h1
    omega
  · rw [hj.has, q.has]
    simp only
    constructor
    · rintro ((p | ⟨p1, p2, p3, p4⟩) | p)
      · exact .inl p
      · exact .inr ⟨p1, p2, p3, (take_any hs).2 (.inl p4)⟩
      · have hd : dyI (x + add) = d := dy_of.2 (by omega)
        have hm := dy_mi (x + add)
        rw [hd] at hm
        refine .inr ⟨by omega, by omega, hd, (take_any hs).2 (.inr ?_)⟩
        unfold onB
        rw [hb, decide_eq_true (show s.2.1 ≤ miI (x + add) by omega), decide_eq_true (show miI (x + add) < s.2.2 by omega)]; rfl
    · rintro (p | ⟨p1, p2, p3, p4⟩)
      · exact .inl (.inl p)
      · rcases (take_any hs).1 p4 with p | p
        · exact .inl (.inr ⟨p1, p2, p3, p⟩)
        · unfold onB at p
          rw [Bool.and_eq_true, Bool.and_eq_true, decide_eq_true_eq, decide_eq_true_eq] at p
          have hm := dy_mi (x + add)
          rw [p3] at hm
          exact .inr (by omega)
theorem ShiftR.ends (q : ShiftR R0 h T a b add d T.length l) (hp : T.Perm h.shifts) (ho : (h.off.any fun x => decide (x = d)) = false) : DayR R0 h a b add (d + 1) l := by
  refine ⟨q.form, fun x => ?_⟩
  rw [q.has, List.take_length]
  have ha : ∀ m, T.any (onB d m) = h.shifts.any (onB d m) := fun m => by
    rw [Bool.eq_iff_iff, List.any_eq_true, List.any_eq_true]
    exact ⟨fun ⟨s, h1, h2⟩ => ⟨s, hp.mem_iff.1 h1, h2⟩, fun ⟨s, h1, h2⟩ => ⟨s, hp.mem_iff.2 h1, h2⟩⟩
  rw [ha, or_assoc]
  refine or_congr Iff.rfl ⟨?_, ?_⟩
  · rintro (⟨h1, h2, h3, h4⟩ | ⟨h1, h2, h3, h4⟩)
    · exact ⟨h1, h2, by omega, h4⟩
    · refine ⟨h1, h2, by omega, ?_⟩
      unfold locB
      rw [h3, ho, h4]; rfl
  · rintro ⟨h1, h2, h3, h4⟩
    by_cases e : dyI (x + add) = d
    · refine .inr ⟨h1, h2, e, ?_⟩
      unfold locB at h4
      rw [e, ho] at h4
      simpa using h4
    · exact .inl ⟨h1, h2, by omega, h4⟩
theorem DayR.ends (q : DayR R0 h a b add d l) (hd : dyI (b - 1 + add) < d) (x : Int) : Sp.has l x ↔ Sp.has R0 x ∨ (a ≤ x ∧ x < b ∧ locB h (x + add) = true) := by
  rw [q.has]
  refine or_congr Iff.rfl ⟨fun ⟨h1, h2, _, h4⟩ => ⟨h1, h2, h4⟩, fun ⟨h1, h2, h4⟩ => ⟨h1, h2, ?_, h4⟩⟩
  rw [dy_lt] at hd ⊢
  omega
/-- A row within bounds has no more spans than minutes. -/
theorem len_in {l : List Spn} {lo hi : Int} (hf : form l) (hlo : lo ≤ hi) (h : ∀ x, Sp.has l x → lo ≤ x ∧ x < hi) : (l.length : Int) ≤ hi - lo + 1 := by
  have h2 : ∀ t ∈ l, lo ≤ t.1 ∧ t.2 ≤ hi := fun t ht => by
    have h0 := mem_has hf ht
    have h1 := h t.1 ⟨t, ht, Int.le_refl _, h0⟩
    have h3 := h (t.2 - 1) ⟨t, ht, by omega, by omega⟩
    omega
  have hf' : formFrom (lo - 1) l := by
    cases l with
    | nil => trivial
    | cons s r => exact ⟨by have := h2 s List.mem_cons_self; omega, hf⟩
  have := form_len_from l (lo - 1) hi hf' (fun t ht => (h2 t ht).2) (by omega)
  omega
end
end Hr
