/- Plain mathematics of the document's rows: edges, pairs; how many minutes. -/
import Derived.Test.YtdpgmhjhmccfnaaSMath
namespace Sp
def hasB (l : List Spn) (m : Int) : Bool := l.any fun s => decide (s.1 ≤ m) && decide (m < s.2)
theorem hasB_iff (l : List Spn) (m : Int) : hasB l m = true ↔ has l m := by
  unfold hasB has
  rw [List.any_eq_true]
  constructor
  · rintro ⟨s, hs, h⟩; exact ⟨s, hs, by simpa using h⟩
  · rintro ⟨s, hs, h⟩; exact ⟨s, hs, by simpa using h⟩
/-- A number among others, rising, each once. -/
def putI : List Int → Int → List Int
  | [], n => [n]
  | x :: r, n => if x < n then x :: putI r n else if x = n then x :: r else n :: x :: r
theorem put_mem (l : List Int) (n z : Int) : z ∈ putI l n ↔ z = n ∨ z ∈ l := by
  induction l with
  | nil => simp [putI]
  | cons x r ih =>
    unfold putI
    split
    · rw [List.mem_cons, ih, List.mem_cons]
      constructor
      · rintro (h | h | h)
        · exact .inr (.inl h)
        · exact .inl h
        · exact .inr (.inr h)
      · rintro (h | h | h)
        · exact .inr (.inl h)
        · exact .inl h
        · exact .inr (.inr h)
    · split
      · rename_i h; subst h; simp
      · simp
theorem put_from (l : List Int) (n lo : Int) (h : risesFrom lo l) (hn : lo < n) : risesFrom lo (putI l n) := by
  induction l generalizing lo with
  | nil => exact ⟨hn, trivial⟩
  | cons x r ih =>
    unfold putI
    split
    · rename_i hx; exact ⟨h.1, ih x h.2 hx⟩
    · split
      · exact h
      · exact ⟨hn, by omega, h.2⟩
theorem put_rises (l : List Int) (n : Int) (h : rises l) : rises (putI l n) := by
  cases l with
  | nil => exact trivial
  | cons x r =>
    unfold putI
    split
    · rename_i hx; exact put_from r n x h hx
    · split
      · exact h
      · exact ⟨by omega, h⟩
def edgS (l : List Int) (s : Spn) : List Int := putI (putI l s.1) s.2
def edg (l : List Int) (a : List Spn) : List Int := a.foldl edgS l
theorem edg_rises (a : List Spn) : ∀ l, rises l → rises (edg l a) := by
  induction a with
  | nil => intro l h; exact h
  | cons s a ih => intro l h; exact ih _ (put_rises _ _ (put_rises _ _ h))
theorem edg_mem (a : List Spn) : ∀ l z, z ∈ edg l a ↔ z ∈ l ∨ ∃ s ∈ a, z = s.1 ∨ z = s.2 := by
  induction a with
  | nil => intro l z; simp [edg]
  | cons s a ih =>
    intro l z
    rw [show edg l (s :: a) = edg (edgS l s) a from rfl, ih]
    unfold edgS
    rw [put_mem, put_mem]
    constructor
    · rintro ((h | h | h) | ⟨t, ht, h⟩)
      · exact .inr ⟨s, List.mem_cons_self, .inr h⟩
      · exact .inr ⟨s, List.mem_cons_self, .inl h⟩
      · exact .inl h
      · exact .inr ⟨t, List.mem_cons_of_mem _ ht, h⟩
    · rintro (h | ⟨t, ht, h⟩)
      · exact .inl (.inr (.inr h))
      · rcases List.mem_cons.1 ht with rfl | ht
        · rcases h with h | h
          · exact .inl (.inr (.inl h))
          · exact .inl (.inl h)
        · exact .inr ⟨t, ht, h⟩
/-- The edges of two rows. -/
def edges (a b : List Spn) : List Int := edg (edg [] a) b
theorem edges_rises (a b : List Spn) : rises (edges a b) := edg_rises b _ (edg_rises a [] trivial)
theorem edges_mem (a b : List Spn) (z : Int) : z ∈ edges a b ↔ ∃ s, (s ∈ a ∨ s ∈ b) ∧ (z = s.1 ∨ z = s.2) := by
  unfold edges
  rw [edg_mem, edg_mem]
  constructor
  · rintro ((h | ⟨s, hs, h⟩) | ⟨s, hs, h⟩)
    · cases h
    · exact ⟨s, .inl hs, h⟩
    · exact ⟨s, .inr hs, h⟩
  · rintro ⟨s, hs | hs, h⟩
    · exact .inl (.inr ⟨s, hs, h⟩)
    · exact .inr ⟨s, hs, h⟩
/-- Of two rows, by what is said of a minute in the one, and in the other. -/
def pair (c : Bool → Bool → Bool) (a b : List Spn) : List Spn := bld (fun z => c (hasB a z) (hasB b z)) (edges a b)
theorem pair_form (c : Bool → Bool → Bool) (a b : List Spn) : form (pair c a b) := by
  unfold pair
  have h := edges_rises a b
  cases he : edges a b with
  | nil => trivial
  | cons x e => rw [he] at h; exact (bld_start _ e x h).1
/-- Between two edges that follow each other lies every minute that has one at or ahead of it, and one behind it. -/
theorem bracket : ∀ (e : List Int) (x m q : Int), risesFrom x e → x ≤ m → q ∈ x :: e → m < q → ∃ a b, (∃ l r, x :: e = l ++ a :: b :: r) ∧ a ≤ m ∧ m < b
  | [], x, m, q, _, h1, hq, h2 => by
    rcases List.mem_cons.1 hq with rfl | hq
    · omega
    · cases hq
  | y :: r, x, m, q, h, h1, hq, h2 => by
    rcases Int.lt_or_le m y with hy | hy
    · exact ⟨x, y, ⟨[], r, rfl⟩, h1, hy⟩
    · have hq' : q ∈ y :: r := by
        rcases List.mem_cons.1 hq with rfl | hq
        · omega
        · exact hq
      obtain ⟨a, b, ⟨l, r', e⟩, h3⟩ := bracket r y m q h.2 hy hq' h2
      exact ⟨a, b, ⟨x :: l, r', by rw [e]; rfl⟩, h3⟩
theorem low_first {x p : Int} {e : List Int} (h : risesFrom x e) (hp : p ∈ x :: e) : x ≤ p := by
  rcases List.mem_cons.1 hp with rfl | hp
  · exact Int.le_refl _
  · exact Int.le_of_lt (piece.above (a := 0) (b := 0) (m := 0) h p hp)
theorem pair_has (c : Bool → Bool → Bool) (hc : c false false = false) (a b : List Spn) (m : Int) : has (pair c a b) m ↔ c (hasB a m) (hasB b m) = true := by
  have hr := edges_rises a b
  have hm := edges_mem a b
  unfold pair
  cases he : edges a b with
  | nil =>
    have no : ∀ l : List Spn, (∀ s ∈ l, s ∈ a ∨ s ∈ b) → hasB l m = false := by
      intro l hl
      cases h : hasB l m with
      | false => rfl
      | true =>
        obtain ⟨s, hs, _⟩ := (hasB_iff l m).1 h
        have := (hm s.1).2 ⟨s, hl s hs, .inl rfl⟩
        rw [he] at this; cases this
    rw [no a (fun s hs => .inl hs), no b (fun s hs => .inr hs), hc]
    simp [bld, has_nil]
  | cons x e =>
    rw [he] at hr hm
    rw [bld_has _ e x hr]
    have told : ∀ (l : List Spn), (∀ s ∈ l, s ∈ a ∨ s ∈ b) → ∀ (u v : Int), (∃ p q, x :: e = p ++ u :: v :: q) → u ≤ m → m < v → hasB l u = hasB l m := by
      rintro l hl u v ⟨p, q, hpq⟩ h1 h2
      rw [Bool.eq_iff_iff, hasB_iff, hasB_iff]
      constructor
      · rintro ⟨s, hs, h⟩
        exact ⟨s, hs, (piece hpq hr ((hm s.1).2 ⟨s, hl s hs, .inl rfl⟩) ((hm s.2).2 ⟨s, hl s hs, .inr rfl⟩) h1 h2).1 h⟩
      · rintro ⟨s, hs, h⟩
        exact ⟨s, hs, (piece hpq hr ((hm s.1).2 ⟨s, hl s hs, .inl rfl⟩) ((hm s.2).2 ⟨s, hl s hs, .inr rfl⟩) h1 h2).2 h⟩
    constructor
    · rintro ⟨u, v, hpq, hp, h1, h2⟩
      rw [← told a (fun s hs => .inl hs) u v hpq h1 h2, ← told b (fun s hs => .inr hs) u v hpq h1 h2]
      exact hp
    · intro h
      have any : ∃ s, (s ∈ a ∨ s ∈ b) ∧ s.1 ≤ m ∧ m < s.2 := by
        cases h1 : hasB a m with
        | true => obtain ⟨s, hs, h2⟩ := (hasB_iff a m).1 h1; exact ⟨s, .inl hs, h2⟩
        | false =>
          cases h3 : hasB b m with
          | true => obtain ⟨s, hs, h2⟩ := (hasB_iff b m).1 h3; exact ⟨s, .inr hs, h2⟩
          | false => rw [h1, h3, hc] at h; cases h
      obtain ⟨s, hs, h1, h2⟩ := any
      have m1 := (hm s.1).2 ⟨s, hs, .inl rfl⟩
      have m2 := (hm s.2).2 ⟨s, hs, .inr rfl⟩
      obtain ⟨u, v, hpq, h3, h4⟩ := bracket e x m s.2 hr (by have := low_first hr m1; omega) m2 h2
      refine ⟨u, v, hpq, ?_, h3, h4⟩
      rw [told a (fun s hs => .inl hs) u v hpq h3 h4, told b (fun s hs => .inr hs) u v hpq h3 h4]
      exact h

/-- How many minutes from lo on, of n, are such. -/
def cntN (p : Int → Bool) (lo : Int) : Nat → Nat
  | 0 => 0
  | n + 1 => cntN p lo n + (if p (lo + n) then 1 else 0)
theorem cnt_pt {p q r s : Int → Bool} (h : ∀ m, (if p m then 1 else 0) + (if q m then 1 else 0) = (if r m then 1 else 0) + (if s m then (1 : Nat) else 0)) (lo : Int) (n : Nat) : cntN p lo n + cntN q lo n = cntN r lo n + cntN s lo n := by
  induction n with
  | zero => rfl
  | succ n ih =>
    have := h (lo + n)
    unfold cntN
    omega
theorem cnt_congr {p q : Int → Bool} {lo : Int} {n : Nat} (h : ∀ m, lo ≤ m → m < lo + n → p m = q m) : cntN p lo n = cntN q lo n := by
  induction n with
  | zero => rfl
  | succ n ih =>
    unfold cntN
    rw [ih (fun m h1 h2 => h m h1 (by omega)), h (lo + n) (by omega) (by omega)]
theorem cnt_none {p : Int → Bool} {lo : Int} {n : Nat} (h : ∀ m, lo ≤ m → m < lo + n → p m = false) : cntN p lo n = 0 := by
  induction n with
  | zero => rfl
  | succ n ih => unfold cntN; rw [ih (fun m h1 h2 => h m h1 (by omega)), h (lo + n) (by omega) (by omega)]; rfl
theorem cnt_all {p : Int → Bool} {lo : Int} {n : Nat} (h : ∀ m, lo ≤ m → m < lo + n → p m = true) : cntN p lo n = n := by
  induction n with
  | zero => rfl
  | succ n ih => unfold cntN; rw [ih (fun m h1 h2 => h m h1 (by omega)), h (lo + n) (by omega) (by omega)]; rfl
theorem cnt_add (p : Int → Bool) (lo : Int) (a b : Nat) : cntN p lo (a + b) = cntN p lo a + cntN p (lo + a) b := by
  induction b with
  | zero => rfl
  | succ b ih =>
    rw [show cntN p lo (a + (b + 1)) = cntN p lo (a + b) + (if p (lo + ((a + b : Nat) : Int)) then 1 else 0) from rfl, show cntN p (lo + a) (b + 1) = cntN p (lo + a) b + (if p (lo + a + b) then 1 else 0) from rfl]
    rw [ih, show lo + (a : Int) + b = lo + ((a + b : Nat) : Int) by omega]
    omega
/-- The minutes of a row's spans. -/
def len : List Spn → Int
  | [] => 0
  | s :: r => (s.2 - s.1) + len r
theorem len_nn {l : List Spn} (h : form l) : 0 ≤ len l := by
  induction l with
  | nil => exact Int.le_refl _
  | cons s r ih =>
    have := ih (formFrom_form h.2)
    have := h.1
    unfold len; omega
/-- A row in its form has as many minutes as its spans have, in any window that holds it. -/
theorem len_cnt : ∀ (l : List Spn) (lo : Int) (n : Nat), form l → (∀ s ∈ l, lo ≤ s.1 ∧ s.2 ≤ lo + n) → len l = cntN (hasB l) lo n
  | [], lo, n, _, _ => by
    have : cntN (hasB []) lo n = 0 := cnt_none (fun m _ _ => rfl)
    rw [this]; rfl
  | s :: r, lo, n, h, hb => by
    have h1 := h.1
    have h0 := hb s List.mem_cons_self
    obtain ⟨a, ha⟩ : ∃ a : Nat, s.1 = lo + a := ⟨(s.1 - lo).toNat, by omega⟩
    obtain ⟨b, hbb⟩ : ∃ b : Nat, s.2 = s.1 + b := ⟨(s.2 - s.1).toNat, by omega⟩
    obtain ⟨c, hc⟩ : ∃ c : Nat, n = a + b + c := ⟨n - (a + b), by omega⟩
    have ih := len_cnt r s.2 c (formFrom_form h.2) (fun t ht => by
      have := hb t (List.mem_cons_of_mem _ ht)
      have h2 : s.2 ≤ t.1 := by
        have : has r t.1 := ⟨t, ht, Int.le_refl _, by
          have : ∀ (l : List Spn) (lo : Int), formFrom lo l → ∀ t ∈ l, t.1 < t.2 := by
            intro l
            induction l with
            | nil => intro lo _ t ht; cases ht
            | cons u l ih =>
              intro lo hf t ht
              rcases List.mem_cons.1 ht with rfl | ht
              · exact hf.2.1
              · exact ih u.2 hf.2.2 t ht
          exact this r s.2 h.2 t ht⟩
        exact Int.le_of_lt (has_above h.2 this)
      omega)
    subst hc
    rw [cnt_add, cnt_add]
    have e1 : cntN (hasB (s :: r)) lo a = 0 := cnt_none fun m h2 h3 => by
      cases hh : hasB (s :: r) m with
      | false => rfl
      | true =>
        rcases (has_cons s r m).1 ((hasB_iff _ _).1 hh) with h4 | h4
        · omega
        · have := has_above h.2 h4; omega
    have e2 : cntN (hasB (s :: r)) (lo + a) b = b := cnt_all fun m h2 h3 => (hasB_iff _ _).2 ((has_cons s r m).2 (.inl ⟨by omega, by omega⟩))
    have e3 : cntN (hasB (s :: r)) (lo + ((a + b : Nat) : Int)) c = cntN (hasB r) s.2 c := by
      rw [show lo + ((a + b : Nat) : Int) = s.2 by omega]
      refine cnt_congr fun m h2 h3 => ?_
      rw [Bool.eq_iff_iff, hasB_iff, hasB_iff, has_cons]
      constructor
      · rintro (h4 | h4)
        · omega
        · exact h4
      · exact .inr
    rw [e1, e2, e3]
    unfold len
    rw [ih]
    omega
end Sp
