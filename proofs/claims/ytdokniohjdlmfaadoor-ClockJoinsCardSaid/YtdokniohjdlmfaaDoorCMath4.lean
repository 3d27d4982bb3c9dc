/- Plain mathematics of letters in UTF-8. -/
namespace Ck
/-- So many bytes that go on, taken in. -/
def foldC : Nat → Int → List UInt8 → Option Int
  | 0, c, _ => some c
  | _ + 1, _, [] => none
  | k + 1, c, b :: r => if 128 ≤ b.toNat ∧ b.toNat ≤ 191 then foldC k (64 * c + b.toNat - 128) r else none
def badC (least v : Int) : Prop := v < least ∨ 1114111 < v ∨ (55296 ≤ v ∧ v < 57344)
instance (a b : Int) : Decidable (badC a b) := by unfold badC; infer_instance
def contT (many : Nat) (least c : Int) (r : List UInt8) : Nat × Int :=
  match foldC many c r with
  | none => (1, -1)
  | some v => if badC least v then (1, -1) else (many + 1, v)
/-- The first letter: how many bytes, and its number; 1 and -1, if the first byte is part of none. -/
def oneT : List UInt8 → Nat × Int
  | [] => (1, -1)
  | c :: r =>
    if c.toNat < 128 then (1, c.toNat)
    else if 192 ≤ c.toNat ∧ c.toNat < 224 then contT 1 128 ((c.toNat : Int) - 192) r
    else if 224 ≤ c.toNat ∧ c.toNat < 240 then contT 2 2048 ((c.toNat : Int) - 224) r
    else if 240 ≤ c.toNat ∧ c.toNat < 248 then contT 3 65536 ((c.toNat : Int) - 240) r
    else (1, -1)
theorem foldC_short (k : Nat) (c : Int) (r : List UInt8) (h : r.length < k) : foldC k c r = none := by
  induction k generalizing c r with
  | zero => omega
  | succ k ih =>
    cases r with
    | nil => rfl
    | cons b r =>
      unfold foldC
      split
      · exact ih _ _ (by simp at h; omega)
      · rfl
theorem cont_short {many : Nat} {least c : Int} {r : List UInt8} (h : r.length < many) : contT many least c r = (1, -1) := by unfold contT; rw [foldC_short many c r h]
theorem cont_none {many : Nat} {least c : Int} {r : List UInt8} (h : foldC many c r = none) : contT many least c r = (1, -1) := by unfold contT; rw [h]
theorem cont_bad {many : Nat} {least c v : Int} {r : List UInt8} (h : foldC many c r = some v) (hb : badC least v) : contT many least c r = (1, -1) := by unfold contT; rw [h]; simp [hb]
theorem cont_ok {many : Nat} {least c v : Int} {r : List UInt8} (h : foldC many c r = some v) (hb : ¬ badC least v) : contT many least c r = (many + 1, v) := by unfold contT; rw [h]; simp [hb]
theorem pow64 {k : Nat} (h : k ≤ 3) : (64 : Int) ^ k ≤ 262144 := by
  have : k = 0 ∨ k = 1 ∨ k = 2 ∨ k = 3 := by omega
  rcases this with rfl | rfl | rfl | rfl <;> decide
theorem foldC_none {k : Nat} {c : Int} {b : UInt8} {r : List UInt8} (h : ¬ (128 ≤ b.toNat ∧ b.toNat ≤ 191)) : foldC (k + 1) c (b :: r) = none := by unfold foldC; rw [if_neg h]
theorem foldC_step {k : Nat} {c : Int} {b : UInt8} {r : List UInt8} (h : 128 ≤ b.toNat ∧ b.toNat ≤ 191) : foldC (k + 1) c (b :: r) = foldC k (64 * c + b.toNat - 128) r := by rw [foldC, if_pos h]
theorem oneT_len (l : List UInt8) (h : 0 < l.length) : 1 ≤ (oneT l).1 ∧ (oneT l).1 ≤ l.length := by
  cases l with
  | nil => simp at h
  | cons c r =>
    have key : ∀ many least (x : Int), 1 ≤ (contT many least x r).1 ∧ (contT many least x r).1 ≤ (c :: r).length := by
      intro many least x
      by_cases hs : r.length < many
      · rw [cont_short hs]; simp
      · unfold contT
        split
        · simp
        · split
          · simp
          · simp; omega
    simp only [oneT]
    split
    · simp
    · split
      · exact key _ _ _
      · split
        · exact key _ _ _
        · split
          · exact key _ _ _
          · simp
/-- May a letter be in a label? -/
def okC (c : Int) : Prop := (97 ≤ c ∧ c ≤ 122) ∨ (65 ≤ c ∧ c ≤ 90) ∨ (48 ≤ c ∧ c ≤ 57) ∨ c = 32 ∨ c = 45 ∨ (192 ≤ c ∧ c ≤ 591)
instance (c : Int) : Decidable (okC c) := by unfold okC; infer_instance
def labF (n : Nat) (f : Nat → Int) : Prop := 0 < n ∧ n ≤ 24 ∧ f 0 ≠ 32 ∧ f (n - 1) ≠ 32 ∧ ∀ i, i < n → okC (f i)
instance (n : Nat) (f : Nat → Int) : Decidable (labF n f) := by unfold labF; infer_instance
def labFB (n : Nat) (f : Nat → Int) : Bool := decide (labF n f)
theorem labF_iff {n : Nat} {f : Nat → Int} : labFB n f = true ↔ labF n f := by unfold labFB; exact decide_eq_true_iff
theorem labF_no {n : Nat} {f : Nat → Int} : labFB n f = false ↔ ¬ labF n f := by unfold labFB; exact decide_eq_false_iff_not
/-- Are these the letters of a label? -/
def labB (xs : List Int) : Bool := labFB xs.length (fun i => xs.getD i 0)
theorem ok_ways (c : Int) (h : okC c) : (97 ≤ c ∧ c ≤ 122) ∨ (65 ≤ c ∧ c ≤ 90) ∨ (48 ≤ c ∧ c ≤ 57) ∨ c = 32 ∨ c = 45 ∨ (192 ≤ c ∧ c ≤ 591) := h
theorem no_ways (c : Int) (h : ¬ okC c) : c < 32 ∨ (33 ≤ c ∧ c < 45) ∨ (46 ≤ c ∧ c < 48) ∨ (58 ≤ c ∧ c < 65) ∨ (91 ≤ c ∧ c < 97) ∨ (123 ≤ c ∧ c < 192) ∨ 592 ≤ c := by unfold okC at h; omega
/-- The letters of a text, as numbers. -/
def LTf : Nat → List UInt8 → List Int
  | 0, _ => []
  | _ + 1, [] => []
  | f + 1, c :: r => (oneT (c :: r)).2 :: LTf f ((c :: r).drop (oneT (c :: r)).1)
def LT (l : List UInt8) : List Int := LTf l.length l
theorem LTf_nil (f : Nat) : LTf f [] = [] := by cases f <;> rfl
theorem LTf_enough (f : Nat) : ∀ (g : Nat) (l : List UInt8), l.length ≤ f → l.length ≤ g → LTf f l = LTf g l := by
  induction f with
  | zero =>
    intro g l h _
    have : l = [] := List.eq_nil_of_length_eq_zero (by omega)
    subst this
    rw [LTf_nil, LTf_nil]
  | succ f ih =>
    intro g l h1 h2
    cases l with
    | nil => rw [LTf_nil, LTf_nil]
    | cons c r =>
      cases g with
      | zero => simp at h2
      | succ g =>
        have h := oneT_len (c :: r) (by simp)
        simp only [LTf]
        rw [ih g _ (by rw [List.length_drop]; omega) (by rw [List.length_drop]; omega)]
theorem LT_nil : LT [] = [] := rfl
theorem LT_step (l : List UInt8) (h : 0 < l.length) : LT l = (oneT l).2 :: LT (l.drop (oneT l).1) := by
  cases l with
  | nil => simp at h
  | cons c r =>
    have h := oneT_len (c :: r) (by simp)
    show LTf (r.length + 1) (c :: r) = _
    simp only [LTf]
    rw [LTf_enough r.length _ _ (by rw [List.length_drop]; simp at h ⊢; omega) (Nat.le_refl _)]
    rfl
theorem LTf_len (f : Nat) : ∀ l : List UInt8, (LTf f l).length ≤ l.length := by
  induction f with
  | zero => intro l; simp [LTf]
  | succ f ih =>
    intro l
    cases l with
    | nil => simp [LTf]
    | cons c r =>
      have h := oneT_len (c :: r) (by simp)
      have := ih ((c :: r).drop (oneT (c :: r)).1)
      simp only [LTf, List.length_cons]
      rw [List.length_drop] at this
      simp at this h ⊢
      omega
theorem LT_len (l : List UInt8) : (LT l).length ≤ l.length := LTf_len _ _
end Ck
