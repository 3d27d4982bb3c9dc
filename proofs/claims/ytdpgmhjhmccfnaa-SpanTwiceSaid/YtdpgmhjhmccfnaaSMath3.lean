/- Plain mathematics of the document's rows: built piece by piece from the front. -/
import Derived.Test.YtdpgmhjhmccfnaaSMath2
namespace Sp
/-- A row behind another, put together where the one ends as the other begins. -/
def joinS (out : List Spn) : List Spn → List Spn
  | [] => out
  | s :: q => match out.getLast? with
    | some t => if t.2 = s.1 then out.dropLast ++ (t.1, s.2) :: q else out ++ s :: q
    | none => s :: q
theorem joinS_nil (l : List Spn) : joinS [] l = l := by cases l <;> rfl
theorem joinS_end (out : List Spn) : joinS out [] = out := rfl
theorem joinS_snoc (q : List Spn) (t s : Spn) (r : List Spn) : joinS (q ++ [t]) (s :: r) = if t.2 = s.1 then q ++ (t.1, s.2) :: r else q ++ [t] ++ s :: r := by
  unfold joinS; simp
theorem joinS_empty (s : Spn) (r : List Spn) : joinS [] (s :: r) = s :: r := rfl
theorem bld_two (p : Int → Bool) (x y : Int) (r : List Int) : bld p (x :: y :: r) = if p x then (match bld p (y :: r) with | [] => [(x, y)] | s :: q => if s.1 = y then (x, s.2) :: q else (x, y) :: s :: q) else bld p (y :: r) := rfl
theorem join_step_no {p : Int → Bool} {x y : Int} {r : List Int} (h : p x = false) (out : List Spn) : joinS out (bld p (x :: y :: r)) = joinS out (bld p (y :: r)) := by
  rw [bld_two, if_neg (by rw [h]; simp)]
/-- A piece more. -/
theorem join_step {p : Int → Bool} {x y : Int} {r : List Int} (h : p x = true) (out : List Spn) : joinS out (bld p (x :: y :: r)) = joinS (joinS out [(x, y)]) (bld p (y :: r)) := by
  rw [bld_two, if_pos h]
  rcases List.eq_nil_or_concat out with rfl | ⟨q, t, rfl⟩
  · rw [joinS_nil, joinS_nil]
    cases hb : bld p (y :: r) with
    | nil => rfl
    | cons s q =>
      have e := joinS_snoc [] (x, y) s q
      rw [List.nil_append] at e
      rw [e]
      by_cases he : s.1 = y
      · rw [if_pos he.symm]; simp [he]
      · rw [if_neg (Ne.symm he)]; simp [he]
  · rw [List.concat_eq_append]
    cases hb : bld p (y :: r) with
    | nil => rfl
    | cons s r' =>
      simp only
      rw [joinS_snoc q t (x, y) []]
      by_cases h1 : t.2 = x
      · rw [if_pos h1, joinS_snoc q (t.1, y) s r']
        by_cases he : s.1 = y
        · rw [if_pos he, if_pos he.symm, joinS_snoc, if_pos h1]
        · rw [if_neg he, if_neg (Ne.symm he), joinS_snoc, if_pos h1]; simp
      · rw [if_neg h1, joinS_snoc (q ++ [t]) (x, y) s r']
        by_cases he : s.1 = y
        · rw [if_pos he, if_pos he.symm, joinS_snoc, if_neg h1]
        · rw [if_neg he, if_neg (Ne.symm he), joinS_snoc, if_neg h1]; simp
theorem join_one_ext (q : List Spn) (t : Spn) (x y : Int) (h : t.2 = x) : joinS (q ++ [t]) [(x, y)] = q ++ [(t.1, y)] := by rw [joinS_snoc, if_pos h]
theorem join_one_new (q : List Spn) (t : Spn) (x y : Int) (h : ¬ t.2 = x) : joinS (q ++ [t]) [(x, y)] = q ++ [t] ++ [(x, y)] := by rw [joinS_snoc, if_neg h]
theorem bld_short (p : Int → Bool) {l : List Int} (h : l.length ≤ 1) : bld p l = [] := by
  match l, h with
  | [], _ => rfl
  | [_], _ => rfl
end Sp
