import Derived.Test.YtdhinjbkfffpeaaGreatYRP5
import Derived.Test.YtdhinjbkfffpeaaGreatYASL
/- Contracts of the program's pass: rows of things that hold no rows. -/
section
namespace Go.Proofs.YtdhinjbkfffpeaaGreat
open Go.ChangeShapes Go.WideShapes Go.ChangeAt Go.RowKit Go.Joins Sp Fr Pk
def Md.Rd : Md → Prop
  | .wr _ => False
  | .rd _ => True
section
variable {α : Type} {c : Cd α} {x y z : α} {m m' : Md} {b b' : Bool} {l g : List α} {i n : Nat} {P : Nat} {F F1 F2 : Nat → Prop} {w w1 w2 w3 : World} {v : Value}
theorem Dn.mode (h : Dn c x m b y m' b') : m'.Rd ↔ m.Rd := by
  cases m with
  | wr l => obtain ⟨t, rfl, _⟩ := h; exact Iff.rfl
  | rd r => obtain ⟨t, rfl, _⟩ := h; exact Iff.rfl
theorem Dns.mode (h : Dns c l m b i g m' b') : m'.Rd ↔ m.Rd := by
  cases m with
  | wr l => obtain ⟨t, rfl, _⟩ := h; exact Iff.rfl
  | rd r => obtain ⟨t, rfl, _⟩ := h; exact Iff.rfl
theorem Md.Room.of_rd (h : m.Rd) (n : Nat) : m.Room n := by cases m with | wr l => exact h.elim | rd r => trivial
theorem Md.not_rd (h : ¬ m.Rd) : ∃ s, m = .wr s := by cases m with | wr l => exact ⟨l, rfl⟩ | rd r => exact (h trivial).elim
theorem Md.is_rd (h : m.Rd) : ∃ s, m = .rd s := by cases m with | wr l => exact h.elim | rd r => exact ⟨r, rfl⟩
theorem Dns.room_at (h : Dns c l m b i g m' b') (hr : m.Room ((l.map c.cost).sum + n)) (hi : ¬ m.Rd → i < l.length) : m'.Room (c.cost ((l[i]?).getD z)) := by
  by_cases hm : m.Rd
  · exact Md.Room.of_rd (h.mode.2 hm) _
  · have hlt := hi hm
    have h2 := h.room hr (fun _ _ => by omega)
    refine h2.mono ?_
    have hv : l[i]? = some l[i] := List.getElem?_eq_getElem hlt
    rw [hv, List.drop_eq_getElem_cons hlt]
    simp only [Option.getD, List.map_cons, List.sum_cons]
    omega
theorem PsTo.grown (h : PsTo w w1 P m b F F1) {o : Obj} (hgr : (w1.alloc o).grownBy w2 v.ownBlock) (hv : ∀ k, v.ownBlock = some k → ¬ F1 k ∧ w.heap.size ≤ k) : PsTo w w2 P m b F F1 := by
  have h2 := h.below ((Below.refl w1.heap.size w1).alloc (Nat.le_refl _) o)
  have ho : Off (fun k => v.ownBlock = some k) (w1.alloc o) w2 := Off.of_grown hgr fun k hk => hk
  exact ⟨h2.at_.off ho fun k hk e => (hv k e).1 hk, h2.off.trans ho fun k hk => .inr (hv k hk).2, h2.new⟩
end
theorem wpHo_name {P : Program} {l : List Oper} {Q : Exit → Act → World → Prop} {S : World → Prop} {calls : Nat → Bool} {ks : List Nat} {a : Act} {w : World} (h : ∀ OPS : Array Oper, OPS = l.toArray → wpHo P OPS S Q calls ks a w) : wpHo P l.toArray S Q calls ks a w := h _ rfl
theorem setAll_part : ∀ (vs pre cs tl : List Value), cs.length = vs.length → setAll (pre ++ (cs ++ tl)).toArray pre.length vs = (pre ++ (vs ++ tl)).toArray
  | [], pre, cs, tl, h => by
    obtain rfl : cs = [] := List.length_eq_zero_iff.1 h
    rfl
  | v :: r, pre, cs, tl, h => by
    cases cs with
    | nil => simp at h
    | cons c cr =>
      have ih := setAll_part r (pre ++ [v]) cr tl (by simpa using h)
      rw [setAll]
      have e : (pre ++ (c :: cr ++ tl)).toArray.setIfInBounds pre.length v = (pre ++ [v] ++ (cr ++ tl)).toArray := by simp
      rw [e]
      rw [List.length_append] at ih
      rw [show pre.length + 1 = pre.length + [v].length from rfl, ih]
      simp
theorem setAll_all {vs cs : List Value} (h : cs.length = vs.length) : setAll cs.toArray 0 vs = vs.toArray := by
  have := setAll_part vs [] cs [] h
  simpa using this
theorem kv_snoc {α : Type} (f : α → List Value) (l : List α) (x : α) : kv f (l ++ [x]) = kv f l ++ f x := by
  induction l with
  | nil => simp [kv]
  | cons a r ih => simp [kv, ih]
theorem sv_kv : ∀ l : List Spn, sv l = kv (fun x : Spn => [.int .i64 x.1, .int .i64 x.2]) l
  | [] => rfl
  | s :: r => by unfold sv kv; rw [sv_kv r]; rfl
theorem tv_kv : ∀ l : List (Int × Int × Int), tv l = kv (fun x : Int × Int × Int => [.int .i64 x.1, .int .i64 x.2.1, .int .i64 x.2.2]) l
  | [] => rfl
  | s :: r => by unfold tv kv; rw [tv_kv r]; rfl
theorem iv_kv : ∀ l : List Int, iv l = kv (fun x : Int => [.int .i64 x]) l
  | [] => rfl
  | s :: r => by rw [show iv (s :: r) = .int .i64 s :: iv r from rfl, iv_kv r]; rfl
theorem cv_kv (l : List (Int × Int × Int)) : cv l = kv (fun x : Int × Int × Int => [.int .i64 x.1, .int .i64 x.2.1, .int .i64 x.2.2]) l := by rw [cv_tv', tv_kv]
end Go.Proofs.YtdhinjbkfffpeaaGreat
end
