import Derived.Test.YtibnbpiachdmdaaZEP3
import Derived.Test.YtibnbpiachdmdaaZNG
import Derived.Test.YtibnbpiachdmdaaZOW1
import Derived.Deep.AppendLies
import Derived.Deep.Cut
/- Contracts of the program's pickers: the first starts of a row. -/
section
namespace Go.Proofs.Ytibnbpiachdmdaa
open Go.ChangeShapes Go.WideShapes Go.ChangeAt Go.RowKit Go.Joins Sp
/-- What stands in memory on the way: the starts that were told, and a picker of the others. -/
structure FiIn (w W2 : World) (P : Value) (E : Int → Prop) (F : Nat → Prop) (m : Int) (A : Option Addr) (i cv : Nat) (wr : World) : Prop where
  row : ∃ r : List Int, r.length = i ∧ wr.ownsRow W2.heap.size 2 1 (.slice A i cv) i (iv r) ∧ r.Pairwise (· < ·) ∧ (∀ x ∈ r, E x ∧ Int64P x) ∧ (∀ x, E x → x ∈ r ∨ ∀ y ∈ r, y < x) ∧ PkA wr (.pointer none) P (fun x => E x ∧ ∀ y ∈ r, y < x) F
  le : (i : Int) ≤ max 0 m
  ge : ∀ b, F b → w.heap.size ≤ b ∧ b < W2.heap.size
  w2 : w.heap.size ≤ W2.heap.size
  bel : Below w.heap.size w wr
  sz : W2.heap.size ≤ wr.heap.size
/-- The first starts of a row were handed back. -/
def FstRet (w : World) (E : Int → Prop) (m : Int) (e : Ending) (w' : World) : Prop :=
  ∃ (r : List Int) (A' : Option Addr) (d' : Nat), e = .returned (.slice A' r.length d') ∧ Sl w' A' r.length d' (iv r) ∧ First r E m ∧ (∀ x ∈ r, Int64P x) ∧ (∀ b, A' = some b → w.heap.size ≤ b.block) ∧ Below w.heap.size w w'
theorem FiIn.ret {w W2 wr : World} {P : Value} {E : Int → Prop} {F : Nat → Prop} {m : Int} {A : Option Addr} {r : List Int} {cv : Nat} (how : wr.ownsRow W2.heap.size 2 1 (.slice A r.length cv) r.length (iv r)) (hp : r.Pairwise (· < ·)) (hE : ∀ x ∈ r, E x ∧ Int64P x) (hall : ∀ x, E x → x ∈ r ∨ ∀ y ∈ r, y < x) (h : FiIn w W2 P E F m A r.length cv wr) (hend : (r.length : Int) = max 0 m ∨ (∀ x, ¬ (E x ∧ ∀ y ∈ r, y < x))) : FstRet w E m (.returned (.slice A r.length cv)) wr := by
  obtain ⟨A2, c2, e2, hs⟩ := Sl.of_own how
  simp only [Value.slice.injEq, true_and] at e2
  obtain ⟨rfl, rfl⟩ := e2
  refine ⟨r, A, cv, rfl, hs, ⟨hp, fun x hx => (hE x hx).1, h.le, fun x hx => ?_⟩, fun x hx => (hE x hx).2, fun b hb => ?_, h.bel⟩
  · rcases hall x hx with h1 | h1
    · exact .inl h1
    · rcases hend with h2 | h2
      · exact .inr ⟨h2, h1⟩
      · exact absurd ⟨hx, h1⟩ (h2 x)
  · subst hb
    have := own_geq how (g := b.block) (by simp [Value.ownBlock])
    have := h.w2; omega
set_option maxRecDepth 100000 in
set_option maxHeartbeats 4000000 in
theorem pfirsts_any (w : World) (l : List Spn) (A : Option Addr) (d : Nat) (a g m : Int) (hl : l.length ≤ 1000) (hi : In64 l) (ha : Int64P a) (hg : Int64P g) (_hm0 : -9223372036854775808 ≤ m) (hm : m ≤ 100000) (hs : Sl w A l.length d (sv l)) :
    Calls Try.prog 9 #[.slice A l.length d, .int .i64 a, .int .i64 g, .int .i64 m] w (FstRet w (Est (formL l) (kN a) (kN g)) m) := by
  obtain ⟨j0, hj0, t0, t1, t2⟩ := info_parts int64_info15
  have HRO := Lib.hid (prow14_any w (.pointer none) 0 (fun _ => False) l A d hl hi ⟨fun _ h => h.elim, .inl ⟨rfl, rfl⟩⟩ hs)
  clear hi hs hl
  go_enter Try.func9, Try.ntmps9
  go_wp2_with fail
  go_at_call 11
  refine HRO.out.mono ?_
  rintro e w1 ⟨p, rfl, hst, hb1⟩
  obtain ⟨pa, rfl⟩ := hst.ptr
  have HPK := Lib.hid (ppick_any w1 (.pointer none) (.pointer pa) (formL l) (l.length + 1) _ a g ha hg hst)
  generalize hEE : Est (formL l) (kN a) (kN g) = E at *
  have HST := Lib.hid hst
  have HB1 := Lib.hid hb1
  clear hst hb1 hEE
  go_wp2_with fail
  go_at_call 10
  refine HPK.out.mono ?_
  rintro e w2 ⟨P, F, rfl, hpk, hF, hb2⟩
  obtain ⟨qa, rfl⟩ := hpk.ptr
  have hb02 : Below w.heap.size w w2 := HB1.out.trans (hb2.mono HB1.out.size)
  have HI : Hid (FiIn w w2 (.pointer qa) E F m none 0 0 w2) := by
    refine ⟨⟨[], rfl, World.ownsRow_nil _ _ _ _, List.Pairwise.nil, fun x hx => (by cases hx), fun x _ => .inr fun y hy => (by cases hy), hpk.congr fun x => ⟨fun h => h.1, fun h => ⟨h, fun y hy => (by cases hy)⟩⟩⟩, by omega, fun b hb => ⟨?_, hpk.lt b hb⟩, hb02.size, hb02, Nat.le_refl _⟩
    rcases hF b hb with (⟨_, hi, _⟩ | h) | h
    · exact absurd hi (Nat.not_lt_zero _)
    · exact h.1
    · exact Nat.le_trans HB1.out.size h
  clear hpk hF hb2 hb02
  go_wp2_with fail
  go_loopg [9] (m.toNat) (fun j s9 wr => ∃ (A : Option Addr) (i cv : Nat), j = (m - i).toNat ∧ s9 = .slice A i cv ∧ Hid (FiIn w w2 (.pointer qa) E F m A i cv wr))
  case atStart => exact ⟨none, 0, 0, by omega, rfl, HI.out⟩
  case round =>
    obtain ⟨A, i, cv, rfl, rfl, HI⟩ := hrel
    by_cases hlt : (i : Int) < m
    · have hltb : decide ((i : Int) < m) = true := decide_eq_true hlt
      obtain ⟨r, hr, how, hp, hE, hall, hpk⟩ := HI.out.row
      have HNX := Lib.hid (ppnext_any wr (.pointer none) (.pointer qa) _ F 0 (fun _ => False) hpk ⟨fun _ h => h.elim, .inl ⟨rfl, rfl⟩⟩ fun _ _ h => h)
      have HR := Lib.hid hr
      have HOW := Lib.hid how
      have HP := Lib.hid hp
      have HE := Lib.hid hE
      have HALL := Lib.hid hall
      clear hr how hp hE hall hpk
      go_wp2_with fail
      go_at_call 13
      refine HNX.out.mono ?_
      rintro e w3 ⟨x, k', hX, _, ho3⟩
      have how3 := own_off HOW.out ho3 fun k hk hx => hx.elim (fun h => by have := own_geq HOW.out hk; have := (HI.out.ge k h).2; omega) id
      have hb3 : Below w.heap.size w w3 := HI.out.bel.trans (ho3.toBelow HI.out.bel.size fun b hb => hb.elim (fun h => (HI.out.ge b h).1) False.elim)
      have hs3 : w2.heap.size ≤ w3.heap.size := Nat.le_trans HI.out.sz ho3.size
      rcases hX with ⟨rfl, x64, hEx, hlx, hpk⟩ | ⟨rfl, hno, hpk⟩
      · have hmx : i + 1 ≤ maxLen := by unfold maxLen; omega
        have hby : (i + 1) * 8 ≤ 140737488355328 := by omega
        have HOW3 := Lib.hid how3
        have HS3 := Lib.hid hs3
        have HB3 := Lib.hid hb3
        have HPK := Lib.hid hpk
        have HX : Hid (Int64P x ∧ (E x ∧ ∀ y ∈ r, y < x) ∧ ∀ y, (E y ∧ ∀ z ∈ r, z < y) → x ≤ y) := ⟨x64, hEx, hlx⟩
        clear how3 hs3 hb3 hpk x64 hEx hlx ho3
        go_wp2_with (refine wpList_append_lies _ rfl _ _ _ (by rfl) w2.heap.size 2 j0 _ 1 8 Try.underlying27 hj0 t0 t1 t2 rfl (by decide) (.slice A i cv) i (iv r) (by rfl) (own_off HOW3.out (F := fun _ => False) (.of_below ((Below.refl _ _).alloc (Nat.le_refl _) _)) (fun _ _ => id)) ⟨w3.heap.size, 0, none⟩ 1 1 [.int .i64 x] (by rfl) (by rfl) (World.news_of_block (cs := #[.int .i64 x]) (t := 2) (fr := (0, 0)) (heap_alloc_new _ _)) (by simp [Value.oneCell']) (Nat.lt_succ_self 0) hmx hby (by simp; have := HS3.out; omega) _ rfl ?_; intro gg cap2 w5 hown3 hgr3 hat3 hlt3)
        have ho5 : Off (fun x => (Value.slice A i cv).ownBlock = some x) w3 w5 := ((Off.refl _ w3).alloc _).trans' (Off.of_grown hgr3 fun k hk => hk)
        have HT : Hid (FiIn w w2 (.pointer qa) E F m (some ⟨gg, 0, none⟩) (i + 1) cap2 w5) := by
          refine ⟨⟨r ++ [x], by have := HR.out; simp; omega, ?_, ?_, fun y hy => ?_, fun y hy => ?_, ?_⟩, by omega, HI.out.ge, HI.out.w2, HB3.out.trans (ho5.toBelow HB3.out.size fun b hb => by have := own_geq HOW3.out hb; have := HI.out.w2; omega), Nat.le_trans HS3.out ho5.size⟩
          · rw [iv_app]; exact hown3
          · rw [List.pairwise_append]
            refine ⟨HP.out, List.pairwise_singleton _ _, fun a ha b hb => ?_⟩
            obtain rfl : b = x := by simpa using hb
            exact HX.out.2.1.2 a ha
          · rcases List.mem_append.1 hy with h | h
            · exact HE.out y h
            · obtain rfl : y = x := by simpa using h
              exact ⟨HX.out.2.1.1, HX.out.1⟩
          · rcases HALL.out y hy with h | h
            · exact .inl (List.mem_append.2 (.inl h))
            · have h2 := HX.out.2.2 y ⟨hy, h⟩
              by_cases e : y = x
              · exact .inl (by simp [e])
              · refine .inr fun z hz => ?_
                rcases List.mem_append.1 hz with h3 | h3
                · exact h z h3
                · obtain rfl : z = x := by simpa using h3
                  omega
          · refine (HPK.out.off ho5 fun b hb e => ?_).congr fun y => ⟨fun ⟨q1, q2⟩ => ⟨⟨q1, fun z hz => q2 z (List.mem_append.2 (.inl hz))⟩, q2 x (by simp)⟩, fun ⟨⟨q1, q2⟩, q3⟩ => ⟨q1, fun z hz => ?_⟩⟩
            · have := own_geq HOW3.out e; have := (HI.out.ge b hb).2; omega
            · rcases List.mem_append.1 hz with h3 | h3
              · exact q2 z h3
              · obtain rfl : z = x := by simpa using h3
                exact q3
        clear hown3 hgr3 hat3 hlt3 ho5
        go_wp2_with fail
        go_roundg ((m - (i + 1 : Nat)).toNat)
        case measure => omega
        case rel => exact ⟨_, i + 1, cap2, rfl, rfl, HT.out⟩
      · have HRT : Hid (FstRet w E m (.returned (.slice A i cv)) w3) := by
          have hf : FiIn w w2 (.pointer qa) E F m A i cv w3 := ⟨⟨r, HR.out, how3, HP.out, HE.out, HALL.out, hpk⟩, HI.out.le, HI.out.ge, HI.out.w2, hb3, hs3⟩
          have hr := HR.out
          subst hr
          exact FiIn.ret how3 HP.out HE.out HALL.out hf (.inr hno)
        clear how3 hb3 hs3 hpk hno ho3
        go_wp2_with fail
        go_ret
        exact HRT.out
    · have hltb : decide ((i : Int) < m) = false := decide_eq_false hlt
      have HRT : Hid (FstRet w E m (.returned (.slice A i cv)) wr) := by
        obtain ⟨r, hr, how, hp, hE, hall, _⟩ := HI.out.row
        subst hr
        exact FiIn.ret how hp hE hall HI.out (.inl (by have := HI.out.le; omega))
      go_wp2_with fail
      go_ret
      exact HRT.out
end Go.Proofs.Ytibnbpiachdmdaa
end
