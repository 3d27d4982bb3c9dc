/- SpanTwice, walked. -/
import Derived.Test.YtdpgmhjhmccfnaaSL1
namespace Go.Proofs.Ytdpgmhjhmccfnaa
open Go.ChangeShapes Go.WideShapes Go.ChangeAt Go.RowKit Go.Joins Sp

set_option maxRecDepth 100000 in
set_option maxHeartbeats 8000000 in
theorem spanTwice_any (K : SpK) (l : List Spn) (A : Option Addr) (c : Nat) (p q : Int) (hp : 0 ≤ p ∧ p ≤ 65535) (hq : 0 ≤ q ∧ q ≤ 65535) (hin : In64 l) (w : World) (hs : Sl w A l.length c (sv l)) :
    Calls Try.prog 7 #[.slice A l.length c, .int .u16 p, .int .u16 q] w fun e w' => e = .returned (.bool true) ∧ Below w.heap.size w w' := by
  have HFX := Lib.hid (fun V : World => fixed13_any K V)
  have hlc : (l.length : Int) ≤ 9223372036854775807 := by have := hs.le; have := hs.cap; unfold maxLen at this; omega
  by_cases hl : 40 < l.length
  · have hlz : decide ((40 : Int) < l.length) = true := decide_eq_true (by omega)
    clear hl hs hin
    go_enter Try.func7, Try.ntmps7
    go_wp2_with fail
    go_at_call 8
    refine (HFX.out _).mono ?_
    rintro e w2 ⟨rfl, hb⟩
    obtain ⟨g, rfl⟩ := Gr.of hb
    clear hb
    go_wp2_with fail
    go_ret
    exact ⟨rfl, g.ok⟩
  have hlz : decide ((40 : Int) < l.length) = false := decide_eq_false (by omega)
  have hl1 : l.length ≤ 1000 := by omega
  have HS0 := Lib.hid hs
  have HIN := Lib.hid hin
  have wp : IntKind.i64.wrap p = p := by rw [IntKind.wrap_i64]; omega
  have wq : IntKind.i64.wrap q = q := by rw [IntKind.wrap_i64]; omega
  have wpq : IntKind.i64.wrap (p + q) = p + q := by rw [IntKind.wrap_i64]; omega
  have wqp : IntKind.i64.wrap (q + p) = q + p := by rw [IntKind.wrap_i64]; omega
  have wnq : IntKind.i64.wrap (-q) = -q := by rw [IntKind.wrap_i64]; omega
  clear hs hin hl
  go_enter Try.func7, Try.ntmps7
  go_wp2_with fail
  go_loopw [17] (fun s17 wr => ∃ (k : Nat) (g : Gr w), wr = g.val ∧ s17 = .int .i64 k ∧ k ≤ l.length ∧ Hid (∀ s ∈ l.take k, (-1099511627776 : Int) ≤ s.1 ∧ s.2 ≤ 1099511627776)) (fun s17 _ => l.length - (intOf s17).toNat)
  case atStart => exact ⟨0, ⟨_, Below.refl _ _⟩, rfl, rfl, Nat.zero_le _, fun s hs => by simp at hs⟩
  case round =>
    obtain ⟨k, g, rfl, rfl, hk, HB⟩ := hrel
    by_cases hlt : k < l.length
    · have hkz : (k : Int) < l.length := by omega
      have hwk : IntKind.i64.wrap ((k : Int) + 1) = k + 1 := by rw [IntKind.wrap_i64]; omega
      obtain ⟨s, hs⟩ : ∃ s, l[k]? = some s := ⟨_, List.getElem?_eq_getElem hlt⟩
      obtain ⟨b, off, rfl, hbs, q1, q2⟩ := (HS0.out.gr g).span hs
      have HTK : Hid (∀ t ∈ l.take (k + 1), t ∈ l.take k ∨ t = s) := fun t ht => by
        rw [List.take_add_one, hs] at ht
        rcases List.mem_append.1 ht with z | z
        · exact .inl z
        · exact .inr (by simpa using z)
      obtain ⟨s1, s2⟩ := s
      simp only at q1 q2
      obtain ⟨g2, hg2⟩ := g.up0 (o := .cells #[.int .i64 s1, .int .i64 s2] 32)
      have HG2 := Lib.hid hg2
      have hw4 : (decide (s1 < -1099511627776) = true ∨ decide (s1 < -1099511627776) = false ∧ decide (1099511627776 < s2) = true) ∨ decide (s1 < -1099511627776) = false ∧ decide (1099511627776 < s2) = false := by
        cases decide (s1 < -1099511627776) <;> cases decide (1099511627776 < s2) <;> simp
      clear hs hg2
      rcases hw4 with hw4 | ⟨e1, e2⟩
      · rcases hw4 with e1 | ⟨e1, e2⟩
        all_goals
          go_wp2_with fail
          go_at_call 8
          refine (HFX.out _).mono ?_
          rw [HG2.out]
          rintro e w5 ⟨rfl, hb⟩
          obtain ⟨g5, rfl⟩ : ∃ g5 : Gr w, w5 = g5.val := Gr.on g2 hb
          clear hb
          go_wp2_with fail
          go_ret
          exact ⟨rfl, g5.ok⟩
      · go_wp2_with fail
        go_roundw
        case rel => exact ⟨k + 1, g2, HG2.out, by go_num, hlt, fun t ht => (HTK.out t ht).elim (HB.out t) fun z => by rw [z]; exact ⟨by have := of_decide_eq_false e1; simp only; omega, by have := of_decide_eq_false e2; simp only; omega⟩⟩
        case measure => simp [intOf]; omega
    · obtain rfl : k = l.length := by omega
      have hbd : ∀ s ∈ l, (-1099511627776 : Int) ≤ s.1 ∧ s.2 ≤ 1099511627776 := by have := HB.out; rwa [List.take_length] at this
      have htw : growL (growL l p q) q p = growL l (p + q) (q + p) := grow_twice hp.1 hq.1 hq.1 hp.1 hbd (by omega) (by omega)
      have hno : growL l 0 (-q) = formL l := grow_none (by omega)
      have hgl : ∀ (r : List Spn) (x y : Int), (growL r x y).length ≤ r.length := fun r x y => Nat.le_trans (form_len _) (by rw [List.length_map]; exact form_len r)
      have hgi : In64 (growL l p q) := fun s hs => by
        have h1 := grow_in hp.1 hq.1 hbd (by omega) (by omega) s hs
        have h2 := form_pos (growL_form l p q) hs
        omega
      have C1 : Hid (∀ (V : World), Sl V A l.length c (sv l) → Calls Try.prog 22 #[.slice A l.length c, .int .i64 p, .int .i64 q] V (RetS (growL l p q) V)) := fun V h => K.grow l p q A c V hl1 HIN.out ⟨by omega, by omega⟩ ⟨by omega, by omega⟩ h
      have C2 : Hid (∀ (V : World) (A : Option Addr) (c : Nat), Sl V A (growL l p q).length c (sv (growL l p q)) → Calls Try.prog 22 #[.slice A (growL l p q).length c, .int .i64 q, .int .i64 p] V (RetS (growL l (p + q) (q + p)) V)) := fun V A c h => by
        rw [← htw]; exact K.grow (growL l p q) q p A c V (Nat.le_trans (hgl l p q) hl1) hgi ⟨by omega, by omega⟩ ⟨by omega, by omega⟩ h
      have C3 : Hid (∀ (V : World), Sl V A l.length c (sv l) → Calls Try.prog 22 #[.slice A l.length c, .int .i64 (p + q), .int .i64 (q + p)] V (RetS (growL l (p + q) (q + p)) V)) := fun V h => K.grow l (p + q) (q + p) A c V hl1 HIN.out ⟨by omega, by omega⟩ ⟨by omega, by omega⟩ h
      have C4 : Hid (∀ (V : World), Sl V A l.length c (sv l) → Calls Try.prog 22 #[.slice A l.length c, .int .i64 0, .int .i64 (-q)] V (RetS (formL l) V)) := fun V h => by
        rw [← hno]; exact K.grow l 0 (-q) A c V hl1 HIN.out ⟨by omega, by omega⟩ ⟨by omega, by omega⟩ h
      have C5 : Hid (∀ (V : World), Sl V A l.length c (sv l) → Calls Try.prog 9 #[.slice A l.length c] V (RetS (formL l) V)) := fun V h => K.form l A c V hl1 HIN.out h
      have CS : Hid (∀ (r : List Spn) (V : World) (A B : Option Addr) (c d : Nat), Sl V A r.length c (sv r) → Sl V B r.length d (sv r) → Calls Try.prog 10 #[.slice A r.length c, .slice B r.length d] V fun e w' => e = .returned (.bool true) ∧ Below V.heap.size V w') := fun r V A B c d h1 h2 => by
        have := rsame_any _ _ A B c d V h1 h2; rwa [decide_eq_true rfl] at this
      have Sl0 := Lib.hid (HS0.out.gr g)
      clear htw hno hgl hgi hbd HB HS0
      generalize growL l p q = G1 at *
      generalize growL l (p + q) (q + p) = G2 at *
      generalize formL l = F at *
      go_wp2_with fail
      go_at_call 8
      refine (HFX.out _).mono ?_
      rintro e w5 ⟨rfl, hb⟩
      have Sl0 := Lib.hid (Sl0.out.below hb (Nat.le_refl _))
      obtain ⟨g, rfl⟩ : ∃ g5 : Gr w, w5 = g5.val := Gr.on g hb
      clear hb
      go_wp2_with fail
      go_at_call 22
      refine (C1.out _ Sl0.out).mono ?_
      rintro e w5 ⟨Au, cu, rfl, hs, hb⟩
      have Sl0 := Lib.hid (Sl0.out.below hb (Nat.le_refl _))
      have Su := Lib.hid hs
      obtain ⟨g, rfl⟩ : ∃ g5 : Gr w, w5 = g5.val := Gr.on g hb
      clear hb hs
      go_wp2_with fail
      go_at_call 22
      refine (C2.out _ _ _ Su.out).mono ?_
      rintro e w5 ⟨Av, cv, rfl, hs, hb⟩
      have Sl0 := Lib.hid (Sl0.out.below hb (Nat.le_refl _))
      have Sv := Lib.hid hs
      obtain ⟨g, rfl⟩ : ∃ g5 : Gr w, w5 = g5.val := Gr.on g hb
      clear hb hs
      go_wp2_with fail
      go_at_call 22
      refine (C3.out _ Sl0.out).mono ?_
      rintro e w5 ⟨Az, cz, rfl, hs, hb⟩
      have Sl0 := Lib.hid (Sl0.out.below hb (Nat.le_refl _))
      have Sv := Lib.hid (Sv.out.below hb (Nat.le_refl _))
      have Sz := Lib.hid hs
      obtain ⟨g, rfl⟩ : ∃ g5 : Gr w, w5 = g5.val := Gr.on g hb
      clear hb hs
      go_wp2_with fail
      go_at_call 10
      refine (CS.out _ _ _ _ _ _ Sv.out Sz.out).mono ?_
      rintro e w5 ⟨rfl, hb⟩
      have Sl0 := Lib.hid (Sl0.out.below hb (Nat.le_refl _))
      obtain ⟨g, rfl⟩ : ∃ g5 : Gr w, w5 = g5.val := Gr.on g hb
      clear hb
      go_wp2_with fail
      go_at_call 22
      refine (C4.out _ Sl0.out).mono ?_
      rintro e w5 ⟨Au, cu, rfl, hs, hb⟩
      have Sl0 := Lib.hid (Sl0.out.below hb (Nat.le_refl _))
      have Su := Lib.hid hs
      obtain ⟨g, rfl⟩ : ∃ g5 : Gr w, w5 = g5.val := Gr.on g hb
      clear hb hs
      go_wp2_with fail
      go_at_call 9
      refine (C5.out _ Sl0.out).mono ?_
      rintro e w5 ⟨Az, cz, rfl, hs, hb⟩
      have Su := Lib.hid (Su.out.below hb (Nat.le_refl _))
      have Sz := Lib.hid hs
      obtain ⟨g, rfl⟩ : ∃ g5 : Gr w, w5 = g5.val := Gr.on g hb
      clear hb hs
      go_wp2_with fail
      go_at_call 10
      refine (CS.out _ _ _ _ _ _ Su.out Sz.out).mono ?_
      rintro e w5 ⟨rfl, hb⟩
      obtain ⟨g, rfl⟩ : ∃ g5 : Gr w, w5 = g5.val := Gr.on g hb
      clear hb
      go_wp2_with fail
      go_ret
      exact ⟨rfl, g.ok⟩
end Go.Proofs.Ytdpgmhjhmccfnaa
