/- The laws' walks: a row of frames. -/
import Derived.Test.YtjjmbndknjjjjaaDoorFL5
import Derived.Test.YtjjmbndknjjjjaaDoorBS
namespace Go.Proofs.YtjjmbndknjjjjaaDoor
open Go.ChangeShapes Go.WideShapes Go.ChangeAt Go.RowKit Go.Joins Fr

/-- Frames one behind the other, their numbers from k on. -/
def rowT (gen : Nat) : Nat → List (List UInt8) → List UInt8
  | _, [] => []
  | k, p :: t => putT gen k p ++ rowT gen (k + 1) t
theorem rowT_snoc (gen : Nat) (p : List UInt8) : ∀ (ls : List (List UInt8)) (k : Nat), rowT gen k (ls ++ [p]) = rowT gen k ls ++ putT gen (k + ls.length) p
  | [], k => by simp [rowT]
  | q :: t, k => by
    simp only [List.cons_append, rowT, List.length_cons]
    rw [rowT_snoc gen p t (k + 1), List.append_assoc, show k + 1 + t.length = k + (t.length + 1) by omega]
theorem rowT_take (gen : Nat) (ls : List (List UInt8)) (i : Nat) (p : List UInt8) (h : ls[i]? = some p) : rowT gen 0 (ls.take (i + 1)) = rowT gen 0 (ls.take i) ++ putT gen i p := by
  have hl := (List.getElem?_eq_some_iff.1 h).1
  rw [List.take_add_one, h, Option.toList_some, rowT_snoc, List.length_take, Nat.min_eq_left (by omega), Nat.zero_add]
theorem rowT_drop (gen : Nat) (ls : List (List UInt8)) (i : Nat) (p : List UInt8) (h : ls[i]? = some p) : rowT gen i (ls.drop i) = putT gen i p ++ rowT gen (i + 1) (ls.drop (i + 1)) := by
  have hl := (List.getElem?_eq_some_iff.1 h).1
  rw [List.drop_eq_getElem_cons hl, rowT]
  rw [List.getElem?_eq_getElem hl] at h
  rw [Option.some.inj h]
theorem rowT_len (gen : Nat) : ∀ (ls : List (List UInt8)) (k : Nat), (∀ p ∈ ls, p.length ≤ 200) → (rowT gen k ls).length ≤ 216 * ls.length
  | [], k, _ => by simp [rowT]
  | p :: t, k, h => by
    have h1 := rowT_len gen t (k + 1) fun q hq => h q (by simp [hq])
    have h2 := h p (by simp)
    have h3 : (putT gen k p).length ≤ 216 := by
      by_cases hg : gen = 0
      · subst hg; rw [putT_gen0]; simp
      · rw [putT_len hg (by omega)]; omega
    simp only [rowT, List.length_append, List.length_cons]
    omega
theorem GetP.no {gen number : Nat} {l : List UInt8} {w w' : World} {e : Ending} (h : GetP gen number l w e w') (hn : getB gen number l = false) : e = .returned (.tuple #[.slice none 0 0, .int .i64 0, .bool false]) ∧ Below w.heap.size w w' := by
  rcases h with ⟨_, h2⟩ | ⟨h1, _⟩
  · exact h2
  · rw [hn] at h1; cases h1
/-- What is read of a frame with anything behind it. -/
theorem GetP.put {gen number k : Nat} {p r : List UInt8} {w w' : World} {e : Ending} (hg : gen ≠ 0) (hl : p.length ≤ 1048576) (hk : 16 + p.length = k) (h : GetP gen number (putT gen number p ++ r) w e w') :
    ∃ A c, e = .returned (.tuple #[.slice A p.length c, .int .i64 k, .bool true]) ∧ Fresh w w' A p.length c p := by
  obtain ⟨h1, h2, h3⟩ := getB_put (number := number) (r := r) hg hl
  rcases h with ⟨h0, _⟩ | ⟨_, A, c, rfl, hf⟩
  · rw [h1] at h0; cases h0
  · rw [h3, h2] at hf
    exact ⟨A, c, by rw [h3, show (16 : Int) + (p.length : Nat) = (k : Nat) by omega], hf⟩

set_option maxRecDepth 100000 in
set_option maxHeartbeats 2000000 in
theorem frameRow_walk (gen : Nat) (ls : List (List UInt8)) (L : Option Addr) (cl : Nat) (r : List UInt8) (R : Option Addr) (cr : Nat) (w : World) (hg : gen < 4294967296) (hlc : ls.length ≤ cl) (hcl : cl ≤ 9223372036854775807) (hr : r.length ≤ cr) (hcr : cr ≤ maxLen) (hzr : R = none → cr = 0) (hLs : BsAt w L ls) (hR : BAt w R r) (hH : Halves w) :
    Calls Tryd.prog 6 #[.int .u32 gen, .slice L ls.length cl, .slice R r.length cr] w fun e w' => e = .returned (.bool true) ∧ Below w.heap.size w w' := by
  have HH := Lib.hid hH
  clear hH
  have hlm : maxLen = 9223372036854775807 := rfl
  by_cases h1 : gen = 0 ∨ 20 < ls.length ∨ 15 < r.length
  · have HF := Lib.hid (fixed6_any w HH.out)
    have hz : ((gen : Int) == 0) = true ∨ (((gen : Int) == 0) = false ∧ decide ((20 : Int) < ls.length) = true) ∨ (((gen : Int) == 0) = false ∧ decide ((20 : Int) < ls.length) = false ∧ decide ((15 : Int) < r.length) = true) := by
      by_cases h : gen = 0
      · exact Or.inl (by simp; omega)
      · by_cases h2 : 20 < ls.length
        · exact Or.inr (Or.inl ⟨beq_false_of_ne (by omega), decide_eq_true (by omega)⟩)
        · exact Or.inr (Or.inr ⟨beq_false_of_ne (by omega), decide_eq_false (by omega), decide_eq_true (by omega)⟩)
    clear h1
    rcases hz with hz | ⟨hz, hz2⟩ | ⟨hz, hz2, hz3⟩
    all_goals
      go_enter Tryd.func6, Tryd.ntmps6
      go_wp2_with fail
      go_at_call 8
      refine HF.out.mono ?_
      rintro e w' ⟨rfl, hb⟩
      go_wp2_with fail
      go_ret
      exact ⟨rfl, hb⟩
  have hz1 : ((gen : Int) == 0) = false := beq_false_of_ne (by omega)
  have hz2 : decide ((20 : Int) < ls.length) = false := decide_eq_false (by omega)
  have hz3 : decide ((15 : Int) < r.length) = false := decide_eq_false (by omega)
  have hg0 : gen ≠ 0 := by omega
  have hll : ls.length ≤ 20 := by omega
  have hrl : r.length ≤ 15 := by omega
  clear h1
  obtain ⟨i0, hi0, hq0, hq1, hq2⟩ := info_parts u8_info
  have HLs := Lib.hid hLs
  have HSR := Lib.hid (Sl.of_bytes hR hr hcr hzr)
  have h1r := Lib.hid (bl_one r)
  clear hLs hR
  go_enter Tryd.func6, Tryd.ntmps6
  go_wp2_with fail
  go_loopw [7, 35] (fun s7 s35 wr => ∃ (i : Nat) (v : Value), i ≤ ls.length ∧ v = s7 ∧ s35 = .int .i64 i ∧ Hid (Below w.heap.size w wr) ∧ Hid (∀ p ∈ ls.take i, p.length ≤ 200) ∧ Hid (wr.ownsRow w.heap.size 5 1 v (rowT gen 0 (ls.take i)).length (bl (rowT gen 0 (ls.take i))))) (fun _ s35 _ => ls.length - (intOf s35).toNat)
  case atStart => exact ⟨0, .slice none 0 0, Nat.zero_le _, rfl, rfl, Below.refl _ _, fun p hp => by simp at hp, World.ownsRow_nil _ _ _ _⟩
  case round =>
    obtain ⟨i, v, hi, rfl, rfl, HB, HP, HO⟩ := hrel
    by_cases hlt : i < ls.length
    · have hiz : (i : Int) < ls.length := by omega
      obtain ⟨p, hp⟩ : ∃ p, ls[i]? = some p := ⟨_, List.getElem?_eq_getElem hlt⟩
      obtain ⟨b, off, Ai, ci, rfl, hcell, hpc, hcm, hzn, hBp⟩ := (HLs.out.below HB.out).at_ hp
      have hpl : (p.length : Int) ≤ 9223372036854775807 := by omega
      by_cases hlong : 200 < p.length
      · have hlz : (200 : Int) < p.length := by omega
        have HF := Lib.hid (fixed6_any wr (HH.out.below HB.out))
        clear hBp
        go_wp2_with fail
        go_at_call 8
        refine HF.out.mono ?_
        rintro e w' ⟨rfl, hb⟩
        go_wp2_with fail
        go_ret
        exact ⟨rfl, HB.out.trans (hb.mono HB.out.size)⟩
      · have hlz : ¬ (200 : Int) < p.length := by omega
        have hi20 : (i : Int) < 20 := by omega
        have HPut := Lib.hid (put_yes gen i p Ai ci hg0 hg (by omega) (by omega) hpc hcm hzn wr hBp (HH.out.below HB.out))
        have HT := Lib.hid (rowT_take gen ls i p hp)
        have HP2 : Hid (∀ q ∈ ls.take (i + 1), q.length ≤ 200) := fun q hq => by
          rw [List.take_add_one, hp] at hq
          rcases List.mem_append.1 hq with h | h
          · exact HP.out q h
          · simp at h; subst h; omega
        have hrow : (rowT gen 0 (ls.take i)).length ≤ 216 * i := by
          have := rowT_len gen (ls.take i) 0 HP.out
          simp at this; omega
        have hputl := putT_len (gen := gen) (number := i) (l := p) hg0 (by omega)
        have hTl : (rowT gen 0 (ls.take (i + 1))).length = (rowT gen 0 (ls.take i)).length + (16 + p.length) := by rw [HT.out, List.length_append, hputl]
        obtain ⟨m, hm⟩ : ∃ m, 16 + p.length = m := ⟨_, rfl⟩
        obtain ⟨q, hq⟩ : ∃ q, (rowT gen 0 (ls.take i)).length = q := ⟨_, rfl⟩
        rw [hm] at HPut hputl hTl
        rw [hq] at HO hTl hrow
        have HTL := Lib.hid hTl
        have HPL := Lib.hid hputl
        have HO' := Lib.hid HO.out
        have h1x := Lib.hid (bl_one (putT gen i p))
        have hmq : q + m ≤ maxLen := by omega
        clear hBp hq hTl hputl HO
        go_wp2_with fail
        go_at_call 9
        refine HPut.out.mono ?_
        rintro e w2 ⟨A2, c2, rfl, hf⟩
        have W2 := Lib.hid (HB.out.trans (hf.below.mono HB.out.size))
        have HS2 := Lib.hid hf.sl
        have HO2 := Lib.hid (own_off HO'.out (F := fun _ => False) (.of_below hf.below) (fun _ _ h => h))
        clear hf HO'
        go_wp2_with (at_builtin; refine wpList_append_sl rfl _ _ _ (by rfl) w.heap.size 5 i0 _ 1 1 Tryd.underlying23 hi0 hq0 hq1 hq2 rfl (by decide) v q _ (by rfl) HO2.out A2 m c2 (bl (putT gen i p)) (by rfl) HS2.out (by rw [bl_len, HPL.out]; omega) h1x.out hmq (by omega) W2.out.size ?_)
        intro v3 w3 o3 gr3
        have W3 : Hid (Below w.heap.size w w3) := W2.out.grown gr3 W2.out.size fun k hk => (HO2.out.lt k hk).1
        rw [← bl_app, ← HT.out, ← HTL.out] at o3
        have HO3 := Lib.hid o3
        clear o3 gr3 HO2 W2
        go_wp2_with fail
        go_roundw
        case rel => exact ⟨i + 1, v3, hlt, rfl, by go_num, W3, HP2, HO3⟩
        case measure => simp [intOf]; omega
    · obtain rfl : i = ls.length := by omega
      have hall : ∀ p ∈ ls, p.length ≤ 200 := by have := HP.out; rwa [List.take_length] at this
      have hrow := rowT_len gen ls 0 hall
      rw [List.take_length] at HO
      have hmq : (rowT gen 0 ls).length + r.length ≤ maxLen := by omega
      have HALL := Lib.hid hall
      have HO2 := Lib.hid HO.out
      have HSR2 := Lib.hid (HSR.out.below HB.out (Nat.le_refl _))
      clear HO hall HP
      go_wp2_with (at_builtin; refine wpList_append_sl rfl _ _ _ (by rfl) w.heap.size 5 i0 _ 1 1 Tryd.underlying23 hi0 hq0 hq1 hq2 rfl (by decide) v (rowT gen 0 ls).length _ (by rfl) HO2.out R r.length cr (bl r) (by rfl) HSR2.out (by rw [bl_len]; omega) h1r.out hmq (by omega) HB.out.size ?_)
      intro v3 w3 o3 gr3
      have W3 : Hid (Below w.heap.size w w3) := HB.out.grown gr3 HB.out.size fun k hk => (HO2.out.lt k hk).1
      rw [← bl_app] at o3
      have hal : (rowT gen 0 ls ++ r).length = (rowT gen 0 ls).length + r.length := by simp
      rw [← hal] at o3
      obtain ⟨A3, c3, rfl, q1, q2, q3, q4, _⟩ := BAt.of_own o3
      have HB3 := Lib.hid q3
      have hN : (rowT gen 0 ls ++ r).length ≤ 4400 := by omega
      have HNL : Hid ((rowT gen 0 ls ++ r).length = (rowT gen 0 ls ++ r).length) := rfl
      clear o3 gr3 HO2 q3 q4 hal hmq hrow HB HSR2
      obtain ⟨N0, hN0⟩ : ∃ N0, (rowT gen 0 ls ++ r).length = N0 := ⟨_, rfl⟩
      rw [hN0] at q1 hN ⊢
      have HN0 := Lib.hid hN0
      clear hN0 HNL
      go_wp2_with fail
      go_loopw [7, 63] (fun s7 s63 wr => ∃ (i N C : Nat) (A : Option Addr), i ≤ ls.length ∧ s7 = .slice A N C ∧ s63 = .int .i64 i ∧ N ≤ C ∧ C ≤ maxLen ∧ N ≤ 4400 ∧ Hid (Below w.heap.size w wr) ∧ Hid ((rowT gen i (ls.drop i) ++ r).length = N) ∧ Hid (BAt wr A (rowT gen i (ls.drop i) ++ r))) (fun _ s63 _ => ls.length - (intOf s63).toNat)
      case atStart => exact ⟨0, _, c3, A3, Nat.zero_le _, rfl, rfl, q1, q2, hN, W3, by show _ = _; rw [← HN0.out]; simp, by show BAt _ _ _; simpa using HB3.out⟩
      case round =>
        obtain ⟨i, N, C, A, hi, rfl, rfl, hNC, hCm, hN4, HB, HN, HA⟩ := hrel
        by_cases hlt : i < ls.length
        · have hiz : (i : Int) < ls.length := by omega
          have hi20 : (i : Int) < 20 := by omega
          obtain ⟨p, hp⟩ : ∃ p, ls[i]? = some p := ⟨_, List.getElem?_eq_getElem hlt⟩
          have hp200 := HALL.out p (List.mem_of_getElem? hp)
          obtain ⟨b, off, Ai, ci, rfl, hcell, hpc, hcm, hzn, hBp⟩ := (HLs.out.below HB.out).at_ hp
          have hT : rowT gen i (ls.drop i) ++ r = putT gen i p ++ (rowT gen (i + 1) (ls.drop (i + 1)) ++ r) := by rw [rowT_drop gen ls i p hp, List.append_assoc]
          have hputl := putT_len (gen := gen) (number := i) (l := p) hg0 (by omega)
          rw [hT] at HN HA
          obtain ⟨m, hm⟩ : ∃ m, 16 + p.length = m := ⟨_, rfl⟩
          have hmz : (p.length : Int) + 16 = m := by omega
          have hmN : m ≤ N := by have := HN.out; rw [List.length_append, hputl] at this; omega
          have hmNz : ¬ (N : Int) < m := by omega
          have HG := Lib.hid (get_any gen i N _ A C hg (by omega) HN.out hNC hCm wr HA.out (HH.out.below HB.out))
          obtain ⟨A5, A6, _, hs2, _, hB2⟩ := HA.out.cut (P := Tryd.prog) (t := 23) (ca := C) (k := m) (by rw [HN.out]; omega) (by rw [HN.out]; omega) (by kernel_rfl) (fun w' => by kernel_rfl)
          rw [List.drop_append_of_le_length (by omega), List.drop_of_length_le (by omega), List.nil_append] at hB2
          rw [HN.out] at hs2
          have HN2 : Hid ((rowT gen (i + 1) (ls.drop (i + 1)) ++ r).length = N - m) := by show _ = _; have := HN.out; rw [List.length_append, hputl] at this; omega
          have HB2 := Lib.hid hB2
          have HBp := Lib.hid hBp
          clear hT hputl hB2 hBp HA
          go_wp2_with fail
          go_at_call 11
          refine HG.out.mono ?_
          intro e w4 hret
          obtain ⟨A4, c4, rfl, hf⟩ := GetP.put hg0 (by omega) hm hret
          have W4 := Lib.hid (HB.out.trans (hf.below.mono HB.out.size))
          have HB4 := Lib.hid (HB2.out.below hf.below (Nat.le_refl _))
          have cvQ := hf.at_.1.conv (P := Tryd.prog) c4 (dst := 9) Tryd.underlying23 Tryd.underlying5 Tryd.underlying9
          have cvP := (HBp.out.below hf.below (Nat.le_refl _)).conv (P := Tryd.prog) ci (dst := 9) Tryd.underlying23 Tryd.underlying5 Tryd.underlying9
          clear hret hf HG HB2 HBp
          go_wp2_with fail
          go_roundw
          case rel => exact ⟨i + 1, N - m, C - m, A6, hlt, rfl, by go_num, by omega, by omega, by omega, W4, HN2, HB4⟩
          case measure => simp [intOf]; omega
        · obtain rfl : i = ls.length := by omega
          have hd : rowT gen ls.length (ls.drop ls.length) ++ r = r := by rw [List.drop_length]; rfl
          rw [hd] at HN HA
          obtain rfl : r.length = N := HN.out
          have hl20 : (ls.length : Int) ≤ 20 := by omega
          have HG := Lib.hid (get_any gen ls.length r.length r A C hg (by omega) rfl hNC hCm wr HA.out (HH.out.below HB.out))
          have hno : getB gen ls.length r = false := getB_none hg (by omega) (by omega)
          go_wp2_with fail
          go_at_call 11
          refine HG.out.mono ?_
          intro e w4 hret
          obtain ⟨rfl, hb⟩ := hret.no hno
          have W4 := Lib.hid (HB.out.trans (hb.mono HB.out.size))
          clear hret hb
          go_wp2_with fail
          go_at_call 8
          refine (fixed6_any w4 (HH.out.below W4.out)).mono ?_
          rintro e w5 ⟨rfl, hb⟩
          go_wp2_with fail
          go_ret
          exact ⟨rfl, W4.out.trans (hb.mono W4.out.size)⟩
end Go.Proofs.YtjjmbndknjjjjaaDoor
