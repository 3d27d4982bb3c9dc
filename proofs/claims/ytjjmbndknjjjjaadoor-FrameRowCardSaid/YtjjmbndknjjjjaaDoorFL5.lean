/- The laws' walks: what is no frame. -/
import Derived.Test.YtjjmbndknjjjjaaDoorFL4
namespace Go.Proofs.YtjjmbndknjjjjaaDoor
open Go.ChangeShapes Go.WideShapes Go.ChangeAt Go.RowKit Go.Joins Fr

theorem GetP.any {gen number : Nat} {l : List UInt8} {w w' : World} {e : Ending} (h : GetP gen number l w e w') : ∃ A n c k, e = .returned (.tuple #[.slice A n c, .int .i64 k, .bool (getB gen number l)]) ∧ Below w.heap.size w w' := by
  rcases h with ⟨h, rfl, hb⟩ | ⟨h, A, c, rfl, hf⟩
  · exact ⟨_, _, _, _, by rw [h], hb⟩
  · exact ⟨_, _, _, _, by rw [h], hf.below⟩
theorem get_gen {gen number other : Nat} {p : List UInt8} (h : gen ≠ 0) (hg : gen < 4294967296) (hn : number < 4294967296) (ho : other < 4294967296) (hl : p.length ≤ 1048576) :
    getB other number (putT gen number p) = ((other : Int) == (gen : Int)) := by
  have ht := putT_tells (r := []) h hg hn hl
  rw [List.append_nil] at ht
  by_cases e : other = gen
  · subst e
    have := (getB_put (number := number) (r := []) h hl).1
    rw [List.append_nil] at this
    rw [this]; simp
  · rw [getB_none ho hn (fun k => e (k.2.1.symm.trans ht.1))]
    symm; simp; omega
theorem get_number {gen number other : Nat} {p : List UInt8} (h : gen ≠ 0) (hg : gen < 4294967296) (hn : number < 4294967296) (ho : other < 4294967296) (hl : p.length ≤ 1048576) :
    getB gen other (putT gen number p) = ((other : Int) == (number : Int)) := by
  have ht := putT_tells (r := []) h hg hn hl
  rw [List.append_nil] at ht
  by_cases e : other = number
  · subst e
    have := (getB_put (number := other) (r := []) h hl).1
    rw [List.append_nil] at this
    rw [this]; simp
  · rw [getB_none hg ho (fun k => e (k.2.2.1.symm.trans ht.2.1))]
    symm; simp; omega
theorem rd4_take (l : List UInt8) (k : Nat) (h : 4 ≤ k) : rd4 (l.take k) = rd4 l := by
  unfold rd4
  simp only [List.getD_eq_getElem?_getD, List.getElem?_take]
  rw [if_pos (by omega), if_pos (by omega), if_pos (by omega), if_pos (by omega)]
/-- A first part of a frame is none. -/
theorem get_part {gen number : Nat} {p : List UInt8} (h : gen ≠ 0) (hl : p.length ≤ 1048576) {k g2 n2 : Nat} (hk : k < (putT gen number p).length) : getB g2 n2 ((putT gen number p).take k) = false := by
  cases e : getB g2 n2 ((putT gen number p).take k) with
  | false => rfl
  | true =>
    exfalso
    obtain ⟨h1, _, _, h2, _⟩ := getB_iff.1 e
    have h3 := (getB_put (number := number) (r := []) h hl).2.2
    rw [List.append_nil] at h3
    have hp := putT_len (number := number) h hl
    rw [List.length_take] at h1 h2
    rw [rd4_take _ _ (by omega), h3] at h2
    omega

set_option maxHeartbeats 1000000 in
theorem frameOnly_walk (gen number other : Nat) (l : List UInt8) (A : Option Addr) (c : Nat) (cut : Int) (w : World) (hg : gen < 4294967296) (hn : number < 4294967296) (ho : other < 4294967296) (hl : l.length ≤ c) (hc : c ≤ maxLen) (hz : A = none → c = 0) (hcut : 0 ≤ cut ∧ cut ≤ 65535) (hA : BAt w A l) (hH : Halves w) :
    Calls Tryd.prog 5 #[.int .u32 gen, .int .u32 number, .int .u32 other, .slice A l.length c, .int .u16 cut] w fun e w' => e = .returned (.bool true) ∧ Below w.heap.size w w' := by
  have HH := Lib.hid hH
  clear hH
  by_cases h1 : 5000 < l.length ∨ gen = 0
  · have HF := Lib.hid (fixed6_any w HH.out)
    have hz : (decide ((5000 : Int) < l.length) = true) ∨ (decide ((5000 : Int) < l.length) = false ∧ ((gen : Int) == 0) = true) := by
      by_cases h : 5000 < l.length
      · exact Or.inl (decide_eq_true (by omega))
      · exact Or.inr ⟨decide_eq_false (by omega), by simp; omega⟩
    clear h1
    rcases hz with hz | ⟨hz, hz2⟩
    all_goals
      go_enter Tryd.func5, Tryd.ntmps5
      go_wp2_with fail
      go_at_call 8
      refine HF.out.mono ?_
      rintro e w' ⟨rfl, hb⟩
      go_wp2_with fail
      go_ret
      exact ⟨rfl, hb⟩
  have hz1 : decide ((5000 : Int) < l.length) = false := decide_eq_false (by omega)
  have ll : l.length ≤ 5000 := by omega
  have hg0 : gen ≠ 0 := by omega
  have hg0z : ((gen : Int) == 0) = false := beq_false_of_ne (by omega)
  clear h1
  have HX := Lib.hid (put_yes gen number l A c hg0 hg hn (by omega) hl hc hz w hA HH.out)
  have hpl := putT_len (number := number) hg0 (show l.length ≤ 1048576 by omega)
  have e1 := get_gen (number := number) (p := l) hg0 hg hn ho (by omega)
  have e2 := get_number (number := number) (p := l) hg0 hg hn ho (by omega)
  have e3 := fun k hk => get_part (gen := gen) (number := number) (p := l) (k := k) (g2 := gen) (n2 := number) hg0 (by omega) hk
  obtain ⟨m, hm⟩ : ∃ m, 16 + l.length = m := ⟨_, rfl⟩
  have hm0 : ((m : Int) == 0) = false := beq_false_of_ne (by omega)
  have hml : m ≤ 5016 := by omega
  rw [hm] at HX hpl
  obtain ⟨k, hk⟩ : ∃ k : Nat, cut.tmod (m : Int) = k := ⟨(cut % m).toNat, by
    rw [Int.tmod_eq_emod_of_nonneg hcut.1]; have := Int.emod_nonneg cut (show (m : Int) ≠ 0 by omega); omega⟩
  have hkl : k < m := by
    have := Int.emod_lt_of_pos cut (show (0 : Int) < m by omega)
    rw [Int.tmod_eq_emod_of_nonneg hcut.1] at hk; omega
  have e4 := e3 k (by omega)
  generalize putT gen number l = X at *
  have E1 := Lib.hid e1
  have E2 := Lib.hid e2
  have E4 := Lib.hid e4
  clear e1 e2 e3 e4 hA hl hz hm hg0
  go_enter Tryd.func5, Tryd.ntmps5
  go_wp2_with fail
  go_at_call 9
  refine HX.out.mono ?_
  rintro e w1 ⟨A1, c1, rfl, hf⟩
  have W1 := Lib.hid hf.below
  have HX1 := Lib.hid hf.at_.1
  have hc1 := hf.le
  have hm1 : c1 ≤ maxLen := hf.cap
  have HH1 := Lib.hid (HH.out.below W1.out)
  clear hf
  obtain ⟨A5, A6, hs1, _, hB1, _⟩ := HX1.out.cut (P := Tryd.prog) (t := 23) (ca := c1) (k := k) (by omega) (by omega) (by kernel_rfl) (fun w' => by kernel_rfl)
  rw [hpl] at hs1
  have HB1 := Lib.hid hB1
  have HG1 := Lib.hid (get_any other number m X A1 c1 ho hn hpl hc1 hm1 w1 HX1.out HH1.out)
  have HG2 := Lib.hid (fun g : Gr w1 => get_any gen other m X A1 c1 hg ho hpl hc1 hm1 g.val (HX1.out.gr g) (HH1.out.gr g))
  have HG3 := Lib.hid (fun g : Gr w1 => get_any gen number k (X.take k) A5 c1 hg hn (by simp; omega) (by omega) hm1 g.val (HB1.out.gr g) (HH1.out.gr g))
  clear hB1
  go_wp2_with fail
  go_at_call 11
  refine HG1.out.mono ?_
  intro e w2 hx
  obtain ⟨Ax, nx, cx, kx, rfl, hb⟩ := hx.any
  rw [E1.out]
  obtain ⟨g, rfl⟩ := Gr.of hb
  clear hx hb
  go_wp2_with fail
  go_at_call 11
  refine (HG2.out g).mono ?_
  intro e w2 hx
  obtain ⟨Ay, ny, cy, ky, rfl, hb⟩ := hx.any
  rw [E2.out]
  obtain ⟨g, rfl⟩ := g.on hb
  clear hx hb
  go_wp2_with fail
  go_at_call 11
  refine (HG3.out g).mono ?_
  intro e w2 hx
  obtain ⟨Az, nz, cz, kz, rfl, hb⟩ := hx.any
  rw [E4.out]
  obtain ⟨g, rfl⟩ := g.on hb
  clear hx hb
  go_wp2_with fail
  go_at_call 8
  refine (fixed6_any _ (HH1.out.gr g)).mono ?_
  rintro e w5 ⟨rfl, hb⟩
  have HBL := Lib.hid (W1.out.trans ((g.ok.mono W1.out.size).trans (hb.mono (Nat.le_trans W1.out.size g.size))))
  clear hb
  go_wp2_with fail
  all_goals go_ret
  all_goals exact ⟨rfl, HBL.out⟩
end Go.Proofs.YtjjmbndknjjjjaaDoor
