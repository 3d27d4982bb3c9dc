/- The laws' walks: one way to write a number. -/
import Derived.Test.YtldfemohnommoaaPL1
namespace Go.Proofs.Ytldfemohnommoaa
open Go.ChangeShapes Go.WideShapes Go.ChangeAt Go.RowKit Go.Joins Fr Pk

theorem rd_ways (l : List UInt8) : (firstT l = none ∧ rdNum 18446744073709551615 (some l) = (0, none)) ∨ ∃ n r, l = numT n ++ r ∧ n < 18446744073709551616 ∧ rdNum 18446744073709551615 (some l) = (n, some r) := by
  cases h : firstT l with
  | none => exact .inl ⟨rfl, rdNum_no h⟩
  | some x =>
    obtain ⟨n, r⟩ := x
    obtain ⟨e, hn⟩ := first_some h
    exact .inr ⟨n, r, e, hn, rdNum_yes h (by omega)⟩

set_option maxRecDepth 100000 in
set_option maxHeartbeats 2000000 in
theorem packOne_walk (l : List UInt8) (A : Option Addr) (c : Nat) (hl : l.length ≤ c) (hc : c ≤ maxLen) (hz : A = none → c = 0) (w : World) (hA : BAt w A l) :
    Calls Try.prog 4 #[.slice A l.length c] w fun e w' => e = .returned (.bool true) ∧ Below w.heap.size w w' := by
  by_cases h30 : 30 < l.length
  · have HF := Lib.hid (fixed8_any w)
    have h3 : (30 : Int) < l.length := by omega
    clear h30 hl
    go_enter Try.func4, Try.ntmps4
    go_wp2_with fail
    go_at_call 8
    refine HF.out.mono ?_
    rintro e w' ⟨rfl, hb⟩
    go_wp2_with fail
    go_ret
    exact ⟨rfl, hb⟩
  have h3 : ¬ (30 : Int) < l.length := by omega
  have HR := Lib.hid (rd_new A c l hl hc hz (by omega) w hA)
  have HA := Lib.hid hA
  clear hA
  go_enter Try.func4, Try.ntmps4
  go_wp2_with fail
  go_at_call 19
  refine HR.out.mono ?_
  rintro e w1 ⟨D, F, rfl, h1, b1, f1⟩
  have B1 := Lib.hid b1
  have F1 := Lib.hid f1
  have HN := Lib.hid (rd_number D 18446744073709551615 (by omega) _ F w1 h1)
  clear h1 b1 f1
  rcases rd_ways l with ⟨hf, hq⟩ | ⟨n, r, he, hn, hq⟩
  · rw [hq] at HN
    clear hf hq
    go_wp2_with fail
    go_at_call 20
    refine HN.out.mono ?_
    rintro e w2 ⟨rfl, hT⟩
    have B2 : Hid (Below w.heap.size w w2) := B1.out.trans (hT.toBelow B1.out.size F1.out)
    have HBd := Lib.hid (rd_bad D _ F w2 hT.1)
    have HF := Lib.hid (fixed8_any w2)
    clear hT
    go_wp2_with fail
    go_at_call 24
    refine HBd.out.mono ?_
    rintro e w' ⟨rfl, rfl⟩
    go_wp2_with fail
    go_at_call 8
    refine HF.out.mono ?_
    rintro e w3 ⟨rfl, hb⟩
    go_wp2_with fail
    go_ret
    exact ⟨rfl, B2.out.trans (hb.mono B2.out.size)⟩
  · rw [hq] at HN
    have HE := Lib.hid he
    have h10 := num_len10 hn
    clear hq he
    go_wp2_with fail
    go_at_call 20
    refine HN.out.mono ?_
    rintro e w2 ⟨rfl, hT⟩
    have B2 : Hid (Below w.heap.size w w2) := B1.out.trans (hT.toBelow B1.out.size F1.out)
    have HBd := Lib.hid (rd_bad D _ F w2 hT.1)
    have H2 := Lib.hid hT.1
    have HW := Lib.hid (wr_new w2)
    clear hT
    go_wp2_with fail
    go_at_call 24
    refine HBd.out.mono ?_
    rintro e w' ⟨rfl, rfl⟩
    go_wp2_with fail
    go_at_call 9
    refine HW.out.mono ?_
    rintro e w3 ⟨E, G, rfl, h3, b3, g3⟩
    have B3 : Hid (Below w.heap.size w w3) := B2.out.trans (b3.mono B2.out.size)
    have HWN := Lib.hid (wr_number_any E n hn [] G (by simp) w3 h3)
    have H3 := Lib.hid (H2.out.below b3)
    have G3 := Lib.hid g3
    have HLt := Lib.hid H2.out.lt
    clear h3 b3 g3
    go_wp2_with fail
    go_at_call 10
    refine HWN.out.mono ?_
    rintro e w4 ⟨rfl, hT⟩
    have B4 : Hid (Below w.heap.size w w4) := B3.out.trans (hT.toBelow B3.out.size fun b hb => Nat.le_trans B2.out.size (G3.out b hb))
    obtain ⟨G4, h4, o4, i4⟩ := hT
    rw [List.nil_append] at h4
    have HWB := Lib.hid (wr_bytes_any E _ G4 (by omega) w4 h4)
    have H4 := Lib.hid (H3.out.off o4 fun k hk hg => by have := G3.out k hg; have := HLt.out k hk; omega)
    clear h4 o4 i4
    go_wp2_with fail
    go_at_call 18
    refine HWB.out.mono ?_
    rintro e w5 hR
    obtain ⟨A5, c5, rfl, hf⟩ := hR.fresh
    have hcv := hf.at_.1.conv (P := Try.prog) c5 (dst := 9) Try.underlying37 Try.underlying5 Try.underlying9
    have B5 : Hid (Below w.heap.size w w5) := B4.out.trans (hf.below.mono B4.out.size)
    have H5 := Lib.hid (H4.out.below hf.below)
    have HF := Lib.hid (fixed8_any w5)
    clear hR hf
    have hk : (numT n).length ≤ l.length := by rw [HE.out]; simp
    have htk : l.take (numT n).length = numT n := by rw [HE.out]; simp
    have hrl : r.length = l.length - (numT n).length := by rw [HE.out]; simp
    obtain ⟨k, hkk⟩ : ∃ k, (numT n).length = k := ⟨_, rfl⟩
    have hks : (ByteArray.mk (numT n).toArray).size = k := by rw [← hkk]; simp [ByteArray.size]
    rw [hkk] at hk htk hrl hcv ⊢
    go_wp2_with fail
    go_at_call 8
    refine HF.out.mono ?_
    rintro e w6 ⟨rfl, hb⟩
    have B6 : Hid (Below w.heap.size w w6) := B5.out.trans (hb.mono B5.out.size)
    obtain ⟨A1, A2, hc1, _, hb1, _⟩ := (HA.out.below B6.out (Nat.le_refl _)).cut (P := Try.prog) (t := 37) hk hl (by kernel_rfl) (fun w' => by kernel_rfl)
    have hcv2 := hb1.conv (P := Try.prog) c (dst := 9) Try.underlying37 Try.underlying5 Try.underlying9
    rw [htk, hkk] at hcv2
    have HEnd := Lib.hid (rd_end D _ F w6 (H5.out.below hb))
    have hkz : (k : Int) ≤ l.length := by omega
    clear hb hb1 htk
    generalize numT n = X at *
    by_cases h0 : r = []
    · subst h0
      have hke : k = l.length := by simp at hrl; omega
      have hlb : ((k : Int) == l.length) = true := by rw [hke]; simp
      have hld : decide ((k : Int) = l.length) = true := by rw [hke]; simp
      clear hrl hke
      have hd : decide (some ([] : List UInt8) = some []) = true := by simp
      rw [hd] at HEnd
      go_wp2_with fail
      go_at_call 25
      refine HEnd.out.mono ?_
      rintro e w' ⟨rfl, rfl⟩
      go_wp2_with fail
      go_ret
      exact ⟨rfl, B6.out⟩
    · have hr0 : 0 < r.length := List.length_pos_iff.2 h0
      have hll : ¬ (k : Int) = l.length := by omega
      have hlb : ((k : Int) == l.length) = false := by simpa using hll
      have hd : decide (some r = some []) = false := by simpa using h0
      rw [hd] at HEnd
      go_wp2_with fail
      go_at_call 25
      refine HEnd.out.mono ?_
      rintro e w' ⟨rfl, rfl⟩
      go_wp2_with fail
      go_ret
      exact ⟨rfl, B6.out⟩
end Go.Proofs.Ytldfemohnommoaa
