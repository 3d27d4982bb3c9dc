/- Contracts of the program's reader: texts. -/
import Derived.Test.YtldfemohnommoaaPV3
namespace Go.Proofs.Ytldfemohnommoaa
open Go.ChangeShapes Go.WideShapes Go.ChangeAt Go.RowKit Go.Joins Fr Pk

theorem rdText_none {most : Int} {r : Option (List UInt8)} {n : Nat} (h : rdNum most.toNat r = (n, none)) : rdText most r = ([], none) := by unfold rdText; rw [h]
theorem rdText_few {most : Int} {r : Option (List UInt8)} {n : Nat} {l : List UInt8} (h : rdNum most.toNat r = (n, some l)) (hn : ¬ n ≤ l.length) : rdText most r = ([], none) := by unfold rdText; rw [h]; simp [hn]
theorem rdText_yes {most : Int} {r : Option (List UInt8)} {n : Nat} {l : List UInt8} (h : rdNum most.toNat r = (n, some l)) (hn : n ≤ l.length) : rdText most r = (l.take n, some (l.drop n)) := by unfold rdText; rw [h]; simp [hn]

set_option maxHeartbeats 1000000 in
theorem rd_text (D : Nat) (most : Int) (hm : -9223372036854775808 ≤ most ∧ most ≤ 9223372036854775807) (r : Option (List UInt8)) (F : Nat → Prop) (w : World) (h : RdAt w D r F) :
    Calls Try.prog 22 #[.pointer (some ⟨D, 0, none⟩), .int .i64 most] w fun e w' => e = .returned (.string ⟨(rdText most r).1.toArray⟩) ∧ RdTo w w' D (rdText most r).2 F := by
  have HN := Lib.hid (rd_number D most.toNat (by omega) r F w h)
  have hlt := rdNum_lt most.toNat r
  obtain ⟨q, hq⟩ : ∃ q, rdNum most.toNat r = q := ⟨_, rfl⟩
  rw [hq] at hlt HN
  obtain ⟨a, ha⟩ : ∃ a, most.toNat = a := ⟨_, rfl⟩
  have hmx : (if most < 0 then 0 else most) = (a : Int) := by split <;> omega
  have hw1 : IntKind.u64.wrap (a : Int) = a := by rw [IntKind.wrap_u64]; omega
  rw [ha] at HN
  obtain ⟨n, q⟩ := q
  simp only at hlt HN
  have HQ : Hid (rdNum most.toNat r = (n, q)) := hq
  have hs : (most < 0 ∧ a = 0) ∨ (¬ most < 0 ∧ most = (a : Int)) := by omega
  clear hq h ha
  cases q with
  | none =>
    have HX := Lib.hid (rdText_none HQ.out)
    have HB := Lib.hid (fun w' (h' : RdAt w' D none F) => rd_bad D none F w' h')
    clear hlt
    go_enter Try.func22, Try.ntmps22
    go_wp2_with fail
    go_at_call 20
    refine HN.out.mono ?_
    rintro e w1 ⟨rfl, hT⟩
    have HT := Lib.hid hT
    clear hT
    go_wp2_with fail
    go_at_call 24
    refine (HB.out _ HT.out.1).mono ?_
    rintro e w' ⟨rfl, rfl⟩
    go_wp2_with fail
    go_ret
    rw [HX.out]
    exact ⟨rfl, HT.out⟩
  | some l =>
    go_enter Try.func22, Try.ntmps22
    go_wp2_with fail
    go_at_call 20
    refine HN.out.mono ?_
    rintro e w1 ⟨rfl, hT⟩
    obtain ⟨A, c, h1, h2, h3, h4, h5⟩ := hT.1.ok
    have c0 : w1.cell? ⟨D, 0, none⟩ = some (.slice A l.length c) := by simp [World.cell?, h1]
    have cf : ∀ i, w1.frozen? ⟨D, i, none⟩ = false := fun i => by simp [World.frozen?, h1]
    have HB := Lib.hid (rd_bad D _ F w1 hT.1)
    have HS := Lib.hid (rd_spoil D _ F w1 hT.1)
    have HT := Lib.hid hT
    have HI := Lib.hid h5
    have hll : (l.length : Int) ≤ 9223372036854775807 := by unfold maxLen at h3; omega
    have hw2 : IntKind.u64.wrap (l.length : Int) = l.length := by rw [IntKind.wrap_u64]; omega
    clear hT h1 h5
    go_wp2_with fail
    go_at_call 24
    refine HB.out.mono ?_
    rintro e w' ⟨rfl, rfl⟩
    by_cases hn : n ≤ l.length
    · have hnz : ¬ (l.length : Int) < n := by omega
      have HX := Lib.hid (rdText_yes HQ.out hn)
      obtain ⟨A1, A2, hc1, hc2, hb1, hb2, hz2, _⟩ := HI.out.cut .u64 (P := Try.prog) (t := 37) hn h2 h4 (by kernel_rfl) (fun w' => by kernel_rfl)
      have hcv := hb1.conv (P := Try.prog) c (dst := 9) Try.underlying37 Try.underlying5 Try.underlying9
      rw [show (l.take n).length = n by simp; omega] at hcv
      have HR := Lib.hid (HT.out.1.read (A2 := A2) (c2 := c - n) hn (by omega) (by omega) hz2 hb2.1 hb2.2)
      clear hb1 hb2
      go_wp2_with fail
      go_ret
      rw [HX.out]
      exact ⟨rfl, HT.out.trans HR.out⟩
    · have hnz : (l.length : Int) < n := by omega
      have HX := Lib.hid (rdText_few HQ.out hn)
      go_wp2_with fail
      go_at_call 28
      refine HS.out.mono ?_
      rintro e w' ⟨rfl, hT⟩
      go_wp2_with fail
      go_ret
      rw [HX.out]
      exact ⟨rfl, HT.out.trans hT⟩
theorem rd_text_nil (most : Int) (w : World) :
    Calls Try.prog 22 #[.pointer none, .int .i64 most] w fun e w' => e = .returned (.string ⟨#[]⟩) ∧ w = w' := by
  have HN := Lib.hid (fun n => rd_number_nil n w)
  have HB := Lib.hid (rd_bad_nil w)
  by_cases hm : most < 0
  all_goals
    go_enter Try.func22, Try.ntmps22
    go_wp2_with fail
    go_at_call 20
    refine (HN.out _).mono ?_
    rintro e w' ⟨rfl, rfl⟩
    go_wp2_with fail
    go_at_call 24
    refine HB.out.mono ?_
    rintro e w' ⟨rfl, rfl⟩
    go_wp2_with fail
    go_ret
    exact ⟨rfl, rfl⟩
end Go.Proofs.Ytldfemohnommoaa
