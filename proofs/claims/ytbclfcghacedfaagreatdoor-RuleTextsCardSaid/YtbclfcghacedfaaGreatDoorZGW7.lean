import Derived.Test.YtbclfcghacedfaaGreatDoorZGW6
/- Contracts of the program's rules: readers of one thing. -/
section
namespace Go.Proofs.YtbclfcghacedfaaGreatDoor
open Go.ChangeShapes Go.WideShapes Go.ChangeAt Go.RowKit Qr Ck

theorem ret_ivb {a : Int × Bool} {b : Int × Bool} (h : a = b) : Ending.returned (.tuple #[.int .i64 a.1, .bool a.2]) = .returned (.tuple #[.int .i64 b.1, .bool b.2]) := by rw [h]
set_option maxHeartbeats 1000000 in
theorem rdnum_any (l : List UInt8) (hl : l.length ≤ 1000000) (w : World) (hE : Env9 w) :
    Calls Tryz.prog 55 #[.string ⟨l.toArray⟩] w fun e w' => e = .returned (.tuple #[.int .i64 (rdIntV l).1, .bool (rdIntV l).2]) ∧ Below w.heap.size w w' := by
  obtain ⟨q, hq⟩ : ∃ q, rdIntV l = q := ⟨_, rfl⟩
  rw [hq]
  unfold rdIntV at hq
  have hsz : (ByteArray.mk l.toArray).size ≤ 1000000 := by show l.toArray.size ≤ _; simpa using hl
  cases ha : Lib.atoiAll l
  case ok v =>
    rw [ha] at hq
    have E : Hid (q = (v, true)) := hq.symm
    have HA := Lib.hid (fun w => Tryz.strconv_Atoi_ok ⟨l.toArray⟩ (by omega) v (by simpa using ha) w)
    clear hq ha hE hsz hl
    generalize (ByteArray.mk l.toArray) = s at *
    go_enter Tryz.func55, Tryz.ntmps55
    go_wp2_with fail
    go_at_call 82
    refine (HA.out _).mono ?_
    rintro e w' ⟨rfl, hw⟩
    have hb : Below w.heap.size w w' := by
      rcases hw with rfl | ⟨t, rfl⟩
      · exact Below.refl _ _
      · exact Lib.bytesWorld_below _ _ _
    obtain ⟨g, rfl⟩ := Gr.of hb
    clear hb hw
    go_wp2
    go_ret2
    exact ⟨ret_ivb E.out.symm, g.ok⟩
  case range =>
    rw [ha] at hq
    have E : Hid (q = (0, false)) := hq.symm
    obtain ⟨ev, hv, hev⟩ := hE.ran
    have HA := Lib.hid (Tryz.strconv_Atoi_range ⟨l.toArray⟩ (by omega) (by simpa using ha) ev w hv hev)
    clear hq ha hE hsz hl hv hev
    generalize Lib.atoiSat _ = sat at *
    generalize (ByteArray.mk l.toArray) = s at *
    go_enter Tryz.func55, Tryz.ntmps55
    go_wp2_with fail
    go_at_call 82
    refine HA.out.mono ?_
    rintro e w' ⟨N, rfl, _, _, hb⟩
    obtain ⟨g, rfl⟩ := Gr.of hb
    clear hb
    go_wp2
    go_ret2
    exact ⟨ret_ivb E.out.symm, g.ok⟩
  rw [ha] at hq
  have E : Hid (q = (0, false)) := hq.symm
  obtain ⟨ev, hv, hev⟩ := hE.syn
  have HA := Lib.hid (Tryz.strconv_Atoi_syntax ⟨l.toArray⟩ (by omega) (by simp [ha]) (by simp [ha]) ev w hv hev)
  clear hq ha hE hsz hl hv hev
  generalize (ByteArray.mk l.toArray) = s at *
  go_enter Tryz.func55, Tryz.ntmps55
  go_wp2_with fail
  go_at_call 82
  refine HA.out.mono ?_
  rintro e w' ⟨N, rfl, _, _, hb⟩
  obtain ⟨g, rfl⟩ := Gr.of hb
  clear hb
  go_wp2
  go_ret2
  exact ⟨ret_ivb E.out.symm, g.ok⟩

theorem toList_ne {a b : List UInt8} : ((ByteArray.mk a.toArray).toList = (ByteArray.mk b.toArray).toList) ↔ a = b := by
  rw [ByteArray.toList_eq, ByteArray.toList_eq]
theorem toList_yes {a b : List UInt8} (h : a = b) : ((ByteArray.mk a.toArray).toList == (ByteArray.mk b.toArray).toList) = true := by rw [beq_iff_eq]; exact toList_ne.2 h
theorem toList_no {a b : List UInt8} (h : a ≠ b) : ((ByteArray.mk a.toArray).toList == (ByteArray.mk b.toArray).toList) = false := by
  rw [beq_eq_false_iff_ne]; exact fun e => h (toList_ne.1 e)
theorem freq_from {l : List UInt8} {i : Nat} (hi : i < 4) : freqFrom l (4 - i) = if freqName (i + 1) = l then some (i + 1) else freqFrom l (4 - (i + 1)) := by
  obtain ⟨n, hn⟩ : ∃ n, 4 - i = n + 1 := ⟨3 - i, by omega⟩
  rw [hn]
  show (if freqName (5 - (n + 1)) = l then some (5 - (n + 1)) else freqFrom l n) = _
  rw [show 5 - (n + 1) = i + 1 by omega, show 4 - (i + 1) = n by omega]
theorem wk_from {l : List UInt8} {i : Nat} (hi : i < 7) : wkFrom l (7 - i) = if dayName i = l then some i else wkFrom l (7 - (i + 1)) := by
  obtain ⟨n, hn⟩ : ∃ n, 7 - i = n + 1 := ⟨6 - i, by omega⟩
  rw [hn]
  show (if dayName (7 - (n + 1)) = l then some (7 - (n + 1)) else wkFrom l n) = _
  rw [show 7 - (n + 1) = i by omega, show 7 - (i + 1) = n by omega]

set_option maxHeartbeats 1000000 in
theorem rdwk_any (l : List UInt8) (w : World) (hE : Env9 w) :
    Calls Tryz.prog 63 #[.string ⟨l.toArray⟩] w fun e w' => e = .returned (.tuple #[.int .i64 (rdWkV l).1, .bool (rdWkV l).2]) ∧ Below w.heap.size w w' := by
  obtain ⟨q, hq⟩ : ∃ q, rdWkV l = q := ⟨_, rfl⟩
  rw [hq]
  have HQ : Hid (ov (wkFrom l (7 - 0)) = q) := hq
  clear hq
  have HE := Lib.hid hE
  clear hE
  go_enter Tryz.func63, Tryz.ntmps63
  go_wp2
  go_loopw [5] (fun s5 wr => ∃ (g : Gr w) (k : Nat), wr = g.val ∧ s5 = .int .i64 k ∧ k ≤ 7 ∧ Hid (ov (wkFrom l (7 - k)) = q)) (fun s5 _ => 7 - (intOf s5).toNat)
  case atStart => exact ⟨⟨w, Below.refl _ _⟩, 0, rfl, rfl, Nat.zero_le _, HQ⟩
  case round =>
    obtain ⟨g, k, rfl, rfl, hk, HK⟩ := hrel
    by_cases hlt : k < 7
    · have hkz : (k : Int) < 7 := by omega
      have HW := Lib.hid (wkText_any k hlt g.val (HE.out.gr g))
      have hst := wk_from (l := l) hlt
      by_cases he : dayName k = l
      · have E : Hid (q = ((k : Int), true)) := by show _ = _; rw [← HK.out, hst, if_pos he]; rfl
        have heq := toList_yes he
        clear he hst
        generalize (ByteArray.mk (dayName k).toArray) = t at *
        generalize (ByteArray.mk l.toArray) = s at *
        go_wp2_with (go_at_call 21; (with_reducible refine HW.out.mono ?_); rintro e w' ⟨rfl, hb⟩; obtain ⟨g2, rfl⟩ := g.on hb; clear hb)
        go_ret2
        exact ⟨ret_ivb E.out.symm, g2.ok⟩
      · have E : Hid (ov (wkFrom l (7 - (k + 1))) = q) := by show _ = _; rw [← HK.out, hst, if_neg he]
        have heq := toList_no he
        clear he hst
        generalize (ByteArray.mk (dayName k).toArray) = t at *
        generalize (ByteArray.mk l.toArray) = s at *
        go_wp2_with (go_at_call 21; (with_reducible refine HW.out.mono ?_); rintro e w' ⟨rfl, hb⟩; obtain ⟨g2, rfl⟩ := g.on hb; clear hb)
        go_roundw
        case rel => exact ⟨g2, k + 1, rfl, by go_num, by omega, E⟩
        case measure => simp [intOf]; omega
    · obtain rfl : k = 7 := by omega
      have E : Hid (q = (0, false)) := HK.out.symm
      go_wp2
      go_ret2
      exact ⟨ret_ivb E.out.symm, g.ok⟩

set_option maxRecDepth 100000 in
set_option maxHeartbeats 1000000 in
theorem rdfreq_any (l : List UInt8) (w : World) (hE : Env9 w) :
    Calls Tryz.prog 54 #[.string ⟨l.toArray⟩] w fun e w' => e = .returned (.tuple #[.int .i64 (rdFreqV l).1, .bool (rdFreqV l).2]) ∧ Below w.heap.size w w' := by
  obtain ⟨q, hq⟩ : ∃ q, rdFreqV l = q := ⟨_, rfl⟩
  rw [hq]
  have HQ : Hid (ov (freqFrom l 4) = q) := hq
  have hc0 := hE.freqs 0 (by omega)
  have hc1 := hE.freqs 1 (by omega)
  have hc2 := hE.freqs 2 (by omega)
  have hc3 := hE.freqs 3 (by omega)
  clear hq hE
  have e0 := freq_from (l := l) (i := 0) (by omega)
  have e1 := freq_from (l := l) (i := 1) (by omega)
  have e2 := freq_from (l := l) (i := 2) (by omega)
  have e3 := freq_from (l := l) (i := 3) (by omega)
  simp only [Nat.zero_add, Nat.reduceAdd, Nat.reduceSub] at hc0 hc1 hc2 hc3 e0 e1 e2 e3
  have C0 : Hid (ov (freqFrom l 4) = q) := HQ.out
  have S0 : Hid (freqName 1 = l → q = (1, true)) := fun h => by rw [← HQ.out, e0, if_pos h]; rfl
  have T0 : Hid (¬ freqName 1 = l → ov (freqFrom l 3) = q) := fun h => by rw [← HQ.out, e0, if_neg h]
  have S1 : Hid (ov (freqFrom l 3) = q → freqName 2 = l → q = (2, true)) := fun hq h => by rw [← hq, e1, if_pos h]; rfl
  have T1 : Hid (ov (freqFrom l 3) = q → ¬ freqName 2 = l → ov (freqFrom l 2) = q) := fun hq h => by rw [← hq, e1, if_neg h]
  have S2 : Hid (ov (freqFrom l 2) = q → freqName 3 = l → q = (3, true)) := fun hq h => by rw [← hq, e2, if_pos h]; rfl
  have T2 : Hid (ov (freqFrom l 2) = q → ¬ freqName 3 = l → ov (freqFrom l 1) = q) := fun hq h => by rw [← hq, e2, if_neg h]
  have S3 : Hid (ov (freqFrom l 1) = q → freqName 4 = l → q = (4, true)) := fun hq h => by rw [← hq, e3, if_pos h]; rfl
  have T3 : Hid (ov (freqFrom l 1) = q → ¬ freqName 4 = l → ov (freqFrom l 0) = q) := fun hq h => by rw [← hq, e3, if_neg h]
  clear e0 e1 e2 e3
  have Z : Hid (Below w.heap.size w w) := Below.refl _ _
  have Y1 : Hid (∀ h : freqName 1 = l, ((ByteArray.mk (freqName 1).toArray).toList == (ByteArray.mk l.toArray).toList) = true) := fun h => toList_yes h
  have Y2 : Hid (∀ h : freqName 2 = l, ((ByteArray.mk (freqName 2).toArray).toList == (ByteArray.mk l.toArray).toList) = true) := fun h => toList_yes h
  have Y3 : Hid (∀ h : freqName 3 = l, ((ByteArray.mk (freqName 3).toArray).toList == (ByteArray.mk l.toArray).toList) = true) := fun h => toList_yes h
  have Y4 : Hid (∀ h : freqName 4 = l, ((ByteArray.mk (freqName 4).toArray).toList == (ByteArray.mk l.toArray).toList) = true) := fun h => toList_yes h
  have N1 : Hid (∀ h : ¬ freqName 1 = l, ((ByteArray.mk (freqName 1).toArray).toList == (ByteArray.mk l.toArray).toList) = false) := fun h => toList_no h
  have N2 : Hid (∀ h : ¬ freqName 2 = l, ((ByteArray.mk (freqName 2).toArray).toList == (ByteArray.mk l.toArray).toList) = false) := fun h => toList_no h
  have N3 : Hid (∀ h : ¬ freqName 3 = l, ((ByteArray.mk (freqName 3).toArray).toList == (ByteArray.mk l.toArray).toList) = false) := fun h => toList_no h
  have N4 : Hid (∀ h : ¬ freqName 4 = l, ((ByteArray.mk (freqName 4).toArray).toList == (ByteArray.mk l.toArray).toList) = false) := fun h => toList_no h
  generalize (ByteArray.mk (freqName 1).toArray) = f1 at *
  generalize (ByteArray.mk (freqName 2).toArray) = f2 at *
  generalize (ByteArray.mk (freqName 3).toArray) = f3 at *
  generalize (ByteArray.mk (freqName 4).toArray) = f4 at *
  generalize (ByteArray.mk l.toArray) = s at *
  have hi0 : (Instr.index 37 (.agg #[.string f1, .string f2, .string f3, .string f4]) (.int .i64 0)).run Tryz.prog w = .ok (.string f1) w := by kernel_rfl
  have hi1 : (Instr.index 37 (.agg #[.string f1, .string f2, .string f3, .string f4]) (.int .i64 1)).run Tryz.prog w = .ok (.string f2) w := by kernel_rfl
  have hi2 : (Instr.index 37 (.agg #[.string f1, .string f2, .string f3, .string f4]) (.int .i64 2)).run Tryz.prog w = .ok (.string f3) w := by kernel_rfl
  have hi3 : (Instr.index 37 (.agg #[.string f1, .string f2, .string f3, .string f4]) (.int .i64 3)).run Tryz.prog w = .ok (.string f4) w := by kernel_rfl
  go_enter Tryz.func54, Tryz.ntmps54
  go_wp2
  go_loop [7] (fun s7 => (s7 = .int .i64 0 ∧ Hid (ov (freqFrom l 4) = q)) ∨ (s7 = .int .i64 1 ∧ Hid (ov (freqFrom l 3) = q)) ∨ (s7 = .int .i64 2 ∧ Hid (ov (freqFrom l 2) = q)) ∨ (s7 = .int .i64 3 ∧ Hid (ov (freqFrom l 1) = q)) ∨ (s7 = .int .i64 4 ∧ Hid (ov (freqFrom l 0) = q))) (fun s7 => 4 - (intOf s7).toNat)
  case atStart => exact .inl ⟨rfl, C0⟩
  case round =>
    rcases hrel with ⟨rfl, H⟩ | ⟨rfl, H⟩ | ⟨rfl, H⟩ | ⟨rfl, H⟩ | ⟨rfl, H⟩
    · by_cases h : freqName 1 = l
      · have E := Lib.hid (S0.out h)
        have hb := Y1.out h
        clear h
        go_wp2
        go_ret2
        exact ⟨ret_ivb E.out.symm, Z.out⟩
      · have E := Lib.hid (T0.out h)
        have hb := N1.out h
        clear h
        go_wp2
        go_round
        case rel => exact .inr (.inl ⟨rfl, E⟩)
        case measure => simp [intOf]
    · by_cases h : freqName 2 = l
      · have E := Lib.hid (S1.out H.out h)
        have hb := Y2.out h
        clear h
        go_wp2
        go_ret2
        exact ⟨ret_ivb E.out.symm, Z.out⟩
      · have E := Lib.hid (T1.out H.out h)
        have hb := N2.out h
        clear h
        go_wp2
        go_round
        case rel => exact .inr (.inr (.inl ⟨rfl, E⟩))
        case measure => simp [intOf]
    · by_cases h : freqName 3 = l
      · have E := Lib.hid (S2.out H.out h)
        have hb := Y3.out h
        clear h
        go_wp2
        go_ret2
        exact ⟨ret_ivb E.out.symm, Z.out⟩
      · have E := Lib.hid (T2.out H.out h)
        have hb := N3.out h
        clear h
        go_wp2
        go_round
        case rel => exact .inr (.inr (.inr (.inl ⟨rfl, E⟩)))
        case measure => simp [intOf]
    · by_cases h : freqName 4 = l
      · have E := Lib.hid (S3.out H.out h)
        have hb := Y4.out h
        clear h
        go_wp2
        go_ret2
        exact ⟨ret_ivb E.out.symm, Z.out⟩
      · have E := Lib.hid (T3.out H.out h)
        have hb := N4.out h
        clear h
        go_wp2
        go_round
        case rel => exact .inr (.inr (.inr (.inr ⟨rfl, E⟩)))
        case measure => simp [intOf]
    · have E : Hid (q = (0, false)) := H.out.symm
      go_wp2
      go_ret2
      exact ⟨ret_ivb E.out.symm, Z.out⟩
end Go.Proofs.YtbclfcghacedfaaGreatDoor
end
