import Derived.Test.YtnccgfdaddbndaaZGW3
import Derived.IntWalk
/- Contracts of the program's rules: rows of days; whether a rule may be. -/
section
namespace Go.Proofs.Ytnccgfdaddbndaa
open Go.ChangeShapes Go.WideShapes Go.ChangeAt Go.RowKit Qr Ck Sp
section
variable (fq iv_ ct un : Int) (A1 A2 A3 A4 : Option Addr) (n1 n2 n3 n4 c1 c2 c3 c4 : Nat) (st : Int)

/-- A rule's box in memory. -/
def BoxAt (w : World) (b : Nat) : Prop := ∀ k v, (rc9 fq iv_ ct un A1 A2 A3 A4 n1 n2 n3 n4 c1 c2 c3 c4 st)[k]? = some v → w.cell? ⟨b, k, none⟩ = some v
variable {fq iv_ ct un A1 A2 A3 A4 n1 n2 n3 n4 c1 c2 c3 c4 st}
theorem BoxAt.up {w w' : World} {b : Nat} (h : BoxAt fq iv_ ct un A1 A2 A3 A4 n1 n2 n3 n4 c1 c2 c3 c4 st w b) (hb : Below w.heap.size w w') : BoxAt fq iv_ ct un A1 A2 A3 A4 n1 n2 n3 n4 c1 c2 c3 c4 st w' b := fun k v hk => cell_old (h k v hk) hb
theorem BoxAt.nine {w : World} {b : Nat} (h : BoxAt fq iv_ ct un A1 A2 A3 A4 n1 n2 n3 n4 c1 c2 c3 c4 st w b) : w.cell? ⟨b, 0, none⟩ = some (.int .i64 fq) ∧ w.cell? ⟨b, 1, none⟩ = some (.int .i64 iv_) ∧ w.cell? ⟨b, 2, none⟩ = some (.int .i64 ct) ∧ w.cell? ⟨b, 3, none⟩ = some (.int .i64 un) ∧ w.cell? ⟨b, 4, none⟩ = some (.slice A1 n1 c1) ∧ w.cell? ⟨b, 5, none⟩ = some (.slice A2 n2 c2) ∧ w.cell? ⟨b, 6, none⟩ = some (.slice A3 n3 c3) ∧ w.cell? ⟨b, 7, none⟩ = some (.slice A4 n4 c4) ∧ w.cell? ⟨b, 8, none⟩ = some (.int .i64 st) :=
  ⟨h 0 _ rfl, h 1 _ rfl, h 2 _ rfl, h 3 _ rfl, h 4 _ rfl, h 5 _ rfl, h 6 _ rfl, h 7 _ rfl, h 8 _ rfl⟩

theorem may2_any (d : Int × Int) (w : World) (b : Nat) (hbx : BoxAt fq iv_ ct un A1 A2 A3 A4 n1 n2 n3 n4 c1 c2 c3 c4 st w b) :
    Calls Try.prog 41 #[.agg #[.int .i64 d.1, .int .i64 d.2], .pointer (some ⟨b, 0, none⟩)] w fun e w' => e = .returned (.bool (dayB fq n1 d)) ∧ Below w.heap.size w w' := by
  obtain ⟨x, y⟩ := d
  simp only
  have HD := Lib.hid (fun w => dayMay_any fq iv_ ct un A1 A2 A3 A4 n1 n2 n3 n4 c1 c2 c3 c4 st (x, y) w)
  obtain ⟨q, hq⟩ : ∃ q, dayB fq n1 (x, y) = q := ⟨_, rfl⟩
  rw [hq] at HD ⊢
  clear hq
  unfold rc9 at HD
  simp only at HD
  obtain ⟨W, hW⟩ : ∃ W, w.alloc (.cells #[.int .i64 x, .int .i64 y] 58) = W := ⟨_, rfl⟩
  have HW := Lib.hid hW
  have BW : Hid (Below w.heap.size w W) := by show Below _ _ _; rw [← hW]; exact (Below.refl _ w).alloc (Nat.le_refl _) _
  have e0 : W.cell? ⟨w.heap.size, 0, none⟩ = some (.int .i64 x) := by rw [← hW]; exact box_at (w := w) (t := 58) (C := #[.int .i64 x, .int .i64 y]) rfl ⟨_, Below.refl _ _⟩
  have e1 : W.cell? ⟨w.heap.size, 1, none⟩ = some (.int .i64 y) := by rw [← hW]; exact box_at (w := w) (t := 58) (C := #[.int .i64 x, .int .i64 y]) rfl ⟨_, Below.refl _ _⟩
  obtain ⟨b0, b1, b2, b3, b4, b5, b6, b7, b8⟩ := (hbx.up BW.out).nine
  clear hW hbx
  go_enter Try.func41, Try.ntmps41
  go_upto_region 1 with fail
  rw [HW.out]
  go_wp2_with (go_at_call 42; (with_reducible refine (HD.out _).mono ?_); rintro e w' ⟨rfl, hb⟩)
  have HG : Hid (Below w.heap.size w w') := BW.out.trans (hb.mono BW.out.size)
  go_ret
  exact ⟨ret_bool rfl, HG.out⟩
end

set_option maxRecDepth 100000 in
set_option maxHeartbeats 2000000 in
theorem rowMay_days (l : List (Int × Int)) (A : Option Addr) (c : Nat) (cb : Array Value) (p : Int × Int → Bool) (w : World) (hs : Sl w A l.length c (sv l))
    (hmay : ∀ (g : Gr w) (x : Int × Int), Calls Try.prog 41 (#[.agg #[.int .i64 x.1, .int .i64 x.2]] ++ cb) g.val fun e w' => e = .returned (.bool (p x)) ∧ Below g.val.heap.size g.val w') :
    Calls Try.prog 39 #[.slice A l.length c, .func (.func 40) #[] #[], .func (.func 41) #[] cb] w fun e w' => e = .returned (.bool (rowMB p ordD l (0, 0) 0)) ∧ Below w.heap.size w w' := by
  have HM := Lib.hid hmay
  have HS := Lib.hid hs
  have hl : l.length ≤ 9223372036854775807 := Nat.le_trans hs.le hs.cap
  clear hmay hs
  obtain ⟨r, hr⟩ : ∃ r, rowMB p ordD l (0, 0) 0 = r := ⟨_, rfl⟩
  rw [hr]
  have HR := Lib.hid hr
  clear hr
  obtain ⟨n, hn⟩ : ∃ n, l.length = n := ⟨_, rfl⟩
  have HN := Lib.hid hn
  rw [hn] at HS hl ⊢
  clear hn
  go_enter Try.func39, Try.ntmps39
  go_wp2
  go_loopw [11] (fun s11 wr => ∃ (g : Gr w) (k : Nat), wr = g.val ∧ s11 = .int .i64 k ∧ k ≤ n ∧ Hid (rowMB p ordD l (0, 0) k = r)) (fun s11 _ => n - (intOf s11).toNat)
  case atStart => exact ⟨⟨w, Below.refl _ _⟩, 0, rfl, rfl, Nat.zero_le _, HR⟩
  case round =>
    obtain ⟨g, k, rfl, rfl, hk, HK⟩ := hrel
    by_cases hlt : k < n
    · have hkl : k < l.length := by rw [HN.out]; exact hlt
      obtain ⟨b, off, rfl, hb, hcell⟩ := HS.out.spanG (l := l) (i := k) (s := l[k]) (by simp [hkl])
      have hc0 := (hcell g).1
      have hc1 := (hcell g).2
      have hx : l.getD k (0, 0) = l[k] := by simp [hkl]
      obtain ⟨W, hW⟩ : ∃ W, g.val.alloc (.cells #[.int .i64 l[k].1, .int .i64 l[k].2] 58) = W := ⟨_, rfl⟩
      have HW := Lib.hid hW
      have BW : Hid (Below w.heap.size w W) := by show Below _ _ _; rw [← hW]; exact g.ok.alloc g.ok.size _
      have L0 : ∀ g2 : Gr W, g2.val.cell? ⟨g.val.heap.size, 0, none⟩ = some (.int .i64 l[k].1) := fun g2 => cell_old (w := W) (by rw [← hW]; exact box_at (w := g.val) (t := 58) (C := #[.int .i64 l[k].1, .int .i64 l[k].2]) rfl ⟨_, Below.refl _ _⟩) g2.ok
      have L1 : ∀ g2 : Gr W, g2.val.cell? ⟨g.val.heap.size, 1, none⟩ = some (.int .i64 l[k].2) := fun g2 => cell_old (w := W) (by rw [← hW]; exact box_at (w := g.val) (t := 58) (C := #[.int .i64 l[k].1, .int .i64 l[k].2]) rfl ⟨_, Below.refl _ _⟩) g2.ok
      have HMW := Lib.hid (fun g2 : Gr W => HM.out ⟨g2.val, BW.out.trans (g2.ok.mono BW.out.size)⟩ l[k])
      have HGR : Hid (∀ g2 : Gr W, ∃ g3 : Gr w, g2.val = g3.val) := fun g2 => ⟨⟨g2.val, BW.out.trans (g2.ok.mono BW.out.size)⟩, rfl⟩
      clear hW
      obtain ⟨pv, hpv⟩ : ∃ pv, p l[k] = pv := ⟨_, rfl⟩
      have HPV := Lib.hid hpv
      simp only [hpv] at HMW
      clear hpv
      cases pv with
      | false =>
        have E : Hid (r = false) := by
          show _ = _
          rw [← HK.out]; exact rowMB_no hkl (fun h => by rw [hx, HPV.out] at h; cases h.1)
        clear hcell
        generalize l[k] = x at *
        obtain ⟨x1, x2⟩ := x
        simp only at hc0 hc1 L0 L1 HW HMW
        go_upto_region 4 with fail
        rw [HW.out]
        refine Gr.region (by kernel_rfl) (by kernel_rfl) (Gr.draw0 _) ?_
        repeat (go_big_quiet_step ((go_at_call 41; exact Gr.calls _ (HMW.out _))))
        refine wpQuiet_nil ?_
        rintro _ ⟨g2, rfl⟩
        obtain ⟨g3, hg3⟩ := HGR.out g2
        rw [hg3]
        go_wp2
        go_ret
        exact ⟨ret_bool E.out.symm, g3.ok⟩
      | true =>
        by_cases hk0 : k = 0
        · have E : Hid (rowMB p ordD l (0, 0) (k + 1) = r) := by
            show _ = _
            rw [← HK.out]; exact (rowMB_yes ⟨by rw [hx]; exact HPV.out, .inl hk0⟩).symm
          have hkn : ¬ 0 < k := by omega
          have hkz : decide (0 < k) = false := decide_eq_false hkn
          have hkz' : decide ((0 : Int) < k) = false := decide_eq_false (by omega)
          clear hk0 hcell
          generalize l[k] = x at *
          obtain ⟨x1, x2⟩ := x
          simp only at hc0 hc1 L0 L1 HW HMW
          go_upto_region 4 with fail
          rw [HW.out]
          refine Gr.region (by kernel_rfl) (by kernel_rfl) (Gr.draw0 _) ?_
          repeat (go_big_quiet_step ((go_at_call 41; exact Gr.calls _ (HMW.out _))))
          refine wpQuiet_nil ?_
          rintro _ ⟨g2, rfl⟩
          obtain ⟨g3, hg3⟩ := HGR.out g2
          rw [hg3]
          go_wp2
          go_roundw
          case rel => exact ⟨g3, k + 1, rfl, by go_num, by omega, E⟩
          case measure => simp [intOf]; omega
        · have hk1 : k - 1 < l.length := by omega
          have hkp : (0 : Int) < k := by omega
          have hkpn : 0 < k := by omega
          have hx1 : l.getD (k - 1) (0, 0) = l[k - 1] := by simp [hk1]
          obtain ⟨b2, off2, e2, hb2, hcell2⟩ := HS.out.spanG (l := l) (i := k - 1) (s := l[k - 1]) (by simp [hk1])
          obtain ⟨rfl, rfl⟩ : b2 = b ∧ off2 = off := by simp only [Option.some.injEq, Addr.mk.injEq, and_true] at e2; exact ⟨e2.1.symm, e2.2.symm⟩
          have hn1 : ((k : Int) - 1).toNat = k - 1 := by omega
          have hw1 : IntKind.i64.wrap ((k : Int) - 1) = (k : Int) - 1 := IntWalk.i64_in _ (by omega)
          have hp1 : (0 : Int) ≤ (k : Int) - 1 := by omega
          have hp2 : (k : Int) - 1 < n := by omega
          have M0 : ∀ g2 : Gr W, g2.val.cell? ⟨b2, off2 + (k - 1) * 2, none⟩ = some (.int .i64 l[k - 1].1) := fun g2 => by obtain ⟨g3, hg3⟩ := HGR.out g2; rw [hg3]; exact (hcell2 g3).1
          have M1 : ∀ g2 : Gr W, g2.val.cell? ⟨b2, off2 + (k - 1) * 2 + 1, none⟩ = some (.int .i64 l[k - 1].2) := fun g2 => by obtain ⟨g3, hg3⟩ := HGR.out g2; rw [hg3]; exact (hcell2 g3).2
          have HC := Lib.hid (fun w => ordD_any l[k - 1] l[k] w)
          by_cases hc : ordD l[k - 1] l[k] < 0
          · have E : Hid (rowMB p ordD l (0, 0) (k + 1) = r) := by
              show _ = _
              rw [← HK.out]; exact (rowMB_yes ⟨by rw [hx]; exact HPV.out, .inr (by rw [hx, hx1]; exact hc)⟩).symm
            clear hcell hcell2
            have hcb : ¬ (0 : Int) ≤ ordD l[k - 1] l[k] := by omega
            have hcb2 : decide ((0 : Int) ≤ ordD l[k - 1] l[k]) = false := decide_eq_false hcb
            generalize ordD l[k - 1] l[k] = cc at *
            generalize l[k] = x at *
            generalize l[k - 1] = y at *
            obtain ⟨x1, x2⟩ := x
            obtain ⟨y1, y2⟩ := y
            simp only at hc0 hc1 L0 L1 M0 M1 HW HMW HC
            go_upto_region 4 with fail
            rw [HW.out]
            refine Gr.region (by kernel_rfl) (by kernel_rfl) (Gr.draw0 _) ?_
            repeat (go_big_quiet_step (first | (go_at_call 41; exact Gr.calls _ (HMW.out _)) | (go_at_call 40; exact Gr.calls _ (HC.out _))))
            refine wpQuiet_nil ?_
            rintro _ ⟨g2, rfl⟩
            obtain ⟨g3, hg3⟩ := HGR.out g2
            rw [hg3]
            go_wp2
            go_roundw
            case rel => exact ⟨g3, k + 1, rfl, by go_num, by omega, E⟩
            case measure => simp [intOf]; omega
          · have E : Hid (r = false) := by
              show _ = _
              rw [← HK.out]; exact rowMB_no hkl (fun h => by rw [hx, hx1] at h; rcases h.2 with h | h <;> omega)
            clear hcell hcell2
            have hcb : (0 : Int) ≤ ordD l[k - 1] l[k] := by omega
            have hcb2 : decide ((0 : Int) ≤ ordD l[k - 1] l[k]) = true := decide_eq_true hcb
            generalize ordD l[k - 1] l[k] = cc at *
            generalize l[k] = x at *
            generalize l[k - 1] = y at *
            obtain ⟨x1, x2⟩ := x
            obtain ⟨y1, y2⟩ := y
            simp only at hc0 hc1 L0 L1 M0 M1 HW HMW HC
            go_upto_region 4 with fail
            rw [HW.out]
            refine Gr.region (by kernel_rfl) (by kernel_rfl) (Gr.draw0 _) ?_
            repeat (go_big_quiet_step (first | (go_at_call 41; exact Gr.calls _ (HMW.out _)) | (go_at_call 40; exact Gr.calls _ (HC.out _))))
            refine wpQuiet_nil ?_
            rintro _ ⟨g2, rfl⟩
            obtain ⟨g3, hg3⟩ := HGR.out g2
            rw [hg3]
            go_wp2
            go_ret
            exact ⟨ret_bool E.out.symm, g3.ok⟩
    · have E : Hid (r = true) := by
        show _ = _
        rw [← HK.out]; exact rowMB_end (by rw [HN.out]; omega)
      go_wp2
      go_ret
      exact ⟨ret_bool E.out.symm, g.ok⟩
end Go.Proofs.Ytnccgfdaddbndaa
end
