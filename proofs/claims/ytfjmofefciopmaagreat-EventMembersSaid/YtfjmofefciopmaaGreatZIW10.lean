import Derived.Test.YtfjmofefciopmaaGreatZIW8
import Derived.Test.YtfjmofefciopmaaGreatZMI
/- Contracts of the program's events: the members that meet a window. -/
section
namespace Go.Proofs.YtfjmofefciopmaaGreat
open Go.ChangeShapes Go.WideShapes Go.ChangeAt Go.RowKit Go.Joins Sp Ev Qr
theorem own_below {w w' : World} {base size n : Nat} {t : TypeId} {v : Value} {xs : List Value} (h : w.ownsRow base t size v n xs) (hb : Below w.heap.size w w') : w'.ownsRow base t size v n xs :=
  own_off h (Off.of_below hb (F := fun _ => False)) (fun _ _ => id)
structure Box3E (e : Evt) (A1 A2 A3 A4 A5 A6 A7 : Option Addr) (c1 c2 c3 c4 c5 c6 c7 : Nat) (z : Zn.Z) (Z : Option Addr) (cz : Nat) (x1 x2 : Int) (W : World) (b : Nat) : Prop where
  z0 : ∀ G : Gr W, G.val.cell? ⟨b, 0, none⟩ = some (.int .i64 z.base)
  z1 : ∀ G : Gr W, G.val.cell? ⟨b, 1, none⟩ = some (.slice Z z.n cz)
  e : ∀ (G : Gr W) (k : Nat) (v : Value), (ecells e A1 A2 A3 A4 A5 A6 A7 c1 c2 c3 c4 c5 c6 c7)[k]? = some v → G.val.cell? ⟨b + 1, k, none⟩ = some v
  w0 : ∀ G : Gr W, G.val.cell? ⟨b + 2, 0, none⟩ = some (.int .i64 x1)
  w1 : ∀ G : Gr W, G.val.cell? ⟨b + 2, 1, none⟩ = some (.int .i64 x2)
theorem box3E (e : Evt) (A1 A2 A3 A4 A5 A6 A7 : Option Addr) (c1 c2 c3 c4 c5 c6 c7 : Nat) (z : Zn.Z) (Z : Option Addr) (cz : Nat) (x1 x2 : Int) (w : World) :
    Box3E e A1 A2 A3 A4 A5 A6 A7 c1 c2 c3 c4 c5 c6 c7 z Z cz x1 x2 (((w.alloc (.cells #[.int .i64 z.base, .slice Z z.n cz] 24)).alloc (.cells (ecells e A1 A2 A3 A4 A5 A6 A7 c1 c2 c3 c4 c5 c6 c7) 32)).alloc (.cells #[.int .i64 x1, .int .i64 x2] 34)) w.heap.size := by
  refine ⟨fun G => cell_old ?_ G.ok, fun G => cell_old ?_ G.ok, fun G k v hk => cell_old ?_ G.ok, fun G => cell_old ?_ G.ok, fun G => cell_old ?_ G.ok⟩
  · simp [go_sem]
  · simp [go_sem]
  · have h1 : (((w.alloc (.cells #[.int .i64 z.base, .slice Z z.n cz] 24)).alloc (.cells (ecells e A1 A2 A3 A4 A5 A6 A7 c1 c2 c3 c4 c5 c6 c7) 32))).cell? ⟨w.heap.size + 1, k, none⟩ = some v := by
      have := boxE e A1 A2 A3 A4 A5 A6 A7 c1 c2 c3 c4 c5 c6 c7 (w.alloc (.cells #[.int .i64 z.base, .slice Z z.n cz] 24)) ⟨_, Below.refl _ _⟩ k v hk
      rwa [show (w.alloc (.cells #[.int .i64 z.base, .slice Z z.n cz] 24)).heap.size = w.heap.size + 1 by simp] at this
    exact cell_old h1 ((Below.refl _ _).alloc (Nat.le_refl _) _)
  · simp [go_sem]
  · simp [go_sem]
set_option maxRecDepth 100000 in
set_option maxHeartbeats 4000000 in
theorem pmembers_no (z : Zn.Z) (Z : Option Addr) (cz : Nat) (e : Evt) (A1 A2 A3 A4 A5 A6 A7 : Option Addr) (c1 c2 c3 c4 c5 c6 c7 : Nat) (x1 x2 : Int) (hw : ZWf z) (hx : e.ex.length ≤ 1000000) (hp : e.plus.length ≤ 1000000) (hc : e.ch.length ≤ 1000000)
    (hx1 : -9223372036854775808 ≤ x1 ∧ x1 ≤ 9223372036854775807) (hx2 : -9223372036854775808 ≤ x2 ∧ x2 ≤ 9223372036854775807) (hno : ¬ (mayE e ∧ Zn.mayP z ∧ winP (x1, x2))) (w : World) (hz : ZAt w Z z) (h : EAt w e A1 A2 A3 A4 A5 A6 A7 c1 c2 c3 c4 c5 c6 c7) :
    Calls Tryz.prog 13 #[.agg #[.int .i64 z.base, .slice Z z.n cz], .agg (ecells e A1 A2 A3 A4 A5 A6 A7 c1 c2 c3 c4 c5 c6 c7), .agg #[.int .i64 x1, .int .i64 x2]] w (RetS [] w) := by
  obtain ⟨W, hW⟩ : ∃ W, ((w.alloc (.cells #[.int .i64 z.base, .slice Z z.n cz] 24)).alloc (.cells (ecells e A1 A2 A3 A4 A5 A6 A7 c1 c2 c3 c4 c5 c6 c7) 32)).alloc (.cells #[.int .i64 x1, .int .i64 x2] 34) = W := ⟨_, rfl⟩
  have hBW : Below w.heap.size w W := by rw [← hW]; exact (((Below.refl _ w).alloc (Nat.le_refl _) _).alloc (by simp) _).alloc (by simp; omega) _
  have HG : Hid (∀ g : Gr W, Below w.heap.size w g.val) := fun g => hBW.trans (g.ok.mono hBW.size)
  have HX3 : Box3E e A1 A2 A3 A4 A5 A6 A7 c1 c2 c3 c4 c5 c6 c7 z Z cz x1 x2 W w.heap.size := by rw [← hW]; exact box3E e A1 A2 A3 A4 A5 A6 A7 c1 c2 c3 c4 c5 c6 c7 z Z cz x1 x2 w
  have z0 := HX3.z0
  have z1 := HX3.z1
  have HB := HX3.e
  have w0 := HX3.w0
  have w1 := HX3.w1
  have HE : Hid (∀ g : Gr W, EAt g.val e A1 A2 A3 A4 A5 A6 A7 c1 c2 c3 c4 c5 c6 c7) := fun g => h.below (HG.out g)
  have HZ : Hid (∀ g : Gr W, ZAt g.val Z z) := fun g => hz.below (HG.out g)
  obtain ⟨q1, hq1⟩ : ∃ q, mayEB e = q := ⟨_, rfl⟩
  obtain ⟨q2, hq2⟩ : ∃ q, Zn.mayB z = q := ⟨_, rfl⟩
  obtain ⟨q3, hq3⟩ : ∃ q, wmB (x1, x2) = q := ⟨_, rfl⟩
  have H1 : Hid (∀ g : Gr W, Calls Tryz.prog 10 #[.agg (ecells e A1 A2 A3 A4 A5 A6 A7 c1 c2 c3 c4 c5 c6 c7)] g.val fun q w' => q = .returned (.bool q1) ∧ Below g.val.heap.size g.val w') := fun g => by rw [← hq1]; exact pmay11_any e A1 A2 A3 A4 A5 A6 A7 c1 c2 c3 c4 c5 c6 c7 g.val hx hp hc (HE.out g)
  have H2 : Hid (∀ g : Gr W, Calls Tryz.prog 35 #[.agg #[.int .i64 z.base, .slice Z z.n cz]] g.val fun q w' => q = .returned (.bool q2) ∧ Below g.val.heap.size g.val w') := fun g => by rw [← hq2]; exact zmay_any g.val Z z cz hw (HZ.out g)
  have H3 : Hid (∀ g : Gr W, Calls Tryz.prog 36 #[.agg #[.int .i64 x1, .int .i64 x2]] g.val fun q w' => q = .returned (.bool q3) ∧ Below g.val.heap.size g.val w') := fun g => by rw [← hq3]; exact windowMay_any x1 x2 g.val hx1 hx2
  have HW : Hid (q1 = true → q2 = true → q3 = true → False) := fun a1 a2 a3 => by
    refine hno ⟨of_decide_eq_true (hq1.trans a1), Zn.may_iff.1 (hq2.trans a2), ?_⟩
    have := hq3.trans a3
    unfold wmB at this
    simp only [Bool.and_eq_true, decide_eq_true_eq] at this
    exact this
  clear hno HX3 hBW hx hp hc hx1 hx2 hq1 hq2 hq3 HE HZ h hz hw
  obtain ⟨start, long, world, again, rule, ex, plus, ch⟩ := e
  unfold ecells at HB hW H1 ⊢
  simp only at *
  obtain ⟨g0, hg0⟩ := Gr.start W
  have E1 := Lib.hid (hW.trans hg0)
  have b0 := fun G => HB G 0 _ rfl
  have b1 := fun G => HB G 1 _ rfl
  have b2 := fun G => HB G 2 _ rfl
  have b3 := fun G => HB G 3 _ rfl
  have b4 := fun G => HB G 4 _ rfl
  have b5 := fun G => HB G 5 _ rfl
  have b6 := fun G => HB G 6 _ rfl
  have b7 := fun G => HB G 7 _ rfl
  have b8 := fun G => HB G 8 _ rfl
  have b9 := fun G => HB G 9 _ rfl
  have b10 := fun G => HB G 10 _ rfl
  have b11 := fun G => HB G 11 _ rfl
  have b12 := fun G => HB G 12 _ rfl
  have b13 := fun G => HB G 13 _ rfl
  have b14 := fun G => HB G 14 _ rfl
  have b15 := fun G => HB G 15 _ rfl
  clear HB hW hg0
  cases q1 with
  | false =>
    go_enter Tryz.func13, Tryz.ntmps13
    go_upto_region 1 with fail
    rw [E1.out]
    go_wp2_with (go_at_call 10; (with_reducible refine (H1.out _).mono ?_); rintro e w' ⟨rfl, hb⟩; obtain ⟨g', rfl⟩ := Gr.on _ hb; clear hb)
    go_ret
    exact ⟨none, 0, rfl, Sl.none_ _, HG.out _⟩
  | true =>
  cases q2 with
  | false =>
    go_enter Tryz.func13, Tryz.ntmps13
    go_upto_region 1 with fail
    rw [E1.out]
    go_wp2_with (first | (go_at_call 10; (with_reducible refine (H1.out _).mono ?_); rintro e w' ⟨rfl, hb⟩; obtain ⟨g', rfl⟩ := Gr.on _ hb; clear hb) | (go_at_call 35; (with_reducible refine (H2.out _).mono ?_); rintro e w' ⟨rfl, hb⟩; obtain ⟨g', rfl⟩ := Gr.on _ hb; clear hb))
    go_ret
    exact ⟨none, 0, rfl, Sl.none_ _, HG.out _⟩
  | true =>
  cases q3 with
  | false =>
    go_enter Tryz.func13, Tryz.ntmps13
    go_upto_region 1 with fail
    rw [E1.out]
    go_wp2_with (first | (go_at_call 10; (with_reducible refine (H1.out _).mono ?_); rintro e w' ⟨rfl, hb⟩; obtain ⟨g', rfl⟩ := Gr.on _ hb; clear hb) | (go_at_call 35; (with_reducible refine (H2.out _).mono ?_); rintro e w' ⟨rfl, hb⟩; obtain ⟨g', rfl⟩ := Gr.on _ hb; clear hb) | (go_at_call 36; (with_reducible refine (H3.out _).mono ?_); rintro e w' ⟨rfl, hb⟩; obtain ⟨g', rfl⟩ := Gr.on _ hb; clear hb))
    go_ret
    exact ⟨none, 0, rfl, Sl.none_ _, HG.out _⟩
  | true => exact (HW.out rfl rfl rfl).elim
set_option maxRecDepth 100000 in
set_option maxHeartbeats 16000000 in
theorem pmembers_all (z : Zn.Z) (Z : Option Addr) (cz : Nat) (e : Evt) (A1 A2 A3 A4 A5 A6 A7 : Option Addr) (c1 c2 c3 c4 c5 c6 c7 : Nat) (x1 x2 : Int) (hw : ZWf z) (hx : e.ex.length ≤ 1000000) (hp : e.plus.length ≤ 1000000) (hc : e.ch.length ≤ 1000000) (hl : e.rule.bm.length ≤ 10000 ∧ e.rule.bd.length ≤ 10000 ∧ e.rule.bw.length ≤ 10000 ∧ e.rule.bs.length ≤ 10000)
    (hx1 : -9223372036854775808 ≤ x1 ∧ x1 ≤ 9223372036854775807) (hx2 : -9223372036854775808 ≤ x2 ∧ x2 ≤ 9223372036854775807) (hm : mayE e) (hzm : Zn.mayP z) (hwn : winP (x1, x2)) (w : World) (hz : ZAt w Z z) (h : EAt w e A1 A2 A3 A4 A5 A6 A7 c1 c2 c3 c4 c5 c6 c7) :
    Calls Tryz.prog 13 #[.agg #[.int .i64 z.base, .slice Z z.n cz], .agg (ecells e A1 A2 A3 A4 A5 A6 A7 c1 c2 c3 c4 c5 c6 c7), .agg #[.int .i64 x1, .int .i64 x2]] w (RetS (membersV z e (x1, x2)) w) := by
  obtain ⟨W, hW⟩ : ∃ W, ((w.alloc (.cells #[.int .i64 z.base, .slice Z z.n cz] 24)).alloc (.cells (ecells e A1 A2 A3 A4 A5 A6 A7 c1 c2 c3 c4 c5 c6 c7) 32)).alloc (.cells #[.int .i64 x1, .int .i64 x2] 34) = W := ⟨_, rfl⟩
  have hBW : Below w.heap.size w W := by rw [← hW]; exact (((Below.refl _ w).alloc (Nat.le_refl _) _).alloc (by simp) _).alloc (by simp; omega) _
  have HG : Hid (∀ g : Gr W, Below w.heap.size w g.val) := fun g => hBW.trans (g.ok.mono hBW.size)
  have HX3 : Box3E e A1 A2 A3 A4 A5 A6 A7 c1 c2 c3 c4 c5 c6 c7 z Z cz x1 x2 W w.heap.size := by rw [← hW]; exact box3E e A1 A2 A3 A4 A5 A6 A7 c1 c2 c3 c4 c5 c6 c7 z Z cz x1 x2 w
  have z0 := HX3.z0
  have z1 := HX3.z1
  have HB := HX3.e
  have w0 := HX3.w0
  have w1 := HX3.w1
  have HE : Hid (∀ g : Gr W, EAt g.val e A1 A2 A3 A4 A5 A6 A7 c1 c2 c3 c4 c5 c6 c7) := fun g => h.below (HG.out g)
  have HZ : Hid (∀ g : Gr W, ZAt g.val Z z) := fun g => hz.below (HG.out g)
  have hst : 0 ≤ e.start ∧ e.start < 158310720 := by have := hm.1; unfold stampB at this; simpa using this
  have hlo : 0 ≤ e.long ∧ e.long ≤ 10080 := ⟨by have := hm.2.1; omega, hm.2.2.1⟩
  have hpl : e.plus.length ≤ 50 := by
    cases ha : e.again with
    | false => have := (hm.2.2.2.1 ha).2.2.1; omega
    | true => exact (of_decide_eq_true (hm.2.2.2.2 ha).2.2.2.1 : rowP e.plus).2
  have hcl : e.ch.length ≤ 50 := by
    cases ha : e.again with
    | false => have := (hm.2.2.2.1 ha).2.2.2; omega
    | true => exact (hm.2.2.2.2 ha).2.2.2.2.1
  have HCB : Hid (∀ i (hi : i < e.ch.length), (0 ≤ (e.ch[i]).1 ∧ (e.ch[i]).1 < 158310720) ∧ (0 ≤ (e.ch[i]).2.1 ∧ (e.ch[i]).2.1 < 158310720) ∧ 0 ≤ (e.ch[i]).2.2 ∧ (e.ch[i]).2.2 ≤ 10080) := fun i hi => by
    cases ha : e.again with
    | false => have := (hm.2.2.2.1 ha).2.2.2; omega
    | true =>
      have k := (hm.2.2.2.2 ha).2.2.2.2.2 i hi
      unfold okC at k
      rw [show e.ch.getD i (0, 0, 0) = e.ch[i] by rw [List.getD_eq_getElem?_getD, List.getElem?_eq_getElem hi]; rfl] at k
      obtain ⟨k1, k2, k3, k4, _⟩ := k
      unfold stampB at k1 k2
      simp only [Bool.and_eq_true, decide_eq_true_eq] at k1 k2
      exact ⟨k1, k2, k3, k4⟩
  have H1 : Hid (∀ g : Gr W, Calls Tryz.prog 10 #[.agg (ecells e A1 A2 A3 A4 A5 A6 A7 c1 c2 c3 c4 c5 c6 c7)] g.val fun q w' => q = .returned (.bool true) ∧ Below g.val.heap.size g.val w') := fun g => by
    have := pmay11_any e A1 A2 A3 A4 A5 A6 A7 c1 c2 c3 c4 c5 c6 c7 g.val hx hp hc (HE.out g)
    rwa [show mayEB e = true from decide_eq_true hm] at this
  have H2 : Hid (∀ g : Gr W, Calls Tryz.prog 35 #[.agg #[.int .i64 z.base, .slice Z z.n cz]] g.val fun q w' => q = .returned (.bool true) ∧ Below g.val.heap.size g.val w') := fun g => by
    have := zmay_any g.val Z z cz hw (HZ.out g)
    rwa [Zn.may_iff.2 hzm] at this
  have H3 : Hid (∀ g : Gr W, Calls Tryz.prog 36 #[.agg #[.int .i64 x1, .int .i64 x2]] g.val fun q w' => q = .returned (.bool true) ∧ Below g.val.heap.size g.val w') := fun g => by
    have := windowMay_any x1 x2 g.val hx1 hx2
    rwa [show wmB (x1, x2) = true by unfold wmB; rw [decide_eq_true hwn.1, decide_eq_true hwn.2]; rfl] at this
  have H4 : Hid (∀ g : Gr W, Calls Tryz.prog 37 #[.agg (ecells e A1 A2 A3 A4 A5 A6 A7 c1 c2 c3 c4 c5 c6 c7), .agg #[.int .i64 x1, .int .i64 x2]] g.val (RetN11 e (x1, x2) g.val)) := fun g => punch_any e A1 A2 A3 A4 A5 A6 A7 c1 c2 c3 c4 c5 c6 c7 x1 x2 hwn.1 hlo hst hpl hl g.val (HE.out g)
  have HMB : Hid (∀ (g : Gr W) (s d : Int), 0 ≤ s → s < 158310720 → 0 ≤ d → d ≤ 10080 → Calls Tryz.prog 38 #[.agg #[.int .i64 z.base, .slice Z z.n cz], .bool e.world, .int .i64 s, .int .i64 d] g.val (RetM (mbO z e.world s d) g.val)) := fun g s d a1 a2 a3 a4 => pmember_any z Z cz e.world s d (by omega) (by omega) hw hzm g.val (HZ.out g)
  have HIT : Hid (∀ (g : Gr W) (a : Int), Calls Tryz.prog 40 #[.agg (ecells e A1 A2 A3 A4 A5 A6 A7 c1 c2 c3 c4 c5 c6 c7), .int .i64 a] g.val fun q w' => q = .returned (.bool (atB e a)) ∧ Below g.val.heap.size g.val w') := fun g a => by
    have := pisTime_any e A1 A2 A3 A4 A5 A6 A7 c1 c2 c3 c4 c5 c6 c7 a (by omega) hl g.val (HE.out g)
    rwa [isTB_at hm a] at this
  have HS7 : Hid (∀ g : Gr W, Sl g.val A7 e.ch.length c7 (tv e.ch)) := fun g => by have := (HE.out g).s7; rwa [cv_tv] at this
  have HTB : Hid (∀ T, IsT e (x1, x2) T → ∀ a ∈ T, 0 ≤ a ∧ a < 158310720) := fun T hT a ha => by
    rcases (hT.mem a).1 ha with ⟨_, rfl⟩ | ⟨hag, k | k, _⟩
    · exact hst
    · have := Tm.within_bd k; omega
    · exact rowP_bd (of_decide_eq_true (hm.2.2.2.2 hag).2.2.2.1) k
  have HFI : Hid (∀ T, IsT e (x1, x2) T → srt (rowV z e (x1, x2) T) = membersV z e (x1, x2)) := fun T hT => by
    show _ = _
    rw [srt_T hm hT]
    unfold membersV
    rw [if_pos (show mayE e ∧ Zn.mayP z ∧ winP (x1, x2) from ⟨hm, hzm, hwn⟩)]
  have HFC : Hid (∀ c, fC z e (x1, x2) c = if atB e c.1 = true then selO z e.world (x1, x2) c.2.1 c.2.2 else none) := fun c => rfl
  have HRV : Hid (∀ T, rowV z e (x1, x2) T = T.filterMap (fun a => selO z e.world (x1, x2) a e.long) ++ e.ch.filterMap (fC z e (x1, x2))) := fun T => rfl
  generalize membersV z e (x1, x2) = R at *
  have HLO := Lib.hid hlo
  have HCL := Lib.hid hcl
  clear HX3 hBW hx hp hc hx1 hx2 HE HZ h hz hw hm hwn hzm hl hpl hcl hst hlo
  obtain ⟨i0, hi0, hq0, hq1, hq2⟩ := info_parts span_info
  obtain ⟨g0, hg0⟩ := Gr.start W
  have E1 := Lib.hid (hW.trans hg0)
  clear hW hg0
  have HLOI : Hid (IntKind.i64.wrap (1 : Int) = 1) := by show _ = _; rw [IntKind.wrap_i64]; omega
  clear HLOI
  obtain ⟨fc, hfc⟩ : ∃ fc, fC z e (x1, x2) = fc := ⟨_, rfl⟩
  obtain ⟨at1, hat1⟩ : ∃ at1, atB e = at1 := ⟨_, rfl⟩
  rw [hfc] at HRV HFC
  rw [hat1] at HFC HIT
  obtain ⟨IT, hIT⟩ : ∃ IT, IsT e (x1, x2) = IT := ⟨_, rfl⟩
  obtain ⟨rv, hrv⟩ : ∃ rv, rowV z e (x1, x2) = rv := ⟨_, rfl⟩
  have H4' : Hid (∀ g : Gr W, Calls Tryz.prog 37 #[.agg (ecells e A1 A2 A3 A4 A5 A6 A7 c1 c2 c3 c4 c5 c6 c7), .agg #[.int .i64 x1, .int .i64 x2]] g.val fun q w' => ∃ (T : List Int) (A : Option Addr) (c : Nat), q = .returned (.slice A T.length c) ∧ Sl w' A T.length c (iv T) ∧ IT T ∧ T.length ≤ 900000 ∧ Below g.val.heap.size g.val w') := by rw [← hIT]; exact H4
  rw [hIT] at HTB HFI
  rw [hrv] at HFI HRV
  clear H4 hfc hat1 hIT hrv
  obtain ⟨start, long, world, again, rule, ex, plus, ch⟩ := e
  unfold ecells at HB E1 H1 H4' HIT ⊢
  simp only at *
  have b0 := fun G => HB G 0 _ rfl
  have b1 := fun G => HB G 1 _ rfl
  have b2 := fun G => HB G 2 _ rfl
  have b3 := fun G => HB G 3 _ rfl
  have b4 := fun G => HB G 4 _ rfl
  have b5 := fun G => HB G 5 _ rfl
  have b6 := fun G => HB G 6 _ rfl
  have b7 := fun G => HB G 7 _ rfl
  have b8 := fun G => HB G 8 _ rfl
  have b9 := fun G => HB G 9 _ rfl
  have b10 := fun G => HB G 10 _ rfl
  have b11 := fun G => HB G 11 _ rfl
  have b12 := fun G => HB G 12 _ rfl
  have b13 := fun G => HB G 13 _ rfl
  have b14 := fun G => HB G 14 _ rfl
  have b15 := fun G => HB G 15 _ rfl
  clear HB
  go_enter Tryz.func13, Tryz.ntmps13
  go_upto_region 1 with fail
  rw [E1.out]
  go_wp2_with fail
  go_at_call 10
  refine (H1.out _).mono ?_
  rintro q w' ⟨rfl, hb⟩
  obtain ⟨g1, rfl⟩ := Gr.on _ hb
  clear hb
  go_wp2_with fail
  go_at_call 35
  refine (H2.out _).mono ?_
  rintro q w' ⟨rfl, hb⟩
  obtain ⟨g2, rfl⟩ := Gr.on _ hb
  clear hb
  go_wp2_with fail
  go_at_call 36
  refine (H3.out _).mono ?_
  rintro q w' ⟨rfl, hb⟩
  obtain ⟨g3, rfl⟩ := Gr.on _ hb
  clear hb
  go_wp2_with fail
  go_at_call 37
  refine (H4'.out _).mono ?_
  rintro q Wc ⟨T, A, c, rfl, hsT, hIT, hTl, hb⟩
  have hWc : Below W.heap.size W Wc := g3.ok.trans (hb.mono g3.size)
  have HT := Lib.hid hsT
  have HTI := Lib.hid hIT
  have HTL := Lib.hid hTl
  have HUP : Hid (∀ G : Gr Wc, ∃ G' : Gr W, G.val = G'.val) := fun G => ⟨⟨G.val, hWc.trans (G.ok.mono hWc.size)⟩, rfl⟩
  have HBD := Lib.hid (HTB.out T hIT)
  have HEND := Lib.hid (HFI.out T hIT)
  have HROW := Lib.hid (HRV.out T)
  have hTlc : (T.length : Int) ≤ 9223372036854775807 := by omega
  clear hsT hIT hTl hb H1 H2 H3 H4' HTB HFI HRV E1
  -- boxes, spoken of worlds grown out of the loops' first one
  have UPC : ∀ {b k : Nat} {v : Value}, (∀ G : Gr W, G.val.cell? ⟨b, k, none⟩ = some v) → ∀ G : Gr Wc, G.val.cell? ⟨b, k, none⟩ = some v := fun h G => by obtain ⟨G', hG'⟩ := HUP.out G; rw [hG']; exact h G'
  replace z0 := UPC z0
  replace z1 := UPC z1
  replace w0 := UPC w0
  replace w1 := UPC w1
  replace b0 := UPC b0
  replace b1 := UPC b1
  replace b2 := UPC b2
  replace b3 := UPC b3
  replace b4 := UPC b4
  replace b5 := UPC b5
  replace b6 := UPC b6
  replace b7 := UPC b7
  replace b8 := UPC b8
  replace b9 := UPC b9
  replace b10 := UPC b10
  replace b11 := UPC b11
  replace b12 := UPC b12
  replace b13 := UPC b13
  replace b14 := UPC b14
  replace b15 := UPC b15
  clear UPC
  replace HMB : Hid (∀ (g : Gr Wc) (s d : Int), 0 ≤ s → s < 158310720 → 0 ≤ d → d ≤ 10080 → Calls Tryz.prog 38 #[.agg #[.int .i64 z.base, .slice Z z.n cz], .bool world, .int .i64 s, .int .i64 d] g.val (RetM (mbO z world s d) g.val)) := fun g => by obtain ⟨G', hG'⟩ := HUP.out g; rw [hG']; exact HMB.out G'
  replace HG : Hid (∀ g : Gr Wc, Below w.heap.size w g.val) := fun g => by obtain ⟨G', hG'⟩ := HUP.out g; rw [hG']; exact HG.out G'
  replace HS7 : Hid (∀ g : Gr Wc, Sl g.val A7 ch.length c7 (tv ch)) := fun g => by obtain ⟨G', hG'⟩ := HUP.out g; rw [hG']; exact HS7.out G'
  replace HIT : Hid (∀ (g : Gr Wc) (a : Int), Calls Tryz.prog 40 #[.agg #[.int .i64 start, .int .i64 long, .bool world, .bool again, .int .i64 rule.freq, .int .i64 rule.iv, .int .i64 rule.count, .int .i64 rule.until_, .slice A1 rule.bm.length c1, .slice A2 rule.bd.length c2, .slice A3 rule.bw.length c3, .slice A4 rule.bs.length c4, .int .i64 rule.start, .slice A5 ex.length c5, .slice A6 plus.length c6, .slice A7 ch.length c7], .int .i64 a] g.val fun q w' => q = .returned (.bool (at1 a)) ∧ Below g.val.heap.size g.val w') := fun g => by obtain ⟨G', hG'⟩ := HUP.out g; rw [hG']; exact HIT.out G'
  have HMT : Hid (∀ (w : World) (m1 m2 : Int), Calls Tryz.prog 39 #[.agg #[.int .i64 m1, .int .i64 m2], .agg #[.int .i64 x1, .int .i64 x2]] w fun e w' => e = .returned (.bool (meetB (m1, m2) (x1, x2))) ∧ Below w.heap.size w w') := fun w m1 m2 => meet_any m1 m2 x1 x2 w
  have HSEL : Hid (∀ s d, selO z world (x1, x2) s d = match mbO z world s d with
    | none => none
    | some m => if meetB m (x1, x2) = true then some m else none) := fun s d => rfl
  clear HUP
  go_wp2_with fail
  go_loopw [7, 33] (fun s7 s33 wr => ∃ (i : Nat) (L : List Spn) (v : Value) (g : Gr Wc), wr = g.val ∧ i ≤ T.length ∧ s33 = .int .i64 i ∧ v = s7 ∧ Hid (wr.ownsRow Wc.heap.size 34 2 v L.length (sv L)) ∧ Hid (L = (T.take i).filterMap fun a => selO z world (x1, x2) a long)) (fun _ s33 _ => T.length - (intOf s33).toNat)
  case atStart => exact ⟨0, [], _, ⟨Wc, Below.refl _ _⟩, rfl, Nat.zero_le _, rfl, rfl, World.ownsRow_nil _ _ _ _, rfl⟩
  case round =>
    obtain ⟨i, L, v7, g, rfl, hi, rfl, rfl, HO, HL⟩ := hrel
    by_cases hlt : i < T.length
    · have hiz : (i : Int) < T.length := by omega
      obtain ⟨a, ha⟩ : ∃ a, T[i]? = some a := ⟨_, List.getElem?_eq_getElem hlt⟩
      obtain ⟨b, off, rfl, hbs, hce⟩ := HT.out.intG ha
      have c1' := hce g
      have hab := HBD.out a (List.mem_of_getElem? ha)
      have HST : Hid (∀ o, selO z world (x1, x2) a long = o → (T.take (i + 1)).filterMap (fun a => selO z world (x1, x2) a long) = L ++ o.toList) := fun o ho => by
        rw [List.take_add_one, ha, List.filterMap_append, ← HL.out]
        congr 1
        cases o with
        | none => simp [ho]
        | some m => simp [ho]
      have HLN : Hid (L.length ≤ i) := by
        show _ ≤ _
        rw [HL.out]
        exact Nat.le_trans (List.length_filterMap_le _ _) (by rw [List.length_take]; omega)
      have hmx : L.length + 1 ≤ maxLen := by have h1 := HLN.out; have h2 := HTL.out; have : L.length + 1 ≤ 9223372036854775807 := by omega
                                             exact this
      have hby : (L.length + 1) * 16 ≤ 140737488355328 := by have h1 := HLN.out; have h2 := HTL.out; omega
      have HM := Lib.hid (HMB.out g a long hab.1 hab.2 HLO.out.1 HLO.out.2)
      have HSE := HSEL.out a long
      cases hmb : mbO z world a long with
      | none =>
       as_aux_lemma =>
        rw [hmb] at HM HSE
        have HN := Lib.hid (HST.out none HSE)
        clear HST HSE hmb hce ha hmx hby
        go_wp2_with fail
        go_at_call 38
        refine HM.out.mono ?_
        rintro q w2 ⟨rfl, hb⟩
        obtain ⟨g2, rfl⟩ := g.on hb
        have HO2 := Lib.hid (own_below HO.out hb)
        clear hb HO
        go_upto_region 8 with fail
        obtain ⟨g4, hg4⟩ : ∃ g4 : Gr Wc, g2.val.alloc (.cells #[.int .i64 0, .int .i64 0] 34) = g4.val := g2.up0
        have HO4 : Hid (g4.val.ownsRow Wc.heap.size 34 2 v7 L.length (sv L)) := by rw [← hg4]; exact HO2.out.alloc _
        rw [hg4]
        clear hg4 HO2
        go_wp2_with fail
        go_roundw
        case rel => exact ⟨i + 1, L, v7, g4, rfl, hlt, by go_num, rfl, HO4, by show _ = _; rw [HN.out]; simp⟩
        case measure => simp [intOf]; omega
      | some m =>
        rw [hmb] at HM HSE
        obtain ⟨m1, m2⟩ := m
        simp only at HSE
        cases hmt : meetB (m1, m2) (x1, x2) with
        | false =>
         as_aux_lemma =>
          rw [hmt] at HSE
          have HN := Lib.hid (HST.out none HSE)
          have HMm := Lib.hid (fun w => HMT.out w m1 m2)
          rw [hmt] at HMm
          clear HST HSE hmb hce ha hmt hmx hby
          go_wp2_with fail
          go_at_call 38
          refine HM.out.mono ?_
          rintro q w2 ⟨rfl, hb⟩
          obtain ⟨g2, rfl⟩ := g.on hb
          have HO2 := Lib.hid (own_below HO.out hb)
          clear hb HO
          go_upto_region 8 with fail
          obtain ⟨g4, hg4⟩ : ∃ g4 : Gr Wc, g2.val.alloc (.cells #[.int .i64 m1, .int .i64 m2] 34) = g4.val := g2.up0
          have HO4 : Hid (g4.val.ownsRow Wc.heap.size 34 2 v7 L.length (sv L)) := by rw [← hg4]; exact HO2.out.alloc _
          have n0 : g4.val.cell? ⟨g2.val.heap.size, 0, none⟩ = some (.int .i64 m1) := by rw [← hg4]; simp [go_sem]
          have n1 : g4.val.cell? ⟨g2.val.heap.size, 1, none⟩ = some (.int .i64 m2) := by rw [← hg4]; simp [go_sem]
          rw [hg4]
          clear hg4 HO2
          go_wp2_with fail
          go_at_call 39
          refine (HMm.out _).mono ?_
          rintro q w5 ⟨rfl, hb⟩
          obtain ⟨g5, rfl⟩ := g4.on hb
          have HO5 := Lib.hid (own_below HO4.out hb)
          clear hb HO4 n0 n1
          go_wp2_with fail
          go_roundw
          case rel => exact ⟨i + 1, L, v7, g5, rfl, hlt, by go_num, rfl, HO5, by show _ = _; rw [HN.out]; simp⟩
          case measure => simp [intOf]; omega
        | true =>
         as_aux_lemma =>
          rw [hmt] at HSE
          have HN := Lib.hid (HST.out (some (m1, m2)) HSE)
          have HMm := Lib.hid (fun w => HMT.out w m1 m2)
          rw [hmt] at HMm
          clear HST HSE hmb hce ha hmt
          go_wp2_with fail
          go_at_call 38
          refine HM.out.mono ?_
          rintro q w2 ⟨rfl, hb⟩
          obtain ⟨g2, rfl⟩ := g.on hb
          have HO2 := Lib.hid (own_below HO.out hb)
          clear hb HO
          go_upto_region 8 with fail
          obtain ⟨g4, hg4⟩ : ∃ g4 : Gr Wc, g2.val.alloc (.cells #[.int .i64 m1, .int .i64 m2] 34) = g4.val := g2.up0
          have HO3 : Hid (g4.val.ownsRow Wc.heap.size 34 2 v7 L.length (sv L)) := by rw [← hg4]; exact HO2.out.alloc _
          have n0 : g4.val.cell? ⟨g2.val.heap.size, 0, none⟩ = some (.int .i64 m1) := by rw [← hg4]; simp [go_sem]
          have n1 : g4.val.cell? ⟨g2.val.heap.size, 1, none⟩ = some (.int .i64 m2) := by rw [← hg4]; simp [go_sem]
          rw [hg4]
          clear hg4 HO2
          go_wp2_with fail
          go_at_call 39
          refine (HMm.out _).mono ?_
          rintro q w5 ⟨rfl, hb⟩
          obtain ⟨g5, hg5⟩ : ∃ g5 : Gr Wc, w5 = g5.val := g4.on hb
          have p0 : w5.cell? ⟨g2.val.heap.size, 0, none⟩ = some (.int .i64 m1) := cell_old n0 hb
          have p1 : w5.cell? ⟨g2.val.heap.size, 1, none⟩ = some (.int .i64 m2) := cell_old n1 hb
          have HO4 := Lib.hid (own_below HO3.out hb)
          subst hg5
          have HGS := Lib.hid g5.size
          clear hb HO3 n0 n1
          go_wp2_with (refine wpList_append_lies _ rfl _ _ _ (by rfl) Wc.heap.size 34 i0 _ 2 16 Tryz.underlying38 hi0 hq0 hq1 hq2 rfl (by decide) v7 L.length _ (by rfl) (HO4.out.alloc _) ⟨g5.val.heap.size, 0, none⟩ 1 1 [.int .i64 m1, .int .i64 m2] (by rfl) (by rfl) (World.news_of_block (cs := #[.int .i64 m1, .int .i64 m2]) (t := 34) (fr := (0, 0)) (heap_alloc_new _ _)) (by simp [Value.oneCell']) (Nat.lt_succ_self 0) hmx hby (by simp; have := HGS.out; omega) _ rfl ?_; intro gg cap2 w5 hown5 hgr5 hat5 hlt5)
          have hB6 : Below Wc.heap.size Wc w5 := (g5.ok.alloc HGS.out _).grown hgr5 (by simp; have := HGS.out; omega) (fun kk hk => (HO4.out.lt kk hk).1)
          have HO6 : Hid (w5.ownsRow Wc.heap.size 34 2 (.slice (some ⟨gg, 0, none⟩) (L.length + 1) cap2) (L ++ [(m1, m2)]).length (sv (L ++ [(m1, m2)]))) := by show World.ownsRow _ _ _ _ _ _ _; rw [sv_app, List.length_append]; exact hown5
          obtain ⟨g6, rfl⟩ := Gr.of hB6
          clear hown5 hgr5 hat5 hB6 hlt5 p0 p1
          go_roundw
          case rel => exact ⟨i + 1, L ++ [(m1, m2)], _, g6, rfl, hlt, by go_num, rfl, HO6, by show _ = _; rw [HN.out]; rfl⟩
          case measure => simp [intOf]; omega
    · obtain rfl : i = T.length := by omega
      have HL1 : Hid (L = T.filterMap fun a => selO z world (x1, x2) a long) := by show _ = _; rw [HL.out, List.take_length]
      have HLN : Hid (L.length ≤ 1000000) := by show _ ≤ _; rw [HL1.out]; exact Nat.le_trans (List.length_filterMap_le _ _) (Nat.le_trans HTL.out (by decide))
      clear HL HBD HT hTlc hlt hi
      have hchl : (ch.length : Int) ≤ 9223372036854775807 := by have := HCL.out; omega
      go_wp2_with fail
      go_loopw [7, 61] (fun s7 s61 wr => ∃ (k : Nat) (P : List Spn) (v : Value) (g : Gr Wc), wr = g.val ∧ k ≤ ch.length ∧ s61 = .int .i64 k ∧ v = s7 ∧ Hid (wr.ownsRow Wc.heap.size 34 2 v P.length (sv P)) ∧ Hid (P = L ++ (ch.take k).filterMap fc)) (fun _ s61 _ => ch.length - (intOf s61).toNat)
      case atStart => exact ⟨0, L, v7, g, rfl, Nat.zero_le _, rfl, rfl, HO, by show _ = _; simp⟩
      case round =>
        clear HO HLN g
        obtain ⟨k, P, v7, g, rfl, hk, rfl, rfl, HO, HP⟩ := hrel
        by_cases hkt : k < ch.length
        · have hkz : (k : Int) < ch.length := by omega
          have HLL : Hid (P.length ≤ 900000 + k) := by
            show _ ≤ _
            rw [HP.out, List.length_append]
            have h1 := Nat.le_trans (List.length_filterMap_le fc (ch.take k)) (by rw [List.length_take]; omega : _ ≤ k)
            have h2 : L.length ≤ 900000 := by rw [HL1.out]; exact Nat.le_trans (List.length_filterMap_le _ _) HTL.out
            omega
          have hmx : P.length + 1 ≤ maxLen := by have h1 := HLL.out; have h2 := HCL.out; have : P.length + 1 ≤ 9223372036854775807 := by omega
                                                 exact this
          have hby : (P.length + 1) * 16 ≤ 140737488355328 := by have h1 := HLL.out; have h2 := HCL.out; omega
          have hcb := HCB.out k hkt
          obtain ⟨b, off, rfl, hbs, d0, d1, d2⟩ := (HS7.out g).shift (List.getElem?_eq_getElem hkt)
          have HST : Hid (∀ o, fc ch[k] = o → L ++ (ch.take (k + 1)).filterMap fc = P ++ o.toList) := fun o ho => by
            rw [List.take_add_one, List.getElem?_eq_getElem hkt, List.filterMap_append, ← List.append_assoc, ← HP.out]
            congr 1
            cases o with
            | none => simp [ho]
            | some m => simp [ho]
          have HFK := HFC.out ch[k]
          generalize ch[k] = y at *
          obtain ⟨y1, y2, y3⟩ := y
          simp only at d0 d1 d2 hcb HFK
          have HM0 := Lib.hid (fun g : Gr Wc => HMB.out g y2 y3 hcb.2.1.1 hcb.2.1.2 hcb.2.2.1 hcb.2.2.2)
          have HSE := HSEL.out y2 y3
          have HI0 := Lib.hid (fun g : Gr Wc => HIT.out g y1)
          obtain ⟨qa, hqa⟩ : ∃ qa, at1 y1 = qa := ⟨_, rfl⟩
          rw [hqa] at HFK HI0
          go_upto_region 14 with fail
          obtain ⟨g4, hg4⟩ : ∃ g4 : Gr Wc, g.val.alloc (.cells #[.int .i64 y1, .int .i64 y2, .int .i64 y3] 47) = g4.val := g.up0
          have HO4 : Hid (g4.val.ownsRow Wc.heap.size 34 2 v7 P.length (sv P)) := by rw [← hg4]; exact HO.out.alloc _
          have n0 : g4.val.cell? ⟨g.val.heap.size, 0, none⟩ = some (.int .i64 y1) := by rw [← hg4]; simp [go_sem]
          have n1 : g4.val.cell? ⟨g.val.heap.size, 1, none⟩ = some (.int .i64 y2) := by rw [← hg4]; simp [go_sem]
          have n2 : g4.val.cell? ⟨g.val.heap.size, 2, none⟩ = some (.int .i64 y3) := by rw [← hg4]; simp [go_sem]
          rw [hg4]
          have HM := Lib.hid (HM0.out g4)
          clear hg4 HO d0 d1 d2 hcb HM0 hqa
          cases hmb : mbO z world y2 y3 with
          | none =>
           as_aux_lemma =>
            rw [hmb] at HM HSE
            have HN := Lib.hid (HST.out none (by rw [HFK, HSE]; split <;> rfl))
            clear HST HSE HFK hmb hmx hby HI0
            go_wp2_with fail
            go_at_call 38
            refine HM.out.mono ?_
            rintro q w5 ⟨rfl, hb⟩
            obtain ⟨g5, hg5⟩ : ∃ g5 : Gr Wc, w5 = g5.val := g4.on hb
            have HO5 := Lib.hid (own_below HO4.out hb)
            have k0 : w5.cell? ⟨g.val.heap.size, 0, none⟩ = some (.int .i64 y1) := cell_old n0 hb
            subst hg5
            clear hb HO4 n0 n1 n2
            go_upto_region 15 with fail
            obtain ⟨g6, hg6⟩ : ∃ g6 : Gr Wc, g5.val.alloc (.cells #[.int .i64 0, .int .i64 0] 34) = g6.val := g5.up0
            have HO6 : Hid (g6.val.ownsRow Wc.heap.size 34 2 v7 P.length (sv P)) := by rw [← hg6]; exact HO5.out.alloc _
            have l0 : g6.val.cell? ⟨g.val.heap.size, 0, none⟩ = some (.int .i64 y1) := by rw [← hg6]; exact cell_old k0 ((Below.refl _ _).alloc (Nat.le_refl _) _)
            have r0 : g6.val.cell? ⟨g5.val.heap.size, 0, none⟩ = some (.int .i64 0) := by rw [← hg6]; simp [go_sem]
            have r1 : g6.val.cell? ⟨g5.val.heap.size, 1, none⟩ = some (.int .i64 0) := by rw [← hg6]; simp [go_sem]
            rw [hg6]
            clear hg6 HO5 k0
            go_wp2_with fail
            go_roundw
            case rel => exact ⟨k + 1, P, v7, g6, rfl, hkt, by go_num, rfl, HO6, by show _ = _; rw [HN.out]; simp⟩
            case measure => simp [intOf]; omega
          | some m =>
            rw [hmb] at HM HSE
            obtain ⟨m1, m2⟩ := m
            simp only at HSE
            cases hmt : meetB (m1, m2) (x1, x2) with
            | false =>
             as_aux_lemma =>
              rw [hmt] at HSE
              have HN := Lib.hid (HST.out none (by rw [HFK, HSE]; split <;> rfl))
              have HMm := Lib.hid (fun w => HMT.out w m1 m2)
              rw [hmt] at HMm
              clear HST HSE HFK hmb hmt hmx hby HI0
              go_wp2_with fail
              go_at_call 38
              refine HM.out.mono ?_
              rintro q w5 ⟨rfl, hb⟩
              obtain ⟨g5, hg5⟩ : ∃ g5 : Gr Wc, w5 = g5.val := g4.on hb
              have HO5 := Lib.hid (own_below HO4.out hb)
              have k0 : w5.cell? ⟨g.val.heap.size, 0, none⟩ = some (.int .i64 y1) := cell_old n0 hb
              subst hg5
              clear hb HO4 n0 n1 n2
              go_upto_region 15 with fail
              obtain ⟨g6, hg6⟩ : ∃ g6 : Gr Wc, g5.val.alloc (.cells #[.int .i64 m1, .int .i64 m2] 34) = g6.val := g5.up0
              have HO6 : Hid (g6.val.ownsRow Wc.heap.size 34 2 v7 P.length (sv P)) := by rw [← hg6]; exact HO5.out.alloc _
              have l0 : g6.val.cell? ⟨g.val.heap.size, 0, none⟩ = some (.int .i64 y1) := by rw [← hg6]; exact cell_old k0 ((Below.refl _ _).alloc (Nat.le_refl _) _)
              have r0 : g6.val.cell? ⟨g5.val.heap.size, 0, none⟩ = some (.int .i64 m1) := by rw [← hg6]; simp [go_sem]
              have r1 : g6.val.cell? ⟨g5.val.heap.size, 1, none⟩ = some (.int .i64 m2) := by rw [← hg6]; simp [go_sem]
              rw [hg6]
              clear hg6 HO5 k0
              go_wp2_with fail
              go_at_call 39
              refine (HMm.out _).mono ?_
              rintro q w8 ⟨rfl, hb⟩
              obtain ⟨g8, hg8⟩ : ∃ g8 : Gr Wc, w8 = g8.val := g6.on hb
              have HO8 := Lib.hid (own_below HO6.out hb)
              have t0 : w8.cell? ⟨g.val.heap.size, 0, none⟩ = some (.int .i64 y1) := cell_old l0 hb
              have p0 : w8.cell? ⟨g5.val.heap.size, 0, none⟩ = some (.int .i64 m1) := cell_old r0 hb
              have p1 : w8.cell? ⟨g5.val.heap.size, 1, none⟩ = some (.int .i64 m2) := cell_old r1 hb
              subst hg8
              clear hb HO6 l0 r0 r1
              go_wp2_with fail
              go_roundw
              case rel => exact ⟨k + 1, P, v7, g8, rfl, hkt, by go_num, rfl, HO8, by show _ = _; rw [HN.out]; simp⟩
              case measure => simp [intOf]; omega
            | true =>
              rw [hmt] at HSE
              have HMm := Lib.hid (fun w => HMT.out w m1 m2)
              rw [hmt] at HMm
              cases qa with
              | false =>
               as_aux_lemma =>
                have HN := Lib.hid (HST.out none (by rw [HFK]; rfl))
                clear HST HSE HFK hmb hmt hmx hby
                go_wp2_with fail
                go_at_call 38
                refine HM.out.mono ?_
                rintro q w5 ⟨rfl, hb⟩
                obtain ⟨g5, hg5⟩ : ∃ g5 : Gr Wc, w5 = g5.val := g4.on hb
                have HO5 := Lib.hid (own_below HO4.out hb)
                have k0 : w5.cell? ⟨g.val.heap.size, 0, none⟩ = some (.int .i64 y1) := cell_old n0 hb
                subst hg5
                clear hb HO4 n0 n1 n2
                go_upto_region 15 with fail
                obtain ⟨g6, hg6⟩ : ∃ g6 : Gr Wc, g5.val.alloc (.cells #[.int .i64 m1, .int .i64 m2] 34) = g6.val := g5.up0
                have HO6 : Hid (g6.val.ownsRow Wc.heap.size 34 2 v7 P.length (sv P)) := by rw [← hg6]; exact HO5.out.alloc _
                have l0 : g6.val.cell? ⟨g.val.heap.size, 0, none⟩ = some (.int .i64 y1) := by rw [← hg6]; exact cell_old k0 ((Below.refl _ _).alloc (Nat.le_refl _) _)
                have r0 : g6.val.cell? ⟨g5.val.heap.size, 0, none⟩ = some (.int .i64 m1) := by rw [← hg6]; simp [go_sem]
                have r1 : g6.val.cell? ⟨g5.val.heap.size, 1, none⟩ = some (.int .i64 m2) := by rw [← hg6]; simp [go_sem]
                rw [hg6]
                clear hg6 HO5 k0
                go_wp2_with fail
                go_at_call 39
                refine (HMm.out _).mono ?_
                rintro q w8 ⟨rfl, hb⟩
                obtain ⟨g8, hg8⟩ : ∃ g8 : Gr Wc, w8 = g8.val := g6.on hb
                have HO8 := Lib.hid (own_below HO6.out hb)
                have t0 : w8.cell? ⟨g.val.heap.size, 0, none⟩ = some (.int .i64 y1) := cell_old l0 hb
                have p0 : w8.cell? ⟨g5.val.heap.size, 0, none⟩ = some (.int .i64 m1) := cell_old r0 hb
                have p1 : w8.cell? ⟨g5.val.heap.size, 1, none⟩ = some (.int .i64 m2) := cell_old r1 hb
                subst hg8
                clear hb HO6 l0 r0 r1
                have HI := Lib.hid (HI0.out g8)
                go_wp2_with fail
                go_at_call 40
                refine HI.out.mono ?_
                rintro q w9 ⟨rfl, hb⟩
                obtain ⟨g9, hg9⟩ : ∃ g9 : Gr Wc, w9 = g9.val := g8.on hb
                have HO9 := Lib.hid (own_below HO8.out hb)
                have a0 : w9.cell? ⟨g5.val.heap.size, 0, none⟩ = some (.int .i64 m1) := cell_old p0 hb
                have a1 : w9.cell? ⟨g5.val.heap.size, 1, none⟩ = some (.int .i64 m2) := cell_old p1 hb
                subst hg9
                clear hb HO8 t0 p0 p1
                go_wp2_with fail
                go_roundw
                case rel => exact ⟨k + 1, P, v7, g9, rfl, hkt, by go_num, rfl, HO9, by show _ = _; rw [HN.out]; simp⟩
                case measure => simp [intOf]; omega
              | true =>
               as_aux_lemma =>
                have HN := Lib.hid (HST.out (some (m1, m2)) (by rw [HFK, HSE]; rfl))
                clear HST HSE HFK hmb hmt
                go_wp2_with fail
                go_at_call 38
                refine HM.out.mono ?_
                rintro q w5 ⟨rfl, hb⟩
                obtain ⟨g5, hg5⟩ : ∃ g5 : Gr Wc, w5 = g5.val := g4.on hb
                have HO5 := Lib.hid (own_below HO4.out hb)
                have k0 : w5.cell? ⟨g.val.heap.size, 0, none⟩ = some (.int .i64 y1) := cell_old n0 hb
                subst hg5
                clear hb HO4 n0 n1 n2
                go_upto_region 15 with fail
                obtain ⟨g6, hg6⟩ : ∃ g6 : Gr Wc, g5.val.alloc (.cells #[.int .i64 m1, .int .i64 m2] 34) = g6.val := g5.up0
                have HO6 : Hid (g6.val.ownsRow Wc.heap.size 34 2 v7 P.length (sv P)) := by rw [← hg6]; exact HO5.out.alloc _
                have l0 : g6.val.cell? ⟨g.val.heap.size, 0, none⟩ = some (.int .i64 y1) := by rw [← hg6]; exact cell_old k0 ((Below.refl _ _).alloc (Nat.le_refl _) _)
                have r0 : g6.val.cell? ⟨g5.val.heap.size, 0, none⟩ = some (.int .i64 m1) := by rw [← hg6]; simp [go_sem]
                have r1 : g6.val.cell? ⟨g5.val.heap.size, 1, none⟩ = some (.int .i64 m2) := by rw [← hg6]; simp [go_sem]
                rw [hg6]
                clear hg6 HO5 k0
                go_wp2_with fail
                go_at_call 39
                refine (HMm.out _).mono ?_
                rintro q w8 ⟨rfl, hb⟩
                obtain ⟨g8, hg8⟩ : ∃ g8 : Gr Wc, w8 = g8.val := g6.on hb
                have HO8 := Lib.hid (own_below HO6.out hb)
                have t0 : w8.cell? ⟨g.val.heap.size, 0, none⟩ = some (.int .i64 y1) := cell_old l0 hb
                have p0 : w8.cell? ⟨g5.val.heap.size, 0, none⟩ = some (.int .i64 m1) := cell_old r0 hb
                have p1 : w8.cell? ⟨g5.val.heap.size, 1, none⟩ = some (.int .i64 m2) := cell_old r1 hb
                subst hg8
                clear hb HO6 l0 r0 r1
                have HI := Lib.hid (HI0.out g8)
                go_wp2_with fail
                go_at_call 40
                refine HI.out.mono ?_
                rintro q w9 ⟨rfl, hb⟩
                obtain ⟨g9, hg9⟩ : ∃ g9 : Gr Wc, w9 = g9.val := g8.on hb
                have HO9 := Lib.hid (own_below HO8.out hb)
                have a0 : w9.cell? ⟨g5.val.heap.size, 0, none⟩ = some (.int .i64 m1) := cell_old p0 hb
                have a1 : w9.cell? ⟨g5.val.heap.size, 1, none⟩ = some (.int .i64 m2) := cell_old p1 hb
                subst hg9
                clear hb HO8 t0 p0 p1
                have HGS := Lib.hid g9.size
                go_wp2_with (refine wpList_append_lies _ rfl _ _ _ (by rfl) Wc.heap.size 34 i0 _ 2 16 Tryz.underlying38 hi0 hq0 hq1 hq2 rfl (by decide) v7 P.length _ (by rfl) (HO9.out.alloc _) ⟨g9.val.heap.size, 0, none⟩ 1 1 [.int .i64 m1, .int .i64 m2] (by rfl) (by rfl) (World.news_of_block (cs := #[.int .i64 m1, .int .i64 m2]) (t := 34) (fr := (0, 0)) (heap_alloc_new _ _)) (by simp [Value.oneCell']) (Nat.lt_succ_self 0) hmx hby (by simp; have := HGS.out; omega) _ rfl ?_; intro gg cap2 w10 hown5 hgr5 hat5 hlt5)
                have hB6 : Below Wc.heap.size Wc w10 := (g9.ok.alloc HGS.out _).grown hgr5 (by simp; have := HGS.out; omega) (fun kk hk => (HO9.out.lt kk hk).1)
                have HO10 : Hid (w10.ownsRow Wc.heap.size 34 2 (.slice (some ⟨gg, 0, none⟩) (P.length + 1) cap2) (P ++ [(m1, m2)]).length (sv (P ++ [(m1, m2)]))) := by show World.ownsRow _ _ _ _ _ _ _; rw [sv_app, List.length_append]; exact hown5
                obtain ⟨g10, rfl⟩ := Gr.of hB6
                clear hown5 hgr5 hat5 hB6 hlt5 a0 a1
                go_roundw
                case rel => exact ⟨k + 1, P ++ [(m1, m2)], _, g10, rfl, hkt, by go_num, rfl, HO10, by show _ = _; rw [HN.out]; rfl⟩
                case measure => simp [intOf]; omega
        · as_aux_lemma =>
          obtain rfl : k = ch.length := by omega
          have HP1 : Hid (P = rv T) := by show _ = _; rw [HP.out, List.take_length, HROW.out, HL1.out]
          have HLL : Hid (P.length ≤ 1000000) := by
            show _ ≤ _
            rw [HP.out, List.length_append, List.take_length]
            have h1 := Nat.le_trans (List.length_filterMap_le fc ch) HCL.out
            have h2 : L.length ≤ 900000 := by rw [HL1.out]; exact Nat.le_trans (List.length_filterMap_le _ _) HTL.out
            omega
          have HSO := Lib.hid (sortSpan_any P Wc.heap.size v7 g.val HO.out HLL.out)
          have HLT := Lib.hid HO.out.lt
          obtain ⟨Av, cv7, rfl, _⟩ := Sl.of_own HO.out
          clear HP HO
          go_wp2_with fail
          go_at_call 41
          refine HSO.out.mono ?_
          rintro q wz ⟨rfl, hoz, hfz⟩
          have HZO := Lib.hid hoz
          have HZF : Hid (Below Wc.heap.size Wc wz) := g.ok.trans (hfz.toBelow g.size (fun b hb => (HLT.out b hb).1))
          clear hoz hfz HSO
          go_wp2_with fail
          go_ret
          obtain ⟨gz, hgz⟩ := Gr.of HZF.out
          have hsl := own_sl HZO.out
          have HRE : R = srt P := by rw [← HEND.out, HP1.out]
          rw [HRE]
          exact ⟨Av, cv7, by rw [srt_len]; rfl, by rw [srt_len]; exact hsl, by rw [hgz]; exact HG.out gz⟩
theorem pmembers_any (z : Zn.Z) (Z : Option Addr) (cz : Nat) (e : Evt) (A1 A2 A3 A4 A5 A6 A7 : Option Addr) (c1 c2 c3 c4 c5 c6 c7 : Nat) (x1 x2 : Int) (hw : ZWf z) (hx : e.ex.length ≤ 1000000) (hp : e.plus.length ≤ 1000000) (hc : e.ch.length ≤ 1000000) (hl : e.rule.bm.length ≤ 10000 ∧ e.rule.bd.length ≤ 10000 ∧ e.rule.bw.length ≤ 10000 ∧ e.rule.bs.length ≤ 10000)
    (hx1 : -9223372036854775808 ≤ x1 ∧ x1 ≤ 9223372036854775807) (hx2 : -9223372036854775808 ≤ x2 ∧ x2 ≤ 9223372036854775807) (w : World) (hz : ZAt w Z z) (h : EAt w e A1 A2 A3 A4 A5 A6 A7 c1 c2 c3 c4 c5 c6 c7) :
    Calls Tryz.prog 13 #[.agg #[.int .i64 z.base, .slice Z z.n cz], .agg (ecells e A1 A2 A3 A4 A5 A6 A7 c1 c2 c3 c4 c5 c6 c7), .agg #[.int .i64 x1, .int .i64 x2]] w (RetS (membersV z e (x1, x2)) w) := by
  by_cases hg : mayE e ∧ Zn.mayP z ∧ winP (x1, x2)
  · exact pmembers_all z Z cz e A1 A2 A3 A4 A5 A6 A7 c1 c2 c3 c4 c5 c6 c7 x1 x2 hw hx hp hc hl hx1 hx2 hg.1 hg.2.1 hg.2.2 w hz h
  · have : membersV z e (x1, x2) = [] := by unfold membersV; rw [if_neg hg]
    rw [this]
    exact pmembers_no z Z cz e A1 A2 A3 A4 A5 A6 A7 c1 c2 c3 c4 c5 c6 c7 x1 x2 hw hx hp hc hx1 hx2 hg w hz h
end Go.Proofs.YtfjmofefciopmaaGreat
end
