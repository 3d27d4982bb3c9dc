/- Contract of the program's hours: what is worked in a stretch in which the same is added throughout. -/
import Derived.Test.YtkfmigpdmolmaaaHP5
namespace Go.Proofs.Ytkfmigpdmolmaaa
open Go.ChangeShapes Go.WideShapes Go.ChangeAt Go.RowKit Go.Joins Hr Zn Sp

/-- A row is handed back, the old one with what is worked of a stretch. -/
def RetU (base : Nat) (v : Value) (R0 : List Spn) (h : H) (a b add : Int) (w : World) (e : Ending) (w' : World) : Prop :=
  ∃ R, RetJ base v R w e w' ∧ form R ∧ ∀ x, has R x ↔ has R0 x ∨ (a ≤ x ∧ x < b ∧ locB h (x + add) = true)
theorem Sl.offF {F : Nat → Prop} {w w' : World} {A : Option Addr} {n c : Nat} {xs : List Value} (h : Sl w A n c xs) (ho : Off F w w') (hA : 0 < xs.length → ∀ a, A = some a → ¬ F a.block) : Sl w' A n c xs := by
  refine ⟨h.le, h.cap, h.nil, fun hn => ?_⟩
  obtain ⟨b, off, e, hlt, hc⟩ := h.on hn
  exact ⟨b, off, e, Nat.lt_of_lt_of_le hlt ho.size, fun i v hi => ho.cell (hc i v hi) (hA hn _ e)⟩

set_option maxRecDepth 100000 in
set_option maxHeartbeats 4000000 in
theorem pworked_any (h : H) (T : List (Int × Int × Int)) (A1 A2 : Option Addr) (c1 c2 : Nat) (R0 : List Spn) (a b add lo : Int) (base : Nat) (v : Value) (w : World) (hm : Hr.mayH h) (hp : T.Perm h.shifts) (hT : InT T)
    (hs1 : Sl w A1 T.length c1 (tv T)) (hs2 : Sl w A2 h.off.length c2 (iv h.off)) (hA1 : 0 < (tv T).length → ∀ ad, A1 = some ad → v.ownBlock ≠ some ad.block) (hA2 : 0 < (iv h.off).length → ∀ ad, A2 = some ad → v.ownBlock ≠ some ad.block)
    (hown : w.ownsRow base 30 2 v R0.length (sv R0)) (hbase : base ≤ w.heap.size) (ha : 0 ≤ lo ∧ lo ≤ a ∧ a < b ∧ b ≤ 158310720 ∧ b - lo ≤ 1000000) (hadd : -900 ≤ add ∧ add ≤ 900) (hf : form R0) (hR : ∀ x, has R0 x → lo ≤ x ∧ x < a) :
    Calls Try.prog 28 #[v, .agg #[.slice A1 T.length c1, .slice A2 h.off.length c2], .agg #[.int .i64 a, .int .i64 b], .int .i64 add] w (RetU base v R0 h a b add w) := by
  obtain ⟨W1, hW1⟩ : ∃ W1, (w.alloc (.cells #[.slice A1 T.length c1, .slice A2 h.off.length c2] 28)).alloc (.cells #[.int .i64 a, .int .i64 b] 30) = W1 := ⟨_, rfl⟩
  have hB : Below w.heap.size w W1 := by rw [← hW1]; exact ((Below.refl _ _).alloc (Nat.le_refl _) _).alloc (by simp) _
  have hvb : ∀ k, v.ownBlock = some k → k < w.heap.size := fun k hk => (hown.lt k hk).2
  have hZ0 : ∀ G : World, Off (fun k => v.ownBlock = some k) W1 G → G.cell? ⟨w.heap.size, 0, none⟩ = some (.slice A1 T.length c1) ∧ G.cell? ⟨w.heap.size, 1, none⟩ = some (.slice A2 h.off.length c2) ∧ G.cell? ⟨w.heap.size + 1, 0, none⟩ = some (.int .i64 a) ∧ G.cell? ⟨w.heap.size + 1, 1, none⟩ = some (.int .i64 b) := fun G ho => by
    refine ⟨ho.cell ?_ fun q => ?_, ho.cell ?_ fun q => ?_, ho.cell ?_ fun q => ?_, ho.cell ?_ fun q => ?_⟩
    all_goals first | (have := hvb _ q; omega) | (rw [← hW1]; simp [go_sem])
  have hO1 := own_off hown (F := fun _ => False) (.of_below hB) (fun _ _ => id)
  have hsz : W1.heap.size = w.heap.size + 2 := by rw [← hW1]; simp
  have hTm : ∀ s ∈ T, okS s := fun s hs => hm.2.2.1 s (hp.mem_iff.1 hs)
  have hTl : T.length ≤ 10 := by rw [hp.length_eq]; exact hm.1
  have hS1 : ∀ G : World, Off (fun k => v.ownBlock = some k) W1 G → Sl G A1 T.length c1 (tv T) := fun G ho => (hs1.below hB (Nat.le_refl _)).offF ho (fun hn ad e => hA1 hn ad e)
  have hOff : ∀ (G : World) (d : Int), Off (fun k => v.ownBlock = some k) W1 G → Calls Try.prog 33 #[.agg #[.slice A1 T.length c1, .slice A2 h.off.length c2], .int .i64 d] G fun e w' => e = .returned (.bool (h.off.any fun y => decide (y = d))) ∧ Below G.heap.size G w' := fun G d ho =>
    isOff_any h A1 A2 c1 c2 d G ((hs2.below hB (Nat.le_refl _)).offF ho (fun hn ad e => hA2 hn ad e)) T.length
  obtain ⟨la, hla⟩ : ∃ la, dyI (b - 1 + add) = la := ⟨_, rfl⟩
  obtain ⟨d0, hd0⟩ : ∃ d0, dyI (a + add) = d0 := ⟨_, rfl⟩
  have hlab : -2 ≤ la ∧ la ≤ 110000 := by unfold dyI at hla; omega
  have hd0b : -2 ≤ d0 ∧ d0 ≤ la := by unfold dyI at hla hd0; omega
  have HD1 : Hid (∀ w : World, Calls Try.prog 31 #[.int .i64 (b - 1 + add)] w fun e w' => e = .returned (.int .i64 la) ∧ w = w') := fun w => by rw [← hla]; exact pdayOf_any (b - 1 + add) (by omega) w
  have HD2 : Hid (∀ w : World, Calls Try.prog 31 #[.int .i64 (a + add)] w fun e w' => e = .returned (.int .i64 d0) ∧ w = w') := fun w => by rw [← hd0]; exact pdayOf_any (a + add) (by omega) w
  have hst : DayR R0 h a b add d0 R0 := by rw [← hd0]; exact DayR.start hf
  have HST := Lib.hid hst
  have hend : ∀ d R, la < d → DayR R0 h a b add d R → ∀ x, has R x ↔ has R0 x ∨ (a ≤ x ∧ x < b ∧ locB h (x + add) = true) := fun d R hd q => q.ends (by rw [hla]; exact hd)
  have HEND := Lib.hid hend
  have HZ0 := Lib.hid hZ0
  have HS1 := Lib.hid hS1
  have HOff := Lib.hid hOff
  have HO1 := Lib.hid hO1
  have HSZ := Lib.hid hsz
  have HTm := Lib.hid hTm
  have HP := Lib.hid hp
  have HT := Lib.hid hT
  have HR := Lib.hid hR
  have HB := Lib.hid hB
  have HBS := Lib.hid hbase
  have HVB := Lib.hid hvb
  have E1 := Lib.hid hW1
  have HLO : Hid (0 ≤ lo ∧ lo ≤ a ∧ a < b ∧ b - lo ≤ 1000000) := ⟨ha.1, ha.2.1, ha.2.2.1, ha.2.2.2.2⟩
  have HLN : Hid (∀ R : List Spn, form R → (∀ x, has R x → lo ≤ x ∧ x < b) → R.length ≤ 10000000) := fun R hf hx => by
    have := len_in hf (by omega) hx
    omega
  obtain ⟨k1, k2, k3, k4⟩ := hZ0 W1 (Off.refl _ _)
  have ha1 : 0 ≤ a := by omega
  have hb1 : b ≤ 158310720 := ha.2.2.2.1
  have hab : a < b := ha.2.2.1
  have hTlz : (T.length : Int) ≤ 10 := by omega
  clear hZ0 hS1 hOff hO1 hTm hR hB hbase hW1 hs1 hs2 hA1 hA2 hown hst hend hla hd0 hT hp hm hvb hf hTl ha
  go_enter Try.func28, Try.ntmps28
  go_upto_region 1 with fail
  rw [E1.out]
  go_wp2_with fail
  go_at_call 31
  refine (HD1.out _).mono ?_
  rintro e w' ⟨rfl, rfl⟩
  go_wp2_with fail
  go_at_call 31
  refine (HD2.out _).mono ?_
  rintro e w' ⟨rfl, rfl⟩
  clear k1 k2 k3 k4 HD1 HD2
  go_wp2_with fail
  go_loopw [0, 10] (fun s0 s10 wr => ∃ (d : Int) (R : List Spn), s10 = .int .i64 d ∧ d0 ≤ d ∧ d ≤ la + 1 ∧ Hid (Off (fun k => v.ownBlock = some k) W1 wr) ∧ Hid (wr.ownsRow base 30 2 s0 R.length (sv R)) ∧ Hid (∀ k, s0.ownBlock = some k → v.ownBlock = some k ∨ W1.heap.size ≤ k) ∧ Hid (DayR R0 h a b add d R)) (fun _ s10 _ => (la + 1 - intOf s10).toNat)
  case atStart => exact ⟨d0, R0, rfl, Int.le_refl _, by omega, Off.refl _ _, HO1.out, fun k hk => .inl hk, HST.out⟩
  case round =>
    obtain ⟨d, R, rfl, hd1, hd2, HF, HO, HV, HDR⟩ := hrel
    obtain ⟨k1, k2, k3, k4⟩ := HZ0.out wr HF.out
    by_cases hle : d ≤ la
    · have hC := Lib.hid (HOff.out wr d HF.out)
      have hw1 : IntKind.i64.wrap (d + 1) = d + 1 := by rw [IntKind.wrap_i64]; omega
      have HOA : Hid (∀ bb, (h.off.any fun y => decide (y = d)) = bb → bb = true → DayR R0 h a b add (d + 1) R) := fun bb h1 h2 => HDR.out.off (by rw [h1, h2])
      obtain ⟨bb, hbb⟩ : ∃ bb, (h.off.any fun y => decide (y = d)) = bb := ⟨_, rfl⟩
      rw [hbb] at hC
      have HBB := Lib.hid hbb
      clear hbb
      cases bb with
      | true =>
        have HDR2 := Lib.hid (HOA.out true HBB.out rfl)
        clear HOA
        go_wp2_with fail
        go_at_call 33
        refine hC.out.mono ?_
        rintro e w2 ⟨rfl, hb⟩
        have HF2 : Hid (Off (fun k => v.ownBlock = some k) W1 w2) := HF.out.trans' (.of_below hb)
        have HO2 := Lib.hid (own_off HO.out (F := fun _ => False) (.of_below hb) (fun _ _ => id))
        clear hb k1 k2 k3 k4 HF HO HDR
        go_wp2_with fail
        go_roundw
        case rel => exact ⟨d + 1, R, by go_num, by omega, by omega, HF2, HO2, HV, HDR2⟩
        case measure => simp [intOf]; omega
      | false =>
        clear HOA
        obtain ⟨M, hM⟩ : ∃ M, d * 1440 - add = M := ⟨_, rfl⟩
        have HM := Lib.hid hM
        have hMb : -200000000 ≤ M ∧ M ≤ 200000000 := by omega
        have HMd := Lib.hid (fun w : World => pmidnight_any d (by omega) w)
        have HSR : Hid (ShiftR R0 h T a b add d 0 R) := HDR.out.shifts (fun x hx => (HR.out x hx).2) (fun s hs => (HTm.out s hs).2.2.1)
        go_wp2_with fail
        go_at_call 33
        refine hC.out.mono ?_
        rintro e w2 ⟨rfl, hb⟩
        have HF2 : Hid (Off (fun k => v.ownBlock = some k) W1 w2) := HF.out.trans' (.of_below hb)
        have HO2 := Lib.hid (own_off HO.out (F := fun _ => False) (.of_below hb) (fun _ _ => id))
        clear hb k1 k2 k3 k4 HF HO HDR
        obtain ⟨k1, k2, k3, k4⟩ := HZ0.out w2 HF2.out
        go_wp2_with fail
        go_at_call 32
        refine (HMd.out _).mono ?_
        rintro e w3 ⟨rfl, rfl⟩
        go_wp2_with fail
        clear hM
        go_loopw [0, 42] (fun s0 s42 wr => ∃ (k : Nat) (R : List Spn), s42 = .int .i64 k ∧ k ≤ T.length ∧ Hid (Off (fun k => v.ownBlock = some k) W1 wr) ∧ Hid (wr.ownsRow base 30 2 s0 R.length (sv R)) ∧ Hid (∀ k, s0.ownBlock = some k → v.ownBlock = some k ∨ W1.heap.size ≤ k) ∧ Hid (ShiftR R0 h T a b add d k R)) (fun _ s42 _ => T.length - (intOf s42).toNat)
        case atStart => exact ⟨0, R, rfl, Nat.zero_le _, HF2, HO2, HV, HSR⟩
        case round =>
          clear k1 k2 k3 k4 HF2 HO2 HSR HV
          obtain ⟨k, R, rfl, hk, HF, HO, HV, HSR⟩ := hrel
          obtain ⟨k1, k2, k3, k4⟩ := HZ0.out wr HF.out
          by_cases hlt : k < T.length
          · have hkz : (k : Int) < T.length := by omega
            have hw2 : IntKind.i64.wrap ((k : Int) + 1) = k + 1 := by rw [IntKind.wrap_i64]; omega
            obtain ⟨s, hs⟩ : ∃ s, T[k]? = some s := ⟨_, List.getElem?_eq_getElem hlt⟩
            obtain ⟨ab, ao, rfl, hbs, g1, g2, g3⟩ := (HS1.out wr HF.out).shift hs
            have hok := HTm.out s (List.mem_of_getElem? hs)
            obtain ⟨ds, f, t⟩ := s
            unfold okS at hok
            simp only at g1 g2 g3 hok
            have HSK : Hid (bitB ds ((d + 7) % 7).toNat = false ∨ ¬ max (M + f) a < min (M + t) b → ShiftR R0 h T a b add d (k + 1) R) := fun q => HSR.out.skip hs ⟨hok.2.2.1, hok.2.2.2.2⟩ (by simp only; rw [HM.out]; exact q)
            have HSJ : Hid (bitB ds ((d + 7) % 7).toNat = true → max (M + f) a < min (M + t) b → ShiftR R0 h T a b add d (k + 1) (jn R (max (M + f) a, min (M + t) b))) := fun q1 q2 => by
              have := HSR.out.join HT.out hs ⟨hok.2.2.1, hok.2.2.2.2⟩ q1 (by simp only; rw [HM.out]; exact q2)
              simp only at this
              rwa [HM.out] at this
            have HLEN : Hid (R.length ≤ 10000000) := HLN.out R HSR.out.form (fun x hx => by
              have h1 := HLO.out
              rcases (HSR.out.has x).1 hx with (q | q) | q
              · have := HR.out x q; omega
              · omega
              · omega)
            have HIS := Lib.hid (fun w : World => isOn_any ds f t d ⟨hok.1, hok.2.1⟩ w)
            obtain ⟨x1, hx1⟩ : ∃ x1, max (M + f) a = x1 := ⟨_, rfl⟩
            obtain ⟨x2, hx2⟩ : ∃ x2, min (M + t) b = x2 := ⟨_, rfl⟩
            rw [hx1, hx2] at HSK HSJ
            have q1 : (if M + f < a then a else M + f) = x1 := by split <;> omega
            have q2 : (if b < M + t then b else M + t) = x2 := by split <;> omega
            have q3 : (if M + t < b then M + t else b) = x2 := by split <;> omega
            have wf : IntKind.i64.wrap (M + f) = M + f := by rw [IntKind.wrap_i64]; omega
            have wt : IntKind.i64.wrap (M + t) = M + t := by rw [IntKind.wrap_i64]; omega
            obtain ⟨bt, hbt⟩ : ∃ bt, bitB ds ((d + 7) % 7).toNat = bt := ⟨_, rfl⟩
            rw [hbt] at HSK HSJ HIS
            have hways : bt = false ∨ bt = true ∧ decide (x1 < x2) = false ∨ bt = true ∧ decide (x1 < x2) = true := by cases bt <;> cases decide (x1 < x2) <;> simp
            clear hs hbt hx1 hx2 hok HSR
            go_upto_region 10 with fail
            obtain ⟨G, hG⟩ : ∃ G, wr.alloc (.cells #[.int .i64 ds, .int .i64 f, .int .i64 t] 44) = G := ⟨_, rfl⟩
            have hBG : Below wr.heap.size wr G := by rw [← hG]; exact (Below.refl _ _).alloc (Nat.le_refl _) _
            have p0 : G.cell? ⟨wr.heap.size, 0, none⟩ = some (.int .i64 ds) := by rw [← hG]; simp [go_sem]
            have p1 : G.cell? ⟨wr.heap.size, 1, none⟩ = some (.int .i64 f) := by rw [← hG]; simp [go_sem]
            have p2 : G.cell? ⟨wr.heap.size, 2, none⟩ = some (.int .i64 t) := by rw [← hG]; simp [go_sem]
            have HFG : Hid (Off (fun k => v.ownBlock = some k) W1 G) := HF.out.trans' (.of_below hBG)
            have HOG := Lib.hid (own_off HO.out (F := fun _ => False) (.of_below hBG) (fun _ _ => id))
            rw [hG]
            clear hG hBG HF HO k1 k2 k3 k4 g1 g2 g3
            obtain ⟨k1, k2, k3, k4⟩ := HZ0.out G HFG.out
            rcases hways with rfl | ⟨rfl, hx⟩ | ⟨rfl, hx⟩
            case inr.inr =>
              have HSR2 := Lib.hid (HSJ.out rfl (of_decide_eq_true hx))
              clear HSJ HSK
              go_wp2_with fail
              go_at_call 35
              refine (HIS.out _).mono ?_
              rintro e w5 ⟨rfl, hb⟩
              have HF5 : Hid (Off (fun k => v.ownBlock = some k) W1 w5) := HFG.out.trans' (.of_below hb)
              have HO5 := Lib.hid (own_off HOG.out (F := fun _ => False) (.of_below hb) (fun _ _ => id))
              clear hb HFG HOG p0 p1 p2 k1 k2 k3 k4
              have HJ := Lib.hid (pjoin_any R (x1, x2) base _ w5 HO5.out (by have h1 := HF5.out.size; have h2 := HBS.out; omega) HLEN.out)
              go_wp2_with fail
              go_at_call 45
              refine HJ.out.mono ?_
              rintro e w6 ⟨v', rfl, hown', hblk', hoff'⟩
              have HF6 : Hid (Off (fun k => v.ownBlock = some k) W1 w6) := HF5.out.trans hoff' (fun b hb => HV.out b hb)
              have HO6 := Lib.hid hown'
              have HV6 : Hid (∀ k, v'.ownBlock = some k → v.ownBlock = some k ∨ W1.heap.size ≤ k) := fun k hk => by
                rcases hblk' k hk with q | q
                · exact HV.out k q
                · have := HF5.out.size; exact .inr (by omega)
              clear hown' hblk' hoff'
              go_wp2_with fail
              go_roundw
              case rel => exact ⟨k + 1, _, by go_num, hlt, HF6, HO6, HV6, HSR2⟩
              case measure => simp [intOf]; omega
            all_goals
              have HSR2 : Hid (ShiftR R0 h T a b add d (k + 1) R) := HSK.out (by first | exact .inl rfl | exact .inr (of_decide_eq_false hx))
              clear HSJ HSK
              go_wp2_with fail
              go_at_call 35
              refine (HIS.out _).mono ?_
              rintro e w5 ⟨rfl, hb⟩
              have HF5 : Hid (Off (fun k => v.ownBlock = some k) W1 w5) := HFG.out.trans' (.of_below hb)
              have HO5 := Lib.hid (own_off HOG.out (F := fun _ => False) (.of_below hb) (fun _ _ => id))
              clear hb HFG HOG p0 p1 p2 k1 k2 k3 k4
              go_wp2_with fail
              go_roundw
              case rel => exact ⟨k + 1, R, by go_num, hlt, HF5, HO5, HV, HSR2⟩
              case measure => simp [intOf]; omega
          · obtain rfl : k = T.length := by omega
            have HDR2 : Hid (DayR R0 h a b add (d + 1) R) := HSR.out.ends HP.out HBB.out
            clear HSR
            go_wp2_with fail
            go_roundw
            case rel => exact ⟨d + 1, R, by go_num, by omega, by omega, HF, HO, HV, HDR2⟩
            case measure => simp [intOf]; omega
    · have hE := Lib.hid (HEND.out d R (by omega) HDR.out)
      go_wp2_with fail
      go_ret
      refine ⟨R, ⟨_, rfl, HO.out, fun k hk => ?_, (Off.of_below (F := fun k => v.ownBlock = some k) HB.out).trans' HF.out⟩, HDR.out.form, hE.out⟩
      rcases HV.out k hk with q | q
      · exact .inl q
      · exact .inr (by omega)
end Go.Proofs.Ytkfmigpdmolmaaa
