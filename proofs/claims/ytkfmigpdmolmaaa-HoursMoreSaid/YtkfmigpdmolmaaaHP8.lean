/- Contract of the program's hours: the minutes of a window that are worked, where hours, zone, and window may be. -/
import Derived.Test.YtkfmigpdmolmaaaHP7
namespace Go.Proofs.Ytkfmigpdmolmaaa
open Go.ChangeShapes Go.WideShapes Go.ChangeAt Go.RowKit Go.Joins Hr Zn Sp

theorem off_same12 {z : Z} (hp : mayP z) {u v : Int} (hv : u ≤ v) (h : fb z u < z.n → v < z.t (fb z u)) : Zn.off z v = Zn.off z u := by
  rw [off_eq hp, off_eq hp]
  congr 1
  exact fb_eq (fb_le z u) (fun i hi => by have := fb_no hi; omega) h
theorem own_keep {w w' : World} {base size n : Nat} {t : TypeId} {v : Value} {xs : List Value} (h : w.ownsRow base t size v n xs) (hb : Below w.heap.size w w') : w'.ownsRow base t size v n xs :=
  own_off h (Off.of_below hb (F := fun _ => False)) (fun _ _ => id)
theorem own_is {w : World} {base size : Nat} {e : TypeId} {A : Option Addr} {n c : Nat} {xs : List Value} (h : w.ownsRow base e size (.slice A n c) n xs) : Sl w A n c xs := by
  obtain ⟨A', c', e', hs⟩ := Sl.of_own h
  simp only [Value.slice.injEq, true_and] at e'
  obtain ⟨rfl, rfl⟩ := e'
  exact hs
/-- Three boxes, whole. -/
structure Bx12 (W : World) (n : Nat) (z : Z) (A : Option Addr) (c : Nat) (A1 A2 : Option Addr) (n1 n2 c1 c2 : Nat) (a b : Int) : Prop where
  z : W.heap[n]? = some (.cells #[.int .i64 z.base, .slice A z.n c] 24 (0, 0))
  h : W.heap[n + 1]? = some (.cells #[.slice A1 n1 c1, .slice A2 n2 c2] 28 (0, 0))
  s : W.heap[n + 2]? = some (.cells #[.int .i64 a, .int .i64 b] 30 (0, 0))
theorem Bx12.below {W W' : World} {n : Nat} {z : Z} {A : Option Addr} {c : Nat} {A1 A2 : Option Addr} {n1 n2 c1 c2 : Nat} {a b : Int} (h : Bx12 W n z A c A1 A2 n1 n2 c1 c2 a b) (hb : Below W.heap.size W W') : Bx12 W' n z A c A1 A2 n1 n2 c1 c2 a b :=
  ⟨blk_below h.z hb, blk_below h.h hb, blk_below h.s hb⟩
theorem Bx12.off {F : Nat → Prop} {W W' : World} {n : Nat} {z : Z} {A : Option Addr} {c : Nat} {A1 A2 : Option Addr} {n1 n2 c1 c2 : Nat} {a b : Int} (h : Bx12 W n z A c A1 A2 n1 n2 c1 c2 a b) (ho : Off F W W') (hF : ∀ k, k < n + 3 → ¬ F k) : Bx12 W' n z A c A1 A2 n1 n2 c1 c2 a b :=
  ⟨ho.heap h.z (hF _ (by omega)), ho.heap h.h (hF _ (by omega)), ho.heap h.s (hF _ (by omega))⟩
theorem Bx12.cells {W : World} {n : Nat} {z : Z} {A : Option Addr} {c : Nat} {A1 A2 : Option Addr} {n1 n2 c1 c2 : Nat} {a b : Int} (h : Bx12 W n z A c A1 A2 n1 n2 c1 c2 a b) :
    W.cell? ⟨n, 0, none⟩ = some (.int .i64 z.base) ∧ W.cell? ⟨n, 1, none⟩ = some (.slice A z.n c) ∧ W.cell? ⟨n + 1, 0, none⟩ = some (.slice A1 n1 c1) ∧ W.cell? ⟨n + 1, 1, none⟩ = some (.slice A2 n2 c2) ∧ W.cell? ⟨n + 2, 0, none⟩ = some (.int .i64 a) ∧ W.cell? ⟨n + 2, 1, none⟩ = some (.int .i64 b) ∧ ∀ i, W.frozen? ⟨n + 1, i, none⟩ = false :=
  ⟨blk_cell h.z rfl, blk_cell h.z rfl, blk_cell h.h rfl, blk_cell h.h rfl, blk_cell h.s rfl, blk_cell h.s rfl, fun i => blk_free h.h i⟩
theorem Bx12.set {W : World} {n : Nat} {z : Z} {A : Option Addr} {c : Nat} {A1 A2 : Option Addr} {n1 n2 c1 c2 : Nat} {a b : Int} (h : Bx12 W n z A c A1 A2 n1 n2 c1 c2 a b) (A1' : Option Addr) (n1' c1' : Nat) : Bx12 (W.setCell ⟨n + 1, 0, none⟩ (.slice A1' n1' c1')) n z A c A1' A2 n1' n2 c1' c2 a b :=
  ⟨by rw [Below.heap_setCell _ _ _ _ (show n ≠ n + 1 by omega)]; exact h.z, by have := block_setCell (i := 0) h.h (.slice A1' n1' c1'); simpa using this, by rw [Below.heap_setCell _ _ _ _ (show n + 2 ≠ n + 1 by omega)]; exact h.s⟩

set_option maxRecDepth 100000 in
set_option maxHeartbeats 8000000 in
theorem pspans_yes (z : Z) (A : Option Addr) (c : Nat) (h : H) (A1 A2 : Option Addr) (c1 c2 : Nat) (a b : Int) (w : World) (ha : -9223372036854775808 ≤ a ∧ a ≤ 9223372036854775807) (hb : -9223372036854775808 ≤ b ∧ b ≤ 9223372036854775807)
    (hm : Hr.mayH h) (hp : mayP z) (hwin : winP12 a b) (hzw : ZWf z) (hz : ZAt w A z) (hs : HAt w h A1 A2 c1 c2) :
    Calls Try.prog 12 #[.agg #[.int .i64 z.base, .slice A z.n c], .agg #[.slice A1 h.shifts.length c1, .slice A2 h.off.length c2], .agg #[.int .i64 a, .int .i64 b]] w (RetW a b (worksB h (Zn.off z)) w) := by
  obtain ⟨W1, hW1⟩ : ∃ W1, ((w.alloc (.cells #[.int .i64 z.base, .slice A z.n c] 24)).alloc (.cells #[.slice A1 h.shifts.length c1, .slice A2 h.off.length c2] 28)).alloc (.cells #[.int .i64 a, .int .i64 b] 30) = W1 := ⟨_, rfl⟩
  have hW0 : Below w.heap.size w W1 := by rw [← hW1]; exact (((Below.refl _ _).alloc (Nat.le_refl _) _).alloc (by simp) _).alloc (by simp; omega) _
  have hsz : W1.heap.size = w.heap.size + 3 := by rw [← hW1]; simp
  have hB1 : Bx12 W1 w.heap.size z A c A1 A2 h.shifts.length h.off.length c1 c2 a b := by
    rw [← hW1]
    refine ⟨?_, ?_, ?_⟩
    · rw [heap_alloc_old _ _ (by simp; omega), heap_alloc_old _ _ (by simp)]; exact heap_alloc_new _ _
    · rw [heap_alloc_old _ _ (by simp), show w.heap.size + 1 = (w.alloc (.cells #[.int .i64 z.base, .slice A z.n c] 24)).heap.size by simp]; exact heap_alloc_new _ _
    · rw [show w.heap.size + 2 = ((w.alloc (.cells #[.int .i64 z.base, .slice A z.n c] 24)).alloc (.cells #[.slice A1 h.shifts.length c1, .slice A2 h.off.length c2] 28)).heap.size by simp]; exact heap_alloc_new _ _
  have HM : Hid (∀ G : Gr W1, Calls Try.prog 10 #[.agg #[.slice A1 h.shifts.length c1, .slice A2 h.off.length c2]] G.val fun e w' => e = .returned (.bool true) ∧ Below G.val.heap.size G.val w') := fun G => by
    have := pmay12_any h A1 A2 c1 c2 G.val (hs.below (hW0.trans (G.ok.mono hW0.size))); rwa [may_yes hm] at this
  have HZ : Hid (∀ G : Gr W1, Calls Try.prog 21 #[.agg #[.int .i64 z.base, .slice A z.n c]] G.val fun e w' => e = .returned (.bool true) ∧ Below G.val.heap.size G.val w') := fun G => by
    have := zmay_any G.val A z c hzw (hz.below (hW0.trans (G.ok.mono hW0.size))); rwa [may_iff.2 hp] at this
  have HW : Hid (∀ G : Gr W1, Calls Try.prog 22 #[.agg #[.int .i64 a, .int .i64 b]] G.val fun e w' => e = .returned (.bool true) ∧ Below G.val.heap.size G.val w') := fun G => by
    have := pwinMay_any a b ha hb G.val; rwa [decide_eq_true hwin] at this
  have HCl := Lib.hid (fun G : Gr W1 => pcloneT_any h.shifts A1 c1 (by have := hm.1; omega) G.val (hs.below (hW0.trans (G.ok.mono hW0.size))).s1)
  have HB1 := Lib.hid hB1
  have HW0 := Lib.hid hW0
  have HSZ := Lib.hid hsz
  have HS2 := Lib.hid hs.s2
  have HZA := Lib.hid hz
  have HZW := Lib.hid hzw
  have HMM := Lib.hid hm
  have HPP := Lib.hid hp
  have E1 := Lib.hid hW1
  obtain ⟨k1, k2, k3, k4, k5, k6, k7⟩ := hB1.cells
  obtain ⟨hw1, hw2⟩ := hwin
  clear hm hp hzw hz hs hW1 hW0 hsz hB1
  go_enter Try.func12, Try.ntmps12
  go_upto_region 1 with fail
  rw [E1.out]
  go_wp2_with fail
  go_at_call 10
  refine (HM.out ⟨W1, Below.refl _ _⟩).mono ?_
  rintro e w2 ⟨rfl, hb⟩
  obtain ⟨g, rfl⟩ := Gr.of hb
  clear hb k1 k2 k3 k4 k5 k6 k7
  obtain ⟨k1, k2, k3, k4, k5, k6, k7⟩ := (HB1.out.below g.ok).cells
  go_wp2_with fail
  go_at_call 21
  refine (HZ.out g).mono ?_
  rintro e w2 ⟨rfl, hb⟩
  obtain ⟨g, rfl⟩ := g.on hb
  clear hb k1 k2 k3 k4 k5 k6 k7
  obtain ⟨k1, k2, k3, k4, k5, k6, k7⟩ := (HB1.out.below g.ok).cells
  go_wp2_with fail
  go_at_call 22
  refine (HW.out g).mono ?_
  rintro e w2 ⟨rfl, hb⟩
  obtain ⟨g, rfl⟩ := g.on hb
  clear hb k1 k2 k3 k4 k5 k6 k7
  obtain ⟨k1, k2, k3, k4, k5, k6, k7⟩ := (HB1.out.below g.ok).cells
  go_wp2_with fail
  go_at_call 23
  refine (HCl.out g).mono ?_
  rintro e w2 ⟨⟨v, rfl, hown⟩, hb⟩
  have HGS := Lib.hid g.size
  have hbl : ∀ k, v.ownBlock = some k → w.heap.size + 3 ≤ k := fun k hk => by
    have h1 := (hown.lt k hk).1; have h2 : W1.heap.size ≤ g.val.heap.size := HGS.out; have h3 := HSZ.out; omega
  obtain ⟨Av, cv, rfl, _⟩ := Sl.of_own hown
  obtain ⟨g2, rfl⟩ := g.on hb
  have hown' : g2.val.ownsRow g.val.heap.size 44 3 (.slice Av h.shifts.length cv) h.shifts.length (tv h.shifts) := hown
  clear hb k1 k2 k3 k4 k5 k6 k7
  have hbx := HB1.out.below g2.ok
  obtain ⟨k1, k2, k3, k4, k5, k6, k7⟩ := hbx.cells
  go_upto_region 4 with fail
  obtain ⟨W2, hW2⟩ : ∃ W2, g2.val.setCell ⟨w.heap.size + 1, 0, none⟩ (.slice Av h.shifts.length cv) = W2 := ⟨_, rfl⟩
  have hbx2 := hbx.set Av h.shifts.length cv
  have hown2 := ownsRow_setCell_other hown' (a := ⟨w.heap.size + 1, 0, none⟩) (fun q => by have := hbl _ q; simp only at this; omega) (.slice Av h.shifts.length cv)
  have hB2 : Below w.heap.size w (g2.val.setCell ⟨w.heap.size + 1, 0, none⟩ (.slice Av h.shifts.length cv)) := (HW0.out.trans (g2.ok.mono HW0.out.size)).setCell (p := ⟨w.heap.size + 1, 0, none⟩) (by simp) _
  rw [hW2] at hbx2 hown2 hB2 ⊢
  have HSo := Lib.hid (sortT_any h.shifts _ (.slice Av h.shifts.length cv) W2 hown2 (by have := HMM.out.1; omega))
  clear hW2 hown hown' hbx k1 k2 k3 k4 k5 k6 k7 HCl HM HZ HW
  obtain ⟨k1, k2, k3, k4, k5, k6, k7⟩ := hbx2.cells
  have HBX2 := Lib.hid hbx2
  have HBL := Lib.hid hbl
  have HB2 := Lib.hid hB2
  have HG0 : Hid (w.heap.size + 3 ≤ g.val.heap.size) := by
    show _ ≤ _
    have h2 : W1.heap.size ≤ g.val.heap.size := HGS.out
    have h3 := HSZ.out
    omega
  clear hbx2 hbl hB2 hown2
  go_wp2_with fail
  go_at_call 24
  refine HSo.out.mono ?_
  rintro e W3 ⟨rfl, ⟨T, hperm, hord, hownT⟩, hoff⟩
  have hbx3 := HBX2.out.off hoff (fun k hk q => by have := HBL.out k q; omega)
  have hB3 : Below w.heap.size w W3 := HB2.out.trans (hoff.toBelow HB2.out.size (fun k q => by have := HBL.out k q; omega))
  have hTl : h.shifts.length = T.length := hperm.length_eq.symm
  have hslT : Sl W3 Av T.length cv (tv T) := by rw [hTl] at hownT; exact own_is hownT
  rw [hTl] at hbx3
  have HBX3 := Lib.hid hbx3
  have HB3 := Lib.hid hB3
  have HST := Lib.hid hslT
  have HPE := Lib.hid hperm
  have HOR := Lib.hid hord
  clear k1 k2 k3 k4 k5 k6 k7 hperm hord hownT hoff HSo HBX2 HB2 hbx3 hB3 hslT HBL
  rw [hTl]
  clear hTl
  obtain ⟨k1, k2, k3, k4, k5, k6, k7⟩ := HBX3.out.cells
  obtain ⟨fr, hfr⟩ : ∃ fr, max a 0 = fr := ⟨_, rfl⟩
  obtain ⟨en, hen⟩ : ∃ en, min b 158310720 = en := ⟨_, rfl⟩
  have q1 : (if a < 0 then 0 else a) = fr := by split <;> omega
  have q2 : (if 158310720 < b then 158310720 else b) = en := by split <;> omega
  have q3 : (if b < 158310720 then b else 158310720) = en := by split <;> omega
  have HFE : Hid (0 ≤ fr ∧ en ≤ 158310720 ∧ (fr < en → en - fr ≤ 527040)) := ⟨by omega, by omega, fun _ => by omega⟩
  have HEND : Hid (∀ x, fr ≤ x ∧ x < en ∧ locB h (x + Zn.off z x) = true ↔ a ≤ x ∧ x < b ∧ worksB h (Zn.off z) x = true) := fun x => by
    rw [works_loc, Bool.and_eq_true, Bool.and_eq_true, decide_eq_true_eq, decide_eq_true_eq]
    constructor
    · rintro ⟨h1, h2, h3⟩; exact ⟨by omega, by omega, ⟨by omega, by omega⟩, h3⟩
    · rintro ⟨h1, h2, ⟨h4, h5⟩, h3⟩; exact ⟨by omega, by omega, h3⟩
  have hef : en ≤ 158310720 := by omega
  have hfr0 : 0 ≤ fr := by omega
  go_wp2_with fail
  clear q1 q2 q3 hw1 hw2 hfr hen
  go_loopw [7, 9] (fun s7 s9 wr => ∃ (f : Int) (R : List Spn) (g : Gr W3), wr = g.val ∧ s9 = .int .i64 f ∧ fr ≤ f ∧ (f ≤ en ∨ f = fr) ∧ Hid (g.val.ownsRow W3.heap.size 30 2 s7 R.length (sv R)) ∧ Hid (form R) ∧ Hid (∀ x, has R x ↔ fr ≤ x ∧ x < f ∧ locB h (x + Zn.off z x) = true)) (fun _ s9 _ => (en - intOf s9).toNat)
  case atStart => exact ⟨fr, [], ⟨W3, Below.refl _ _⟩, rfl, rfl, Int.le_refl _, .inr rfl, World.ownsRow_nil _ _ _ _, trivial, fun x => ⟨fun q => absurd q (has_nil x), fun q => by omega⟩⟩
  case round =>
    clear k1 k2 k3 k4 k5 k6 k7
    obtain ⟨f, R, g, rfl, rfl, hf1, hf2, HO, HF, HH⟩ := hrel
    obtain ⟨k1, k2, k3, k4, k5, k6, k7⟩ := (HBX3.out.below g.ok).cells
    by_cases hlt : f < en
    · have hf3 : 0 ≤ f ∧ f < 158310720 := by omega
      have hto : ∃ (tn : Int) (ok : Bool) (to : Int), (∀ G : Gr W3, Calls Try.prog 27 #[.agg #[.int .i64 z.base, .slice A z.n c], .int .i64 f] G.val fun e w' => e = .returned (.tuple #[.int .i64 tn, .bool ok]) ∧ Below G.val.heap.size G.val w') ∧
          (if ok then min tn en else en) = to ∧ f < to ∧ to ≤ en ∧ ∀ u, f ≤ u → u < to → Zn.off z u = Zn.off z f := by
        by_cases hn : fb z f < z.n
        · refine ⟨z.t (fb z f), true, min (z.t (fb z f)) en, fun G => next_some G.val A z c f HZW.out (HZA.out.below (HB3.out.trans (G.ok.mono HB3.out.size))) HPP.out hn, rfl, ?_, by omega, fun u h1 h2 => off_same12 HPP.out h1 (fun _ => by omega)⟩
          have := fb_yes hn; omega
        · refine ⟨0, false, en, fun G => next_none G.val A z c f HZW.out (HZA.out.below (HB3.out.trans (G.ok.mono HB3.out.size))) HPP.out (by have := fb_le z f; omega), rfl, hlt, Int.le_refl _, fun u h1 h2 => off_same12 HPP.out h1 (fun q => absurd q hn)⟩
      obtain ⟨tn, ok, to, hN, hte, ht1, ht2, hoff⟩ := hto
      obtain ⟨ad, hadd⟩ : ∃ ad, Zn.off z f = ad := ⟨_, rfl⟩
      have hab := off_bd HPP.out f
      have HOF : Hid (∀ G : Gr W3, Calls Try.prog 29 #[.agg #[.int .i64 z.base, .slice A z.n c], .int .i64 f] G.val fun e w' => e = .returned (.int .i64 ad) ∧ Below G.val.heap.size G.val w') := fun G => by
        have := offs_yes G.val A z c f HZW.out (HZA.out.below (HB3.out.trans (G.ok.mono HB3.out.size))) HPP.out
        rwa [hadd] at this
      rw [hadd] at hoff hab
      have HWK : Hid (∀ (G : Gr W3) (v : Value), G.val.ownsRow W3.heap.size 30 2 v R.length (sv R) → Calls Try.prog 28 #[v, .agg #[.slice Av T.length cv, .slice A2 h.off.length c2], .agg #[.int .i64 f, .int .i64 to], .int .i64 ad] G.val (RetU W3.heap.size v R h f to ad G.val)) := fun G v hv => by
        have hFE := HFE.out
        refine pworked_any h T Av A2 cv c2 R f to ad fr W3.heap.size v G.val HMM.out HPE.out HOR.out (HST.out.below G.ok (Nat.le_refl _)) (HS2.out.below (HB3.out.trans (G.ok.mono HB3.out.size)) (Nat.le_refl _)) (fun hn x hx q => ?_) (fun hn x hx q => ?_) hv G.ok.size ⟨hFE.1, hf1, ht1, by omega, by have := hFE.2.2 (by omega); omega⟩ hab HF.out (fun x hx => by have := (HH.out x).1 hx; exact ⟨this.1, this.2.1⟩)
        · obtain ⟨b, o, e, hlt, _⟩ := HST.out.on hn
          have h1 := (hv.lt _ q).1
          rw [hx] at e
          obtain rfl := Option.some.inj e
          simp only at h1; omega
        · obtain ⟨b, o, e, hlt, _⟩ := HS2.out.on hn
          have h1 := (hv.lt _ q).1
          have h2 := HB3.out.size
          rw [hx] at e
          obtain rfl := Option.some.inj e
          simp only at h1; omega
      have HHN : Hid (∀ R2 : List Spn, (∀ x, has R2 x ↔ has R x ∨ (f ≤ x ∧ x < to ∧ locB h (x + ad) = true)) → ∀ x, has R2 x ↔ fr ≤ x ∧ x < to ∧ locB h (x + Zn.off z x) = true) := fun R2 hr x => by
        rw [hr, HH.out]
        constructor
        · rintro (⟨h1, h2, h3⟩ | ⟨h1, h2, h3⟩)
          · exact ⟨h1, by omega, h3⟩
          · exact ⟨by omega, h2, by rw [hoff x h1 h2]; exact h3⟩
        · rintro ⟨h1, h2, h3⟩
          by_cases q : x < f
          · exact .inl ⟨h1, q, h3⟩
          · exact .inr ⟨by omega, h2, by rw [← hoff x (by omega) h2]; exact h3⟩
      have HN := Lib.hid hN
      clear hN hoff hadd hab HF HH
      cases ok with
      | true =>
        have hte : min tn en = to := hte
        have q1 : (if en < tn then en else tn) = to := by split <;> omega
        have q2 : (if tn < en then tn else en) = to := by split <;> omega
        go_wp2_with fail
        go_at_call 27
        refine (HN.out g).mono ?_
        rintro e w4 ⟨rfl, hb⟩
        have HO4 := Lib.hid (own_keep HO.out hb)
        obtain ⟨g4, rfl⟩ := g.on hb
        clear hb k1 k2 k3 k4 k5 k6 k7 HO
        obtain ⟨k1, k2, k3, k4, k5, k6, k7⟩ := (HBX3.out.below g4.ok).cells
        go_wp2_with fail
        clear q1 q2 hte k1 k2 k3 k4 k5 k6 k7
        have HZL : Hid (∀ V : World, Below W3.heap.size W3 V → V.cell? ⟨w.heap.size, 0, none⟩ = some (.int .i64 z.base) ∧ V.cell? ⟨w.heap.size, 0 + 1, none⟩ = some (.slice A z.n c) ∧ V.cell? ⟨w.heap.size, 1, none⟩ = some (.slice A z.n c) ∧ V.cell? ⟨w.heap.size + 1, 0, none⟩ = some (.slice Av T.length cv) ∧ V.cell? ⟨w.heap.size + 1, 0 + 1, none⟩ = some (.slice A2 h.off.length c2) ∧ V.cell? ⟨w.heap.size + 1, 1, none⟩ = some (.slice A2 h.off.length c2)) := fun V hV => by
          obtain ⟨k1, k2, k3, k4, k5, k6, k7⟩ := (HBX3.out.below hV).cells
          exact ⟨k1, k2, k2, k3, k4, k4⟩
        refine wp_region_lexO (fun V => Below W3.heap.size W3 V) (fun k => [7, 8].contains k) [0, 1, 2, 3, 4, 5, 6, 7, 8, 9] rfl (by kernel_rfl) (by kernel_rfl) (by kernel_rfl) (fun _ _ _ _ _ h => h) (by exact (Gr.ok _).drew) ?_
        have HO5 := Lib.hid (own_off HO4.out (F := fun _ => False) (Off.of_below ((Below.refl _ g4.val).drew)) (fun _ _ => id))
        generalize hVV : World.drew _ = V at *
        have hS0 : Below W3.heap.size W3 V := by rw [← hVV]; exact (Gr.ok _).drew
        clear hVV HO4
        repeat (first
          | (refine wpHo_yes (v := ?_) rfl rfl rfl (fun w' hS => ?_) ?_; rotate_left; (obtain ⟨f0, f1, f2, f3, f4, f5⟩ := HZL.out w' hS; go_simp; with_reducible rfl); (try simp only [List.getElem_toArray, List.getElem_cons_succ, List.getElem_cons_zero, Act.put, List.setIfInBounds_toArray, List.set_cons_zero, List.set_cons_succ]))
          | (refine wpHo_callYes rfl rfl rfl (fun K hK => ?_); go_simp; (first
            | (go_at_call 29; (with_reducible refine (HOF.out ⟨_, hS0⟩).mono ?_); rintro q w5 ⟨rfl, hb⟩; have HO6 := Lib.hid (own_keep HO5.out hb); have hS1 := hS0.trans (hb.mono hS0.size); clear hb HO5 hS0; refine hK.out _ _ hS1 (fun _ => ?_))
            | (go_at_call 28; (with_reducible refine (HWK.out ⟨_, hS1⟩ _ HO6.out).mono ?_); rintro q w6 ⟨R2, ⟨v2, rfl, hown2, hblk2, hoff2⟩, hform2, hhas2⟩; have hS2 := hS1.trans (hoff2.toBelow hS1.size (fun k hk => (HO6.out.lt k hk).1)); clear hS1 HO6 hoff2 hblk2; have HO7 := Lib.hid hown2; have HF7 := Lib.hid hform2; have HH7 := Lib.hid (HHN.out R2 hhas2); clear hown2 hform2 hhas2; refine hK.out _ _ hS2 (fun _ => ?_))); (try simp only [List.getElem_toArray, List.getElem_cons_succ, List.getElem_cons_zero, Act.put, List.setIfInBounds_toArray, List.set_cons_zero, List.set_cons_succ]); clear hK K))
        obtain ⟨g7, hg7⟩ : ∃ g7 : Gr W3, w6 = g7.val := ⟨⟨w6, hS2⟩, rfl⟩
        clear hS2
        subst hg7
        show Exit.then _ _ _ _ _
        go_wp2_with fail
        go_roundw
        case rel => exact ⟨_, R2, g7, rfl, rfl, by omega, .inl (by omega), HO7, HF7, HH7⟩
        case measure => simp [intOf]; omega
      | false =>
        have hte : en = to := hte
        subst hte
        go_wp2_with fail
        go_at_call 27
        refine (HN.out g).mono ?_
        rintro e w4 ⟨rfl, hb⟩
        have HO4 := Lib.hid (own_keep HO.out hb)
        obtain ⟨g4, rfl⟩ := g.on hb
        clear hb k1 k2 k3 k4 k5 k6 k7 HO
        go_wp2_with fail
        have HZL : Hid (∀ V : World, Below W3.heap.size W3 V → V.cell? ⟨w.heap.size, 0, none⟩ = some (.int .i64 z.base) ∧ V.cell? ⟨w.heap.size, 0 + 1, none⟩ = some (.slice A z.n c) ∧ V.cell? ⟨w.heap.size, 1, none⟩ = some (.slice A z.n c) ∧ V.cell? ⟨w.heap.size + 1, 0, none⟩ = some (.slice Av T.length cv) ∧ V.cell? ⟨w.heap.size + 1, 0 + 1, none⟩ = some (.slice A2 h.off.length c2) ∧ V.cell? ⟨w.heap.size + 1, 1, none⟩ = some (.slice A2 h.off.length c2)) := fun V hV => by
          obtain ⟨k1, k2, k3, k4, k5, k6, k7⟩ := (HBX3.out.below hV).cells
          exact ⟨k1, k2, k2, k3, k4, k4⟩
        refine wp_region_lexO (fun V => Below W3.heap.size W3 V) (fun k => [7, 8].contains k) [0, 1, 2, 3, 4, 5, 6, 7, 8, 9] rfl (by kernel_rfl) (by kernel_rfl) (by kernel_rfl) (fun _ _ _ _ _ h => h) (by exact (Gr.ok _).drew) ?_
        have HO5 := Lib.hid (own_off HO4.out (F := fun _ => False) (Off.of_below ((Below.refl _ g4.val).drew)) (fun _ _ => id))
        generalize hVV : World.drew _ = V at *
        have hS0 : Below W3.heap.size W3 V := by rw [← hVV]; exact (Gr.ok _).drew
        clear hVV HO4
        repeat (first
          | (refine wpHo_yes (v := ?_) rfl rfl rfl (fun w' hS => ?_) ?_; rotate_left; (obtain ⟨f0, f1, f2, f3, f4, f5⟩ := HZL.out w' hS; go_simp; with_reducible rfl); (try simp only [List.getElem_toArray, List.getElem_cons_succ, List.getElem_cons_zero, Act.put, List.setIfInBounds_toArray, List.set_cons_zero, List.set_cons_succ]))
          | (refine wpHo_callYes rfl rfl rfl (fun K hK => ?_); go_simp; (first
            | (go_at_call 29; (with_reducible refine (HOF.out ⟨_, hS0⟩).mono ?_); rintro q w5 ⟨rfl, hb⟩; have HO6 := Lib.hid (own_keep HO5.out hb); have hS1 := hS0.trans (hb.mono hS0.size); clear hb HO5 hS0; refine hK.out _ _ hS1 (fun _ => ?_))
            | (go_at_call 28; (with_reducible refine (HWK.out ⟨_, hS1⟩ _ HO6.out).mono ?_); rintro q w6 ⟨R2, ⟨v2, rfl, hown2, hblk2, hoff2⟩, hform2, hhas2⟩; have hS2 := hS1.trans (hoff2.toBelow hS1.size (fun k hk => (HO6.out.lt k hk).1)); clear hS1 HO6 hoff2 hblk2; have HO7 := Lib.hid hown2; have HF7 := Lib.hid hform2; have HH7 := Lib.hid (HHN.out R2 hhas2); clear hown2 hform2 hhas2; refine hK.out _ _ hS2 (fun _ => ?_))); (try simp only [List.getElem_toArray, List.getElem_cons_succ, List.getElem_cons_zero, Act.put, List.setIfInBounds_toArray, List.set_cons_zero, List.set_cons_succ]); clear hK K))
        obtain ⟨g7, hg7⟩ : ∃ g7 : Gr W3, w6 = g7.val := ⟨⟨w6, hS2⟩, rfl⟩
        clear hS2
        subst hg7
        show Exit.then _ _ _ _ _
        go_wp2_with fail
        go_roundw
        case rel => exact ⟨_, R2, g7, rfl, rfl, by omega, .inl (by omega), HO7, HF7, HH7⟩
        case measure => simp [intOf]; omega
    · go_wp2_with fail
      obtain ⟨Ar, cr, rfl, hsl⟩ := Sl.of_own HO.out
      go_ret
      refine ⟨R, ⟨Ar, cr, rfl, hsl, HB3.out.trans (g.ok.mono HB3.out.size)⟩, HF.out, fun x => ?_⟩
      rw [← HEND.out, HH.out]
      rcases hf2 with q | q
      · have : f = en := by omega
        rw [this]
      · constructor
        · rintro ⟨h1, h2, h3⟩; omega
        · rintro ⟨h1, h2, h3⟩; omega
end Go.Proofs.Ytkfmigpdmolmaaa
