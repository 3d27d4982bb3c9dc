import Derived.Test.YtibnbpiachdmdaaZCP6
/- Contracts of the program's streams: what a stream that is grown tells of a minute. -/
section
namespace Go.Proofs.Ytibnbpiachdmdaa
open Go.ChangeShapes Go.WideShapes Go.ChangeAt Go.RowKit Go.Joins Sp
set_option maxRecDepth 100000 in
set_option maxHeartbeats 8000000 in
theorem pinGrown_any {R : KR} (g : KG R) (c : Value) (HA : AtC R c) (b : Nat) (o : Ob) (K : Int → Prop) (p : Value) (D : Int → Prop) (m : Int) (n k : Nat) (F C : Nat → Prop) (w : World) (hb : w.heap[b]? = some (.cells o.cs 54 (0, 0)))
    (kd : o.kd = 4) (hok : o.Ok) (kids : Kids R w b o.ba o.bn o.bc [p] (fun _ => D) o.gn n F) (a0 : 0 ≤ o.ah) (b0 : 0 ≤ o.be) (hk : ∀ x, K x ↔ ∃ y, D y ∧ y - o.ah ≤ x ∧ x ≤ y + o.be)
    (j1 : o.gn - o.ah ≤ o.unt) (j2 : o.unt = 9223372036854775807 ∨ ∀ y, D y → y < o.gn → y + o.be < o.unt) (hum : o.unt ≤ m)
    (hc : CtAt w c k C) (hFb : F b) (hFC : ∀ x, F x → ¬ C x) (hm : Int64P m) (hm2 : m < 9223372036854775807) :
    Calls Try.prog 57 #[.pointer (some ⟨b, 0, none⟩), .int .i64 m] w (LookRet R c w b o K m n k F C) := by
  have H0 : OneIn R c w b o p D n k F C o.gn w := ⟨n, k, hb, kids, hc, Nat.le_refl _, .refl _ _⟩
  have hbd := fun x hx => kids.bd 0 x (by simp) hx
  obtain ⟨gn0, gn1⟩ := hok.gn
  obtain ⟨m0, m1⟩ := hm
  obtain ⟨_, ah1⟩ := hok.ah
  obtain ⟨_, be1⟩ := hok.be
  obtain ⟨pa, rfl⟩ := H0.ptr g
  obtain ⟨ls, hls⟩ : ∃ z, max m (-9223372036854775808 + o.be) - o.be = z := ⟨_, rfl⟩
  obtain ⟨x, hx, x1, x2, x3, x4⟩ := max_forms o.gn ls
  have HST := Lib.hid (fun gr : Gr w => (H0.gr g gr).set g hFb hFC (u := x) (by omega))
  have hxm : m ≤ x + o.be := by omega
  have hxa : x - o.ah ≤ m := by omega
  have hxe : x ≤ 9223372036854775807 := by omega
  have hxl : -9223372036854775808 ≤ x := by omega
  have HDM : Hid (∀ y, D y → y < x → y + o.be < m) := fun y h1 h2 => by
    have := hbd y h1
    rcases j2 with h | h
    · omega
    · by_cases h3 : y < o.gn
      · have := h y h1 h3; omega
      · omega
  obtain ⟨rb, off, d, hcell⟩ := H0.cells
  have HCE0 := Lib.hid hcell
  have HLS := Lib.hid (fun gr : Gr w => (pless_any m o.be ⟨m0, m1⟩ ⟨b0, be1⟩ gr.val).mono fun e w' (h : e = .returned (.int .i64 (max m (-9223372036854775808 + o.be) - o.be)) ∧ gr.val = w') => (⟨by rw [h.1, hls], h.2 ▸ Below.refl _ _⟩ : e = .returned (.int .i64 ls) ∧ Below gr.val.heap.size gr.val w'))
  have HEND : Hid (∀ (wr : World) (G : Int) (inn : Bool) (u : Int), OneIn R c w b o (.pointer pa) D n k F C G wr → Int64P G → Int64P u → m < u → G - o.ah ≤ u → (u = 9223372036854775807 ∨ ∀ y, D y → y < G → y + o.be < u) → (∀ x, m ≤ x → x < u → (inn = true ↔ K x)) → LookTo R c w wr b o K m n k F C inn u) := by
    rintro wr G inn u ⟨n', k', h1, h2, h3, h4, h5⟩ hG hu hmu hj1 hj2 hK
    exact ⟨_, n', k', h1, rfl, rfl, ⟨hok.lo, hok.hi, hok.unt, hok.h1, hok.h2, hok.ah, hok.be, hok.lg, hG⟩, .grow _ D kd h2 a0 b0 hk hj1 hj2, h3, h4, h5, hu, hmu, hK⟩
  have HCL : Hid (∀ (G : Int) (wr : World), OneIn R c w b o (.pointer pa) D n k F C G wr → Int64P G → ∀ gr : Gr wr, Calls Try.prog 38 #[.pointer pa, .int .i64 G] gr.val (OneRet R c w b o (.pointer pa) D n k F C G)) := fun G wr h hG gr => h.ask g HA hFb hFC hG gr
  have HBD := Lib.hid hbd
  have HK := Lib.hid hk
  obtain ⟨ah, hah⟩ : ∃ v, o.ah = v := ⟨_, rfl⟩
  obtain ⟨be, hbe⟩ : ∃ v, o.be = v := ⟨_, rfl⟩
  have HMO : Hid (∀ (u : Int) (w : World), Int64P u → Calls Try.prog 61 #[.int .i64 u, .int .i64 be] w fun e w' => e = .returned (.int .i64 (min u (9223372036854775807 - be) + be)) ∧ w = w') := fun u w hu => pmore_any u be hu (by rw [← hbe]; exact ⟨b0, be1⟩) w
  have HLE : Hid (∀ (u : Int) (w : World), Int64P u → Calls Try.prog 24 #[.int .i64 u, .int .i64 ah] w fun e w' => e = .returned (.int .i64 (max u (-9223372036854775808 + ah) - ah)) ∧ w = w') := fun u w hu => pless_any u ah hu (by rw [← hah]; exact ⟨a0, ah1⟩) w
  have C11 := fun g : Gr w => (hcell g).2.2.2.1
  have C13 := fun g : Gr w => (hcell g).2.2.2.2.2.1
  clear hb kids hok hc HA hFC hFb hbd hk hcell H0 kd hx hls j1 j2 hum
  obtain ⟨gn, hgn⟩ : ∃ v, o.gn = v := ⟨_, rfl⟩
  rw [hgn] at C13 x1 x2 x3 x4
  rw [hbe] at C11 HLS hxm HDM HEND HK be1 b0
  rw [hah] at HEND HK hxa ah1 a0
  have HCE1 : Hid (∀ (wr : World) (G : Int), OneIn R c w b o (.pointer pa) D n k F C G wr → ∃ rb off d, ∀ g : Gr wr, g.val.cell? ⟨b, 5, none⟩ = some (.slice (some ⟨rb, off, none⟩) 1 d) ∧ g.val.cell? ⟨rb, off, none⟩ = some (.pointer pa) ∧ g.val.cell? ⟨b, 10, none⟩ = some (.int .i64 ah) ∧ g.val.cell? ⟨b, 11, none⟩ = some (.int .i64 be) ∧
      g.val.cell? ⟨b, 13, none⟩ = some (.int .i64 G) ∧ ∀ i, g.val.frozen? ⟨b, i, none⟩ = false) := fun wr G h => by
    obtain ⟨rb, off, d, hc⟩ := h.cells
    exact ⟨rb, off, d, fun g => ⟨(hc g).1, (hc g).2.1, hah ▸ (hc g).2.2.1, hbe ▸ (hc g).2.2.2.1, (hc g).2.2.2.2.2.1, (hc g).2.2.2.2.2.2⟩⟩
  clear hgn hbe hah
  go_enter Try.func57, Try.ntmps57
  go_wp2_with fail
  refine Gr.region_last (w0 := w) (m := 14) (by kernel_rfl) (by kernel_rfl) (Gr.draw0 _) ?_
  simp only [List.take]
  repeat (go_big_quiet_step (fail))
  go_big_quiet_step ((go_at_call 24; exact Gr.calls _ (HLS.out _)))
  repeat (go_big_quiet_step (fail))
  refine wpQuiet_nil ?_
  rintro _ ⟨g2, rfl⟩
  refine wpOp_last (o := _) rfl ?_
  have r0 := C13 g2
  have rf := (HCE0.out g2).2.2.2.2.2.2
  have HI0 := Lib.hid (HST.out g2)
  clear C13 C11
  go_simp
  clear r0 rf
  generalize g2.val.setCell ⟨b, 13, none⟩ (.int .i64 x) = W1 at *
  go_wp2_with fail
  go_loopg [] ((9223372036854775807 - x).toNat + 1) (fun j wr => ∃ G : Int, j = (9223372036854775807 - G).toNat + 1 ∧ m ≤ G + be ∧ G - ah ≤ m ∧ -9223372036854775808 ≤ G ∧ G ≤ 9223372036854775807 ∧ Hid (∀ y, D y → y < G → y + be < m) ∧ Hid (OneIn R c w b o (.pointer pa) D n k F C G wr))
  case atStart => exact ⟨x, rfl, hxm, hxa, hxl, hxe, HDM, HI0.out⟩
  case round =>
    obtain ⟨G, rfl, hmG, hGa, hGl, hGe, HD, HI⟩ := hrel
    obtain ⟨rb, off, d, hcell⟩ := HCE1.out wr G HI.out
    obtain ⟨q5, q0, _, _, q13, _⟩ := hcell ⟨wr, Below.refl _ _⟩
    have HC := Lib.hid (HCL.out G wr HI.out ⟨by omega, by omega⟩)
    clear hcell
    go_wp2_with fail
    go_region_with (go_at_call 38; refine (HC.out ⟨_, ((Below.refl _ wr).drew)⟩).mono ?_; rintro e w' ⟨inn, u, rfl, hT⟩)
    all_goals
      obtain ⟨⟨u64, u1, u2, u3, u4⟩, hI1, hI2⟩ := hT
      obtain ⟨rb2, off2, d2, hcell2⟩ := HCE1.out w' G hI1
      obtain ⟨_, _, _, _, s13, sf⟩ := hcell2 ⟨w', Below.refl _ _⟩
      have HI2 := Lib.hid hI2
      have U4 := Lib.hid u4
      have U64 := Lib.hid u64
      obtain ⟨W2, hW2⟩ : ∃ W2, w'.setCell ⟨b, 13, none⟩ (.int .i64 u) = W2 := ⟨_, rfl⟩
      rw [hW2] at HI2
      have HC2 := Lib.hid (HCE1.out W2 u HI2.out)
      have HMW := Lib.hid (HMO.out u W2 u64)
      have HLW := Lib.hid (HLE.out u W2 u64)
      have hu1 : -9223372036854775808 ≤ u ∧ u ≤ 9223372036854775807 := u64
      clear hI1 hI2 hcell2 u4 u64
      have HD2 : Hid (inn = false → ∀ y, D y → y < u → y + be < m) := fun e y h1 h2 => by
        by_cases h3 : y < G
        · exact HD.out y h1 h3
        · have := (U4.out y (by omega) h2).2 h1
          rw [e] at this; cases this
      have HIT : Hid (inn = true → ∀ y, m ≤ y → y < u + be → K y) := fun e y h1 h2 => by
        have hgu := u3 e
        exact (HK.out y).2 ⟨max G (y - be), (U4.out _ (by omega) (by omega)).1 e, by omega, by omega⟩
      have hgt : inn = true → G < u := u3
      clear u3
      cases inn with
      | true =>
        have hGu : G < u := hgt (by trivial)
        clear hgt
        obtain ⟨r, hr⟩ : ∃ r, min u (9223372036854775807 - be) + be = r := ⟨_, rfl⟩
        rw [hr] at HMW
        obtain ⟨rb3, off3, d3, hcell3⟩ := HC2.out
        obtain ⟨_, _, _, t11, _, _⟩ := hcell3 ⟨W2, Below.refl _ _⟩
        have HR := Lib.hid hr
        clear hr hcell3
        go_upto_region 4 with fail
        try rw [hW2]
        clear hW2 s13 sf
        go_wp2_with fail
        go_at_call 61
        refine HMW.out.mono ?_
        rintro e w3 ⟨rfl, rfl⟩
        go_wp2_with fail
        go_ret2
        have hr := HR.out
        exact (HEND.out _ u true r HI2.out hu1 ⟨by omega, by omega⟩ (by omega) (by omega) ((Classical.em (u ≤ 9223372036854775807 - be)).elim (fun h => .inr fun y _ h2 => by omega) (fun h => .inl (by omega))) fun y h1 h2 => ⟨fun _ => HIT.out (by trivial) y h1 (by omega), fun _ => rfl⟩).ret
      | false =>
        have HD3 : Hid (∀ y, D y → y < u → y + be < m) := HD2.out (by trivial)
        clear HD2 HIT hgt HMW
        by_cases hue : u = 9223372036854775807
        · have hueb : (u == 9223372036854775807) = true := by simpa using hue
          have HNO : Hid (∀ y, m ≤ y → ¬ K y) := fun y h1 e => by
            obtain ⟨z, z1, z2, z3⟩ := (HK.out y).1 e
            have := HBD.out z z1
            have := HD3.out z z1 (by omega)
            omega
          have HUE := Lib.hid hue
          clear hue
          go_upto_region 4 with fail
          try rw [hW2]
          clear hW2 s13 sf
          go_wp2_with fail
          go_ret2
          have hue := HUE.out
          exact (HEND.out _ u false 9223372036854775807 HI2.out hu1 ⟨by omega, by omega⟩ (by omega) (by omega) (.inl rfl) fun y h1 h2 => ⟨fun e => (by cases e), fun e => absurd e (HNO.out y h1)⟩).ret
        · have hueb : (u == 9223372036854775807) = false := by simpa using hue
          obtain ⟨r, hr⟩ : ∃ r, max u (-9223372036854775808 + ah) - ah = r := ⟨_, rfl⟩
          rw [hr] at HLW
          obtain ⟨rb3, off3, d3, hcell3⟩ := HC2.out
          obtain ⟨_, _, t10, _, _, _⟩ := hcell3 ⟨W2, Below.refl _ _⟩
          have HR := Lib.hid hr
          have HUE := Lib.hid hue
          clear hr hcell3
          by_cases hrm : m < r
          · go_upto_region 4 with fail
            try rw [hW2]
            clear hW2 s13 sf
            go_wp2_with fail
            go_at_call 24
            refine HLW.out.mono ?_
            rintro e w3 ⟨rfl, rfl⟩
            go_wp2_with fail
            go_ret2
            have hr := HR.out
            refine (HEND.out _ u false r HI2.out hu1 ⟨by omega, by omega⟩ hrm (by omega) (.inr fun y h1 h2 => by have := HD3.out y h1 h2; omega) fun y h1 h2 => ⟨fun e => (by cases e), fun e => ?_⟩).ret
            obtain ⟨z, z1, z2, z3⟩ := (HK.out y).1 e
            by_cases h3 : z < u
            · have := HD3.out z z1 h3; omega
            · omega
          · go_upto_region 4 with fail
            try rw [hW2]
            clear hW2 s13 sf
            go_wp2_with fail
            go_at_call 24
            refine HLW.out.mono ?_
            rintro e w3 ⟨rfl, rfl⟩
            go_wp2_with fail
            go_roundg ((9223372036854775807 - u).toNat + 1)
            case measure => have := HUE.out; omega
            case rel => have hr := HR.out; exact ⟨u, rfl, by omega, by omega, by omega, by omega, HD3.out, HI2.out⟩
end Go.Proofs.Ytibnbpiachdmdaa
end
