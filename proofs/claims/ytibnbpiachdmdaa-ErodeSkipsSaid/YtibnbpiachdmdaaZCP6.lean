import Derived.Test.YtibnbpiachdmdaaZNE
/- Contracts of the program's streams: what a stream that is grown, and one of starts, tells of a minute. -/
section
namespace Go.Proofs.Ytibnbpiachdmdaa
open Go.ChangeShapes Go.WideShapes Go.ChangeAt Go.RowKit Go.Joins Sp
/-- A stream of one other in memory, that was gone through up to a minute. -/
def OneIn (R : KR) (c : Value) (w : World) (b : Nat) (o : Ob) (p : Value) (D : Int → Prop) (n k : Nat) (F C : Nat → Prop) (G : Int) (wr : World) : Prop :=
  ∃ n' k', wr.heap[b]? = some (.cells ({ o with gn := G } : Ob).cs 54 (0, 0)) ∧ Kids R wr b o.ba o.bn o.bc [p] (fun _ => D) G n' F ∧ CtAt wr c k' C ∧ k' + n' ≤ k + n ∧ Off (fun x => F x ∨ C x) w wr
/-- The one below was asked for the minute up to which it was gone through. -/
def OneRet (R : KR) (c : Value) (w : World) (b : Nat) (o : Ob) (p : Value) (D : Int → Prop) (n k : Nat) (F C : Nat → Prop) (G : Int) (e : Ending) (w' : World) : Prop :=
  ∃ inn u, e = .returned (.tuple #[.bool inn, .int .i64 u]) ∧ (Int64P u ∧ G ≤ u ∧ (G < 9223372036854775807 → G < u) ∧ (inn = true → G < u) ∧ ∀ x, G ≤ x → x < u → (inn = true ↔ D x)) ∧
    OneIn R c w b o p D n k F C G w' ∧ OneIn R c w b o p D n k F C u (w'.setCell ⟨b, 13, none⟩ (.int .i64 u))
section
variable {R : KR} {w wr : World} {c p : Value} {b : Nat} {o : Ob} {D : Int → Prop} {n k : Nat} {F C : Nat → Prop} {G u : Int}
theorem OneIn.set (h : OneIn R c w b o p D n k F C G wr) (g : KG R) (hFb : F b) (hFC : ∀ x, F x → ¬ C x) (hu : G ≤ u) : OneIn R c w b o p D n k F C u (wr.setCell ⟨b, 13, none⟩ (.int .i64 u)) := by
  obtain ⟨n', k', h1, h2, h3, h4, h5⟩ := h
  have ho : Off (fun x => x = b) wr (wr.setCell ⟨b, 13, none⟩ (.int .i64 u)) := (Off.refl (fun x => x = b) wr).setCell (b := b) (.inl rfl) _
  have hb := block_setCell h1 (i := 13) (.int .i64 u)
  obtain ⟨ns, Fs, hk, hs⟩ := h2.kids
  refine ⟨n', k', hb, ⟨sl_off h2.sl ho fun a e => (h2.blk a e).1, h2.bn, h2.blk, h2.bd, ns, Fs, ⟨fun i p hi => g.qm (g.off (hk.kid i p hi) ho fun x hx e => ?_) hu, hk.own, hk.row, hk.in_, hk.apart⟩, hs⟩, h3.off ho fun x hx e => hFC b hFb (e ▸ hx), h4, h5.trans ho fun x hx => .inl (.inl (hx ▸ hFb))⟩
  subst e
  exact hk.own i (List.getElem?_eq_some_iff.1 hi).1 hx
theorem OneIn.gr (h : OneIn R c w b o p D n k F C G wr) (g : KG R) (gr : Gr wr) : OneIn R c w b o p D n k F C G gr.val := by
  obtain ⟨n', k', h1, h2, h3, h4, h5⟩ := h
  have ho : Off (fun _ => False) wr gr.val := .of_below gr.ok
  exact ⟨n', k', ho.heap h1 id, h2.off g ho fun _ _ => id, h3.off ho fun _ _ => id, h4, h5.trans ho fun _ h => h.elim⟩
theorem OneIn.cells (h : OneIn R c w b o p D n k F C G wr) : ∃ rb off d, ∀ g : Gr wr, g.val.cell? ⟨b, 5, none⟩ = some (.slice (some ⟨rb, off, none⟩) 1 d) ∧ g.val.cell? ⟨rb, off, none⟩ = some p ∧ g.val.cell? ⟨b, 10, none⟩ = some (.int .i64 o.ah) ∧ g.val.cell? ⟨b, 11, none⟩ = some (.int .i64 o.be) ∧
    g.val.cell? ⟨b, 12, none⟩ = some (.int .i64 o.lg) ∧ g.val.cell? ⟨b, 13, none⟩ = some (.int .i64 G) ∧ ∀ i, g.val.frozen? ⟨b, i, none⟩ = false := by
  obtain ⟨n', k', h1, h2, h3, h4, h5⟩ := h
  obtain ⟨rb, off, hA, _, q0⟩ := h2.sl.at_ (i := 0) (v := p) rfl
  have hbn : o.bn = 1 := h2.bn
  refine ⟨rb, off, o.bc, fun g => ?_⟩
  have hb := blk_below h1 g.ok
  refine ⟨?_, cell_old q0 g.ok, blk_cell hb rfl, blk_cell hb rfl, blk_cell hb rfl, blk_cell hb rfl, blk_free hb⟩
  have : g.val.cell? ⟨b, 5, none⟩ = some (.slice o.ba o.bn o.bc) := blk_cell hb rfl
  rw [this, hA, hbn]
theorem OneIn.ask (h : OneIn R c w b o p D n k F C G wr) (g : KG R) (HA : AtC R c) (hFb : F b) (hFC : ∀ x, F x → ¬ C x) (hG : Int64P G) (gr : Gr wr) :
    Calls Try.prog 38 #[p, .int .i64 G] gr.val (OneRet R c w b o p D n k F C G) := by
  obtain ⟨n', k', h1, h2, h3, h4, h5⟩ := h.gr g gr
  obtain ⟨ni, Fi, hr, hni, hFi, hFb', hnext⟩ := h2.at_ g (i := 0) (p := p) rfl
  refine (HA gr.val p D G ni Fi k' C G hr h3 (fun x hx => hFC x (hFi x hx)) (Int.le_refl _) hG).mono ?_
  rintro e w' ⟨inn, u, rfl, n2, k2, a1, a2, a3, a4, a5, a6, a7, a8⟩
  have hI : OneIn R c w b o p D n k F C G w' := ⟨n' - ni + n2, k2, a4.heap h1 fun hx => hx.elim hFb' (hFC b hFb), hnext w' G n2 C (Int.le_refl _) a4 hFC a1, a2, by omega, h5.trans' (a4.mono fun x _ hx => hx.elim (fun h => .inl (hFi x h)) .inr)⟩
  exact ⟨inn, u, rfl, ⟨a5, a6.1, a6.2, a7, a8⟩, hI, hI.set g hFb hFC a6.1⟩
theorem OneIn.ptr (h : OneIn R c w b o p D n k F C G wr) (g : KG R) : ∃ a, p = .pointer a := by
  obtain ⟨n', k', h1, h2, h3, h4, h5⟩ := h
  obtain ⟨ni, Fi, hr, _⟩ := h2.at_ g (i := 0) (p := p) rfl
  exact g.ptr hr
end
set_option maxRecDepth 100000 in
set_option maxHeartbeats 4000000 in
theorem pinStarts_any {R : KR} (g : KG R) (c : Value) (HA : AtC R c) (b : Nat) (o : Ob) (K : Int → Prop) (p : Value) (D : Int → Prop) (m : Int) (n k : Nat) (F C : Nat → Prop) (w : World) (hb : w.heap[b]? = some (.cells o.cs 54 (0, 0)))
    (kd : o.kd = 5) (hok : o.Ok) (kids : Kids R w b o.ba o.bn o.bc [p] (fun _ => D) o.gn n F) (l1 : 1 ≤ o.lg) (hk : ∀ x, K x ↔ ∀ y, x ≤ y → y < x + o.lg → D y) (hj : ∀ y, o.unt ≤ y → y < o.gn → D y) (hum : o.unt ≤ m)
    (hc : CtAt w c k C) (hFb : F b) (hFC : ∀ x, F x → ¬ C x) (hm : Int64P m) (hm2 : m < 9223372036854775807) :
    Calls Try.prog 58 #[.pointer (some ⟨b, 0, none⟩), .int .i64 m] w (LookRet R c w b o K m n k F C) := by
  have H0 : OneIn R c w b o p D n k F C o.gn w := ⟨n, k, hb, kids, hc, Nat.le_refl _, .refl _ _⟩
  have hbd := fun x hx => kids.bd 0 x (by simp) hx
  obtain ⟨gn0, gn1⟩ := hok.gn
  obtain ⟨m0, m1⟩ := hm
  obtain ⟨_, lg1⟩ := hok.lg
  obtain ⟨pa, rfl⟩ := H0.ptr g
  obtain ⟨x, hx, x1, x2, x3, x4⟩ := max_forms o.gn m
  have HST := Lib.hid (H0.set g hFb hFC (u := x) (by omega))
  have HDM : Hid (∀ y, m ≤ y → y < x → D y) := fun y h1 h2 => hj y (by omega) (by omega)
  have hxm : m ≤ x := by omega
  have hxe : x ≤ 9223372036854775807 := by omega
  obtain ⟨rb, off, d, hcell⟩ := H0.cells
  obtain ⟨_, _, _, _, _, c13, cf⟩ := hcell ⟨w, Below.refl _ _⟩
  have HEND : Hid (∀ (wr : World) (G : Int) (inn : Bool) (u : Int), OneIn R c w b o (.pointer pa) D n k F C G wr → Int64P G → Int64P u → m < u → (∀ y, u ≤ y → y < G → D y) → (∀ x, m ≤ x → x < u → (inn = true ↔ K x)) → LookTo R c w wr b o K m n k F C inn u) := by
    rintro wr G inn u ⟨n', k', h1, h2, h3, h4, h5⟩ hG hu hmu hj' hK
    exact ⟨_, n', k', h1, rfl, rfl, ⟨hok.lo, hok.hi, hok.unt, hok.h1, hok.h2, hok.ah, hok.be, hok.lg, hG⟩, .starts _ D kd h2 l1 hk hj', h3, h4, h5, hu, hmu, hK⟩
  have HCL : Hid (∀ (G : Int) (wr : World), OneIn R c w b o (.pointer pa) D n k F C G wr → Int64P G → ∀ gr : Gr wr, Calls Try.prog 38 #[.pointer pa, .int .i64 G] gr.val (OneRet R c w b o (.pointer pa) D n k F C G)) := fun G wr h hG gr => h.ask g HA hFb hFC hG gr
  have HG := Lib.hid g
  have HBD := Lib.hid hbd
  have HK := Lib.hid hk
  clear hb kids hj hok hc HA hFC hFb hbd hk hcell g H0 kd hx
  obtain ⟨gn, hgn⟩ : ∃ v, o.gn = v := ⟨_, rfl⟩
  rw [hgn] at c13 x1 x2 x3 x4
  clear hgn
  go_enter Try.func58, Try.ntmps58
  go_wp2_with fail
  generalize w.setCell ⟨b, 13, none⟩ (.int .i64 x) = W1 at *
  go_loopg [] ((9223372036854775807 - x).toNat + 1) (fun j wr => ∃ G : Int, j = (9223372036854775807 - G).toNat + 1 ∧ m ≤ G ∧ G ≤ 9223372036854775807 ∧ Hid (∀ y, m ≤ y → y < G → D y) ∧ Hid (OneIn R c w b o (.pointer pa) D n k F C G wr))
  case atStart => exact ⟨x, rfl, hxm, hxe, HDM, HST.out⟩
  case round =>
    obtain ⟨G, rfl, hmG, hGe, HD, HI⟩ := hrel
    obtain ⟨rb, off, d, hcell⟩ := HI.out.cells
    have HCE := Lib.hid hcell
    obtain ⟨q5, q0, _, _, q12, q13, _⟩ := hcell ⟨wr, Below.refl _ _⟩
    obtain ⟨a, ha⟩ : ∃ a, IntKind.u64.wrap G = a := ⟨_, rfl⟩
    obtain ⟨a2, ha2⟩ : ∃ a, IntKind.u64.wrap m = a := ⟨_, rfl⟩
    have hw : IntKind.u64.wrap (a - a2) = G - m := by rw [← ha, ← ha2]; simp only [IntKind.wrap_u64]; omega
    have hwl : IntKind.u64.wrap o.lg = o.lg := by rw [IntKind.wrap_u64]; omega
    by_cases hlt : G - m < o.lg
    · have hltb : decide (G - m < o.lg) = true := decide_eq_true hlt
      have HC := Lib.hid (HCL.out G wr HI.out ⟨by omega, by omega⟩)
      clear hcell
      go_wp2_with fail
      go_quiet (fail)
      obtain ⟨g2, hg2⟩ : ∃ g2 : Gr wr, wr.drewN nq = g2.val := ⟨⟨_, drewN_below _ _⟩, rfl⟩
      rw [hg2]
      clear hg2
      obtain ⟨q5', q0', _, _, q12', q13', _⟩ := HCE.out g2
      go_wp2_with fail
      go_region_with (go_at_call 38; refine (HC.out ⟨_, (g2.ok.drew)⟩).mono ?_; rintro e w' ⟨inn, u, rfl, hT⟩)
      all_goals
        obtain ⟨⟨u64, u1, u2, u3, u4⟩, hI1, hI2⟩ := hT
        obtain ⟨rb2, off2, d2, hcell2⟩ := hI1.cells
        obtain ⟨_, _, _, _, _, s13, sf⟩ := hcell2 ⟨w', Below.refl _ _⟩
        have HI2 := Lib.hid hI2
        have U4 := Lib.hid u4
        have U64 := Lib.hid u64
        clear hI1 hI2 hcell2 u4
        cases inn with
        | false =>
          go_wp2_with fail
          go_ret2
          have hmu : m < u := by omega
          refine (HEND.out _ u false u HI2.out U64.out U64.out hmu (fun y h1 h2 => by omega) fun y h1 h2 => ⟨fun e => (by cases e), fun e => ?_⟩).ret
          have hD := (HK.out y).1 e
          have h3 := hD (max y G) (by omega) (by omega)
          have h4 := HBD.out _ h3
          exact absurd ((U4.out (max y G) (by omega) (by omega)).2 h3) (by decide)
        | true =>
          go_wp2_with fail
          go_roundg ((9223372036854775807 - u).toNat + 1)
          case measure => have := u3 (by trivial); have := U64.out; unfold Int64P at this; omega
          case rel => exact ⟨u, rfl, by omega, by have := U64.out; unfold Int64P at this; omega, fun y h1 h2 => by
            by_cases h3 : y < G
            · exact HD.out y h1 h3
            · exact (U4.out y (by omega) h2).1 (by trivial), HI2.out⟩
    · have hltb : decide (G - m < o.lg) = false := decide_eq_false hlt
      have e1 : IntKind.i64.wrap (G - o.lg) = G - o.lg := by rw [IntKind.wrap_i64]; omega
      have e2 : IntKind.i64.wrap (G - o.lg + 1) = G - o.lg + 1 := by rw [IntKind.wrap_i64]; omega
      clear hcell
      go_wp2_with fail
      go_quiet (fail)
      obtain ⟨g2, hg2⟩ : ∃ g2 : Gr wr, wr.drewN nq = g2.val := ⟨⟨_, drewN_below _ _⟩, rfl⟩
      rw [hg2]
      clear hg2
      obtain ⟨q5', q0', _, _, q12', q13', _⟩ := HCE.out g2
      go_wp2_with fail
      go_quiet (fail)
      obtain ⟨g3, hg3⟩ : ∃ g3 : Gr wr, g2.val.drewN nq = g3.val := g2.on (drewN_below _ _)
      rw [hg3]
      go_wp2_with fail
      go_ret2
      refine (HEND.out g3.val G true (G - o.lg + 1) (HI.out.gr HG.out g3) ⟨by omega, by omega⟩ ⟨by omega, by omega⟩ (by omega) (fun y h1 h2 => HD.out y (by omega) h2) fun y h1 h2 => ⟨fun _ => (HK.out y).2 fun z h3 h4 => HD.out z (by omega) (by omega), fun _ => rfl⟩).ret
end Go.Proofs.Ytibnbpiachdmdaa
end
