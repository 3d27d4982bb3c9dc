import Derived.Test.YtibnbpiachdmdaaZCP7
import Derived.Test.YtibnbpiachdmdaaZMD
import Derived.Deep.AppendLies
import Derived.Deep.Cut
/- Contracts of the program's streams: what any stream tells of a minute, and up to where. -/
section
namespace Go.Proofs.Ytibnbpiachdmdaa
open Go.ChangeShapes Go.WideShapes Go.ChangeAt Go.RowKit Go.Joins Sp
set_option maxRecDepth 100000 in
set_option maxHeartbeats 4000000 in
theorem plook_any {R : KR} (g : KG R) (c : Value) (HA : AtC R c) (b : Nat) (o : Ob) (K : Int → Prop) (m : Int) (n k : Nat) (F C : Nat → Prop) (w : World) (hb : w.heap[b]? = some (.cells o.cs 54 (0, 0)))
    (hok : o.Ok) (hkd : Kd R w b o c K m n F) (hum : o.unt ≤ m) (hc : CtAt w c k C) (hFb : F b) (hFC : ∀ x, F x → ¬ C x) (hm : Int64P m) (hm2 : m < 9223372036854775807) :
    Calls Try.prog 49 #[.pointer (some ⟨b, 0, none⟩), .int .i64 m] w (LookRet R c w b o K m n k F C) := by
  have c0 : _ = some (Value.int .i64 o.kd) := blk_cell hb (i := 0) rfl
  cases hkd with
  | row r kd ct sl rn f i64 blk kk hd =>
    have HC := Lib.hid (pinRow_any g c b o K r m n k F C w ⟨hb, sl, rn, f, i64, blk⟩ kd hok ct hc hFb hFC kk hd hm hm2)
    rw [kd] at c0
    clear hb hok kd ct sl rn f i64 blk kk hd hc hFC hm HA g
    go_enter Try.func49, Try.ntmps49
    go_wp2_with fail
    go_at_call 59
    refine HC.out.mono ?_
    rintro e w' ⟨inn, u, rfl, hT⟩
    have HT := Lib.hid hT
    clear hT
    go_wp2_with fail
    go_ret2
    exact HT.out.ret
  | many ps Ds st kd kids k1 k2 =>
    have HC := Lib.hid (pjoined_any g c HA b o K ps Ds st m n k F C w hb kd hok kids k1 k2 hc hFb hFC hm hm2)
    rw [kd] at c0
    clear hb hok kd kids k1 k2 hc hFC hm HA g
    cases st
    all_goals
      simp only [if_true, if_false, Bool.false_eq_true] at c0
      go_enter Try.func49, Try.ntmps49
      go_wp2_with fail
      go_at_call 55
      refine HC.out.mono ?_
      rintro e w' ⟨inn, u, rfl, hT⟩
      have HT := Lib.hid hT
      clear hT
      go_wp2_with fail
      go_ret2
      exact HT.out.ret
  | gaps p D kd kids kk =>
    have HC := Lib.hid (pinGap_any g c HA b o K p D m n k F C w hb kd hok kids kk hc hFb hFC hm hm2)
    rw [kd] at c0
    clear hb hok kd kids kk hc hFC hm HA g
    go_enter Try.func49, Try.ntmps49
    go_wp2_with fail
    go_at_call 56
    refine HC.out.mono ?_
    rintro e w' ⟨inn, u, rfl, hT⟩
    have HT := Lib.hid hT
    clear hT
    go_wp2_with fail
    go_ret2
    exact HT.out.ret
  | grow p D kd kids a0 b0 kk j1 j2 =>
    have HC := Lib.hid (pinGrown_any g c HA b o K p D m n k F C w hb kd hok kids a0 b0 kk j1 j2 hum hc hFb hFC hm hm2)
    rw [kd] at c0
    clear hb hok kd kids kk hc hFC hm HA g j1 j2
    go_enter Try.func49, Try.ntmps49
    go_wp2_with fail
    go_at_call 57
    refine HC.out.mono ?_
    rintro e w' ⟨inn, u, rfl, hT⟩
    have HT := Lib.hid hT
    clear hT
    go_wp2_with fail
    go_ret2
    exact HT.out.ret
  | starts p D kd kids l1 kk j =>
    have HC := Lib.hid (pinStarts_any g c HA b o K p D m n k F C w hb kd hok kids l1 kk j hum hc hFb hFC hm hm2)
    rw [kd] at c0
    clear hb hok kd kids kk hc hFC hm HA g j
    go_enter Try.func49, Try.ntmps49
    go_wp2_with fail
    go_at_call 58
    refine HC.out.mono ?_
    rintro e w' ⟨inn, u, rfl, hT⟩
    have HT := Lib.hid hT
    clear hT
    go_wp2_with fail
    go_ret2
    exact HT.out.ret
theorem AtTo.ret {R : KR} {c : Value} {w w' : World} {p : Value} {D : Int → Prop} {m u : Int} {n k : Nat} {F C : Nat → Prop} {inn : Bool} (h : AtTo R c w w' p D m n k F C inn u) : AtRet R c w p D m n k F C (.returned (.tuple #[.bool inn, .int .i64 u])) w' := ⟨inn, u, rfl, h⟩
/-- Streams in a room. -/
def Rat (S : SR) (lo hi : Int) : KR := fun w p D q n F => S w p D lo hi q n F
theorem AtTo.mono {R R' : KR} {c : Value} {w w' : World} {p : Value} {D : Int → Prop} {m u : Int} {n k : Nat} {F C : Nat → Prop} {inn : Bool} (h : AtTo R c w w' p D m n k F C inn u) (hR : ∀ w p D q n F, R w p D q n F → R' w p D q n F) : AtTo R' c w w' p D m n k F C inn u := by
  obtain ⟨n', k', h1, h2⟩ := h
  exact ⟨n', k', hR _ _ _ _ _ _ h1, h2⟩
/-- What is answered once it is known of a minute that lies in the room. -/
theorem known_at {R : KR} (g : KG R) {c : Value} {b : Nat} {o : Ob} {K D : Int → Prop} {m : Int} {n k n' k' : Nat} {F C : Nat → Prop} {w w2 : World} (h : Nd R c w2 b o K D m n' F) (hc : CtAt w2 c k' C) (hkn : k' + n' ≤ k + n) (ho : Off (fun x => F x ∨ C x) w w2) (hlo : o.lo ≤ m) (hhi : m < o.hi) (hu : m < o.unt) (gr : Gr w2) :
    (o.inn = false → o.hi ≤ o.unt → AtTo (Rat (StN R c) o.lo o.hi) c w gr.val (.pointer (some ⟨b, 0, none⟩)) D m n k F C false 9223372036854775807) ∧
    ((o.inn = true ∨ o.unt < o.hi) → AtTo (Rat (StN R c) o.lo o.hi) c w gr.val (.pointer (some ⟨b, 0, none⟩)) D m n k F C o.inn (min o.unt o.hi)) := by
  have hof : Off (fun _ => False) w2 gr.val := .of_below gr.ok
  have hN := h.off g hof fun _ _ => id
  have hC := hc.off hof fun _ _ => id
  have hO := ho.trans hof fun _ h => h.elim
  have h1 := h.ok.hi
  have h2 := h.ok.unt
  unfold Int64P at h1 h2
  have hmx : max m o.lo = m := by omega
  have kn := h.known
  rw [hmx] at kn
  refine ⟨fun e1 e2 => ⟨n', k', .inr ⟨b, o, K, rfl, rfl, rfl, hN⟩, hC, hkn, hO, by unfold Int64P; omega, ⟨by omega, fun h => h⟩, fun e => (by cases e), fun x hx hx2 => ⟨fun e => (by cases e), fun hd => ?_⟩⟩, fun e => ⟨n', k', .inr ⟨b, o, K, rfl, rfl, rfl, hN⟩, hC, hkn, hO, by unfold Int64P; omega, ⟨by omega, fun _ => by omega⟩, fun _ => by omega, fun x hx hx2 => ?_⟩⟩
  · have hx := (h.is x).1 hd
    have := (kn x (by omega) (by omega)).2 hx.2.2
    rw [e1] at this; cases this
  · rw [h.is x, kn x hx (by omega)]
    exact ⟨fun hk => ⟨by omega, by omega, hk⟩, fun hk => hk.2.2⟩
set_option maxRecDepth 100000 in
set_option maxHeartbeats 4000000 in
theorem pat_any {R : KR} (g : KG R) (c : Value) (HA : AtC R c) (lo hi : Int) : AtC (Rat (StN R c) lo hi) c := by
  intro w p D q n F k C m h hc hFC hq hm
  have hq' := StN.qm g h hq
  obtain ⟨m0, m1⟩ := hm
  rcases hq' with ⟨rfl, hD, rfl, rfl, hl⟩ | ⟨b, o, K, rfl, rfl, rfl, hN⟩
  · have HT : Hid (AtTo (Rat (StN R c) 9223372036854775807 (-9223372036854775808)) c w w (.pointer none) D m n k F C false 9223372036854775807) := ⟨n, k, .inl ⟨rfl, hD, rfl, rfl, hl⟩, hc, Nat.le_refl _, .refl _ _, by unfold Int64P; omega, ⟨by omega, fun h => h⟩, fun e => (by cases e), fun x _ _ => ⟨fun e => (by cases e), fun hd => absurd hd (hD x)⟩⟩
    clear h hc hFC hD hl HA g
    go_enter Try.func38, Try.ntmps38
    go_wp2_with fail
    go_ret2
    exact HT.out.ret
  · obtain ⟨lo0, lo1⟩ := hN.ok.lo
    obtain ⟨hi0, hi1⟩ := hN.ok.hi
    have c1 : _ = some (Value.int .i64 o.lo) := blk_cell hN.blk (i := 1) rfl
    have c2 : _ = some (Value.int .i64 o.hi) := blk_cell hN.blk (i := 2) rfl
    have c3 : _ = some (Value.bool o.inn) := blk_cell hN.blk (i := 3) rfl
    have c4 : _ = some (Value.int .i64 o.unt) := blk_cell hN.blk (i := 4) rfl
    have HN := Lib.hid hN
    have HCT := Lib.hid hc
    have HG := Lib.hid g
    have HFC := Lib.hid hFC
    by_cases h1 : o.hi ≤ m
    · have h1b : decide (o.hi ≤ m) = true := decide_eq_true h1
      have HT : Hid (AtTo (Rat (StN R c) o.lo o.hi) c w w (.pointer (some ⟨b, 0, none⟩)) D m n k F C false 9223372036854775807) := ⟨n, k, .inr ⟨b, o, K, rfl, rfl, rfl, hN⟩, hc, Nat.le_refl _, .refl _ _, by unfold Int64P; omega, ⟨by omega, fun h => h⟩, fun e => (by cases e), fun x hx _ => ⟨fun e => (by cases e), fun hd => by have := ((hN.is x).1 hd).2.1; omega⟩⟩
      clear h hc hFC hN HA g
      go_enter Try.func38, Try.ntmps38
      go_wp2_with fail
      go_ret2
      exact HT.out.ret
    · have h1b : decide (o.hi ≤ m) = false := decide_eq_false h1
      by_cases h2 : m < o.lo
      · have h2b : decide (m < o.lo) = true := decide_eq_true h2
        have HT : Hid (∀ gr : Gr w, AtTo (Rat (StN R c) o.lo o.hi) c w gr.val (.pointer (some ⟨b, 0, none⟩)) D m n k F C false o.lo) := fun gr => by
          have hof : Off (fun _ => False) w gr.val := .of_below gr.ok
          exact ⟨n, k, .inr ⟨b, o, K, rfl, rfl, rfl, hN.off g hof fun _ _ => id⟩, hc.off hof fun _ _ => id, Nat.le_refl _, .of_below gr.ok, ⟨lo0, lo1⟩, ⟨by omega, fun _ => h2⟩, fun e => (by cases e), fun x _ hx => ⟨fun e => (by cases e), fun hd => by have := ((hN.is x).1 hd).1; omega⟩⟩
        clear h hc hFC hN HA g
        go_enter Try.func38, Try.ntmps38
        go_wp2_with fail
        go_quiet (fail)
        go_wp2_with fail
        go_ret2
        exact (HT.out ⟨_, drewN_below _ _⟩).ret
      · have h2b : decide (m < o.lo) = false := decide_eq_false h2
        have hmx : max m o.lo = m := by omega
        by_cases h3 : o.unt ≤ m
        · have h3b : decide (o.unt ≤ m) = true := decide_eq_true h3
          have hkd := hN.kd
          rw [hmx] at hkd
          have HC := Lib.hid (plook_any g c HA b o K m n k F C w hN.blk hN.ok hkd h3 hc hN.fb hFC ⟨m0, m1⟩ (by omega))
          have HFb : Hid (F b) := hN.fb
          have HLT := Lib.hid hN.lt
          have HIS := Lib.hid hN.is
          clear h hc hFC hN HA g hkd c3 HN
          go_enter Try.func38, Try.ntmps38
          go_wp2_with fail
          go_at_call 49
          refine HC.out.mono ?_
          rintro e w' ⟨inn, u, rfl, o', n2, k2, l1, l2, l3, l4, l5, l6, l7, l8, l9, l10, l11⟩
          have e3 : _ = some (Value.bool o'.inn) := blk_cell l1 (i := 3) rfl
          have ef := blk_free l1
          have b1 := block_setCell l1 (i := 3) (.bool inn)
          have e4 : _ = some (Value.int .i64 o'.unt) := blk_cell b1 (i := 4) rfl
          have ef1 := blk_free b1
          have b2 := block_setCell b1 (i := 4) (.int .i64 u)
          obtain ⟨W1, hW1⟩ : ∃ W1, w'.setCell ⟨b, 3, none⟩ (.bool inn) = W1 := ⟨_, rfl⟩
          rw [hW1] at b1 b2 e4 ef1
          have ho1 : Off (fun x => x = b) w' W1 := by rw [← hW1]; exact (Off.refl (fun x => x = b) w').setCell (b := b) (.inl rfl) _
          obtain ⟨W2, hW2⟩ : ∃ W2, W1.setCell ⟨b, 4, none⟩ (.int .i64 u) = W2 := ⟨_, rfl⟩
          rw [hW2] at b2
          have ho2 : Off (fun x => x = b) w' W2 := by rw [← hW2]; exact ho1.setCell (b := b) (.inl rfl) _
          have ok2 : ({ o' with inn := inn, unt := u } : Ob).Ok := ⟨l4.lo, l4.hi, l9, l4.h1, l4.h2, l4.ah, l4.be, l4.lg, l4.gn⟩
          have HN2 : Hid (Nd R c W2 b { o' with inn := inn, unt := u } K D m n2 F) := by
            refine ⟨b2, HFb.out, fun x hx => Nat.lt_of_lt_of_le (HLT.out x hx) (Nat.le_trans l8.size ho2.size), ok2, ?_, ?_, ?_⟩
            · show ∀ x, D x ↔ o'.lo ≤ x ∧ x < o'.hi ∧ K x
              rw [l2, l3]; exact HIS.out
            · show ∀ x, max m o'.lo ≤ x → x < u → (inn = true ↔ K x)
              rw [l2, hmx]; exact l11
            · show Kd R W2 b { o' with inn := inn, unt := u } c K (max m o'.lo) n2 F
              rw [show max m o'.lo = m by rw [l2]; exact hmx]
              exact Kd.own HG.out l5 ho2
          have HAF := Lib.hid (fun gr : Gr W2 => known_at HG.out (k := k) (n := n) HN2.out (l6.off ho2 fun x hx e => HFC.out b HFb.out (e ▸ hx)) l7 (l8.trans ho2 fun x hx => .inl (.inl (hx ▸ HFb.out))) (by show o'.lo ≤ m; omega) (by show m < o'.hi; omega) l10 gr)
          simp only at HAF
          have HBK : Hid (∀ gr : Gr W2, gr.val.cell? ⟨b, 2, none⟩ = some (.int .i64 o.hi) ∧ gr.val.cell? ⟨b, 3, none⟩ = some (.bool inn) ∧ gr.val.cell? ⟨b, 4, none⟩ = some (.int .i64 u)) := fun gr => by
            have hb := blk_below b2 gr.ok
            exact ⟨by rw [← l3]; exact blk_cell hb rfl, blk_cell hb rfl, blk_cell hb rfl⟩
          rw [l2, l3] at HAF
          obtain ⟨hi, hhi⟩ : ∃ v, o.hi = v := ⟨_, rfl⟩
          have HHI := Lib.hid hhi
          rw [hhi] at HAF HBK c2 h1 h1b
          clear l1 l2 l3 l4 l5 l6 l7 l8 l9 l10 l11 b1 b2 ho1 ho2 ok2 hhi
          have HWW := Lib.hid hW2
          obtain ⟨f2, f3, f4⟩ := HBK.out ⟨W2, Below.refl _ _⟩
          go_upto_region 7 with fail
          try rw [hW1]
          try rw [hW2]
          clear hW1 hW2 e3 e4 ef ef1 c1 c2 c4
          have hmin := min_forms u hi
          obtain ⟨x, hx, x1, x2, x3, x4⟩ := hmin
          have HX := Lib.hid hx
          clear hx
          cases hin : inn with
          | true =>
            have HIN := Lib.hid hin
            rw [hin] at f3
            clear hin
            skip
            go_quiet (fail)
            obtain ⟨g2, hg2⟩ : ∃ g2 : Gr W2, W2.drewN nq = g2.val := ⟨⟨_, drewN_below _ _⟩, rfl⟩
            rw [hg2]
            clear hg2
            obtain ⟨f2', f3', f4'⟩ := HBK.out g2
            rw [HIN.out] at f3'
            go_wp2_with fail
            go_quiet (fail)
            obtain ⟨g3, hg3⟩ : ∃ g3 : Gr W2, g2.val.drewN nq = g3.val := g2.on (drewN_below _ _)
            rw [hg3]
            clear hg3
            go_wp2_with fail
            go_ret2
            have hA := (HAF.out g3).2 (.inl HIN.out)
            rw [HX.out, HIN.out] at hA
            rw [← HHI.out] at hA
            exact hA.ret
          | false =>
            have HIN := Lib.hid hin
            rw [hin] at f3
            clear hin
            by_cases hhu : hi ≤ u
            · have hhub : decide (hi ≤ u) = true := decide_eq_true hhu
              skip
              go_quiet (fail)
              obtain ⟨g2, hg2⟩ : ∃ g2 : Gr W2, W2.drewN nq = g2.val := ⟨⟨_, drewN_below _ _⟩, rfl⟩
              rw [hg2]
              clear hg2
              go_wp2_with fail
              go_ret2
              have hA := (HAF.out g2).1 HIN.out hhu
              rw [← HHI.out] at hA
              exact hA.ret
            · have hhub : decide (hi ≤ u) = false := decide_eq_false hhu
              skip
              go_quiet (fail)
              obtain ⟨g2, hg2⟩ : ∃ g2 : Gr W2, W2.drewN nq = g2.val := ⟨⟨_, drewN_below _ _⟩, rfl⟩
              rw [hg2]
              clear hg2
              obtain ⟨f2', f3', f4'⟩ := HBK.out g2
              rw [HIN.out] at f3'
              go_wp2_with fail
              go_quiet (fail)
              obtain ⟨g3, hg3⟩ : ∃ g3 : Gr W2, g2.val.drewN nq = g3.val := g2.on (drewN_below _ _)
              rw [hg3]
              clear hg3
              go_wp2_with fail
              go_ret2
              have hA := (HAF.out g3).2 (.inr (by omega))
              rw [HX.out, HIN.out, show x = u by have := HX.out; omega] at hA
              rw [← HHI.out] at hA
              exact hA.ret
        · have h3b : decide (o.unt ≤ m) = false := decide_eq_false h3
          have HAF := Lib.hid (fun gr : Gr w => known_at g (k := k) (n := n) hN hc (Nat.le_refl _) (Off.refl (fun x => F x ∨ C x) w) (by omega) (by omega) (by omega) gr)
          have HBK : Hid (∀ gr : Gr w, gr.val.cell? ⟨b, 2, none⟩ = some (.int .i64 o.hi) ∧ gr.val.cell? ⟨b, 3, none⟩ = some (.bool o.inn) ∧ gr.val.cell? ⟨b, 4, none⟩ = some (.int .i64 o.unt)) := fun gr => by
            have hb := blk_below hN.blk gr.ok
            exact ⟨blk_cell hb rfl, blk_cell hb rfl, blk_cell hb rfl⟩
          clear h hc hFC hN HA g c3 HN
          obtain ⟨hi, hhi⟩ : ∃ v, o.hi = v := ⟨_, rfl⟩
          have HHI := Lib.hid hhi
          rw [hhi] at HAF HBK c2 h1 h1b
          obtain ⟨u, hu⟩ : ∃ v, o.unt = v := ⟨_, rfl⟩
          rw [hu] at HAF HBK c4 h3 h3b
          obtain ⟨inn, hinn⟩ : ∃ v, o.inn = v := ⟨_, rfl⟩
          rw [hinn] at HAF HBK
          clear hhi hu hinn
          obtain ⟨f2, f3, f4⟩ := HBK.out ⟨w, Below.refl _ _⟩
          have hmin := min_forms u hi
          obtain ⟨x, hx, x1, x2, x3, x4⟩ := hmin
          have HX := Lib.hid hx
          clear hx
          cases hin : inn with
          | true =>
            have HIN := Lib.hid hin
            rw [hin] at f3
            clear hin
            go_enter Try.func38, Try.ntmps38; go_upto_region 7 with fail
            go_quiet (fail)
            obtain ⟨g2, hg2⟩ : ∃ g2 : Gr w, w.drewN nq = g2.val := ⟨⟨_, drewN_below _ _⟩, rfl⟩
            rw [hg2]
            clear hg2
            obtain ⟨f2', f3', f4'⟩ := HBK.out g2
            rw [HIN.out] at f3'
            go_wp2_with fail
            go_quiet (fail)
            obtain ⟨g3, hg3⟩ : ∃ g3 : Gr w, g2.val.drewN nq = g3.val := g2.on (drewN_below _ _)
            rw [hg3]
            clear hg3
            go_wp2_with fail
            go_ret2
            have hA := (HAF.out g3).2 (.inl HIN.out)
            rw [HX.out, HIN.out] at hA
            rw [← HHI.out] at hA
            exact hA.ret
          | false =>
            have HIN := Lib.hid hin
            rw [hin] at f3
            clear hin
            by_cases hhu : hi ≤ u
            · have hhub : decide (hi ≤ u) = true := decide_eq_true hhu
              go_enter Try.func38, Try.ntmps38; go_upto_region 7 with fail
              go_quiet (fail)
              obtain ⟨g2, hg2⟩ : ∃ g2 : Gr w, w.drewN nq = g2.val := ⟨⟨_, drewN_below _ _⟩, rfl⟩
              rw [hg2]
              clear hg2
              go_wp2_with fail
              go_ret2
              have hA := (HAF.out g2).1 HIN.out hhu
              rw [← HHI.out] at hA
              exact hA.ret
            · have hhub : decide (hi ≤ u) = false := decide_eq_false hhu
              go_enter Try.func38, Try.ntmps38; go_upto_region 7 with fail
              go_quiet (fail)
              obtain ⟨g2, hg2⟩ : ∃ g2 : Gr w, w.drewN nq = g2.val := ⟨⟨_, drewN_below _ _⟩, rfl⟩
              rw [hg2]
              clear hg2
              obtain ⟨f2', f3', f4'⟩ := HBK.out g2
              rw [HIN.out] at f3'
              go_wp2_with fail
              go_quiet (fail)
              obtain ⟨g3, hg3⟩ : ∃ g3 : Gr w, g2.val.drewN nq = g3.val := g2.on (drewN_below _ _)
              rw [hg3]
              clear hg3
              go_wp2_with fail
              go_ret2
              have hA := (HAF.out g3).2 (.inr (by omega))
              rw [HX.out, HIN.out, show x = u by have := HX.out; omega] at hA
              rw [← HHI.out] at hA
              exact hA.ret
theorem pat_rof {R : KR} (g : KG R) (c : Value) (HA : AtC R c) : AtC (Rof (StN R c)) c := by
  intro w p D q n F k C m ⟨lo, hi, h⟩ hc hFC hq hm
  refine (pat_any g c HA lo hi w p D q n F k C m h hc hFC hq hm).mono ?_
  rintro e w' ⟨inn, u, rfl, hT⟩
  exact (hT.mono fun _ _ _ _ _ _ h => ⟨lo, hi, h⟩).ret
theorem StN.kgat {R : KR} {c : Value} (g : KG R) (lo hi : Int) : KG (Rat (StN R c) lo hi) :=
  ⟨fun h => StN.lt h, fun h ho hG => StN.off g h ho hG, fun h hq => StN.qm g h hq, fun h => StN.ptr h⟩
theorem Lv.at_ (c : Value) : ∀ d, AtC (Rof (Lv c d)) c
  | 0 => pat_rof kg_none c fun _ _ _ _ _ _ _ _ _ h => h.elim
  | d + 1 => pat_rof (Lv.kg c d) c (Lv.at_ c d)
theorem Lv.node' (c : Value) : ∀ (d : Nat), ∃ R, KG R ∧ AtC R c ∧ ∀ {w p D lo hi q n F}, Lv c d w p D lo hi q n F ↔ StN R c w p D lo hi q n F
  | 0 => ⟨_, kg_none, fun _ _ _ _ _ _ _ _ _ h => h.elim, Iff.rfl⟩
  | d + 1 => ⟨_, Lv.kg c d, Lv.at_ c d, Iff.rfl⟩
end Go.Proofs.Ytibnbpiachdmdaa
end
/- Contracts of the program's streams: the next span; what is ahead of a minute is left out. -/
section
namespace Go.Proofs.Ytibnbpiachdmdaa
open Go.ChangeShapes Go.WideShapes Go.ChangeAt Go.RowKit Go.Joins Sp
/-- Up to where all minutes are in, or all aren't. -/
def StayRet (R : KR) (c : Value) (w : World) (p : Value) (D : Int → Prop) (m : Int) (inn : Bool) (n k : Nat) (F C : Nat → Prop) (e : Ending) (w' : World) : Prop :=
  ∃ u n' k', e = .returned (.int .i64 u) ∧ R w' p D u n' F ∧ CtAt w' c k' C ∧ k' + n' ≤ k + n ∧ Off (fun x => F x ∨ C x) w w' ∧ m ≤ u ∧ u ≤ 9223372036854775807 ∧ (∀ x, m ≤ x → x < u → (inn = true ↔ D x)) ∧ (u < 9223372036854775807 → ¬ (inn = true ↔ D u))
def StayIn (R : KR) (c : Value) (w : World) (p : Value) (D : Int → Prop) (m : Int) (inn : Bool) (n k : Nat) (F C : Nat → Prop) (u : Int) (w' : World) : Prop :=
  ∃ n' k', R w' p D u n' F ∧ CtAt w' c k' C ∧ k' + n' ≤ k + n ∧ Off (fun x => F x ∨ C x) w w' ∧ ∀ x, m ≤ x → x < u → (inn = true ↔ D x)
set_option maxRecDepth 100000 in
set_option maxHeartbeats 4000000 in
theorem pstays_any {R : KR} (g : KG R) (c : Value) (HA : AtC R c) (p : Value) (D : Int → Prop) (q : Int) (n k : Nat) (F C : Nat → Prop) (m : Int) (inn : Bool) (w : World) (h : R w p D q n F) (hc : CtAt w c k C) (hFC : ∀ x, F x → ¬ C x) (hq : q ≤ m) (hm : Int64P m) :
    Calls Try.prog 32 #[p, .int .i64 m, .bool inn] w (StayRet R c w p D m inn n k F C) := by
  obtain ⟨pa, rfl⟩ := g.ptr h
  have HST : Hid (StayIn R c w (.pointer pa) D m inn n k F C m w) := ⟨n, k, g.qm h hq, hc, Nat.le_refl _, .refl _ _, fun x _ _ => by omega⟩
  have HAC := Lib.hid HA
  have HG := Lib.hid g
  have HFC := Lib.hid hFC
  obtain ⟨m0, m1⟩ := hm
  clear h hc hFC HA g hq
  go_enter Try.func32, Try.ntmps32
  go_wp2_with fail
  go_loopw [1] (fun s1 wr => ∃ u : Int, s1 = .int .i64 u ∧ m ≤ u ∧ u ≤ 9223372036854775807 ∧ Hid (StayIn R c w (.pointer pa) D m inn n k F C u wr)) (fun s1 _ => (9223372036854775807 - intOf s1).toNat)
  case atStart => exact ⟨m, rfl, Int.le_refl _, m1, HST.out⟩
  case round =>
    obtain ⟨u, rfl, hmu, hue, HI⟩ := hrel
    by_cases hlt : u < 9223372036854775807
    · obtain ⟨n1, k1, i1, i2, i3, i4, i5⟩ := HI.out
      have HC := Lib.hid (HAC.out wr _ D u n1 F k1 C u i1 i2 HFC.out (Int.le_refl _) ⟨by omega, hue⟩)
      have I3 := Lib.hid i3
      have I4 := Lib.hid i4
      have I5 := Lib.hid i5
      clear i1 i2 i3 i4 i5
      go_wp2_with fail
      go_at_call 38
      refine HC.out.mono ?_
      rintro e w' ⟨in2, u2, rfl, n2, k2, a1, a2, a3, a4, a5, a6, a7, a8⟩
      have hu2 := a6.2 hlt
      have HA1 := Lib.hid (HG.out.qm a1 (Int.le_refl u))
      have HN : Hid (StayIn R c w (.pointer pa) D u inn n k F C u w' ∧ (in2 = inn → StayIn R c w (.pointer pa) D m inn n k F C u2 w')) := by
        have := I3.out
        refine ⟨⟨n2, k2, a1, a2, by omega, I4.out.trans' a4, fun x _ _ => by omega⟩, fun e => ⟨n2, k2, HG.out.qm a1 (by omega), a2, by omega, I4.out.trans' a4, fun x hx hx2 => ?_⟩⟩
        by_cases h3 : x < u
        · exact I5.out x hx h3
        · rw [← e]; exact a8 x (by omega) hx2
      have HU2 := Lib.hid a5
      have A8 := Lib.hid (a8 u (Int.le_refl _) hu2)
      clear a1 a2 a3 a4 a5 a6 a7 a8 HA1
      by_cases hin : in2 = inn
      · subst hin
        have hbb : (in2 != in2) = false := by cases in2 <;> rfl
        go_wp2_with fail
        go_roundw
        case rel => exact ⟨u2, rfl, by omega, HU2.out.2, HN.out.2 (by trivial)⟩
        case measure => have := HU2.out.2; simp [intOf]; omega
      · have hbb : (in2 == inn) = false := by simpa using hin
        have hnb : ¬ (inn = true ↔ D u) := fun h => hin (by have := A8.out; cases in2 <;> cases inn <;> simp_all)
        have HNB := Lib.hid hnb
        have HIN := Lib.hid hin
        clear hin hnb
        go_wp2_with fail
        go_ret
        obtain ⟨n3, k3, s1, s2, s3, s4, _⟩ := HN.out.1
        exact ⟨u, n3, k3, rfl, s1, s2, s3, s4, hmu, hue, I5.out, fun _ => HNB.out⟩
    · obtain rfl : u = 9223372036854775807 := by omega
      go_wp2_with fail
      go_ret
      obtain ⟨n3, k3, s1, s2, s3, s4, s5⟩ := HI.out
      exact ⟨_, n3, k3, rfl, s1, s2, s3, s4, hmu, hue, s5, fun h => by omega⟩
/-- A stream in memory, by the row that is left of it. -/
def StL : StP := fun w c p L n F => form L ∧ In64 L ∧ ∃ d lo hi, Lv c d w p (fun x => has L x) lo hi (-9223372036854775808) n F
/-- What lies ahead of a minute is left out. -/
theorem Nd.skip {R : KR} (g : KG R) {c : Value} {w : World} {b : Nat} {o : Ob} {K D : Int → Prop} {q : Int} {n : Nat} {F : Nat → Prop} (h : Nd R c w b o K D q n F) {t : Int} (ht : Int64P t) (h1 : o.lo ≤ t) (h2 : q ≤ t) :
    Nd R c (w.setCell ⟨b, 1, none⟩ (.int .i64 t)) b { o with lo := t } K (fun x => t ≤ x ∧ D x) (-9223372036854775808) n F := by
  have ho : Off (fun x => x = b) w (w.setCell ⟨b, 1, none⟩ (.int .i64 t)) := (Off.refl (fun x => x = b) w).setCell (b := b) (.inl rfl) _
  have hk := (h.kd.qm g (Q' := t) (by omega)).own g ho
  refine ⟨block_setCell h.blk (i := 1) _, h.fb, fun k hk => Nat.lt_of_lt_of_le (h.lt k hk) ho.size, ⟨ht, h.ok.hi, h.ok.unt, h.ok.h1, h.ok.h2, h.ok.ah, h.ok.be, h.ok.lg, h.ok.gn⟩, fun x => ?_, fun x hx => h.known x (by simp only at hx; omega), ?_⟩
  · rw [h.is x]
    exact ⟨fun ⟨q1, _, q2, q3⟩ => ⟨q1, q2, q3⟩, fun ⟨q1, q2, q3⟩ => ⟨q1, by have : t ≤ x := q1; omega, q2, q3⟩⟩
  · have e : max (-9223372036854775808) t = t := by have := ht.1; omega
    show Kd R _ b { o with lo := t } c K (max (-9223372036854775808) t) n F
    rw [e]
    cases hk with
    | row r kd ct sl rn f i64 blk k hd => exact .row r kd ct sl rn f i64 blk k hd
    | many ps Ds st kd kids k1 k2 => exact .many ps Ds st kd kids k1 k2
    | gaps p D kd kids k => exact .gaps p D kd kids k
    | grow p D kd kids a0 b0 k j1 j2 => exact .grow p D kd kids a0 b0 k j1 j2
    | starts p D kd kids l1 k j => exact .starts p D kd kids l1 k j
set_option maxRecDepth 100000 in
theorem pskipF_any (w : World) (c p : Value) (L : List Spn) (n : Nat) (F : Nat → Prop) (m : Int) (hm : Int64P m) (h : StL w c p L n F) :
    Calls Try.prog 20 #[p, .int .i64 m] w fun e w' => e = .returned (.tuple #[]) ∧ StL w' c p (behindL L m) n F ∧ Off F w w' := by
  obtain ⟨hf, hi64, d, lo, hi, hl⟩ := h
  have hbf := behindL_form hf m
  have hb64 : In64 (behindL L m) := fun s hs => by
    obtain ⟨t, ht, e⟩ := List.mem_filterMap.1 hs
    have := hi64 t ht
    unfold Int64P at hm
    split at e
    · obtain rfl := Option.some.inj e; dsimp only; omega
    · cases e
  obtain ⟨R, g, _, hR⟩ := Lv.node' c d
  rw [hR] at hl
  rcases hl with ⟨rfl, hD, rfl, rfl, hlt⟩ | ⟨b, o, K, rfl, rfl, rfl, hN⟩
  · have HE : Hid (StL w c (.pointer none) (behindL L m) n F) := ⟨hbf, hb64, d, _, _, hR.2 (.inl ⟨rfl, fun x hx => hD x ((behindL_has L m x).1 hx).2, rfl, rfl, hlt⟩)⟩
    clear hf hi64 hbf hb64 hD hlt hR g
    go_enter Try.func20, Try.ntmps20
    go_wp2_with fail
    first | go_end0 | refine bodyPost_ret (results_none rfl _ _ _) rfl ?_
    exact ⟨rfl, HE.out, .refl _ _⟩
  · obtain ⟨lo0, lo1⟩ := hN.ok.lo
    obtain ⟨x, hx, x1, x2, x3, x4⟩ := max_forms o.lo m
    obtain ⟨m0, m1⟩ := hm
    have HS : Hid (StL (w.setCell ⟨b, 1, none⟩ (.int .i64 x)) c (.pointer (some ⟨b, 0, none⟩)) (behindL L m) n F) := by
      refine ⟨hbf, hb64, d, _, _, hR.2 (.inr ⟨b, { o with lo := x }, K, rfl, rfl, rfl, ?_⟩)⟩
      have h2 := hN.skip g (t := x) ⟨by omega, by omega⟩ (by omega) (by omega)
      exact ⟨h2.blk, h2.fb, h2.lt, h2.ok, fun y => by
        rw [behindL_has, ← h2.is y]
        exact ⟨fun ⟨q1, q2⟩ => ⟨by have := ((hN.is y).1 q2).1; omega, q2⟩, fun ⟨q1, q2⟩ => ⟨by omega, q2⟩⟩, h2.known, h2.kd⟩
    have HO : Hid (Off F w (w.setCell ⟨b, 1, none⟩ (.int .i64 x))) := (Off.refl F w).setCell (b := b) (.inl hN.fb) _
    have c1 : _ = some (Value.int .i64 o.lo) := blk_cell hN.blk (i := 1) rfl
    have cf := blk_free hN.blk
    obtain ⟨y, hy⟩ : ∃ y, o.lo = y := ⟨_, rfl⟩
    rw [hy] at c1 x1 x2 x3 x4
    clear hf hi64 hbf hb64 hN hR g hx hy lo0 lo1
    go_enter Try.func20, Try.ntmps20
    go_wp2_with fail
    first | go_end0 | refine bodyPost_ret (results_none rfl _ _ _) rfl ?_
    exact ⟨rfl, HS.out, HO.out⟩
end Go.Proofs.Ytibnbpiachdmdaa
end
/- Contracts of the program's streams: the next span. -/
section
namespace Go.Proofs.Ytibnbpiachdmdaa
open Go.ChangeShapes Go.WideShapes Go.ChangeAt Go.RowKit Go.Joins Sp
theorem StL.off {w w' : World} {c p : Value} {L : List Spn} {n : Nat} {F G : Nat → Prop} (h : StL w c p L n F) (ho : Off G w w') (hG : ∀ b, F b → ¬ G b) : StL w' c p L n F := by
  obtain ⟨h1, h2, d, lo, hi, h⟩ := h
  obtain ⟨R, g, _, hR⟩ := Lv.node' c d
  exact ⟨h1, h2, d, lo, hi, hR.2 ((hR.1 h).off g ho hG)⟩
/-- The next span was handed out. -/
def NextRet (w : World) (c p : Value) (L : List Spn) (n : Nat) (F : Nat → Prop) (k : Nat) (C : Nat → Prop) (e : Ending) (w' : World) : Prop :=
  ∃ (L' : List Spn) (n' k' : Nat) (x1 x2 : Int) (ok : Bool), e = .returned (.tuple #[.agg #[.int .i64 x1, .int .i64 x2], .bool ok]) ∧
      (L = [] ∧ L' = [] ∧ x1 = 0 ∧ x2 = 0 ∧ ok = false ∨ L = (x1, x2) :: L' ∧ ok = true) ∧ StL w' c p L' n' F ∧ CtAt w' c k' C ∧ k' + n' ≤ k + n ∧ Off (fun b => F b ∨ C b) w w'
set_option maxRecDepth 100000 in
set_option maxHeartbeats 4000000 in
theorem pnext_any (w : World) (c p : Value) (L : List Spn) (n : Nat) (F : Nat → Prop) (k : Nat) (C : Nat → Prop) (h : StL w c p L n F) (hc : CtAt w c k C) (hFC : ∀ b, F b → ¬ C b) :
    Calls Try.prog 21 #[p] w (NextRet w c p L n F k C) := by
  have hSL := h
  obtain ⟨hf, hi64, d, lo, hi, hl⟩ := h
  obtain ⟨R, g, HA, hR⟩ := Lv.node' c d
  rw [hR] at hl
  rcases hl with ⟨rfl, hD, rfl, rfl, hlt⟩ | ⟨b, o, K, rfl, rfl, rfl, hN⟩
  · have hb : Below w.heap.size w (w.alloc (.cells #[.int .i64 0, .int .i64 0] 26)) := (Below.refl _ w).alloc (Nat.le_refl _) _
    have hLn : L = [] := next_none hf (lo := 0) (fun x hx => absurd hx (hD x)) fun x _ => hD x
    have HR : Hid (NextRet w c (.pointer none) L n F k C (.returned (.tuple #[.agg #[.int .i64 0, .int .i64 0], .bool false])) (w.alloc (.cells #[.int .i64 0, .int .i64 0] 26))) :=
      ⟨[], n, k, 0, 0, false, rfl, .inl ⟨hLn, rfl, rfl, rfl, rfl⟩, hLn ▸ hSL.off (G := fun _ => False) (.of_below hb) fun _ _ => id, hc.off (G := fun _ => False) (.of_below hb) fun _ _ => id, Nat.le_refl _, .of_below hb⟩
    have H0 := heap_alloc_new w (.cells #[.int .i64 0, .int .i64 0] 26)
    have z0 : _ = some (Value.int .i64 0) := blk_cell (i := 0) H0 rfl
    have z1 : _ = some (Value.int .i64 0) := blk_cell (i := 1) H0 rfl
    have Z0 := Lib.hid z0
    have Z1 := Lib.hid z1
    clear hf hi64 hD hlt hR g HA hSL hc hFC hb H0 hLn z0 z1
    go_enter Try.func21, Try.ntmps21
    go_wp2_with fail
    have z0 := Z0.out
    have z1 := Z1.out
    exact bodyPost_ret (v := .tuple #[.agg #[.int .i64 0, .int .i64 0], .bool false]) (by simp [results, Try.results21, go_sem, z0, z1]) rfl HR.out
  · obtain ⟨lo0, lo1⟩ := hN.ok.lo
    obtain ⟨hi0, hi1⟩ := hN.ok.hi
    obtain ⟨W0, hW0⟩ : ∃ W0, w.alloc (.cells #[.int .i64 0, .int .i64 0] 26) = W0 := ⟨_, rfl⟩
    have hb0 : Below w.heap.size w W0 := by rw [← hW0]; exact (Below.refl _ w).alloc (Nat.le_refl _) _
    have ho0 : Off (fun _ => False) w W0 := .of_below hb0
    have hN0 := hN.off g ho0 fun _ _ => id
    have hc0 := hc.off ho0 fun _ _ => id
    have hbx : W0.heap[w.heap.size]? = some (.cells #[.int .i64 0, .int .i64 0] 26 (0, 0)) := by rw [← hW0]; exact heap_alloc_new _ _
    have c1 : _ = some (Value.int .i64 o.lo) := blk_cell hN0.blk (i := 1) rfl
    have HNB : Hid (¬ F w.heap.size ∧ ¬ C w.heap.size) := ⟨fun hx => by have := hN.lt _ hx; omega, fun hx => by have := hc.1 _ hx; omega⟩
    have HG2 := Lib.hid (StN.kgat (c := c) g o.lo o.hi)
    have HA2 := Lib.hid (pat_any g c HA o.lo o.hi)
    have HC1 := Lib.hid (pstays_any HG2.out c HA2.out (.pointer (some ⟨b, 0, none⟩)) (fun x => has L x) (-9223372036854775808) n k F C o.lo false W0 (.inr ⟨b, o, K, rfl, rfl, rfl, hN0⟩) hc0 hFC lo0 ⟨lo0, lo1⟩)
    have HFC := Lib.hid hFC
    have HFM := Lib.hid hf
    have HI6 := Lib.hid hi64
    have HRR : Hid (∀ w p D lo hi q n F, StN R c w p D lo hi q n F → Lv c d w p D lo hi q n F) := fun _ _ _ _ _ _ _ _ => hR.2
    have HG := Lib.hid g
    have HO0 := Lib.hid ho0
    have HBX := Lib.hid hbx
    have HRM : Hid (∀ x, has L x → o.lo ≤ x ∧ x < 9223372036854775807) := fun x hx => by have := (hN.is x).1 hx; exact ⟨this.1, by omega⟩
    have HFb : Hid (F b) := hN.fb
    have HW0 := Lib.hid hW0
    obtain ⟨lo, hlo⟩ : ∃ v, o.lo = v := ⟨_, rfl⟩
    rw [hlo] at c1 HC1 HRM HG2 HA2 lo0 lo1
    have HLO := Lib.hid hlo
    clear hf hi64 hN hN0 hc hc0 hbx hFC hSL g HA hR ho0 hb0 hlo
    go_enter Try.func21, Try.ntmps21
    go_wp2_with fail
    go_at_call 32
    refine HC1.out.mono ?_
    rintro e w1 ⟨fr, n1, k1, rfl, r1, ct1, s1, o1, m1, e1, in1, nx1⟩
    have HC2 := Lib.hid (pstays_any HG2.out c HA2.out (.pointer (some ⟨b, 0, none⟩)) (fun x => has L x) fr n1 k1 F C fr true w1 r1 ct1 HFC.out (Int.le_refl _) ⟨by omega, e1⟩)
    have HS1 := Lib.hid s1
    have HO1 := Lib.hid o1
    have HI1 := Lib.hid in1
    have HX1 := Lib.hid nx1
    clear r1 ct1 s1 o1 in1 nx1 hW0
    go_wp2_with fail
    go_at_call 32
    refine HC2.out.mono ?_
    rintro e w2 ⟨to, n2, k2, rfl, r2, ct2, s2, o2, m2, e2, in2, nx2⟩
    obtain ⟨b', ob, K2, eb, l1, l2, hN2⟩ : ∃ b' ob K2, (Value.pointer (some ⟨b, 0, none⟩)) = .pointer (some ⟨b', 0, none⟩) ∧ ob.lo = lo ∧ ob.hi = o.hi ∧ Nd R c w2 b' ob K2 (fun x => has L x) to n2 F := by
      rcases r2 with ⟨e, _⟩ | h
      · cases e
      · exact h
    obtain rfl : b = b' := by simpa using eb
    have hN3 := hN2.skip HG.out (t := to) ⟨by omega, e2⟩ (by omega) (Int.le_refl _)
    have d1 : _ = some (Value.int .i64 ob.lo) := blk_cell hN2.blk (i := 1) rfl
    have df := blk_free hN2.blk
    obtain ⟨W3, hW3⟩ : ∃ W3, w2.setCell ⟨b, 1, none⟩ (.int .i64 to) = W3 := ⟨_, rfl⟩
    rw [hW3] at hN3
    have ho3 : Off (fun x => x = b) w2 W3 := by rw [← hW3]; exact (Off.refl (fun x => x = b) w2).setCell (b := b) (.inl rfl) _
    have hoA : Off (fun x => F x ∨ C x) W0 W3 := (HO1.out.trans' o2).trans ho3 fun x hx => .inl (.inl (hx ▸ HFb.out))
    have hbx := hoA.heap HBX.out fun hx => hx.elim HNB.out.1 HNB.out.2
    have HCT : Hid (CtAt W3 c k2 C) := ct2.off ho3 fun x hx e => HFC.out b HFb.out (e ▸ hx)
    have hS : k2 + n2 ≤ k + n := by have := HS1.out; omega
    have HEND : Hid (∀ (L' : List Spn) (x1 x2 y1 y2 : Int) (ok : Bool), form L' → (∀ x, has L' x ↔ to ≤ x ∧ has L x) → (L = [] ∧ L' = [] ∧ x1 = 0 ∧ x2 = 0 ∧ ok = false ∨ L = (x1, x2) :: L' ∧ ok = true) →
        NextRet w c (.pointer (some ⟨b, 0, none⟩)) L n F k C (.returned (.tuple #[.agg #[.int .i64 x1, .int .i64 x2], .bool ok])) ((W3.setCell ⟨w.heap.size, 0, none⟩ (.int .i64 y1)).setCell ⟨w.heap.size, 1, none⟩ (.int .i64 y2))) := by
      intro L' x1 x2 y1 y2 ok hf' hh ho
      have hoB : Off (fun x => x = w.heap.size) W3 ((W3.setCell ⟨w.heap.size, 0, none⟩ (.int .i64 y1)).setCell ⟨w.heap.size, 1, none⟩ (.int .i64 y2)) := ((Off.refl (fun x => x = w.heap.size) W3).setCell (b := w.heap.size) (.inl rfl) _).setCell (b := w.heap.size) (.inl rfl) _
      refine ⟨L', n2, k2, x1, x2, ok, rfl, ho, ⟨hf', form_bd hf' fun x hx => ?_, d, to, o.hi, HRR.out _ _ _ _ _ _ _ _ (StN.off HG.out (StN.congr (.inr ⟨b, { ob with lo := to }, K2, rfl, rfl, l2, hN3⟩) hh) hoB fun x hx e => HNB.out.1 (e ▸ hx))⟩, HCT.out.off hoB fun x hx e => HNB.out.2 (e ▸ hx), hS, ?_⟩
      · have := (hh x).1 hx
        have h2 := HRM.out x this.2
        omega
      · exact ((HO0.out.mono (G := fun x => F x ∨ C x) fun _ _ h => h.elim).trans' hoA).trans hoB fun x hx => .inr (by omega)
    have q0 : _ = some (Value.int .i64 0) := blk_cell (i := 0) hbx rfl
    have qf := blk_free hbx
    have HI2 := Lib.hid in2
    have HX2 := Lib.hid nx2
    have hbx1 := block_setCell hbx (i := 0) (.int .i64 fr)
    have q1 : _ = some (Value.int .i64 0) := blk_cell (i := 1) hbx1 rfl
    have qf1 := blk_free hbx1
    have hbx2 := block_setCell hbx (i := 0) (.int .i64 0)
    have q2 : _ = some (Value.int .i64 0) := blk_cell (i := 1) hbx2 rfl
    have qf2 := blk_free hbx2
    have HB3 := Lib.hid hbx
    clear r2 ct2 s2 o2 in2 nx2 hN2 hN3 ho3 hoA hbx hbx1 hbx2 eb
    by_cases hft : fr = to
    · subst hft
      have hL : L = [] := by
        have hfe : fr = 9223372036854775807 := by
          by_cases h : fr < 9223372036854775807
          · have := HX1.out h
            have := HX2.out h
            simp_all
          · omega
        refine next_none HFM.out (lo := lo) (fun x hx => (HRM.out x hx).1) fun x hx hh => ?_
        have h2 := HRM.out x hh
        have := (HI1.out x hx (by omega)).2 hh
        cases this
      have HR := Lib.hid (HEND.out [] 0 0 0 0 false trivial (fun x => ⟨fun h => absurd h (has_nil x), fun h => absurd (hL ▸ h.2) (has_nil x)⟩) (.inl ⟨hL, rfl, rfl, rfl, rfl⟩))
      have hz := two_set HB3.out (.int .i64 0) (.int .i64 0)
      have z0 : _ = some (Value.int .i64 0) := blk_cell (i := 0) hz rfl
      have z1 : _ = some (Value.int .i64 0) := blk_cell (i := 1) hz rfl
      have Z0 := Lib.hid z0
      have Z1 := Lib.hid z1
      clear z0 z1 hz HEND hL
      go_wp2_with fail
      have z0 := Z0.out
      have z1 := Z1.out
      exact bodyPost_ret (v := .tuple #[.agg #[.int .i64 0, .int .i64 0], .bool false]) (by simp [results, Try.results21, go_sem, z0, z1]) rfl HR.out
    · have hftb : (fr == to) = false := by simpa using hft
      obtain ⟨r, hr1, hr2, hr3⟩ := next_some HFM.out (lo := lo) (a := fr) (b := to) (fun x hx => (HRM.out x hx).1) m1 (fun x h1 h2 hh => by have := (HI1.out x h1 h2).2 hh; cases this) (by omega) (fun x h1 h2 => (HI2.out x h1 h2).1 (by trivial)) (fun hh => by
        have h2 := HRM.out to hh
        exact HX2.out h2.2 ⟨fun _ => hh, fun _ => by trivial⟩)
      have HR := Lib.hid (HEND.out r fr to fr to true hr2 hr3 (.inr ⟨hr1, rfl⟩))
      have hz := two_set HB3.out (.int .i64 fr) (.int .i64 to)
      have z0 : _ = some (Value.int .i64 fr) := blk_cell (i := 0) hz rfl
      have z1 : _ = some (Value.int .i64 to) := blk_cell (i := 1) hz rfl
      have Z0 := Lib.hid z0
      have Z1 := Lib.hid z1
      clear z0 z1 hz HEND hr1 hr2 hr3
      go_wp2_with fail
      have z0 := Z0.out
      have z1 := Z1.out
      exact bodyPost_ret (v := .tuple #[.agg #[.int .i64 fr, .int .i64 to], .bool true]) (by simp [results, Try.results21, go_sem, z0, z1]) rfl HR.out
end Go.Proofs.Ytibnbpiachdmdaa
end
/- Contracts of the program's streams: all spans that are left. -/
section
namespace Go.Proofs.Ytibnbpiachdmdaa
open Go.ChangeShapes Go.WideShapes Go.ChangeAt Go.RowKit Go.Joins Sp
theorem StL.lt {w : World} {c p : Value} {L : List Spn} {n : Nat} {F : Nat → Prop} (h : StL w c p L n F) : ∀ b, F b → b < w.heap.size := by
  obtain ⟨h1, h2, d, lo, hi, h⟩ := h
  obtain ⟨R, g, _, hR⟩ := Lv.node' c d
  exact (hR.1 h).lt
theorem StL.ptr {w : World} {c p : Value} {L : List Spn} {n : Nat} {F : Nat → Prop} (h : StL w c p L n F) : ∃ a, p = .pointer a := by
  obtain ⟨h1, h2, d, lo, hi, h⟩ := h
  obtain ⟨R, g, _, hR⟩ := Lv.node' c d
  exact (hR.1 h).ptr
theorem own_geq {w : World} {base size n : Nat} {e : TypeId} {v : Value} {xs : List Value} (h : w.ownsRow base e size v n xs) {g : Nat} (hg : v.ownBlock = some g) : base ≤ g := by
  rcases h.2 with ⟨rfl, _⟩ | ⟨g', cap, cur, rfl, hb, _⟩
  · simp [Value.ownBlock] at hg
  · have : g' = g := by simpa [Value.ownBlock] using hg
    omega
theorem own_lt {w : World} {base size n : Nat} {e : TypeId} {v : Value} {xs : List Value} (h : w.ownsRow base e size v n xs) {g : Nat} (hg : v.ownBlock = some g) : g < w.heap.size := by
  rcases h.2 with ⟨rfl, _⟩ | ⟨g', cap, cur, rfl, hb, hgg, _⟩
  · simp [Value.ownBlock] at hg
  · have : g' = g := by simpa [Value.ownBlock] using hg
    subst this
    exact heap_lt hgg
end Go.Proofs.Ytibnbpiachdmdaa
end
