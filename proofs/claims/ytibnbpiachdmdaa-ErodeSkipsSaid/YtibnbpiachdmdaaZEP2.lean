import Derived.Test.YtibnbpiachdmdaaZEP1
import Derived.BigQuiet
/- Contracts of the program's pickers: the next start. -/
section
namespace Go.Proofs.Ytibnbpiachdmdaa
open Go.ChangeShapes Go.WideShapes Go.ChangeAt Go.RowKit Go.Joins Sp
theorem behindL_len (l : List Spn) (m : Int) : (behindL l m).length ≤ l.length := List.length_filterMap_le _ _
/-- Starts that are left, once the grid's next minute was skipped to, and a span was handed out. -/
theorem nx_is {L L' : List Spn} {g lf lt at_ x1 x2 : Int} (hf : form (behindL L at_)) (hb : behindL L at_ = (x1, x2) :: L') (h1 : lf ≤ at_) (h2 : lt ≤ at_) (hl : ∀ y, lf ≤ y → y % g = 0 → at_ ≤ y) (x : Int) :
    (x % g = 0 ∧ lf ≤ x ∧ (x < lt ∨ has L x)) ↔ (x % g = 0 ∧ x1 ≤ x ∧ (x < x2 ∨ has L' x)) := by
  have key := behindL_has L at_
  rw [hb] at key hf
  obtain ⟨f1, f2⟩ := hf
  simp only at f1 f2
  constructor
  · rintro ⟨q1, q2, q3⟩
    have ha := hl x q2 q1
    have hL : has L x := q3.elim (fun h => by omega) id
    rcases (has_cons _ _ _).1 ((key x).2 ⟨ha, hL⟩) with h | h
    · exact ⟨q1, h.1, .inl h.2⟩
    · have := has_above f2 h
      exact ⟨q1, by omega, .inr h⟩
  · rintro ⟨q1, q2, q3⟩
    have hc : has ((x1, x2) :: L') x := (has_cons _ _ _).2 (q3.imp (fun h => ⟨q2, h⟩) id)
    obtain ⟨k1, k2⟩ := (key x).1 hc
    exact ⟨q1, by omega, .inr k2⟩
theorem nx_none {L : List Spn} {g lf lt at_ : Int} (hb : behindL L at_ = []) (h2 : lt ≤ at_) (hl : ∀ y, lf ≤ y → y % g = 0 → at_ ≤ y) (x : Int) : ¬ (x % g = 0 ∧ lf ≤ x ∧ (x < lt ∨ has L x)) := by
  rintro ⟨q1, q2, q3⟩
  have ha := hl x q2 q1
  have hL : has L x := q3.elim (fun h => by omega) id
  have := (behindL_has L at_ x).2 ⟨ha, hL⟩
  rw [hb] at this
  exact has_nil x this
/-- The next start was told, or that there is none. -/
def PNextRet (w : World) (c P : Value) (E : Int → Prop) (F : Nat → Prop) (C : Nat → Prop) (e : Ending) (w' : World) : Prop :=
  ∃ (x : Int) (k' : Nat), ((e = .returned (.tuple #[.int .i64 x, .bool true]) ∧ Int64P x ∧ E x ∧ (∀ y, E y → x ≤ y) ∧ PkA w' c P (fun y => E y ∧ x < y) F) ∨ (e = .returned (.tuple #[.int .i64 0, .bool false]) ∧ (∀ y, ¬ E y) ∧ PkA w' c P E F)) ∧ CtAt w' c k' C ∧ Off (fun b => F b ∨ C b) w w'
/-- What stands in memory on the way. -/
def NxIn (w : World) (c : Value) (b : Nat) (pa : Option Addr) (F1 : Nat → Prop) (g : Int) (E : Int → Prop) (F C : Nat → Prop) (j : Nat) (wr : World) : Prop :=
  ∃ L n lf lt k', L.length ≤ j ∧ PkIn wr c b pa L n F1 g lf lt E F ∧ CtAt wr c k' C ∧ Off (fun b => F b ∨ C b) w wr
set_option maxRecDepth 100000 in
set_option maxHeartbeats 4000000 in
theorem ppnext_any (w : World) (c P : Value) (E : Int → Prop) (F : Nat → Prop) (k : Nat) (C : Nat → Prop) (h : PkA w c P E F) (hc : CtAt w c k C) (hFC : ∀ b, F b → ¬ C b) :
    Calls Try.prog 13 #[P] w (PNextRet w c P E F C) := by
  rcases h with ⟨rfl, h2, h3⟩ | ⟨b, pa, L, n, F1, g, lf, lt, rfl, h⟩
  · have HR : Hid (PNextRet w c (.pointer none) E F C (.returned (.tuple #[.int .i64 0, .bool false])) w) := ⟨0, k, .inr ⟨rfl, h2, .inl ⟨rfl, h2, h3⟩⟩, hc, .refl _ _⟩
    clear h2 h3 hc hFC
    go_enter Try.func13, Try.ntmps13
    go_wp2_with fail
    go_ret2
    exact HR.out
  · have HI : Hid (NxIn w c b pa F1 g E F C L.length w) := ⟨L, n, lf, lt, k, Nat.le_refl _, h, hc, .refl _ _⟩
    have HFC := Lib.hid hFC
    have hg := h.g1
    clear h hc hFC
    go_enter Try.func13, Try.ntmps13
    go_wp2_with fail
    go_loopg [] (L.length) (fun j wr => Hid (NxIn w c b pa F1 g E F C j wr))
    case atStart => exact HI.out
    case round =>
      obtain ⟨L, n, lf, lt, k, hj, hp, hct, ho⟩ := hrel.out
      clear hrel HI
      obtain ⟨v, hv, HU0⟩ := pup_any lf g hp.f64 ⟨by omega, by omega⟩
      rw [show max g 1 = g by omega] at hv
      have HQ : Hid (∀ (w' : World) (q : Nat), Calls Try.prog 14 #[.int .i64 lf, .int .i64 g] (w'.drewN q) fun e w2 => e = .returned v ∧ ∃ m, w2 = w'.drewN m) := fun w' q => Calls.quiet_of_same ((HU0 _).mono fun _ _ ⟨h1, h2⟩ => ⟨h1, h2.symm⟩)
      have c1 : _ = some (Value.int .i64 g) := blk_cell hp.blk (i := 1) rfl
      have c2 : _ = some (Value.int .i64 lf) := blk_cell hp.blk (i := 2) rfl
      have HP := Lib.hid hp
      have HCT := Lib.hid hct
      have HO := Lib.hid ho
      have HJ := Lib.hid hj
      clear hp hct ho HU0 hj
      rcases hv with ⟨at_, rfl, u1, u2, u3, u4⟩ | ⟨rfl, _, u5⟩
      · have HL : Hid (∀ y, lf ≤ y → y % g = 0 → at_ ≤ y) := fun y h1 h2 => least_up hg.1 u4 u3 h1 h2
        have HU3 := Lib.hid u3
        obtain ⟨a0, a1⟩ := u2
        clear u3 u4
        go_wp2_with fail
        go_quiet ((go_at_call 14; exact HQ.out _ _))
        obtain ⟨g2, hg2⟩ : ∃ g2 : Gr wr, wr.drewN nq = g2.val := ⟨⟨_, drewN_below _ _⟩, rfl⟩
        rw [hg2]
        clear hg2
        have hp2 := HP.out.gr g2
        have ho2 : Off (fun _ => False) wr g2.val := .of_below g2.ok
        have HCT2 := Lib.hid (HCT.out.off ho2 fun _ _ => id)
        have HO2 := Lib.hid (HO.out.trans' (.of_below (g2.ok)))
        have c3 : _ = some (Value.int .i64 lt) := blk_cell hp2.blk (i := 3) rfl
        have c4 : _ = some (Value.int .i64 lf) := blk_cell hp2.blk (i := 2) rfl
        have cf := blk_free hp2.blk
        by_cases hlt : at_ < lt
        · have hltb : decide (at_ < lt) = true := decide_eq_true hlt
          have ht1 : at_ + 1 ≤ 9223372036854775807 := by have := HP.out.t64.2; omega
          have w1 : IntKind.i64.wrap (at_ + 1) = at_ + 1 := by rw [IntKind.wrap_i64]; omega
          have HR : Hid (PNextRet w c (.pointer (some ⟨b, 0, none⟩)) E F C (.returned (.tuple #[.int .i64 at_, .bool true])) (g2.val.setCell ⟨b, 2, none⟩ (.int .i64 (at_ + 1)))) := by
            have hs := hp2.from_ (x := at_ + 1) ⟨by omega, ht1⟩
            have ho3 : Off (fun k => k = b) g2.val (g2.val.setCell ⟨b, 2, none⟩ (.int .i64 (at_ + 1))) := (Off.refl (fun k => k = b) g2.val).setCell (b := b) (.inl rfl) _
            refine ⟨at_, k, .inl ⟨rfl, ⟨a0, a1⟩, (hp2.is at_).2 ⟨HU3.out, u1, .inl hlt⟩, fun y hy => ?_, .inr ⟨b, pa, L, n, F1, g, at_ + 1, lt, rfl, hs.congr fun y => ?_⟩⟩, HCT2.out.off ho3 fun x hx e => HFC.out b hp2.fb (e ▸ hx), HO2.out.trans ho3 fun x hx => .inl (.inl (hx ▸ hp2.fb))⟩
            · have := (hp2.is y).1 hy
              exact HL.out y this.2.1 this.1
            · rw [hp2.is y]
              exact ⟨fun ⟨⟨q1, q2, q3⟩, q4⟩ => ⟨q1, by omega, q3⟩, fun ⟨q1, q2, q3⟩ => ⟨⟨q1, by omega, q3⟩, by omega⟩⟩
          clear hp2 ho2
          go_wp2_with fail
          go_ret2
          exact HR.out
        · have hltb : decide (at_ < lt) = false := decide_eq_false hlt
          have c0 : _ = some (Value.pointer pa) := blk_cell hp2.blk (i := 0) rfl
          have HP2 := Lib.hid hp2
          have HSK := Lib.hid (pskipF_any g2.val c (.pointer pa) L n F1 at_ ⟨a0, a1⟩ hp2.st)
          clear hp2 ho2
          go_wp2_with fail
          go_at_call 20
          refine HSK.out.mono ?_
          rintro e w3 ⟨rfl, s3, o3⟩
          have hb3 := o3.heap HP2.out.blk HP2.out.nb
          have HFM : Hid (form (behindL L at_) ∧ In64 (behindL L at_)) := ⟨s3.1, s3.2.1⟩
          have HCT3 := HCT2.out.off o3 fun x hx hx2 => HFC.out x (HP2.out.sub _ hx2) hx
          have HO3 := Lib.hid (HO2.out.trans o3 fun x hx => .inl (.inl (HP2.out.sub _ hx)))
          have HNX := Lib.hid (pnext_any w3 c (.pointer pa) (behindL L at_) n F1 k C s3 HCT3 fun x hx => HFC.out x (HP2.out.sub _ hx))
          have HB3 := Lib.hid hb3
          have HS3 : Hid (g2.val.heap.size ≤ w3.heap.size) := o3.size
          have d0 : _ = some (Value.pointer pa) := blk_cell hb3 (i := 0) rfl
          clear s3 o3 hb3 HCT3 c0 c1 c2 c3 c4 cf
          go_wp2_with fail
          go_at_call 21
          refine HNX.out.mono ?_
          rintro e w4 ⟨L', n', k2, x1, x2, ok, rfl, hL, s4, ct4, _, o4⟩
          obtain ⟨W5, hW5⟩ : ∃ W5, w4.alloc (.cells #[.int .i64 x1, .int .i64 x2] 26) = W5 := ⟨_, rfl⟩
          have hb5 : Below w4.heap.size w4 W5 := by rw [← hW5]; exact (Below.refl _ w4).alloc (Nat.le_refl _) _
          have hx5 : W5.heap[w4.heap.size]? = some (.cells #[.int .i64 x1, .int .i64 x2] 26 (0, 0)) := by rw [← hW5]; exact heap_alloc_new _ _
          have hnb4 : ¬ (F1 b ∨ C b) := fun hx => hx.elim HP2.out.nb (HFC.out b HP2.out.fb)
          have hk5 := blk_below (o4.heap HB3.out hnb4) hb5
          have s5 := s4.off (G := fun _ => False) (.of_below hb5) fun _ _ => id
          have ct5 := ct4.off (G := fun _ => False) (.of_below hb5) fun _ _ => id
          have o5 : Off (fun b => F b ∨ C b) w W5 := (HO3.out.trans o4 fun x hx => .inl (hx.imp (HP2.out.sub x) id)).trans' (.of_below hb5)
          have hsz : ∀ x, F x → x < w4.heap.size := fun x hx => by have := HP2.out.lt x hx; have := HS3.out; have := o4.size; omega
          have hlt' : lt ≤ at_ := by omega
          rcases hL with ⟨e1, rfl, h01, h02, rfl⟩ | ⟨e1, rfl⟩
          · clear h01 h02
            have HR : Hid (PNextRet w c (.pointer (some ⟨b, 0, none⟩)) E F C (.returned (.tuple #[.int .i64 0, .bool false])) W5) := by
              have hno : ∀ y, ¬ E y := fun y hy => nx_none e1 hlt' HL.out y ((HP2.out.is y).1 hy)
              refine ⟨0, k2, .inr ⟨rfl, hno, .inr ⟨b, pa, [], n', F1, g, lf, lt, rfl, hk5, HP2.out.fb, HP2.out.nb, HP2.out.sub, fun x hx => Nat.lt_of_lt_of_le (hsz x hx) hb5.size, s5, HP2.out.g1, HP2.out.f64, HP2.out.t64, fun x => ⟨fun hx => absurd hx (hno x), fun ⟨q1, q2, q3⟩ => ?_⟩⟩⟩, ct5, o5⟩
              exact (HP2.out.is x).2 ⟨q1, q2, q3.imp id fun h => absurd h (has_nil x)⟩
            clear hx5 hk5 s4 s5 ct4 ct5 o4 o5 hsz e1 hb5 hlt' hnb4 d0
            have HW5 := Lib.hid hW5
            clear hW5
            go_wp2_with fail
            go_ret2
            have hr := HR.out
            rw [← HW5.out] at hr
            exact hr
          · have hi6 := HFM.out.2 (x1, x2) (by rw [e1]; simp)
            have hlen : L'.length < L.length := by have := behindL_len L at_; rw [e1] at this; simp at this; omega
            have e0 : _ = some (Value.int .i64 x1) := blk_cell hx5 (i := 0) rfl
            have e2 : _ = some (Value.int .i64 x2) := blk_cell hx5 (i := 1) rfl
            have d2 : _ = some (Value.int .i64 lf) := blk_cell hk5 (i := 2) rfl
            have df := blk_free hk5
            have hk6 := block_setCell hk5 (i := 2) (.int .i64 x1)
            have d3 : _ = some (Value.int .i64 lt) := blk_cell hk6 (i := 3) rfl
            have df6 := blk_free hk6
            have hk7 := block_setCell hk6 (i := 3) (.int .i64 x2)
            have HN : Hid (NxIn w c b pa F1 g E F C L'.length ((W5.setCell ⟨b, 2, none⟩ (.int .i64 x1)).setCell ⟨b, 3, none⟩ (.int .i64 x2))) := by
              have ho8 : Off (fun x => x = b) W5 ((W5.setCell ⟨b, 2, none⟩ (.int .i64 x1)).setCell ⟨b, 3, none⟩ (.int .i64 x2)) := ((Off.refl (fun x => x = b) W5).setCell (b := b) (.inl rfl) _).setCell (b := b) (.inl rfl) _
              refine ⟨L', n', x1, x2, k2, Nat.le_refl _, ⟨hk7, HP2.out.fb, HP2.out.nb, HP2.out.sub, fun x hx => by have := hsz x hx; have := hb5.size; have := ho8.size; omega, s5.off ho8 fun x hx e => HP2.out.nb (e ▸ hx), HP2.out.g1, by unfold Int64P; dsimp only at hi6; omega, by unfold Int64P; dsimp only at hi6; omega, fun x => (HP2.out.is x).trans (nx_is HFM.out.1 e1 u1 hlt' HL.out x)⟩, ct5.off ho8 fun x hx e => HFC.out b HP2.out.fb (e ▸ hx), o5.trans ho8 fun x hx => .inl (.inl (hx ▸ HP2.out.fb))⟩
            have HLN : Hid (L'.length < gk) := by have := HJ.out; show _ < _; omega
            clear hx5 hk5 hk6 hk7 s4 s5 ct4 ct5 o4 o5 hsz e1 hb5 hlt' hnb4 d0 hi6 hlen
            go_upto_region 13 with fail
            try rw [hW5]
            clear hW5
            go_wp2_with fail
            go_roundg (L'.length)
            case measure => exact HLN.out
            case rel => exact HN.out
      · have HNO : Hid (∀ y, ¬ E y) := fun y hy => by
          have h1 := (HP.out.is y).1 hy
          have h2 := u5 y h1.2.1 h1.1
          rcases h1.2.2 with h3 | h3
          · have := HP.out.t64.2; omega
          · obtain ⟨s, hs, s1, s2⟩ := h3
            have := HP.out.st.2.1 s hs
            omega
        clear u5
        go_wp2_with fail
        go_quiet ((go_at_call 14; exact HQ.out _ _))
        obtain ⟨g2, hg2⟩ : ∃ g2 : Gr wr, wr.drewN nq = g2.val := ⟨⟨_, drewN_below _ _⟩, rfl⟩
        rw [hg2]
        clear hg2
        have HR : Hid (PNextRet w c (.pointer (some ⟨b, 0, none⟩)) E F C (.returned (.tuple #[.int .i64 0, .bool false])) g2.val) :=
          ⟨0, k, .inr ⟨rfl, HNO.out, .inr ⟨b, pa, L, n, F1, g, lf, lt, rfl, HP.out.gr g2⟩⟩, HCT.out.off (G := fun _ => False) (.of_below g2.ok) fun _ _ => id, HO.out.trans' (.of_below g2.ok)⟩
        go_wp2_with fail
        go_ret2
        exact HR.out
end Go.Proofs.Ytibnbpiachdmdaa
end
