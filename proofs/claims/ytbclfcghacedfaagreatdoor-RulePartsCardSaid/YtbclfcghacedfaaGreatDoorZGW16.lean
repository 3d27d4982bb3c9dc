import Derived.Test.YtbclfcghacedfaaGreatDoorZGW15
import Derived.Test.YtbclfcghacedfaaGreatDoorZGW10
/- Contracts of the program's rules: a part is read into a rule. -/
section
namespace Go.Proofs.YtbclfcghacedfaaGreatDoor
open Go.ChangeShapes Go.WideShapes Go.ChangeAt Go.RowKit Go.Joins Qr Ck Sp

/-- A rule's box in memory, its rows elsewhere. -/
structure RBAt (w : World) (rb : Nat) (r : R) (A1 A2 A3 A4 : Option Addr) (c1 c2 c3 c4 : Nat) : Prop where
  box : w.heap[rb]? = some (.cells (rcells r A1 A2 A3 A4 c1 c2 c3 c4) 25 (0, 0))
  rows : RAt w r A1 A2 A3 A4 c1 c2 c3 c4
  n1 : ∀ a, A1 = some a → rb < a.block
  n2 : ∀ a, A2 = some a → rb < a.block
  n3 : ∀ a, A3 = some a → rb < a.block
  n4 : ∀ a, A4 = some a → rb < a.block
def RB (w : World) (rb : Nat) (r : R) : Prop := ∃ A1 A2 A3 A4 c1 c2 c3 c4, RBAt w rb r A1 A2 A3 A4 c1 c2 c3 c4
theorem Sl.set_other {w : World} {A : Option Addr} {n c : Nat} {xs : List Value} (h : Sl w A n c xs) {b k : Nat} (hne : ∀ a, A = some a → a.block ≠ b) (v : Value) : Sl (w.setCell ⟨b, k, none⟩ v) A n c xs := by
  refine ⟨h.le, h.cap, h.nil, fun hn => ?_⟩
  obtain ⟨b', off, e, hlt, hc⟩ := h.on hn
  refine ⟨b', off, e, by simpa [World.setCell] using hlt, fun i u hi => ?_⟩
  rw [World.cell?_setCell_other _ _ _ _ (by intro e2; have := congrArg Addr.block e2; exact hne _ e (by first | exact this | exact this.symm))]
  exact hc i u hi
theorem RBAt.gr {w : World} {rb : Nat} {r : R} {A1 A2 A3 A4 : Option Addr} {c1 c2 c3 c4 : Nat} (h : RBAt w rb r A1 A2 A3 A4 c1 c2 c3 c4) (g : Gr w) : RBAt g.val rb r A1 A2 A3 A4 c1 c2 c3 c4 :=
  ⟨blk_below h.box g.ok, h.rows.below g.ok (Nat.le_refl _), h.n1, h.n2, h.n3, h.n4⟩
theorem RB.gr {w : World} {rb : Nat} {r : R} (h : RB w rb r) (g : Gr w) : RB g.val rb r := by
  obtain ⟨A1, A2, A3, A4, c1, c2, c3, c4, h⟩ := h
  exact ⟨A1, A2, A3, A4, c1, c2, c3, c4, h.gr g⟩
/-- One place is written. -/
theorem RBAt.set {w : World} {rb : Nat} {r r' : R} {A1 A2 A3 A4 : Option Addr} {c1 c2 c3 c4 : Nat} (h : RBAt w rb r A1 A2 A3 A4 c1 c2 c3 c4) {k : Nat} {v : Value} {B1 B2 B3 B4 : Option Addr} {d1 d2 d3 d4 : Nat}
    (he : (rcells r A1 A2 A3 A4 c1 c2 c3 c4).setIfInBounds k v = rcells r' B1 B2 B3 B4 d1 d2 d3 d4) (hs : RAt w r' B1 B2 B3 B4 d1 d2 d3 d4)
    (n1 : ∀ a, B1 = some a → rb < a.block) (n2 : ∀ a, B2 = some a → rb < a.block) (n3 : ∀ a, B3 = some a → rb < a.block) (n4 : ∀ a, B4 = some a → rb < a.block) : RB (w.setCell ⟨rb, k, none⟩ v) rb r' := by
  refine ⟨B1, B2, B3, B4, d1, d2, d3, d4, ?_, ⟨hs.s1.set_other (fun a ha => by have := n1 a ha; omega) v, hs.s2.set_other (fun a ha => by have := n2 a ha; omega) v, hs.s3.set_other (fun a ha => by have := n3 a ha; omega) v, hs.s4.set_other (fun a ha => by have := n4 a ha; omega) v⟩, n1, n2, n3, n4⟩
  rw [← he]; exact block_setCell h.box v

/-- A part is read into a rule, or it isn't. -/
def IntoP (rb : Nat) (q : Option R) (w : World) (e : Ending) (w' : World) : Prop := Off (fun b => b = rb) w w' ∧ e = .returned (.bool q.isSome) ∧ ∀ r', q = some r' → RB w' rb r'
theorem setV_isSome {α : Type} (v : α × Bool) (f : α → R) : (setV v f).isSome = v.2 := by
  unfold setV; cases v.2 <;> simp
theorem setV_some {α : Type} {v : α × Bool} {f : α → R} {r' : R} (h : setV v f = some r') : r' = f v.1 := by
  unfold setV at h; split at h
  · exact (Option.some.inj h).symm
  · cases h
theorem off_set {w : World} (g : Gr w) (rb k : Nat) (v : Value) : Off (fun b => b = rb) w (g.val.setCell ⟨rb, k, none⟩ v) := Off.setCell (F := fun b => b = rb) (Off.of_below g.ok) (.inl rfl) v
theorem one_int (x : Int) : (Value.int .i64 x).oneCell' = true := rfl
theorem one_sl (A : Option Addr) (n c : Nat) : (Value.slice A n c).oneCell' = true := rfl

set_option maxHeartbeats 1000000 in
theorem clo_run (rb k : Nat) (v : Value) (r : R) (s : List UInt8) (w : World) (hk : k < 9) (hc : CloK rb k v w) (hr : RB w rb r) (hE : Env9 w) (hl : s.length ≤ 100000) :
    ∃ fn cap, v = .func (.func fn) #[] cap ∧ (fn = 81 ∨ fn = 83 ∨ fn = 85 ∨ fn = 87) ∧
      Calls Tryz.prog fn (#[.string ⟨s.toArray⟩] ++ cap) w (IntoP rb (putN r (keyL k) s) w) := by
  obtain ⟨A1, A2, A3, A4, c1, c2, c3, c4, h⟩ := hr
  have hlt : rb < w.heap.size := heap_lt h.box
  have cell : ∀ (j : Nat) (u : Value), (rcells r A1 A2 A3 A4 c1 c2 c3 c4)[j]? = some u → w.cell? ⟨rb, j, none⟩ = some u := fun j u hu => blk_cell h.box hu
  have free : ∀ j, w.frozen? ⟨rb, j, none⟩ = false := fun j => blk_free h.box j
  have fresh : ∀ (A : Option Addr), (∀ a, A = some a → w.heap.size ≤ a.block) → ∀ a, A = some a → rb < a.block := fun A hA a ha => by have := hA a ha; omega
  match k, hk with
  | 0, _ =>
    obtain ⟨b1, b2, rfl, h1, h2⟩ : CloI _ _ _ _ _ _ := hc
    refine ⟨_, _, rfl, .inl rfl, (run_freq _ _ _ rb 0 b1 b2 _ w h1 h2 (cell 0 _ rfl) (free 0) (one_int _) (rdfreq_any s w hE)).mono ?_⟩
    rintro e w' ⟨g, rfl, rfl⟩
    rw [show keyL 0 = kFREQ from rfl, putN_freq]
    refine ⟨off_set g rb 0 _, by rw [setV_isSome], fun r' hr' => ?_⟩
    obtain rfl := setV_some hr'
    exact (h.gr g).set rfl ⟨(h.gr g).rows.s1, (h.gr g).rows.s2, (h.gr g).rows.s3, (h.gr g).rows.s4⟩ h.n1 h.n2 h.n3 h.n4
  | 1, _ =>
    obtain ⟨b1, b2, rfl, h1, h2⟩ : CloI _ _ _ _ _ _ := hc
    refine ⟨_, _, rfl, .inl rfl, (run_num _ _ _ rb 1 b1 b2 _ w h1 h2 (cell 1 _ rfl) (free 1) (one_int _) (rdnum_any s (by omega) w hE)).mono ?_⟩
    rintro e w' ⟨g, rfl, rfl⟩
    rw [show keyL 1 = kINTERVAL from rfl, putN_iv]
    refine ⟨off_set g rb 1 _, by rw [setV_isSome], fun r' hr' => ?_⟩
    obtain rfl := setV_some hr'
    exact (h.gr g).set rfl ⟨(h.gr g).rows.s1, (h.gr g).rows.s2, (h.gr g).rows.s3, (h.gr g).rows.s4⟩ h.n1 h.n2 h.n3 h.n4
  | 2, _ =>
    obtain ⟨b1, b2, rfl, h1, h2⟩ : CloI _ _ _ _ _ _ := hc
    refine ⟨_, _, rfl, .inl rfl, (run_num _ _ _ rb 2 b1 b2 _ w h1 h2 (cell 2 _ rfl) (free 2) (one_int _) (rdnum_any s (by omega) w hE)).mono ?_⟩
    rintro e w' ⟨g, rfl, rfl⟩
    rw [show keyL 2 = kCOUNT from rfl, putN_count]
    refine ⟨off_set g rb 2 _, by rw [setV_isSome], fun r' hr' => ?_⟩
    obtain rfl := setV_some hr'
    exact (h.gr g).set rfl ⟨(h.gr g).rows.s1, (h.gr g).rows.s2, (h.gr g).rows.s3, (h.gr g).rows.s4⟩ h.n1 h.n2 h.n3 h.n4
  | 3, _ =>
    obtain ⟨b1, b2, rfl, h1, h2⟩ : CloI _ _ _ _ _ _ := hc
    refine ⟨_, _, rfl, .inr (.inl rfl), (run_until _ _ _ rb 3 b1 b2 _ w h1 h2 (cell 3 _ rfl) (free 3) (one_int _) (rdutl_any s w hE)).mono ?_⟩
    rintro e w' ⟨g, rfl, rfl⟩
    rw [show keyL 3 = kUNTIL from rfl, putN_until]
    refine ⟨off_set g rb 3 _, by rw [setV_isSome], fun r' hr' => ?_⟩
    obtain rfl := setV_some hr'
    exact (h.gr g).set rfl ⟨(h.gr g).rows.s1, (h.gr g).rows.s2, (h.gr g).rows.s3, (h.gr g).rows.s4⟩ h.n1 h.n2 h.n3 h.n4
  | 4, _ =>
    obtain ⟨b3, h3, b1, b2, rfl, h1, h2⟩ : ∃ b3, w.cell? ⟨b3, 0, none⟩ = some (fnv 55) ∧ CloI _ _ _ _ _ _ := hc
    refine ⟨_, _, rfl, .inr (.inr (.inl rfl)), (run_ints _ _ rb 4 b1 b2 b3 _ w h1 h2 (cell 4 _ rfl) (free 4) (one_sl _ _ _) (rowOfI_any s hl b3 w hE h3)).mono ?_⟩
    rintro e w' ⟨g, A, n, c, rfl, rfl, hq⟩
    rw [show keyL 4 = kBYMONTH from rfl, putN_bm]
    refine ⟨off_set g rb 4 _, by rw [Option.isSome_map], fun r' hr' => ?_⟩
    obtain ⟨l, hl1, rfl⟩ := Option.map_eq_some_iff.1 hr'
    obtain ⟨rfl, hsl, hfr⟩ := hq l hl1
    exact (h.gr g).set (r' := { r with bm := l }) (B1 := A) (d1 := c) rfl ⟨hsl, (h.gr g).rows.s2, (h.gr g).rows.s3, (h.gr g).rows.s4⟩ (fresh A hfr) h.n2 h.n3 h.n4
  | 5, _ =>
    obtain ⟨b3, h3, b1, b2, rfl, h1, h2⟩ : ∃ b3, w.cell? ⟨b3, 0, none⟩ = some (fnv 55) ∧ CloI _ _ _ _ _ _ := hc
    refine ⟨_, _, rfl, .inr (.inr (.inl rfl)), (run_ints _ _ rb 5 b1 b2 b3 _ w h1 h2 (cell 5 _ rfl) (free 5) (one_sl _ _ _) (rowOfI_any s hl b3 w hE h3)).mono ?_⟩
    rintro e w' ⟨g, A, n, c, rfl, rfl, hq⟩
    rw [show keyL 5 = kBYMONTHDAY from rfl, putN_bd]
    refine ⟨off_set g rb 5 _, by rw [Option.isSome_map], fun r' hr' => ?_⟩
    obtain ⟨l, hl1, rfl⟩ := Option.map_eq_some_iff.1 hr'
    obtain ⟨rfl, hsl, hfr⟩ := hq l hl1
    exact (h.gr g).set (r' := { r with bd := l }) (B2 := A) (d2 := c) rfl ⟨(h.gr g).rows.s1, hsl, (h.gr g).rows.s3, (h.gr g).rows.s4⟩ h.n1 (fresh A hfr) h.n3 h.n4
  | 6, _ =>
    obtain ⟨b3, h3, b1, b2, rfl, h1, h2⟩ : ∃ b3, w.cell? ⟨b3, 0, none⟩ = some (fnv 62) ∧ CloI _ _ _ _ _ _ := hc
    refine ⟨_, _, rfl, .inr (.inr (.inr rfl)), (run_days _ _ rb 6 b1 b2 b3 _ w h1 h2 (cell 6 _ rfl) (free 6) (one_sl _ _ _) (rowOfD_any s hl b3 w hE h3)).mono ?_⟩
    rintro e w' ⟨g, A, n, c, rfl, rfl, hq⟩
    rw [show keyL 6 = kBYDAY from rfl, putN_bw]
    refine ⟨off_set g rb 6 _, by rw [Option.isSome_map], fun r' hr' => ?_⟩
    obtain ⟨l, hl1, rfl⟩ := Option.map_eq_some_iff.1 hr'
    obtain ⟨rfl, hsl, hfr⟩ := hq l hl1
    exact (h.gr g).set (r' := { r with bw := l }) (B3 := A) (d3 := c) rfl ⟨(h.gr g).rows.s1, (h.gr g).rows.s2, hsl, (h.gr g).rows.s4⟩ h.n1 h.n2 (fresh A hfr) h.n4
  | 7, _ =>
    obtain ⟨b3, h3, b1, b2, rfl, h1, h2⟩ : ∃ b3, w.cell? ⟨b3, 0, none⟩ = some (fnv 55) ∧ CloI _ _ _ _ _ _ := hc
    refine ⟨_, _, rfl, .inr (.inr (.inl rfl)), (run_ints _ _ rb 7 b1 b2 b3 _ w h1 h2 (cell 7 _ rfl) (free 7) (one_sl _ _ _) (rowOfI_any s hl b3 w hE h3)).mono ?_⟩
    rintro e w' ⟨g, A, n, c, rfl, rfl, hq⟩
    rw [show keyL 7 = kBYSETPOS from rfl, putN_bs]
    refine ⟨off_set g rb 7 _, by rw [Option.isSome_map], fun r' hr' => ?_⟩
    obtain ⟨l, hl1, rfl⟩ := Option.map_eq_some_iff.1 hr'
    obtain ⟨rfl, hsl, hfr⟩ := hq l hl1
    exact (h.gr g).set (r' := { r with bs := l }) (B4 := A) (d4 := c) rfl ⟨(h.gr g).rows.s1, (h.gr g).rows.s2, (h.gr g).rows.s3, hsl⟩ h.n1 h.n2 h.n3 (fresh A hfr)
  | 8, _ =>
    obtain ⟨b1, b2, rfl, h1, h2⟩ : CloI _ _ _ _ _ _ := hc
    refine ⟨_, _, rfl, .inl rfl, (run_wk _ _ _ rb 8 b1 b2 _ w h1 h2 (cell 8 _ rfl) (free 8) (one_int _) (rdwk_any s w hE)).mono ?_⟩
    rintro e w' ⟨g, rfl, rfl⟩
    rw [show keyL 8 = kWKST from rfl, putN_wk]
    refine ⟨off_set g rb 8 _, by rw [setV_isSome], fun r' hr' => ?_⟩
    obtain rfl := setV_some hr'
    exact (h.gr g).set rfl ⟨(h.gr g).rows.s1, (h.gr g).rows.s2, (h.gr g).rows.s3, (h.gr g).rows.s4⟩ h.n1 h.n2 h.n3 h.n4
  | n + 9, h9 => omega

/-- The readers stay, whatever is written into the rule's box. -/
def Far (w w' : World) : Prop := ∀ b v, w.cell? ⟨b, 0, none⟩ = some v → (∀ n, v ≠ .int .i64 n) → w'.cell? ⟨b, 0, none⟩ = some v
theorem far_off {w w' : World} {rb : Nat} {r : R} (hr : RB w rb r) (ho : Off (fun b => b = rb) w w') : Far w w' := by
  intro b v hv hn
  refine ho.cell hv ?_
  rintro rfl
  obtain ⟨A1, A2, A3, A4, c1, c2, c3, c4, h⟩ := hr
  have : w.cell? ⟨b, 0, none⟩ = some (.int .i64 r.freq) := blk_cell h.box rfl
  rw [this] at hv
  exact hn r.freq (Option.some.inj hv).symm
theorem CloI.far {f rf : FuncId} {cb : Array Value} {rb k : Nat} {v : Value} {w w' : World} (h : CloI f (.func (.func rf) #[] cb) rb k v w) (hf : Far w w') : CloI f (.func (.func rf) #[] cb) rb k v w' := by
  obtain ⟨b1, b2, e, h1, h2⟩ := h
  exact ⟨b1, b2, e, hf _ _ h1 (fun n h => by cases h), hf _ _ h2 (fun n h => by cases h)⟩
theorem CloK.far {rb k : Nat} {v : Value} {w w' : World} (h : CloK rb k v w) (hf : Far w w') : CloK rb k v w' := by
  match k, h with
  | 0, h => exact CloI.far (cb := #[]) h hf
  | 1, h => exact CloI.far (cb := #[]) h hf
  | 2, h => exact CloI.far (cb := #[]) h hf
  | 3, h => exact CloI.far (cb := #[]) h hf
  | 4, ⟨b3, h1, h2⟩ => exact ⟨b3, hf _ _ h1 (fun n h => by cases h), h2.far hf⟩
  | 5, ⟨b3, h1, h2⟩ => exact ⟨b3, hf _ _ h1 (fun n h => by cases h), h2.far hf⟩
  | 6, ⟨b3, h1, h2⟩ => exact ⟨b3, hf _ _ h1 (fun n h => by cases h), h2.far hf⟩
  | 7, ⟨b3, h1, h2⟩ => exact ⟨b3, hf _ _ h1 (fun n h => by cases h), h2.far hf⟩
  | 8, h => exact CloI.far (cb := #[]) h hf
theorem ReadersAt.off {rb mb : Nat} {w w' : World} {r : R} (h : ReadersAt rb mb w) (hr : RB w rb r) (ho : Off (fun b => b = rb) w w') (hne : mb ≠ rb) : ReadersAt rb mb w' := by
  obtain ⟨es, c, h1, h2, h3⟩ := h
  have hf := far_off hr ho
  exact ⟨es, c, ho.heap h1 hne, fun x hx => by obtain ⟨k, e1, e2, e3⟩ := h2 x hx; exact ⟨k, e1, e2, e3.far hf⟩, h3⟩
/-- What is found by a name. -/
theorem keyB_inj {k : Nat} {nm : List UInt8} (h : (Value.string (keyB k)) = .string ⟨nm.toArray⟩) : nm = keyL k := by
  injection h with h
  have := congrArg (fun b : ByteArray => b.data.toList) h
  simpa [keyB] using this.symm
theorem look_any {rb mb : Nat} {w : World} (h : ReadersAt rb mb w) (nm : List UInt8) (hl : nm.length ≤ 1000000) :
    ((Instr.lookup 53 (.map (some mb)) (.string ⟨nm.toArray⟩) true).run Tryz.prog w = .ok (.tuple #[.nilFunc, .bool false]) w ∧ ∀ k, k < 9 → nm ≠ keyL k) ∨
    ∃ k v, k < 9 ∧ nm = keyL k ∧ CloK rb k v w ∧ (Instr.lookup 53 (.map (some mb)) (.string ⟨nm.toArray⟩) true).run Tryz.prog w = .ok (.tuple #[v, .bool true]) w := by
  obtain ⟨es, c, h1, h2, h3⟩ := h
  have hz : (zeroValue 34).run Tryz.prog w = .ok .nilFunc w := by kernel_rfl
  rcases run_lookE (Maps.string_keyed key_str) readersT hz h1 (fun x hx => good_key (h2 x hx)) (key := .string ⟨nm.toArray⟩) (WideMaps.keyOf_string_mk key_str (by show nm.toArray.size ≤ _; rw [List.size_toArray]; unfold maxLen; omega)) with ⟨e1, e2⟩ | ⟨e0, he0, hk0, e1⟩
  · refine .inl ⟨e1, fun k hk hn => ?_⟩
    obtain ⟨x, hx, hxk⟩ := h3 k hk
    exact e2 x hx (by rw [hxk, hn]; rfl)
  · obtain ⟨k, hk, hkk, hcl⟩ := h2 e0 he0
    exact .inr ⟨k, e0.val, hk, keyB_inj (by rw [← hkk]; exact hk0), hcl, e1⟩
end Go.Proofs.YtbclfcghacedfaaGreatDoor
end
