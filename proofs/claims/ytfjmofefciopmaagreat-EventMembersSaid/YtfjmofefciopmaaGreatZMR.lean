import Derived.Test.YtfjmofefciopmaaGreatZNW7
import Derived.Test.YtfjmofefciopmaaGreatZNF
import Derived.Test.YtfjmofefciopmaaGreatZMN
/- Contracts of the program's times: what is kept while times are handed out; small functions. -/
section
namespace Go.Proofs.YtfjmofefciopmaaGreat
open Go.ChangeShapes Go.WideShapes Go.ChangeAt Go.RowKit Go.Joins Go.Shelf Qr Tm Cal
def noSt (o : Obj) : Prop := ∀ cs fr, o ≠ .cells cs 2 fr
structure Kx (X : Nat → Prop) (M0 : Nat) (W W' : World) : Prop where
  size : W.heap.size ≤ W'.heap.size
  same : ∀ k o, W.heap[k]? = some o → ¬ X k → (M0 ≤ k → noSt o) → W'.heap[k]? = some o
theorem Kx.refl (X : Nat → Prop) (M0 : Nat) (W : World) : Kx X M0 W W := ⟨Nat.le_refl _, fun _ _ h _ _ => h⟩
theorem Kx.trans {X : Nat → Prop} {M0 : Nat} {A B C : World} (h : Kx X M0 A B) (k : Kx X M0 B C) : Kx X M0 A C :=
  ⟨Nat.le_trans h.size k.size, fun i o hi hX hn => k.same i o (h.same i o hi hX hn) hX hn⟩
theorem Kx.of_below {X : Nat → Prop} {M0 : Nat} {W W' : World} (h : Below W.heap.size W W') : Kx X M0 W W' := ⟨h.size, fun _ _ hk _ _ => blk_below hk h⟩
theorem Kx.mono {X Y : Nat → Prop} {M0 : Nat} {W W' : World} (h : Kx X M0 W W') (hXY : ∀ k, X k → Y k) : Kx Y M0 W W' := ⟨h.size, fun k o hk hY hn => h.same k o hk (fun hX => hY (hXY k hX)) hn⟩
theorem Kx.put {X : Nat → Prop} {M0 l : Nat} (hl : X l) (W : World) (o : Obj) : Kx X M0 W (W.putObj l o) :=
  ⟨by simp [World.putObj], fun k o' hk hX _ => (World.putObj_heap_other (by intro e; subst e; exact hX hl)).trans hk⟩
theorem Kx.cell {X : Nat → Prop} {M0 : Nat} {W W' : World} (h : Kx X M0 W W') {b : Nat} {cs : Array Value} {t : TypeId} {fr : Nat × Nat} (hb : W.heap[b]? = some (.cells cs t fr)) (hX : ¬ X b) (ht : t ≠ 2) : W'.heap[b]? = some (.cells cs t fr) :=
  h.same b _ hb hX (fun _ cs' fr' e => by cases e; exact ht rfl)
theorem own_kx {X : Nat → Prop} {M0 : Nat} {w w' : World} {base : Nat} {e : TypeId} {size : Nat} {v : Value} {n : Nat} {xs : List Value} (h : w.ownsRow base e size v n xs) (hk : Kx X M0 w w') (hX : ∀ k, base ≤ k → ¬ X k) (ht : e ≠ 2) : w'.ownsRow base e size v n xs := by
  obtain ⟨hl, h | ⟨g, cap, cur, hv, hg, hc, r⟩⟩ := h
  · exact ⟨hl, .inl h⟩
  · exact ⟨hl, .inr ⟨g, cap, cur, hv, hg, hk.cell hc (hX g hg) ht, r⟩⟩
structure CIn (W : World) (Lo M0 : Nat) (r : R) (A1 A2 A3 A4 : Option Addr) (c1 c2 c3 c4 : Nat) (s first last : Int) (b1 b2 b3 : Nat) : Prop where
  x1 : W.heap[b1]? = some (.cells #[.int .i64 first] 3 (0, 0))
  x2 : W.heap[b2]? = some (.cells #[.int .i64 last] 3 (0, 0))
  x3 : W.heap[b3]? = some (.cells (ccells r A1 A2 A3 A4 c1 c2 c3 c4 s) 141 (0, 0))
  rows : RSb W Lo r A1 A2 A3 A4 c1 c2 c3 c4
  top : (0 < (iv r.bm).length → ∀ a, A1 = some a → a.block < M0) ∧ (0 < (iv r.bd).length → ∀ a, A2 = some a → a.block < M0) ∧ (0 < (sv r.bw).length → ∀ a, A3 = some a → a.block < M0) ∧ (0 < (iv r.bs).length → ∀ a, A4 = some a → a.block < M0)
theorem sb_keep {w w' : World} {B M : Nat} {A : Option Addr} {n c : Nat} {xs : List Value} (h : Sb w B A n c xs) (ht : 0 < xs.length → ∀ a, A = some a → a.block < M) (hs : ∀ k, B ≤ k → k < M → k < w.heap.size → w'.heap[k]? = w.heap[k]?) (hz : w.heap.size ≤ w'.heap.size) : Sb w' B A n c xs := by
  refine ⟨⟨h.sl.le, h.sl.cap, h.sl.nil, fun hn => ?_⟩, h.up⟩
  obtain ⟨b, off, e, hlt, hc⟩ := h.sl.on hn
  refine ⟨b, off, e, by omega, fun i v hi => ?_⟩
  have h1 := h.up _ e
  have h3 := ht hn _ e
  have h2 := hc i v hi
  unfold World.cell? at h2 ⊢
  simp only at h1 h2 h3 ⊢
  rw [hs b h1 h3 hlt]; exact h2
theorem sb_top {w : World} {B : Nat} {A : Option Addr} {n c : Nat} {xs : List Value} (h : Sb w B A n c xs) (hn : 0 < xs.length) : ∀ a, A = some a → a.block < w.heap.size := by
  intro a ha
  obtain ⟨b, off, e, hlt, _⟩ := h.sl.on hn
  rw [e] at ha; cases ha; exact hlt
section
variable {W W' : World} {Lo M0 : Nat} {r : R} {A1 A2 A3 A4 : Option Addr} {c1 c2 c3 c4 : Nat} {s first last : Int} {b1 b2 b3 : Nat}
theorem CIn.keep (h : CIn W Lo M0 r A1 A2 A3 A4 c1 c2 c3 c4 s first last b1 b2 b3) (hz : W.heap.size ≤ W'.heap.size) (hb : ∀ k, k = b1 ∨ k = b2 ∨ k = b3 → W'.heap[k]? = W.heap[k]?) (hs : ∀ k, Lo ≤ k → k < M0 → k < W.heap.size → W'.heap[k]? = W.heap[k]?) :
    CIn W' Lo M0 r A1 A2 A3 A4 c1 c2 c3 c4 s first last b1 b2 b3 :=
  ⟨(hb b1 (.inl rfl)).trans h.x1, (hb b2 (.inr (.inl rfl))).trans h.x2, (hb b3 (.inr (.inr rfl))).trans h.x3, ⟨sb_keep h.rows.s1 h.top.1 hs hz, sb_keep h.rows.s2 h.top.2.1 hs hz, sb_keep h.rows.s3 h.top.2.2.1 hs hz, sb_keep h.rows.s4 h.top.2.2.2 hs hz⟩, h.top⟩
theorem CIn.below (h : CIn W Lo M0 r A1 A2 A3 A4 c1 c2 c3 c4 s first last b1 b2 b3) (hb : Below W.heap.size W W') : CIn W' Lo M0 r A1 A2 A3 A4 c1 c2 c3 c4 s first last b1 b2 b3 :=
  h.keep hb.size (fun k hk => by rcases hk with rfl | rfl | rfl <;> exact hb.block _ (heap_lt' (by first | exact h.x1 | exact h.x2 | exact h.x3))) (fun k _ _ hk => hb.block k hk)
theorem CIn.kx {X : Nat → Prop} (h : CIn W Lo M0 r A1 A2 A3 A4 c1 c2 c3 c4 s first last b1 b2 b3) (hk : Kx X M0 W W') (h1 : ¬ X b1) (h2 : ¬ X b2) (h3 : ¬ X b3) (hX : ∀ k, Lo ≤ k → k < M0 → ¬ X k) : CIn W' Lo M0 r A1 A2 A3 A4 c1 c2 c3 c4 s first last b1 b2 b3 :=
  h.keep hk.size (fun k hk2 => by
    rcases hk2 with rfl | rfl | rfl
    · rw [h.x1]; exact hk.cell h.x1 h1 (by decide)
    · rw [h.x2]; exact hk.cell h.x2 h2 (by decide)
    · rw [h.x3]; exact hk.cell h.x3 h3 (by decide)) (fun k h5 h6 h7 => by
    have e := Array.getElem?_eq_getElem h7
    rw [e]; exact hk.same k _ e (hX k h5 h6) (fun h => by omega))
end
theorem dfr_any (n m : Int) (hn : -9223372036854775808 ≤ n ∧ n ≤ 9223372036854775807) (hm : 0 ≤ m ∧ m < 1440) (w : World) :
    Calls Tryz.prog 115 #[.int .i64 n, .int .i64 m] w fun e w' => e = .returned (.int .i64 (dfr n m)) ∧ w = w' := by
  obtain ⟨q, hq⟩ : ∃ q, dfr n m = q := ⟨_, rfl⟩
  rw [hq]
  have hmax : (if n < 0 then 0 else n) = max n 0 := by omega
  obtain ⟨a, ha⟩ : ∃ a, max n 0 = a := ⟨_, rfl⟩
  have hmin1 : (if 158310720 < a then 158310720 else a) = min a 158310720 := by omega
  have hmin2 : (if a < 158310720 then a else 158310720) = min a 158310720 := by omega
  unfold dfr at hq
  rw [ha] at hmax hq
  obtain ⟨b, hb⟩ : ∃ b, min a 158310720 = b := ⟨_, rfl⟩
  rw [hb] at hmin1 hmin2 hq
  have hbb : 0 ≤ b ∧ b ≤ 158310720 := by omega
  have w1 : IntKind.i64.wrap (b - m) = b - m := by rw [IntKind.wrap_i64]; omega
  have w2 : IntKind.i64.wrap (b - m + 1440) = b - m + 1440 := by rw [IntKind.wrap_i64]; omega
  have w3 : IntKind.i64.wrap (b - m + 1440 - 1) = b - m + 1440 - 1 := by rw [IntKind.wrap_i64]; omega
  have w4 : (b - m + 1440 - 1).tdiv 1440 = (b - m + 1440 - 1) / 1440 := Int.tdiv_eq_ediv_of_nonneg (by omega)
  have w5 : IntKind.i64.wrap ((b - m + 1440 - 1) / 1440) = (b - m + 1440 - 1) / 1440 := by rw [IntKind.wrap_i64]; omega
  have E := Lib.hid hq
  have HA := Lib.hid ha
  have HB := Lib.hid hb
  clear hq ha hb hn
  go_enter Tryz.func115, Tryz.ntmps115
  go_wp2
  go_ret
  exact ⟨ret_int (by first | exact E.out | (rw [HA.out, HB.out]; exact E.out)), rfl⟩
def dlay (w : World) (C : Array Value) (first last : Int) : World := ((w.alloc (.cells C 141)).alloc (.cells #[.int .i64 first] 3)).alloc (.cells #[.int .i64 last] 3)
theorem pdaysf_any (r : R) (A1 A2 A3 A4 : Option Addr) (c1 c2 c3 c4 : Nat) (s first last : Int) (w : World) :
    Calls Tryz.prog 117 #[.agg (ccells r A1 A2 A3 A4 c1 c2 c3 c4 s), .int .i64 first, .int .i64 last] w fun e w' =>
      e = .returned (.func (.func 141) #[] #[.pointer (some ⟨w.heap.size + 1, 0, none⟩), .pointer (some ⟨w.heap.size + 2, 0, none⟩), .pointer (some ⟨w.heap.size, 0, none⟩)]) ∧ w' = dlay w (ccells r A1 A2 A3 A4 c1 c2 c3 c4 s) first last := by
  unfold dlay ccells
  go_enter Tryz.func117, Tryz.ntmps117
  go_wp2
  go_ret
  exact ⟨rfl, rfl⟩
end Go.Proofs.YtfjmofefciopmaaGreat
end
section
namespace Go.Proofs.YtfjmofefciopmaaGreat
open Go.ChangeShapes Go.WideShapes Go.ChangeAt Go.RowKit Go.Joins Go.Shelf Qr Tm Cal
attribute [local go_sem] Oper.semAt_some
def dvs (l : List (Fin 109938)) : List Int := l.map fun x => (x.val : Int)
theorem dvs_snoc (l : List (Fin 109938)) (x : Fin 109938) : dvs (l ++ [x]) = dvs l ++ [(x.val : Int)] := by unfold dvs; simp
theorem dvs_len (l : List (Fin 109938)) : (dvs l).length = l.length := by unfold dvs; simp
theorem own_grow {β : Type} {B : Nat} {I : β → World → Prop} (h : OwnFrom B I) {x : β} {W W' : World} (hs : I x W) (hb : Below W.heap.size W W') : I x W' :=
  h x W W' none hs ⟨hb.os, hb.tape, hb.output, hb.size, fun k hk _ => hb.block k hk⟩ (fun r e => by cases e)
theorem own_sl {w : World} {base size : Nat} {e : TypeId} {A : Option Addr} {n c : Nat} {xs : List Value} (h : w.ownsRow base e size (.slice A n c) n xs) : Sl w A n c xs := by
  obtain ⟨A', c', e', hs⟩ := Sl.of_own h
  simp only [Value.slice.injEq, true_and] at e'
  obtain ⟨rfl, rfl⟩ := e'
  exact hs
section
variable (r : R) (A1 A2 A3 A4 : Option Addr) (c1 c2 c3 c4 : Nat)
set_option maxRecDepth 100000 in
set_option maxHeartbeats 4000000 in
theorem pdays1_in (n l M Lo M0 b1 b2 b3 sn fn : Nat) (X : Nat → Prop) (last : Int) (T : List Int) (ho : Okr r) (hct : 0 ≤ r.count) (hs : sn ≤ 109937) (hsf : sn ≤ fn) (hf : fn ≤ 109938) (hl : 0 ≤ last ∧ last ≤ 109938)
    (hb2 : r.bd.length ≤ 10000) (hp2 : r.bd.Pairwise (· ≤ ·)) (hb4 : r.bs.length ≤ 10000) (hp4 : r.bs.Pairwise (· ≤ ·)) (hT : daysL r (dt sn) fn last = T)
    (hX1 : ¬ X b1) (hX2 : ¬ X b2) (hX3 : ¬ X b3) (hXr : ∀ k, Lo ≤ k → k < M0 → ¬ X k) (hXM : ∀ k, M ≤ k → ¬ X k)
    (J Jx : List (Fin 109938) → World → Prop) (hJ : OwnFrom M J)
    (hY : ∀ pre x W, J pre W → pre.length < T.length → YieldAt Fence.wide (n - 1) Tryz.prog l #[.int .i64 (x.val : Int)] W fun e W' =>
      (e = .returned (.bool true) ∧ J (pre ++ [x]) W' ∧ Kx X M0 W W') ∨ (e = .returned (.bool false) ∧ Jx (pre ++ [x]) W'))
    (W : World) (hM : M ≤ W.heap.size) (hC : CIn W Lo M0 r A1 A2 A3 A4 c1 c2 c3 c4 sn fn last b1 b2 b3) (hJ0 : J [] W) :
    CallsIn Fence.wide n Tryz.prog 141 #[.func (.yield l) #[] #[], .pointer (some ⟨b1, 0, none⟩), .pointer (some ⟨b2, 0, none⟩), .pointer (some ⟨b3, 0, none⟩)] W fun e W' => (∃ v, e = .returned v) ∧
      ((∃ ys, dvs ys = T ∧ J ys W') ∨ (∃ pre, dvs pre <+: T ∧ Jx pre W')) := by
  have hmx : Tryz.prog.follows .mixedOrders = true := by kernel_rfl
  have x1 := blk_cell hC.x1 (i := 0) (v := .int .i64 fn) rfl
  have x2 := blk_cell hC.x2 (i := 0) (v := .int .i64 last) rfl
  refine callsIn_of_wp Tryz.func141 rfl trivial ?_ rfl
  simp only [Tryz.ntmps141, List.size_toArray, List.length_cons, List.length_nil, Nat.reduceAdd, Nat.reduceSub, Array.replicate_succ, Array.replicate_zero, List.push_toArray, List.append_toArray, List.nil_append, List.cons_append]
  by_cases hfl : last ≤ fn
  · have hfl2 : ¬ (fn : Int) < last := by omega
    have hT0 : Hid (T = []) := by show _ = _; rw [← hT]; unfold daysL; rw [if_pos hfl]
    clear hT
    gi_wp2
    refine bodyPost_ret (results_none rfl _ _ _) rfl ?_
    exact ⟨⟨_, rfl⟩, .inl ⟨[], by rw [hT0.out]; rfl, hJ0⟩⟩
  · have hfl2 : ¬ last ≤ (fn : Int) := hfl
    have hfn : fn ≤ 109937 := by omega
    obtain ⟨g1, g2, g3, g4⟩ := fst_low ho hs hfn hsf
    have hsm := bg_small ho (pp_low ho hfn) (by have := (bg_pp ho hfn (pp_low ho hfn)).2 (Int.le_refl _); omega)
    have hl0 : 0 ≤ lowP r := by unfold lowP; split <;> (try split) <;> (try split) <;> omega
    have hblow := bg_low ho g2
    have hi := ho.i
    have HT : Hid (T = outer r sn fn last 110000 (fstP r (dt sn) fn) 0) := by show _ = _; rw [← hT]; unfold daysL; rw [if_neg hfl, dt_n]
    have HF := Lib.hid (fun w => pfirst_any r A1 A2 A3 A4 c1 c2 c3 c4 sn fn hs hfn hsf ho hct w)
    have HC := Lib.hid hC
    obtain ⟨p0, hp0⟩ : ∃ p0, fstP r (dt sn) fn = p0 := ⟨_, rfl⟩
    rw [hp0] at HT HF g1 g2 g3 g4 hblow
    have hp0b : 0 ≤ p0 ∧ p0 < 110000 := by omega
    clear hT hC hp0 g1 g3 g4 hsm
    have q3 := HC.out.x3
    unfold ccells at q3
    have k0 := blk_cell q3 (i := 0) rfl
    have k1 := blk_cell q3 (i := 1) rfl
    have k2 := blk_cell q3 (i := 2) rfl
    have k3 := blk_cell q3 (i := 3) rfl
    have k4 := blk_cell q3 (i := 4) rfl
    have k5 := blk_cell q3 (i := 5) rfl
    have k6 := blk_cell q3 (i := 6) rfl
    have k7 := blk_cell q3 (i := 7) rfl
    have k8 := blk_cell q3 (i := 8) rfl
    have k9 := blk_cell q3 (i := 9) rfl
    clear q3
    unfold ccells at HF
    gi_wp2_with fail
    refine ⟨trivial, fun h => (by cases h), (callsIn_wide.2 (HF.out _)).mono ?_⟩
    rintro e w1 ⟨rfl, hb⟩
    have HC1 := Lib.hid (HC.out.below hb)
    have HJ1 := Lib.hid (own_grow hJ hJ0 hb)
    have hM1 : M ≤ w1.heap.size := Nat.le_trans hM hb.size
    clear k0 k1 k2 k3 k4 k5 k6 k7 k8 k9 x1 x2 hb HC hJ0 hM HF
    have HY := Lib.hid hY
    have HJ := Lib.hid hJ
    clear hY hJ
    have HBG : Hid (∀ p, 0 ≤ p → p ≤ 1000000 → ∀ w, Calls Tryz.prog 143 #[.agg (ccells r A1 A2 A3 A4 c1 c2 c3 c4 sn), .int .i64 p] w fun e w' => e = .returned (.int .i64 (bg r p)) ∧ Below w.heap.size w w') := fun p h1 h2 w => pbegin_any r A1 A2 A3 A4 c1 c2 c3 c4 sn p ho h1 h2 w
    have HDY : Hid (∀ p, lowP r ≤ p → bg r p < 109938 → ∀ w, CIn w Lo M0 r A1 A2 A3 A4 c1 c2 c3 c4 sn fn last b1 b2 b3 → Calls Tryz.prog 144 #[.agg (ccells r A1 A2 A3 A4 c1 c2 c3 c4 sn), .int .i64 p] w (RetN (dd r p) w)) := fun p h1 h2 w h3 => pdays_any r A1 A2 A3 A4 c1 c2 c3 c4 sn p ho h1 h2 hb2 hp2 hb4 hp4 w h3.rows.at_
    have HRI : Hid (∀ p, lowP r ≤ p → bg r p < 109938 → bg r p < bg r (p + r.iv) ∨ 109938 ≤ bg r (p + r.iv)) := fun p h1 h2 => bg_next ho h1 h2
    unfold ccells at HBG HDY
    clear hb2 hp2 hb4 hp4
    gi_wp2
    gi_loopw [5, 6] (fun s5 s6 wr => ∃ (pre : List (Fin 109938)) (f : Nat) (p told : Int), s5 = .int .i64 told ∧ s6 = .int .i64 p ∧ lowP r ≤ p ∧ p ≤ 120000 ∧ 0 ≤ told ∧ told + 400 * (f : Int) ≤ 44000000 ∧ (109938 - bg r p).toNat ≤ f ∧ M ≤ wr.heap.size ∧
        Hid (CIn wr Lo M0 r A1 A2 A3 A4 c1 c2 c3 c4 sn fn last b1 b2 b3) ∧ Hid (J pre wr) ∧ Hid (T = dvs pre ++ outer r sn fn last f p told))
      (fun _ s6 _ => (109938 - bg r (intOf s6)).toNat)
    case atStart => exact ⟨[], 110000, p0, 0, rfl, rfl, g2, by omega, by omega, by omega, by omega, hM1, HC1, HJ1, HT⟩
    case round =>
      obtain ⟨pre, f, p, told, rfl, rfl, hp1, hp2, ht1, ht2, hfu, hMr, HCr, HJr, HTr⟩ := hrel
      have q3 := HCr.out.x3
      unfold ccells at q3
      have k0 := blk_cell q3 (i := 0) rfl
      have k1 := blk_cell q3 (i := 1) rfl
      have k2 := blk_cell q3 (i := 2) rfl
      have k3 := blk_cell q3 (i := 3) rfl
      have k4 := blk_cell q3 (i := 4) rfl
      have k5 := blk_cell q3 (i := 5) rfl
      have k6 := blk_cell q3 (i := 6) rfl
      have k7 := blk_cell q3 (i := 7) rfl
      have k8 := blk_cell q3 (i := 8) rfl
      have k9 := blk_cell q3 (i := 9) rfl
      have x2 := blk_cell HCr.out.x2 (i := 0) (v := .int .i64 last) rfl
      have x2g : ∀ g : Gr wr, g.val.cell? ⟨b2, 0, none⟩ = some (.int .i64 last) := fun g => cell_old x2 g.ok
      clear q3
      have HB1 := Lib.hid (HBG.out p (by omega) (by omega))
      have hbl := bg_low ho hp1
      by_cases hlt : bg r p < last
      · have hpp := bg_small ho hp1 (by omega)
        obtain ⟨f, rfl⟩ : ∃ f', f = f' + 1 := ⟨f - 1, by omega⟩
        have hnx := HRI.out p hp1 (by omega)
        have hdl := dd_len ho hp1 (by omega)
        have HD1 := Lib.hid (HDY.out p hp1 (by omega))
        have HTr2 : Hid (T = dvs pre ++ inner sn fn last r.count (dd r p) told (fun t => outer r sn fn last f (p + r.iv) t)) := by
          show _ = _
          have h := HTr.out
          unfold outer at h
          rw [if_pos hlt] at h
          exact h
        have HMD := Lib.hid (fun x (h : x ∈ dd r p) => mem_dd h)
        clear HTr
        gi_wp2_with fail
        gi_region_with_o (refine ⟨trivial, fun h => (by cases h), (callsIn_wide.2 (HB1.out _)).mono ?_⟩; rintro e w2 ⟨rfl, hb⟩; have hb2 := (drew_below wr).trans hb; have y2 := cell_old x2 hb2; clear hb)
        all_goals
          have HC2 := Lib.hid (HCr.out.below hb2)
          have HJ2 := Lib.hid (own_grow HJ.out HJr.out hb2)
          have hM2 : M ≤ w2.heap.size := Nat.le_trans hMr hb2.size
          clear k0 k1 k2 k3 k4 k5 k6 k7 k8 k9 x2 x2g hb2 HCr HJr
          have q3 := HC2.out.x3
          unfold ccells at q3
          have k0 := blk_cell q3 (i := 0) rfl
          have k1 := blk_cell q3 (i := 1) rfl
          have k2 := blk_cell q3 (i := 2) rfl
          have k3 := blk_cell q3 (i := 3) rfl
          have k4 := blk_cell q3 (i := 4) rfl
          have k5 := blk_cell q3 (i := 5) rfl
          have k6 := blk_cell q3 (i := 6) rfl
          have k7 := blk_cell q3 (i := 7) rfl
          have k8 := blk_cell q3 (i := 8) rfl
          have k9 := blk_cell q3 (i := 9) rfl
          clear q3
          gi_wp2_with fail
          refine ⟨trivial, fun h => (by cases h), (callsIn_wide.2 (HD1.out _ HC2.out)).mono ?_⟩
          rintro e w3 ⟨v, rfl, hown, hb3⟩
          have HC3 := Lib.hid (HC2.out.below hb3)
          have HJ3 := Lib.hid (own_grow HJ.out HJ2.out hb3)
          have hM3 : M ≤ w3.heap.size := Nat.le_trans hM2 hb3.size
          have HOW := Lib.hid (ownN_base hown hM2)
          clear k0 k1 k2 k3 k4 k5 k6 k7 k8 k9 y2 hb3 HC2 HJ2 hown
          obtain ⟨Ad, cd, rfl, _⟩ := Sl.of_own HOW.out
          generalize dd r p = d at *
          have HTD : Hid (T = dvs pre ++ inner sn fn last r.count (d.drop 0) told (fun t => outer r sn fn last f (p + r.iv) t)) := HTr2.out
          clear HTr2
          gi_wp2
          gi_loopw [5, 29] (fun s5 s29 wr => ∃ (pre : List (Fin 109938)) (j : Nat) (told : Int), s5 = .int .i64 told ∧ s29 = .int .i64 j ∧ j ≤ d.length ∧ 0 ≤ told ∧ told + ((d.length : Int) - j) + 400 * (f : Int) ≤ 44000000 ∧ M ≤ wr.heap.size ∧
              Hid (CIn wr Lo M0 r A1 A2 A3 A4 c1 c2 c3 c4 sn fn last b1 b2 b3) ∧ Hid (J pre wr) ∧ Hid (wr.ownsRow M 3 1 (.slice Ad d.length cd) d.length (iv d)) ∧ Hid (T = dvs pre ++ inner sn fn last r.count (d.drop j) told (fun t => outer r sn fn last f (p + r.iv) t)))
            (fun _ s29 _ => d.length - (intOf s29).toNat)
          case atStart => exact ⟨pre, 0, told, rfl, rfl, Nat.zero_le _, ht1, by omega, hM3, HC3, HJ3, HOW, HTD⟩
          case round =>
            obtain ⟨pre, j, told, rfl, rfl, hj, ht3, ht4, hMr, HCr, HJr, HOr, HTr⟩ := hrel
            by_cases hjl : j < d.length
            · have hjz : (j : Int) < d.length := by omega
              have hw1 : IntKind.i64.wrap ((j : Int) + 1) = j + 1 := by rw [IntKind.wrap_i64]; omega
              have hw2 : IntKind.i64.wrap (told + 1) = told + 1 := by rw [IntKind.wrap_i64]; omega
              obtain ⟨x, hx⟩ : ∃ x, d[j]? = some x := ⟨_, List.getElem?_eq_getElem hjl⟩
              obtain ⟨pb, po, rfl, hpb, hpc⟩ := (own_sl HOr.out).intG hx
              have hc0 := hpc ⟨wr, Below.refl _ _⟩
              simp only at hc0
              have hxb := HMD.out x (List.mem_of_getElem? hx)
              have hxd : d.drop j = x :: d.drop (j + 1) := by
                rw [drop_step hjl]; congr 1
                have := List.getElem?_eq_getElem hjl
                rw [hx] at this; exact (Option.some.inj this).symm
              have k9 := blk_cell HCr.out.x3 (i := 9) (v := .int .i64 sn) rfl
              have k2 := blk_cell HCr.out.x3 (i := 2) (v := .int .i64 r.count) rfl
              have y1 := blk_cell HCr.out.x1 (i := 0) (v := .int .i64 fn) rfl
              have y2 := blk_cell HCr.out.x2 (i := 0) (v := .int .i64 last) rfl
              have HTr2 : Hid (T = dvs pre ++ (if x < sn then inner sn fn last r.count (d.drop (j + 1)) told (fun t => outer r sn fn last f (p + r.iv) t) else if last ≤ x then [] else (if (fn : Int) ≤ x then [x] else []) ++ (if told + 1 = r.count then [] else inner sn fn last r.count (d.drop (j + 1)) (told + 1) (fun t => outer r sn fn last f (p + r.iv) t)))) := by
                show _ = _
                have h := HTr.out
                rw [hxd] at h
                exact h
              clear HTr hx hpc hxd
              by_cases e1 : x < sn
              · have E : Hid (T = dvs pre ++ inner sn fn last r.count (d.drop (j + 1)) told (fun t => outer r sn fn last f (p + r.iv) t)) := by show _ = _; have h := HTr2.out; rw [if_pos e1] at h; exact h
                clear HTr2
                gi_wp2_with fail
                go_roundw
                case rel => exact ⟨pre, j + 1, told, rfl, by go_num, by omega, ht3, by omega, hMr, HCr, HJr, HOr, E⟩
                case measure => simp [intOf]; omega
              · have e1b : decide (x < (sn : Int)) = false := decide_eq_false e1
                by_cases e2 : last ≤ x
                · have E : Hid (T = dvs pre) := by show _ = _; have h := HTr2.out; rw [if_neg e1, if_pos e2, List.append_nil] at h; exact h
                  clear HTr2
                  gi_wp2_with fail
                  refine bodyPost_ret (results_none rfl _ _ _) rfl ?_
                  exact ⟨⟨_, rfl⟩, .inl ⟨pre, E.out.symm, HJr.out⟩⟩
                · have e2b : decide (last ≤ x) = false := decide_eq_false e2
                  have HT3 : Hid (T = dvs pre ++ ((if (fn : Int) ≤ x then [x] else []) ++ (if told + 1 = r.count then [] else inner sn fn last r.count (d.drop (j + 1)) (told + 1) (fun t => outer r sn fn last f (p + r.iv) t)))) := by show _ = _; have h := HTr2.out; rw [if_neg e1, if_neg e2] at h; exact h
                  clear HTr2
                  by_cases e3 : (fn : Int) ≤ x
                  · have hxv : ((x.toNat : Nat) : Int) = x := by omega
                    have HT4 : Hid (T = dvs (pre ++ [⟨x.toNat, by omega⟩]) ++ (if told + 1 = r.count then [] else inner sn fn last r.count (d.drop (j + 1)) (told + 1) (fun t => outer r sn fn last f (p + r.iv) t))) := by
                      show _ = _; have h := HT3.out
                      rw [if_pos e3] at h
                      rw [dvs_snoc, hxv, List.append_assoc]; exact h
                    have hlen : pre.length < T.length := by
                      have h := congrArg List.length HT4.out
                      rw [List.length_append, dvs_len, List.length_append] at h
                      simp at h; omega
                    obtain ⟨fn', tmps, assign, body, hy, hR⟩ := HY.out pre ⟨x.toNat, by omega⟩ wr HJr.out hlen
                    simp only [hxv] at hy
                    clear HT3 hlen
                    gi_wp2_with fail
                    refine ⟨fun h => (by cases h), hR.mono ?_⟩
                    rintro e W3 (⟨rfl, hJ3, hk3⟩ | ⟨rfl, hJx3⟩)
                    · have HC4 := Lib.hid (HCr.out.kx hk3 hX1 hX2 hX3 hXr)
                      have HO4 := Lib.hid (own_kx HOr.out hk3 hXM (by decide))
                      have hM4 : M ≤ W3.heap.size := Nat.le_trans hMr hk3.size
                      have HJ4 := Lib.hid hJ3
                      have z2 := blk_cell HC4.out.x3 (i := 2) (v := .int .i64 r.count) rfl
                      by_cases e4 : told + 1 = r.count
                      · have e4b : (told + 1 == r.count) = true := beq_iff_eq.2 e4
                        have E : Hid (T = dvs (pre ++ [⟨x.toNat, by omega⟩])) := by show _ = _; have h := HT4.out; rw [if_pos e4, List.append_nil] at h; exact h
                        clear HT4 hJ3 hk3 e4
                        gi_wp2_with fail
                        refine bodyPost_ret (results_none rfl _ _ _) rfl ?_
                        exact ⟨⟨_, rfl⟩, .inl ⟨_, E.out.symm, HJ4.out⟩⟩
                      · have e4b : (told + 1 == r.count) = false := beq_false_of_ne e4
                        have E : Hid (T = dvs (pre ++ [⟨x.toNat, by omega⟩]) ++ inner sn fn last r.count (d.drop (j + 1)) (told + 1) (fun t => outer r sn fn last f (p + r.iv) t)) := by show _ = _; have h := HT4.out; rw [if_neg e4] at h; exact h
                        clear HT4 hJ3 hk3 e4
                        gi_wp2_with fail
                        go_roundw
                        case rel => exact ⟨_, j + 1, told + 1, rfl, by go_num, by omega, by omega, by omega, hM4, HC4, HJ4, HO4, E⟩
                        case measure => simp [intOf]; omega
                    · gi_wp2_with fail
                      refine bodyPost_ret (results_none rfl _ _ _) rfl ?_
                      exact ⟨⟨_, rfl⟩, .inr ⟨_, ⟨_, HT4.out.symm⟩, hJx3⟩⟩
                  · have e3b : decide ((fn : Int) ≤ x) = false := decide_eq_false e3
                    have HT4 : Hid (T = dvs pre ++ (if told + 1 = r.count then [] else inner sn fn last r.count (d.drop (j + 1)) (told + 1) (fun t => outer r sn fn last f (p + r.iv) t))) := by
                      show _ = _; have h := HT3.out
                      rw [if_neg e3, List.nil_append] at h; exact h
                    clear HT3
                    by_cases e4 : told + 1 = r.count
                    · have e4b : (told + 1 == r.count) = true := beq_iff_eq.2 e4
                      have E : Hid (T = dvs pre) := by show _ = _; have h := HT4.out; rw [if_pos e4, List.append_nil] at h; exact h
                      clear HT4 e4
                      gi_wp2_with fail
                      refine ⟨fun _ h => (by cases h), ?_⟩
                      gi_wp2_with fail
                      refine bodyPost_ret (results_none rfl _ _ _) rfl ?_
                      exact ⟨⟨_, rfl⟩, .inl ⟨_, E.out.symm, HJr.out⟩⟩
                    · have e4b : (told + 1 == r.count) = false := beq_false_of_ne e4
                      have E : Hid (T = dvs pre ++ inner sn fn last r.count (d.drop (j + 1)) (told + 1) (fun t => outer r sn fn last f (p + r.iv) t)) := by show _ = _; have h := HT4.out; rw [if_neg e4] at h; exact h
                      clear HT4 e4
                      gi_wp2_with fail
                      refine ⟨fun _ h => (by cases h), ?_⟩
                      gi_wp2_with fail
                      go_roundw
                      case rel => exact ⟨_, j + 1, told + 1, rfl, by go_num, by omega, by omega, by omega, hMr, HCr, HJr, HOr, E⟩
                      case measure => simp [intOf]; omega
            · have hjz : ¬ (j : Int) < d.length := by omega
              have E : Hid (T = dvs pre ++ outer r sn fn last f (p + r.iv) told) := by show _ = _; have h := HTr.out; rw [List.drop_of_length_le (by omega)] at h; exact h
              have k1 := blk_cell HCr.out.x3 (i := 1) (v := .int .i64 r.iv) rfl
              have hwi : IntKind.i64.wrap (p + r.iv) = p + r.iv := by rw [IntKind.wrap_i64]; omega
              clear HTr
              gi_wp2_with fail
              go_roundw
              case rel => exact ⟨pre, f, p + r.iv, told, rfl, by go_num, by omega, by omega, ht3, by omega, by omega, hMr, HCr, HJr, E⟩
              case measure => simp only [intOf]; omega
      · have E : Hid (T = dvs pre) := by
          show _ = _
          have h := HTr.out
          cases f with
          | zero => unfold outer at h; rw [List.append_nil] at h; exact h
          | succ f => unfold outer at h; rw [if_neg hlt, List.append_nil] at h; exact h
        have hltb : decide (bg r p < last) = false := decide_eq_false hlt
        gi_wp2_with fail
        gi_region_with_o (refine ⟨trivial, fun h => (by cases h), (callsIn_wide.2 (HB1.out _)).mono ?_⟩; rintro e w2 ⟨rfl, hb⟩; have hb2 := (drew_below wr).trans hb; have y2 := cell_old x2 hb2; clear hb)
        all_goals
          have HJ2 := Lib.hid (own_grow HJ.out HJr.out hb2)
          gi_wp2
          go_end0
          exact ⟨⟨_, rfl⟩, .inl ⟨pre, E.out.symm, HJ2.out⟩⟩
end
end Go.Proofs.YtfjmofefciopmaaGreat
end
section
namespace Go.Proofs.YtfjmofefciopmaaGreat
open Go.ChangeShapes Go.WideShapes Go.ChangeAt Go.RowKit Go.Joins Go.Shelf Qr Tm Cal
attribute [local go_sem] Oper.semAt_some
def sts (start : Int) (l : List (Fin 109938)) : List Int := (dvs l).map (stampOf start)
theorem sts_snoc (start : Int) (l : List (Fin 109938)) (x : Fin 109938) : sts start (l ++ [x]) = sts start l ++ [stampOf start (x.val : Int)] := by unfold sts; rw [dvs_snoc, List.map_append]; rfl
theorem sts_len (start : Int) (l : List (Fin 109938)) : (sts start l).length = l.length := by unfold sts; rw [List.length_map, dvs_len]
theorem heap_own {W W' : World} {b : Nat} {o : Obj} {row : Option Nat} (h : W.heap[b]? = some o) (ho : o.isCells = true) (hg : W.grownBy W' row) (hr : ∀ r, row = some r → ∃ o : Obj, W.heap[r]? = some o ∧ o.isCells = false) : W'.heap[b]? = some o :=
  (hg.block b (heap_lt' h) (fun e => by obtain ⟨o', h1, h2⟩ := hr b e.symm; rw [h] at h1; cases h1; rw [ho] at h2; cases h2)).trans h
theorem keeps_of_kx {X : Nat → Prop} {M0 B : Nat} {W W' : World} (h : Kx X M0 W W') (hX : ∀ k, B ≤ k → ¬ X k) : KeepsFrom B W W' :=
  ⟨h.size, fun k o hB hk ho => h.same k o hk (hX k hB) (fun _ cs fr e => by subst e; cases ho)⟩
section
variable (r : R) (A1 A2 A3 A4 : Option Addr) (c1 c2 c3 c4 : Nat)
set_option maxRecDepth 100000 in
set_option maxHeartbeats 4000000 in
theorem pwithin2_in (n l M Lo M0 b1 b2 b3 b4 sn fn : Nat) (X : Nat → Prop) (start last : Int) (T : List Int) (ho : Okr r) (hct : 0 ≤ r.count) (hs : sn ≤ 109937) (hsf : sn ≤ fn) (hf : fn ≤ 109938) (hl : 0 ≤ last ∧ last ≤ 109938) (hn : 1 ≤ n)
    (hb2 : r.bd.length ≤ 10000) (hp2 : r.bd.Pairwise (· ≤ ·)) (hb4 : r.bs.length ≤ 10000) (hp4 : r.bs.Pairwise (· ≤ ·)) (hT : (daysL r (dt sn) fn last).map (stampOf start) = T)
    (hXr : ∀ k, Lo ≤ k → k < M0 → ¬ X k) (hXM : ∀ k, M ≤ k → ¬ X k) (hLo : Lo ≤ b4 ∧ b4 < M0 ∧ M0 ≤ M)
    (J Jx : List Int → World → Prop) (hJ : OwnFrom M J) (hJx : OwnFrom M Jx)
    (hY : ∀ pre x W, J pre W → pre.length < T.length → YieldAt Fence.wide (n - 1) Tryz.prog l #[.int .i64 x] W fun e W' =>
      (e = .returned (.bool true) ∧ J (pre ++ [x]) W' ∧ Kx X M0 W W') ∨ (e = .returned (.bool false) ∧ Jx (pre ++ [x]) W' ∧ Kx X M0 W W'))
    (W : World) (hM : W.heap.size = M) (hC : CIn W Lo M0 r A1 A2 A3 A4 c1 c2 c3 c4 sn fn last b1 b2 b3) (hmin : W.heap[b4]? = some (.cells #[.int .i64 (start % 1440)] 2 (0, 0))) (hJ0 : J [] W) :
    CallsIn Fence.wide n Tryz.prog 116 #[.func (.yield l) #[] #[], .pointer (some ⟨b3, 0, none⟩), .pointer (some ⟨b1, 0, none⟩), .pointer (some ⟨b2, 0, none⟩), .pointer (some ⟨b4, 0, none⟩)] W fun e W' => (∃ v, e = .returned v) ∧
      ((∃ ys, ys = T ∧ J ys W') ∨ (∃ pre, pre <+: T ∧ Jx pre W')) := by
  subst hM
  refine callsIn_of_wp_marks Tryz.func116 rfl trivial ?_ rfl
  simp only [Tryz.ntmps116, List.size_toArray, List.length_cons, List.length_nil, Nat.reduceAdd, Nat.reduceSub, Array.replicate_succ, Array.replicate_zero, List.push_toArray, List.append_toArray, List.nil_append, List.cons_append]
  obtain ⟨W1, hW1⟩ : ∃ W1, W.alloc (.cells #[.func (.yield l) #[] #[]] 54) = W1 := ⟨_, rfl⟩
  have hB1 : Below W.heap.size W W1 := by rw [← hW1]; exact (Below.refl _ W).alloc (Nat.le_refl _) _
  have hsz1 : W1.heap.size = W.heap.size + 1 := by rw [← hW1]; simp
  have hC1 := hC.below hB1
  have hy1 : W1.heap[W.heap.size]? = some (.cells #[.func (.yield l) #[] #[]] 54 (0, 0)) := by rw [← hW1, heap_alloc_new]
  have q3 := hC1.x3
  unfold ccells at q3
  have k0 := blk_cell q3 (i := 0) rfl
  have k1 := blk_cell q3 (i := 1) rfl
  have k2 := blk_cell q3 (i := 2) rfl
  have k3 := blk_cell q3 (i := 3) rfl
  have k4 := blk_cell q3 (i := 4) rfl
  have k5 := blk_cell q3 (i := 5) rfl
  have k6 := blk_cell q3 (i := 6) rfl
  have k7 := blk_cell q3 (i := 7) rfl
  have k8 := blk_cell q3 (i := 8) rfl
  have k9 := blk_cell q3 (i := 9) rfl
  have x1 := blk_cell hC1.x1 (i := 0) (v := .int .i64 fn) rfl
  have x2 := blk_cell hC1.x2 (i := 0) (v := .int .i64 last) rfl
  have HDF := Lib.hid (pdaysf_any r A1 A2 A3 A4 c1 c2 c3 c4 sn fn last W1)
  have hmin1 : W1.heap[b4]? = some (.cells #[.int .i64 (start % 1440)] 2 (0, 0)) := blk_below hmin hB1
  have HC1 := Lib.hid hC1
  have HY1 := Lib.hid hy1
  have HM1 := Lib.hid hmin1
  have HB1 := Lib.hid hB1
  have HS1 := Lib.hid hsz1
  clear q3 hC1 hy1 hmin1 hB1 hsz1 hmin
  subst hW1
  unfold ccells at HDF
  gi_wp2_with fail
  first | refine ⟨trivial, fun h => (by cases h), (callsIn_wide.2 HDF.out).mono ?_⟩ | refine ⟨trivial, (callsIn_wide.2 HDF.out).mono ?_⟩
  rintro e w' ⟨rfl, rfl⟩
  clear k0 k1 k2 k3 k4 k5 k6 k7 k8 k9 x1 x2 HDF
  rw [HS1.out]
  obtain ⟨W2, hW2⟩ : ∃ W2, dlay (W.alloc (.cells #[.func (.yield l) #[] #[]] 54)) #[.int .i64 r.freq, .int .i64 r.iv, .int .i64 r.count, .int .i64 r.until_, .slice A1 r.bm.length c1, .slice A2 r.bd.length c2, .slice A3 r.bw.length c3, .slice A4 r.bs.length c4, .int .i64 r.start, .int .i64 sn] fn last = W2 := ⟨_, rfl⟩
  have HB2 : Hid (Below W.heap.size W W2) := by
    show Below _ _ _; rw [← hW2]; unfold dlay
    exact ((HB1.out.alloc (by have := HS1.out; omega) _).alloc (by have := HS1.out; simp; omega) _).alloc (by have := HS1.out; simp; omega) _
  have hsz2 : W2.heap.size = W.heap.size + 4 := by rw [← hW2]; unfold dlay; have := HS1.out; simp
  have HYB : Hid (W2.heap[W.heap.size]? = some (.cells #[.func (.yield l) #[] #[]] 54 (0, 0))) := by
    show _ = _; rw [← hW2]; unfold dlay
    have hlt := heap_lt' HY1.out
    rw [heap_alloc_old _ _ (by simp at hlt ⊢; omega), heap_alloc_old _ _ (by simp at hlt ⊢; omega), heap_alloc_old _ _ hlt]; exact HY1.out
  have HMB : Hid (W2.heap[b4]? = some (.cells #[.int .i64 (start % 1440)] 2 (0, 0))) := by
    show _ = _
    have hlt := heap_lt' HM1.out
    rw [← hW2]; unfold dlay
    rw [heap_alloc_old _ _ (by simp at hlt ⊢; omega), heap_alloc_old _ _ (by simp at hlt ⊢; omega), heap_alloc_old _ _ hlt]; exact HM1.out
  have HC2 : Hid (CIn W2 Lo M0 r A1 A2 A3 A4 c1 c2 c3 c4 sn fn last (W.heap.size + 2) (W.heap.size + 3) (W.heap.size + 1)) := by
    have h := HC1.out.below (W' := W2) (by rw [← hW2]; unfold dlay; exact (((Below.refl _ _).alloc (Nat.le_refl _) _).alloc (by simp) _).alloc (by simp) _)
    refine ⟨?_, ?_, ?_, h.rows, h.top⟩
    · rw [← hW2]; unfold dlay; rw [heap_alloc_old _ _ (by simp)]
      have := heap_alloc_new2 (W.alloc (.cells #[.func (.yield l) #[] #[]] 54)) (.cells (ccells r A1 A2 A3 A4 c1 c2 c3 c4 sn) 141) (.cells #[.int .i64 fn] 3)
      rw [HS1.out] at this; exact this
    · rw [← hW2]; unfold dlay
      have := heap_alloc_new3 (W.alloc (.cells #[.func (.yield l) #[] #[]] 54)) (.cells (ccells r A1 A2 A3 A4 c1 c2 c3 c4 sn) 141) (.cells #[.int .i64 fn] 3) (.cells #[.int .i64 last] 3)
      rw [HS1.out] at this; exact this
    · rw [← hW2]; unfold dlay
      rw [heap_alloc_old _ _ (by simp), heap_alloc_old _ _ (by simp)]
      have := heap_alloc_new (W.alloc (.cells #[.func (.yield l) #[] #[]] 54)) (.cells (ccells r A1 A2 A3 A4 c1 c2 c3 c4 sn) 141)
      rw [HS1.out] at this; exact this
  rw [hW2]
  clear hW2 HC1 HY1 HM1 HB1
  rw [show W.heap.size + 1 + 1 = W.heap.size + 2 from rfl, show W.heap.size + 1 + 2 = W.heap.size + 3 from rfl]
  obtain ⟨D, hD⟩ : ∃ D, daysL r (dt sn) fn last = D := ⟨_, rfl⟩
  rw [hD] at hT
  have hTl : T.length = D.length := by rw [← hT, List.length_map]
  have HT := Lib.hid hT
  have HJ := Lib.hid hJ
  have HJx := Lib.hid hJx
  have HJ0 := Lib.hid (own_grow hJ hJ0 HB2.out)
  have HY := Lib.hid hY
  clear hJ hJx hJ0 hY hC hT
  gi_wp2
  refine wp_rangeO (F := Fence.wide) rfl hn (gf := 141) (lb := #[.pointer (some ⟨W.heap.size + 2, 0, none⟩), .pointer (some ⟨W.heap.size + 3, 0, none⟩), .pointer (some ⟨W.heap.size + 1, 0, none⟩)]) rfl trivial (enters_of Tryz.func141 (by kernel_rfl) rfl)
    (encs := fun x : Fin 109938 => #[.int .i64 (x.val : Int)]) (Kp := Kx (fun k => X k ∨ k = W2.heap.size + 1) M0) (S := fun ys => dvs ys = D) (Sp := fun pre => dvs pre <+: D) (N := D.length) (w0 := W2) ?hseq (fun h k => h.trans k) (fun V o => Kx.put (.inr rfl) V o) (Below.refl _ _) (fun _ => rfl)
    (fun pre V => J (sts start pre) V ∧ V.heap[W.heap.size]? = some (.cells #[.func (.yield l) #[] #[]] 54 (0, 0)) ∧ V.heap[b4]? = some (.cells #[.int .i64 (start % 1440)] 2 (0, 0)))
    (fun c pre V => c = .ret ∧ Jx (sts start pre) V)
    (fun s X Y row hs hg hr => ⟨(ownFrom_more HJ.out (B' := W2.heap.size) (by omega)) (sts start s) X Y row hs.1 hg hr, heap_own hs.2.1 rfl hg (fun r e => (hr r e).2), heap_own hs.2.2 rfl hg (fun r e => (hr r e).2)⟩)
    (fun c s X Y row hs hg hr => ⟨hs.1, (ownFrom_more HJx.out (B' := W2.heap.size) (by omega)) (sts start s) X Y row hs.2 hg hr⟩)
    ⟨HJ0.out, HYB.out, HMB.out⟩
    (fun x => { tmps := #[.func (.yield l) #[] #[], .pointer (some ⟨b3, 0, none⟩), .pointer (some ⟨b1, 0, none⟩), .pointer (some ⟨b2, 0, none⟩), .pointer (some ⟨b4, 0, none⟩), .pointer (some ⟨W.heap.size, 0, none⟩), .int .i64 (x.val : Int), .agg #[.int .i64 r.freq, .int .i64 r.iv, .int .i64 r.count, .int .i64 r.until_, .slice A1 r.bm.length c1, .slice A2 r.bd.length c2, .slice A3 r.bw.length c3, .slice A4 r.bs.length c4, .int .i64 r.start, .int .i64 sn], .int .i64 fn, .int .i64 last,
      .func (.func 141) #[] #[.pointer (some ⟨W.heap.size + 2, 0, none⟩), .pointer (some ⟨W.heap.size + 3, 0, none⟩), .pointer (some ⟨W.heap.size + 1, 0, none⟩)], .int .i64 (x.val : Int), undef, undef, undef, undef, undef, undef, undef], defers := [] })
    ?assign ?body ?done ?stop
  case hseq =>
    intro l2 J2 Jx2 V hl2 hV hbV hJ2 hJx2 hY2 h0
    refine (pdays1_in r A1 A2 A3 A4 c1 c2 c3 c4 (n - 1) l2 (W2.heap.size + 2) Lo M0 (W.heap.size + 2) (W.heap.size + 3) (W.heap.size + 1) sn fn (fun k => X k ∨ k = W2.heap.size + 1) last D ho hct hs hsf hf hl hb2 hp2 hb4 hp4 hD
      (fun h => h.elim (hXM _ (by omega)) (fun h => by omega)) (fun h => h.elim (hXM _ (by omega)) (fun h => by omega)) (fun h => h.elim (hXM _ (by omega)) (fun h => by omega))
      (fun k h1 h2 h => h.elim (hXr k h1 h2) (fun h => by omega)) (fun k h1 h => h.elim (hXM _ (by omega)) (fun h => by omega))
      J2 Jx2 hJ2 (fun pre x W' h hlen => ?_) V (by omega) (HC2.out.below hbV) h0).mono ?_
    · obtain ⟨fn', tmps, assign, body, hy, hR⟩ := hY2 pre x W' h hlen
      exact ⟨fn', tmps, assign, body, hy, hR.mono fun e W3 h => h.imp_right fun ⟨a, b, _⟩ => ⟨a, b⟩⟩
    · rintro e W3 ⟨he, h⟩
      exact ⟨he, h⟩
  case assign =>
    intro l2 x V K hK
    gi_wp2
    exact hK
  case body =>
    rintro pre x V hsz ⟨hJv, hyb, hmb⟩ hlen
    have y0 := blk_cell hyb (i := 0) (v := .func (.yield l) #[] #[]) rfl
    have m0 := blk_cell hmb (i := 0) (v := .int .i64 (start % 1440)) rfl
    have hxv := x.isLt
    have w1 : IntKind.i64.wrap ((x.val : Int) * 1440) = (x.val : Int) * 1440 := by rw [IntKind.wrap_i64]; omega
    have w2 : IntKind.i64.wrap ((x.val : Int) * 1440 + start % 1440) = (x.val : Int) * 1440 + start % 1440 := by rw [IntKind.wrap_i64]; omega
    obtain ⟨fn', tmps, assign, body, hy, hR⟩ := HY.out (sts start pre) (stampOf start (x.val : Int)) V hJv (by rw [sts_len]; omega)
    unfold stampOf at hy
    gi_wp2_with fail
    first | refine ⟨fun h => (by cases h), (round_wide hR).mono ?_⟩ | refine (round_wide hR).mono ?_
    rintro e W3 (⟨rfl, hJ3, hk3⟩ | ⟨rfl, hJx3, hk3⟩)
    · gi_wp2_with fail
      refine ⟨keeps_of_kx hk3 (fun k h => hXM k (by omega)), hk3.mono (fun k h => .inl h), ?_, hk3.cell hyb (hXM _ (Nat.le_refl _)) (by decide), hk3.same _ _ hmb (hXr _ hLo.1 hLo.2.1) (fun h => by omega)⟩
      rw [sts_snoc]; exact hJ3
    · gi_wp2_with fail
      refine ⟨keeps_of_kx hk3 (fun k h => hXM k (by omega)), hk3.mono (fun k h => .inl h), rfl, ?_⟩
      rw [sts_snoc]; exact hJx3
  case done =>
    rintro xs V hS ⟨hJv, _, _⟩ hK
    gi_wp2
    refine ⟨by simp, .inl ⟨_, _, rfl, run_takeDeferred hK, ?_⟩⟩
    refine ⟨_, results_none rfl _ _ _, ⟨_, rfl⟩, .inl ⟨_, ?_, HJ.out.putObj _ hJv (by omega) hK rfl⟩⟩
    unfold sts; rw [hS]; exact HT.out
  case stop =>
    rintro c pre V hS ⟨rfl, hJv⟩ hK
    gi_wp2
    refine ⟨by simp, .inl ⟨_, _, rfl, run_takeDeferred hK, ?_⟩⟩
    refine ⟨_, results_none rfl _ _ _, ⟨_, rfl⟩, .inr ⟨_, ?_, HJx.out.putObj _ hJv (by omega) hK rfl⟩⟩
    obtain ⟨q, hq⟩ := hS
    exact ⟨q.map (stampOf start), by rw [← HT.out, ← hq, List.map_append]; rfl⟩
end
end Go.Proofs.YtfjmofefciopmaaGreat
end
