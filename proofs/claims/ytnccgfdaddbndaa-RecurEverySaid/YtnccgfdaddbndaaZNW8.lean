import Derived.Test.YtnccgfdaddbndaaZNW7
import Derived.Test.YtnccgfdaddbndaaZNF
/- Contracts of the program's times: what is kept while times are handed out; small functions. -/
section
namespace Go.Proofs.Ytnccgfdaddbndaa
open Go.ChangeShapes Go.WideShapes Go.ChangeAt Go.RowKit Go.Joins Go.Shelf Qr Tm Cal

/-- A block's contents are no row of stamps. -/
def noSt (o : Obj) : Prop := ∀ cs fr, o ≠ .cells cs 2 fr
/-- Everything stays but some blocks, and rows of stamps that were laid since M0. -/
structure Kx (X : Nat → Prop) (M0 : Nat) (W W' : World) : Prop where
  size : W.heap.size ≤ W'.heap.size
  same : ∀ k o, W.heap[k]? = some o → ¬ X k → (M0 ≤ k → noSt o) → W'.heap[k]? = some o
theorem Kx.refl (X : Nat → Prop) (M0 : Nat) (W : World) : Kx X M0 W W := ⟨Nat.le_refl _, fun _ _ h _ _ => h⟩
theorem Kx.trans {X : Nat → Prop} {M0 : Nat} {A B C : World} (h : Kx X M0 A B) (k : Kx X M0 B C) : Kx X M0 A C :=
  ⟨Nat.le_trans h.size k.size, fun i o hi hX hn => k.same i o (h.same i o hi hX hn) hX hn⟩
theorem Kx.of_below {X : Nat → Prop} {M0 : Nat} {W W' : World} (h : Below W.heap.size W W') : Kx X M0 W W' := ⟨h.size, fun _ _ hk _ _ => blk_below hk h⟩
theorem Kx.mono {X Y : Nat → Prop} {M0 : Nat} {W W' : World} (h : Kx X M0 W W') (hXY : ∀ k, X k → Y k) : Kx Y M0 W W' := ⟨h.size, fun k o hk hY hn => h.same k o hk (fun hX => hY (hXY k hX)) hn⟩
theorem Kx.put {X : Nat → Prop} {M0 l : Nat} (hl : X l) (W : World) (o : Obj) : Kx X M0 W (W.putObj l o) :=
  ⟨by simp [World.putObj], fun k o' hk hX _ => (World.putObj_heap_other (by intro e; subst e; exact hX hl)).trans hk⟩
theorem Kx.cell {X : Nat → Prop} {M0 : Nat} {W W' : World} (h : Kx X M0 W W') {b : Nat} {cs : Array Value} {t : TypeId} {fr : Nat × Nat} (hb : W.heap[b]? = some (.cells cs t fr)) (hX : ¬ X b) (ht : t ≠ 2) : W'.heap[b]? = some (.cells cs t fr) :=
  h.same b _ hb hX (fun _ cs' fr' e => by cases e; exact ht rfl)
theorem own_kx {X : Nat → Prop} {M0 : Nat} {w w' : World} {base : Nat} {e : TypeId} {size : Nat} {v : Value} {n : Nat} {xs : List Value} (h : w.ownsRow base e size v n xs) (hk : Kx X M0 w w') (hX : ∀ k, base ≤ k → ¬ X k) (ht : e ≠ 2) : w'.ownsRow base e size v n xs := by
  obtain ⟨hl, h | ⟨g, cap, cur, hv, hg, hc, r⟩⟩ := h
  · exact ⟨hl, .inl h⟩
  · exact ⟨hl, .inr ⟨g, cap, cur, hv, hg, hk.cell hc (hX g hg) ht, r⟩⟩

/-- A course that is handed out: its three boxes, and its rows, which lie from Lo on, ahead of M0. -/
structure CIn (W : World) (Lo M0 : Nat) (r : R) (A1 A2 A3 A4 : Option Addr) (c1 c2 c3 c4 : Nat) (s first last : Int) (b1 b2 b3 : Nat) : Prop where
  x1 : W.heap[b1]? = some (.cells #[.int .i64 first] 3 (0, 0))
  x2 : W.heap[b2]? = some (.cells #[.int .i64 last] 3 (0, 0))
  x3 : W.heap[b3]? = some (.cells (ccells r A1 A2 A3 A4 c1 c2 c3 c4 s) 61 (0, 0))
  rows : RSb W Lo r A1 A2 A3 A4 c1 c2 c3 c4
  top : (0 < (iv r.bm).length → ∀ a, A1 = some a → a.block < M0) ∧ (0 < (iv r.bd).length → ∀ a, A2 = some a → a.block < M0) ∧ (0 < (sv r.bw).length → ∀ a, A3 = some a → a.block < M0) ∧ (0 < (iv r.bs).length → ∀ a, A4 = some a → a.block < M0)
theorem sb_keep {w w' : World} {B M : Nat} {A : Option Addr} {n c : Nat} {xs : List Value} (h : Sb w B A n c xs) (ht : 0 < xs.length → ∀ a, A = some a → a.block < M) (hs : ∀ k, B ≤ k → k < M → k < w.heap.size → w'.heap[k]? = w.heap[k]?) (hz : w.heap.size ≤ w'.heap.size) : Sb w' B A n c xs := by
  refine ⟨⟨h.sl.le, h.sl.cap, h.sl.nil, fun hn => ?_⟩, h.up⟩
  obtain ⟨b, off, e, hlt, hc⟩ := h.sl.on hn
  refine ⟨b, off, e, by omega, fun i v hi => ?_⟩
  have h1 := h.up _ e
  have h3 := ht hn _ e
  have h2 := hc i v hi
  unfold World.cell? at h2 ⊢
  simp only at h1 h2 h3 ⊢
  rw [hs b h1 h3 hlt]; exact h2
theorem sb_top {w : World} {B : Nat} {A : Option Addr} {n c : Nat} {xs : List Value} (h : Sb w B A n c xs) (hn : 0 < xs.length) : ∀ a, A = some a → a.block < w.heap.size := by
  intro a ha
  obtain ⟨b, off, e, hlt, _⟩ := h.sl.on hn
  rw [e] at ha; cases ha; exact hlt
section
variable {W W' : World} {Lo M0 : Nat} {r : R} {A1 A2 A3 A4 : Option Addr} {c1 c2 c3 c4 : Nat} {s first last : Int} {b1 b2 b3 : Nat}
theorem CIn.keep (h : CIn W Lo M0 r A1 A2 A3 A4 c1 c2 c3 c4 s first last b1 b2 b3) (hz : W.heap.size ≤ W'.heap.size) (hb : ∀ k, k = b1 ∨ k = b2 ∨ k = b3 → W'.heap[k]? = W.heap[k]?) (hs : ∀ k, Lo ≤ k → k < M0 → k < W.heap.size → W'.heap[k]? = W.heap[k]?) :
    CIn W' Lo M0 r A1 A2 A3 A4 c1 c2 c3 c4 s first last b1 b2 b3 :=
  ⟨(hb b1 (.inl rfl)).trans h.x1, (hb b2 (.inr (.inl rfl))).trans h.x2, (hb b3 (.inr (.inr rfl))).trans h.x3, ⟨sb_keep h.rows.s1 h.top.1 hs hz, sb_keep h.rows.s2 h.top.2.1 hs hz, sb_keep h.rows.s3 h.top.2.2.1 hs hz, sb_keep h.rows.s4 h.top.2.2.2 hs hz⟩, h.top⟩
theorem CIn.below (h : CIn W Lo M0 r A1 A2 A3 A4 c1 c2 c3 c4 s first last b1 b2 b3) (hb : Below W.heap.size W W') : CIn W' Lo M0 r A1 A2 A3 A4 c1 c2 c3 c4 s first last b1 b2 b3 :=
  h.keep hb.size (fun k hk => by rcases hk with rfl | rfl | rfl <;> exact hb.block _ (heap_lt' (by first | exact h.x1 | exact h.x2 | exact h.x3))) (fun k _ _ hk => hb.block k hk)
theorem CIn.kx {X : Nat → Prop} (h : CIn W Lo M0 r A1 A2 A3 A4 c1 c2 c3 c4 s first last b1 b2 b3) (hk : Kx X M0 W W') (h1 : ¬ X b1) (h2 : ¬ X b2) (h3 : ¬ X b3) (hX : ∀ k, Lo ≤ k → k < M0 → ¬ X k) : CIn W' Lo M0 r A1 A2 A3 A4 c1 c2 c3 c4 s first last b1 b2 b3 :=
  h.keep hk.size (fun k hk2 => by
    rcases hk2 with rfl | rfl | rfl
    · rw [h.x1]; exact hk.cell h.x1 h1 (by decide)
    · rw [h.x2]; exact hk.cell h.x2 h2 (by decide)
    · rw [h.x3]; exact hk.cell h.x3 h3 (by decide)) (fun k h5 h6 h7 => by
    have e := Array.getElem?_eq_getElem h7
    rw [e]; exact hk.same k _ e (hX k h5 h6) (fun h => by omega))
end

theorem dfr_any (n m : Int) (hn : -9223372036854775808 ≤ n ∧ n ≤ 9223372036854775807) (hm : 0 ≤ m ∧ m < 1440) (w : World) :
    Calls Try.prog 30 #[.int .i64 n, .int .i64 m] w fun e w' => e = .returned (.int .i64 (dfr n m)) ∧ w = w' := by
  obtain ⟨q, hq⟩ : ∃ q, dfr n m = q := ⟨_, rfl⟩
  rw [hq]
  have hmax : (if n < 0 then 0 else n) = max n 0 := by omega
  obtain ⟨a, ha⟩ : ∃ a, max n 0 = a := ⟨_, rfl⟩
  have hmin1 : (if 158310720 < a then 158310720 else a) = min a 158310720 := by omega
  have hmin2 : (if a < 158310720 then a else 158310720) = min a 158310720 := by omega
  unfold dfr at hq
  rw [ha] at hmax hq
  obtain ⟨b, hb⟩ : ∃ b, min a 158310720 = b := ⟨_, rfl⟩
  rw [hb] at hmin1 hmin2 hq
  have hbb : 0 ≤ b ∧ b ≤ 158310720 := by omega
  have w1 : IntKind.i64.wrap (b - m) = b - m := by rw [IntKind.wrap_i64]; omega
  have w2 : IntKind.i64.wrap (b - m + 1440) = b - m + 1440 := by rw [IntKind.wrap_i64]; omega
  have w3 : IntKind.i64.wrap (b - m + 1440 - 1) = b - m + 1440 - 1 := by rw [IntKind.wrap_i64]; omega
  have w4 : (b - m + 1440 - 1).tdiv 1440 = (b - m + 1440 - 1) / 1440 := Int.tdiv_eq_ediv_of_nonneg (by omega)
  have w5 : IntKind.i64.wrap ((b - m + 1440 - 1) / 1440) = (b - m + 1440 - 1) / 1440 := by rw [IntKind.wrap_i64]; omega
  have E := Lib.hid hq
  have HA := Lib.hid ha
  have HB := Lib.hid hb
  clear hq ha hb hn
  go_enter Try.func30, Try.ntmps30
  go_wp2
  go_ret
  exact ⟨ret_int (by first | exact E.out | (rw [HA.out, HB.out]; exact E.out)), rfl⟩

/-- A course, laid for handing out. -/
def dlay (w : World) (C : Array Value) (first last : Int) : World := ((w.alloc (.cells C 61)).alloc (.cells #[.int .i64 first] 3)).alloc (.cells #[.int .i64 last] 3)
theorem pdaysf_any (r : R) (A1 A2 A3 A4 : Option Addr) (c1 c2 c3 c4 : Nat) (s first last : Int) (w : World) :
    Calls Try.prog 32 #[.agg (ccells r A1 A2 A3 A4 c1 c2 c3 c4 s), .int .i64 first, .int .i64 last] w fun e w' =>
      e = .returned (.func (.func 48) #[] #[.pointer (some ⟨w.heap.size + 1, 0, none⟩), .pointer (some ⟨w.heap.size + 2, 0, none⟩), .pointer (some ⟨w.heap.size, 0, none⟩)]) ∧ w' = dlay w (ccells r A1 A2 A3 A4 c1 c2 c3 c4 s) first last := by
  unfold dlay ccells
  go_enter Try.func32, Try.ntmps32
  go_wp2
  go_ret
  exact ⟨rfl, rfl⟩
end Go.Proofs.Ytnccgfdaddbndaa
end
