import Derived.Test.YtibnbpiachdmdaaZNF
import Derived.Test.YtibnbpiachdmdaaZERK
import Derived.Deep.LoopGhost
/- Contracts of the program's pickers: a grid's next minute; numbers within bounds; what a picker is in memory; what is ahead of a minute is left out. -/
section
namespace Go.Proofs.Ytibnbpiachdmdaa
open Go.ChangeShapes Go.WideShapes Go.ChangeAt Go.RowKit Go.Joins Sp
theorem tmod_up {m D : Int} (hD : 1 ≤ D) : -D < m.tmod D ∧ m.tmod D < D ∧ (m - m.tmod D) % D = 0 ∧ (0 ≤ m → 0 ≤ m.tmod D) := by
  refine ⟨Int.lt_tmod_of_pos m (by omega), Int.tmod_lt_of_pos m (by omega), ?_, fun h => Int.tmod_nonneg D h⟩
  have h := Int.tmod_add_mul_tdiv m D
  rw [show m - m.tmod D = D * m.tdiv D by omega, Int.mul_emod_right]
theorem least_up {D m x y : Int} (hD : 1 ≤ D) (h1 : x - m < D) (h2 : x % D = 0) (h3 : m ≤ y) (h4 : y % D = 0) : x ≤ y := by
  obtain ⟨q, rfl⟩ := Int.dvd_of_emod_eq_zero h2
  obtain ⟨t, rfl⟩ := Int.dvd_of_emod_eq_zero h4
  apply Decidable.byContradiction
  intro hn
  have hqt : t < q := by
    apply Decidable.byContradiction
    intro hq
    have := Int.mul_le_mul_of_nonneg_left (show q ≤ t by omega) (show 0 ≤ D by omega)
    omega
  have := Int.mul_le_mul_of_nonneg_left (show t + 1 ≤ q by omega) (show 0 ≤ D by omega)
  rw [Int.mul_add, Int.mul_one] at this
  omega
/-- The least minute on a grid that isn't ahead of one; or that there is none. -/
def UpV (D m : Int) (v : Value) : Prop := (∃ x, v = .tuple #[.int .i64 x, .bool true] ∧ m ≤ x ∧ Int64P x ∧ x % D = 0 ∧ x - m < D) ∨
  (v = .tuple #[.int .i64 0, .bool false] ∧ 9223372036854775807 - D < m ∧ ∀ y, m ≤ y → y % D = 0 → 9223372036854775807 < y)
theorem pup_any (m g : Int) (hm : Int64P m) (hg : Int64P g) : ∃ v, UpV (max g 1) m v ∧ ∀ w : World, Calls Try.prog 14 #[.int .i64 m, .int .i64 g] w fun e w' => e = .returned v ∧ w = w' := by
  obtain ⟨D, hD, d1, d2, d3, d4⟩ := max_forms g 1
  rw [hD]
  obtain ⟨m0, m1⟩ := hm
  obtain ⟨g0, g1⟩ := hg
  have hD1 : 1 ≤ D := by omega
  have hD2 : D ≤ 9223372036854775807 := by omega
  obtain ⟨o1, o2, o3, o4⟩ := tmod_up (m := m) hD1
  obtain ⟨o, ho⟩ : ∃ o, m.tmod D = o := ⟨_, rfl⟩
  rw [ho] at o1 o2 o3 o4
  have hDn : ¬ D = 0 := by omega
  have hDb : (D == 0) = false := beq_false_of_ne hDn
  by_cases hle : o ≤ 0
  · have hb : decide (o ≤ 0) = true := decide_eq_true hle
    have w1 : IntKind.i64.wrap (m - o) = m - o := by
      rw [IntKind.wrap_i64]
      by_cases h0 : 0 ≤ m
      · have := o4 h0; omega
      · omega
    refine ⟨_, .inl ⟨m - o, rfl, by omega, ⟨by omega, ?_⟩, o3, by omega⟩, fun w => ?_⟩
    · by_cases h0 : 0 ≤ m
      · have := o4 h0; omega
      · omega
    · clear o3 o4
      go_enter Try.func14, Try.ntmps14
      go_wp2
      go_ret2
      exact ⟨rfl, rfl⟩
  · obtain rfl : g = D := by omega
    clear hD d1 d2 d3 d4
    have hg1 : 1 ≤ g := hD1
    have hb : decide (o ≤ 0) = false := decide_eq_false hle
    have w1 : IntKind.i64.wrap (g - o) = g - o := by rw [IntKind.wrap_i64]; omega
    have w2 : IntKind.i64.wrap (9223372036854775807 - (g - o)) = 9223372036854775807 - (g - o) := by rw [IntKind.wrap_i64]; omega
    have h5 : (m + (g - o)) % g = 0 := by rw [show m + (g - o) = (m - o) + g by omega, Int.add_emod_right]; exact o3
    by_cases hgt : 9223372036854775807 - (g - o) < m
    · have hgb : decide (9223372036854775807 - (g - o) < m) = true := decide_eq_true hgt
      refine ⟨_, .inr ⟨rfl, by omega, fun y h1 h2 => ?_⟩, fun w => ?_⟩
      · have := least_up hg1 (x := m + (g - o)) (by omega) h5 h1 h2
        omega
      · clear o3 o4 h5
        go_enter Try.func14, Try.ntmps14
        go_wp2
        go_ret2
        exact ⟨rfl, rfl⟩
    · have hgb : decide (9223372036854775807 - (g - o) < m) = false := decide_eq_false hgt
      have w3 : IntKind.i64.wrap (m + (g - o)) = m + (g - o) := by rw [IntKind.wrap_i64]; omega
      refine ⟨_, .inl ⟨m + (g - o), rfl, by omega, by unfold Int64P; omega, h5, by omega⟩, fun w => ?_⟩
      clear o3 o4 h5
      go_enter Try.func14, Try.ntmps14
      go_wp2
      go_ret2
      exact ⟨rfl, rfl⟩
theorem pheld_any (n : Int) (w : World) : Calls Try.prog 17 #[.int .i64 n] w fun e w' => e = .returned (.int .i64 (kN n)) ∧ w = w' := by
  obtain ⟨x, hx, x1, x2, x3, x4⟩ := max_forms n 1
  obtain ⟨y, hy, y1, y2, y3, y4⟩ := min_forms x 1099511627776
  rw [show kN n = y by unfold kN; omega]
  go_enter Try.func17, Try.ntmps17
  go_wp2
  go_ret
  exact ⟨rfl, rfl⟩
/-- A picker in memory: left are the minutes of its grid, from one on, that are in a span, or in what is left of a stream. -/
structure PkIn (w : World) (c : Value) (b : Nat) (pa : Option Addr) (L : List Spn) (n : Nat) (F1 : Nat → Prop) (g lf tl : Int) (E : Int → Prop) (F : Nat → Prop) : Prop where
  blk : w.heap[b]? = some (.cells #[.pointer pa, .int .i64 g, .int .i64 lf, .int .i64 tl] 47 (0, 0))
  fb : F b
  nb : ¬ F1 b
  sub : ∀ k, F1 k → F k
  lt : ∀ k, F k → k < w.heap.size
  st : StL w c (.pointer pa) L n F1
  g1 : 1 ≤ g ∧ g ≤ 1099511627776
  f64 : Int64P lf
  t64 : Int64P tl
  is : ∀ x, E x ↔ x % g = 0 ∧ lf ≤ x ∧ (x < tl ∨ has L x)
/-- A picker, or none. -/
def PkA : PkP := fun w c P E F => (P = .pointer none ∧ (∀ x, ¬ E x) ∧ ∀ k, F k → k < w.heap.size) ∨
  ∃ (b : Nat) (pa : Option Addr) (L : List Spn) (n : Nat) (F1 : Nat → Prop) (g lf lt : Int), P = .pointer (some ⟨b, 0, none⟩) ∧ PkIn w c b pa L n F1 g lf lt E F
section
variable {w w' : World} {c P : Value} {b : Nat} {pa : Option Addr} {L : List Spn} {n : Nat} {F1 F G : Nat → Prop} {g lf tl : Int} {E E' : Int → Prop}
theorem PkIn.off (h : PkIn w c b pa L n F1 g lf tl E F) (ho : Off G w w') (hG : ∀ k, F k → ¬ G k) : PkIn w' c b pa L n F1 g lf tl E F :=
  ⟨ho.heap h.blk (hG _ h.fb), h.fb, h.nb, h.sub, fun k hk => Nat.lt_of_lt_of_le (h.lt k hk) ho.size, h.st.off ho fun k hk => hG _ (h.sub _ hk), h.g1, h.f64, h.t64, h.is⟩
theorem PkIn.gr (h : PkIn w c b pa L n F1 g lf tl E F) (g2 : Gr w) : PkIn g2.val c b pa L n F1 g lf tl E F := h.off (.of_below g2.ok) (G := fun _ => False) fun _ _ => id
/-- .. whose first minute is set. -/
theorem PkIn.from_ (h : PkIn w c b pa L n F1 g lf tl E F) {x : Int} (hx : Int64P x) : PkIn (w.setCell ⟨b, 2, none⟩ (.int .i64 x)) c b pa L n F1 g x tl (fun y => y % g = 0 ∧ x ≤ y ∧ (y < tl ∨ has L y)) F := by
  have ho : Off (fun k => k = b) w (w.setCell ⟨b, 2, none⟩ (.int .i64 x)) := (Off.refl (fun k => k = b) w).setCell (b := b) (.inl rfl) _
  exact ⟨block_setCell h.blk (i := 2) _, h.fb, h.nb, h.sub, fun k hk => Nat.lt_of_lt_of_le (h.lt k hk) ho.size, h.st.off ho fun k hk e => h.nb (e ▸ hk), h.g1, hx, h.t64, fun _ => Iff.rfl⟩
theorem PkIn.congr (h : PkIn w c b pa L n F1 g lf tl E F) (hE : ∀ x, E' x ↔ E x) : PkIn w c b pa L n F1 g lf tl E' F := ⟨h.blk, h.fb, h.nb, h.sub, h.lt, h.st, h.g1, h.f64, h.t64, fun x => (hE x).trans (h.is x)⟩
theorem PkA.lt (h : PkA w c P E F) : ∀ k, F k → k < w.heap.size := by
  rcases h with h | ⟨b, pa, L, n, F1, g, lf, tl, _, h⟩
  · exact h.2.2
  · exact h.lt
theorem PkA.off (h : PkA w c P E F) (ho : Off G w w') (hG : ∀ k, F k → ¬ G k) : PkA w' c P E F := by
  rcases h with ⟨h1, h2, h3⟩ | ⟨b, pa, L, n, F1, g, lf, tl, e, h⟩
  · exact .inl ⟨h1, h2, fun k hk => Nat.lt_of_lt_of_le (h3 k hk) ho.size⟩
  · exact .inr ⟨b, pa, L, n, F1, g, lf, tl, e, h.off ho hG⟩
theorem PkA.congr (h : PkA w c P E F) (hE : ∀ x, E' x ↔ E x) : PkA w c P E' F := by
  rcases h with ⟨h1, h2, h3⟩ | ⟨b, pa, L, n, F1, g, lf, tl, e, h⟩
  · exact .inl ⟨h1, fun x hx => h2 x ((hE x).1 hx), h3⟩
  · exact .inr ⟨b, pa, L, n, F1, g, lf, tl, e, h.congr hE⟩
theorem PkA.ptr (h : PkA w c P E F) : ∃ a, P = .pointer a := by
  rcases h with ⟨h, _⟩ | ⟨b, _, _, _, _, _, _, _, h, _⟩
  · exact ⟨_, h⟩
  · exact ⟨_, h⟩
end
/-- What is ahead of a minute is left out. -/
theorem ppskip_any (w : World) (c P : Value) (E : Int → Prop) (F : Nat → Prop) (m : Int) (hm : Int64P m) (h : PkA w c P E F) :
    Calls Try.prog 12 #[P, .int .i64 m] w fun e w' => e = .returned (.tuple #[]) ∧ PkA w' c P (fun y => E y ∧ m ≤ y) F ∧ Off F w w' := by
  rcases h with ⟨rfl, h2, h3⟩ | ⟨b, pa, L, n, F1, g, lf, lt, rfl, h⟩
  · have HE : Hid (PkA w c (.pointer none) (fun y => E y ∧ m ≤ y) F) := .inl ⟨rfl, fun x hx => h2 x hx.1, h3⟩
    clear h2 h3
    go_enter Try.func12, Try.ntmps12
    go_wp2_with fail
    first | go_end0 | refine bodyPost_ret (results_none rfl _ _ _) rfl ?_
    exact ⟨rfl, HE.out, .refl _ _⟩
  · obtain ⟨l0, l1⟩ := h.f64
    obtain ⟨m0, m1⟩ := hm
    obtain ⟨x, hx, x1, x2, x3, x4⟩ := max_forms lf m
    have HS : Hid (PkA (w.setCell ⟨b, 2, none⟩ (.int .i64 x)) c (.pointer (some ⟨b, 0, none⟩)) (fun y => E y ∧ m ≤ y) F) := by
      refine .inr ⟨b, pa, L, n, F1, g, x, lt, rfl, (h.from_ (x := x) ⟨by omega, by omega⟩).congr fun y => ?_⟩
      rw [h.is y]
      exact ⟨fun ⟨⟨q1, q2, q3⟩, q4⟩ => ⟨q1, by omega, q3⟩, fun ⟨q1, q2, q3⟩ => ⟨⟨q1, by omega, q3⟩, by omega⟩⟩
    have HO : Hid (Off F w (w.setCell ⟨b, 2, none⟩ (.int .i64 x))) := (Off.refl F w).setCell (b := b) (.inl h.fb) _
    have c2 : _ = some (Value.int .i64 lf) := blk_cell h.blk (i := 2) rfl
    have cf := blk_free h.blk
    clear h hx
    go_enter Try.func12, Try.ntmps12
    go_wp2_with fail
    first | go_end0 | refine bodyPost_ret (results_none rfl _ _ _) rfl ?_
    exact ⟨rfl, HS.out, HO.out⟩
end Go.Proofs.Ytibnbpiachdmdaa
end
