/- The program's log in memory; contracts of what only asks it. -/
import Derived.Test.YtabknmlnlhflmaaDoorDW8
import Derived.Test.YtabknmlnlhflmaaDoorFW5
import Derived.Test.YtabknmlnlhflmaaDoorVMath
namespace Go.Proofs.YtabknmlnlhflmaaDoor
open Go.ChangeShapes Go.WideShapes Go.ChangeAt Go.RowKit Go.Joins Dm Fr Vl

/-- Bytes as a value, in blocks of a set. -/
def ByV (w : World) (K : Nat → Prop) (v : Value) (l : List UInt8) : Prop := ∃ A c, v = .slice A l.length c ∧ l.length ≤ c ∧ c ≤ maxLen ∧ (A = none → c = 0) ∧ BIn K w A l
def Recs (w : World) (K : Nat → Prop) : List (List UInt8) → List Value → Prop
  | [], xs => xs = []
  | l :: r, xs => ∃ v rest, xs = v :: rest ∧ ByV w K v l ∧ Recs w K r rest
section
variable {w w' : World} {K K' F : Nat → Prop}
theorem ByV.off (ho : Off F w w') (hK : ∀ b, K b → ¬ F b) {v : Value} {l : List UInt8} (h : ByV w K v l) : ByV w' K v l := by
  obtain ⟨A, c, e, h1, h2, h3, h4⟩ := h; exact ⟨A, c, e, h1, h2, h3, h4.off ho hK⟩
theorem ByV.mono (hK : ∀ b, b < w.heap.size → K b → K' b) {v : Value} {l : List UInt8} (h : ByV w K v l) : ByV w K' v l := by
  obtain ⟨A, c, e, h1, h2, h3, h4⟩ := h; exact ⟨A, c, e, h1, h2, h3, h4.mono hK⟩
theorem ByV.nil (w : World) (K : Nat → Prop) : ByV w K (.slice none 0 0) [] := ⟨none, 0, rfl, Nat.le_refl _, Nat.zero_le _, fun _ => rfl, BAt.nil _ _, fun h => absurd h (by simp)⟩
theorem ByV.one {v : Value} {l : List UInt8} (h : ByV w K v l) : v.oneCell' = true := by obtain ⟨A, c, rfl, _⟩ := h; simp [Value.oneCell']
theorem Recs.len : ∀ {l : List (List UInt8)} {xs : List Value}, Recs w K l xs → xs.length = l.length
  | [], _, h => by obtain rfl := h; rfl
  | p :: r, _, h => by obtain ⟨v, rest, rfl, _, h⟩ := h; have := h.len; simp; omega
theorem Recs.off (ho : Off F w w') (hK : ∀ b, K b → ¬ F b) : ∀ {l : List (List UInt8)} {xs : List Value}, Recs w K l xs → Recs w' K l xs
  | [], _, h => h
  | p :: r, _, h => by obtain ⟨v, rest, e, h1, h⟩ := h; exact ⟨v, rest, e, h1.off ho hK, h.off ho hK⟩
theorem Recs.mono (hK : ∀ b, b < w.heap.size → K b → K' b) : ∀ {l : List (List UInt8)} {xs : List Value}, Recs w K l xs → Recs w K' l xs
  | [], _, h => h
  | p :: r, _, h => by obtain ⟨v, rest, e, h1, h⟩ := h; exact ⟨v, rest, e, h1.mono hK, h.mono hK⟩
theorem Recs.at_ : ∀ {l : List (List UInt8)} {xs : List Value}, Recs w K l xs → ∀ {i : Nat} {p}, l[i]? = some p → ∃ v, xs[i]? = some v ∧ ByV w K v p
  | [], _, _, i, p, hp => by simp at hp
  | q :: r, _, h, 0, p, hp => by
    obtain ⟨v, rest, rfl, h1, h⟩ := h
    obtain rfl : q = p := by simpa using hp
    exact ⟨v, rfl, h1⟩
  | q :: r, _, h, i + 1, p, hp => by
    obtain ⟨v, rest, rfl, h1, h⟩ := h
    obtain ⟨v', e1, h2⟩ := h.at_ (i := i) (by simpa using hp)
    exact ⟨v', by simpa using e1, h2⟩
theorem Recs.snoc {p : List UInt8} {v : Value} (hv : ByV w K v p) : ∀ {l : List (List UInt8)} {xs : List Value}, Recs w K l xs → Recs w K (l ++ [p]) (xs ++ [v])
  | [], _, h => by obtain rfl := h; exact ⟨v, [], rfl, hv, rfl⟩
  | q :: r, _, h => by
    obtain ⟨v', rest, rfl, g1, h⟩ := h
    exact ⟨v', _, rfl, g1, h.snoc hv⟩
end

structure LogIn (w : World) (P D : Nat) (sv rv : Value) (xs : List Value) (lg : Lg) (K : Nat → Prop) : Prop where
  ok : lg.Ok
  blk : w.heap[P]? = some (.cells #[.pointer (some ⟨D, 0, none⟩), .int .i64 lg.falls, .int .i64 lg.half, .int .u32 lg.gen, sv, rv, .int .i64 lg.end_] 50 (0, 0))
  snap : ByV w (fun k => K k ∧ k ≠ P ∧ rv.ownBlock ≠ some k) sv lg.snap
  own : w.ownsRow 0 23 1 rv lg.recs.length xs
  recs : Recs w (fun k => K k ∧ k ≠ P ∧ rv.ownBlock ≠ some k) lg.recs xs
  neP : rv.ownBlock ≠ some P
  kP : K P
  kR : ∀ k, rv.ownBlock = some k → K k
  lt : ∀ k, K k → k < w.heap.size
def LogAt (w : World) (P D : Nat) (lg : Lg) (K : Nat → Prop) : Prop := ∃ sv rv xs, LogIn w P D sv rv xs lg K
section
variable {w w' : World} {P D : Nat} {sv rv : Value} {xs : List Value} {lg : Lg} {K G : Nat → Prop}
theorem LogIn.cells (h : LogIn w P D sv rv xs lg K) : w.cell? ⟨P, 0, none⟩ = some (.pointer (some ⟨D, 0, none⟩)) ∧ w.cell? ⟨P, 1, none⟩ = some (.int .i64 lg.falls) ∧ w.cell? ⟨P, 2, none⟩ = some (.int .i64 lg.half) ∧ w.cell? ⟨P, 3, none⟩ = some (.int .u32 lg.gen) ∧ w.cell? ⟨P, 4, none⟩ = some sv ∧ w.cell? ⟨P, 5, none⟩ = some rv ∧ w.cell? ⟨P, 6, none⟩ = some (.int .i64 lg.end_) := by
  have hb := h.blk
  refine ⟨?_, ?_, ?_, ?_, ?_, ?_, ?_⟩ <;> simp [World.cell?, hb]
theorem LogIn.free (h : LogIn w P D sv rv xs lg K) (i : Nat) : w.frozen? ⟨P, i, none⟩ = false := by
  have hb := h.blk
  simp [World.frozen?, hb]
theorem LogIn.off (h : LogIn w P D sv rv xs lg K) (ho : Off G w w') (hG : ∀ b, K b → ¬ G b) : LogIn w' P D sv rv xs lg K :=
  ⟨h.ok, ho.heap h.blk (hG _ h.kP), h.snap.off ho fun b hb => hG _ hb.1, own_off h.own ho fun k hk => hG _ (h.kR k hk), h.recs.off ho fun b hb => hG _ hb.1, h.neP, h.kP, h.kR, fun k hk => Nat.lt_of_lt_of_le (h.lt k hk) ho.size⟩
theorem LogAt.off (h : LogAt w P D lg K) (ho : Off G w w') (hG : ∀ b, K b → ¬ G b) : LogAt w' P D lg K := by
  obtain ⟨sv, rv, xs, h⟩ := h
  exact ⟨sv, rv, xs, h.off ho hG⟩
theorem LogAt.below (h : LogAt w P D lg K) (hb : Below w.heap.size w w') : LogAt w' P D lg K := h.off (Off.of_below (F := fun _ => False) hb) fun _ _ h => h
theorem LogIn.below (h : LogIn w P D sv rv xs lg K) (hb : Below w.heap.size w w') : LogIn w' P D sv rv xs lg K := h.off (Off.of_below (F := fun _ => False) hb) fun _ _ h => h
theorem LogAt.ok (h : LogAt w P D lg K) : lg.Ok := by obtain ⟨sv, rv, xs, h⟩ := h; exact h.ok
end

theorem disk_falls_any (D : Nat) (m : Dk) (F : Nat → Prop) (w : World) (h : DiskAt w D m F) :
    Calls Tryd.prog 16 #[.pointer (some ⟨D, 0, none⟩)] w fun e w' => e = .returned (.int .i64 m.falls) ∧ w = w' := by
  obtain ⟨L, wv, xs, h⟩ := h
  obtain ⟨c0, c1, c2, cF, c3, c4⟩ := h.cells
  clear h
  go_enter Tryd.func16, Tryd.ntmps16
  go_wp2
  go_ret
  exact ⟨rfl, rfl⟩

theorem fell_any (P D : Nat) (lg : Lg) (m : Dk) (K F : Nat → Prop) (w : World) (hl : LogAt w P D lg K) (hd : DiskAt w D m F) :
    Calls Tryd.prog 22 #[.pointer (some ⟨P, 0, none⟩)] w fun e w' => e = .returned (.bool (m.falls != lg.falls)) ∧ Below w.heap.size w w' := by
  have HF : Hid (∀ n, Calls Tryd.prog 16 #[.pointer (some ⟨D, 0, none⟩)] (w.drewN n) fun e w'' => e = .returned (.int .i64 m.falls) ∧ ∃ k, w'' = w.drewN k) :=
    fun n => Calls.quiet_of_same ((disk_falls_any D m F _ (hd.below (drewN_below w n))).mono fun _ _ ⟨h1, h2⟩ => ⟨h1, h2.symm⟩)
  obtain ⟨sv, rv, xs, h⟩ := hl
  obtain ⟨c0, c1, c2, c3, c4, c5, c6⟩ := h.cells
  clear h hd
  go_enter Tryd.func22, Tryd.ntmps22
  go_wp2_with fail
  go_quiet ((go_at_call 16; exact HF.out _))
  go_wp2_with fail
  go_ret
  exact ⟨rfl, drewN_below w _⟩

theorem room_any (P D : Nat) (lg : Lg) (K : Nat → Prop) (at_ : Int) (ha : 0 ≤ at_ ∧ at_ ≤ 4194304) (w : World) (hl : LogAt w P D lg K) :
    Calls Tryd.prog 21 #[.pointer (some ⟨P, 0, none⟩), .int .i64 at_] w fun e w' => e = .returned (.int .i64 (roomI lg.half at_)) ∧ w = w' := by
  obtain ⟨sv, rv, xs, h⟩ := hl
  obtain ⟨c0, c1, c2, c3, c4, c5, c6⟩ := h.cells
  have hh := h.ok.half
  clear h
  have hw1 : IntKind.i64.wrap ((lg.half : Int) - at_) = lg.half - at_ := by rw [IntKind.wrap_i64]; omega
  have hw2 : IntKind.i64.wrap ((lg.half : Int) - at_ - 16) = lg.half - at_ - 16 := by rw [IntKind.wrap_i64]; omega
  go_enter Tryd.func21, Tryd.ntmps21
  go_wp2
  all_goals
    go_ret
    refine ⟨ret_int ?_, rfl⟩
    unfold roomI
    omega

theorem next_any (P D : Nat) (lg : Lg) (K : Nat → Prop) (w : World) (hl : LogAt w P D lg K) :
    Calls Tryd.prog 24 #[.pointer (some ⟨P, 0, none⟩)] w fun e w' => e = .returned (.int .u32 (lg.recs.length + 1 : Nat)) ∧ w = w' := by
  obtain ⟨sv, rv, xs, h⟩ := hl
  obtain ⟨c0, c1, c2, c3, c4, c5, c6⟩ := h.cells
  obtain ⟨A, c, rfl, hs⟩ := Sl.of_own h.own
  have hn : lg.recs.length ≤ 131072 := by have := h.ok.half; have := h.ok.end_; have := h.ok.many; omega
  clear h hs
  have hw1 : IntKind.u32.wrap (lg.recs.length : Int) = lg.recs.length := by rw [IntKind.wrap_u32]; omega
  have hw2 : IntKind.u32.wrap ((lg.recs.length : Int) + 1) = lg.recs.length + 1 := by rw [IntKind.wrap_u32]; omega
  go_enter Tryd.func24, Tryd.ntmps24
  go_wp2
  go_ret
  exact ⟨ret_int (by omega), rfl⟩

theorem start_any (P : Nat) (half gen : Nat) (hh : half ≤ 2097152) (hg : gen < 4294967296) (w : World) (c2 : w.cell? ⟨P, 2, none⟩ = some (.int .i64 half)) :
    Calls Tryd.prog 29 #[.pointer (some ⟨P, 0, none⟩), .int .u32 gen] w fun e w' => e = .returned (.int .i64 (gen % 2 * half : Nat)) ∧ w = w' := by
  obtain ⟨q, hq⟩ : ∃ q, gen % 2 = q := ⟨_, rfl⟩
  have h2 : q = 0 ∨ q = 1 := by omega
  have hw0 : (gen : Int) % 2 = q := by omega
  have hw3 : ((gen : Int).tmod 2) = q := by rw [Int.tmod_eq_emod_of_nonneg (by omega)]; exact hw0
  rw [hq]
  have hw1 : IntKind.i64.wrap (q : Int) = q := by rw [IntKind.wrap_i64]; omega
  have hw2 : IntKind.i64.wrap ((q : Int) * half) = ((q * half : Nat) : Int) := by rw [IntKind.wrap_i64]; rcases h2 with rfl | rfl <;> omega
  clear h2 hq
  go_enter Tryd.func29, Tryd.ntmps29
  go_wp2
  go_ret
  exact ⟨ret_int (by omega), rfl⟩
end Go.Proofs.YtabknmlnlhflmaaDoor
