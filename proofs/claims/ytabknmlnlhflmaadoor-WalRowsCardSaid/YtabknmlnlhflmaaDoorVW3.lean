/- Contracts of the program's log: one is laid down. -/
import Derived.Test.YtabknmlnlhflmaaDoorVW2
namespace Go.Proofs.YtabknmlnlhflmaaDoor
open Go.ChangeShapes Go.WideShapes Go.ChangeAt Go.RowKit Go.Joins Dm Fr Vl

/-- A log and its disk, turned by a call. -/
def LogTo (w w' : World) (P D : Nat) (lg : Lg) (m : Dk) (K F : Nat → Prop) : Prop :=
  ∃ K' F', LogAt w' P D lg K' ∧ DiskAt w' D m F' ∧ (∀ k, K' k → ¬ F' k) ∧ Off (fun k => K k ∨ F k) w w' ∧ (∀ k, K' k → K k ∨ w.heap.size ≤ k) ∧ ∀ k, F' k → F k ∨ w.heap.size ≤ k
theorem LogTo.step {w w1 w2 : World} {P D : Nat} {lg : Lg} {m : Dk} {K F K1 F1 : Nat → Prop} (o : Off (fun k => K k ∨ F k) w w1) (iK : ∀ k, K1 k → K k ∨ w.heap.size ≤ k) (iF : ∀ k, F1 k → F k ∨ w.heap.size ≤ k) (h : LogTo w1 w2 P D lg m K1 F1) : LogTo w w2 P D lg m K F := by
  obtain ⟨K2, F2, h1, h2, h3, h4, h5, h6⟩ := h
  have hs := o.size
  refine ⟨K2, F2, h1, h2, h3, o.trans h4 ?_, fun k hk => (h5 k hk).elim (iK k) fun h => .inr (by omega), fun k hk => (h6 k hk).elim (iF k) fun h => .inr (by omega)⟩
  rintro b (hb | hb)
  · exact (iK b hb).imp .inl id
  · exact (iF b hb).imp .inr id
/-- The disk alone has turned. -/
theorem LogTo.disk {w w2 : World} {P D : Nat} {lg : Lg} {m' : Dk} {K F : Nat → Prop} (hl : LogAt w P D lg K) (hK : ∀ k, K k → ¬ F k) (hKl : ∀ k, K k → k < w.heap.size) (hT : DiskTo w w2 D m' F) : LogTo w w2 P D lg m' K F := by
  obtain ⟨F2, h2, o2, i2⟩ := hT
  refine ⟨K, F2, hl.off o2 hK, h2, fun k hk hf => ?_, o2.mono fun _ _ h => .inr h, fun k hk => .inl hk, i2⟩
  rcases i2 k hf with h | h
  · exact hK k hk h
  · have := hKl k hk; omega
theorem LogAt.lt {w : World} {P D : Nat} {lg : Lg} {K : Nat → Prop} (h : LogAt w P D lg K) : ∀ k, K k → k < w.heap.size := by obtain ⟨sv, rv, xs, h⟩ := h; exact h.lt
theorem LogAt.kP {w : World} {P D : Nat} {lg : Lg} {K : Nat → Prop} (h : LogAt w P D lg K) : K P := by obtain ⟨sv, rv, xs, h⟩ := h; exact h.kP
theorem Fresh.byV {w w' : World} {A : Option Addr} {n c : Nat} {l : List UInt8} (h : Fresh w w' A n c l) : ByV w' (fun k => w.heap.size ≤ k) (.slice A n c) l :=
  ⟨A, c, by rw [h.len], by rw [h.len]; exact h.le, h.cap, h.nil, h.at_⟩

/-- A log that was laid down anew, in memory. -/
theorem LogIn.anew {w4 w5 w' : World} {P D : Nat} {sv rv : Value} {xs : List Value} {lg : Lg} {K : Nat → Prop} {gen : Nat} {snap : List UInt8} {A : Option Addr} {n c : Nat} (h : LogIn w4 P D sv rv xs lg K) (hf : Fresh w4 w5 A n c snap) (hg : gen < 4294967296) (hfit : 16 + snap.length ≤ lg.half)
    (ho : Off (fun k => k = P) w5 w') (hb : w'.heap[P]? = some (.cells #[.pointer (some ⟨D, 0, none⟩), .int .i64 lg.falls, .int .i64 lg.half, .int .u32 gen, .slice A n c, .slice none 0 0, .int .i64 (16 + snap.length : Nat)] 50 (0, 0))) :
    LogIn w' P D (.slice A n c) (.slice none 0 0) [] { lg with gen := gen, snap := snap, recs := [], end_ := 16 + snap.length } (fun k => K k ∨ (w4.heap.size ≤ k ∧ k < w5.heap.size)) := by
  have hP := h.lt P h.kP
  refine ⟨⟨h.ok.half, hg, hfit, by simp⟩, hb, ?_, World.ownsRow_nil _ _ _ _, rfl, by simp [Value.ownBlock], .inl h.kP, fun k hk => by simp [Value.ownBlock] at hk, fun k hk => ?_⟩
  · refine ((hf.byV.mono (K' := fun k => w4.heap.size ≤ k ∧ k < w5.heap.size) fun k h1 h2 => ⟨h2, h1⟩).off ho fun k hk e => by omega).mono fun k _ hk => ⟨.inr hk, by omega, by simp [Value.ownBlock]⟩
  · rcases hk with hk | hk
    · exact Nat.lt_of_lt_of_le (h.lt k hk) (Nat.le_trans hf.below.size ho.size)
    · exact Nat.lt_of_lt_of_le hk.2 ho.size

set_option maxRecDepth 100000 in
set_option maxHeartbeats 4000000 in
theorem begin_any (P D gen : Nat) (lg : Lg) (m : Dk) (K F KS : Nat → Prop) (Ab : Option Addr) (cb : Nat) (snap : List UInt8) (hg0 : gen ≠ 0) (hg : gen < 4294967296) (hfit : 16 + snap.length ≤ lg.half) (hmx : snap.length ≤ 1048576) (hb : snap.length ≤ cb) (hcb : cb ≤ maxLen) (hz : Ab = none → cb = 0) (hmany : m.waits.length < 4294967296) (w : World)
    (hl : LogAt w P D lg K) (hd : DiskAt w D m F) (hK : ∀ k, K k → ¬ F k) (hB : BIn KS w Ab snap) (hKS : ∀ k, KS k → ¬ F k) (hH : Halves w) :
    Calls Tryd.prog 19 #[.pointer (some ⟨P, 0, none⟩), .int .u32 gen, .slice Ab snap.length cb] w fun e w' => e = .returned (.int .i64 (beginM lg m gen snap).1) ∧ LogTo w w' P D (beginM lg m gen snap).2.1 (beginM lg m gen snap).2.2 K F := by
  have HP := Lib.hid (put_yes gen 0 snap Ab cb hg0 hg (by omega) hmx hb hcb hz w hB.1 hH)
  have hpl := putT_len (gen := gen) (number := 0) (l := snap) hg0 hmx
  have hh := hl.ok.half
  obtain ⟨cs, hmk, hcs⟩ := make_noughts lg.half (by omega)
  have HCS := Lib.hid hcs
  have hKl := hl.lt
  have hFl := hd.lt
  have hPK := hl.kP
  have HLA := Lib.hid hl
  obtain ⟨sv, rv, xs, h⟩ := hl
  obtain ⟨c0, c1, c2, c3, c4, c5, c6⟩ := h.cells
  have H := Lib.hid h
  have HD := Lib.hid hd
  have HB := Lib.hid hB
  have HK := Lib.hid hK
  have HKS := Lib.hid hKS
  have HKL := Lib.hid hKl
  have HFL := Lib.hid hFl
  have HPK := Lib.hid hPK
  have HPL := Lib.hid hpl
  have HM : Hid (beginM lg m gen snap = beginM lg m gen snap) := rfl
  have HBM : Hid (∀ r1 r2, layM m (gen % 2 * lg.half : Nat) (zeros lg.half) = r1 → layM r1.2 (gen % 2 * lg.half : Nat) (putT gen 0 snap) = r2 → beginM lg m gen snap = if r1.1 ≠ 0 then (r1.1, lg, r1.2) else if r2.1 ≠ 0 then (r2.1, lg, r2.2) else (0, { lg with gen := gen, snap := snap, recs := [], end_ := 16 + snap.length }, r2.2)) := by
    rintro r1 r2 rfl rfl; rfl
  generalize beginM lg m gen snap = R at *
  obtain ⟨n, hn⟩ : ∃ n, 16 + snap.length = n := ⟨_, rfl⟩
  have HN := Lib.hid hn
  rw [hn] at hpl
  clear h hd hB hK hKS hKl hFl hPK hcs HM hH
  go_enter Tryd.func19, Tryd.ntmps19
  go_wp2_with fail
  go_at_call 23
  refine HP.out.mono ?_
  rintro e w1 ⟨A1, k1, rfl, hf⟩
  rw [hn] at hf
  have HF1 := Lib.hid hf
  have d0 := cell_old c0 hf.below
  have d2 := cell_old c2 hf.below
  rw [hn]
  clear hf
  go_wp2_with fail
  obtain ⟨W2, hW2⟩ : ∃ W2, w1.alloc (.cells cs 5) = W2 := ⟨_, rfl⟩
  have B2 : Hid (Below w.heap.size w W2) := by show Below _ _ _; rw [← hW2]; exact HF1.out.below.alloc HF1.out.below.size _
  have hL1 := lay_n P D lg.half gen 0 lg.half m F (some ⟨w1.heap.size, 0, none⟩) lg.half (zeros lg.half) (zeros_len _) hh hg (by omega) (Nat.le_refl _) (by unfold maxLen; omega) (fun h => by cases h) hmany W2
    (cell_old c0 B2.out) (cell_old c2 B2.out) (HK.out P HPK.out) (HD.out.below B2.out) (by rw [← hW2]; exact HCS.out w1)
  simp only [Int.add_zero, Int.ofNat_zero, Int.natCast_zero] at hL1
  obtain ⟨r1, hr1⟩ : ∃ r1, layM m (gen % 2 * lg.half : Nat) (zeros lg.half) = r1 := ⟨_, rfl⟩
  have HM2 := fun r2 => HBM.out r1 r2 hr1
  have hmn : r1.1 = 0 → r1.2.waits = [] := fun h => by rw [← hr1] at h ⊢; exact layM_many h
  rw [hr1] at hL1
  have HL1 := Lib.hid hL1
  have HMN := Lib.hid hmn
  have HRM := Lib.hid HM2
  obtain ⟨e1, m1⟩ := r1
  have HW2 := Lib.hid hW2
  have HFA : Hid (ByV W2 (fun k => w.heap.size ≤ k) (.slice A1 n k1) (putT gen 0 snap)) := by
    show ByV _ _ _ _; rw [← hW2]; exact HF1.out.byV.off ((Off.refl (fun _ => False) w1).alloc _) fun _ _ h => h
  clear hL1 hmn HM2 hr1 hW2
  rw [HW2.out]
  go_at_call 25
  refine HL1.out.mono ?_
  rintro e w3 ⟨rfl, F3, hd3, o3, i3⟩
  have O3 : Hid (Off F w w3) := (Off.of_below B2.out).trans' o3
  have I3 : Hid (∀ k, F3 k → F k ∨ w.heap.size ≤ k) := fun k hk => (i3 k hk).imp id fun h => Nat.le_trans B2.out.size h
  have HFB : Hid (ByV w3 (fun k => w.heap.size ≤ k) (.slice A1 n k1) (putT gen 0 snap)) := HFA.out.off o3 fun k hk hF => by have := HFL.out k hF; omega
  have HD3 := Lib.hid hd3
  clear hd3 o3 i3 HFA HF1 HL1 HW2
  by_cases h1 : e1 = 0
  case neg =>
    have hne : (e1 != 0) = true := by simpa using h1
    have HR := Lib.hid (HRM.out _ rfl)
    rw [if_pos h1] at HR
    go_wp2_with fail
    go_ret
    rw [HR.out]
    exact ⟨rfl, LogTo.disk HLA.out HK.out HKL.out ⟨F3, HD3.out, O3.out, I3.out⟩⟩
  subst h1
  have e0 := O3.out.cell c0 (HK.out P HPK.out)
  have e2 := O3.out.cell c2 (HK.out P HPK.out)
  have hP3 : ¬ F3 P := fun h => (I3.out P h).elim (HK.out P HPK.out) fun h => by have := HKL.out P HPK.out; omega
  obtain ⟨A', c', e', q1, q2, q3, q4⟩ := HFB.out
  simp only [Value.slice.injEq] at e'
  obtain ⟨rfl, hq, rfl⟩ := e'
  rw [← hq] at q1
  have hL2 := lay_n P D lg.half gen 0 n m1 F3 A1 k1 (putT gen 0 snap) hq.symm hh hg (by omega) q1 q2 q3 (by rw [HMN.out rfl]; simp) w3 e0 e2 hP3 HD3.out q4.1
  simp only [Int.add_zero, Int.ofNat_zero, Int.natCast_zero] at hL2
  obtain ⟨r2, hr2⟩ : ∃ r2, layM m1 (gen % 2 * lg.half : Nat) (putT gen 0 snap) = r2 := ⟨_, rfl⟩
  have HR := Lib.hid (HRM.out r2 hr2)
  rw [hr2] at hL2
  have HL2 := Lib.hid hL2
  obtain ⟨e2v, m2⟩ := r2
  rw [if_neg (by simp)] at HR
  clear hL2 q1 q2 q3 q4 hq HFB HMN HRM hr2
  go_wp2_with fail
  go_at_call 25
  refine HL2.out.mono ?_
  rintro e w4 ⟨rfl, F4, hd4, o4, i4⟩
  have O4 : Hid (Off F w w4) := O3.out.trans o4 I3.out
  have I4 : Hid (∀ k, F4 k → F k ∨ w.heap.size ≤ k) := fun k hk => (i4 k hk).elim (I3.out k) fun h => .inr (Nat.le_trans O3.out.size h)
  have HD4 := Lib.hid hd4
  clear hd4 o4 i4 HL2
  by_cases h2 : e2v = 0
  case neg =>
    have hne : (e2v != 0) = true := by simpa using h2
    rw [if_pos h2] at HR
    go_wp2_with fail
    go_ret
    rw [HR.out]
    exact ⟨rfl, LogTo.disk HLA.out HK.out HKL.out ⟨F4, HD4.out, O4.out, I4.out⟩⟩
  subst h2
  rw [if_neg (by simp)] at HR
  have H4 := Lib.hid (H.out.off O4.out HK.out)
  have hS4 := HB.out.off O4.out HKS.out
  have HC := Lib.hid (clone_any Ab cb snap hb hcb hz (by omega) w4 hS4.1)
  clear hS4 e0 e2 d0 d2
  go_wp2_with fail
  go_at_call 26
  refine HC.out.mono ?_
  rintro e w5 hret
  obtain ⟨A5, k5, rfl, hf5⟩ := hret.fresh
  have H5 := Lib.hid (H4.out.below hf5.below)
  have hfr := H5.out.free
  obtain ⟨g0, g1, g2, g3, g4, g5, g6⟩ := H5.out.cells
  have HF5 := Lib.hid hf5
  clear hret hf5
  go_wp2_with fail
  go_ret
  rw [HR.out]
  refine ⟨rfl, ?_⟩
  have o6 : Off (fun k => k = P) w5 ((((w5.setCell ⟨P, 3, none⟩ (.int .u32 gen)).setCell ⟨P, 4, none⟩ (.slice A5 snap.length k5)).setCell ⟨P, 5, none⟩ (.slice none 0 0)).setCell ⟨P, 6, none⟩ (.int .i64 n)) :=
    ((((Off.refl (fun k => k = P) w5).setCell (b := P) (.inl rfl) _).setCell (b := P) (.inl rfl) _).setCell (b := P) (.inl rfl) _).setCell (b := P) (.inl rfl) _
  have hin := H4.out.anew HF5.out hg (by omega) o6 (by rw [HN.out]; exact block_setCell (block_setCell (block_setCell (block_setCell H5.out.blk _) _) _) _)
  have hsz := O4.out.size
  refine ⟨_, F4, ⟨_, _, _, hin⟩, (HD4.out.below HF5.out.below).off o6 ?_, ?_, ?_, ?_, I4.out⟩
  · rintro k hk rfl
    exact (I4.out k hk).elim (HK.out k HPK.out) fun h => by have := HKL.out k HPK.out; omega
  · rintro k (hk | hk) hF
    · exact (I4.out k hF).elim (HK.out k hk) fun h => by have := HKL.out k hk; omega
    · have := HD4.out.lt k hF; omega
  · exact (((O4.out.mono (G := fun k => K k ∨ F k) fun _ _ h => .inr h).trans' (Off.of_below HF5.out.below)).trans' (o6.mono (G := fun k => K k ∨ F k) fun k _ e => by subst e; exact .inl HPK.out))
  · rintro k (hk | hk)
    · exact .inl hk
    · exact .inr (by omega)
end Go.Proofs.YtabknmlnlhflmaaDoor
