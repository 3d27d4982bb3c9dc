/- Contracts of the program's log: it is opened. -/
import Derived.Test.YtabknmlnlhflmaaDoorVW6
namespace Go.Proofs.YtabknmlnlhflmaaDoor
open Go.ChangeShapes Go.WideShapes Go.ChangeAt Go.RowKit Go.Joins Dm Fr Vl

theorem findC_none (half : Nat) (s : List UInt8) : ∀ p, (findC half s p).gen = 0 → findC half s p = ⟨0, [], 0, []⟩
  | 0, _ => rfl
  | p + 1, h => by
    unfold findC cand at h ⊢
    split at h
    · have := (getB_iff.1 (‹_ ∧ _ ∧ _› : _ ∧ _ ∧ _).1).2.1; exact absurd h this
    · rw [if_neg ‹_›]; exact findC_none half s p h

/-- A log that was opened, and its disk. -/
def OpenTo (w w' : World) (P D : Nat) (lg : Lg) (m : Dk) (F : Nat → Prop) : Prop :=
  ∃ K F', LogAt w' P D lg K ∧ DiskAt w' D m F' ∧ (∀ k, K k → ¬ F' k) ∧ Off F w w' ∧ (∀ k, K k → w.heap.size ≤ k) ∧ ∀ k, F' k → F k ∨ w.heap.size ≤ k
theorem LogTo.opened {w w2 w3 : World} {P D : Nat} {lg : Lg} {m : Dk} {K F : Nat → Prop} (h : LogTo w2 w3 P D lg m K F) (o : Off F w w2) (hK : ∀ k, K k → w.heap.size ≤ k) : OpenTo w w3 P D lg m F := by
  obtain ⟨K3, F3, h1, h2, h3, h4, h5, h6⟩ := h
  have hs := o.size
  refine ⟨K3, F3, h1, h2, h3, o.trans h4 ?_, fun k hk => (h5 k hk).elim (hK k) fun h => by omega, fun k hk => (h6 k hk).imp id fun h => by omega⟩
  rintro b (hb | hb)
  · exact .inr (hK b hb)
  · exact .inl hb
theorem OpenTo.disk {w w' : World} {P D : Nat} {lg : Lg} {m : Dk} {F : Nat → Prop} (h : OpenTo w w' P D lg m F) : DiskTo w w' D m F := by
  obtain ⟨K3, F3, h1, h2, h3, h4, h5, h6⟩ := h
  exact ⟨F3, h2, h4, h6⟩
/-- What Open answers. -/
def OpenP (D : Nat) (m : Dk) (F : Nat → Prop) (w : World) (e : Ending) (w' : World) : Prop :=
  ((openM m).1 = 0 ∧ ∃ P, e = .returned (.tuple #[.pointer (some ⟨P, 0, none⟩), .int .i64 0]) ∧ OpenTo w w' P D (openM m).2.1 (openM m).2.2 F) ∨
  ((openM m).1 ≠ 0 ∧ e = .returned (.tuple #[.pointer none, .int .i64 (openM m).1]) ∧ DiskTo w w' D (openM m).2.2 F)

theorem FindIn.log {w w2 : World} {P D : Nat} {m : Dk} {c : Cand} {sv hv : Value} (h : FindIn w w2 P D m.falls (m.laid.length / 2) c sv hv) (hP : P < w.heap.size) (hm : m.laid.length ≤ 4194304) :
    LogIn w2 P D sv (.slice none 0 0) [] { lg0 m with gen := c.gen, snap := c.snap, end_ := c.end_ } (fun k => k = P ∨ (w.heap.size ≤ k ∧ k < w2.heap.size)) := by
  have hs := h.off.size
  refine ⟨⟨by show m.laid.length / 2 ≤ _; omega, h.gen, h.end_, by show 16 * 0 ≤ _; omega⟩, h.blk, h.snap.mono fun k h1 h2 => ⟨.inr ⟨h2, h1⟩, by omega, by simp [Value.ownBlock]⟩, World.ownsRow_nil _ _ _ _, rfl, by simp [Value.ownBlock], .inl rfl, fun k hk => by simp [Value.ownBlock] at hk, fun k hk => ?_⟩
  rcases hk with rfl | hk
  · omega
  · exact hk.2

set_option maxRecDepth 100000 in
set_option maxHeartbeats 4000000 in
theorem open_ok (D : Nat) (m : Dk) (F : Nat → Prop) (h64 : 64 ≤ m.laid.length / 2) (hmany : m.waits.length < 4294967296) (w : World) (hd : DiskAt w D m F) (hon : m.on = true) (hH : Halves w) :
    Calls Tryd.prog 7 #[.pointer (some ⟨D, 0, none⟩)] w (OpenP D m F w) := by
  have HON := Lib.hid (disk_on_any D m F w hd)
  rw [hon] at HON
  have HFA := Lib.hid (disk_falls_any D m F w hd)
  have HSZ := Lib.hid (disk_size_any D m F w hd)
  have hsz := hd.ok.size
  have hHw : 0 < w.heap.size := World.block_lt_of_cell? _ _ (hH 0 (by omega))
  obtain ⟨half, hhf⟩ : ∃ half, m.laid.length / 2 = half := ⟨_, rfl⟩
  have hw0 : (m.laid.length : Int) / 2 = half := by omega
  have hw1 : ((m.laid.length : Int)).tdiv 2 = half := by rw [Int.tdiv_eq_ediv_of_nonneg (by omega)]; exact hw0
  have hw2 : IntKind.i64.wrap (half : Int) = half := by rw [IntKind.wrap_i64]; omega
  have h64' : 64 ≤ half := by omega
  have hz64 : ¬ (half : Int) < 64 := by omega
  obtain ⟨W1, hW1⟩ : ∃ W1, w.alloc (.cells #[.pointer (some ⟨D, 0, none⟩), .int .i64 m.falls, .int .i64 half, .int .u32 0, .slice none 0 0, .slice none 0 0, .int .i64 0] 50) = W1 := ⟨_, rfl⟩
  have hblk : W1.heap[w.heap.size]? = some (.cells #[.pointer (some ⟨D, 0, none⟩), .int .i64 m.falls, .int .i64 half, .int .u32 0, .slice none 0 0, .slice none 0 0, .int .i64 0] 50 (0, 0)) := by rw [← hW1]; exact heap_alloc_new _ _
  have b1 : Below w.heap.size w W1 := by rw [← hW1]; exact (Below.refl _ w).alloc (Nat.le_refl _) _
  have hFP : ¬ F w.heap.size := fun h => Nat.lt_irrefl _ (hd.lt _ h)
  have HFI := Lib.hid (find_any w.heap.size D m.falls half m F W1 hhf.symm h64' hblk (hd.below b1) hFP hon (hH.below b1) (by omega))
  have HB1 := Lib.hid b1
  have HW1 := Lib.hid hW1
  have HD := Lib.hid hd
  have HHv := Lib.hid hH
  have HHF := Lib.hid hhf
  have HFP := Lib.hid hFP
  have hc2 : W1.cell? ⟨w.heap.size, 2, none⟩ = some (.int .i64 half) := by simp [World.cell?, hblk]
  have HPlt : Hid (w.heap.size < W1.heap.size) := heap_lt hblk
  have HNE : Hid (w.heap.size ≠ 0) := by show _ ≠ _; omega
  have HOM : Hid (openM m = let c := findC half m.seen 2; if c.gen = 0 then beginM (lg0 m) m 1 [] else followM { lg0 m with gen := c.gen, snap := c.snap, end_ := c.end_ } m c.held) := by show _ = _; unfold openM; rw [hhf]
  have HNO := Lib.hid (findC_none half m.seen 2)
  generalize findC half m.seen 2 = c at *
  clear hd hH hW1 hblk b1 hFP hhf h64 hHw
  go_enter Tryd.func7, Tryd.ntmps7
  go_wp2_with fail
  go_at_call 15
  refine HON.out.mono ?_
  rintro e w' ⟨rfl, rfl⟩
  go_wp2_with fail
  go_at_call 16
  refine HFA.out.mono ?_
  rintro e w' ⟨rfl, rfl⟩
  go_wp2_with fail
  go_at_call 17
  refine HSZ.out.mono ?_
  rintro e w' ⟨rfl, rfl⟩
  go_upto_region 4 with fail
  rw [HW1.out]
  go_wp2_with fail
  go_at_call 18
  refine HFI.out.mono ?_
  rintro e w2 ⟨sv, hv, rfl, hf⟩
  obtain ⟨c0, c2, c3, c4, c6, hfr⟩ := hf.cells
  have hhv := hf.held
  have hlen := hf.len
  have hf' : FindIn W1 w2 w.heap.size D m.falls (m.laid.length / 2) c sv hv := by rw [HHF.out]; exact hf
  have hI := hf'.log HPlt.out hsz
  have OP := Lib.hid hf.off
  have O2 : Hid (Off F w w2) := (Off.of_below HB1.out).trans hf.off fun k e => .inr (by omega)
  have HD2 := Lib.hid ((HD.out.below HB1.out).off hf.off fun k hk e => HFP.out (e ▸ hk))
  have HH2 : Hid (Halves w2) := fun i hi => OP.out.cell ((HHv.out.below HB1.out) i hi) (fun e => HNE.out e.symm)
  have HKd : Hid (∀ k, (k = w.heap.size ∨ (W1.heap.size ≤ k ∧ k < w2.heap.size)) → ¬ F k) := by
    rintro k (rfl | hk) hF
    · exact HFP.out hF
    · have := HD.out.lt k hF; have := HB1.out.size; omega
  have HKs : Hid (∀ k, (k = w.heap.size ∨ (W1.heap.size ≤ k ∧ k < w2.heap.size)) → w.heap.size ≤ k) := by
    rintro k (rfl | hk)
    · exact Nat.le_refl _
    · have := HB1.out.size; omega
  by_cases hg : c.gen = 0
  · have hcn := HNO.out hg
    have HOM2 := HOM.out
    simp only [hg, if_true] at HOM2
    have HI : Hid (LogAt w2 w.heap.size D (lg0 m) (fun k => k = w.heap.size ∨ (W1.heap.size ≤ k ∧ k < w2.heap.size))) := by
      refine ⟨sv, .slice none 0 0, [], ?_⟩
      rw [hcn] at hI
      exact hI
    have HBG := Lib.hid (begin_any w.heap.size D 1 (lg0 m) m _ F (fun _ => False) none 0 [] (by omega) (by omega) (by show 16 + 0 ≤ m.laid.length / 2; rw [HHF.out]; omega) (by simp) (by simp) (Nat.zero_le _) (fun _ => rfl) hmany w2 HI.out HD2.out HKd.out ⟨BAt.nil _ _, fun h => absurd h (by simp)⟩ (fun _ h => h.elim) HH2.out)
    have hg0 : (c.gen : Int) = 0 := by omega
    rw [hg0] at c3
    have HOM3 : Hid (openM m = beginM (lg0 m) m 1 []) := HOM2
    have HOP : Hid (∀ e w', OpenP D m F w e w' = OpenP D m F w e w') := fun _ _ => rfl
    clear hf hf' hI hhv hlen hg0 hg hcn HOM2
    go_wp2_with fail
    go_at_call 19
    refine HBG.out.mono ?_
    rintro e w3 ⟨rfl, hT⟩
    have HT := Lib.hid (hT.opened O2.out HKs.out)
    rw [← HOM3.out] at HT
    rw [← HOM3.out]
    clear hT
    by_cases h0 : (openM m).1 = 0
    · rw [h0]
      have H0 := Lib.hid h0
      clear h0
      go_wp2_with fail
      go_ret2
      exact .inl ⟨H0.out, _, rfl, HT.out⟩
    · have hne : ((openM m).1 == 0) = false := by simpa using h0
      have hne2 : ((openM m).1 != 0) = true := by simpa using h0
      have H0 := Lib.hid h0
      obtain ⟨e1, he1⟩ : ∃ e1, (openM m).1 = e1 := ⟨_, rfl⟩
      have HE1 := Lib.hid he1
      rw [he1] at hne hne2 ⊢
      clear h0 he1
      go_wp2_with fail
      go_ret2
      rw [← HE1.out]
      exact .inr ⟨H0.out, rfl, HT.out.disk⟩
  · have HOM2 := HOM.out
    simp only [if_neg hg] at HOM2
    obtain ⟨Ah, ch, rfl, q1, q2, q3, q4⟩ := hhv
    have hl := hlen hg
    rw [hl] at q1 
    have HFO := Lib.hid (follow_any w.heap.size D { lg0 m with gen := c.gen, snap := c.snap, end_ := c.end_ } m _ F (fun k => W1.heap.size ≤ k) Ah ch c.held (by show _ = m.laid.length / 2; rw [HHF.out]; exact hl) (by show m.laid.length / 2 ≤ ch; rw [HHF.out]; exact q1) q2 rfl sv hmany w2 hI HD2.out HKd.out q4 (fun k hk e => by have := HPlt.out; omega) HH2.out HNE.out)
    rw [show ({ lg0 m with gen := c.gen, snap := c.snap, end_ := c.end_ } : Lg).half = half from HHF.out] at HFO
    have hg0 : ((c.gen : Int) == 0) = false := by simp; omega
    have hg1 : (c.gen == 0) = false := by simpa using hg
    have HOM3 := Lib.hid HOM2
    rw [hl]
    clear hf hf' hI hlen HOM2 q1 q2 q3 q4 hl
    go_wp2_with fail
    go_at_call 20
    refine HFO.out.mono ?_
    rintro e w3 ⟨rfl, hT⟩
    have HT := Lib.hid (hT.opened O2.out HKs.out)
    rw [← HOM3.out] at HT
    rw [← HOM3.out]
    clear hT
    by_cases h0 : (openM m).1 = 0
    · rw [h0]
      have H0 := Lib.hid h0
      clear h0
      go_wp2_with fail
      go_ret2
      exact .inl ⟨H0.out, _, rfl, HT.out⟩
    · have hne : ((openM m).1 == 0) = false := by simpa using h0
      have hne2 : ((openM m).1 != 0) = true := by simpa using h0
      have H0 := Lib.hid h0
      obtain ⟨e1, he1⟩ : ∃ e1, (openM m).1 = e1 := ⟨_, rfl⟩
      have HE1 := Lib.hid he1
      rw [he1] at hne hne2 ⊢
      clear h0 he1
      go_wp2_with fail
      go_ret2
      rw [← HE1.out]
      exact .inr ⟨H0.out, rfl, HT.out.disk⟩

theorem open_off (D : Nat) (m : Dk) (F : Nat → Prop) (w : World) (hd : DiskAt w D m F) (hon : m.on = false) :
    Calls Tryd.prog 7 #[.pointer (some ⟨D, 0, none⟩)] w fun e w' => e = .returned (.tuple #[.pointer none, .int .i64 12]) ∧ w = w' := by
  have HON := Lib.hid (disk_on_any D m F w hd)
  rw [hon] at HON
  clear hd
  go_enter Tryd.func7, Tryd.ntmps7
  go_wp2_with fail
  go_at_call 15
  refine HON.out.mono ?_
  rintro e w' ⟨rfl, rfl⟩
  go_wp2_with fail
  go_ret2
  exact ⟨rfl, rfl⟩
theorem open_small (D : Nat) (m : Dk) (F : Nat → Prop) (h64 : m.laid.length / 2 < 64) (w : World) (hd : DiskAt w D m F) (hon : m.on = true) :
    Calls Tryd.prog 7 #[.pointer (some ⟨D, 0, none⟩)] w fun e w' => e = .returned (.tuple #[.pointer none, .int .i64 3]) ∧ Below w.heap.size w w' := by
  have HON := Lib.hid (disk_on_any D m F w hd)
  rw [hon] at HON
  have HFA := Lib.hid (disk_falls_any D m F w hd)
  have HSZ := Lib.hid (disk_size_any D m F w hd)
  obtain ⟨half, hhf⟩ : ∃ half, m.laid.length / 2 = half := ⟨_, rfl⟩
  have hw0 : (m.laid.length : Int) / 2 = half := by omega
  have hw1 : ((m.laid.length : Int)).tdiv 2 = half := by rw [Int.tdiv_eq_ediv_of_nonneg (by omega)]; exact hw0
  have hw2 : IntKind.i64.wrap (half : Int) = half := by rw [IntKind.wrap_i64]; omega
  have hz64 : (half : Int) < 64 := by omega
  clear hd h64 hhf
  go_enter Tryd.func7, Tryd.ntmps7
  go_wp2_with fail
  go_at_call 15
  refine HON.out.mono ?_
  rintro e w' ⟨rfl, rfl⟩
  go_wp2_with fail
  go_at_call 16
  refine HFA.out.mono ?_
  rintro e w' ⟨rfl, rfl⟩
  go_wp2_with fail
  go_at_call 17
  refine HSZ.out.mono ?_
  rintro e w' ⟨rfl, rfl⟩
  go_wp2_with fail
  go_ret2
  exact ⟨rfl, (Below.refl _ w).alloc (Nat.le_refl _) _⟩
end Go.Proofs.YtabknmlnlhflmaaDoor
