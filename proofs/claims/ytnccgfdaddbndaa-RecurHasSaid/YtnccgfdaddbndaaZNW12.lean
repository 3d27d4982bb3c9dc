import Derived.Test.YtnccgfdaddbndaaZNW11
/- Contract of the program's times: the stamps between two, as an iterator. -/
section
namespace Go.Proofs.Ytnccgfdaddbndaa
open Go.ChangeShapes Go.WideShapes Go.ChangeAt Go.RowKit Go.Joins Go.Shelf Qr Tm Cal

attribute [local go_sem] Oper.semAt_some

theorem row_rises {most : Int} {b : Bool} {l : List Int} (h : rowB most b l = true) : l.Pairwise (· ≤ ·) := by
  have h1 := rowB_iff.1 h
  have h2 : ∀ j, ∀ i, i < j → j < l.length → l.getD i 0 < l.getD j 0 := by
    intro j
    induction j with
    | zero => intro i hi; omega
    | succ j ih =>
      intro i hi hj
      obtain ⟨_, _, _, _, h3⟩ := h1 (j + 1) hj
      rcases h3 with h3 | h3
      · omega
      · rw [Nat.add_sub_cancel] at h3
        by_cases e : i = j
        · subst e; exact h3
        · have := ih i (by omega) (by omega); omega
  rw [List.pairwise_iff_getElem]
  intro i j hi hj hij
  have := h2 j i hij hj
  rw [List.getD_eq_getElem?_getD, List.getD_eq_getElem?_getD, List.getElem?_eq_getElem hi, List.getElem?_eq_getElem hj] at this
  simp only [Option.getD_some] at this
  omega
theorem crs_rows {r : R} (s : Dt) (h : Qr.mayP r) (hl : r.bd.length ≤ 10000 ∧ r.bs.length ≤ 10000) : (crs r s).bd.length ≤ 10000 ∧ (crs r s).bd.Pairwise (· ≤ ·) ∧ (crs r s).bs.length ≤ 10000 ∧ (crs r s).bs.Pairwise (· ≤ ·) := by
  have h1 := row_rises h.2.2.1.2.1
  have h2 := row_rises h.2.2.1.2.2.1
  have e := (crs_same r s).2.2.2.2.1
  refine ⟨?_, ?_, by rw [e]; exact hl.2, by rw [e]; exact h2⟩
  · unfold crs; split
    · exact hl.1
    · split
      · simp
      · exact hl.1
  · unfold crs; split
    · exact h1
    · split
      · simp
      · exact h1

/-- What may be turned while stamps are handed out. -/
def xOf (w W : World) (k : Nat) : Prop := k < w.heap.size ∨ k = W.heap.size + 1
/-- A function that hands out these stamps. -/
def SeqR (T : List Int) (w W : World) (v : Value) : Prop :=
  ∃ gf lb, v = .func (.func gf) #[] lb ∧ (∀ args w', (callFunc gf args).run Try.prog w' = .ok (.enter gf args) w') ∧
    ∀ n, 1 ≤ n → SeqO Fence.wide n Try.prog gf lb (fun x : Int => #[Value.int .i64 x]) (Kx (xOf w W) W.heap.size) (fun ys => ys = T) (fun pre => pre <+: T) T.length (W.heap.size + 2) W

section
variable (r : R) (A1 A2 A3 A4 : Option Addr) (c1 c2 c3 c4 : Nat)
set_option maxRecDepth 100000 in
set_option maxHeartbeats 1000000 in
theorem seq_no (w W : World) : SeqR [] w W (.func (.func 28) #[] #[]) := by
  refine ⟨28, #[], rfl, enters_of Try.func28 (by kernel_rfl) rfl, fun n _ => ?_⟩
  intro l J Jx V _ _ _ _ _ _ h0
  refine callsIn_of_wp Try.func28 rfl trivial ?_ rfl
  simp only [Try.ntmps28, List.size_toArray, List.length_cons, List.length_nil, Nat.reduceAdd, Nat.reduceSub, Array.replicate_succ, Array.replicate_zero, List.push_toArray, List.append_toArray, List.nil_append, List.cons_append]
  gi_wp2
  first
    | refine bodyPost_ret (results_none rfl _ _ _) rfl ?_
    | go_end0
  first
    | exact ⟨⟨_, rfl⟩, .inl ⟨[], rfl, h0⟩⟩
    | exact ⟨⟨_, rfl⟩, .inl h0⟩
    | exact h0
theorem pwithin_any (start from_ to : Int) (hs : -9223372036854775808 ≤ start ∧ start ≤ 9223372036854775807) (hf : -9223372036854775808 ≤ from_ ∧ from_ ≤ 9223372036854775807) (ht : -9223372036854775808 ≤ to ∧ to ≤ 9223372036854775807)
    (hl : r.bm.length ≤ 10000 ∧ r.bd.length ≤ 10000 ∧ r.bw.length ≤ 10000 ∧ r.bs.length ≤ 10000) (w : World) (hr : RAt w r A1 A2 A3 A4 c1 c2 c3 c4) :
    Calls Try.prog 20 #[.agg (rcells r A1 A2 A3 A4 c1 c2 c3 c4), .int .i64 start, .int .i64 from_, .int .i64 to] w fun e W => ∃ v, e = .returned v ∧ SeqR (withinL r start from_ to) w W v ∧ Below w.heap.size w W := by
  by_cases hk : Qr.mayP r ∧ 0 ≤ start ∧ start < 158310720
  · obtain ⟨hm, h0, h1⟩ := hk
    refine (pwithin_yes r A1 A2 A3 A4 c1 c2 c3 c4 start from_ to hm h0 h1 hf ht hl w hr).mono ?_
    rintro e W ⟨B1, B2, B3, B4, d1, d2, d3, d4, b1, b2, b3, b4, rfl, hC, hmn, hb4, hB⟩
    refine ⟨_, rfl, ⟨31, _, rfl, enters_of Try.func31 (by kernel_rfl) rfl, fun n hn => ?_⟩, hB⟩
    intro l J Jx V hlM hV hbV hJ hJx hY hJ0
    have hfd := dfr_bd (max from_ start) (start % 1440) (by omega)
    have hld := dfr_bd (endS r to) (start % 1440) (by omega)
    obtain ⟨fn, hfn⟩ : ∃ fn : Nat, dfr (max from_ start) (start % 1440) = fn := ⟨(dfr (max from_ start) (start % 1440)).toNat, by omega⟩
    have hsn : (start / 1440).toNat ≤ fn := by
      have : (start / 1440) ≤ dfr (max from_ start) (start % 1440) := by unfold dfr; omega
      omega
    have hT : withinL r start from_ to = (daysL (crs r (dt (start / 1440).toNat)) (dt (start / 1440).toNat) fn (dfr (endS r to) (start % 1440))).map (stampOf start) := by
      unfold withinL; rw [if_pos ⟨hm, h0, h1⟩, hfn]
    rw [hfn] at hC
    obtain ⟨r1, r2, r3, r4⟩ := crs_rows (dt (start / 1440).toNat) hm ⟨hl.2.1, hl.2.2.2⟩
    have hlb4 := heap_lt' hmn
    exact pwithin2_in (crs r (dt (start / 1440).toNat)) B1 B2 B3 B4 d1 d2 d3 d4 n l (W.heap.size + 2) w.heap.size W.heap.size b1 b2 b3 b4 (start / 1440).toNat fn (xOf w W) start (dfr (endS r to) (start % 1440)) (withinL r start from_ to)
      ((Okr.of hm).crs _) (by rw [(crs_same r _).2.2.1]; exact hm.1.2.2.2.2.1) (by omega) hsn (by omega) hld hn r1 r2 r3 r4 hT.symm
      (fun k h2 h3 h => by rcases h with h | h <;> omega) (fun k h2 h => by rcases h with h | h <;> (have := hB.size; omega)) ⟨hb4, hlb4, by omega⟩ J Jx hJ hJx hY V hV (hC.below hbV) (blk_below hmn hbV) hJ0
  · refine (pwithin_no r A1 A2 A3 A4 c1 c2 c3 c4 start from_ to hk w hr).mono ?_
    rintro e W ⟨rfl, hB⟩
    refine ⟨_, rfl, ?_, hB⟩
    rw [show withinL r start from_ to = [] by unfold withinL; rw [if_neg hk]]
    exact seq_no w W
end
end Go.Proofs.Ytnccgfdaddbndaa
end
