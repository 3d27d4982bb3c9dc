import Derived.Test.YtfjmofefciopmaaGreatZTW6
/- Contract of the document's times. -/
section
namespace Go.Proofs.YtfjmofefciopmaaGreat
open Go.ChangeShapes Go.WideShapes Go.ChangeAt Go.RowKit Go.Joins Qr Tm Cal
theorem int64_info10 : (Tryz.prog.info? 2).map (fun i => (i.zero, i.size, i.bytes)) = some (some (.int .i64 0), 1, 8) := by kernel_rfl
theorem run_no {r : R} {s : Dt} {start below : Int} {f n : Nat} {out l : List Int} {last : Int} (h : ¬ flush r s n last) : run r s start below (f + 1) n out l last = run r s start below f (n + 1) out (if good r s n then l ++ [(n : Int)] else l) last := by
  show (if flush r s n last then _ else _) = _
  rw [if_neg h]
theorem run_ret {r : R} {s : Dt} {start below : Int} {f n : Nat} {out l : List Int} {last : Int} (h : flush r s n last) (hb : below ≤ n) : run r s start below (f + 1) n out l last = addAll r s start below out (keptL r l) := by
  show (if flush r s n last then _ else _) = _
  rw [if_pos h, if_pos hb]
theorem run_go {r : R} {s : Dt} {start below : Int} {f n : Nat} {out l : List Int} {last : Int} (h : flush r s n last) (hb : ¬ below ≤ n) : run r s start below (f + 1) n out l last = run r s start below f (n + 1) (addAll r s start below out (keptL r l)) (if good r s n then [(n : Int)] else []) (if n < 109938 then per r s (dt n) else 0) := by
  show (if flush r s n last then _ else _) = _
  rw [if_pos h, if_neg hb]
theorem flush_ne {r : R} {s : Dt} {n : Nat} {last p : Int} (h : n < 109938) (hp : per r s (dt n) = p) (hf : ¬ p = last) : flush r s n last := by
  unfold flush; rw [if_pos h, hp]; exact .inl hf
theorem flush_end {r : R} {s : Dt} {n : Nat} {last : Int} (h : n = 109938) : flush r s n last := by
  unfold flush; exact .inr h
theorem flush_not {r : R} {s : Dt} {n : Nat} {p : Int} (h : n < 109938) (hp : per r s (dt n) = p) : ¬ flush r s n p := by
  unfold flush; rw [if_pos h, hp]; rintro (h1 | h1)
  · exact h1 rfl
  · omega
theorem addOne_skip {r : R} {s : Dt} {start below : Int} {out : List Int} {x : Int} {sn : Int} (hn : s.n = sn) (h : x < sn ∨ below ≤ x ∨ (0 ≤ r.until_ ∧ r.until_ < x * 1440 + start % 1440) ∨ (0 < r.count ∧ (out.length : Int) = r.count)) : addOne r s start below out x = out := by
  unfold addOne; rw [if_pos (by unfold skips stampOf; rw [hn]; exact h)]
theorem addOne_add {r : R} {s : Dt} {start below : Int} {out : List Int} {x : Int} {sn : Int} (hn : s.n = sn) (h : ¬ (x < sn ∨ below ≤ x ∨ (0 ≤ r.until_ ∧ r.until_ < x * 1440 + start % 1440) ∨ (0 < r.count ∧ (out.length : Int) = r.count))) : addOne r s start below out x = out ++ [x * 1440 + start % 1440] := by
  unfold addOne; rw [if_neg (by unfold skips stampOf; rw [hn]; exact h)]; rfl
theorem addAll_step {r : R} {s : Dt} {start below : Int} {out days : List Int} {i : Nat} {x : Int} (h : days[i]? = some x) : addAll r s start below out (days.drop i) = addAll r s start below (addOne r s start below out x) (days.drop (i + 1)) := by
  rw [List.drop_eq_getElem_cons (List.getElem?_eq_some_iff.1 h).1, (List.getElem?_eq_some_iff.1 h).2]; rfl
theorem per_bd {r : R} {s : Dt} {n : Nat} (hr : Rule1 r) (hs : inDt s) (hn : n ≤ 109938) : -4000000 ≤ per r s (dt n) ∧ per r s (dt n) ≤ 4000000 := by
  have h := dt_bd hn
  unfold inDt at hs
  have := hr.start
  unfold per
  repeat' split
  all_goals omega
theorem addAll_len (r : R) (s : Dt) (start below : Int) : ∀ (days out : List Int), (addAll r s start below out days).length ≤ out.length + days.length
  | [], out => Nat.le_refl _
  | x :: d, out => by
    have := addAll_len r s start below d (addOne r s start below out x)
    have h1 : (addOne r s start below out x).length ≤ out.length + 1 := by unfold addOne; split <;> simp
    show (addAll r s start below (addOne r s start below out x) d).length ≤ _
    simp only [List.length_cons]; omega
theorem keptTo_mem {r : R} {l : List Int} : ∀ {i : Nat}, i ≤ l.length → ∀ x ∈ keptTo r l i, x ∈ l
  | 0, _, x, h => by simp [keptTo] at h
  | i + 1, hi, x, h => by
    unfold keptTo at h
    rcases List.mem_append.1 h with h | h
    · exact keptTo_mem (by omega) x h
    · split at h
      · obtain rfl : x = l.getD i 0 := by simpa using h
        rw [List.getD_eq_getElem?_getD, List.getElem?_eq_getElem (by omega)]
        exact List.getElem_mem _
      · cases h
theorem keptL_mem {r : R} {l : List Int} : ∀ x ∈ keptL r l, x ∈ l := by
  intro x h
  unfold keptL at h
  split at h
  · exact h
  · exact keptTo_mem (Nat.le_refl _) x h
theorem nx_n (t : Dt) : (nx t).n = t.n + 1 := by unfold nx; repeat' split
                                                 all_goals rfl
theorem rem_zero (y k : Int) : (y.tmod k == 0) = decide (y % k = 0) := by
  rw [Bool.eq_iff_iff]; simp [tmod_zero]
theorem heap_lt_of_sl {w : World} {b o n c : Nat} {l : List Int} (h : Sl w (some ⟨b, o, none⟩) n c (iv l)) {i : Nat} (hi : i < l.length) : b < w.heap.size := by
  obtain ⟨b', off, e, hlt, _⟩ := h.on (by rw [iv_len]; omega)
  obtain ⟨rfl, _⟩ : b = b' ∧ o = off := by simpa using e
  exact hlt
def dayOf (v : Value) (wr : World) : Nat := match v with
  | .pointer (some a) => (match wr.cell? a with | some (.int _ x) => x.toNat | _ => 0)
  | _ => 0
theorem dayOf_at {a : Addr} {wr : World} {x : Int} (h : wr.cell? a = some (.int .i64 x)) : dayOf (.pointer (some a)) wr = x.toNat := by simp [dayOf, h]
theorem keptL_len (r : R) (l : List Int) : (keptL r l).length ≤ l.length := by unfold keptL; split; exact Nat.le_refl _; exact keptTo_len r l _
end Go.Proofs.YtfjmofefciopmaaGreat
end
