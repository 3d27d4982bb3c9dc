import Derived.Test.YtfjmofefciopmaaGreatZMA
import Derived.Lib.SlicesCompact
/- The program's times of rules in plain numbers: periods, their first days, the days of a period, what is handed out. No text of the program is read here. -/
section
namespace Go.Proofs.YtfjmofefciopmaaGreat.Tm
open Go.Proofs.YtfjmofefciopmaaGreat.Cal Qr
def plB (l : List Int) (n of_ : Int) : Bool := memB l n || memB l (n - of_ - 1)
def asB (r : R) (t : Dt) : Bool := (decide (r.bm = []) || memB r.bm t.m) && (decide (r.bd = []) || plB r.bd t.d (lenI t.y t.m)) && (decide (r.bw = []) || nthB r.bw t)
def crs (r : R) (s : Dt) : R :=
  if r.freq = 2 ∧ r.bw = [] then { r with bw := [(0, s.w)] }
  else if (r.freq = 3 ∨ r.freq = 4) ∧ r.bd = [] ∧ r.bw = [] then { r with bd := [s.d], bm := if r.freq = 4 ∧ r.bm = [] then [s.m] else r.bm }
  else r
theorem memB_one (x y : Int) : memB [x] y = decide (x = y) := by unfold memB; simp
theorem nthB_one (x : Int × Int) (t : Dt) : nthB [x] t = nthOne t x := by unfold nthB; simp
theorem as_right (r : R) (s t : Dt) (hf : 1 ≤ r.freq ∧ r.freq ≤ 4) (hs : 1 ≤ s.d) (ht : 1 ≤ t.d ∧ t.d ≤ lenI t.y t.m) : asB (crs r s) t = rightB r s t := by
  unfold crs
  by_cases c1 : r.freq = 2 ∧ r.bw = []
  · rw [if_pos c1]
    unfold asB rightB
    simp only [nthB_one, nthOne, c1.1, c1.2]
    by_cases h1 : r.bm = [] <;> by_cases h2 : r.bd = [] <;> cases h3 : memB r.bm t.m <;> cases h4 : memB r.bd t.d <;> cases h5 : memB r.bd (t.d - lenI t.y t.m - 1) <;> simp [h1, h2, plB, h4, h5, eq_comm]
  · rw [if_neg c1]
    by_cases c2 : (r.freq = 3 ∨ r.freq = 4) ∧ r.bd = [] ∧ r.bw = []
    · rw [if_pos c2]
      obtain ⟨f34, b1, b2⟩ := c2
      unfold asB rightB
      have f2 : ¬ r.freq = 2 := by omega
      have f1 : ¬ r.freq = 1 := by omega
      have hneg : ¬ s.d = t.d - lenI t.y t.m - 1 := by omega
      simp only [b1, b2, plB, memB_one, f1, f2]
      by_cases h1 : r.bm = []
      · by_cases f4 : r.freq = 4
        · have f3 : ¬ r.freq = 3 := by omega
          simp only [h1, f4, hneg]
          have E1 : ∀ x : Int, (s.d = x) = (x = s.d) := fun x => propext eq_comm
          have E2 : ∀ x : Int, (s.m = x) = (x = s.m) := fun x => propext eq_comm
          by_cases e1 : t.d = s.d <;> by_cases e2 : t.m = s.m <;> simp [e1, e2, E1, E2, memB_one]
        · have f3 : r.freq = 3 := by omega
          simp only [h1, f3, hneg]
          have E1 : ∀ x : Int, (s.d = x) = (x = s.d) := fun x => propext eq_comm
          by_cases e1 : t.d = s.d <;> simp [e1, E1]
      · have f4' : ¬ (r.freq = 4 ∧ r.bm = []) := fun h => h1 h.2
        simp only [h1, hneg]
        have E1 : ∀ x : Int, (s.d = x) = (x = s.d) := fun x => propext eq_comm
        cases h3 : memB r.bm t.m <;> by_cases e1 : t.d = s.d <;> simp [e1, E1, h1, h3]
    · rw [if_neg c2]
      unfold asB rightB
      by_cases h3 : r.bw = []
      · have f2 : ¬ r.freq = 2 := fun h => c1 ⟨h, h3⟩
        simp only [h3, f2]
        by_cases f1 : r.freq = 1
        · by_cases h1 : r.bm = [] <;> by_cases h2 : r.bd = [] <;> cases h3 : memB r.bm t.m <;> cases h4 : memB r.bd t.d <;> cases h5 : memB r.bd (t.d - lenI t.y t.m - 1) <;> simp [h1, h2, plB, h4, h5, f1]
        · have h2 : ¬ r.bd = [] := fun h => c2 ⟨by omega, h, h3⟩
          by_cases h1 : r.bm = [] <;> cases h3 : memB r.bm t.m <;> cases h4 : memB r.bd t.d <;> cases h5 : memB r.bd (t.d - lenI t.y t.m - 1) <;> simp [h1, h2, plB, h4, h5]
      · by_cases h1 : r.bm = [] <;> by_cases h2 : r.bd = [] <;> cases h3 : memB r.bm t.m <;> cases h4 : memB r.bd t.d <;> cases h5 : memB r.bd (t.d - lenI t.y t.m - 1) <;> simp [plB, *]
def pp (r : R) (t : Dt) : Int :=
  if r.freq = 1 then t.n else if r.freq = 2 then (t.n - r.start + 7) / 7 else if r.freq = 3 then t.y * 12 + t.m - 1 else t.y
def bom (y m : Int) : Int := if 1900 ≤ y ∧ y ≤ 2200 then numI y m 1 else 109938
def bg (r : R) (p : Int) : Int :=
  if r.freq = 1 then p else if r.freq = 2 then (p - 1) * 7 + r.start else if r.freq = 3 then bom (p / 12) (p % 12 + 1) else bom p 1
structure Okr (r : R) : Prop where
  f : 1 ≤ r.freq ∧ r.freq ≤ 4
  i : 1 ≤ r.iv ∧ r.iv ≤ 999
  s : 0 ≤ r.start ∧ r.start ≤ 6
theorem Okr.of {r : R} (h : Qr.mayP r) : Okr r := by
  obtain ⟨⟨a, b, c, d, e, f, g, h⟩, _⟩ := h
  exact ⟨⟨a, b⟩, ⟨c, d⟩, ⟨g, h⟩⟩
theorem crs_same (r : R) (s : Dt) : (crs r s).freq = r.freq ∧ (crs r s).iv = r.iv ∧ (crs r s).count = r.count ∧ (crs r s).until_ = r.until_ ∧ (crs r s).bs = r.bs ∧ (crs r s).start = r.start := by
  unfold crs; split
  · simp
  · split <;> simp
theorem pp_crs (r : R) (s t : Dt) : pp (crs r s) t = pp r t := by
  obtain ⟨h1, _, _, _, _, h2⟩ := crs_same r s
  unfold pp; rw [h1, h2]
theorem bg_crs (r : R) (s : Dt) (p : Int) : bg (crs r s) p = bg r p := by
  obtain ⟨h1, _, _, _, _, h2⟩ := crs_same r s
  unfold bg; rw [h1, h2]
theorem per_pp (r : R) (s : Dt) (hw : s.w = s.n % 7) (t : Dt) : per r s t = pp r t - pp r s := by
  unfold per pp
  split
  · rfl
  · split
    · rw [hw]; omega
    · split <;> omega
def lowP (r : R) : Int := if r.freq = 1 then 0 else if r.freq = 2 then 0 else if r.freq = 3 then 22800 else 1900
theorem num_year {y m d y2 : Int} (h : Cal.mayP y m d) : numI y2 1 1 ≤ numI y m d ↔ y2 ≤ y := by
  have hm := may_month h
  have hc := cum_bd y m
  obtain ⟨a1, a2, a3, a4⟩ := h
  have h2 := cum_le y m hm.1 hm.2
  have e : numI y2 1 1 = ys y2 := by unfold numI; rw [cum_one]; omega
  rw [e]
  unfold numI
  have hs := ys_succ y
  constructor
  · intro h
    by_cases c : y2 ≤ y
    · exact c
    · have := ys_mono (y + 1) y2 (by omega); omega
  · intro c
    have := ys_mono y2 y c; omega
theorem num_month {y m d y2 m2 : Int} (h : Cal.mayP y m d) (h2 : 1 ≤ m2 ∧ m2 ≤ 12) : numI y2 m2 1 ≤ numI y m d ↔ y2 * 12 + m2 ≤ y * 12 + m := by
  have hm := may_month h
  obtain ⟨a1, a2, a3, a4⟩ := h
  have l1 := cum_le y m hm.1 hm.2
  have l2 := cum_le y2 m2 h2.1 h2.2
  have b1 := cum_bd y m
  have b2 := cum_bd y2 m2
  have hp := len_pos y2 m2 h2.1 h2.2
  unfold numI
  have s1 := ys_succ y
  have s2 := ys_succ y2
  constructor
  · intro h
    by_cases c : y2 * 12 + m2 ≤ y * 12 + m
    · exact c
    · exfalso
      by_cases e : y2 = y
      · subst e
        have := cum_mono y2 m m2 hm.1 (by omega) h2.2; omega
      · have := ys_mono (y + 1) y2 (by omega); omega
  · intro c
    by_cases e : y2 = y
    · subst e
      by_cases e2 : m2 = m
      · subst e2; omega
      · have := cum_mono y2 m2 m h2.1 (by omega) hm.2; omega
    · have := ys_mono (y2 + 1) y (by omega); omega
theorem bg_pp {r : R} (_ho : Okr r) {n : Nat} (hn : n ≤ 109937) {p : Int} (hp : lowP r ≤ p) : bg r p ≤ n ↔ p ≤ pp r (dt n) := by
  obtain ⟨hm, hN⟩ := dt_in hn
  have hm2 := may_month hm
  have hdn := dt_n n
  unfold lowP at hp
  unfold bg pp
  by_cases f1 : r.freq = 1
  · rw [if_pos f1, if_pos f1, hdn]
  · rw [if_neg f1] at hp
    rw [if_neg f1, if_neg f1]
    by_cases f2 : r.freq = 2
    · rw [if_pos f2, if_pos f2, hdn]; omega
    · rw [if_neg f2] at hp
      rw [if_neg f2, if_neg f2]
      have hy := hm.1
      have hy2 := hm.2.1
      by_cases f3 : r.freq = 3
      · rw [if_pos f3] at hp
        rw [if_pos f3, if_pos f3]
        unfold bom
        by_cases c : 1900 ≤ p / 12 ∧ p / 12 ≤ 2200
        · rw [if_pos c, ← hN, num_month hm (by omega)]; omega
        · rw [if_neg c]; omega
      · rw [if_neg f3] at hp
        rw [if_neg f3, if_neg f3]
        unfold bom
        by_cases c : 1900 ≤ p ∧ p ≤ 2200
        · rw [if_pos c, ← hN, num_year hm]
        · rw [if_neg c]; omega
theorem pp_low {r : R} (ho : Okr r) {n : Nat} (hn : n ≤ 109937) : lowP r ≤ pp r (dt n) := by
  obtain ⟨hm, _⟩ := dt_in hn
  have hm2 := may_month hm
  have hdn := dt_n n
  have := ho.s
  have hy := hm.1
  unfold lowP pp
  split
  · rw [hdn]; omega
  · split
    · rw [hdn]; omega
    · split <;> omega
theorem bom_le (y m : Int) (h : 1 ≤ m ∧ m ≤ 12) : bom y m ≤ 109938 := by
  unfold bom
  split
  · rename_i c
    have := num_bd (y := y) (m := m) (d := 1) ⟨c.1, c.2, by omega, by have := len_pos y m h.1 h.2; omega⟩
    omega
  · omega
theorem bom_nn (y m : Int) (h : 1 ≤ m ∧ m ≤ 12) : 0 ≤ bom y m := by
  unfold bom
  split
  · rename_i c
    have := num_bd (y := y) (m := m) (d := 1) ⟨c.1, c.2, by omega, by have := len_pos y m h.1 h.2; omega⟩
    omega
  · omega
theorem bg_rise {r : R} (ho : Okr r) {p : Int} (hp : lowP r ≤ p) (hb : bg r p < 109938) : bg r p < bg r (p + 1) ∧ bg r (p + 1) ≤ bg r p + 366 ∧ (bg r (p + 1) ≤ 109945) := by
  unfold lowP at hp
  unfold bg at *
  by_cases f1 : r.freq = 1
  · simp only [if_pos f1] at *; omega
  · simp only [if_neg f1] at *
    by_cases f2 : r.freq = 2
    · simp only [if_pos f2] at *; have := ho.s; omega
    · simp only [if_neg f2] at *
      by_cases f3 : r.freq = 3
      · simp only [if_pos f3] at *
        have hl := bom_le ((p + 1) / 12) ((p + 1) % 12 + 1) (by omega)
        have hc : 1900 ≤ p / 12 ∧ p / 12 ≤ 2200 := by
          unfold bom at hb; split at hb
          · assumption
          · omega
        have e : bom (p / 12) (p % 12 + 1) = numI (p / 12) (p % 12 + 1) 1 := by unfold bom; rw [if_pos hc]
        have hlen := len_pos (p / 12) (p % 12 + 1) (by omega) (by omega)
        have hlb := len_bd (p / 12) (p % 12 + 1)
        have hcs := cum_succ (p / 12) (p % 12 + 1) (by omega) (by omega)
        rw [e] at hb ⊢
        have e2 : bom ((p + 1) / 12) ((p + 1) % 12 + 1) = numI (p / 12) (p % 12 + 1) 1 + lenI (p / 12) (p % 12 + 1) := by
          by_cases c12 : p % 12 = 11
          · have q1 : (p + 1) / 12 = p / 12 + 1 := by omega
            have q2 : (p + 1) % 12 = 0 := by omega
            rw [q1, q2]
            rw [c12] at hcs ⊢
            have h13 := cum_13 (p / 12)
            simp only [show (11 : Int) + 1 = 12 from rfl, show (12 : Int) + 1 = 13 from rfl, show (0 : Int) + 1 = 1 from rfl] at hcs ⊢
            have hs := ys_succ (p / 12)
            unfold bom
            by_cases c22 : p / 12 + 1 ≤ 2200
            · rw [if_pos ⟨by omega, c22⟩]; unfold numI; rw [cum_one, hs]; omega
            · have e22 : p / 12 = 2200 := by omega
              rw [if_neg (by omega), e22]
              rw [e22] at h13 hcs hs
              have := ys_2201
              unfold numI
              simp only [show (2200 : Int) + 1 = 2201 from rfl] at hs
              omega
          · have q1 : (p + 1) / 12 = p / 12 := by omega
            have q2 : (p + 1) % 12 = p % 12 + 1 := by omega
            rw [q1, q2]
            unfold bom; rw [if_pos hc]; unfold numI; rw [hcs]; omega
        rw [e2] at hl ⊢
        omega
      · simp only [if_neg f3] at *
        have hl := bom_le (p + 1) 1 (by omega)
        have hc : 1900 ≤ p ∧ p ≤ 2200 := by
          unfold bom at hb; split at hb
          · assumption
          · omega
        have e : bom p 1 = ys p := by unfold bom; rw [if_pos hc]; unfold numI; rw [cum_one]; omega
        have hs := ys_succ p
        have hlp := lp01 p
        have e2 : bom (p + 1) 1 = ys (p + 1) := by
          unfold bom
          by_cases c22 : p + 1 ≤ 2200
          · rw [if_pos ⟨by omega, c22⟩]; unfold numI; rw [cum_one]; omega
          · have e22 : p = 2200 := by omega
            rw [if_neg (by omega), e22]; exact ys_2201.symm
        rw [e] at hb ⊢
        rw [e2] at hl ⊢
        omega
theorem bg_low {r : R} (ho : Okr r) {p : Int} (hp : lowP r ≤ p) : -7 ≤ bg r p := by
  unfold lowP at hp
  have := ho.s
  unfold bg
  by_cases f1 : r.freq = 1
  · simp only [if_pos f1] at *; omega
  · simp only [if_neg f1] at *
    by_cases f2 : r.freq = 2
    · simp only [if_pos f2] at *; omega
    · simp only [if_neg f2] at *
      by_cases f3 : r.freq = 3
      · simp only [if_pos f3] at *; have := bom_nn (p / 12) (p % 12 + 1) (by omega); omega
      · simp only [if_neg f3] at *; have := bom_nn p 1 (by omega); omega
theorem bg_nn {r : R} (ho : Okr r) {p : Int} (hp : lowP r ≤ p) : 0 ≤ bg r (p + 1) := by
  unfold lowP at hp
  have := ho.s
  unfold bg
  by_cases f1 : r.freq = 1
  · simp only [if_pos f1] at *; omega
  · simp only [if_neg f1] at *
    by_cases f2 : r.freq = 2
    · simp only [if_pos f2] at *; omega
    · simp only [if_neg f2] at *
      by_cases f3 : r.freq = 3
      · simp only [if_pos f3] at *; exact bom_nn ((p + 1) / 12) ((p + 1) % 12 + 1) (by omega)
      · simp only [if_neg f3] at *; exact bom_nn (p + 1) 1 (by omega)
theorem bg_small {r : R} (ho : Okr r) {p : Int} (hp : lowP r ≤ p) (hb : bg r p < 109938) : p < 110000 := by
  unfold lowP at hp
  have := ho.s
  unfold bg at hb
  by_cases f1 : r.freq = 1
  · simp only [if_pos f1] at *; omega
  · simp only [if_neg f1] at *
    by_cases f2 : r.freq = 2
    · simp only [if_pos f2] at *; omega
    · simp only [if_neg f2] at *
      by_cases f3 : r.freq = 3
      · simp only [if_pos f3] at *; unfold bom at hb; split at hb <;> omega
      · simp only [if_neg f3] at *; unfold bom at hb; split at hb <;> omega
end Go.Proofs.YtfjmofefciopmaaGreat.Tm
end
section
namespace Go.Proofs.YtfjmofefciopmaaGreat.Tm
open Go.Proofs.YtfjmofefciopmaaGreat.Cal Qr
def Ris (l : List Int) : Prop := l.Pairwise (· < ·)
theorem ris_ext {a b : List Int} (ha : Ris a) (hb : Ris b) (h : ∀ x, x ∈ a ↔ x ∈ b) : a = b := by
  induction a generalizing b with
  | nil =>
    cases b with
    | nil => rfl
    | cons y t => exact absurd ((h y).2 (by simp)) (by simp)
  | cons x s ih =>
    cases b with
    | nil => exact absurd ((h x).1 (by simp)) (by simp)
    | cons y t =>
      have ha' := List.pairwise_cons.1 ha
      have hb' := List.pairwise_cons.1 hb
      have e : x = y := by
        rcases List.mem_cons.1 ((h x).1 (by simp)) with e | e
        · exact e
        · rcases List.mem_cons.1 ((h y).2 (by simp)) with e2 | e2
          · exact e2.symm
          · have h1 := ha'.1 y e2
            have h2 := hb'.1 x e
            omega
      subst e
      rw [ih ha'.2 hb'.2 fun z => ?_]
      constructor
      · intro hz
        rcases List.mem_cons.1 ((h z).1 (by simp [hz])) with e | e
        · have := ha'.1 z hz; omega
        · exact e
      · intro hz
        rcases List.mem_cons.1 ((h z).2 (by simp [hz])) with e | e
        · have := hb'.1 z hz; omega
        · exact e
theorem ris_filter {l : List Int} (p : Int → Bool) (h : Ris l) : Ris (l.filter p) := List.Pairwise.filter _ h
theorem ris_sub {a b : List Int} (h : a.Sublist b) (hb : Ris b) : Ris a := hb.sublist h
def fromTo (a b : Int) : List Int := (List.range (b - a).toNat).map fun k : Nat => a + (k : Int)
theorem mem_fromTo {a b x : Int} : x ∈ fromTo a b ↔ a ≤ x ∧ x < b := by
  unfold fromTo
  simp only [List.mem_map, List.mem_range]
  constructor
  · rintro ⟨k, h, rfl⟩; omega
  · intro ⟨h1, h2⟩; exact ⟨(x - a).toNat, by omega, by omega⟩
theorem fromTo_succ {a b : Int} (h : a ≤ b) : fromTo a (b + 1) = fromTo a b ++ [b] := by
  unfold fromTo
  rw [show (b + 1 - a).toNat = (b - a).toNat + 1 by omega, List.range_succ, List.map_append]
  simp only [List.map_cons, List.map_nil]
  rw [show a + (((b - a).toNat : Nat) : Int) = b by omega]
theorem fromTo_none {a b : Int} (h : b ≤ a) : fromTo a b = [] := by
  unfold fromTo
  rw [show (b - a).toNat = 0 by omega]; rfl
theorem ris_fromTo (a b : Int) : Ris (fromTo a b) := by
  unfold Ris fromTo
  rw [List.pairwise_map]
  exact List.pairwise_lt_range.imp fun h => by omega
theorem fromTo_len (a b : Int) : (fromTo a b).length = (b - a).toNat := by unfold fromTo; simp
noncomputable def pdays (r : R) (p : Int) : List Int := (fromTo (max (bg r p) 0) (min (bg r (p + 1)) 109938)).filter fun n => asB r (dt n.toNat)
noncomputable def dd (r : R) (p : Int) : List Int := keptL r (pdays r p)
theorem keptTo_sub (r : R) (l : List Int) : ∀ i, i ≤ l.length → (keptTo r l i).Sublist (l.take i)
  | 0, _ => by simp [keptTo]
  | i + 1, h => by
    have ih := keptTo_sub r l i (by omega)
    have hg : l.getD i 0 = l[i] := by rw [List.getD_eq_getElem?_getD, List.getElem?_eq_getElem (by omega)]; rfl
    rw [List.take_add_one, List.getElem?_eq_getElem (by omega)]
    unfold keptTo
    refine ih.append ?_
    split
    · rw [hg]; exact List.Sublist.refl _
    · exact List.nil_sublist _
theorem keptL_sub (r : R) (l : List Int) : (keptL r l).Sublist l := by
  unfold keptL; split
  · exact List.Sublist.refl _
  · have := keptTo_sub r l l.length (Nat.le_refl _); rwa [List.take_length] at this
theorem ris_dd (r : R) (p : Int) : Ris (dd r p) := ris_sub (keptL_sub r _) (ris_filter _ (ris_fromTo _ _))
theorem mem_dd {r : R} {p x : Int} (h : x ∈ dd r p) : max (bg r p) 0 ≤ x ∧ x < min (bg r (p + 1)) 109938 := by
  have h1 := (keptL_sub r _).mem h
  unfold pdays at h1
  exact mem_fromTo.1 (List.mem_filter.1 h1).1
theorem dd_len {r : R} (ho : Okr r) {p : Int} (hp : lowP r ≤ p) (hb : bg r p < 109938) : (dd r p).length ≤ 373 := by
  have h1 := (keptL_sub r (pdays r p)).length_le
  have h2 : (pdays r p).length ≤ (fromTo (max (bg r p) 0) (min (bg r (p + 1)) 109938)).length := List.length_filter_le _ _
  rw [fromTo_len] at h2
  have h3 := bg_rise ho hp hb
  have h4 := bg_low ho hp
  unfold dd
  omega
theorem dd_pp {r : R} (ho : Okr r) {p x : Int} (hp : lowP r ≤ p) (h : x ∈ dd r p) : pp r (dt x.toNat) = p := by
  have h1 := mem_dd h
  have hx : ((x.toNat : Nat) : Int) = x := by omega
  have a := (bg_pp ho (n := x.toNat) (by omega) hp).1 (by omega)
  by_cases c : pp r (dt x.toNat) = p
  · exact c
  · have b := (bg_pp ho (n := x.toNat) (by omega) (p := p + 1) (by omega)).2 (by omega)
    omega
def inner (s first last count : Int) : List Int → Int → (Int → List Int) → List Int
  | [], told, k => k told
  | x :: l, told, k => if x < s then inner s first last count l told k else if last ≤ x then [] else (if first ≤ x then [x] else []) ++ (if told + 1 = count then [] else inner s first last count l (told + 1) k)
noncomputable def outer (r : R) (s first last : Int) : Nat → Int → Int → List Int
  | 0, _, _ => []
  | f + 1, p, told => if bg r p < last then inner s first last r.count (dd r p) told (fun told' => outer r s first last f (p + r.iv) told') else []
noncomputable def flatP (r : R) (last : Int) : Nat → Int → List Int
  | 0, _ => []
  | f + 1, p => if bg r p < last then dd r p ++ flatP r last f (p + r.iv) else []
theorem inner_app (s first last count : Int) (a b : List Int) (k : Int → List Int) : ∀ told, inner s first last count (a ++ b) told k = inner s first last count a told (fun t => inner s first last count b t k) := by
  induction a with
  | nil => intro told; rfl
  | cons x l ih =>
    intro told
    simp only [List.cons_append, inner, ih]
theorem outer_flat (r : R) (s first last : Int) : ∀ f p told, outer r s first last f p told = inner s first last r.count (flatP r last f p) told (fun _ => [])
  | 0, p, told => rfl
  | f + 1, p, told => by
    unfold outer flatP
    split
    · rw [inner_app]
      congr 1
      funext t
      exact outer_flat r s first last f (p + r.iv) t
    · rfl
def tk (count : Int) (told : Int) (l : List Int) : List Int := if count = 0 then l else l.take (count - told).toNat
theorem inner_sel (s first last count : Int) : ∀ (l : List Int) (told : Int), Ris l → 0 ≤ told → (count = 0 ∨ told < count) →
    inner s first last count l told (fun _ => []) = (tk count told (l.filter fun x => decide (s ≤ x) && decide (x < last))).filter fun x => decide (first ≤ x)
  | [], told, _, _, _ => by unfold inner tk; split <;> simp
  | x :: l, told, hr, h0, hc => by
    have hr' := List.pairwise_cons.1 hr
    unfold inner
    by_cases c1 : x < s
    · rw [if_pos c1, inner_sel s first last count l told hr'.2 h0 hc, List.filter_cons_of_neg (by simp; omega)]
    · rw [if_neg c1]
      by_cases c2 : last ≤ x
      · rw [if_pos c2]
        have : (x :: l).filter (fun x => decide (s ≤ x) && decide (x < last)) = [] := by
          rw [List.filter_eq_nil_iff]
          intro y hy
          rcases List.mem_cons.1 hy with rfl | hy
          · simp; omega
          · have := hr'.1 y hy; simp; omega
        rw [this]; unfold tk; split <;> simp
      · rw [if_neg c2, List.filter_cons_of_pos (by simp only [Bool.and_eq_true, decide_eq_true_eq]; omega)]
        have key : ∀ m : List Int, (tk count told (x :: m)) = x :: (if told + 1 = count then [] else tk count (told + 1) m) := by
          intro m
          unfold tk
          rcases hc with e | e
          · have c3 : ¬ told + 1 = count := by omega
            rw [if_pos e, if_neg c3, if_pos e]
          · have c4 : ¬ count = 0 := by omega
            rw [if_neg c4, show (count - told).toNat = (count - (told + 1)).toNat + 1 by omega, List.take_succ_cons]
            by_cases c3 : told + 1 = count
            · rw [if_pos c3, show (count - (told + 1)).toNat = 0 by omega]; simp
            · rw [if_neg c3, if_neg c4]
        rw [key]
        by_cases c3 : told + 1 = count
        · rw [if_pos c3, if_pos c3]
          by_cases c4 : first ≤ x <;> simp [c4]
        · rw [if_neg c3, if_neg c3, inner_sel s first last count l (told + 1) hr'.2 (by omega) (by omega)]
          by_cases c4 : first ≤ x <;> simp [c4]
theorem flat_mem {r : R} (ho : Okr r) (last : Int) (hl : last ≤ 109938) : ∀ f p, lowP r ≤ p → (109938 - bg r p).toNat ≤ f → ∀ x, x < last →
    (x ∈ flatP r last f p ↔ p ≤ pp r (dt x.toNat) ∧ (pp r (dt x.toNat) - p) % r.iv = 0 ∧ x ∈ dd r (pp r (dt x.toNat)))
  | 0, p, hp, hf, x, hx => by
    constructor
    · intro h; cases h
    · rintro ⟨h1, _, h3⟩
      have h4 := mem_dd h3
      have := (bg_pp ho (n := x.toNat) (by omega) hp).2 h1
      omega
  | f + 1, p, hp, hf, x, hx => by
    have hi := ho.i
    unfold flatP
    by_cases c : bg r p < last
    · rw [if_pos c]
      have hrise := bg_rise ho hp (by omega)
      -- the next period's row
      have hnext : bg r p < bg r (p + r.iv) := by
        by_cases c2 : bg r (p + r.iv) < 109938
        · have h5 : ∀ k : Nat, bg r (p + k) < 109938 → bg r p ≤ bg r (p + k) ∧ (0 < k → bg r p < bg r (p + k)) := by
            intro k
            induction k with
            | zero => intro _; simp
            | succ k ih =>
              intro hk
              by_cases c3 : bg r (p + k) < 109938
              · have h6 := bg_rise ho (p := p + k) (by omega) c3
                have h7 := ih c3
                rw [show p + ((k + 1 : Nat) : Int) = p + k + 1 by omega] at hk ⊢
                exact ⟨by omega, fun _ => by omega⟩
              · -- a period behind the calendar has none behind it that is in
                exfalso
                have h8 : ∀ n : Nat, n ≤ 109937 → pp r (dt n) < p + k := by
                  intro n hn
                  by_cases c4 : p + k ≤ pp r (dt n)
                  · have := (bg_pp ho hn (p := p + k) (by omega)).2 c4; omega
                  · omega
                by_cases c5 : 0 ≤ bg r (p + ((k + 1 : Nat) : Int))
                · have h9 := (bg_pp ho (n := (bg r (p + ((k + 1 : Nat) : Int))).toNat) (by omega) (p := p + ((k + 1 : Nat) : Int)) (by omega)).1 (by omega)
                  have := h8 (bg r (p + ((k + 1 : Nat) : Int))).toNat (by omega)
                  omega
                · have h9 := (bg_pp ho (n := 0) (by omega) (p := p + ((k + 1 : Nat) : Int)) (by omega)).1 (by omega)
                  have := h8 0 (by omega)
                  omega
          have := (h5 r.iv.toNat (by rw [show ((r.iv.toNat : Nat) : Int) = r.iv by omega]; exact c2)).2 (by omega)
          rwa [show ((r.iv.toNat : Nat) : Int) = r.iv by omega] at this
        · omega
      rw [List.mem_append, flat_mem ho last hl f (p + r.iv) (by omega) (by omega) x hx]
      constructor
      · rintro (h | ⟨h1, h2, h3⟩)
        · have e := dd_pp ho hp h
          rw [e]; exact ⟨Int.le_refl _, by simp, h⟩
        · refine ⟨by omega, ?_, h3⟩
          rw [show pp r (dt x.toNat) - p = pp r (dt x.toNat) - (p + r.iv) + r.iv by omega, Int.add_emod_right]; exact h2
      · rintro ⟨h1, h2, h3⟩
        by_cases e : pp r (dt x.toNat) = p
        · left; rw [← e]; exact h3
        · right
          have h4 : r.iv ∣ pp r (dt x.toNat) - p := Int.dvd_of_emod_eq_zero h2
          have h5 := Int.le_of_dvd (by omega) h4
          refine ⟨by omega, ?_, h3⟩
          rw [show pp r (dt x.toNat) - (p + r.iv) = pp r (dt x.toNat) - p - r.iv by omega, Int.sub_emod_right]; exact h2
    · rw [if_neg c]
      constructor
      · intro h; cases h
      · rintro ⟨h1, _, h3⟩
        have h4 := mem_dd h3
        have := (bg_pp ho (n := x.toNat) (by omega) hp).2 h1
        omega
theorem flat_ge {r : R} (ho : Okr r) (last : Int) : ∀ f p, lowP r ≤ p → ∀ x ∈ flatP r last f p, p ≤ pp r (dt x.toNat) ∧ 0 ≤ x ∧ x ≤ 109937
  | 0, _, _, x, h => by cases h
  | f + 1, p, hp, x, h => by
    have hi := ho.i
    unfold flatP at h
    split at h
    · rcases List.mem_append.1 h with h | h
      · have := mem_dd h
        rw [dd_pp ho hp h]; omega
      · have := flat_ge ho last f (p + r.iv) (by omega) x h
        omega
    · cases h
theorem ris_flat {r : R} (ho : Okr r) (last : Int) : ∀ f p, lowP r ≤ p → Ris (flatP r last f p)
  | 0, _, _ => List.Pairwise.nil
  | f + 1, p, hp => by
    have hi := ho.i
    unfold flatP
    split
    · unfold Ris
      rw [List.pairwise_append]
      refine ⟨ris_dd r p, ris_flat ho last f (p + r.iv) (by omega), fun x hx y hy => ?_⟩
      have h1 := flat_ge ho last f (p + r.iv) (by omega) y hy
      have h2 := mem_dd hx
      have h3 := (bg_pp ho (n := y.toNat) (by omega) (p := p + 1) (by omega)).2 (by omega)
      omega
    · exact List.Pairwise.nil
end Go.Proofs.YtfjmofefciopmaaGreat.Tm
end
section
namespace Go.Proofs.YtfjmofefciopmaaGreat.Tm
open Go.Proofs.YtfjmofefciopmaaGreat.Cal Qr
theorem keptTo_bs {r r2 : R} (h : r.bs = r2.bs) (l : List Int) : ∀ i, keptTo r l i = keptTo r2 l i
  | 0 => rfl
  | i + 1 => by unfold keptTo; rw [keptTo_bs h l i]; unfold okPos; rw [h]
theorem keptL_bs {r r2 : R} (h : r.bs = r2.bs) (l : List Int) : keptL r l = keptL r2 l := by unfold keptL; rw [h, keptTo_bs h]
noncomputable def flatD (r : R) (ps : Int) : Nat → Int → List Int
  | 0, _ => []
  | f + 1, p => (if (p - ps) % r.iv = 0 then dd r p else []) ++ flatD r ps f (p + 1)
theorem flatD_succ (r : R) (ps : Int) (k : Nat) (p : Int) : flatD r ps (k + 1) p = (if (p - ps) % r.iv = 0 then dd r p else []) ++ flatD r ps k (p + 1) := rfl
theorem addAll_app (r : R) (s : Dt) (start below : Int) (out a b : List Int) : addAll r s start below out (a ++ b) = addAll r s start below (addAll r s start below out a) b := by unfold addAll; rw [List.foldl_append]
theorem good_in {r : R} (ho : Okr r) {sn : Nat} (hs : sn ≤ 109937) {n : Nat} (hn : n ≤ 109937) :
    good r (dt sn) n ↔ (pp r (dt n) - pp r (dt sn)) % r.iv = 0 ∧ asB (crs r (dt sn)) (dt n) = true := by
  have h1 := (dt_in hs).1
  have h2 := (dt_in hn).1
  obtain ⟨_, _, h3, h4⟩ := h2
  obtain ⟨_, _, h5, _⟩ := h1
  unfold good
  rw [per_pp r (dt sn) (by rw [dt_w, dt_n]), as_right r (dt sn) (dt n) ho.f h5 ⟨h3, h4⟩]
  constructor
  · rintro ⟨_, a, b⟩; exact ⟨a, b⟩
  · rintro ⟨a, b⟩; exact ⟨by omega, a, b⟩
theorem good_days {r : R} (ho : Okr r) {sn : Nat} (hs : sn ≤ 109937) {p : Int} (hp : lowP r ≤ p) :
    keptL r ((fromTo (max (bg r p) 0) (min (bg r (p + 1)) 109938)).filter fun x => decide (good r (dt sn) x.toNat)) = (if (p - pp r (dt sn)) % r.iv = 0 then dd (crs r (dt sn)) p else []) := by
  obtain ⟨_, _, _, _, hbs, _⟩ := crs_same r (dt sn)
  have hx : ∀ x ∈ fromTo (max (bg r p) 0) (min (bg r (p + 1)) 109938), pp r (dt x.toNat) = p ∧ x.toNat ≤ 109937 := by
    intro x hx
    have h1 := mem_fromTo.1 hx
    have h2 := (bg_pp ho (n := x.toNat) (by omega) hp).1 (by omega)
    have h3 : ¬ (p + 1 ≤ pp r (dt x.toNat)) := fun h => by
      have := (bg_pp ho (n := x.toNat) (by omega) (p := p + 1) (by omega)).2 h; omega
    exact ⟨by omega, by omega⟩
  split
  · rename_i c
    unfold dd pdays
    rw [bg_crs, bg_crs, keptL_bs hbs]
    congr 1
    refine List.filter_congr fun x h => ?_
    obtain ⟨h1, h2⟩ := hx x h
    have := good_in ho hs h2
    rw [h1] at this
    cases e : asB (crs r (dt sn)) (dt x.toNat) with
    | true => rw [e] at this; exact decide_eq_true (this.2 ⟨c, rfl⟩)
    | false => rw [e] at this; exact decide_eq_false fun h => by have := (this.1 h).2; cases this
  · rename_i c
    rw [List.filter_eq_nil_iff.2 fun x h => ?_]
    · unfold keptL; split <;> rfl
    · obtain ⟨h1, h2⟩ := hx x h
      have := good_in ho hs h2
      rw [h1] at this
      intro h
      exact c (this.1 (of_decide_eq_true h)).1
theorem filter_snoc {p : Int → Bool} {a n : Int} (h : a ≤ n) : (fromTo a (n + 1)).filter p = (fromTo a n).filter p ++ (if p n = true then [n] else []) := by
  rw [fromTo_succ h, List.filter_append]
  congr 1
  cases e : p n <;> simp [e]
theorem run_flat {r : R} (ho : Okr r) {sn : Nat} (hs : sn ≤ 109937) (start below : Int) : ∀ f (n : Nat) (out l : List Int) (last p : Int), n + f = 109939 → 1 ≤ f → lowP r ≤ p → p = pp r (dt sn) + last →
    bg r p < 109938 → max (bg r p) 0 ≤ n → (n : Int) ≤ bg r (p + 1) → l = (fromTo (max (bg r p) 0) n).filter (fun x => decide (good r (dt sn) x.toNat)) →
    ∃ k : Nat, run r (dt sn) start below f n out l last = addAll r (dt sn) start below out (flatD (crs r (dt sn)) (pp r (dt sn)) k p) ∧ (below ≤ bg r (p + k) ∨ 109938 ≤ bg r (p + k))
  | 0, n, out, l, last, p, h1, h2, _, _, _, _, _, _ => by omega
  | f + 1, n, out, l, last, p, h1, h2, hp, hpl, hb, hn1, hn2, hl => by
    have hiv : (crs r (dt sn)).iv = r.iv := (crs_same r (dt sn)).2.1
    have hone : flatD (crs r (dt sn)) (pp r (dt sn)) 1 p = (if (p - pp r (dt sn)) % r.iv = 0 then dd (crs r (dt sn)) p else []) := by
      unfold flatD flatD; rw [hiv, List.append_nil]
    by_cases c0 : n = 109938
    · -- behind the calendar
      have hk : keptL r l = flatD (crs r (dt sn)) (pp r (dt sn)) 1 p := by
        rw [hone, ← good_days ho hs hp, hl, show min (bg r (p + 1)) 109938 = (n : Int) by omega]
      obtain rfl : f = 0 := by omega
      refine ⟨1, ?_, .inr (by show 109938 ≤ bg r (p + 1); omega)⟩
      unfold run
      rw [if_pos (show flush r (dt sn) n last from .inr c0), hk]
      split <;> rfl
    · have hn3 : n ≤ 109937 := by omega
      have hper := per_pp r (dt sn) (by rw [dt_w, dt_n]) (dt n)
      have hge := (bg_pp ho hn3 hp).1 (by omega)
      have hfl : flush r (dt sn) n last ↔ (n : Int) = bg r (p + 1) := by
        unfold flush
        rw [if_pos (by omega), hper]
        have h5 := bg_pp ho hn3 (p := p + 1) (by omega)
        constructor
        · rintro (h | h)
          · have := h5.2 (by omega); omega
          · exact absurd h c0
        · intro h; left; have := h5.1 (by omega); omega
      have hgood : ∀ x : Int, x = n → decide (good r (dt sn) x.toNat) = decide (good r (dt sn) n) := by rintro x rfl; rfl
      unfold run
      by_cases c1 : (n : Int) = bg r (p + 1)
      · rw [if_pos (hfl.2 c1)]
        have hk : keptL r l = flatD (crs r (dt sn)) (pp r (dt sn)) 1 p := by
          rw [hone, ← good_days ho hs hp, hl, show min (bg r (p + 1)) 109938 = (n : Int) by omega]
        by_cases c2 : below ≤ n
        · rw [if_pos c2, hk]
          exact ⟨1, rfl, .inl (by show below ≤ bg r (p + 1); omega)⟩
        · rw [if_neg c2, if_pos (by omega : n < 109938)]
          have hr2 := bg_rise ho (p := p + 1) (by omega) (by omega)
          have hnp : pp r (dt n) = p + 1 := by
            have h5 := (bg_pp ho hn3 (p := p + 1) (by omega)).1 (by omega)
            have h6 : ¬ (p + 1 + 1 ≤ pp r (dt n)) := fun h => by
              have := (bg_pp ho hn3 (p := p + 1 + 1) (by omega)).2 h; omega
            omega
          obtain ⟨k, hk2, hk3⟩ := run_flat ho hs start below f (n + 1) (addAll r (dt sn) start below out (keptL r l)) (if good r (dt sn) n then [(n : Int)] else []) (per r (dt sn) (dt n)) (p + 1) (by omega) (by omega) (by omega) (by rw [hper, hnp]; omega) (by omega) (by omega) (by omega) (by
            have e : max (bg r (p + 1)) 0 = (n : Int) := by omega
            rw [e, show ((n + 1 : Nat) : Int) = (n : Int) + 1 by omega, filter_snoc (Int.le_refl _), fromTo_none (Int.le_refl _)]
            show _ = [] ++ (if decide (good r (dt sn) n) = true then [(n : Int)] else [])
            rw [List.nil_append]
            by_cases hg : good r (dt sn) n <;> simp [hg])
          refine ⟨k + 1, ?_, by rw [show p + ((k + 1 : Nat) : Int) = p + 1 + k by omega]; exact hk3⟩
          rw [hk2, hk, hone, ← addAll_app, flatD_succ, hiv]
      · rw [if_neg (fun h => c1 (hfl.1 h))]
        obtain ⟨k, hk2, hk3⟩ := run_flat ho hs start below f (n + 1) out (if good r (dt sn) n then l ++ [(n : Int)] else l) last p (by omega) (by omega) hp hpl hb (by omega) (by omega) (by
          rw [show ((n + 1 : Nat) : Int) = (n : Int) + 1 by omega, filter_snoc (by omega), ← hl]
          show _ = l ++ (if decide (good r (dt sn) n) = true then [(n : Int)] else [])
          by_cases hg : good r (dt sn) n <;> simp [hg])
        exact ⟨k, hk2, hk3⟩
def cnd (r : R) (s : Dt) (start below x : Int) : Bool := decide (s.n ≤ x) && decide (x < below) && !(decide (0 ≤ r.until_) && decide (r.until_ < stampOf start x))
theorem addAll_sel (r : R) (s : Dt) (start below : Int) (hc : 0 ≤ r.count) : ∀ (l out : List Int), (r.count = 0 ∨ (out.length : Int) ≤ r.count) →
    addAll r s start below out l = out ++ (tk r.count out.length (l.filter (cnd r s start below))).map (stampOf start)
  | [], out, _ => by unfold addAll tk; split <;> simp
  | x :: l, out, h => by
    show addAll r s start below (addOne r s start below out x) l = _
    unfold addOne
    by_cases c : skips r s start below out x
    · rw [if_pos c, addAll_sel r s start below hc l out h]
      by_cases c2 : cnd r s start below x = true
      · rw [List.filter_cons_of_pos c2]
        have c3 : 0 < r.count ∧ (out.length : Int) = r.count := by
          unfold cnd at c2
          simp only [Bool.and_eq_true, decide_eq_true_eq, Bool.not_eq_true', Bool.and_eq_false_iff, decide_eq_false_iff_not] at c2
          unfold skips at c
          omega
        congr 2
        unfold tk
        rw [if_neg (by omega), if_neg (by omega), show (r.count - (out.length : Int)).toNat = 0 by omega]; rfl
      · rw [List.filter_cons_of_neg c2]
    · have c2 : cnd r s start below x = true := by
        unfold cnd; unfold skips at c
        simp only [Bool.and_eq_true, decide_eq_true_eq, Bool.not_eq_true', Bool.and_eq_false_iff, decide_eq_false_iff_not]
        omega
      have c3 : ¬ (0 < r.count ∧ (out.length : Int) = r.count) := fun h => c (.inr (.inr (.inr h)))
      rw [if_neg c, addAll_sel r s start below hc l (out ++ [stampOf start x]) (by simp; omega), List.filter_cons_of_pos c2, List.append_assoc]
      congr 1
      unfold tk
      by_cases c4 : r.count = 0
      · rw [if_pos c4, if_pos c4]; rfl
      · rw [if_neg c4, if_neg c4, show (r.count - (out.length : Int)).toNat = (r.count - ((out ++ [stampOf start x]).length : Int)).toNat + 1 by simp; omega, List.take_succ_cons]; rfl
theorem flatD_mem {r : R} (ho : Okr r) (ps : Int) : ∀ k p, lowP r ≤ p → ∀ x, (x ∈ flatD r ps k p ↔ (0 ≤ x ∧ x ≤ 109937) ∧ p ≤ pp r (dt x.toNat) ∧ pp r (dt x.toNat) < p + k ∧ (pp r (dt x.toNat) - ps) % r.iv = 0 ∧ x ∈ dd r (pp r (dt x.toNat)))
  | 0, p, _, x => by
    constructor
    · intro h; cases h
    · rintro ⟨_, h1, h2, _⟩; omega
  | k + 1, p, hp, x => by
    unfold flatD
    rw [List.mem_append, flatD_mem ho ps k (p + 1) (by omega) x]
    constructor
    · rintro (h | ⟨h0, h1, h2, h3⟩)
      · split at h
        · rename_i c
          have e := dd_pp ho hp h
          have := mem_dd h
          rw [e]; exact ⟨by omega, Int.le_refl _, by omega, c, h⟩
        · cases h
      · exact ⟨h0, by omega, by omega, h3⟩
    · rintro ⟨h0, h1, h2, h3, h4⟩
      by_cases e : pp r (dt x.toNat) = p
      · left; rw [if_pos (by rw [← e]; exact h3), ← e]; exact h4
      · right; exact ⟨h0, by omega, by omega, h3, h4⟩
theorem ris_flatD {r : R} (ho : Okr r) (ps : Int) : ∀ k p, lowP r ≤ p → Ris (flatD r ps k p)
  | 0, _, _ => List.Pairwise.nil
  | k + 1, p, hp => by
    unfold flatD Ris
    rw [List.pairwise_append]
    refine ⟨?_, ris_flatD ho ps k (p + 1) (by omega), fun x hx y hy => ?_⟩
    · split
      · exact ris_dd r p
      · exact List.Pairwise.nil
    · have h1 := (flatD_mem ho ps k (p + 1) (by omega) y).1 hy
      split at hx
      · have h2 := mem_dd hx
        have h3 := (bg_pp ho (n := y.toNat) (by omega) (p := p + 1) (by omega)).2 h1.2.1
        omega
      · cases hx
theorem beg_bg {r : R} (ho : Okr r) {sn : Nat} (hs : sn ≤ 109937) : beg r (dt sn) = max (bg r (pp r (dt sn))) 0 ∧ bg r (pp r (dt sn)) ≤ sn := by
  obtain ⟨hm, hN⟩ := dt_in hs
  have hm2 := may_month hm
  have hdn := dt_n sn
  have hdw := dt_w sn
  have h9 := (bg_pp ho hs (pp_low ho hs)).2 (Int.le_refl _)
  refine ⟨?_, h9⟩
  revert h9
  unfold beg bg pp
  by_cases f1 : r.freq = 1
  · simp only [if_pos f1, hdn]; omega
  · simp only [if_neg f1]
    by_cases f2 : r.freq = 2
    · simp only [if_pos f2, hdn, hdw]; omega
    · simp only [if_neg f2]
      by_cases f3 : r.freq = 3
      · simp only [if_pos f3]
        have q1 : ((dt sn).y * 12 + (dt sn).m - 1) / 12 = (dt sn).y := by omega
        have q2 : ((dt sn).y * 12 + (dt sn).m - 1) % 12 + 1 = (dt sn).m := by omega
        rw [q1, q2]
        obtain ⟨a1, a2, a3, a4⟩ := hm
        unfold bom
        rw [if_pos ⟨a1, a2⟩, hdn, ← hN]
        have hb := num_bd (y := (dt sn).y) (m := (dt sn).m) (d := 1) ⟨a1, a2, by omega, by omega⟩
        unfold numI at hb ⊢
        intro _; omega
      · simp only [if_neg f3]
        obtain ⟨a1, a2, a3, a4⟩ := hm
        unfold bom
        rw [if_pos ⟨a1, a2⟩]
        have hb := num_bd (y := (dt sn).y) (m := 1) (d := 1) ⟨a1, a2, by omega, by have := len_pos (dt sn).y 1 (by omega) (by omega); omega⟩
        intro _; omega
theorem times_row {r : R} (hm : Qr.mayP r) {start below : Int} (h0 : 0 ≤ start) (h1 : start < 158310720) :
    ∃ k : Nat, timesL r start below = (tk r.count 0 ((flatD (crs r (dt (start / 1440).toNat)) (pp r (dt (start / 1440).toNat)) k (pp r (dt (start / 1440).toNat))).filter (cnd r (dt (start / 1440).toNat) start below))).map (stampOf start) ∧
      (below ≤ bg r (pp r (dt (start / 1440).toNat) + k) ∨ 109938 ≤ bg r (pp r (dt (start / 1440).toNat) + k)) := by
  have ho := Okr.of hm
  have hs : (start / 1440).toNat ≤ 109937 := by omega
  have e : timesL r start below = run r (dt (start / 1440).toNat) start below (109939 - (beg r (dt (start / 1440).toNat)).toNat) (beg r (dt (start / 1440).toNat)).toNat [] [] 0 := by
    unfold timesL; rw [if_pos ⟨hm, h0, h1⟩]
  generalize (start / 1440).toNat = sn at *
  obtain ⟨hb1, hb2⟩ := beg_bg ho hs
  have hcount : 0 ≤ r.count := hm.1.2.2.2.2.1
  have hrise := bg_rise ho (pp_low ho hs) (by omega)
  have hlt : (sn : Int) < bg r (pp r (dt sn) + 1) := by
    by_cases c : bg r (pp r (dt sn) + 1) ≤ sn
    · have hl := pp_low ho hs
      have := (bg_pp ho hs (p := pp r (dt sn) + 1) (by omega)).1 c
      omega
    · omega
  have hbz : ((beg r (dt sn)).toNat : Int) = max (bg r (pp r (dt sn))) 0 := by omega
  obtain ⟨k, h2, h3⟩ := run_flat ho hs start below (109939 - (beg r (dt sn)).toNat) (beg r (dt sn)).toNat [] [] 0 (pp r (dt sn)) (by omega) (by omega) (pp_low ho hs) (by omega) (by omega) (by omega) (by omega) (by
    rw [hbz, fromTo_none (Int.le_refl _)]; rfl)
  refine ⟨k, ?_, h3⟩
  rw [e, h2, addAll_sel r (dt sn) start below hcount _ [] (by simp; omega), List.nil_append]
  rfl
end Go.Proofs.YtfjmofefciopmaaGreat.Tm
end
section
namespace Go.Proofs.YtfjmofefciopmaaGreat.Tm
open Go.Proofs.YtfjmofefciopmaaGreat.Cal Qr
def dfr (n minute : Int) : Int := (min (max n 0) 158310720 - minute + 1440 - 1) / 1440
noncomputable def fstP (r : R) (s : Dt) (first : Int) : Int :=
  if 0 < r.count then pp r s else pp r s + (pp r (dt first.toNat) - pp r s) - (pp r (dt first.toNat) - pp r s) % r.iv
noncomputable def daysL (r : R) (s : Dt) (first last : Int) : List Int :=
  if last ≤ first then [] else outer r s.n first last 110000 (fstP r s first) 0
def endS (r : R) (to : Int) : Int := if 0 ≤ r.until_ then min to (r.until_ + 1) else to
noncomputable def withinL (r : R) (start from_ to : Int) : List Int :=
  if Qr.mayP r ∧ 0 ≤ start ∧ start < 158310720 then
    (daysL (crs r (dt (start / 1440).toNat)) (dt (start / 1440).toNat) (dfr (max from_ start) (start % 1440)) (dfr (endS r to) (start % 1440))).map (stampOf start)
  else []
theorem dfr_bd (n minute : Int) (h : 0 ≤ minute ∧ minute < 1440) : 0 ≤ dfr n minute ∧ dfr n minute ≤ 109938 := by unfold dfr; omega
theorem Okr.crs {r : R} (h : Okr r) (s : Dt) : Okr (crs r s) := by
  obtain ⟨h1, h2, _, _, _, h3⟩ := crs_same r s
  exact ⟨by rw [h1]; exact h.f, by rw [h2]; exact h.i, by rw [h3]; exact h.s⟩
theorem lowP_crs (r : R) (s : Dt) : lowP (Tm.crs r s) = lowP r := by unfold lowP; rw [(crs_same r s).1]
theorem fst_low {r : R} (ho : Okr r) {sn fn : Nat} (hs : sn ≤ 109937) (hf : fn ≤ 109937) (hsf : sn ≤ fn) :
    pp r (dt sn) ≤ fstP r (dt sn) fn ∧ lowP r ≤ fstP r (dt sn) fn ∧ fstP r (dt sn) fn ≤ pp r (dt fn) ∧ (fstP r (dt sn) fn - pp r (dt sn)) % r.iv = 0 := by
  have h1 := pp_low ho hs
  have hi := ho.i
  have hmono : pp r (dt sn) ≤ pp r (dt fn) := (bg_pp ho hf h1).1 (by have := (bg_pp ho hs h1).2 (Int.le_refl _); omega)
  unfold fstP
  rw [Int.toNat_natCast]
  split
  · exact ⟨Int.le_refl _, h1, hmono, by simp⟩
  · generalize hk : pp r (dt fn) - pp r (dt sn) = a
    have h2 := Int.emod_nonneg a (show r.iv ≠ 0 by omega)
    have h3 : a % r.iv ≤ a := Int.emod_le (by omega) (by omega)
    have h4 := Int.dvd_sub_self_of_emod_eq (a := a) (b := r.iv) (c := a % r.iv) rfl
    refine ⟨by omega, by omega, by omega, ?_⟩
    rw [show pp r (dt sn) + a - a % r.iv - pp r (dt sn) = a - a % r.iv by omega]
    exact Int.emod_eq_zero_of_dvd h4
where
  Int.emod_le {a b : Int} (h : 0 ≤ a) (hb : 0 < b) : a % b ≤ a := by
    have := Int.emod_add_mul_ediv a b
    have := Int.mul_nonneg (Int.le_of_lt hb) (Int.ediv_nonneg h (Int.le_of_lt hb))
    omega
  Int.dvd_sub_self_of_emod_eq {a b c : Int} (h : a % b = c) : b ∣ a - c := by
    have h2 := Int.emod_add_mul_ediv a b
    exact ⟨a / b, by omega⟩
theorem days_row {r : R} (ho : Okr r) (hc : 0 ≤ r.count) {sn fn : Nat} (hs : sn ≤ 109937) (hf : fn ≤ 109937) (hsf : sn ≤ fn) {last : Int} (hl : fn < last) (_hl2 : last ≤ 109938) :
    daysL r (dt sn) fn last = (tk r.count 0 ((flatP r last 110000 (fstP r (dt sn) fn)).filter fun x => decide ((sn : Int) ≤ x) && decide (x < last))).filter fun x => decide ((fn : Int) ≤ x) := by
  obtain ⟨_, h2, _, _⟩ := fst_low ho hs hf hsf
  unfold daysL
  rw [if_neg (by omega), outer_flat, dt_n, inner_sel _ _ _ _ _ _ (ris_flat ho last _ _ h2) (Int.le_refl _) (by omega)]
theorem tk_sub (c t : Int) (l : List Int) : (tk c t l).Sublist l := by
  unfold tk; split
  · exact List.Sublist.refl _
  · exact List.take_sublist _ _
theorem days_ris {r : R} (ho : Okr r) (hc : 0 ≤ r.count) {sn fn : Nat} (hs : sn ≤ 109937) (hf : fn ≤ 109937) (hsf : sn ≤ fn) {last : Int} (hl2 : last ≤ 109938) :
    Ris (daysL r (dt sn) fn last) ∧ ∀ x ∈ daysL r (dt sn) fn last, (fn : Int) ≤ x ∧ x < last := by
  by_cases c : (fn : Int) < last
  · obtain ⟨_, h2, _, _⟩ := fst_low ho hs hf hsf
    rw [days_row ho hc hs hf hsf c hl2]
    refine ⟨ris_filter _ (ris_sub (tk_sub _ _ _) (ris_filter _ (ris_flat ho last _ _ h2))), fun x h => ?_⟩
    obtain ⟨h3, h4⟩ := List.mem_filter.1 h
    have h5 := (List.mem_filter.1 ((tk_sub _ _ _).mem h3)).2
    simp only [Bool.and_eq_true, decide_eq_true_eq] at h4 h5
    exact ⟨h4, h5.2⟩
  · unfold daysL; rw [if_pos (by omega)]
    exact ⟨List.Pairwise.nil, fun x h => by cases h⟩
theorem days_mem {r : R} (ho : Okr r) (hc : r.count = 0) {sn fn : Nat} (hs : sn ≤ 109937) (hf : fn ≤ 109937) (hsf : sn ≤ fn) {last : Int} (hl2 : last ≤ 109938) (x : Int) (hx : (fn : Int) ≤ x) (hx2 : x < last) :
    x ∈ daysL r (dt sn) fn last ↔ (pp r (dt x.toNat) - pp r (dt sn)) % r.iv = 0 ∧ x ∈ dd r (pp r (dt x.toNat)) := by
  obtain ⟨h1, h2, h3, h4⟩ := fst_low ho hs hf hsf
  have hb := bg_low ho h2
  rw [days_row ho (by omega) hs hf hsf (by omega) hl2]
  unfold tk
  rw [if_pos hc, List.mem_filter, List.mem_filter, flat_mem ho last hl2 _ _ h2 (by omega) x hx2]
  have h5 : pp r (dt fn) ≤ pp r (dt x.toNat) := (bg_pp ho (n := x.toNat) (by omega) (pp_low ho hf)).1 (by have := (bg_pp ho hf (pp_low ho hf)).2 (Int.le_refl _); omega)
  have h6 : (pp r (dt x.toNat) - fstP r (dt sn) fn) % r.iv = 0 ↔ (pp r (dt x.toNat) - pp r (dt sn)) % r.iv = 0 := by
    rw [show pp r (dt x.toNat) - pp r (dt sn) = pp r (dt x.toNat) - fstP r (dt sn) fn + (fstP r (dt sn) fn - pp r (dt sn)) by omega, Int.add_emod, h4, Int.add_zero, Int.emod_emod]
  rw [h6]
  simp only [Bool.and_eq_true, decide_eq_true_eq]
  constructor
  · rintro ⟨⟨⟨_, a, b⟩, _⟩, _⟩; exact ⟨a, b⟩
  · rintro ⟨a, b⟩; exact ⟨⟨⟨by omega, a, b⟩, by omega, hx2⟩, hx⟩
theorem one_mem {l : List Int} {a : Int} (hr : Ris l) (h : ∀ x ∈ l, x = a) : l.length = 1 ↔ a ∈ l := by
  cases l with
  | nil => simp
  | cons x t =>
    cases t with
    | nil => have := h x (by simp); subst this; simp
    | cons y t =>
      have h1 := h x (by simp)
      have h2 := h y (by simp)
      have := (List.pairwise_cons.1 hr).1 y (by simp)
      omega
theorem has_times {r : R} {start at_ : Int} (ha : 0 ≤ at_) (ha2 : at_ < 158310720) (hsa : start ≤ at_) :
    (withinL r start at_ (at_ + 1)).length = 1 ↔ at_ ∈ timesL r start (at_ / 1440 + 1) := by
  by_cases hk : Qr.mayP r ∧ 0 ≤ start ∧ start < 158310720
  · obtain ⟨hm, h0, h1⟩ := hk
    unfold withinL
    rw [if_pos ⟨hm, h0, h1⟩, List.length_map]
    obtain ⟨k, ht, hk⟩ := times_row hm (below := at_ / 1440 + 1) h0 h1
    rw [ht]
    have ho := Okr.of hm
    have hs : (start / 1440).toNat ≤ 109937 := by omega
    have hsz : (((start / 1440).toNat : Nat) : Int) = start / 1440 := by omega
    have hcount : 0 ≤ r.count := hm.1.2.2.2.2.1
    have huc := hm.2.1
    obtain ⟨c1, c2, c3, c4, c5, c6⟩ := crs_same r (dt (start / 1440).toNat)
    have hoc := ho.crs (dt (start / 1440).toNat)
    have hpl : lowP (crs r (dt (start / 1440).toNat)) ≤ pp r (dt (start / 1440).toNat) := by rw [lowP_crs]; exact pp_low ho hs
    -- what the document has at the day
    have hG := fun x => flatD_mem hoc (pp r (dt (start / 1440).toNat)) k (pp r (dt (start / 1440).toNat)) hpl x
    have hGr := ris_flatD hoc (pp r (dt (start / 1440).toNat)) k (pp r (dt (start / 1440).toNat)) hpl
    have hmem : ∀ (q : List Int), at_ ∈ q.map (stampOf start) ↔ at_ % 1440 = start % 1440 ∧ at_ / 1440 ∈ q := by
      intro q
      rw [List.mem_map]
      constructor
      · rintro ⟨x, hx, e⟩
        unfold stampOf at e
        have : x = at_ / 1440 := by omega
        rw [← this]; exact ⟨by omega, hx⟩
      · rintro ⟨e, hx⟩; exact ⟨_, hx, by unfold stampOf; omega⟩
    rw [hmem]
    have hfd : dfr (max at_ start) (start % 1440) = (at_ - start % 1440 + 1439) / 1440 := by unfold dfr; omega
    by_cases e : at_ % 1440 = start % 1440
    · have hfn : dfr (max at_ start) (start % 1440) = ((at_ / 1440).toNat : Nat) := by rw [hfd]; omega
      have hfn2 : (at_ / 1440).toNat ≤ 109937 := by omega
      by_cases hu : 0 ≤ r.until_ ∧ r.until_ < at_
      · -- behind the end
        have hle : dfr (endS r (at_ + 1)) (start % 1440) ≤ dfr (max at_ start) (start % 1440) := by
          rw [hfd]; unfold endS dfr; rw [if_pos hu.1]; omega
        constructor
        · intro h
          unfold daysL at h; rw [if_pos hle] at h; cases h
        · rintro ⟨_, h⟩
          have h2 := (List.mem_filter.1 ((tk_sub _ _ _).mem h)).2
          unfold cnd at h2
          have e3 : stampOf start (at_ / 1440) = at_ := by unfold stampOf; omega
          rw [e3] at h2
          simp [hu.1, hu.2] at h2
      · have hlast : dfr (endS r (at_ + 1)) (start % 1440) = at_ / 1440 + 1 := by
          unfold endS dfr
          split
          · omega
          · omega
        rw [hfn, hlast]
        have hsf : (start / 1440).toNat ≤ (at_ / 1440).toNat := by omega
        have hrs := days_ris hoc (by rw [c3]; exact hcount) hs hfn2 hsf (last := at_ / 1440 + 1) (by omega)
        rw [one_mem (a := at_ / 1440) hrs.1 (fun x h => by have := hrs.2 x h; omega), and_iff_right e]
        have hcnd : ∀ x : Int, 0 < r.count ∨ x = at_ / 1440 → cnd r (dt (start / 1440).toNat) start (at_ / 1440 + 1) x = (decide ((((start / 1440).toNat : Nat) : Int) ≤ x) && decide (x < at_ / 1440 + 1)) := by
          intro x hx
          unfold cnd
          rw [dt_n]
          have : (decide (0 ≤ r.until_) && decide (r.until_ < stampOf start x)) = false := by
            rcases hx with hx | rfl
            · have : ¬ 0 ≤ r.until_ := by omega
              simp [this]
            · have e3 : stampOf start (at_ / 1440) = at_ := by unfold stampOf; omega
              rw [e3]
              by_cases c : 0 ≤ r.until_
              · have : ¬ r.until_ < at_ := fun h => hu ⟨c, h⟩
                simp [this]
              · simp [c]
          rw [this]; simp
        have hwhere : ∀ x : Int, 0 ≤ x → x < at_ / 1440 + 1 → pp r (dt x.toNat) < pp r (dt (start / 1440).toNat) + k := by
          intro x hx hx2
          by_cases c : pp r (dt (start / 1440).toNat) + k ≤ pp r (dt x.toNat)
          · have hl := pp_low ho hs
            have := (bg_pp ho (n := x.toNat) (by omega) (p := pp r (dt (start / 1440).toNat) + k) (by omega)).2 c
            omega
          · omega
        by_cases hz : r.count = 0
        · rw [days_mem hoc (by rw [c3]; exact hz) hs hfn2 hsf (by omega) (at_ / 1440) (by omega) (by omega)]
          unfold tk
          rw [if_pos hz, List.mem_filter, hG, hcnd _ (.inr rfl)]
          simp only [pp_crs]
          have hmono : pp r (dt (start / 1440).toNat) ≤ pp r (dt (at_ / 1440).toNat) := (bg_pp ho (n := (at_ / 1440).toNat) (by omega) (pp_low ho hs)).1 (by have := (bg_pp ho hs (pp_low ho hs)).2 (Int.le_refl _); omega)
          constructor
          · rintro ⟨a, b⟩
            refine ⟨⟨by omega, hmono, hwhere _ (by omega) (by omega), a, b⟩, ?_⟩
            simp only [Bool.and_eq_true, decide_eq_true_eq]; omega
          · rintro ⟨⟨_, _, _, a, b⟩, _⟩; exact ⟨a, b⟩
        · have hpos : 0 < r.count := by omega
          have hF : fstP (crs r (dt (start / 1440).toNat)) (dt (start / 1440).toNat) (((at_ / 1440).toNat : Nat) : Int) = pp r (dt (start / 1440).toNat) := by
            unfold fstP; rw [if_pos (by rw [c3]; exact hpos), pp_crs]
          rw [days_row hoc (by rw [c3]; exact hcount) hs hfn2 hsf (by omega) (by omega), hF, c3, List.mem_filter]
          have hlists : (flatP (crs r (dt (start / 1440).toNat)) (at_ / 1440 + 1) 110000 (pp r (dt (start / 1440).toNat))).filter (fun x => decide ((((start / 1440).toNat : Nat) : Int) ≤ x) && decide (x < at_ / 1440 + 1)) =
              (flatD (crs r (dt (start / 1440).toNat)) (pp r (dt (start / 1440).toNat)) k (pp r (dt (start / 1440).toNat))).filter (cnd r (dt (start / 1440).toNat) start (at_ / 1440 + 1)) := by
            refine ris_ext (ris_filter _ (ris_flat hoc _ _ _ hpl)) (ris_filter _ hGr) fun x => ?_
            rw [List.mem_filter, List.mem_filter, hcnd x (.inl hpos), hG]
            have hb := bg_low hoc hpl
            constructor
            · rintro ⟨a, b⟩
              have b' := b
              simp only [Bool.and_eq_true, decide_eq_true_eq] at b'
              have h7 := (flat_mem hoc (at_ / 1440 + 1) (by omega) 110000 _ hpl (by omega) x b'.2).1 a
              simp only [pp_crs] at h7 ⊢
              exact ⟨⟨by omega, h7.1, hwhere x (by omega) b'.2, h7.2.1, h7.2.2⟩, b⟩
            · rintro ⟨⟨h0, a, _, a2, a3⟩, b⟩
              have b' := b
              simp only [Bool.and_eq_true, decide_eq_true_eq] at b'
              exact ⟨(flat_mem hoc (at_ / 1440 + 1) (by omega) 110000 _ hpl (by omega) x b'.2).2 ⟨a, a2, a3⟩, b⟩
          rw [hlists]
          constructor
          · intro h; exact h.1
          · intro h; exact ⟨h, by simp; omega⟩
    · -- another minute of the day
      constructor
      · intro h
        exfalso
        have hle : dfr (endS r (at_ + 1)) (start % 1440) ≤ dfr (max at_ start) (start % 1440) := by
          rw [hfd]; unfold endS dfr; split <;> omega
        unfold daysL at h; rw [if_pos hle] at h; cases h
      · intro h; exact absurd h.1 e
  · unfold withinL timesL
    rw [if_neg hk, if_neg hk]
    constructor
    · intro h; cases h
    · intro h; cases h
theorem has_ahead {r : R} {start at_ : Int} (h : at_ < start) : withinL r start at_ (at_ + 1) = [] := by
  unfold withinL
  split
  · rename_i hk
    unfold daysL
    rw [if_pos (by unfold endS dfr; split <;> omega)]; rfl
  · rfl
end Go.Proofs.YtfjmofefciopmaaGreat.Tm
end
section
namespace Go.Proofs.YtfjmofefciopmaaGreat.Tm
open Go.Proofs.YtfjmofefciopmaaGreat.Cal Qr
theorem bg_next {r : R} (ho : Okr r) {p : Int} (hp : lowP r ≤ p) (hb : bg r p < 109938) : bg r p < bg r (p + r.iv) ∨ 109938 ≤ bg r (p + r.iv) := by
  have hi := ho.i
  have hrise := bg_rise ho hp hb
  by_cases c2 : bg r (p + r.iv) < 109938
  · left
    have h5 : ∀ k : Nat, bg r (p + k) < 109938 → bg r p ≤ bg r (p + k) ∧ (0 < k → bg r p < bg r (p + k)) := by
      intro k
      induction k with
      | zero => intro _; simp
      | succ k ih =>
        intro hk
        by_cases c3 : bg r (p + k) < 109938
        · have h6 := bg_rise ho (p := p + k) (by omega) c3
          have h7 := ih c3
          rw [show p + ((k + 1 : Nat) : Int) = p + k + 1 by omega] at hk ⊢
          exact ⟨by omega, fun _ => by omega⟩
        · -- a period behind the calendar has none behind it that is in
          exfalso
          have h8 : ∀ n : Nat, n ≤ 109937 → pp r (dt n) < p + k := by
            intro n hn
            by_cases c4 : p + k ≤ pp r (dt n)
            · have := (bg_pp ho hn (p := p + k) (by omega)).2 c4; omega
            · omega
          by_cases c5 : 0 ≤ bg r (p + ((k + 1 : Nat) : Int))
          · have h9 := (bg_pp ho (n := (bg r (p + ((k + 1 : Nat) : Int))).toNat) (by omega) (p := p + ((k + 1 : Nat) : Int)) (by omega)).1 (by omega)
            have := h8 (bg r (p + ((k + 1 : Nat) : Int))).toNat (by omega)
            omega
          · have h9 := (bg_pp ho (n := 0) (by omega) (p := p + ((k + 1 : Nat) : Int)) (by omega)).1 (by omega)
            have := h8 0 (by omega)
            omega
    have := (h5 r.iv.toNat (by rw [show ((r.iv.toNat : Nat) : Int) = r.iv by omega]; exact c2)).2 (by omega)
    rwa [show ((r.iv.toNat : Nat) : Int) = r.iv by omega] at this
  · right; omega
theorem ris_len {l : List Int} : ∀ {a b : Int}, Ris l → (∀ x ∈ l, a ≤ x ∧ x < b) → (l.length : Int) ≤ max (b - a) 0 := by
  induction l with
  | nil => intro a b _ _; simp; omega
  | cons x t ih =>
    intro a b hr h
    have h1 := List.pairwise_cons.1 hr
    have h2 := h x (by simp)
    have h3 := ih (a := x + 1) (b := b) h1.2 (fun y hy => ⟨by have := h1.1 y hy; omega, (h y (by simp [hy])).2⟩)
    rw [List.length_cons]
    omega
end Go.Proofs.YtfjmofefciopmaaGreat.Tm
end
section
namespace Go.Proofs.YtfjmofefciopmaaGreat.Tm
open Go.Proofs.YtfjmofefciopmaaGreat.Cal Qr
theorem within_ris (r : R) (start from_ to : Int) : Ris (withinL r start from_ to) ∧ (withinL r start from_ to).length ≤ 109938 := by
  unfold withinL
  split
  · rename_i h
    obtain ⟨hm, h0, h1⟩ := h
    have ho := (Okr.of hm).crs (dt (start / 1440).toNat)
    have hc : 0 ≤ (crs r (dt (start / 1440).toNat)).count := by rw [(crs_same r _).2.2.1]; exact hm.1.2.2.2.2.1
    have hfd := dfr_bd (max from_ start) (start % 1440) (by omega)
    have hld := dfr_bd (endS r to) (start % 1440) (by omega)
    obtain ⟨fn, hfn⟩ : ∃ fn : Nat, dfr (max from_ start) (start % 1440) = fn := ⟨(dfr (max from_ start) (start % 1440)).toNat, by omega⟩
    have hsn : (start / 1440).toNat ≤ fn := by
      have : start / 1440 ≤ dfr (max from_ start) (start % 1440) := by unfold dfr; omega
      omega
    rw [hfn]
    by_cases hf : fn ≤ 109937
    · have h2 := days_ris ho hc (sn := (start / 1440).toNat) (by omega) hf hsn (last := dfr (endS r to) (start % 1440)) hld.2
      refine ⟨?_, ?_⟩
      · unfold Ris; rw [List.pairwise_map]
        exact h2.1.imp fun h => by unfold stampOf; omega
      · rw [List.length_map]
        have := ris_len h2.1 h2.2
        omega
    · unfold daysL; rw [if_pos (by omega)]
      exact ⟨List.Pairwise.nil, by simp⟩
  · exact ⟨List.Pairwise.nil, by simp⟩
theorem dd_in {r : R} (ho : Okr r) (hb : r.bs = []) {n : Nat} (hn : n ≤ 109937) : (n : Int) ∈ dd r (pp r (dt n)) ↔ asB r (dt n) = true := by
  have hl := pp_low ho hn
  have h1 := (bg_pp ho hn hl).2 (Int.le_refl _)
  have h2 : (n : Int) < bg r (pp r (dt n) + 1) := by
    by_cases c : bg r (pp r (dt n) + 1) ≤ n
    · have := (bg_pp ho hn (p := pp r (dt n) + 1) (by omega)).1 c; omega
    · omega
  unfold dd keptL
  rw [if_pos hb]
  unfold pdays
  rw [List.mem_filter, mem_fromTo, Int.toNat_natCast]
  constructor
  · exact fun h => h.2
  · exact fun h => ⟨by omega, h⟩
end Go.Proofs.YtfjmofefciopmaaGreat.Tm
end
section
namespace Go.Proofs.YtfjmofefciopmaaGreat.Tm
open Go.Proofs.YtfjmofefciopmaaGreat.Cal Qr
theorem ris_take_filter (b : Int) : ∀ (l : List Int) (n : Nat), Ris l → (l.take n).filter (fun x => decide (x < b)) = (l.filter fun x => decide (x < b)).take n
  | [], n, _ => by simp
  | x :: l, 0, _ => by simp
  | x :: l, n + 1, h => by
    obtain ⟨h1, h2⟩ := List.pairwise_cons.1 h
    by_cases c : x < b
    · rw [List.take_succ_cons, List.filter_cons_of_pos (by simpa using c), List.filter_cons_of_pos (by simpa using c), List.take_succ_cons, ris_take_filter b l n h2]
    · have hn : ∀ m : Nat, (l.take m).filter (fun x => decide (x < b)) = [] := fun m => List.filter_eq_nil_iff.2 fun y hy => by
        have := h1 y (List.mem_of_mem_take hy); simp; omega
      have hn2 : l.filter (fun x => decide (x < b)) = [] := List.filter_eq_nil_iff.2 fun y hy => by have := h1 y hy; simp; omega
      rw [List.take_succ_cons, List.filter_cons_of_neg (by simpa using c), List.filter_cons_of_neg (by simpa using c), hn, hn2, List.take_nil]
theorem tk_filter (b c t : Int) {l : List Int} (h : Ris l) : (tk c t l).filter (fun x => decide (x < b)) = tk c t (l.filter fun x => decide (x < b)) := by
  unfold tk
  split
  · rfl
  · exact ris_take_filter b l _ h
theorem tk_mem {c t b x : Int} {l m : List Int} (hl : Ris l) (hm : Ris m) (hx : x < b) (h : ∀ y, y < b → (y ∈ l ↔ y ∈ m)) : x ∈ tk c t l ↔ x ∈ tk c t m := by
  have e : l.filter (fun x => decide (x < b)) = m.filter fun x => decide (x < b) := ris_ext (ris_filter _ hl) (ris_filter _ hm) fun y => by
    rw [List.mem_filter, List.mem_filter]
    constructor
    · rintro ⟨a, q⟩; exact ⟨(h y (of_decide_eq_true q)).1 a, q⟩
    · rintro ⟨a, q⟩; exact ⟨(h y (of_decide_eq_true q)).2 a, q⟩
  have f : ∀ q : List Int, x ∈ q ↔ x ∈ q.filter fun x => decide (x < b) := fun q => by rw [List.mem_filter]; simp [hx]
  rw [f (tk c t l), f (tk c t m), tk_filter b c t hl, tk_filter b c t hm, e]
theorem stamp_mem {start at_ : Int} (h0 : 0 ≤ start) (q : List Int) : at_ ∈ q.map (stampOf start) ↔ at_ % 1440 = start % 1440 ∧ at_ / 1440 ∈ q := by
  rw [List.mem_map]
  constructor
  · rintro ⟨x, hx, e⟩
    unfold stampOf at e
    have : x = at_ / 1440 := by omega
    rw [← this]; exact ⟨by omega, hx⟩
  · rintro ⟨e, hx⟩; exact ⟨_, hx, by unfold stampOf; omega⟩
theorem times_more {r : R} {start at_ D : Int} (ha : 0 ≤ at_) (ha2 : at_ < 158310720) (hsa : start ≤ at_) (hD : at_ / 1440 + 1 ≤ D) :
    at_ ∈ timesL r start D ↔ at_ ∈ timesL r start (at_ / 1440 + 1) := by
  by_cases hk : Qr.mayP r ∧ 0 ≤ start ∧ start < 158310720
  · obtain ⟨hm, h0, h1⟩ := hk
    obtain ⟨k, ht, hk⟩ := times_row hm (below := at_ / 1440 + 1) h0 h1
    obtain ⟨k2, ht2, hk2⟩ := times_row hm (below := D) h0 h1
    rw [ht, ht2, stamp_mem h0, stamp_mem h0]
    have ho := Okr.of hm
    have hs : (start / 1440).toNat ≤ 109937 := by omega
    have hoc := ho.crs (dt (start / 1440).toNat)
    have hpl : lowP (crs r (dt (start / 1440).toNat)) ≤ pp r (dt (start / 1440).toNat) := by rw [lowP_crs]; exact pp_low ho hs
    refine and_congr_right fun _ => ?_
    refine tk_mem (b := at_ / 1440 + 1) (ris_filter _ (ris_flatD hoc _ _ _ hpl)) (ris_filter _ (ris_flatD hoc _ _ _ hpl)) (by omega) fun y hy => ?_
    have hwhere : ∀ (k : Nat) (B : Int), (B ≤ bg r (pp r (dt (start / 1440).toNat) + k) ∨ 109938 ≤ bg r (pp r (dt (start / 1440).toNat) + k)) → ∀ x : Int, 0 ≤ x → x ≤ 109937 → x < B → pp r (dt x.toNat) < pp r (dt (start / 1440).toNat) + k := by
      intro k B hk x hx hx3 hx2
      by_cases c : pp r (dt (start / 1440).toNat) + k ≤ pp r (dt x.toNat)
      · have hl := pp_low ho hs
        have := (bg_pp ho (n := x.toNat) (by omega) (p := pp r (dt (start / 1440).toNat) + k) (by omega)).2 c
        omega
      · omega
    rw [List.mem_filter, List.mem_filter, flatD_mem hoc _ _ _ hpl, flatD_mem hoc _ _ _ hpl]
    have hcnd : cnd r (dt (start / 1440).toNat) start D y = cnd r (dt (start / 1440).toNat) start (at_ / 1440 + 1) y := by
      unfold cnd
      rw [show decide (y < D) = true from decide_eq_true (by omega), show decide (y < at_ / 1440 + 1) = true from decide_eq_true (by omega)]
    rw [hcnd]
    simp only [pp_crs]
    constructor
    · rintro ⟨⟨a, b, c, d⟩, q⟩; exact ⟨⟨a, b, hwhere k _ hk y a.1 a.2 (by omega), d⟩, q⟩
    · rintro ⟨⟨a, b, c, d⟩, q⟩; exact ⟨⟨a, b, hwhere k2 _ hk2 y a.1 a.2 (by omega), d⟩, q⟩
  · unfold timesL; rw [if_neg hk, if_neg hk]
theorem within_one {r : R} {start from_ to at_ : Int} (ha : 0 ≤ at_) (ha2 : at_ < 158310720) (hsa : start ≤ at_) (hf : from_ ≤ at_) (ht : at_ < to) :
    at_ ∈ withinL r start from_ to ↔ at_ ∈ withinL r start at_ (at_ + 1) := by
  unfold withinL
  by_cases hk : Qr.mayP r ∧ 0 ≤ start ∧ start < 158310720
  · rw [if_pos hk, if_pos hk]
    obtain ⟨hm, h0, h1⟩ := hk
    rw [stamp_mem h0, stamp_mem h0]
    refine and_congr_right fun e => ?_
    have ho := Okr.of hm
    have hs : (start / 1440).toNat ≤ 109937 := by omega
    have hcount : 0 ≤ r.count := hm.1.2.2.2.2.1
    obtain ⟨c1, c2, c3, c4, c5, c6⟩ := crs_same r (dt (start / 1440).toNat)
    have hoc := ho.crs (dt (start / 1440).toNat)
    have hpl : lowP (crs r (dt (start / 1440).toNat)) ≤ pp r (dt (start / 1440).toNat) := by rw [lowP_crs]; exact pp_low ho hs
    -- bounds of the two
    have hA : ∃ fn : Nat, dfr (max from_ start) (start % 1440) = fn ∧ (start / 1440).toNat ≤ fn ∧ fn ≤ at_ / 1440 := ⟨(dfr (max from_ start) (start % 1440)).toNat, by unfold dfr; omega, by unfold dfr; omega, by unfold dfr; omega⟩
    have hB : ∃ fn : Nat, dfr (max at_ start) (start % 1440) = fn ∧ (start / 1440).toNat ≤ fn ∧ fn ≤ at_ / 1440 := ⟨(dfr (max at_ start) (start % 1440)).toNat, by unfold dfr; omega, by unfold dfr; omega, by unfold dfr; omega⟩
    obtain ⟨f1, e1, s1, u1⟩ := hA
    obtain ⟨f2, e2, s2, u2⟩ := hB
    have hl1 := (dfr_bd (endS r to) (start % 1440) (by omega)).2
    have hl2 := (dfr_bd (endS r (at_ + 1)) (start % 1440) (by omega)).2
    have hl : at_ / 1440 < dfr (endS r to) (start % 1440) ↔ at_ / 1440 < dfr (endS r (at_ + 1)) (start % 1440) := by
      unfold endS dfr; split <;> omega
    rw [e1, e2]
    generalize dfr (endS r to) (start % 1440) = L1 at *
    generalize dfr (endS r (at_ + 1)) (start % 1440) = L2 at *
    by_cases hz : at_ / 1440 < L1
    · have hz2 := hl.1 hz
      by_cases hc : r.count = 0
      · rw [days_mem hoc (by rw [c3]; exact hc) hs (by omega) s1 hl1 _ u1 hz, days_mem hoc (by rw [c3]; exact hc) hs (by omega) s2 hl2 _ u2 hz2]
      · have hF : ∀ fn : Nat, fstP (crs r (dt (start / 1440).toNat)) (dt (start / 1440).toNat) (fn : Int) = pp r (dt (start / 1440).toNat) := fun fn => by
          unfold fstP; rw [if_pos (by rw [c3]; omega), pp_crs]
        rw [days_row hoc (by rw [c3]; exact hcount) hs (by omega) s1 (by omega) hl1, days_row hoc (by rw [c3]; exact hcount) hs (by omega) s2 (by omega) hl2, hF, hF, List.mem_filter, List.mem_filter]
        have e3 : decide ((f1 : Int) ≤ at_ / 1440) = true := decide_eq_true u1
        have e4 : decide ((f2 : Int) ≤ at_ / 1440) = true := decide_eq_true u2
        rw [e3, e4]
        refine and_congr_left fun _ => ?_
        refine tk_mem (b := at_ / 1440 + 1) (ris_filter _ (ris_flat hoc _ _ _ hpl)) (ris_filter _ (ris_flat hoc _ _ _ hpl)) (by omega) fun y hy => ?_
        have hb := bg_low hoc hpl
        rw [List.mem_filter, List.mem_filter, flat_mem hoc L1 hl1 _ _ hpl (by omega) y (by omega), flat_mem hoc L2 hl2 _ _ hpl (by omega) y (by omega)]
        rw [show decide (y < L1) = true from decide_eq_true (by omega), show decide (y < L2) = true from decide_eq_true (by omega)]
    · have hz2 : ¬ at_ / 1440 < L2 := fun h => hz (hl.2 h)
      have h1 : ¬ at_ / 1440 ∈ daysL (crs r (dt (start / 1440).toNat)) (dt (start / 1440).toNat) f1 L1 := fun h => hz ((days_ris hoc (by rw [c3]; exact hcount) hs (by omega) s1 hl1).2 _ h).2
      have h2 : ¬ at_ / 1440 ∈ daysL (crs r (dt (start / 1440).toNat)) (dt (start / 1440).toNat) f2 L2 := fun h => hz2 ((days_ris hoc (by rw [c3]; exact hcount) hs (by omega) s2 hl2).2 _ h).2
      exact ⟨fun h => absurd h h1, fun h => absurd h h2⟩
  · rw [if_neg hk, if_neg hk]
theorem within_bd {r : R} {start from_ to x : Int} (h : x ∈ withinL r start from_ to) : 0 ≤ start ∧ start ≤ x ∧ from_ ≤ x ∧ 0 ≤ x ∧ x < 158310720 ∧ x < to := by
  unfold withinL at h
  split at h
  · rename_i hk
    obtain ⟨hm, h0, h1⟩ := hk
    have ho := Okr.of hm
    have hs : (start / 1440).toNat ≤ 109937 := by omega
    have hcount : 0 ≤ r.count := hm.1.2.2.2.2.1
    obtain ⟨c1, c2, c3, c4, c5, c6⟩ := crs_same r (dt (start / 1440).toNat)
    have hoc := ho.crs (dt (start / 1440).toNat)
    obtain ⟨e, hx⟩ := (stamp_mem h0 _).1 h
    have hl2 := (dfr_bd (endS r to) (start % 1440) (by omega)).2
    have hfb := dfr_bd (max from_ start) (start % 1440) (by omega)
    by_cases hle : dfr (endS r to) (start % 1440) ≤ dfr (max from_ start) (start % 1440)
    · unfold daysL at hx; rw [if_pos hle] at hx; cases hx
    · have hA : dfr (max from_ start) (start % 1440) = ((dfr (max from_ start) (start % 1440)).toNat : Nat) := by omega
      have hsf : (start / 1440).toNat ≤ (dfr (max from_ start) (start % 1440)).toNat := by unfold dfr; omega
      rw [hA] at hx
      have h3 := (days_ris hoc (by rw [c3]; exact hcount) hs (by omega) hsf hl2).2 _ hx
      rw [← hA] at h3
      have h4 : dfr (endS r to) (start % 1440) ≤ dfr to (start % 1440) := by unfold endS dfr; split <;> omega
      refine ⟨h0, ?_⟩
      unfold dfr at h3 h4 hfb hl2
      omega
  · cases h
theorem within_times {r : R} {start from_ to at_ D : Int} (ha : 0 ≤ at_) (ha2 : at_ < 158310720) (hsa : start ≤ at_) (hf : from_ ≤ at_) (ht : at_ < to) (hD : at_ / 1440 + 1 ≤ D) :
    at_ ∈ withinL r start from_ to ↔ at_ ∈ timesL r start D := by
  rw [within_one ha ha2 hsa hf ht, times_more ha ha2 hsa hD, ← has_times ha ha2 hsa]
  refine (one_mem (within_ris r start at_ (at_ + 1)).1 fun x h => ?_).symm
  have := within_bd h; omega
theorem times_bd {r : R} {start D x : Int} (h : x ∈ timesL r start D) : 0 ≤ start ∧ start ≤ x ∧ x < 158310720 ∧ x / 1440 < D := by
  by_cases hk : Qr.mayP r ∧ 0 ≤ start ∧ start < 158310720
  · obtain ⟨hm, h0, h1⟩ := hk
    obtain ⟨k, ht, hk⟩ := times_row hm (below := D) h0 h1
    rw [ht, stamp_mem h0] at h
    have ho := Okr.of hm
    have hs : (start / 1440).toNat ≤ 109937 := by omega
    have hoc := ho.crs (dt (start / 1440).toNat)
    have hpl : lowP (crs r (dt (start / 1440).toNat)) ≤ pp r (dt (start / 1440).toNat) := by rw [lowP_crs]; exact pp_low ho hs
    have h2 := List.mem_filter.1 ((tk_sub _ _ _).mem h.2)
    have h3 := ((flatD_mem hoc _ _ _ hpl _).1 h2.1).1
    have h4 := h2.2
    unfold cnd at h4
    rw [dt_n] at h4
    simp only [Bool.and_eq_true, decide_eq_true_eq] at h4
    omega
  · unfold timesL at h; rw [if_neg hk] at h; cases h
theorem times_ris (r : R) (start D : Int) : Ris (timesL r start D) := by
  by_cases hk : Qr.mayP r ∧ 0 ≤ start ∧ start < 158310720
  · obtain ⟨hm, h0, h1⟩ := hk
    obtain ⟨k, ht, hk⟩ := times_row hm (below := D) h0 h1
    rw [ht]
    have ho := Okr.of hm
    have hs : (start / 1440).toNat ≤ 109937 := by omega
    have hoc := ho.crs (dt (start / 1440).toNat)
    have hpl : lowP (crs r (dt (start / 1440).toNat)) ≤ pp r (dt (start / 1440).toNat) := by rw [lowP_crs]; exact pp_low ho hs
    refine List.pairwise_map.2 ((ris_sub (tk_sub _ _ _) (ris_filter _ (ris_flatD hoc _ _ _ hpl))).imp ?_)
    intro a b h; unfold stampOf; omega
  · unfold timesL; rw [if_neg hk]; exact List.Pairwise.nil
theorem ris_nodup {l : List Int} (h : Ris l) : l.Nodup := h.imp fun h => by omega
end Go.Proofs.YtfjmofefciopmaaGreat.Tm
end
section
namespace Go.Proofs.YtfjmofefciopmaaGreat.Tm
open Go.Lib
theorem compact_mem {l : List Int} (h : l.Pairwise (· ≤ ·)) : ∀ m, m ≤ l.length → Ris (compactUpTo l.toArray m) ∧ ∀ x, x ∈ compactUpTo l.toArray m ↔ ∃ j, j < m ∧ l[j]? = some x
  | 0, _ => ⟨List.Pairwise.nil, fun x => ⟨fun q => absurd q (by simp [compactUpTo]), fun ⟨j, hj, _⟩ => absurd hj (Nat.not_lt_zero _)⟩⟩
  | m + 1, hm => by
    obtain ⟨h1, h2⟩ := compact_mem h m (by omega)
    have hpw := List.pairwise_iff_getElem.1 h
    have hget : ∀ j (hj : j < l.length), l.toArray[j]! = l[j] := fun j hj => by simp [hj]
    rw [compactUpTo_succ]
    by_cases hk : keeps l.toArray m = true
    · rw [if_pos hk, hget m (by omega)]
      have hk2 := of_decide_eq_true hk
      constructor
      · refine List.pairwise_append.2 ⟨h1, List.pairwise_singleton _ _, fun a ha b hb => ?_⟩
        rw [List.mem_singleton] at hb
        subst hb
        obtain ⟨j, hj, e⟩ := (h2 a).1 ha
        rcases hk2 with rfl | hk2
        · exact absurd hj (Nat.not_lt_zero _)
        · rw [hget m (by omega), hget (m - 1) (by omega)] at hk2
          rw [List.getElem?_eq_getElem (by omega)] at e
          obtain rfl := Option.some.inj e
          have a1 := hpw (m - 1) m (by omega) (by omega) (by omega)
          by_cases q : j = m - 1
          · subst q; omega
          · have := hpw j (m - 1) (by omega) (by omega) (by omega); omega
      · intro x
        rw [List.mem_append, h2, List.mem_singleton]
        constructor
        · rintro (⟨j, hj, e⟩ | rfl)
          · exact ⟨j, by omega, e⟩
          · exact ⟨m, by omega, List.getElem?_eq_getElem (by omega)⟩
        · rintro ⟨j, hj, e⟩
          by_cases q : j = m
          · subst q
            rw [List.getElem?_eq_getElem (by omega)] at e
            exact .inr (Option.some.inj e).symm
          · exact .inl ⟨j, by omega, e⟩
    · rw [if_neg hk, List.append_nil]
      have hk2 : ¬ (m = 0 ∨ l.toArray[m]! ≠ l.toArray[m - 1]!) := fun q => hk (decide_eq_true q)
      have h0 : 0 < m := Nat.pos_of_ne_zero fun q => hk2 (.inl q)
      have he : l[m]'(by omega) = l[m - 1]'(by omega) := by
        have : ¬ (l.toArray[m]! ≠ l.toArray[m - 1]!) := fun q => hk2 (.inr q)
        rw [hget m (by omega), hget (m - 1) (by omega)] at this
        exact Decidable.not_not.1 this
      refine ⟨h1, fun x => ?_⟩
      rw [h2]
      constructor
      · rintro ⟨j, hj, e⟩; exact ⟨j, by omega, e⟩
      · rintro ⟨j, hj, e⟩
        by_cases q : j = m
        · subst q
          refine ⟨j - 1, by omega, ?_⟩
          rw [List.getElem?_eq_getElem (by omega)] at e ⊢
          rw [← he]; exact e
        · exact ⟨j, by omega, e⟩
theorem compact_len (l : List Int) (m : Nat) : (compactUpTo l.toArray m).length ≤ m := by
  unfold compactUpTo
  rw [List.length_map]
  exact Nat.le_trans (List.length_filter_le _ _) (by simp)
def srtI (l : List Int) : List Int := l.mergeSort fun x y => decide (x ≤ y)
theorem srtI_perm (l : List Int) : (srtI l).Perm l := List.mergeSort_perm l _
theorem srtI_len (l : List Int) : (srtI l).length = l.length := (srtI_perm l).length_eq
theorem srtI_ord (l : List Int) : (srtI l).Pairwise (· ≤ ·) := by
  have h := List.pairwise_mergeSort (le := fun x y : Int => decide (x ≤ y)) (fun a b c h1 h2 => by simp at h1 h2 ⊢; omega) (fun a b => by simp; omega) l
  exact h.imp fun q => of_decide_eq_true q
def cmpI (l : List Int) : List Int := compactUpTo (srtI l).toArray (srtI l).toArray.size
theorem cmpI_ris (l : List Int) : Ris (cmpI l) := (compact_mem (srtI_ord l) _ (by simp)).1
theorem cmpI_mem (l : List Int) (x : Int) : x ∈ cmpI l ↔ x ∈ l := by
  rw [show cmpI l = compactUpTo (srtI l).toArray (srtI l).length by unfold cmpI; simp, (compact_mem (srtI_ord l) _ (Nat.le_refl _)).2 x, ← (srtI_perm l).mem_iff, List.mem_iff_getElem?]
  constructor
  · rintro ⟨j, _, e⟩; exact ⟨j, e⟩
  · rintro ⟨j, e⟩; exact ⟨j, (List.getElem?_eq_some_iff.1 e).1, e⟩
theorem cmpI_len (l : List Int) : (cmpI l).length ≤ l.length := by
  rw [show cmpI l = compactUpTo (srtI l).toArray (srtI l).length by unfold cmpI; simp]
  exact Nat.le_trans (compact_len _ _) (Nat.le_of_eq (srtI_len l))
end Go.Proofs.YtfjmofefciopmaaGreat.Tm
end
