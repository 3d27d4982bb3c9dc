import Derived.Test.YtfjmofefciopmaaGreatZEW7
import Derived.Test.YtfjmofefciopmaaGreatZMA
import Derived.Test.YtfjmofefciopmaaGreatZMN
/- The members of an event in one row, put in order: the document's are these; parts of a window; a time that is dropped. -/
section
namespace Go.Proofs.YtfjmofefciopmaaGreat
open Go.ChangeShapes Go.WideShapes Go.ChangeAt Go.RowKit Go.Joins Sp Ev Qr
/-- The span of a time that is so long, if there is one. -/
noncomputable def mbO (z : Zn.Z) (world : Bool) (s g : Int) : Option Spn :=
  if g = 0 then none else if world = true then some (s, s + g) else match utcO z s with
    | none => none
    | some u => some (u, u + g)
def meetB (m x : Spn) : Bool := decide (m.1 < x.2) && decide (x.1 < m.2)
noncomputable def selO (z : Zn.Z) (world : Bool) (x : Spn) (s g : Int) : Option Spn := match mbO z world s g with
  | none => none
  | some m => if meetB m x = true then some m else none
theorem meet_iff {m x : Spn} : meetB m x = true ↔ m.1 < x.2 ∧ x.1 < m.2 := by unfold meetB; rw [Bool.and_eq_true, decide_eq_true_eq, decide_eq_true_eq]
theorem sel_mb {z : Zn.Z} {world : Bool} {x : Spn} {s g : Int} {m : Spn} : selO z world x s g = some m ↔ mbO z world s g = some m ∧ meetB m x = true := by
  unfold selO
  cases mbO z world s g with
  | none => simp
  | some k =>
    by_cases h : meetB k x = true
    · simp only [h, if_true, Option.some.injEq]
      constructor
      · rintro rfl; exact ⟨rfl, h⟩
      · rintro ⟨a, _⟩; exact a
    · simp only [h, Option.some.injEq]
      constructor
      · intro q; cases q
      · rintro ⟨rfl, q⟩; exact absurd q h
noncomputable def fC (z : Zn.Z) (e : Evt) (x : Spn) (c : Int × Int × Int) : Option Spn := if atB e c.1 = true then selO z e.world x c.2.1 c.2.2 else none
/-- The stamps between which all is looked for. -/
def inT (n : Int) : Int := min (max n 0) 158310720
def nearA (long : Int) (x : Spn) : Int := inT (inT x.1 - long - 900)
def nearB (x : Spn) : Int := inT (inT x.2 + 900)
noncomputable def wL (e : Evt) (x : Spn) : List Int := Tm.withinL e.rule e.start (nearA e.long x) (nearB x)
/-- The times that aren't changed and that may meet a window, each once. -/
structure IsT (e : Evt) (x : Spn) (T : List Int) : Prop where
  nd : T.Nodup
  mem : ∀ a, a ∈ T ↔ (e.again = false ∧ a = e.start) ∨ (e.again = true ∧ (a ∈ wL e x ∨ a ∈ e.plus) ∧ ¬ (a ∈ e.ex) ∧ changedB e.ch a = false)
noncomputable def T0 (e : Evt) (x : Spn) : List Int :=
  if e.again = true then (wL e x ++ e.plus.filter fun p => !Tm.memB (wL e x) p).filter fun a => !(Tm.memB e.ex a || changedB e.ch a) else [e.start]
noncomputable def rowV (z : Zn.Z) (e : Evt) (x : Spn) (T : List Int) : List Spn := T.filterMap (fun a => selO z e.world x a e.long) ++ e.ch.filterMap (fC z e x)
def winP (x : Spn) : Prop := x.1 < x.2 ∧ x.2 - x.1 ≤ 528480
instance (x : Spn) : Decidable (winP x) := by unfold winP; infer_instance
open Classical in
/-- The members that meet a window, the program's. -/
noncomputable def membersV (z : Zn.Z) (e : Evt) (x : Spn) : List Spn := if mayE e ∧ Zn.mayP z ∧ winP x then srt (rowV z e x (T0 e x)) else []
theorem mem_no {l : List Int} {a : Int} : Tm.memB l a = false ↔ ¬ a ∈ l := by
  rw [← Tm.memB_iff]; simp
theorem rowP_ris {l : List Int} (h : rowP l) : Tm.Ris l := by
  have hadj : ∀ i (hi : i + 1 < l.length), l[i] < l[i + 1] := fun i hi => by
    have := (h.1 (i + 1) hi).2.2 (by omega)
    simp only [Nat.add_sub_cancel, List.getD_eq_getElem?_getD, List.getElem?_eq_getElem hi, List.getElem?_eq_getElem (show i < l.length by omega), Option.getD_some] at this
    exact this
  refine List.pairwise_iff_getElem.2 fun i j hi hj hij => ?_
  obtain ⟨d, rfl⟩ : ∃ d, j = i + 1 + d := ⟨j - i - 1, by omega⟩
  induction d with
  | zero => exact hadj i hj
  | succ d ih =>
    have h1 := ih (by omega) (by omega)
    have h2 := hadj (i + 1 + d) (by omega)
    show l[i] < l[i + 1 + d + 1]
    omega
theorem rowP_bd {l : List Int} (h : rowP l) {a : Int} (ha : a ∈ l) : 0 ≤ a ∧ a < 158310720 := by
  obtain ⟨i, hi, rfl⟩ := List.mem_iff_getElem.1 ha
  have := h.1 i hi
  unfold okR at this
  simp only [List.getD_eq_getElem?_getD, List.getElem?_eq_getElem hi, Option.getD_some] at this
  exact ⟨this.1, this.2.1⟩
theorem T0_is {e : Evt} (hm : mayE e) (x : Spn) : IsT e x (T0 e x) := by
  unfold T0
  by_cases ha : e.again = true
  · obtain ⟨_, _, _, _, h5⟩ := hm
    obtain ⟨_, _, _, hp, _⟩ := h5 ha
    have hpl : rowP e.plus := of_decide_eq_true hp
    rw [if_pos ha]
    constructor
    · refine List.Pairwise.sublist (List.filter_sublist ..) ?_
      refine List.nodup_append.2 ⟨Tm.ris_nodup (Tm.within_ris _ _ _ _).1, List.Pairwise.sublist (List.filter_sublist ..) (Tm.ris_nodup (rowP_ris hpl)), fun a h1 b h2 q => ?_⟩
      subst q
      have := (List.mem_filter.1 h2).2
      rw [Tm.memB_iff.2 h1] at this
      cases this
    · intro a
      have hb1 : (!(Tm.memB e.ex a || changedB e.ch a)) = true ↔ ¬ a ∈ e.ex ∧ changedB e.ch a = false := by
        rw [← mem_no]; cases Tm.memB e.ex a <;> cases changedB e.ch a <;> simp
      have hb2 : (!Tm.memB (wL e x) a) = true ↔ ¬ a ∈ wL e x := by
        rw [← mem_no]; cases Tm.memB (wL e x) a <;> simp
      rw [List.mem_filter, List.mem_append, List.mem_filter, hb1, hb2]
      constructor
      · rintro ⟨h | h, q⟩
        · exact .inr ⟨ha, .inl h, q⟩
        · exact .inr ⟨ha, .inr h.1, q⟩
      · rintro (⟨h, _⟩ | ⟨_, h | h, q⟩)
        · rw [ha] at h; cases h
        · exact ⟨.inl h, q⟩
        · by_cases c : a ∈ wL e x
          · exact ⟨.inl c, q⟩
          · exact ⟨.inr ⟨h, c⟩, q⟩
  · have ha2 : e.again = false := by simpa using ha
    rw [if_neg ha]
    exact ⟨List.pairwise_singleton _ _, fun a => by simp [ha2]⟩
theorem isT_perm {e : Evt} {x : Spn} {T U : List Int} (h : IsT e x T) (k : IsT e x U) : T.Perm U :=
  (List.perm_ext_iff_of_nodup h.nd k.nd).2 fun a => by rw [h.mem, k.mem]
theorem rowV_perm {z : Zn.Z} {e : Evt} {x : Spn} {T U : List Int} (h : T.Perm U) : (rowV z e x T).Perm (rowV z e x U) := List.Perm.append_right _ (h.filterMap _)
theorem srt_T {z : Zn.Z} {e : Evt} {x : Spn} {T : List Int} (hm : mayE e) (h : IsT e x T) : srt (rowV z e x T) = srt (rowV z e x (T0 e x)) := srt_of_perm (rowV_perm (isT_perm h (T0_is hm x)))
end Go.Proofs.YtfjmofefciopmaaGreat
end
/- Members in numbers: the chapter's example; an event that comes once; a time that is dropped. No text of the program is read here. -/
section
namespace Go.Proofs.YtfjmofefciopmaaGreat
open Go.ChangeShapes Go.WideShapes Go.ChangeAt Go.RowKit Go.Joins Sp Ev Qr
/-! The chapter's example. -/
def dR : R := ⟨1, 1, 0, -1, [], [], [], [], 0⟩
theorem dR_may : Qr.mayP dR := by decide
theorem dR_within (a : Int) : a ∈ Tm.withinL dR 600 0 5220 ↔ a = 600 ∨ a = 2040 ∨ a = 3480 ∨ a = 4920 := by
  have ho := Tm.Okr.of dR_may
  have h5 : Tm.withinL dR 600 0 5220 = [600, 2040, 3480, 4920] := by
    unfold Tm.withinL
    rw [if_pos ⟨dR_may, by omega, by omega⟩]
    have e1 : (600 / 1440 : Int).toNat = 0 := by decide
    have e2 : Tm.dfr (max 0 600) (600 % 1440) = ((0 : Nat) : Int) := by decide
    have e3 : Tm.dfr (Tm.endS dR 5220) (600 % 1440) = 4 := by decide
    have e4 : Tm.crs dR (Tm.dt 0) = dR := by unfold Tm.crs dR; simp
    rw [e1, e2, e3, e4]
    have h := Tm.days_ris ho (show 0 ≤ dR.count by decide) (sn := 0) (fn := 0) (by omega) (by omega) (Nat.le_refl _) (last := 4) (by omega)
    have hl : Tm.daysL dR (Tm.dt 0) ((0 : Nat) : Int) 4 = [0, 1, 2, 3] := by
      refine Tm.ris_ext h.1 (by unfold Tm.Ris; decide) fun x => ?_
      by_cases hx : ((0 : Nat) : Int) ≤ x ∧ x < 4
      · obtain ⟨k, rfl⟩ : ∃ k : Nat, x = k := ⟨x.toNat, by omega⟩
        rw [Tm.days_mem ho (show dR.count = 0 by rfl) (sn := 0) (fn := 0) (by omega) (by omega) (Nat.le_refl _) (by omega) k hx.1 hx.2]
        rw [Int.toNat_natCast, Tm.dd_in ho rfl (by omega)]
        have h1 : ∀ z : Int, z % dR.iv = 0 := fun z => Int.emod_one z
        have h2 : Tm.asB dR (Tm.dt k) = true := by unfold Tm.asB dR; simp
        rw [and_iff_right (h1 _), h2]
        simp; omega
      · constructor
        · intro h2; exact absurd (h.2 x h2) hx
        · intro h2
          simp at h2; omega
    rw [hl]
    decide
  rw [h5]; simp
def e0 : Evt := ⟨600, 30, false, true, dR, [], [], [(2040, 2040, 0)]⟩
theorem e0_may : mayE e0 := by decide
theorem e0_is : IsT e0 (0, 4320) [600, 3480, 4920] := by
  refine ⟨by decide, fun a => ?_⟩
  have h1 : wL e0 (0, 4320) = Tm.withinL dR 600 0 5220 := by
    unfold wL
    rw [show nearA e0.long (0, 4320) = 0 by decide, show nearB (0, 4320) = 5220 by decide]; rfl
  have h2 : changedB e0.ch a = false ↔ a ≠ 2040 := by
    show changedB [(2040, 2040, 0)] a = false ↔ _
    unfold changedB
    simp
    exact ⟨fun h q => h q.symm, fun h q => h q.symm⟩
  rw [h1, dR_within, h2]
  show _ ↔ (true = false ∧ _) ∨ (true = true ∧ (_ ∨ a ∈ ([] : List Int)) ∧ ¬ a ∈ ([] : List Int) ∧ _)
  simp
  omega
/-- A zone without turns, and nothing added. -/
theorem plain_at {z : Zn.Z} (hz : z.n = 0) (l : Int) : Zn.atI z l = l - z.base := by
  unfold Zn.atI
  have : Zn.np z l = 0 := by have := Zn.np_le z l; omega
  rw [this]; rfl
theorem plain_utc {z : Zn.Z} (hz : z.n = 0) {l : Int} (h1 : -900 ≤ l) (h2 : l ≤ 158311620) (h3 : 0 ≤ l - z.base) (h4 : l - z.base ≤ 158310720) : utcO z l = some (l - z.base) := by
  unfold utcO
  rw [plain_at hz, if_pos ⟨⟨h1, h2⟩, h3, h4⟩]
theorem e0_members {z : Zn.Z} (hz : z.n = 0) (hb : z.base = 0) (hp : Zn.mayP z) : membersV z e0 (0, 4320) = [(600, 630), (3480, 3510)] := by
  unfold membersV
  rw [if_pos (show mayE e0 ∧ Zn.mayP z ∧ winP (0, 4320) from ⟨e0_may, hp, by decide⟩), ← srt_T e0_may e0_is]
  have hu : ∀ l : Int, 0 ≤ l → l ≤ 10000 → selO z false (0, 4320) l 30 = if l < 4320 then some (l, l + 30) else none := fun l h1 h2 => by
    unfold selO mbO
    rw [plain_utc hz (by omega) (by omega) (by omega) (by omega), hb, Int.sub_zero]
    simp only [show ¬ (30 : Int) = 0 by omega, if_false, Bool.false_eq_true]
    by_cases h : l < 4320
    · rw [if_pos h, if_pos (meet_iff.2 ⟨by simp only; omega, by simp only; omega⟩)]
    · rw [if_neg h, if_neg (fun q => h (meet_iff.1 q).1)]
  have hr : rowV z e0 (0, 4320) [600, 3480, 4920] = [(600, 630), (3480, 3510)] := by
    unfold rowV
    show List.filterMap (fun a => selO z false (0, 4320) a 30) [600, 3480, 4920] ++ List.filterMap (fC z e0 (0, 4320)) [(2040, 2040, 0)] = _
    have hf : fC z e0 (0, 4320) (2040, 2040, 0) = none := by
      unfold fC selO mbO
      split <;> rfl
    simp only [List.filterMap_cons, List.filterMap_nil, hu 600 (by omega) (by omega), hu 3480 (by omega) (by omega), hu 4920 (by omega) (by omega), hf]
    decide
  rw [hr]
  decide
/-! An event that comes once. -/
theorem once_members {z : Zn.Z} {e : Evt} {x : Spn} (hm : mayE e) (hz : Zn.mayP z) (hx : winP x) (ha : e.again = false) : membersV z e x = (selO z e.world x e.start e.long).toList := by
  unfold membersV
  rw [if_pos (show mayE e ∧ Zn.mayP z ∧ winP x from ⟨hm, hz, hx⟩)]
  have hc : e.ch = [] := List.length_eq_zero_iff.1 (hm.2.2.2.1 ha).2.2.2
  unfold rowV
  rw [show T0 e x = [e.start] by unfold T0; rw [if_neg (show ¬ e.again = true by rw [ha]; simp)], hc]
  cases h : selO z e.world x e.start e.long with
  | none => simp only [List.filterMap_cons, List.filterMap_nil, h]; rfl
  | some m => simp only [List.filterMap_cons, List.filterMap_nil, h]; rfl
def onceE (s g : Int) : Evt := ⟨s, g, false, false, R0, [], [], []⟩
theorem onceE_may {s g : Int} (h1 : 0 ≤ s) (h2 : s < 158310720) (h3 : 1 ≤ g) (h4 : g ≤ 10080) : mayE (onceE s g) := by
  refine ⟨?_, h3, h4, fun _ => ⟨by show sameB R0 R0 = true; decide, rfl, rfl, rfl⟩, fun h => by cases h⟩
  show stampB s = true
  unfold stampB; rw [decide_eq_true h1, decide_eq_true h2]; rfl
theorem moved_members {z : Zn.Z} (hz : z.n = 0) (hb : -900 ≤ z.base ∧ z.base ≤ 900) (hp : Zn.mayP z) {s g : Int} (h1 : 2000 ≤ s) (h2 : s ≤ 110000000) (h3 : 1 ≤ g) (h4 : g ≤ 10000) {x : Spn} (hx : winP x) (hi : x.1 < s - z.base + g) (hj : s - z.base < x.2) :
    membersV z (onceE s g) x = [(s - z.base, s - z.base + g)] := by
  rw [once_members (onceE_may (by omega) (by omega) h3 (by omega)) hp hx rfl]
  have : selO z false x s g = some (s - z.base, s - z.base + g) := by
    refine sel_mb.2 ⟨?_, meet_iff.2 ⟨hj, hi⟩⟩
    unfold mbO
    rw [if_neg (by omega), plain_utc hz (by omega) (by omega) (by omega) (by omega)]; rfl
  show (selO z false x s g).toList = _
  rw [this]; rfl
end Go.Proofs.YtfjmofefciopmaaGreat
end
