import Derived.Test.YtfjmofefciopmaaGreatZEW7
import Derived.Test.YtfjmofefciopmaaGreatZMA
import Derived.Test.YtfjmofefciopmaaGreatZMN
/- The members of an event in one row, put in order: the document's are these; parts of a window; a time that is dropped. -/
section
namespace Go.Proofs.YtfjmofefciopmaaGreat
open Go.ChangeShapes Go.WideShapes Go.ChangeAt Go.RowKit Go.Joins Sp Ev Qr
noncomputable def mbO (z : Zn.Z) (world : Bool) (s g : Int) : Option Spn :=
  if g = 0 then none else if world = true then some (s, s + g) else match utcO z s with
    | none => none
    | some u => some (u, u + g)
def meetB (m x : Spn) : Bool := decide (m.1 < x.2) && decide (x.1 < m.2)
noncomputable def selO (z : Zn.Z) (world : Bool) (x : Spn) (s g : Int) : Option Spn := match mbO z world s g with
  | none => none
  | some m => if meetB m x = true then some m else none
theorem meet_iff {m x : Spn} : meetB m x = true ↔ m.1 < x.2 ∧ x.1 < m.2 := by unfold meetB; rw [Bool.and_eq_true, decide_eq_true_eq, decide_eq_true_eq]
theorem sel_mb {z : Zn.Z} {world : Bool} {x : Spn} {s g : Int} {m : Spn} : selO z world x s g = some m ↔ mbO z world s g = some m ∧ meetB m x = true := by
  unfold selO
  cases mbO z world s g with
  | none => simp
  | some k =>
    by_cases h : meetB k x = true
    · simp only [h, if_true, Option.some.injEq]
      constructor
      · rintro rfl; exact ⟨rfl, h⟩
      · rintro ⟨a, _⟩; exact a
    · simp only [h, Option.some.injEq]
      constructor
      · intro q; cases q
      · rintro ⟨rfl, q⟩; exact absurd q h
theorem memberL_sel (l : List Spn) (z : Zn.Z) (a g : Int) (x : Spn) : memberL l z a g x = match selO z false x a g with
    | none => l
    | some m => putL l m := by
  unfold memberL selO mbO
  cases utcO z a with
  | none => by_cases hg : g = 0 <;> simp [hg]
  | some u =>
    by_cases hg : g = 0
    · simp [hg]
    · simp only [hg, if_false, false_or, Bool.false_eq_true]
      by_cases hm : x.2 ≤ u ∨ u + g ≤ x.1
      · have : ¬ meetB (u, u + g) x = true := fun h => by have := meet_iff.1 h; simp only at this; omega
        rw [if_pos hm]; simp only [this]; rfl
      · have : meetB (u, u + g) x = true := meet_iff.2 (by simp only; omega)
        rw [if_neg hm]; simp only [this, if_true]
theorem fold_sel {α : Type} (f : α → Option Spn) : ∀ (l : List α) (o : List Spn), l.foldl (fun o a => match f a with
    | none => o
    | some m => putL o m) o = (l.filterMap f).foldl putL o
  | [], o => rfl
  | a :: l, o => by
    rw [List.foldl_cons, fold_sel f l]
    cases h : f a with
    | none => rw [List.filterMap_cons_none h]
    | some m => rw [List.filterMap_cons_some h, List.foldl_cons]
noncomputable def fT (z : Zn.Z) (e : Evt) (x : Spn) (a : Int) : Option Spn := if changedB e.ch a = true ∨ Tm.memB e.ex a = true ∨ a < x.1 - 20000 ∨ x.2 + 2000 < a then none else selO z false x a e.long
noncomputable def fC (z : Zn.Z) (e : Evt) (x : Spn) (c : Int × Int × Int) : Option Spn := if atB e c.1 = true then selO z e.world x c.2.1 c.2.2 else none
theorem doc_srt (z : Zn.Z) (e : Evt) (x : Spn) (hw : e.world = false) : e.ch.foldl (stepC z e x) ((timesE e x.2).foldl (stepT z e x) []) = srt ((timesE e x.2).filterMap (fT z e x) ++ e.ch.filterMap (fC z e x)) := by
  have h1 : stepT z e x = fun o a => match fT z e x a with
      | none => o
      | some m => putL o m := by
    funext o a
    unfold stepT fT
    split
    · rfl
    · exact memberL_sel o z a e.long x
  have h2 : stepC z e x = fun o c => match fC z e x c with
      | none => o
      | some m => putL o m := by
    funext o c
    unfold stepC fC
    split
    · rw [hw]; exact memberL_sel o z c.2.1 c.2.2 x
    · rfl
  rw [h1, h2, fold_sel, fold_sel, ← List.foldl_append]; rfl
def inT (n : Int) : Int := min (max n 0) 158310720
def nearA (long : Int) (x : Spn) : Int := inT (inT x.1 - long - 900)
def nearB (x : Spn) : Int := inT (inT x.2 + 900)
noncomputable def wL (e : Evt) (x : Spn) : List Int := Tm.withinL e.rule e.start (nearA e.long x) (nearB x)
structure IsT (e : Evt) (x : Spn) (T : List Int) : Prop where
  nd : T.Nodup
  mem : ∀ a, a ∈ T ↔ (e.again = false ∧ a = e.start) ∨ (e.again = true ∧ (a ∈ wL e x ∨ a ∈ e.plus) ∧ ¬ (a ∈ e.ex) ∧ changedB e.ch a = false)
noncomputable def T0 (e : Evt) (x : Spn) : List Int :=
  if e.again = true then (wL e x ++ e.plus.filter fun p => !Tm.memB (wL e x) p).filter fun a => !(Tm.memB e.ex a || changedB e.ch a) else [e.start]
noncomputable def rowV (z : Zn.Z) (e : Evt) (x : Spn) (T : List Int) : List Spn := T.filterMap (fun a => selO z e.world x a e.long) ++ e.ch.filterMap (fC z e x)
def winP (x : Spn) : Prop := x.1 < x.2 ∧ x.2 - x.1 ≤ 528480
instance (x : Spn) : Decidable (winP x) := by unfold winP; infer_instance
open Classical in
noncomputable def membersV (z : Zn.Z) (e : Evt) (x : Spn) : List Spn := if mayE e ∧ Zn.mayP z ∧ winP x then srt (rowV z e x (T0 e x)) else []
theorem mem_no {l : List Int} {a : Int} : Tm.memB l a = false ↔ ¬ a ∈ l := by
  rw [← Tm.memB_iff]; simp
theorem rowP_ris {l : List Int} (h : rowP l) : Tm.Ris l := by
  have hadj : ∀ i (hi : i + 1 < l.length), l[i] < l[i + 1] := fun i hi => by
    have := (h.1 (i + 1) hi).2.2 (by omega)
    simp only [Nat.add_sub_cancel, List.getD_eq_getElem?_getD, List.getElem?_eq_getElem hi, List.getElem?_eq_getElem (show i < l.length by omega), Option.getD_some] at this
    exact this
  refine List.pairwise_iff_getElem.2 fun i j hi hj hij => ?_
  obtain ⟨d, rfl⟩ : ∃ d, j = i + 1 + d := ⟨j - i - 1, by omega⟩
  induction d with
  | zero => exact hadj i hj
  | succ d ih =>
    have h1 := ih (by omega) (by omega)
    have h2 := hadj (i + 1 + d) (by omega)
    show l[i] < l[i + 1 + d + 1]
    omega
theorem rowP_bd {l : List Int} (h : rowP l) {a : Int} (ha : a ∈ l) : 0 ≤ a ∧ a < 158310720 := by
  obtain ⟨i, hi, rfl⟩ := List.mem_iff_getElem.1 ha
  have := h.1 i hi
  unfold okR at this
  simp only [List.getD_eq_getElem?_getD, List.getElem?_eq_getElem hi, Option.getD_some] at this
  exact ⟨this.1, this.2.1⟩
theorem T0_is {e : Evt} (hm : mayE e) (x : Spn) : IsT e x (T0 e x) := by
  unfold T0
  by_cases ha : e.again = true
  · obtain ⟨_, _, _, _, h5⟩ := hm
    obtain ⟨_, _, _, hp, _⟩ := h5 ha
    have hpl : rowP e.plus := of_decide_eq_true hp
    rw [if_pos ha]
    constructor
    · refine List.Pairwise.sublist (List.filter_sublist ..) ?_
      refine List.nodup_append.2 ⟨Tm.ris_nodup (Tm.within_ris _ _ _ _).1, List.Pairwise.sublist (List.filter_sublist ..) (Tm.ris_nodup (rowP_ris hpl)), fun a h1 b h2 q => ?_⟩
      subst q
      have := (List.mem_filter.1 h2).2
      rw [Tm.memB_iff.2 h1] at this
      cases this
    · intro a
      have hb1 : (!(Tm.memB e.ex a || changedB e.ch a)) = true ↔ ¬ a ∈ e.ex ∧ changedB e.ch a = false := by
        rw [← mem_no]; cases Tm.memB e.ex a <;> cases changedB e.ch a <;> simp
      have hb2 : (!Tm.memB (wL e x) a) = true ↔ ¬ a ∈ wL e x := by
        rw [← mem_no]; cases Tm.memB (wL e x) a <;> simp
      rw [List.mem_filter, List.mem_append, List.mem_filter, hb1, hb2]
      constructor
      · rintro ⟨h | h, q⟩
        · exact .inr ⟨ha, .inl h, q⟩
        · exact .inr ⟨ha, .inr h.1, q⟩
      · rintro (⟨h, _⟩ | ⟨_, h | h, q⟩)
        · rw [ha] at h; cases h
        · exact ⟨.inl h, q⟩
        · by_cases c : a ∈ wL e x
          · exact ⟨.inl c, q⟩
          · exact ⟨.inr ⟨h, c⟩, q⟩
  · have ha2 : e.again = false := by simpa using ha
    rw [if_neg ha]
    exact ⟨List.pairwise_singleton _ _, fun a => by simp [ha2]⟩
theorem isT_perm {e : Evt} {x : Spn} {T U : List Int} (h : IsT e x T) (k : IsT e x U) : T.Perm U :=
  (List.perm_ext_iff_of_nodup h.nd k.nd).2 fun a => by rw [h.mem, k.mem]
theorem rowV_perm {z : Zn.Z} {e : Evt} {x : Spn} {T U : List Int} (h : T.Perm U) : (rowV z e x T).Perm (rowV z e x U) := List.Perm.append_right _ (h.filterMap _)
theorem srt_T {z : Zn.Z} {e : Evt} {x : Spn} {T : List Int} (hm : mayE e) (h : IsT e x T) : srt (rowV z e x T) = srt (rowV z e x (T0 e x)) := srt_of_perm (rowV_perm (isT_perm h (T0_is hm x)))
theorem at_near {z : Zn.Z} (hz : Zn.mayP z) (l : Int) : l - 900 ≤ Zn.atI z l ∧ Zn.atI z l ≤ l + 900 := by
  have := Zn.ah_bd hz (Zn.np z l) (Zn.np_le z l); unfold Zn.atI; omega
theorem cover {z : Zn.Z} (hz : Zn.mayP z) {x : Spn} (hx : x.1 < x.2) {a g : Int} (hg0 : 0 ≤ g) (h0 : 0 ≤ a) (h1 : a < 158310720) (hs : (selO z false x a g).isSome = true) : nearA g x ≤ a ∧ a < nearB x ∧ x.1 - g - 900 < a ∧ a < x.2 + 900 := by
  obtain ⟨m, hm⟩ := Option.isSome_iff_exists.1 hs
  obtain ⟨h2, h3⟩ := sel_mb.1 hm
  have h4 := meet_iff.1 h3
  have h5 := at_near hz a
  unfold mbO utcO at h2
  split at h2
  · cases h2
  · simp only [Bool.false_eq_true, if_false] at h2
    split at h2
    · cases h2
    · rename_i u hu
      split at hu
      · cases hu; cases h2
        simp only at h4
        unfold nearA nearB inT
        omega
      · cases hu
def tmP (e : Evt) (a : Int) : Prop := (a ∈ e.plus ∨ a ∈ Tm.timesL e.rule e.start (a / 1440 + 1)) ∧ ¬ (a ∈ e.ex) ∧ changedB e.ch a = false
theorem tm_bd {e : Evt} (hm : mayE e) (ha : e.again = true) {a : Int} (h : a ∈ e.plus ∨ a ∈ Tm.timesL e.rule e.start (a / 1440 + 1)) : 0 ≤ a ∧ a < 158310720 := by
  obtain ⟨_, _, _, _, h5⟩ := hm
  obtain ⟨_, _, _, hp, _⟩ := h5 ha
  rcases h with h | h
  · exact rowP_bd (of_decide_eq_true hp) h
  · have := Tm.times_bd h; omega
theorem isT_tm {z : Zn.Z} (hz : Zn.mayP z) {e : Evt} (hm : mayE e) (ha : e.again = true) {x : Spn} (hx : x.1 < x.2) {T : List Int} (hT : IsT e x T) {a : Int} (hs : (selO z false x a e.long).isSome = true) : a ∈ T ↔ tmP e a := by
  rw [hT.mem]
  unfold tmP
  constructor
  · rintro (⟨h, _⟩ | ⟨_, h | h, q⟩)
    · rw [ha] at h; cases h
    · have hb := Tm.within_bd h
      refine ⟨.inr ?_, q⟩
      exact (Tm.within_times (by omega) hb.2.2.2.2.1 hb.2.1 hb.2.2.1 hb.2.2.2.2.2 (Int.le_refl _)).1 h
    · exact ⟨.inl h, q⟩
  · rintro ⟨h, q⟩
    refine .inr ⟨ha, ?_, q⟩
    rcases h with h | h
    · exact .inr h
    · have hb := Tm.times_bd h
      have hc := cover hz hx (by have := hm.2.1; omega) (by omega) hb.2.2.1 hs
      exact .inl ((Tm.within_times (by omega) hb.2.2.1 hb.2.1 hc.1 hc.2.1 (Int.le_refl _)).2 h)
theorem plusAll_mem {a : Int} : ∀ (ps ts : List Int), a ∈ plusAll ts ps ↔ a ∈ ts ∨ a ∈ ps
  | [], ts => by simp [plusAll]
  | p :: ps, ts => by
    show a ∈ plusAll (if Tm.memB ts p then ts else ts ++ [p]) ps ↔ _
    rw [plusAll_mem ps]
    split
    · rename_i h
      have := Tm.memB_iff.1 h
      rw [List.mem_cons]
      constructor
      · rintro (h | h)
        · exact .inl h
        · exact .inr (.inr h)
      · rintro (h | rfl | h)
        · exact .inl h
        · exact .inl this
        · exact .inr h
    · rw [List.mem_append, List.mem_singleton, List.mem_cons, or_assoc]
theorem plusAll_nd : ∀ (ps ts : List Int), ts.Nodup → (plusAll ts ps).Nodup
  | [], ts, h => h
  | p :: ps, ts, h => by
    show (plusAll (if Tm.memB ts p then ts else ts ++ [p]) ps).Nodup
    refine plusAll_nd ps _ ?_
    split
    · exact h
    · rename_i hn
      have hn2 : ¬ p ∈ ts := fun q => hn (Tm.memB_iff.2 q)
      refine List.nodup_append.2 ⟨h, List.pairwise_singleton _ _, fun a h1 b h2 q => ?_⟩
      rw [List.mem_singleton] at h2
      subst q; subst h2
      exact hn2 h1
theorem filterMap_if {α β : Type} (p : α → Prop) [DecidablePred p] (f : α → Option β) (l : List α) : l.filterMap (fun a => if p a then none else f a) = (l.filter fun a => decide (¬ p a)).filterMap f := by
  induction l with
  | nil => rfl
  | cons a l ih =>
    by_cases h : p a
    · rw [List.filterMap_cons_none (by simp [h]), List.filter_cons_of_neg (by simp [h]), ih]
    · rw [List.filter_cons_of_pos (by simp [h])]
      cases hf : f a with
      | none => rw [List.filterMap_cons_none (by simp [h, hf]), List.filterMap_cons_none hf, ih]
      | some b => rw [List.filterMap_cons_some (b := b) (by simp [h, hf]), List.filterMap_cons_some hf, ih]
theorem members_doc {z : Zn.Z} {e : Evt} {x : Spn} (h : goodW x ∨ ¬ (mayE e ∧ Zn.mayP z ∧ winP x)) : membersL z e x = membersV z e x := by
  by_cases hg : mayE e ∧ Zn.mayP z ∧ goodW x
  · obtain ⟨hm, hz, gw⟩ := hg
    have hwn : winP x := ⟨gw.1, gw.2.2.2⟩
    unfold membersL membersV
    rw [if_pos (show mayE e ∧ Zn.mayP z ∧ goodW x from ⟨hm, hz, gw⟩), if_pos (show mayE e ∧ Zn.mayP z ∧ winP x from ⟨hm, hz, hwn⟩)]
    have hm' := hm
    obtain ⟨h1, h2, h3, h4, h5⟩ := hm'
    by_cases hw : e.world = true
    · rw [if_pos hw]
      have ha : e.again = false := by
        cases hh : e.again with
        | false => rfl
        | true => have := (h5 hh).1; rw [hw] at this; cases this
      obtain ⟨_, _, _, hc⟩ := h4 ha
      have hc2 : e.ch = [] := List.length_eq_zero_iff.1 hc
      rw [show T0 e x = [e.start] by unfold T0; rw [if_neg (show ¬ e.again = true by rw [ha]; simp)]]
      unfold rowV
      rw [hc2]
      simp only [List.filterMap_nil, List.append_nil]
      have hmb : mbO z e.world e.start e.long = some (e.start, e.start + e.long) := by unfold mbO; rw [if_neg (by omega), if_pos hw]
      by_cases hmt : e.start < x.2 ∧ x.1 < e.start + e.long
      · have : selO z e.world x e.start e.long = some (e.start, e.start + e.long) := sel_mb.2 ⟨hmb, meet_iff.2 hmt⟩
        rw [if_pos hmt]; simp only [List.filterMap_cons, List.filterMap_nil, this]; rfl
      · have : selO z e.world x e.start e.long = none := by
          unfold selO; rw [hmb]; exact if_neg (fun q => hmt (meet_iff.1 q))
        rw [if_neg hmt]; simp only [List.filterMap_cons, List.filterMap_nil, this]; rfl
    · have hw2 : e.world = false := by simpa using hw
      rw [if_neg hw, doc_srt z e x hw2]
      refine srt_of_perm ?_
      unfold rowV
      refine List.Perm.append_right _ ?_
      have hfT : fT z e x = fun a => if changedB e.ch a = true ∨ Tm.memB e.ex a = true ∨ a < x.1 - 20000 ∨ x.2 + 2000 < a then none else selO z false x a e.long := rfl
      rw [hfT, filterMap_if, hw2]
      cases ha : e.again with
      | false =>
        obtain ⟨_, hex, _, hc⟩ := h4 ha
        have hc2 : e.ch = [] := List.length_eq_zero_iff.1 hc
        have hex2 : e.ex = [] := List.length_eq_zero_iff.1 hex
        unfold timesE T0
        rw [ha]
        refine perm_choose (List.Pairwise.sublist (List.filter_sublist ..) (List.pairwise_singleton _ _)) (List.pairwise_singleton _ _) fun a hs => ?_
        rw [List.mem_filter]
        simp only [Bool.false_eq_true, if_false, List.mem_singleton, decide_eq_true_eq]
        constructor
        · exact fun h => h.1
        · rintro rfl
          have hst : 0 ≤ e.start ∧ e.start < 158310720 := by unfold stampB at h1; simpa using h1
          have hc := cover hz gw.1 (by omega) hst.1 hst.2 hs
          refine ⟨rfl, ?_⟩
          rw [hc2, hex2]
          rintro (h | h | h | h)
          · cases h
          · cases h
          · omega
          · omega
      | true =>
        have hT := T0_is hm x
        unfold timesE
        rw [ha]
        refine perm_choose (List.Pairwise.sublist (List.filter_sublist ..) (plusAll_nd _ _ (Tm.ris_nodup (Tm.times_ris _ _ _)))) hT.nd fun a hs => ?_
        rw [isT_tm hz hm ha gw.1 hT hs, List.mem_filter, if_pos rfl, plusAll_mem, decide_eq_true_eq]
        unfold tmP
        constructor
        · rintro ⟨h, q⟩
          have q1 : ¬ (a ∈ e.ex) := fun k => q (.inr (.inl (Tm.memB_iff.2 k)))
          have q2 : changedB e.ch a = false := by
            cases hh : changedB e.ch a with
            | false => rfl
            | true => exact absurd (.inl hh) q
          refine ⟨?_, q1, q2⟩
          rcases h with h | h
          · have hb := Tm.times_bd h
            exact .inr ((Tm.times_more (by omega) hb.2.2.1 hb.2.1 (by omega)).1 h)
          · exact .inl h
        · rintro ⟨h, q1, q2⟩
          have hb := tm_bd hm ha h
          have hc := cover hz gw.1 (by omega) hb.1 hb.2 hs
          refine ⟨?_, ?_⟩
          · rcases h with h | h
            · exact .inr h
            · have ht := Tm.times_bd h
              refine .inl ((Tm.times_more hb.1 hb.2 ht.2.1 ?_).2 h)
              rw [Int.tdiv_eq_ediv_of_nonneg (by omega)]; omega
          · rintro (k | k | k | k)
            · rw [q2] at k; cases k
            · exact q1 (Tm.memB_iff.1 k)
            · omega
            · omega
  · unfold membersL membersV
    rw [if_neg hg, if_neg]
    rcases h with h | h
    · exact fun q => hg ⟨q.1, q.2.1, h⟩
    · exact h
theorem members_part {z : Zn.Z} {e : Evt} {x y : Spn} (hx : winP x) (hy : winP y) (h1 : x.1 ≤ y.1) (h2 : y.2 ≤ x.2) : membersV z e y = (membersV z e x).filter fun m => meetB m y := by
  unfold membersV
  by_cases hg : mayE e ∧ Zn.mayP z
  · rw [if_pos (show mayE e ∧ Zn.mayP z ∧ winP y from ⟨hg.1, hg.2, hy⟩), if_pos (show mayE e ∧ Zn.mayP z ∧ winP x from ⟨hg.1, hg.2, hx⟩), ← srt_filter]
    obtain ⟨hm, hz⟩ := hg
    have hsub : ∀ w s g, selO z w y s g = (selO z w x s g).filter fun m => meetB m y := by
      intro w s g
      unfold selO
      cases mbO z w s g with
      | none => rfl
      | some m =>
        simp only
        by_cases hmy : meetB m y = true
        · have hmx : meetB m x = true := meet_iff.2 (by have := meet_iff.1 hmy; omega)
          rw [if_pos hmy, if_pos hmx]; simp [Option.filter, hmy]
        · rw [if_neg hmy]
          split
          · simp [Option.filter, hmy]
          · rfl
    have hfm : ∀ {α : Type} (f g : α → Option Spn) (l : List α), (∀ a, f a = (g a).filter fun m => meetB m y) → l.filterMap f = (l.filterMap g).filter fun m => meetB m y := by
      intro α f g l hfg
      induction l with
      | nil => rfl
      | cons a l ih =>
        have := hfg a
        cases hga : g a with
        | none =>
          rw [hga] at this
          rw [List.filterMap_cons_none hga, List.filterMap_cons_none this, ih]
        | some m =>
          rw [hga] at this
          rw [List.filterMap_cons_some hga]
          by_cases hmy : meetB m y = true
          · rw [List.filterMap_cons_some (b := m) (by rw [this]; simp [Option.filter, hmy]), List.filter_cons_of_pos (p := fun m => meetB m y) hmy, ih]
          · rw [List.filterMap_cons_none (by rw [this]; simp [Option.filter, hmy]), List.filter_cons_of_neg (p := fun m => meetB m y) hmy, ih]
    have e1 : (rowV z e x (T0 e x)).filter (fun m => meetB m y) = rowV z e y (T0 e x) := by
      unfold rowV
      rw [List.filter_append]
      rw [← hfm (fun a => selO z e.world y a e.long) (fun a => selO z e.world x a e.long) (T0 e x) (fun a => hsub _ _ _)]
      rw [← hfm (fC z e y) (fC z e x) e.ch fun c => by
        unfold fC
        split
        · exact hsub _ _ _
        · rfl]
    rw [e1]
    refine srt_of_perm ?_
    unfold rowV
    refine List.Perm.append_right _ ?_
    refine perm_choose (T0_is hm y).nd (T0_is hm x).nd fun a hs => ?_
    cases ha : e.again with
    | false =>
      rw [(T0_is hm y).mem, (T0_is hm x).mem, ha]
      simp
    | true =>
      have hw : e.world = false := (hm.2.2.2.2 ha).1
      rw [hw] at hs
      have hs2 : (selO z false x a e.long).isSome = true := by
        rw [hsub] at hs
        cases hq : selO z false x a e.long with
        | none => rw [hq] at hs; cases hs
        | some m => rfl
      rw [isT_tm hz hm ha hy.1 (T0_is hm y) hs, isT_tm hz hm ha hx.1 (T0_is hm x) hs2]
  · rw [if_neg (fun q => hg ⟨q.1, q.2.1⟩), if_neg (fun q => hg ⟨q.1, q.2.1⟩)]; rfl
theorem members_in {z : Zn.Z} {e : Evt} {x : Spn} {m : Spn} (h : m ∈ membersV z e x) : m.1 < x.2 ∧ x.1 < m.2 ∧ m.1 < m.2 := by
  unfold membersV at h
  split at h
  · rename_i hg
    have hme := hg.1
    rw [srt_mem] at h
    unfold rowV at h
    have key : ∀ w s g, 0 ≤ g → selO z w x s g = some m → m.1 < x.2 ∧ x.1 < m.2 ∧ m.1 < m.2 := by
      intro w s g hg0 hs
      obtain ⟨h1, h2⟩ := sel_mb.1 hs
      have h3 := meet_iff.1 h2
      refine ⟨h3.1, h3.2, ?_⟩
      unfold mbO at h1
      split at h1
      · cases h1
      · split at h1
        · cases h1; simp only; omega
        · split at h1
          · cases h1
          · cases h1; simp only; omega
    rcases List.mem_append.1 h with h | h
    · obtain ⟨a, _, h⟩ := List.mem_filterMap.1 h
      exact key _ _ _ (by have := hme.2.1; omega) h
    · obtain ⟨c, hc, h⟩ := List.mem_filterMap.1 h
      unfold fC at h
      split at h
      · refine key _ _ _ ?_ h
        obtain ⟨i, hi, rfl⟩ := List.mem_iff_getElem.1 hc
        cases ha : e.again with
        | false =>
          have := (hme.2.2.2.1 ha).2.2.2
          omega
        | true =>
          have := ((hme.2.2.2.2 ha).2.2.2.2.2 i hi).2.2.1
          simpa only [List.getD_eq_getElem?_getD, List.getElem?_eq_getElem hi, Option.getD_some] using this
      · cases h
  · cases h
theorem members_ino (z : Zn.Z) (e : Evt) (x : Spn) : InO (membersV z e x) := by
  unfold membersV
  split
  · exact srt_ino _
  · exact List.Pairwise.nil
end Go.Proofs.YtfjmofefciopmaaGreat
end
section
namespace Go.Proofs.YtfjmofefciopmaaGreat
open Go.ChangeShapes Go.WideShapes Go.ChangeAt Go.RowKit Go.Joins Sp Ev Qr
def dR : R := ⟨1, 1, 0, -1, [], [], [], [], 0⟩
theorem dR_may : Qr.mayP dR := by decide
theorem dR_within (a : Int) : a ∈ Tm.withinL dR 600 0 5220 ↔ a = 600 ∨ a = 2040 ∨ a = 3480 ∨ a = 4920 := by
  have ho := Tm.Okr.of dR_may
  have h5 : Tm.withinL dR 600 0 5220 = [600, 2040, 3480, 4920] := by
    unfold Tm.withinL
    rw [if_pos ⟨dR_may, by omega, by omega⟩]
    have e1 : (600 / 1440 : Int).toNat = 0 := by decide
    have e2 : Tm.dfr (max 0 600) (600 % 1440) = ((0 : Nat) : Int) := by decide
    have e3 : Tm.dfr (Tm.endS dR 5220) (600 % 1440) = 4 := by decide
    have e4 : Tm.crs dR (Tm.dt 0) = dR := by unfold Tm.crs dR; simp
    rw [e1, e2, e3, e4]
    have h := Tm.days_ris ho (show 0 ≤ dR.count by decide) (sn := 0) (fn := 0) (by omega) (by omega) (Nat.le_refl _) (last := 4) (by omega)
    have hl : Tm.daysL dR (Tm.dt 0) ((0 : Nat) : Int) 4 = [0, 1, 2, 3] := by
      refine Tm.ris_ext h.1 (by unfold Tm.Ris; decide) fun x => ?_
      by_cases hx : ((0 : Nat) : Int) ≤ x ∧ x < 4
      · obtain ⟨k, rfl⟩ : ∃ k : Nat, x = k := ⟨x.toNat, by omega⟩
        rw [Tm.days_mem ho (show dR.count = 0 by rfl) (sn := 0) (fn := 0) (by omega) (by omega) (Nat.le_refl _) (by omega) k hx.1 hx.2]
        rw [Int.toNat_natCast, Tm.dd_in ho rfl (by omega)]
        have h1 : ∀ z : Int, z % dR.iv = 0 := fun z => Int.emod_one z
        have h2 : Tm.asB dR (Tm.dt k) = true := by unfold Tm.asB dR; simp
        rw [and_iff_right (h1 _), h2]
        simp; omega
      · constructor
        · intro h2; exact absurd (h.2 x h2) hx
        · intro h2
          simp at h2; omega
    rw [hl]
    decide
  rw [h5]; simp
def e0 : Evt := ⟨600, 30, false, true, dR, [], [], [(2040, 2040, 0)]⟩
theorem e0_may : mayE e0 := by decide
theorem e0_is : IsT e0 (0, 4320) [600, 3480, 4920] := by
  refine ⟨by decide, fun a => ?_⟩
  have h1 : wL e0 (0, 4320) = Tm.withinL dR 600 0 5220 := by
    unfold wL
    rw [show nearA e0.long (0, 4320) = 0 by decide, show nearB (0, 4320) = 5220 by decide]; rfl
  have h2 : changedB e0.ch a = false ↔ a ≠ 2040 := by
    show changedB [(2040, 2040, 0)] a = false ↔ _
    unfold changedB
    simp
    exact ⟨fun h q => h q.symm, fun h q => h q.symm⟩
  rw [h1, dR_within, h2]
  show _ ↔ (true = false ∧ _) ∨ (true = true ∧ (_ ∨ a ∈ ([] : List Int)) ∧ ¬ a ∈ ([] : List Int) ∧ _)
  simp
  omega
theorem plain_at {z : Zn.Z} (hz : z.n = 0) (l : Int) : Zn.atI z l = l - z.base := by
  unfold Zn.atI
  have : Zn.np z l = 0 := by have := Zn.np_le z l; omega
  rw [this]; rfl
theorem plain_utc {z : Zn.Z} (hz : z.n = 0) {l : Int} (h1 : -900 ≤ l) (h2 : l ≤ 158311620) (h3 : 0 ≤ l - z.base) (h4 : l - z.base ≤ 158310720) : utcO z l = some (l - z.base) := by
  unfold utcO
  rw [plain_at hz, if_pos ⟨⟨h1, h2⟩, h3, h4⟩]
theorem e0_members {z : Zn.Z} (hz : z.n = 0) (hb : z.base = 0) (hp : Zn.mayP z) : membersV z e0 (0, 4320) = [(600, 630), (3480, 3510)] := by
  unfold membersV
  rw [if_pos (show mayE e0 ∧ Zn.mayP z ∧ winP (0, 4320) from ⟨e0_may, hp, by decide⟩), ← srt_T e0_may e0_is]
  have hu : ∀ l : Int, 0 ≤ l → l ≤ 10000 → selO z false (0, 4320) l 30 = if l < 4320 then some (l, l + 30) else none := fun l h1 h2 => by
    unfold selO mbO
    rw [plain_utc hz (by omega) (by omega) (by omega) (by omega), hb, Int.sub_zero]
    simp only [show ¬ (30 : Int) = 0 by omega, if_false, Bool.false_eq_true]
    by_cases h : l < 4320
    · rw [if_pos h, if_pos (meet_iff.2 ⟨by simp only; omega, by simp only; omega⟩)]
    · rw [if_neg h, if_neg (fun q => h (meet_iff.1 q).1)]
  have hr : rowV z e0 (0, 4320) [600, 3480, 4920] = [(600, 630), (3480, 3510)] := by
    unfold rowV
    show List.filterMap (fun a => selO z false (0, 4320) a 30) [600, 3480, 4920] ++ List.filterMap (fC z e0 (0, 4320)) [(2040, 2040, 0)] = _
    have hf : fC z e0 (0, 4320) (2040, 2040, 0) = none := by
      unfold fC selO mbO
      split <;> rfl
    simp only [List.filterMap_cons, List.filterMap_nil, hu 600 (by omega) (by omega), hu 3480 (by omega) (by omega), hu 4920 (by omega) (by omega), hf]
    decide
  rw [hr]
  decide
end Go.Proofs.YtfjmofefciopmaaGreat
end
section
namespace Go.Proofs.YtfjmofefciopmaaGreat
open Go.ChangeShapes Go.WideShapes Go.ChangeAt Go.RowKit Go.Joins Sp Ev Qr
def ltB (c : Int) (s : Spn) : Bool := decide (s.1 < c)
def gtB (c : Int) (s : Spn) : Bool := decide (c < s.2)
def bothB (c : Int) (s : Spn) : Bool := decide (s.1 < c) && decide (c < s.2)
theorem parts_count (c : Int) : ∀ (L : List Spn), (∀ s ∈ L, s.1 < s.2) → (L.filter (ltB c)).length + (L.filter (gtB c)).length = L.length + (L.filter (bothB c)).length
  | [], _ => rfl
  | s :: L, h => by
    have ih := parts_count c L (fun t ht => h t (List.mem_cons_of_mem _ ht))
    have hs := h s (List.mem_cons_self ..)
    have e : ∀ (p : Spn → Bool), ((s :: L).filter p).length = (L.filter p).length + (if p s = true then 1 else 0) := fun p => by
      by_cases q : p s = true
      · rw [List.filter_cons_of_pos q, if_pos q, List.length_cons]
      · rw [List.filter_cons_of_neg q, if_neg q]; rfl
    rw [e, e, e, List.length_cons]
    unfold ltB gtB bothB at *
    by_cases a : s.1 < c
    · by_cases b : c < s.2
      · simp only [decide_eq_true a, decide_eq_true b, Bool.and_self, if_true]; omega
      · simp only [decide_eq_true a, decide_eq_false b, Bool.and_false, if_true, Bool.false_eq_true, if_false]; omega
    · have b : c < s.2 := by omega
      simp only [decide_eq_false a, decide_eq_true b, Bool.false_and, if_true, Bool.false_eq_true, if_false]; omega
theorem filter_ext {p q : Spn → Bool} {L : List Spn} (h : ∀ s ∈ L, p s = q s) : L.filter p = L.filter q := List.filter_congr h
theorem part_lists {z : Zn.Z} {e : Evt} {x1 x2 c : Int} (hx : winP (x1, x2)) (h1 : x1 < c) (h2 : c < x2) :
    membersV z e (x1, c) = (membersV z e (x1, x2)).filter (ltB c) ∧ membersV z e (c, x2) = (membersV z e (x1, x2)).filter (gtB c) := by
  obtain ⟨a, b⟩ := hx
  simp only at a b
  constructor
  · rw [members_part (x := (x1, x2)) ⟨a, b⟩ (y := (x1, c)) ⟨h1, by simp only; omega⟩ (by simp) (by simp only; omega)]
    refine filter_ext fun s hs => ?_
    have := members_in hs
    simp only at this
    unfold meetB ltB
    simp only
    rw [decide_eq_true this.2.1, Bool.and_true]
  · rw [members_part (x := (x1, x2)) ⟨a, b⟩ (y := (c, x2)) ⟨h2, by simp only; omega⟩ (by simp only; omega) (by simp)]
    refine filter_ext fun s hs => ?_
    have := members_in hs
    simp only at this
    unfold meetB gtB
    simp only
    rw [decide_eq_true this.1, Bool.true_and]
theorem ino_step {L : List Spn} (h : InO L) {i : Nat} (hi : i + 1 < L.length) : (L[i]).1 < (L[i + 1]).1 ∨ ((L[i]).1 = (L[i + 1]).1 ∧ (L[i]).2 ≤ (L[i + 1]).2) := by
  have := List.pairwise_iff_getElem.1 h i (i + 1) (by omega) hi (by omega)
  unfold gtS at this
  omega
def dropE (e : Evt) (a : Int) : Evt := { e with ch := [(a, a, 0)] }
theorem filterMap_count {α β : Type} [DecidableEq α] {f : α → Option β} {a : α} : ∀ {l : List α}, l.Nodup → (l.filterMap f).length = ((l.filter fun x => !decide (x = a)).filterMap f).length + (if a ∈ l ∧ (f a).isSome = true then 1 else 0)
  | [], _ => by simp
  | x :: l, h => by
    obtain ⟨h1, h2⟩ := List.nodup_cons.1 h
    have ih := filterMap_count (f := f) (a := a) h2
    by_cases e : x = a
    · subst e
      have hn : (l.filter fun y => !decide (y = x)) = l := List.filter_eq_self.2 fun y hy => by
        have : y ≠ x := fun q => h1 (q ▸ hy)
        simp [this]
      rw [List.filter_cons_of_neg (by simp), hn]
      cases hf : f x with
      | none => rw [List.filterMap_cons_none hf, if_neg (by simp)]; omega
      | some b => rw [List.filterMap_cons_some hf, List.length_cons, if_pos (by simp)]
    · rw [List.filter_cons_of_pos (by simpa using e)]
      have hm : (a ∈ x :: l ∧ (f a).isSome = true) ↔ (a ∈ l ∧ (f a).isSome = true) := by
        rw [List.mem_cons]
        constructor
        · rintro ⟨h | h, k⟩
          · exact absurd h.symm e
          · exact ⟨h, k⟩
        · rintro ⟨h, k⟩; exact ⟨.inr h, k⟩
      cases hf : f x with
      | none => rw [List.filterMap_cons_none hf, List.filterMap_cons_none hf, ih]; simp only [hm]
      | some b => rw [List.filterMap_cons_some hf, List.filterMap_cons_some hf, List.length_cons, List.length_cons, ih]; simp only [hm]; omega
theorem dropped_len {z : Zn.Z} {e : Evt} {x : Spn} {a : Int} (hm : mayE e) (hz : Zn.mayP z) (hx : winP x) (ha : e.again = true) (hc : e.ch = []) (hat : atB e a = true) (h0 : 0 ≤ a) (h1 : a < 158310720) :
    (membersV z e x).length = (membersV z (dropE e a) x).length + (if (selO z false x a e.long).isSome = true then 1 else 0) := by
  obtain ⟨m1, m2, m3, m4, m5⟩ := hm
  obtain ⟨n1, n2, n3, n4, n5, n6⟩ := m5 ha
  have hm : mayE e := ⟨m1, m2, m3, m4, m5⟩
  have hst : stampB a = true := by unfold stampB; rw [decide_eq_true h0, decide_eq_true h1]; rfl
  have hmd : mayE (dropE e a) := by
    refine ⟨m1, m2, m3, (fun q => by have hq : e.again = false := q; rw [ha] at hq; cases hq), fun _ => ⟨n1, n2, n3, n4, by show 1 ≤ 50; omega, fun i hi => ?_⟩⟩
    have hi' : i < 1 := hi
    obtain rfl : i = 0 := by omega
    exact ⟨hst, hst, by show (0 : Int) ≤ 0; omega, by show (0 : Int) ≤ 10080; omega, fun q => absurd q (Nat.lt_irrefl 0)⟩
  unfold membersV
  rw [if_pos (show mayE e ∧ Zn.mayP z ∧ winP x from ⟨hm, hz, hx⟩), if_pos (show mayE (dropE e a) ∧ Zn.mayP z ∧ winP x from ⟨hmd, hz, hx⟩), srt_len, srt_len]
  have hT := T0_is hm x
  have hTd : IsT (dropE e a) x ((T0 e x).filter fun y => !decide (y = a)) := by
    refine ⟨List.Pairwise.sublist (List.filter_sublist ..) hT.nd, fun y => ?_⟩
    rw [List.mem_filter, hT.mem]
    have hce : changedB e.ch y = false := by rw [hc]; rfl
    have hcd : changedB (dropE e a).ch y = false ↔ y ≠ a := by
      show changedB [(a, a, 0)] y = false ↔ _
      unfold changedB
      simp
      exact ⟨fun h q => h q.symm, fun h q => h q.symm⟩
    rw [hcd]
    show _ ↔ (e.again = false ∧ y = e.start) ∨ (e.again = true ∧ (y ∈ wL e x ∨ y ∈ e.plus) ∧ ¬ y ∈ e.ex ∧ y ≠ a)
    rw [ha, hce]
    simp
    constructor
    · rintro ⟨⟨p, q⟩, r⟩; exact ⟨p, q, r⟩
    · rintro ⟨p, q, r⟩; exact ⟨⟨p, q⟩, r⟩
  have hr : (rowV z (dropE e a) x (T0 (dropE e a) x)).length = ((((T0 e x).filter fun y => !decide (y = a)).filterMap fun y => selO z e.world x y e.long)).length := by
    rw [(rowV_perm (z := z) (isT_perm (T0_is hmd x) hTd)).length_eq]
    unfold rowV
    have hn : (dropE e a).ch.filterMap (fC z (dropE e a) x) = [] := by
      show [(a, a, 0)].filterMap (fC z (dropE e a) x) = []
      have : fC z (dropE e a) x (a, a, 0) = none := by
        unfold fC selO mbO
        split <;> rfl
      simp only [List.filterMap_cons, List.filterMap_nil, this]
    rw [hn, List.append_nil]; rfl
  rw [hr]
  unfold rowV
  rw [hc, List.filterMap_nil, List.append_nil, filterMap_count (a := a) hT.nd, n1]
  congr 1
  by_cases hs : (selO z false x a e.long).isSome = true
  · have hmem : a ∈ T0 e x := by
      rw [isT_tm hz hm ha hx.1 hT hs]
      unfold atB at hat
      rw [if_neg (by rw [ha]; simp)] at hat
      unfold tmP
      by_cases q : Tm.memB e.ex a = true ∨ stampB a = false
      · rw [if_pos q] at hat; cases hat
      · rw [if_neg q] at hat
        refine ⟨?_, fun k => q (.inl (Tm.memB_iff.2 k)), by rw [hc]; rfl⟩
        by_cases k : Tm.memB e.plus a = true
        · exact .inl (Tm.memB_iff.1 k)
        · rw [if_neg k] at hat
          exact .inr (Tm.memB_iff.1 hat)
    rw [if_pos ⟨hmem, hs⟩, if_pos hs]
  · rw [if_neg (fun k => hs k.2), if_neg hs]
theorem met_iff {z : Zn.Z} {x : Spn} {a g : Int} (hg : 0 < g) : (selO z false x a g).isSome = true ↔ ∃ u, utcO z a = some u ∧ u < x.2 ∧ x.1 < u + g := by
  unfold selO mbO
  rw [if_neg (by omega)]
  simp only [Bool.false_eq_true, if_false]
  cases utcO z a with
  | none => simp
  | some u =>
    simp only
    by_cases h : meetB (u, u + g) x = true
    · rw [if_pos h]
      have := meet_iff.1 h
      simp only at this
      simp [this]
    · rw [if_neg h]
      have : ¬ (u < x.2 ∧ x.1 < u + g) := fun q => h (meet_iff.2 q)
      simp
      omega
end Go.Proofs.YtfjmofefciopmaaGreat
end
