import Derived.Test.YtfjmofefciopmaaGreatRows
import Derived.Test.YtfjmofefciopmaaGreatZSW4
import Derived.Test.YtfjmofefciopmaaGreatZMB
import Derived.Test.YtfjmofefciopmaaGreatZMA
import Derived.Test.YtfjmofefciopmaaGreatZTW9
import Derived.BigQuiet
import Derived.Deep.Cut
import Derived.Deep.QuietTactic
/- Contracts of the document's events: stamps, rows of them, spans put in order. -/
section
namespace Go.Proofs.YtfjmofefciopmaaGreat
open Go.ChangeShapes Go.WideShapes Go.ChangeAt Go.RowKit Go.Joins Sp Ev
theorem rstamp11_any (n : Int) (w : World) :
    Calls Tryz.prog 31 #[.int .i64 n] w fun e w' => e = .returned (.bool (stampB n)) ∧ w = w' := by
  by_cases h0 : 0 ≤ n
  · have hd : decide (0 ≤ n) = true := decide_eq_true h0
    go_enter Tryz.func31, Tryz.ntmps31
    go_wp2
    go_ret
    exact ⟨ret_bool (by unfold stampB; rw [hd]; simp), rfl⟩
  · have hd : decide (0 ≤ n) = false := decide_eq_false h0
    go_enter Tryz.func31, Tryz.ntmps31
    go_wp2
    go_ret
    exact ⟨ret_bool (by unfold stampB; rw [hd]; rfl), rfl⟩
theorem memB_take (l : List Int) (k : Nat) (x v : Int) (h : l[k]? = some v) : Tm.memB (l.take (k + 1)) x = (Tm.memB (l.take k) x || decide (v = x)) := by
  unfold Tm.memB; rw [List.take_add_one, h, List.any_append]; simp
theorem rin11_any (l : List Int) (x : Int) (A : Option Addr) (c : Nat) (w : World) (hl : l.length ≤ 1000000) (h : Sl w A l.length c (iv l)) :
    Calls Tryz.prog 44 #[.slice A l.length c, .int .i64 x] w fun e w' => e = .returned (.bool (Tm.memB l x)) ∧ w = w' := by
  have HA := Lib.hid h
  obtain ⟨r, hr⟩ : ∃ r, Tm.memB l x = r := ⟨_, rfl⟩
  rw [hr]
  have HR := Lib.hid hr
  have hlz : (l.length : Int) ≤ 9223372036854775807 := by omega
  clear h hr
  go_enter Tryz.func44, Tryz.ntmps44
  go_wp2_with fail
  go_loop [8] (fun s8 => ∃ (i : Nat), i ≤ l.length ∧ s8 = .int .i64 i ∧ Hid (Tm.memB (l.take i) x = false)) (fun s8 => l.length - (intOf s8).toNat)
  case atStart => exact ⟨0, Nat.zero_le _, rfl, rfl⟩
  case round =>
    obtain ⟨i, hi, rfl, HF⟩ := hrel
    by_cases hlt : i < l.length
    · have hiz : (i : Int) < l.length := by omega
      obtain ⟨v, hv⟩ : ∃ v, l[i]? = some v := ⟨_, List.getElem?_eq_getElem hlt⟩
      have HT := Lib.hid (memB_take l i x v hv)
      have HV := Lib.hid (List.mem_of_getElem? hv)
      obtain ⟨b, off, rfl, hbs, hce⟩ := HA.out.intG hv
      have g1 := hce ⟨w, Below.refl _ _⟩
      simp only at g1
      clear hce hv
      by_cases e1 : v = x
      · have e1b : (v == x) = true := by simpa using e1
        have E : Hid (r = true) := by show _ = _; rw [← HR.out]; exact Tm.memB_iff.2 (e1 ▸ HV.out)
        clear e1
        go_wp2_with fail
        go_ret
        exact ⟨ret_bool E.out.symm, rfl⟩
      · have e1b : (v == x) = false := beq_false_of_ne e1
        have HN : Hid (Tm.memB (l.take (i + 1)) x = false) := by show _ = _; rw [HT.out, HF.out, decide_eq_false e1]; rfl
        go_wp2_with fail
        go_round
        case rel => exact ⟨i + 1, hlt, by go_num, HN.out⟩
        case measure => simp [intOf]; omega
    · obtain rfl : i = l.length := by omega
      rw [List.take_length] at HF
      have E : Hid (r = false) := by show _ = _; rw [← HR.out]; exact HF.out
      go_wp2_with fail
      go_ret
      exact ⟨ret_bool E.out.symm, rfl⟩
theorem sv_take : ∀ (l : List Spn) (k : Nat), (sv l).take (k * 2) = sv (l.take k)
  | [], k => by simp [sv]
  | x :: r, 0 => by simp [sv]
  | x :: r, k + 1 => by
    rw [show (k + 1) * 2 = k * 2 + 1 + 1 by omega]
    simp only [sv, List.take_succ_cons]
    rw [sv_take r k]
theorem sv_drop : ∀ (l : List Spn) (k : Nat), (sv l).drop (k * 2) = sv (l.drop k)
  | [], k => by simp [sv]
  | x :: r, 0 => by simp
  | x :: r, k + 1 => by
    rw [show (k + 1) * 2 = k * 2 + 1 + 1 by omega]
    simp only [sv, List.drop_succ_cons]
    exact sv_drop r k
set_option maxRecDepth 100000 in
set_option maxHeartbeats 4000000 in
theorem rput11_any (l : List Spn) (s : Spn) (A : Option Addr) (c : Nat) (w : World) (hl : l.length ≤ 1000000) (h : Sl w A l.length c (sv l)) :
    Calls Tryz.prog 85 #[.slice A l.length c, .agg #[.int .i64 s.1, .int .i64 s.2]] w (RetS (putL l s) w) := by
  have HA := Lib.hid h
  obtain ⟨i0, hi0, hq0, hq1, hq2⟩ := info_parts span_info
  have hlz : (l.length : Int) ≤ 9223372036854775807 := by omega
  have HP : Hid (putL l s = l.take (pos l s l.length) ++ [s] ++ l.drop (pos l s l.length)) := rfl
  obtain ⟨F0, F1⟩ := Gr.lay2 w (.int .i64 s.1) (.int .i64 s.2) 34
  obtain ⟨s1, s2⟩ := s
  simp only at F0 F1 HP ⊢
  clear h
  go_enter Tryz.func85, Tryz.ntmps85
  go_wp2_with fail
  go_loopw [5] (fun s5 wr => ∃ (k : Nat) (g : Gr (w.alloc (.cells #[.int .i64 s1, .int .i64 s2] 34))), wr = g.val ∧ k ≤ l.length ∧ s5 = .int .i64 k ∧ Hid (pos l (s1, s2) k = pos l (s1, s2) l.length)) (fun s5 _ => (intOf s5).toNat)
  case atStart => exact ⟨l.length, ⟨_, Below.refl _ _⟩, rfl, Nat.le_refl _, rfl, rfl⟩
  case round =>
    obtain ⟨k, g, rfl, hk, rfl, HF⟩ := hrel
    rcases Nat.eq_zero_or_pos k with rfl | hk0
    · have E : Hid (pos l (s1, s2) l.length = 0) := by show _ = _; rw [← HF.out]; rfl
      go_wp2_with fail
      go_quiet (fail)
      obtain ⟨g2, hg2⟩ : ∃ g2 : Gr (w.alloc (.cells #[.int .i64 s1, .int .i64 s2] 34)), g.val.drewN nq = g2.val := g.on (drewN_below _ _)
      rw [hg2]
      clear hg2
      have hkl : 0 ≤ l.length := by omega
      obtain ⟨A1, A2, hs1, hs2, hT, hD⟩ := HA.out.cut (P := Tryz.prog) (t := 38) (s := 2) hkl (sv_len l) (by kernel_rfl) (fun w' => by kernel_rfl)
      simp only [show ((0 : Nat) : Int) = 0 from rfl] at hs1 hs2
      rw [sv_take] at hT
      rw [sv_drop] at hD
      have HT := Lib.hid (hT.below (g2.below1) (Nat.le_refl _))
      have HD := Lib.hid (hD.below (g2.below1) (Nat.le_refl _))
      have HPU : Hid (sv (l.take (0)) ++ [.int .i64 s1, .int .i64 s2] ++ sv (l.drop (0)) = sv (putL l (s1, s2))) := by show _ = _; rw [HP.out, E.out, sv_app, sv_app]; rfl
      have hmx1 : 0 + (0) ≤ maxLen := by unfold maxLen; omega
      have hmx2 : (0) + 1 ≤ maxLen := by unfold maxLen; omega
      have hmx3 : (0) + 1 + (l.length - (0)) ≤ maxLen := by unfold maxLen; omega
      have ho1 := Lib.hid (sv_one (l := l.take (0)))
      have ho2 := Lib.hid (sv_one (l := l.drop (0)))
      have HG2 := Lib.hid g2.below1
      clear hT hD
      have hl1 : (sv (l.take (0))).length = (0) * 2 := by rw [sv_len, List.length_take]; omega
      have hl2 : (sv (l.drop (0))).length = (l.length - (0)) * 2 := by rw [sv_len, List.length_drop]
      go_upto_region 6 with (refine wpList_append_sl rfl _ _ _ (by rfl) g2.val.heap.size 34 i0 _ 2 16 Tryz.underlying38 hi0 hq0 hq1 hq2 rfl (by decide) (.slice (some ⟨g2.val.heap.size, 0, none⟩) 0 0) 0 [] (by rfl) (World.ownsRow_made (base := g2.val.heap.size) g2.val #[] 0 (Nat.le_refl _) (by decide) rfl) A1 (0) c (sv (l.take (0))) (by rfl) (HT.out.alloc _) hl1 ho1.out hmx1 (by omega) (by simp) ?_; intro v1 w1 o1 gr1)
      have hB1 : Below g2.val.heap.size g2.val w1 := ((Below.refl _ _).alloc (Nat.le_refl _) _).grown gr1 (by simp) (by simp [Value.ownBlock])
      have f0 := cell_old (F0 g2) hB1
      have f1 := cell_old (F1 g2) hB1
      have W1 := Lib.hid hB1
      have O1 : Hid (w1.ownsRow g2.val.heap.size 34 2 v1 (0) (sv (l.take (0)))) := by show World.ownsRow _ _ _ _ _ _ _; simpa using o1
      clear hB1
      obtain ⟨g3, rfl⟩ := Gr.of W1.out
      have HGS := Lib.hid g3.size
      clear o1 gr1
      go_upto_region 7 with (refine wpList_append_lies _ rfl _ _ _ (by rfl) g2.val.heap.size 34 i0 _ 2 16 Tryz.underlying38 hi0 hq0 hq1 hq2 rfl (by decide) v1 (0) _ (by rfl) (O1.out.alloc _) ⟨g3.val.heap.size, 0, none⟩ 1 1 [.int .i64 s1, .int .i64 s2] (by rfl) (by rfl) (World.news_of_block (cs := #[.int .i64 s1, .int .i64 s2]) (t := 34) (fr := (0, 0)) (heap_alloc_new _ _)) (by simp [Value.oneCell']) (Nat.lt_succ_self 0) hmx2 (by omega) (by simp; have := HGS.out; omega) _ rfl ?_; intro gg cap2 w5 o3 gr3 hat3 hlt3)
      have W5 : Hid (Below g2.val.heap.size g2.val w5) := (g3.ok.alloc HGS.out _).grown gr3 (by simp; have := HGS.out; omega) (fun kk hk => (O1.out.lt kk hk).1)
      have O3 := Lib.hid o3
      have HD5 := Lib.hid (HD.out.below W5.out (Nat.le_refl _))
      clear o3 gr3 hat3 f0 f1
      go_wp2_with (refine wpList_append_sl rfl _ _ _ (by rfl) g2.val.heap.size 34 i0 _ 2 16 Tryz.underlying38 hi0 hq0 hq1 hq2 rfl (by decide) (.slice (some ⟨gg, 0, none⟩) ((0) + 1) cap2) ((0) + 1) _ (by rfl) O3.out A2 (l.length - (0)) (c - (0)) (sv (l.drop (0))) (by rfl) HD5.out hl2 ho2.out hmx3 (by omega) W5.out.size ?_; intro v6 w6 o6 gr6)
      have W6 : Hid (Below g2.val.heap.size g2.val w6) := W5.out.grown gr6 W5.out.size (fun kk hk => (O3.out.lt kk hk).1)
      rw [HPU.out] at o6
      have hln : (0) + 1 + (l.length - (0)) = (putL l (s1, s2)).length := by rw [putL_len]; omega
      rw [hln] at o6
      obtain ⟨A6, c6, rfl, hS6⟩ := Sl.of_own o6
      have HS6 := Lib.hid hS6
      clear o6 gr6 hS6
      go_wp2_with fail
      go_ret
      exact ⟨A6, c6, rfl, HS6.out, HG2.out.trans (W6.out.mono (Nat.le_trans (by simp) g2.size))⟩
    · obtain ⟨j, rfl⟩ : ∃ j, k = j + 1 := ⟨k - 1, by omega⟩
      obtain ⟨t, ht⟩ : ∃ t, l[j]? = some t := ⟨_, List.getElem?_eq_getElem (by omega)⟩
      have hpos : pos l (s1, s2) (j + 1) = if gtS t (s1, s2) then pos l (s1, s2) j else j + 1 := by rw [pos, List.getD_eq_getElem?_getD, ht]; rfl
      have HFj := HF.out
      rw [hpos] at HFj
      obtain ⟨b, off, rfl, hbs, hce⟩ := HA.out.spanG ht
      have g1 := (hce ⟨_, g.below1⟩).1
      have g2 := (hce ⟨_, g.below1⟩).2
      simp only at g1 g2
      have F0g := F0 g
      have F1g := F1 g
      have hj : (j : Int) < l.length := by omega
      have e5 : decide ((0 : Int) < (j : Int) + 1) = true := decide_eq_true (by omega)
      have e6 : (0 : Int) < (j : Int) + 1 := by omega
      obtain ⟨t1, t2⟩ := t
      simp only at g1 g2
      clear hce ht hpos
      by_cases e1 : s1 < t1
      · rw [if_pos (show gtS (t1, t2) (s1, s2) from .inl e1)] at HFj
        have e1b : decide (s1 < t1) = true := decide_eq_true e1
        have HN := Lib.hid HFj
        clear HFj
        go_wp2_with fail
        go_quiet (fail)
        obtain ⟨g4, hg4⟩ : ∃ g4 : Gr (w.alloc (.cells #[.int .i64 s1, .int .i64 s2] 34)), g.val.drewN nq = g4.val := g.on (drewN_below _ _)
        rw [hg4]
        clear hg4
        go_wp2_with fail
        go_roundw
        case rel => exact ⟨j, g4, rfl, by omega, by go_num, HN.out⟩
        case measure => simp [intOf]
      · have e1b : decide (s1 < t1) = false := decide_eq_false e1
        by_cases e2 : t1 = s1
        · have e2b : (t1 == s1) = true := by simpa using e2
          by_cases e3 : s2 < t2
          · rw [if_pos (show gtS (t1, t2) (s1, s2) from .inr ⟨e2, e3⟩)] at HFj
            have e3b : decide (s2 < t2) = true := decide_eq_true e3
            clear e2
            have HN := Lib.hid HFj
            clear HFj
            go_wp2_with fail
            go_quiet (fail)
            obtain ⟨g4, hg4⟩ : ∃ g4 : Gr (w.alloc (.cells #[.int .i64 s1, .int .i64 s2] 34)), g.val.drewN nq = g4.val := g.on (drewN_below _ _)
            rw [hg4]
            clear hg4
            go_wp2_with fail
            go_roundw
            case rel => exact ⟨j, g4, rfl, by omega, by go_num, HN.out⟩
            case measure => simp [intOf]
          · rw [if_neg (show ¬ gtS (t1, t2) (s1, s2) from fun h => h.elim e1 (fun h => e3 h.2))] at HFj
            have e3b : decide (s2 < t2) = false := decide_eq_false e3
            have E : Hid (pos l (s1, s2) l.length = j + 1) := HFj.symm
            clear e2 HFj
            go_wp2_with fail
            go_quiet (fail)
            obtain ⟨g2, hg2⟩ : ∃ g2 : Gr (w.alloc (.cells #[.int .i64 s1, .int .i64 s2] 34)), g.val.drewN nq = g2.val := g.on (drewN_below _ _)
            rw [hg2]
            clear hg2
            have hkl : j + 1 ≤ l.length := by omega
            obtain ⟨A1, A2, hs1, hs2, hT, hD⟩ := HA.out.cut (P := Tryz.prog) (t := 38) (s := 2) hkl (sv_len l) (by kernel_rfl) (fun w' => by kernel_rfl)
            simp only [show ((j + 1 : Nat) : Int) = (j : Int) + 1 from rfl] at hs1 hs2
            rw [sv_take] at hT
            rw [sv_drop] at hD
            have HT := Lib.hid (hT.below (g2.below1) (Nat.le_refl _))
            have HD := Lib.hid (hD.below (g2.below1) (Nat.le_refl _))
            have HPU : Hid (sv (l.take (j + 1)) ++ [.int .i64 s1, .int .i64 s2] ++ sv (l.drop (j + 1)) = sv (putL l (s1, s2))) := by show _ = _; rw [HP.out, E.out, sv_app, sv_app]; rfl
            have hmx1 : 0 + (j + 1) ≤ maxLen := by unfold maxLen; omega
            have hmx2 : (j + 1) + 1 ≤ maxLen := by unfold maxLen; omega
            have hmx3 : (j + 1) + 1 + (l.length - (j + 1)) ≤ maxLen := by unfold maxLen; omega
            have ho1 := Lib.hid (sv_one (l := l.take (j + 1)))
            have ho2 := Lib.hid (sv_one (l := l.drop (j + 1)))
            have HG2 := Lib.hid g2.below1
            clear hT hD
            have hl1 : (sv (l.take (j + 1))).length = (j + 1) * 2 := by rw [sv_len, List.length_take]; omega
            have hl2 : (sv (l.drop (j + 1))).length = (l.length - (j + 1)) * 2 := by rw [sv_len, List.length_drop]
            go_upto_region 6 with (refine wpList_append_sl rfl _ _ _ (by rfl) g2.val.heap.size 34 i0 _ 2 16 Tryz.underlying38 hi0 hq0 hq1 hq2 rfl (by decide) (.slice (some ⟨g2.val.heap.size, 0, none⟩) 0 0) 0 [] (by rfl) (World.ownsRow_made (base := g2.val.heap.size) g2.val #[] 0 (Nat.le_refl _) (by decide) rfl) A1 (j + 1) c (sv (l.take (j + 1))) (by rfl) (HT.out.alloc _) hl1 ho1.out hmx1 (by omega) (by simp) ?_; intro v1 w1 o1 gr1)
            have hB1 : Below g2.val.heap.size g2.val w1 := ((Below.refl _ _).alloc (Nat.le_refl _) _).grown gr1 (by simp) (by simp [Value.ownBlock])
            have f0 := cell_old (F0 g2) hB1
            have f1 := cell_old (F1 g2) hB1
            have W1 := Lib.hid hB1
            have O1 : Hid (w1.ownsRow g2.val.heap.size 34 2 v1 (j + 1) (sv (l.take (j + 1)))) := by show World.ownsRow _ _ _ _ _ _ _; simpa using o1
            clear hB1
            obtain ⟨g3, rfl⟩ := Gr.of W1.out
            have HGS := Lib.hid g3.size
            clear o1 gr1
            go_upto_region 7 with (refine wpList_append_lies _ rfl _ _ _ (by rfl) g2.val.heap.size 34 i0 _ 2 16 Tryz.underlying38 hi0 hq0 hq1 hq2 rfl (by decide) v1 (j + 1) _ (by rfl) (O1.out.alloc _) ⟨g3.val.heap.size, 0, none⟩ 1 1 [.int .i64 s1, .int .i64 s2] (by rfl) (by rfl) (World.news_of_block (cs := #[.int .i64 s1, .int .i64 s2]) (t := 34) (fr := (0, 0)) (heap_alloc_new _ _)) (by simp [Value.oneCell']) (Nat.lt_succ_self 0) hmx2 (by omega) (by simp; have := HGS.out; omega) _ rfl ?_; intro gg cap2 w5 o3 gr3 hat3 hlt3)
            have W5 : Hid (Below g2.val.heap.size g2.val w5) := (g3.ok.alloc HGS.out _).grown gr3 (by simp; have := HGS.out; omega) (fun kk hk => (O1.out.lt kk hk).1)
            have O3 := Lib.hid o3
            have HD5 := Lib.hid (HD.out.below W5.out (Nat.le_refl _))
            clear o3 gr3 hat3 f0 f1
            go_wp2_with (refine wpList_append_sl rfl _ _ _ (by rfl) g2.val.heap.size 34 i0 _ 2 16 Tryz.underlying38 hi0 hq0 hq1 hq2 rfl (by decide) (.slice (some ⟨gg, 0, none⟩) ((j + 1) + 1) cap2) ((j + 1) + 1) _ (by rfl) O3.out A2 (l.length - (j + 1)) (c - (j + 1)) (sv (l.drop (j + 1))) (by rfl) HD5.out hl2 ho2.out hmx3 (by omega) W5.out.size ?_; intro v6 w6 o6 gr6)
            have W6 : Hid (Below g2.val.heap.size g2.val w6) := W5.out.grown gr6 W5.out.size (fun kk hk => (O3.out.lt kk hk).1)
            rw [HPU.out] at o6
            have hln : (j + 1) + 1 + (l.length - (j + 1)) = (putL l (s1, s2)).length := by rw [putL_len]; omega
            rw [hln] at o6
            obtain ⟨A6, c6, rfl, hS6⟩ := Sl.of_own o6
            have HS6 := Lib.hid hS6
            clear o6 gr6 hS6
            go_wp2_with fail
            go_ret
            exact ⟨A6, c6, rfl, HS6.out, HG2.out.trans (W6.out.mono (Nat.le_trans (by simp) g2.size))⟩
        · rw [if_neg (show ¬ gtS (t1, t2) (s1, s2) from fun h => h.elim e1 (fun h => e2 h.1))] at HFj
          have e2b : (t1 == s1) = false := beq_false_of_ne e2
          have E : Hid (pos l (s1, s2) l.length = j + 1) := HFj.symm
          clear HFj
          go_wp2_with fail
          go_quiet (fail)
          obtain ⟨g2, hg2⟩ : ∃ g2 : Gr (w.alloc (.cells #[.int .i64 s1, .int .i64 s2] 34)), g.val.drewN nq = g2.val := g.on (drewN_below _ _)
          rw [hg2]
          clear hg2
          have hkl : j + 1 ≤ l.length := by omega
          obtain ⟨A1, A2, hs1, hs2, hT, hD⟩ := HA.out.cut (P := Tryz.prog) (t := 38) (s := 2) hkl (sv_len l) (by kernel_rfl) (fun w' => by kernel_rfl)
          simp only [show ((j + 1 : Nat) : Int) = (j : Int) + 1 from rfl] at hs1 hs2
          rw [sv_take] at hT
          rw [sv_drop] at hD
          have HT := Lib.hid (hT.below (g2.below1) (Nat.le_refl _))
          have HD := Lib.hid (hD.below (g2.below1) (Nat.le_refl _))
          have HPU : Hid (sv (l.take (j + 1)) ++ [.int .i64 s1, .int .i64 s2] ++ sv (l.drop (j + 1)) = sv (putL l (s1, s2))) := by show _ = _; rw [HP.out, E.out, sv_app, sv_app]; rfl
          have hmx1 : 0 + (j + 1) ≤ maxLen := by unfold maxLen; omega
          have hmx2 : (j + 1) + 1 ≤ maxLen := by unfold maxLen; omega
          have hmx3 : (j + 1) + 1 + (l.length - (j + 1)) ≤ maxLen := by unfold maxLen; omega
          have ho1 := Lib.hid (sv_one (l := l.take (j + 1)))
          have ho2 := Lib.hid (sv_one (l := l.drop (j + 1)))
          have HG2 := Lib.hid g2.below1
          clear hT hD
          have hl1 : (sv (l.take (j + 1))).length = (j + 1) * 2 := by rw [sv_len, List.length_take]; omega
          have hl2 : (sv (l.drop (j + 1))).length = (l.length - (j + 1)) * 2 := by rw [sv_len, List.length_drop]
          go_upto_region 6 with (refine wpList_append_sl rfl _ _ _ (by rfl) g2.val.heap.size 34 i0 _ 2 16 Tryz.underlying38 hi0 hq0 hq1 hq2 rfl (by decide) (.slice (some ⟨g2.val.heap.size, 0, none⟩) 0 0) 0 [] (by rfl) (World.ownsRow_made (base := g2.val.heap.size) g2.val #[] 0 (Nat.le_refl _) (by decide) rfl) A1 (j + 1) c (sv (l.take (j + 1))) (by rfl) (HT.out.alloc _) hl1 ho1.out hmx1 (by omega) (by simp) ?_; intro v1 w1 o1 gr1)
          have hB1 : Below g2.val.heap.size g2.val w1 := ((Below.refl _ _).alloc (Nat.le_refl _) _).grown gr1 (by simp) (by simp [Value.ownBlock])
          have f0 := cell_old (F0 g2) hB1
          have f1 := cell_old (F1 g2) hB1
          have W1 := Lib.hid hB1
          have O1 : Hid (w1.ownsRow g2.val.heap.size 34 2 v1 (j + 1) (sv (l.take (j + 1)))) := by show World.ownsRow _ _ _ _ _ _ _; simpa using o1
          clear hB1
          obtain ⟨g3, rfl⟩ := Gr.of W1.out
          have HGS := Lib.hid g3.size
          clear o1 gr1
          go_upto_region 7 with (refine wpList_append_lies _ rfl _ _ _ (by rfl) g2.val.heap.size 34 i0 _ 2 16 Tryz.underlying38 hi0 hq0 hq1 hq2 rfl (by decide) v1 (j + 1) _ (by rfl) (O1.out.alloc _) ⟨g3.val.heap.size, 0, none⟩ 1 1 [.int .i64 s1, .int .i64 s2] (by rfl) (by rfl) (World.news_of_block (cs := #[.int .i64 s1, .int .i64 s2]) (t := 34) (fr := (0, 0)) (heap_alloc_new _ _)) (by simp [Value.oneCell']) (Nat.lt_succ_self 0) hmx2 (by omega) (by simp; have := HGS.out; omega) _ rfl ?_; intro gg cap2 w5 o3 gr3 hat3 hlt3)
          have W5 : Hid (Below g2.val.heap.size g2.val w5) := (g3.ok.alloc HGS.out _).grown gr3 (by simp; have := HGS.out; omega) (fun kk hk => (O1.out.lt kk hk).1)
          have O3 := Lib.hid o3
          have HD5 := Lib.hid (HD.out.below W5.out (Nat.le_refl _))
          clear o3 gr3 hat3 f0 f1
          go_wp2_with (refine wpList_append_sl rfl _ _ _ (by rfl) g2.val.heap.size 34 i0 _ 2 16 Tryz.underlying38 hi0 hq0 hq1 hq2 rfl (by decide) (.slice (some ⟨gg, 0, none⟩) ((j + 1) + 1) cap2) ((j + 1) + 1) _ (by rfl) O3.out A2 (l.length - (j + 1)) (c - (j + 1)) (sv (l.drop (j + 1))) (by rfl) HD5.out hl2 ho2.out hmx3 (by omega) W5.out.size ?_; intro v6 w6 o6 gr6)
          have W6 : Hid (Below g2.val.heap.size g2.val w6) := W5.out.grown gr6 W5.out.size (fun kk hk => (O3.out.lt kk hk).1)
          rw [HPU.out] at o6
          have hln : (j + 1) + 1 + (l.length - (j + 1)) = (putL l (s1, s2)).length := by rw [putL_len]; omega
          rw [hln] at o6
          obtain ⟨A6, c6, rfl, hS6⟩ := Sl.of_own o6
          have HS6 := Lib.hid hS6
          clear o6 gr6 hS6
          go_wp2_with fail
          go_ret
          exact ⟨A6, c6, rfl, HS6.out, HG2.out.trans (W6.out.mono (Nat.le_trans (by simp) g2.size))⟩
end Go.Proofs.YtfjmofefciopmaaGreat
end
