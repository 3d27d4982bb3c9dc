/- Contracts of the document's rows: pairs, forms. -/
import Derived.Test.YtdpgmhjhmccfnaaSW3
import Derived.Test.YtdpgmhjhmccfnaaSW4
namespace Go.Proofs.Ytdpgmhjhmccfnaa
open Go.ChangeShapes Go.WideShapes Go.ChangeAt Go.RowKit Go.Joins Sp

/-- What a pair is of, by its kind. -/
def cK (k : Int) (x y : Bool) : Bool := if k = 1 then x && y else if 1 < k then x && !y else x || y
theorem cK_ff (k : Int) : cK k false false = false := by unfold cK; split <;> (try split) <;> rfl
theorem bool_info : (Try.prog.info? 4).map (fun i => (i.zero, i.size, i.bytes)) = some (some (.bool false), 1, 1) := by kernel_rfl
theorem edges_len (a b : List Spn) : (edges a b).length ≤ 2 * a.length + 2 * b.length := by
  unfold edges
  have h1 := edg_len b (edg [] a)
  have h2 := edg_len a []
  simp at h2
  omega

set_option maxRecDepth 100000 in
set_option maxHeartbeats 2000000 in
theorem rpair_any (a b : List Spn) (A B : Option Addr) (ca cb : Nat) (k : Int) (w : World) (hla : a.length ≤ 1000) (hlb : b.length ≤ 1000) (ha : Sl w A a.length ca (sv a)) (hb : Sl w B b.length cb (sv b)) :
    Calls Try.prog 19 #[.slice A a.length ca, .slice B b.length cb, .int .i64 k] w (RetS (pair (cK k) a b) w) := by
  have hel := edges_len a b
  have HE := Lib.hid (redges_any a b A B ca cb w hla hlb ha hb)
  obtain ⟨p, hp⟩ : ∃ p : Int → Bool, p = fun z => cK k (hasB a z) (hasB b z) := ⟨_, rfl⟩
  have hpr : pair (cK k) a b = bld p (edges a b) := by rw [hp]; rfl
  rw [hpr]
  have HP := Lib.hid hp
  clear hp hpr
  have HA := Lib.hid ha
  have HB := Lib.hid hb
  clear ha hb
  generalize edges a b = e at *
  obtain ⟨i0, hi0, hq0, hq1, hq2⟩ := info_parts bool_info
  go_enter Try.func19, Try.ntmps19
  go_wp2_with fail
  go_at_call 33
  refine HE.out.mono ?_
  rintro e1 w1 ⟨E, ce, rfl, hsl, hbel⟩
  obtain ⟨g, rfl⟩ := Gr.of hbel
  have HSE := Lib.hid hsl
  clear hsl hbel HE
  go_wp2_with fail
  go_loopw [8, 19] (fun s8 s19 wr => ∃ (i gb cap : Nat) (g2 : Gr g.val), wr = g2.val ∧ i ≤ e.length ∧ s19 = .int .i64 i ∧ s8 = .slice (some ⟨gb, 0, none⟩) i cap ∧ g.val.heap.size ≤ gb ∧ Hid (g2.val.ownsRow g.val.heap.size 4 1 (.slice (some ⟨gb, 0, none⟩) i cap) i (bv ((e.map p).take i)))) (fun _ s19 _ => e.length - (intOf s19).toNat)
  case atStart => exact ⟨0, g.val.heap.size, 0, ⟨_, (Below.refl _ _).alloc (Nat.le_refl _) _⟩, rfl, Nat.zero_le _, rfl, rfl, Nat.le_refl _, World.ownsRow_made (base := g.val.heap.size) g.val #[] 0 (Nat.le_refl _) (by decide) rfl⟩
  case round =>
    obtain ⟨i, gb, cap, g2, rfl, hi, rfl, rfl, hgb, HOW⟩ := hrel
    by_cases hlt : i < e.length
    · have hiz : (i : Int) < e.length := by omega
      obtain ⟨pe, oe, rfl, hpe, hce⟩ := HSE.out.intG (List.getElem?_eq_getElem hlt)
      have hc := hce g2
      clear hce
      have HST : Hid (bv ((e.map p).take i) ++ [.bool (p e[i])] = bv ((e.map p).take (i + 1))) := by show _ = _; rw [take_step (l := e.map p) (by simpa using hlt), bv_app]; simp [bv]
      generalize hz : e[i] = z at *
      clear hz
      have H1 := Lib.hid (fun G : Gr w => rhas_any a A ca z G.val (HA.out.gr G))
      have H2 := Lib.hid (fun G : Gr w => rhas_any b B cb z G.val (HB.out.gr G))
      have hpz : p z = cK k (hasB a z) (hasB b z) := by rw [HP.out]
      rw [hpz] at HST
      clear hpz
      generalize hasB a z = X at *
      generalize hasB b z = Y at *
      obtain ⟨G, hG⟩ : ∃ G : Gr w, g2.val = G.val := ⟨⟨g2.val, g.ok.trans (g2.ok.mono g.size)⟩, rfl⟩
      have HN1 := Lib.hid (H1.out ⟨g2.val, g.ok.trans (g2.ok.mono g.size)⟩)
      have HN2 := Lib.hid (H2.out ⟨g2.val, g.ok.trans (g2.ok.mono g.size)⟩)
      clear hG G H1 H2
      go_wp2_with fail
      go_at_call 15
      refine HN1.out.mono ?_
      rintro e2 w2 ⟨rfl, rfl⟩
      go_wp2_with fail
      go_at_call 15
      refine HN2.out.mono ?_
      rintro e2 w2 ⟨rfl, rfl⟩
      obtain ⟨v, hv⟩ : ∃ v, cK k X Y = v := ⟨_, rfl⟩
      rw [hv] at HST
      have hk : (k = 1 ∧ (k == 1) = true ∧ decide (1 < k) = false) ∨ (¬ k = 1 ∧ (k == 1) = false ∧ 1 < k ∧ decide (1 < k) = true) ∨ (¬ k = 1 ∧ (k == 1) = false ∧ ¬ 1 < k ∧ decide (1 < k) = false) := by
        by_cases h1 : k = 1
        · exact .inl ⟨h1, by simpa using h1, decide_eq_false (by omega)⟩
        · by_cases h2 : 1 < k
          · exact .inr (.inl ⟨h1, by simpa using h1, h2, decide_eq_true h2⟩)
          · exact .inr (.inr ⟨h1, by simpa using h1, h2, decide_eq_false h2⟩)
      have hV : (k = 1 → v = (X && Y)) ∧ (¬ k = 1 → 1 < k → v = (X && !Y)) ∧ (¬ k = 1 → ¬ 1 < k → v = (X || Y)) := by
        rw [← hv]; unfold cK
        exact ⟨fun h => by rw [if_pos h], fun h h2 => by rw [if_neg h, if_pos h2], fun h h2 => by rw [if_neg h, if_neg h2]⟩
      have hsz : g.val.heap.size ≤ g2.val.heap.size := g2.size
      have hmx : i + 1 ≤ maxLen := by unfold maxLen; omega
      have hby : (i + 1) * 1 ≤ 140737488355328 := by omega
      have hbs : g.val.heap.size ≤ g2.val.heap.size + 1 := by omega
      have HGR := Lib.hid (fun (o : Obj) (w3 : World) (h : (g2.val.alloc o).grownBy w3 (some gb)) => (g2.ok.alloc g2.ok.size o).grown h (by simp; omega) (fun k hk => by obtain rfl := Option.some.inj hk; exact hgb))
      clear hv
      have key : ∀ (v0 : Bool), v = v0 → Hid (bv ((e.map p).take i) ++ [.bool v0] = bv ((e.map p).take (i + 1))) := fun v0 h => by rw [← h]; exact HST
      clear HST
      rcases hk with ⟨h1, h2, h3⟩ | ⟨h1, h2, h3, h4⟩ | ⟨h1, h2, h3, h4⟩
      · have hv := hV.1 h1
        clear hV
        cases X <;> cases Y
        all_goals
          have HST := key _ hv
          clear key hv h1
          try simp only [Bool.and_true, Bool.and_false, Bool.false_and, Bool.true_and, Bool.not_true, Bool.not_false, Bool.or_true, Bool.or_false, Bool.true_or, Bool.false_or] at HST
          go_wp2_with (at_builtin; refine wpList_append_lies _ rfl _ _ _ rfl g.val.heap.size 4 i0 (.bool false) 1 1 Try.underlying50 hi0 hq0 hq1 hq2 rfl (by decide) (.slice (some ⟨gb, 0, none⟩) i cap) i _ rfl (HOW.out.alloc _) ⟨g2.val.heap.size, 0, none⟩ 1 1 [.bool _] rfl rfl (World.news_of_block (fr := (0, 0)) (heap_alloc_new g2.val _)) (by simp [Value.oneCell']) (Nat.lt_succ_self 0) hmx hby (by simpa using hbs) (g2.val.heap.size + 1) (by simp) ?_)
          intro gg cap2 w3 hown1 hgrow hat hlt2
          go_wp2_with fail
          go_roundw
          case rel => exact ⟨i + 1, gg, cap2, ⟨w3, HGR.out _ _ hgrow⟩, rfl, hlt, by go_num, rfl, (hown1.lt gg rfl).1, by show World.ownsRow _ _ _ _ _ _ _; rw [← HST.out]; exact hown1⟩
          case measure => simp [intOf]; omega
      · have hv := hV.2.1 h1 h3
        clear hV
        cases X <;> cases Y
        all_goals
          have HST := key _ hv
          clear key hv h1
          try simp only [Bool.and_true, Bool.and_false, Bool.false_and, Bool.true_and, Bool.not_true, Bool.not_false, Bool.or_true, Bool.or_false, Bool.true_or, Bool.false_or] at HST
          go_wp2_with (at_builtin; refine wpList_append_lies _ rfl _ _ _ rfl g.val.heap.size 4 i0 (.bool false) 1 1 Try.underlying50 hi0 hq0 hq1 hq2 rfl (by decide) (.slice (some ⟨gb, 0, none⟩) i cap) i _ rfl (HOW.out.alloc _) ⟨g2.val.heap.size, 0, none⟩ 1 1 [.bool _] rfl rfl (World.news_of_block (fr := (0, 0)) (heap_alloc_new g2.val _)) (by simp [Value.oneCell']) (Nat.lt_succ_self 0) hmx hby (by simpa using hbs) (g2.val.heap.size + 1) (by simp) ?_)
          intro gg cap2 w3 hown1 hgrow hat hlt2
          go_wp2_with fail
          go_roundw
          case rel => exact ⟨i + 1, gg, cap2, ⟨w3, HGR.out _ _ hgrow⟩, rfl, hlt, by go_num, rfl, (hown1.lt gg rfl).1, by show World.ownsRow _ _ _ _ _ _ _; rw [← HST.out]; exact hown1⟩
          case measure => simp [intOf]; omega
      · have hv := hV.2.2 h1 h3
        clear hV
        cases X <;> cases Y
        all_goals
          have HST := key _ hv
          clear key hv h1
          try simp only [Bool.and_true, Bool.and_false, Bool.false_and, Bool.true_and, Bool.not_true, Bool.not_false, Bool.or_true, Bool.or_false, Bool.true_or, Bool.false_or] at HST
          go_wp2_with (at_builtin; refine wpList_append_lies _ rfl _ _ _ rfl g.val.heap.size 4 i0 (.bool false) 1 1 Try.underlying50 hi0 hq0 hq1 hq2 rfl (by decide) (.slice (some ⟨gb, 0, none⟩) i cap) i _ rfl (HOW.out.alloc _) ⟨g2.val.heap.size, 0, none⟩ 1 1 [.bool _] rfl rfl (World.news_of_block (fr := (0, 0)) (heap_alloc_new g2.val _)) (by simp [Value.oneCell']) (Nat.lt_succ_self 0) hmx hby (by simpa using hbs) (g2.val.heap.size + 1) (by simp) ?_)
          intro gg cap2 w3 hown1 hgrow hat hlt2
          go_wp2_with fail
          go_roundw
          case rel => exact ⟨i + 1, gg, cap2, ⟨w3, HGR.out _ _ hgrow⟩, rfl, hlt, by go_num, rfl, (hown1.lt gg rfl).1, by show World.ownsRow _ _ _ _ _ _ _; rw [← HST.out]; exact hown1⟩
          case measure => simp [intOf]; omega
    · obtain rfl : i = e.length := by omega
      have HOB := Lib.hid (Sl.own_ HOW.out)
      rw [List.take_of_length_le (by simp)] at HOB
      have HBU := Lib.hid (rbuild_any e p E (some ⟨gb, 0, none⟩) ce cap g2.val (by omega) (HSE.out.gr g2) HOB.out)
      go_wp2_with fail
      go_at_call 34
      refine HBU.out.mono ?_
      rintro e4 w4 ⟨A4, c4, rfl, h4, hb4⟩
      go_wp2_with fail
      go_ret
      exact ⟨A4, c4, rfl, h4, (g.ok.trans (g2.ok.mono g.size)).trans (hb4.mono (Nat.le_trans g.size g2.size))⟩

theorem rform_any (a : List Spn) (A : Option Addr) (ca : Nat) (w : World) (hla : a.length ≤ 1000) (ha : Sl w A a.length ca (sv a)) :
    Calls Try.prog 11 #[.slice A a.length ca] w (RetS (pair (cK 0) a []) w) := by
  have HP := Lib.hid (rpair_any a [] A (some ⟨w.heap.size, 0, none⟩) ca 0 0 (w.alloc (.cells #[] 32)) hla (by simp) (ha.alloc _) (Sl.new w [] 0 32 (0, 0) (by decide)))
  clear ha
  go_enter Try.func11, Try.ntmps11
  go_wp2_with fail
  go_at_call 19
  refine HP.out.mono ?_
  rintro e w' ⟨A', c', rfl, h, hb⟩
  go_wp2_with fail
  go_ret
  exact ⟨A', c', rfl, h, ((Below.refl _ w).alloc (Nat.le_refl _) _).trans (hb.mono (by simp))⟩
end Go.Proofs.Ytdpgmhjhmccfnaa
