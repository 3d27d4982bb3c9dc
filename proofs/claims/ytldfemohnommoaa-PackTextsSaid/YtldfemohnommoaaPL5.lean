/- The laws' walks: rows of texts. -/
import Derived.Test.YtldfemohnommoaaPL1
import Derived.Test.YtldfemohnommoaaSS
import Derived.Deep.RegionWith
import Derived.BigRegion
import Derived.Deep.QuietTactic
import Derived.BigQuiet
namespace Go.Proofs.Ytldfemohnommoaa
open Go.ChangeShapes Go.WideShapes Go.ChangeAt Go.RowKit Go.Joins Fr Pk

def textsT : List ByteArray → List UInt8
  | [] => []
  | s :: r => textT s.data.toList ++ textsT r
theorem texts_snoc (l : List ByteArray) (s : ByteArray) : textsT (l ++ [s]) = textsT l ++ textT s.data.toList := by
  induction l with
  | nil => simp [textsT]
  | cons a r ih => simp [textsT, ih]
theorem texts_inj : ∀ {a b : List ByteArray}, a.length = b.length → textsT a = textsT b → a = b
  | [], [], _, _ => rfl
  | [], _ :: _, h, _ => by simp at h
  | _ :: _, [], h, _ => by simp at h
  | x :: a, y :: b, h, e => by
    obtain ⟨h1, h2⟩ := text_app e
    have hx : x = y := by cases x; cases y; simp at h1; simp [h1]
    rw [hx, texts_inj (by simpa using h) h2]
theorem texts_len : ∀ {l : List ByteArray}, (∀ s ∈ l, s.size ≤ 200) → (textsT l).length ≤ 210 * l.length
  | [], _ => by simp [textsT]
  | s :: r, h => by
    have h1 := h s (by simp)
    have h2 := texts_len (l := r) fun t ht => h t (by simp [ht])
    have h3 := num_len10 (n := s.data.toList.length) (by have : s.data.toList.length = s.size := rfl; omega)
    have h4 : s.data.toList.length = s.size := rfl
    simp only [textsT, List.length_append, List.length_cons, textT] at h2 h3 ⊢
    omega

theorem txt_eq (s t : ByteArray) : (s.toList == t.toList) = decide (s = t) := by
  rw [ByteArray.toList_eq, ByteArray.toList_eq, Bool.eq_iff_iff]
  simp only [beq_iff_eq, decide_eq_true_eq]
  constructor
  · intro h; cases s; cases t; simp at h; simp [h]
  · rintro rfl; rfl
/-- Two writers that don't touch. -/
structure TwoIn (w0 w : World) (D E : Nat) (X Y : List UInt8) (F G : Nat → Prop) : Prop where
  x : WrAt w D X F
  y : WrAt w E Y G
  apart : ∀ k, F k → ¬ G k
  fB : ∀ k, F k → w0.heap.size ≤ k
  gB : ∀ k, G k → w0.heap.size ≤ k
  below : Below w0.heap.size w0 w
section
variable {w0 w w' : World} {D E : Nat} {X Y X' Y' : List UInt8} {F G : Nat → Prop}
theorem TwoIn.up (h : TwoIn w0 w D E X Y F G) (hb : Below w.heap.size w w') : TwoIn w0 w' D E X Y F G :=
  ⟨h.x.below hb, h.y.below hb, h.apart, h.fB, h.gB, h.below.trans (hb.mono h.below.size)⟩
theorem TwoIn.left (h : TwoIn w0 w D E X Y F G) (k : WrTo w w' D X' F) : ∃ F', TwoIn w0 w' D E X' Y F' G := by
  have hB := k.toBelow h.below.size h.fB
  obtain ⟨F', h1, o, i⟩ := k
  exact ⟨F', h1, h.y.off o fun b hb hf => h.apart b hf hb, fun b hb hg => (i b hb).elim (fun hf => h.apart b hf hg) fun hs => by have := h.y.lt b hg; omega, fun b hb => (i b hb).elim (h.fB b) fun hs => Nat.le_trans h.below.size hs, h.gB, h.below.trans hB⟩
theorem TwoIn.right (h : TwoIn w0 w D E X Y F G) (k : WrTo w w' E Y' G) : ∃ G', TwoIn w0 w' D E X Y' F G' := by
  have hB := k.toBelow h.below.size h.gB
  obtain ⟨G', h1, o, i⟩ := k
  exact ⟨G', h.x.off o fun b hb hg => h.apart b hb hg, h1, fun b hb hg => (i b hg).elim (fun hg => h.apart b hb hg) fun hs => by have := h.x.lt b hb; omega, h.fB, fun b hb => (i b hb).elim (h.gB b) fun hs => Nat.le_trans h.below.size hs, h.below.trans hB⟩
end

set_option maxRecDepth 100000 in
set_option maxHeartbeats 4000000 in
theorem packTexts_walk (a b : List ByteArray) (A B : Option Addr) (ca cb : Nat) (w : World) (hA : Sl w A a.length ca (stv a)) (hB : Sl w B b.length cb (stv b)) :
    Calls Try.prog 7 #[.slice A a.length ca, .slice B b.length cb] w fun e w' => e = .returned (.bool true) ∧ Below w.heap.size w w' := by
  have HF := Lib.hid (fixed8_any w)
  by_cases h50 : 50 < a.length
  · have hz : (50 : Int) < a.length := by omega
    clear hA hB h50
    go_enter Try.func7, Try.ntmps7
    go_wp2_with fail
    go_at_call 8
    refine HF.out.mono ?_
    rintro e w' ⟨rfl, hb⟩
    go_wp2_with fail
    go_ret
    exact ⟨rfl, hb⟩
  have hz : ¬ (50 : Int) < a.length := by omega
  by_cases hne : a.length = b.length
  case neg =>
    have hnz : ¬ (a.length : Int) = b.length := by omega
    have hnb : ((a.length : Int) != b.length) = true := by simpa using hnz
    clear hA hB h50 hne
    go_enter Try.func7, Try.ntmps7
    go_wp2_with fail
    go_at_call 8
    refine HF.out.mono ?_
    rintro e w' ⟨rfl, hb⟩
    go_wp2_with fail
    go_ret
    exact ⟨rfl, hb⟩
  have hnb : ((a.length : Int) != b.length) = false := by simp [hne]
  have HNE := Lib.hid hne
  have HA := Lib.hid hA
  have HB := Lib.hid hB
  have HN := Lib.hid (wr_new w)
  have hal : a.length ≤ 50 := by omega
  clear hA hB h50 hne
  go_enter Try.func7, Try.ntmps7
  go_wp2_with fail
  go_at_call 9
  refine HN.out.mono ?_
  rintro e w1 ⟨D, F, rfl, h1, b1, f1⟩
  have H1 := Lib.hid h1
  have B1 := Lib.hid b1
  have F1 := Lib.hid f1
  clear h1 b1 f1
  have HN2 := Lib.hid (wr_new w1)
  go_wp2_with fail
  go_at_call 9
  refine HN2.out.mono ?_
  rintro e w2 ⟨E, G, rfl, h2, b2, g2⟩
  have HT : Hid (∃ F G, TwoIn w w2 D E [] [] F G) := ⟨F, G, H1.out.below b2, h2, fun k hk hg => by have := H1.out.lt k hk; have := g2 k hg; omega, F1.out, fun k hk => Nat.le_trans B1.out.size (g2 k hk), B1.out.trans (b2.mono B1.out.size)⟩
  clear h2 b2 g2 HN HN2 H1 B1 F1
  go_wp2_with fail
  go_loopw [7, 24] (fun s7 s24 wr => ∃ (i : Nat), i ≤ a.length ∧ s7 = .bool (decide (a.take i = b.take i)) ∧ s24 = .int .i64 i ∧ Hid (∃ F G, TwoIn w wr D E (textsT (a.take i)) (textsT (b.take i)) F G) ∧ Hid ((∀ s ∈ a.take i, s.size ≤ 200) ∧ ∀ s ∈ b.take i, s.size ≤ 200)) (fun _ s24 _ => a.length - (intOf s24).toNat)
  case atStart => exact ⟨0, Nat.zero_le _, by simp, rfl, HT.out, ⟨fun s h => by simp at h, fun s h => by simp at h⟩⟩
  case round =>
    obtain ⟨i, hi, rfl, rfl, HT, HS⟩ := hrel
    obtain ⟨sm, hsm⟩ : ∃ sm, decide (a.take i = b.take i) = sm := ⟨_, rfl⟩
    rw [hsm]
    have HSM := Lib.hid hsm
    clear hsm
    obtain ⟨F, G, hT⟩ := HT.out
    by_cases hlt : i < a.length
    · have hiz : (i : Int) < a.length := by omega
      have hib : (i : Int) < b.length := by have := HNE.out; omega
      have hw1 : IntKind.i64.wrap ((i : Int) + 1) = i + 1 := by rw [IntKind.wrap_i64]; omega
      obtain ⟨s, hs⟩ : ∃ s, a[i]? = some s := ⟨_, List.getElem?_eq_getElem hlt⟩
      obtain ⟨t, ht⟩ : ∃ t, b[i]? = some t := ⟨_, List.getElem?_eq_getElem (by rw [← HNE.out]; exact hlt)⟩
      obtain ⟨ab, ao, rfl, hab, hac⟩ := HA.out.at_ (stv_at hs)
      obtain ⟨bb, bo, rfl, hbb, hbc⟩ := HB.out.at_ (stv_at ht)
      have HAC : Hid (∀ w', Below w.heap.size w w' → w'.cell? ⟨ab, ao + i, none⟩ = some (.string s) ∧ w'.cell? ⟨bb, bo + i, none⟩ = some (.string t)) := fun w' h => ⟨cell_old hac h, cell_old hbc h⟩
      obtain ⟨q1, q2⟩ := HAC.out wr hT.below
      have HTk : Hid (a.take (i + 1) = a.take i ++ [s] ∧ b.take (i + 1) = b.take i ++ [t]) := ⟨by rw [List.take_add_one, hs]; rfl, by rw [List.take_add_one, ht]; rfl⟩
      have HTT := Lib.hid hT
      have HF2 := Lib.hid (fixed8_any wr)
      have HBW := Lib.hid hT.below
      clear hac hbc hs ht hT
      by_cases h200 : 200 < s.size ∨ 200 < t.size
      · have hc : (decide ((200 : Int) < s.size) = true) ∨ (decide ((200 : Int) < s.size) = false ∧ decide ((200 : Int) < t.size) = true) := by
          by_cases h : 200 < s.size
          · exact .inl (decide_eq_true (by omega))
          · exact .inr ⟨decide_eq_false (by omega), decide_eq_true (by omega)⟩
        clear h200
        rcases hc with hc | ⟨hc, hc2⟩
        all_goals
          go_wp2_with fail
          go_at_call 8
          refine HF2.out.mono ?_
          rintro e w' ⟨rfl, hb⟩
          go_wp2_with fail
          go_ret
          exact ⟨rfl, HBW.out.trans (hb.mono HBW.out.size)⟩
      · have hc1 : decide ((200 : Int) < s.size) = false := decide_eq_false (by omega)
        have hc2 : decide ((200 : Int) < t.size) = false := decide_eq_false (by omega)
        have hlx := texts_len HS.out.1
        have hly := texts_len HS.out.2
        simp at hlx hly
        have HX := Lib.hid (wr_text_any D s _ F (by omega) wr HTT.out.x)
        have HY : Hid (∀ w' F', TwoIn w w' D E (textsT (a.take i) ++ textT s.data.toList) (textsT (b.take i)) F' G → _) := fun w' F' h => wr_text_any E t _ G (by omega) w' h.y
        clear h200 hlx hly
        go_wp2_with fail
        go_at_call 14
        refine HX.out.mono ?_
        rintro e w3 ⟨rfl, hT3⟩
        obtain ⟨F3, h3⟩ := HTT.out.left hT3
        have H3 := Lib.hid h3
        have HY3 := Lib.hid (HY.out _ _ h3)
        obtain ⟨r1, r2⟩ := HAC.out w3 h3.below
        clear h3 hT3 q1 q2
        go_wp2_with fail
        go_at_call 14
        refine HY3.out.mono ?_
        rintro e w4 ⟨rfl, hT4⟩
        obtain ⟨G4, h4⟩ := H3.out.right hT4
        have H4 := Lib.hid h4
        obtain ⟨q1, q2⟩ := HAC.out w4 h4.below
        clear h4 hT4 r1 r2
        have HS2 : Hid ((∀ x ∈ a.take (i + 1), x.size ≤ 200) ∧ ∀ x ∈ b.take (i + 1), x.size ≤ 200) := by
          refine ⟨fun x hx => ?_, fun x hx => ?_⟩
          · rw [HTk.out.1] at hx
            rcases List.mem_append.1 hx with hx | hx
            · exact HS.out.1 x hx
            · obtain rfl : x = s := by simpa using hx
              simp at hc1; omega
          · rw [HTk.out.2] at hx
            rcases List.mem_append.1 hx with hx | hx
            · exact HS.out.2 x hx
            · obtain rfl : x = t := by simpa using hx
              simp at hc2; omega
        have HE : Hid (decide (a.take (i + 1) = b.take (i + 1)) = (sm && decide (s = t))) := by
          show _ = _
          rw [HTk.out.1, HTk.out.2, ← HSM.out, ← Bool.decide_and]
          congr 1
          have hl : (a.take i).length = (b.take i).length := by have := HNE.out; simp; omega
          apply propext
          constructor
          · intro h; have := List.append_inj h hl; exact ⟨this.1, by simpa using this.2⟩
          · rintro ⟨h, rfl⟩; rw [h]
        cases sm with
        | false =>
          go_wp2_with fail
          go_quiet (fail)
          go_wp2_with fail
          go_roundw
          case rel => exact ⟨i + 1, hlt, by rw [HE.out]; rfl, by go_num, ⟨F3, G4, by rw [HTk.out.1, HTk.out.2, texts_snoc, texts_snoc]; exact H4.out.up (drewN_below _ _)⟩, HS2.out⟩
          case measure => simp [intOf]; omega
        | true =>
          go_wp2_with fail
          go_quiet (fail)
          go_wp2_with fail
          go_roundw
          case rel => exact ⟨i + 1, hlt, by rw [HE.out, txt_eq]; rfl, by go_num, ⟨F3, G4, by rw [HTk.out.1, HTk.out.2, texts_snoc, texts_snoc]; exact H4.out.up (drewN_below _ _)⟩, HS2.out⟩
          case measure => simp [intOf]; omega
    · obtain rfl : i = a.length := by omega
      have hta : a.take a.length = a := List.take_of_length_le (Nat.le_refl _)
      have htb : b.take a.length = b := List.take_of_length_le (by rw [HNE.out]; exact Nat.le_refl _)
      rw [hta, htb] at HSM HS hT
      have hlx := texts_len HS.out.1
      have hly := texts_len HS.out.2
      have hbl := HNE.out
      have HX := Lib.hid (fun g : Gr wr => wr_bytes_any D _ F (by omega) g.val (hT.up g.ok).x)
      have HY := Lib.hid (fun g : Gr wr => wr_bytes_any E _ G (by omega) g.val (hT.up g.ok).y)
      have HFX := Lib.hid (fixed8_any wr.drew)
      have HBW := Lib.hid hT.below
      have HQ : Hid (((textsT a) == (textsT b)) = sm) := by
        show _ = _
        rw [← HSM.out, Bool.eq_iff_iff]
        simp only [beq_iff_eq, decide_eq_true_eq]
        exact ⟨texts_inj hbl, fun h => by rw [h]⟩
      clear hlx hly hbl hT HSM HS HT hta htb
      generalize textsT a = X at *
      generalize textsT b = Y at *
      go_wp2_with fail
      go_region_with (first
        | (go_at_call 8; refine HFX.out.mono ?_; rintro e w' ⟨rfl, hb⟩; obtain ⟨g, rfl⟩ := Gr.of ((drew_below wr).trans hb); clear hb)
        | (go_at_call_of 18 D; refine (HX.out g).mono ?_; intro e w3 hR; obtain ⟨A3, c3, rfl, hf3⟩ := hR.fresh; obtain ⟨g3, rfl⟩ := g.on hf3.below; have hv3 := fun k : Gr g3.val => (hf3.at_.1.gr k).conv (P := Try.prog) c3 (dst := 9) Try.underlying37 Try.underlying5 Try.underlying9; have hv3' := hv3 ⟨_, Below.refl _ _⟩)
        | (go_at_call_of 18 E; refine (HY.out g3).mono ?_; intro e w4 hR; obtain ⟨A4, c4, rfl, hf4⟩ := hR.fresh; have hv4 := hf4.at_.1.conv (P := Try.prog) c4 (dst := 9) Try.underlying37 Try.underlying5 Try.underlying9; have hv5 := hv3 ⟨_, hf4.below⟩))
      all_goals
        have HB5 : Hid (Below w.heap.size w w4) := HBW.out.trans ((g3.ok.mono (Nat.le_refl _)).trans (hf4.below.mono g3.size) |>.mono HBW.out.size)
        clear hf4 hf3 hR
        go_wp2_with fail
        go_ret
        exact ⟨ret_bool (by rw [HQ.out]; simp), HB5.out⟩
end Go.Proofs.Ytldfemohnommoaa
