import Derived.Test.YtgmcacmdiiogmaaZNB
import Derived.Test.YtgmcacmdiiogmaaZNA
import Derived.Test.YtgmcacmdiiogmaaZMB
import Derived.Deep.RegionHeld3
import Derived.Deep.QuietTactic
import Derived.BigQuiet
/- Contracts of the document's streams: lower, higher; gaps; what is behind a minute. -/
section
namespace Go.Proofs.Ytgmcacmdiiogmaa
open Go.ChangeShapes Go.WideShapes Go.ChangeAt Go.RowKit Go.Joins Sp

theorem cK_cW (k : Int) : cK k = cW k := rfl

theorem rlow_any (n b : Int) (hn : -9223372036854775808 ≤ n ∧ n ≤ 9223372036854775807) (hb : -9223372036854775808 ≤ b ∧ b ≤ 9223372036854775807) (w : World) :
    Calls Try.prog 38 #[.int .i64 n, .int .i64 b] w fun e w' => e = .returned (.int .i64 (lowI n b)) ∧ w = w' := by
  by_cases h0 : 0 < b
  · by_cases h1 : n < -9223372036854775808 + b
    · rw [show lowI n b = -9223372036854775808 by unfold lowI; rw [if_pos h0, if_pos h1]]
      go_enter Try.func38, Try.ntmps38
      go_wp2
      go_ret
      exact ⟨rfl, rfl⟩
    · rw [show lowI n b = n - b by unfold lowI; rw [if_pos h0, if_neg h1]]
      have h2 : IntKind.i64.wrap (n - b) = n - b := by rw [IntKind.wrap_i64]; omega
      go_enter Try.func38, Try.ntmps38
      go_wp2
      go_ret
      exact ⟨rfl, rfl⟩
  · rw [show lowI n b = n by unfold lowI; rw [if_neg h0]]
    go_enter Try.func38, Try.ntmps38
    go_wp2
    go_ret
    exact ⟨rfl, rfl⟩
theorem rhigh_any (n b : Int) (hn : -9223372036854775808 ≤ n ∧ n ≤ 9223372036854775807) (hb : -9223372036854775808 ≤ b ∧ b ≤ 9223372036854775807) (w : World) :
    Calls Try.prog 39 #[.int .i64 n, .int .i64 b] w fun e w' => e = .returned (.int .i64 (highI n b)) ∧ w = w' := by
  by_cases h0 : 0 < b
  · by_cases h1 : 9223372036854775807 - b < n
    · rw [show highI n b = 9223372036854775807 by unfold highI; rw [if_pos h0, if_pos h1]]
      go_enter Try.func39, Try.ntmps39
      go_wp2
      go_ret
      exact ⟨rfl, rfl⟩
    · rw [show highI n b = n + b by unfold highI; rw [if_pos h0, if_neg h1]]
      have h2 : IntKind.i64.wrap (n + b) = n + b := by rw [IntKind.wrap_i64]; omega
      go_enter Try.func39, Try.ntmps39
      go_wp2
      go_ret
      exact ⟨rfl, rfl⟩
  · rw [show highI n b = n by unfold highI; rw [if_neg h0]]
    go_enter Try.func39, Try.ntmps39
    go_wp2
    go_ret
    exact ⟨rfl, rfl⟩

theorem rgapsN_any (l : List Spn) (x : Spn) (A : Option Addr) (c : Nat) (w : World) (hl : l.length ≤ 1000) (h : Sl w A l.length c (sv l)) :
    Calls Try.prog 24 #[.slice A l.length c, .agg #[.int .i64 x.1, .int .i64 x.2]] w (RetN (gapsL l x) w) := by
  have hB : Below w.heap.size w ((w.alloc (.cells #[.int .i64 x.1, .int .i64 x.2] 33)).alloc (.cells #[.int .i64 x.1, .int .i64 x.2] 33)) := ((Below.refl _ _).alloc (Nat.le_refl _) _).alloc (by simp) _
  have hP := rpairN_any [x] l (some ⟨w.heap.size + 1, 0, none⟩) A 1 c 2 ((w.alloc (.cells #[.int .i64 x.1, .int .i64 x.2] 33)).alloc (.cells #[.int .i64 x.1, .int .i64 x.2] 33)) (by simp) hl
    (by have := Sl.new (w.alloc (.cells #[.int .i64 x.1, .int .i64 x.2] 33)) (sv [x]) 1 33 (0, 0) (by decide); simpa [sv] using this) (h.below hB (Nat.le_refl _))
  have HP := Lib.hid hP
  have HB := Lib.hid hB
  clear h hP hB
  go_enter Try.func24, Try.ntmps24
  go_wp2_with fail
  go_at_call 34
  refine HP.out.mono ?_
  rintro e w' ⟨A', c', rfl, hs, hn, hb⟩
  have HS := Lib.hid hs
  go_wp2_with fail
  go_ret
  exact ⟨A', c', rfl, HS.out, fun a ha => Nat.le_trans HB.out.size (hn a ha), HB.out.trans (hb.mono HB.out.size)⟩
theorem rgaps_any (l : List Spn) (x : Spn) (A : Option Addr) (c : Nat) (w : World) (hl : l.length ≤ 1000) (h : Sl w A l.length c (sv l)) :
    Calls Try.prog 24 #[.slice A l.length c, .agg #[.int .i64 x.1, .int .i64 x.2]] w (RetS (gapsL l x) w) := (rgapsN_any l x A c w hl h).mono fun _ _ h => h.s

set_option maxRecDepth 100000 in
set_option maxHeartbeats 2000000 in
theorem rbehindN_any (l : List Spn) (m : Int) (A : Option Addr) (c : Nat) (w : World) (hl : l.length ≤ 100000) (h : Sl w A l.length c (sv l)) :
    Calls Try.prog 17 #[.slice A l.length c, .int .i64 m] w (RetN (behindL l m) w) := by
  have HA := Lib.hid h
  clear h
  obtain ⟨i0, hi0, hq0, hq1, hq2⟩ := info_parts span_info
  have hlz : (l.length : Int) ≤ 9223372036854775807 := by omega
  go_enter Try.func17, Try.ntmps17
  go_wp2_with fail
  go_loopw [5, 11] (fun s5 s11 wr => ∃ (i gb cap k : Nat) (g : Gr w), wr = g.val ∧ i ≤ l.length ∧ s11 = .int .i64 i ∧ s5 = .slice (some ⟨gb, 0, none⟩) k cap ∧ k ≤ i ∧ w.heap.size ≤ gb ∧ Hid (g.val.ownsRow w.heap.size 33 2 (.slice (some ⟨gb, 0, none⟩) k cap) k (sv (behindL (l.take i) m)))) (fun _ s11 _ => l.length - (intOf s11).toNat)
  case atStart => exact ⟨0, w.heap.size, 0, 0, ⟨_, (Below.refl _ _).alloc (Nat.le_refl _) _⟩, rfl, Nat.zero_le _, rfl, rfl, Nat.le_refl _, Nat.le_refl _, World.ownsRow_made (base := w.heap.size) w #[] 0 (Nat.le_refl _) (by decide) rfl⟩
  case round =>
    obtain ⟨i, gb, cap, k, g, rfl, hi, rfl, rfl, hk, hgb, HOW⟩ := hrel
    by_cases hlt : i < l.length
    · have hiz : (i : Int) < l.length := by omega
      obtain ⟨s, hs⟩ : ∃ s, l[i]? = some s := ⟨_, List.getElem?_eq_getElem hlt⟩
      have HT := Lib.hid (behind_snoc l m i s hs)
      obtain ⟨b, off, rfl, hbs, hcell⟩ := HA.out.spanG hs
      obtain ⟨h1, h2⟩ := hcell g
      clear hcell hs
      obtain ⟨s1, s2⟩ := s
      simp only at HT h1 h2
      have hmx : k + 1 ≤ maxLen := by unfold maxLen; omega
      have hby : (k + 1) * 16 ≤ 140737488355328 := by omega
      have HGS := Lib.hid g.size
      by_cases hm : m < s2
      · by_cases hx : s1 < m
        · have HT2 : Hid (behindL (l.take (i + 1)) m = behindL (l.take i) m ++ [(m, s2)]) := by show _ = _; rw [HT.out, if_pos hm, show max s1 m = m by omega]
          clear HT
          go_wp2_with (refine wpList_append_lies _ rfl _ _ _ (by rfl) w.heap.size 33 i0 _ 2 16 Try.underlying28 hi0 hq0 hq1 hq2 rfl (by decide) (.slice (some ⟨gb, 0, none⟩) k cap) k _ (by rfl) ((HOW.out.alloc _).alloc _) ⟨(g.val.alloc (.cells #[.int .i64 m, .int .i64 s2] 33)).heap.size, 0, none⟩ 1 1 [.int .i64 m, .int .i64 s2] (by simp; rfl) (by rfl) (World.news_of_block (cs := #[.int .i64 m, .int .i64 s2]) (t := 33) (fr := (0, 0)) (heap_alloc_new _ _)) (by simp [Value.oneCell']) (Nat.lt_succ_self 0) hmx hby (by simp; have := HGS.out; omega) _ rfl ?_; intro gg cap2 w3 hown3 hgr3 hat3 hlt3)
          have hB3 : Below w.heap.size w w3 := (((g.ok.alloc HGS.out _).alloc (by simp; have := HGS.out; omega) _).grown hgr3 (by simp; have := HGS.out; omega) (fun kk hk => (HOW.out.lt kk hk).1))
          have hgg := (hown3.lt gg rfl).1
          have HO3 : Hid (w3.ownsRow w.heap.size 33 2 (.slice (some ⟨gg, 0, none⟩) (k + 1) cap2) (k + 1) (sv (behindL (l.take (i + 1)) m))) := by show World.ownsRow _ _ _ _ _ _ _; rw [HT2.out, sv_app]; exact hown3
          obtain ⟨g3, rfl⟩ := Gr.of hB3
          clear hown3 hgr3 hat3 hB3
          go_wp2_with fail
          go_roundw
          case rel => exact ⟨i + 1, gg, cap2, k + 1, g3, rfl, hlt, by go_num, rfl, by omega, hgg, HO3.out⟩
          case measure => simp [intOf]; omega
        · have HT2 : Hid (behindL (l.take (i + 1)) m = behindL (l.take i) m ++ [(s1, s2)]) := by show _ = _; rw [HT.out, if_pos hm, show max s1 m = s1 by omega]
          clear HT
          go_wp2_with (refine wpList_append_lies _ rfl _ _ _ (by rfl) w.heap.size 33 i0 _ 2 16 Try.underlying28 hi0 hq0 hq1 hq2 rfl (by decide) (.slice (some ⟨gb, 0, none⟩) k cap) k _ (by rfl) ((HOW.out.alloc _).alloc _) ⟨(g.val.alloc (.cells #[.int .i64 s1, .int .i64 s2] 33)).heap.size, 0, none⟩ 1 1 [.int .i64 s1, .int .i64 s2] (by simp; rfl) (by rfl) (World.news_of_block (cs := #[.int .i64 s1, .int .i64 s2]) (t := 33) (fr := (0, 0)) (heap_alloc_new _ _)) (by simp [Value.oneCell']) (Nat.lt_succ_self 0) hmx hby (by simp; have := HGS.out; omega) _ rfl ?_; intro gg cap2 w3 hown3 hgr3 hat3 hlt3)
          have hB3 : Below w.heap.size w w3 := (((g.ok.alloc HGS.out _).alloc (by simp; have := HGS.out; omega) _).grown hgr3 (by simp; have := HGS.out; omega) (fun kk hk => (HOW.out.lt kk hk).1))
          have hgg := (hown3.lt gg rfl).1
          have HO3 : Hid (w3.ownsRow w.heap.size 33 2 (.slice (some ⟨gg, 0, none⟩) (k + 1) cap2) (k + 1) (sv (behindL (l.take (i + 1)) m))) := by show World.ownsRow _ _ _ _ _ _ _; rw [HT2.out, sv_app]; exact hown3
          obtain ⟨g3, rfl⟩ := Gr.of hB3
          clear hown3 hgr3 hat3 hB3
          go_wp2_with fail
          go_roundw
          case rel => exact ⟨i + 1, gg, cap2, k + 1, g3, rfl, hlt, by go_num, rfl, by omega, hgg, HO3.out⟩
          case measure => simp [intOf]; omega
      · have HT2 : Hid (behindL (l.take (i + 1)) m = behindL (l.take i) m) := by show _ = _; rw [HT.out, if_neg hm, List.append_nil]
        clear HT
        obtain ⟨g3, hg3⟩ := g.up0 (o := .cells #[.int .i64 s1, .int .i64 s2] 33)
        have HO3 : Hid (g3.val.ownsRow w.heap.size 33 2 (.slice (some ⟨gb, 0, none⟩) k cap) k (sv (behindL (l.take (i + 1)) m))) := by show World.ownsRow _ _ _ _ _ _ _; rw [HT2.out, ← hg3]; exact HOW.out.alloc _
        have HG3 := Lib.hid hg3
        clear hg3
        go_wp2_with fail
        go_roundw
        case rel => exact ⟨i + 1, gb, cap, k, g3, HG3.out, hlt, by go_num, rfl, by omega, hgb, HO3.out⟩
        case measure => simp [intOf]; omega
    · obtain rfl : i = l.length := by omega
      rw [List.take_length] at HOW
      have hk2 : k = (behindL l m).length := by have := HOW.out.1; rw [sv_len] at this; omega
      subst hk2
      go_wp2_with fail
      go_ret
      exact ⟨_, _, rfl, Sl.own_ HOW.out, fun a ha => by cases ha; exact hgb, g.ok⟩
theorem rbehind_any (l : List Spn) (m : Int) (A : Option Addr) (c : Nat) (w : World) (hl : l.length ≤ 100000) (h : Sl w A l.length c (sv l)) :
    Calls Try.prog 17 #[.slice A l.length c, .int .i64 m] w (RetS (behindL l m) w) := (rbehindN_any l m A c w hl h).mono fun _ _ h => h.s
end Go.Proofs.Ytgmcacmdiiogmaa
end

/- Contracts of the document's streams: unions of rows, what rows have in common. -/
section
namespace Go.Proofs.Ytgmcacmdiiogmaa
open Go.ChangeShapes Go.WideShapes Go.ChangeAt Go.RowKit Go.Joins Sp

/-- A slice of rows of spans that begins at A. -/
def SsAt (w : World) (A : Option Addr) (ls : List (List Spn)) : Prop :=
  0 < ls.length → ∃ b off, A = some ⟨b, off, none⟩ ∧ b < w.heap.size ∧ ∀ i l, ls[i]? = some l → ∃ Ai ci, w.cell? ⟨b, off + i, none⟩ = some (.slice Ai l.length ci) ∧ Sl w Ai l.length ci (sv l)
theorem SsAt.below {w w' : World} {A : Option Addr} {ls : List (List Spn)} (h : SsAt w A ls) (hb : Below w.heap.size w w') : SsAt w' A ls := by
  intro hn
  obtain ⟨b, off, e, hlt, hc⟩ := h hn
  refine ⟨b, off, e, Nat.lt_of_lt_of_le hlt hb.size, fun i l hi => ?_⟩
  obtain ⟨Ai, ci, h1, h2⟩ := hc i l hi
  exact ⟨Ai, ci, cell_old h1 hb, h2.below hb (Nat.le_refl _)⟩
theorem SsAt.at_ {w : World} {A : Option Addr} {ls : List (List Spn)} (h : SsAt w A ls) {i : Nat} {l : List Spn} (hi : ls[i]? = some l) :
    ∃ b off Ai ci, A = some ⟨b, off, none⟩ ∧ w.cell? ⟨b, off + i, none⟩ = some (.slice Ai l.length ci) ∧ Sl w Ai l.length ci (sv l) := by
  have := (List.getElem?_eq_some_iff.1 hi).1
  obtain ⟨b, off, e, hlt, hc⟩ := h (by omega)
  obtain ⟨Ai, ci, h1, h2⟩ := hc i l hi
  exact ⟨b, off, Ai, ci, e, h1, h2⟩

set_option maxRecDepth 100000 in
set_option maxHeartbeats 2000000 in
theorem runionN_any (ls : List (List Spn)) (A : Option Addr) (c : Nat) (w : World) (hn : ls.length ≤ 1000) (ht : total ls ≤ 1000) (h : SsAt w A ls) :
    Calls Try.prog 22 #[.slice A ls.length c] w (RetN (unionL ls) w) := by
  have HA := Lib.hid h
  have HTT := Lib.hid ht
  clear h
  have hlz : (ls.length : Int) ≤ 9223372036854775807 := by omega
  go_enter Try.func22, Try.ntmps22
  go_wp2_with fail
  go_loopw [3, 8] (fun s3 s7 wr => ∃ (i cap : Nat) (acc : List Spn) (B : Option Addr) (g : Gr w), wr = g.val ∧ i ≤ ls.length ∧ s7 = .int .i64 i ∧ s3 = .slice B acc.length cap ∧ acc.length + total (ls.drop i) ≤ 1000 ∧ Hid (Sl g.val B acc.length cap (sv acc) ∧ ∀ a, B = some a → w.heap.size ≤ a.block) ∧ Hid (unionFrom acc (ls.drop i) = unionL ls)) (fun _ s7 _ => ls.length - (intOf s7).toNat)
  case atStart => exact ⟨0, 0, [], some ⟨w.heap.size, 0, none⟩, ⟨_, (Below.refl _ _).alloc (Nat.le_refl _) _⟩, rfl, Nat.zero_le _, rfl, rfl, by simp; exact HTT.out, ⟨Sl.new w [] 0 33 (0, 0) (by decide), fun a ha => by cases ha; exact Nat.le_refl _⟩, rfl⟩
  case round =>
    obtain ⟨i, cap, acc, B, g, rfl, hi, rfl, rfl, hsum, HS, HU⟩ := hrel
    have hgs0 := Lib.hid g.size
    by_cases hlt : i < ls.length
    · have hiz : (i : Int) < ls.length := by omega
      obtain ⟨l, hl⟩ : ∃ l, ls[i]? = some l := ⟨_, List.getElem?_eq_getElem hlt⟩
      have HU2 := Lib.hid (union_drop acc ls i l hl)
      have htd := total_drop ls i l hl
      have hpl := pair_len (cW 0) acc l
      obtain ⟨b, off, Ai, ci, rfl, hcell, hsl⟩ := (HA.out.below g.ok).at_ hl
      have HP := Lib.hid (rpairN_any acc l B Ai cap ci 0 g.val (by omega) (by omega) HS.out.1 hsl)
      rw [cK_cW] at HP
      clear hsl hl
      generalize pair (cW 0) acc l = r at *
      go_wp2_with fail
      go_at_call 34
      refine HP.out.mono ?_
      rintro e w' ⟨A', c', rfl, hs, hnw, hb⟩
      obtain ⟨g2, rfl⟩ := g.on hb
      have HS2 := Lib.hid (And.intro hs fun a ha => Nat.le_trans hgs0.out (hnw a ha))
      clear hs hb
      go_wp2_with fail
      go_roundw
      case rel => exact ⟨i + 1, c', r, A', g2, rfl, hlt, by go_num, rfl, by omega, HS2.out, by show _ = _; rw [← HU2.out]; exact HU.out⟩
      case measure => simp [intOf]; omega
    · obtain rfl : i = ls.length := by omega
      have HE : Hid (acc = unionL ls) := by show _ = _; rw [← HU.out, List.drop_of_length_le (Nat.le_refl _)]; rfl
      go_wp2_with fail
      go_ret
      exact ⟨_, _, by rw [← HE.out]; rfl, by rw [← HE.out]; exact HS.out.1, HS.out.2, g.ok⟩
theorem runion_any (ls : List (List Spn)) (A : Option Addr) (c : Nat) (w : World) (hn : ls.length ≤ 1000) (ht : total ls ≤ 1000) (h : SsAt w A ls) :
    Calls Try.prog 22 #[.slice A ls.length c] w (RetS (unionL ls) w) := (runionN_any ls A c w hn ht h).mono fun _ _ h => h.s

set_option maxRecDepth 100000 in
set_option maxHeartbeats 2000000 in
theorem rmeetN_any (ls : List (List Spn)) (A : Option Addr) (c : Nat) (w : World) (hn : ls.length ≤ 1000) (ht : total ls ≤ 1000) (h : SsAt w A ls) :
    Calls Try.prog 23 #[.slice A ls.length c] w (RetN (meetL ls) w) := by
  have HA := Lib.hid h
  have HTT := Lib.hid ht
  clear h
  have hlz : (ls.length : Int) ≤ 9223372036854775807 := by omega
  go_enter Try.func23, Try.ntmps23
  go_wp2_with fail
  go_loopw [3, 8] (fun s3 s7 wr => ∃ (i cap : Nat) (acc : List Spn) (B : Option Addr) (g : Gr w), wr = g.val ∧ i ≤ ls.length ∧ s7 = .int .i64 i ∧ s3 = .slice B acc.length cap ∧ acc.length + total (ls.drop i) ≤ 1000 ∧ Hid (Sl g.val B acc.length cap (sv acc) ∧ ∀ a, B = some a → w.heap.size ≤ a.block) ∧ Hid (i = 0 ∧ acc = [] ∨ 0 < i ∧ meetFrom acc (ls.drop i) = meetL ls)) (fun _ s7 _ => ls.length - (intOf s7).toNat)
  case atStart => exact ⟨0, 0, [], some ⟨w.heap.size, 0, none⟩, ⟨_, (Below.refl _ _).alloc (Nat.le_refl _) _⟩, rfl, Nat.zero_le _, rfl, rfl, by simp; exact HTT.out, ⟨Sl.new w [] 0 33 (0, 0) (by decide), fun a ha => by cases ha; exact Nat.le_refl _⟩, .inl ⟨rfl, rfl⟩⟩
  case round =>
    obtain ⟨i, cap, acc, B, g, rfl, hi, rfl, rfl, hsum, HS, HU⟩ := hrel
    have hgs0 := Lib.hid g.size
    by_cases hlt : i < ls.length
    · have hiz : (i : Int) < ls.length := by omega
      obtain ⟨l, hl⟩ : ∃ l, ls[i]? = some l := ⟨_, List.getElem?_eq_getElem hlt⟩
      have htd := total_drop ls i l hl
      obtain ⟨b, off, Ai, ci, rfl, hcell, hsl⟩ := (HA.out.below g.ok).at_ hl
      by_cases h0 : i = 0
      · subst h0
        have hfl := form_len l
        have htd1 : total (ls.drop 0) = l.length + total (ls.drop 1) := htd
        have HU2 : Hid (meetFrom (formL l) (ls.drop 1) = meetL ls) := by
          cases ls with
          | nil => simp at hlt
          | cons x r => obtain rfl : x = l := by simpa using hl
                        rfl
        have hP := rformN_any l Ai ci g.val (by omega) hsl
        rw [cK_cW] at hP
        have HP := Lib.hid hP
        have HP2 : Hid (Calls Try.prog 35 #[.slice Ai l.length ci] g.val (RetN (formL l) g.val)) := hP
        have hc2 : g.val.cell? ⟨b, off, none⟩ = some (.slice Ai l.length ci) := by simpa using hcell
        clear hsl hl hP HP hcell
        generalize formL l = r at *
        go_wp2_with fail
        go_at_call 35
        refine HP2.out.mono ?_
        rintro e w' ⟨A', c', rfl, hs, hnw, hb⟩
        obtain ⟨g2, rfl⟩ := g.on hb
        have HS2 := Lib.hid (And.intro hs fun a ha => Nat.le_trans hgs0.out (hnw a ha))
        clear hs hb
        go_wp2_with fail
        go_roundw
        case rel => exact ⟨1, c', r, A', g2, rfl, by omega, by go_num, rfl, by omega, HS2.out, .inr ⟨by omega, HU2.out⟩⟩
        case measure => simp [intOf]; omega
      · have h0b : ((i : Int) == 0) = false := beq_false_of_ne (by omega)
        have hpl := pair_len (cW 1) acc l
        have HU2 : Hid (meetFrom (pair (cW 1) acc l) (ls.drop (i + 1)) = meetL ls) := by
          show _ = _
          rw [← meet_drop acc ls i l hl]
          rcases HU.out with h | h
          · exact absurd h.1 h0
          · exact h.2
        have HP := Lib.hid (rpairN_any acc l B Ai cap ci 1 g.val (by omega) (by omega) HS.out.1 hsl)
        rw [cK_cW] at HP
        clear hsl hl
        generalize pair (cW 1) acc l = r at *
        go_wp2_with fail
        go_at_call 34
        refine HP.out.mono ?_
        rintro e w' ⟨A', c', rfl, hs, hnw, hb⟩
        obtain ⟨g2, rfl⟩ := g.on hb
        have HS2 := Lib.hid (And.intro hs fun a ha => Nat.le_trans hgs0.out (hnw a ha))
        clear hs hb
        go_wp2_with fail
        go_roundw
        case rel => exact ⟨i + 1, c', r, A', g2, rfl, hlt, by go_num, rfl, by omega, HS2.out, .inr ⟨by omega, HU2.out⟩⟩
        case measure => simp [intOf]; omega
    · obtain rfl : i = ls.length := by omega
      have HE : Hid (acc = meetL ls) := by
        rcases HU.out with h | h
        · have h1 : ls = [] := List.eq_nil_of_length_eq_zero h.1
          subst h1; exact h.2
        · have := h.2
          rw [List.drop_of_length_le (Nat.le_refl _)] at this
          exact this
      go_wp2_with fail
      go_ret
      exact ⟨_, _, by rw [← HE.out]; rfl, by rw [← HE.out]; exact HS.out.1, HS.out.2, g.ok⟩
theorem rmeet_any (ls : List (List Spn)) (A : Option Addr) (c : Nat) (w : World) (hn : ls.length ≤ 1000) (ht : total ls ≤ 1000) (h : SsAt w A ls) :
    Calls Try.prog 23 #[.slice A ls.length c] w (RetS (meetL ls) w) := (rmeetN_any ls A c w hn ht h).mono fun _ _ h => h.s
end Go.Proofs.Ytgmcacmdiiogmaa
end

/- Contracts of the document's streams: rows grown; starts. -/
section
namespace Go.Proofs.Ytgmcacmdiiogmaa
open Go.ChangeShapes Go.WideShapes Go.ChangeAt Go.RowKit Go.Joins Sp

theorem grow_snoc (f : List Spn) (a b : Int) (i : Nat) (s : Spn) (h : f[i]? = some s) : (f.take (i + 1)).map (fun s => (lowI s.1 a, highI s.2 b)) = (f.take i).map (fun s => (lowI s.1 a, highI s.2 b)) ++ [(lowI s.1 a, highI s.2 b)] := by
  rw [List.take_add_one, h, List.map_append]; rfl

theorem cell_kept {g W w3 : World} {o : Obj} {gb b k : Nat} {v : Value} (hW : W.heap = (g.alloc o).heap) (hg : W.grownBy w3 (some gb)) (hb : b ≠ gb) (h : g.cell? ⟨b, k, none⟩ = some v) : w3.cell? ⟨b, k, none⟩ = some v := by
  have hlt : b < g.heap.size := World.block_lt_of_cell? _ _ h
  rw [World.cell?_of_block (show w3.heap[b]? = g.heap[b]? from ?_)]
  · exact h
  · rw [hg.block b (by rw [hW]; simp; omega) (by simp; omega), hW]
    exact heap_alloc_old _ _ hlt
theorem sl_kept {g W w3 : World} {o : Obj} {gb n c : Nat} {A : Option Addr} {xs : List Value} (h : Sl g A n c xs) (hW : W.heap = (g.alloc o).heap) (hg : W.grownBy w3 (some gb)) (hA : 0 < xs.length → ∀ a, A = some a → a.block ≠ gb) : Sl w3 A n c xs := by
  refine ⟨h.le, h.cap, h.nil, fun hn => ?_⟩
  obtain ⟨b, off, rfl, hlt, hc⟩ := h.on hn
  refine ⟨b, off, rfl, ?_, fun i v hi => cell_kept hW hg (hA hn _ rfl) (hc i v hi)⟩
  have := hg.size
  rw [hW] at this
  simp at this; omega
/-- A row lies in no block that has no cells. -/
theorem sl_apart {w : World} {A : Option Addr} {n c b : Nat} {xs : List Value} {t : TypeId} {fr : Nat × Nat} (h : Sl w A n c xs) (hb : w.heap[b]? = some (.cells #[] t fr)) : 0 < xs.length → ∀ a, A = some a → a.block ≠ b := by
  intro hn a ha e
  obtain ⟨b', off, rfl, hlt, hc⟩ := h.on hn
  obtain rfl := Option.some.inj ha
  have h0 := hc 0 xs[0] (List.getElem?_eq_getElem hn)
  obtain rfl : b' = b := e
  rw [World.cell?] at h0
  simp [hb] at h0

set_option maxRecDepth 100000 in
set_option maxHeartbeats 4000000 in
theorem rgrowN_any (l : List Spn) (a b : Int) (A : Option Addr) (c : Nat) (w : World) (hl : l.length ≤ 1000) (ha : -9223372036854775808 ≤ a ∧ a ≤ 9223372036854775807) (hb : -9223372036854775808 ≤ b ∧ b ≤ 9223372036854775807) (hin : In64 (formL l)) (h : Sl w A l.length c (sv l)) :
    Calls Try.prog 26 #[.slice A l.length c, .int .i64 a, .int .i64 b] w (RetN (growL l a b) w) := by
  have hfl := form_len l
  have hF := fun (w' : World) (hb : Below w.heap.size w w') => rform_any l A c w' hl (h.below hb (Nat.le_refl _))
  rw [cK_cW] at hF
  have HF : Hid (∀ w', Below w.heap.size w w' → Calls Try.prog 35 #[.slice A l.length c] w' (RetS (formL l) w')) := hF
  have HIN := Lib.hid hin
  have hgr : growL l a b = formL ((formL l).map fun s => (lowI s.1 a, highI s.2 b)) := rfl
  rw [hgr]
  clear h hF hin hgr
  generalize formL l = f at *
  obtain ⟨i0, hi0, hq0, hq1, hq2⟩ := info_parts span_info
  have hB0 := Lib.hid ((Below.refl w.heap.size w).alloc (Nat.le_refl _) (.cells #[] 33))
  go_enter Try.func26, Try.ntmps26
  go_wp2_with fail
  go_at_call 35
  refine (HF.out _ hB0.out).mono ?_
  rintro e w1 ⟨A1, c1, rfl, hs, hb1⟩
  have HS := Lib.hid hs
  have HB1 := Lib.hid (hB0.out.trans (hb1.mono hB0.out.size))
  have HOW0 := Lib.hid (own_off (World.ownsRow_made (base := w.heap.size) (e := 33) (size := 2) w #[] 0 (Nat.le_refl _) (by decide) rfl) (F := fun _ => False) (.of_below hb1) (fun _ _ => id))
  have HAP := Lib.hid (sl_apart (t := 33) (fr := (0, 0)) hs (b := w.heap.size) (by rw [hb1.block w.heap.size (by simp)]; exact heap_alloc_new w _))
  clear hs hb1
  go_wp2_with fail
  go_loopw [7, 15] (fun s7 s15 wr => ∃ (i gb cap k : Nat) (g : Gr w), wr = g.val ∧ i ≤ f.length ∧ s15 = .int .i64 i ∧ s7 = .slice (some ⟨gb, 0, none⟩) k cap ∧ k ≤ i ∧ w.heap.size ≤ gb ∧ Hid (g.val.ownsRow w.heap.size 33 2 (.slice (some ⟨gb, 0, none⟩) k cap) k (sv ((f.take i).map fun s => (lowI s.1 a, highI s.2 b)))) ∧ Hid (Sl g.val A1 f.length c1 (sv f)) ∧ Hid (0 < (sv f).length → ∀ a, A1 = some a → a.block ≠ gb)) (fun _ s15 _ => f.length - (intOf s15).toNat)
  case atStart => exact ⟨0, w.heap.size, 0, 0, ⟨w1, HB1.out⟩, rfl, Nat.zero_le _, rfl, rfl, Nat.le_refl _, Nat.le_refl _, HOW0.out, HS.out, HAP.out⟩
  case round =>
    obtain ⟨i, gb, cap, k, g, rfl, hi, rfl, rfl, hk, hgb, HOW, HSL, HNE⟩ := hrel
    by_cases hlt : i < f.length
    · have hiz : (i : Int) < f.length := by omega
      obtain ⟨s, hs⟩ : ∃ s, f[i]? = some s := ⟨_, List.getElem?_eq_getElem hlt⟩
      have HT := Lib.hid (grow_snoc f a b i s hs)
      have hs64 := HIN.out s (List.mem_of_getElem? hs)
      obtain ⟨b0, off, rfl, hbs, hcell⟩ := HSL.out.spanG hs
      have hbne : b0 ≠ gb := HNE.out (by rw [sv_len]; omega) _ rfl
      have HC := Lib.hid hcell
      obtain ⟨h1, h2⟩ := hcell ⟨_, Below.refl _ _⟩
      clear hcell hs
      obtain ⟨s1, s2⟩ := s
      simp only at HT h1 h2 hs64 HC
      have hmx : k + 1 ≤ maxLen := by unfold maxLen; omega
      have hby : (k + 1) * 16 ≤ 140737488355328 := by omega
      have hL := fun w' : World => rlow_any s1 a hs64.1 ha w'
      have hH := fun w' : World => rhigh_any s2 b hs64.2 hb w'
      generalize lowI s1 a = t1 at *
      generalize highI s2 b = t2 at *
      have HK : Hid (∀ (W w3 : World), W.grownBy w3 (some gb) → W.heap = (g.val.alloc (.cells #[.int .i64 t1, .int .i64 t2] 33)).heap → w3.cell? ⟨b0, off + i * 2, none⟩ = some (.int .i64 s1) ∧ w3.cell? ⟨b0, off + i * 2 + 1, none⟩ = some (.int .i64 s2)) := fun W w3 hg hW => ⟨cell_kept hW hg hbne h1, cell_kept hW hg hbne h2⟩
      have HL := Lib.hid hL
      have HH := Lib.hid hH
      have hsz : w.heap.size ≤ g.val.heap.size := g.size
      clear hL hH hs64
      go_wp2_with fail
      go_region_held3 (fun w' => w'.cell? ⟨b0, off + i * 2, none⟩ = some (.int .i64 s1) ∧ w'.cell? ⟨b0, off + i * 2 + 1, none⟩ = some (.int .i64 s2)) (first
            | exact HC.out ⟨_, Below.refl _ _⟩
            | exact HC.out ⟨_, (Below.refl _ _).drew.drew⟩
            | exact HC.out ⟨_, ((Below.refl _ _).alloc (Nat.le_refl _) _).drew.drew⟩
            | exact HK.out _ _ hgr3 rfl) (first
        | (go_at_call 38; (with_reducible refine (HL.out _).mono ?_); rintro e w' ⟨rfl, rfl⟩)
        | (go_at_call 39; (with_reducible refine (HH.out _).mono ?_); rintro e w' ⟨rfl, rfl⟩)
        | (refine step_append_lies _ (by rfl) _ _ _ (by rfl) w.heap.size 33 i0 _ 2 16 Try.underlying28 hi0 hq0 hq1 hq2 rfl (by decide) (.slice (some ⟨gb, 0, none⟩) k cap) k _ (by rfl) ((HOW.out.alloc _).drew.drew) ⟨g.val.heap.size, 0, none⟩ 1 1 [.int .i64 t1, .int .i64 t2] (by rfl) (by rfl) (World.news_of_block (cs := #[.int .i64 t1, .int .i64 t2]) (t := 33) (fr := (0, 0)) (heap_alloc_new g.val _)) (by simp [Value.oneCell']) (Nat.lt_succ_self 0) hmx hby (by simp [World.drew]; omega) (g.val.heap.size + 1) (by simp [World.drew]) ?_; intro gg cap2 w3 hown3 hgr3 hat3 hlt3))
      have hB3 : Below w.heap.size w w3 := (((g.ok.alloc hsz _).drew).grown hgr3 (by simp [World.drew]; omega) (fun kk hk => (HOW.out.lt kk hk).1))
      have hgg := (hown3.lt gg rfl).1
      have HO3 : Hid (w3.ownsRow w.heap.size 33 2 (.slice (some ⟨gg, 0, none⟩) (k + 1) cap2) (k + 1) (sv ((f.take (i + 1)).map fun s => (lowI s.1 a, highI s.2 b)))) := by show World.ownsRow _ _ _ _ _ _ _; rw [HT.out, sv_app]; exact hown3
      have hbg : b0 < g.val.heap.size := World.block_lt_of_cell? _ _ h1
      have hSL3 : Sl w3 (some ⟨b0, off, none⟩) f.length c1 (sv f) := sl_kept (W := (g.val.alloc (.cells #[.int .i64 t1, .int .i64 t2] 33)).drew) HSL.out rfl hgr3 HNE.out
      have HN3 : Hid (0 < (sv f).length → ∀ a, (some ⟨b0, off, none⟩ : Option Addr) = some a → a.block ≠ gg) := fun _ a ha e => by
        obtain rfl := Option.some.inj ha
        have e' : b0 = gg := e
        rcases hat3 with q | q
        · have : gb = gg := by simpa [Value.ownBlock] using q
          exact hbne (by omega)
        · omega
      have HS3 := Lib.hid hSL3
      obtain ⟨g3, rfl⟩ := Gr.of hB3
      clear hown3 hgr3 hat3 hB3 hSL3 hbg
      go_wp2_with fail
      go_roundw
      case rel => exact ⟨i + 1, gg, cap2, k + 1, g3, rfl, hlt, by go_num, rfl, by omega, hgg, HO3.out, HS3.out, HN3.out⟩
      case measure => simp [intOf]; omega
    · obtain rfl : i = f.length := by omega
      rw [List.take_length] at HOW
      have hk2 : k = (f.map fun s => (lowI s.1 a, highI s.2 b)).length := by have := HOW.out.1; rw [sv_len] at this; omega
      have hml : (f.map fun s => (lowI s.1 a, highI s.2 b)).length ≤ 1000 := by simp; omega
      obtain ⟨m, hm⟩ : ∃ m, (f.map fun s => (lowI s.1 a, highI s.2 b)) = m := ⟨_, rfl⟩
      rw [hm] at HOW hk2 hml
      subst hk2
      have HM := Lib.hid hm
      clear hm
      have hP := rformN_any m (some ⟨gb, 0, none⟩) cap g.val hml (Sl.own_ HOW.out)
      rw [cK_cW] at hP
      have HP : Hid (Calls Try.prog 35 #[.slice (some ⟨gb, 0, none⟩) m.length cap] g.val (RetN (formL m) g.val)) := hP
      clear hP
      go_wp2_with fail
      go_at_call 35
      refine HP.out.mono ?_
      rintro e w' ⟨A', c', rfl, hs, hnw, hb⟩
      have HS2 := Lib.hid hs
      go_wp2_with fail
      go_ret
      rw [HM.out]
      exact ⟨A', c', rfl, HS2.out, fun a ha => Nat.le_trans g.size (hnw a ha), g.ok.trans (hb.mono g.size)⟩
theorem rgrow_any (l : List Spn) (a b : Int) (A : Option Addr) (c : Nat) (w : World) (hl : l.length ≤ 1000) (ha : -9223372036854775808 ≤ a ∧ a ≤ 9223372036854775807) (hb : -9223372036854775808 ≤ b ∧ b ≤ 9223372036854775807) (hin : In64 (formL l)) (h : Sl w A l.length c (sv l)) :
    Calls Try.prog 26 #[.slice A l.length c, .int .i64 a, .int .i64 b] w (RetS (growL l a b) w) := (rgrowN_any l a b A c w hl ha hb hin h).mono fun _ _ h => h.s

theorem u64_diff {x y : Int} (hx : -9223372036854775808 ≤ x ∧ x ≤ 9223372036854775807) (hy : -9223372036854775808 ≤ y ∧ y ≤ 9223372036854775807) (h : x < y) : IntKind.u64.wrap (IntKind.u64.wrap y - IntKind.u64.wrap x) = y - x := by
  simp only [IntKind.wrap_u64]; omega

set_option maxRecDepth 100000 in
set_option maxHeartbeats 4000000 in
theorem rstartsN14_any (l : List Spn) (n : Int) (A : Option Addr) (c : Nat) (w : World) (hl : l.length ≤ 1000) (hn : -9223372036854775808 ≤ n ∧ n ≤ 9223372036854775807) (hin : In64 (formL l)) (h : Sl w A l.length c (sv l)) :
    Calls Try.prog 28 #[.slice A l.length c, .int .i64 n] w (RetN (startsL l n) w) := by
  have hfl := form_len l
  have hfo : ∀ s ∈ formL l, s.1 < s.2 := formL_lt l
  have hF := fun (w' : World) (hb : Below w.heap.size w w') => rform_any l A c w' hl (h.below hb (Nat.le_refl _))
  rw [cK_cW] at hF
  have HF : Hid (∀ w', Below w.heap.size w w' → Calls Try.prog 35 #[.slice A l.length c] w' (RetS (formL l) w')) := hF
  have HIN := Lib.hid hin
  have HFO := Lib.hid hfo
  obtain ⟨kk, hkk⟩ : ∃ kk, max 1 n = kk := ⟨_, rfl⟩
  have hgr : startsL l n = (formL l).filterMap fun s => if kk ≤ s.2 - s.1 then some (s.1, s.2 - kk + 1) else none := by rw [← hkk]; rfl
  have hk1 : 1 ≤ kk ∧ kk ≤ 9223372036854775807 := by omega
  have hmax : (if (1 : Int) < n then n else 1) = kk := by split <;> omega
  rw [hgr]
  clear h hF hin hgr hfo
  generalize formL l = f at *
  obtain ⟨i0, hi0, hq0, hq1, hq2⟩ := info_parts span_info
  have hB0 := Lib.hid ((Below.refl w.heap.size w).alloc (Nat.le_refl _) (.cells #[] 33))
  go_enter Try.func28, Try.ntmps28
  go_wp2_with fail
  go_at_call 35
  refine (HF.out _ hB0.out).mono ?_
  rintro e w1 ⟨A1, c1, rfl, hs, hb1⟩
  have HS := Lib.hid hs
  have HB1 := Lib.hid (hB0.out.trans (hb1.mono hB0.out.size))
  have HOW0 := Lib.hid (own_off (World.ownsRow_made (base := w.heap.size) (e := 33) (size := 2) w #[] 0 (Nat.le_refl _) (by decide) rfl) (F := fun _ => False) (.of_below hb1) (fun _ _ => id))
  have HAP := Lib.hid (sl_apart (t := 33) (fr := (0, 0)) hs (b := w.heap.size) (by rw [hb1.block w.heap.size (by simp)]; exact heap_alloc_new w _))
  clear hs hb1
  go_wp2_with fail
  clear hmax hkk
  go_loopw [5, 16] (fun s7 s15 wr => ∃ (i gb cap k : Nat) (g : Gr w), wr = g.val ∧ i ≤ f.length ∧ s15 = .int .i64 i ∧ s7 = .slice (some ⟨gb, 0, none⟩) k cap ∧ k ≤ i ∧ w.heap.size ≤ gb ∧ Hid (g.val.ownsRow w.heap.size 33 2 (.slice (some ⟨gb, 0, none⟩) k cap) k (sv ((f.take i).filterMap fun s => if kk ≤ s.2 - s.1 then some (s.1, s.2 - kk + 1) else none))) ∧ Hid (Sl g.val A1 f.length c1 (sv f)) ∧ Hid (0 < (sv f).length → ∀ a, A1 = some a → a.block ≠ gb)) (fun _ s15 _ => f.length - (intOf s15).toNat)
  case atStart => exact ⟨0, w.heap.size, 0, 0, ⟨w1, HB1.out⟩, rfl, Nat.zero_le _, rfl, rfl, Nat.le_refl _, Nat.le_refl _, HOW0.out, HS.out, HAP.out⟩
  case round =>
    obtain ⟨i, gb, cap, k, g, rfl, hi, rfl, rfl, hk, hgb, HOW, HSL, HNE⟩ := hrel
    by_cases hlt : i < f.length
    · have hiz : (i : Int) < f.length := by omega
      obtain ⟨s, hs⟩ : ∃ s, f[i]? = some s := ⟨_, List.getElem?_eq_getElem hlt⟩
      have HT := Lib.hid (starts_snoc f kk i s hs)
      have hs64 := HIN.out s (List.mem_of_getElem? hs)
      have hsf := HFO.out s (List.mem_of_getElem? hs)
      obtain ⟨b0, off, rfl, hbs, hcell⟩ := HSL.out.spanG hs
      have hbne : b0 ≠ gb := HNE.out (by rw [sv_len]; omega) _ rfl
      have HC := Lib.hid hcell
      obtain ⟨h1, h2⟩ := hcell ⟨_, Below.refl _ _⟩
      clear hcell hs
      obtain ⟨s1, s2⟩ := s
      simp only at HT h1 h2 hs64 HC hsf
      have hmx : k + 1 ≤ maxLen := by unfold maxLen; omega
      have hby : (k + 1) * 16 ≤ 140737488355328 := by omega
      obtain ⟨d, hd⟩ : ∃ d, s2 - s1 = d := ⟨_, rfl⟩
      have hd2 := u64_diff hs64.1 hs64.2 hsf
      rw [hd] at hd2
      have HD := Lib.hid hd
      rw [hd] at HT
      have hsz : w.heap.size ≤ g.val.heap.size := g.size
      clear hd
      by_cases hy : kk ≤ d
      · have HT2 : Hid ((f.take (i + 1)).filterMap (fun s => if kk ≤ s.2 - s.1 then some (s.1, s.2 - kk + 1) else none) = (f.take i).filterMap (fun s => if kk ≤ s.2 - s.1 then some (s.1, s.2 - kk + 1) else none) ++ [(s1, s2 - kk + 1)]) := by show _ = _; rw [HT.out, if_pos hy]
        have hw1 : IntKind.i64.wrap (s2 - kk) = s2 - kk := by rw [IntKind.wrap_i64]; have := HD.out; omega
        have hw2 : IntKind.i64.wrap (s2 - kk + 1) = s2 - kk + 1 := by rw [IntKind.wrap_i64]; have := HD.out; omega
        clear HT
        go_wp2_with fail
        go_quiet (fail)
        obtain ⟨g2, hg2⟩ : ∃ g2 : Gr w, g.val.drewN nq = g2.val := g.on (drewN_below _ _)
        have HOW2 : Hid (g2.val.ownsRow w.heap.size 33 2 (.slice (some ⟨gb, 0, none⟩) k cap) k (sv ((f.take i).filterMap fun s => if kk ≤ s.2 - s.1 then some (s.1, s.2 - kk + 1) else none))) := by show World.ownsRow _ _ _ _ _ _ _; rw [← hg2]; exact own_off HOW.out (F := fun _ => False) (.of_below (drewN_below _ _)) (fun _ _ => id)
        have HSL2 : Hid (Sl g2.val (some ⟨b0, off, none⟩) f.length c1 (sv f)) := by show Sl _ _ _ _ _; rw [← hg2]; exact HSL.out.below (drewN_below _ _) (Nat.le_refl _)
        have k1 : g2.val.cell? ⟨b0, off + i * 2, none⟩ = some (.int .i64 s1) := by rw [← hg2]; exact cell_old h1 (drewN_below _ _)
        have k2 : g2.val.cell? ⟨b0, off + i * 2 + 1, none⟩ = some (.int .i64 s2) := by rw [← hg2]; exact cell_old h2 (drewN_below _ _)
        have hsz2 : w.heap.size ≤ g2.val.heap.size := g2.size
        rw [hg2]
        clear hg2 HOW HSL h1 h2 HC hsz
        have HC : Hid (∀ G : Gr g2.val, G.val.cell? ⟨b0, off + i * 2, none⟩ = some (.int .i64 s1) ∧ G.val.cell? ⟨b0, off + i * 2 + 1, none⟩ = some (.int .i64 s2)) := fun G => ⟨cell_old k1 G.ok, cell_old k2 G.ok⟩
        generalize ht2 : s2 - kk + 1 = t2 at *
        have HK : Hid (∀ (W w3 : World), W.grownBy w3 (some gb) → W.heap = (g2.val.alloc (.cells #[.int .i64 s1, .int .i64 t2] 33)).heap → w3.cell? ⟨b0, off + i * 2, none⟩ = some (.int .i64 s1) ∧ w3.cell? ⟨b0, off + i * 2 + 1, none⟩ = some (.int .i64 s2)) := fun W w3 hg hW => ⟨cell_kept hW hg hbne k1, cell_kept hW hg hbne k2⟩
        go_wp2_with fail
        go_region_held3 (fun w' => w'.cell? ⟨b0, off + i * 2, none⟩ = some (.int .i64 s1) ∧ w'.cell? ⟨b0, off + i * 2 + 1, none⟩ = some (.int .i64 s2)) (first
            | exact HC.out ⟨_, Below.refl _ _⟩
            | exact HC.out ⟨_, (Below.refl _ _).drew⟩
            | exact HC.out ⟨_, ((Below.refl _ _).alloc (Nat.le_refl _) _).drew⟩
            | exact HK.out _ _ hgr3 rfl) (
          (refine step_append_lies _ (by rfl) _ _ _ (by rfl) w.heap.size 33 i0 _ 2 16 Try.underlying28 hi0 hq0 hq1 hq2 rfl (by decide) (.slice (some ⟨gb, 0, none⟩) k cap) k _ (by rfl) ((HOW2.out.alloc _).drew) ⟨g2.val.heap.size, 0, none⟩ 1 1 [.int .i64 s1, .int .i64 t2] (by rfl) (by rfl) (World.news_of_block (cs := #[.int .i64 s1, .int .i64 t2]) (t := 33) (fr := (0, 0)) (heap_alloc_new g2.val _)) (by simp [Value.oneCell']) (Nat.lt_succ_self 0) hmx hby (by simp [World.drew]; omega) (g2.val.heap.size + 1) (by simp [World.drew]) ?_; intro gg cap2 w3 hown3 hgr3 hat3 hlt3))
        have hB3 : Below w.heap.size w w3 := (((g2.ok.alloc hsz2 _).drew).grown hgr3 (by simp [World.drew]; omega) (fun kk hk => (HOW2.out.lt kk hk).1))
        have hgg := (hown3.lt gg rfl).1
        have HO3 : Hid (w3.ownsRow w.heap.size 33 2 (.slice (some ⟨gg, 0, none⟩) (k + 1) cap2) (k + 1) (sv ((f.take (i + 1)).filterMap fun s => if kk ≤ s.2 - s.1 then some (s.1, s.2 - kk + 1) else none))) := by show World.ownsRow _ _ _ _ _ _ _; rw [HT2.out, sv_app]; exact hown3
        have hbg : b0 < g2.val.heap.size := World.block_lt_of_cell? _ _ k1
        have hSL3 : Sl w3 (some ⟨b0, off, none⟩) f.length c1 (sv f) := sl_kept (W := (g2.val.alloc (.cells #[.int .i64 s1, .int .i64 t2] 33)).drew) HSL2.out rfl hgr3 HNE.out
        have HN3 : Hid (0 < (sv f).length → ∀ a, (some ⟨b0, off, none⟩ : Option Addr) = some a → a.block ≠ gg) := fun _ a ha e => by
          obtain rfl := Option.some.inj ha
          have e' : b0 = gg := e
          rcases hat3 with q | q
          · have : gb = gg := by simpa [Value.ownBlock] using q
            exact hbne (by omega)
          · omega
        have HS3 := Lib.hid hSL3
        obtain ⟨g3, rfl⟩ := Gr.of hB3
        clear hown3 hgr3 hat3 hB3 hSL3 hbg
        go_wp2_with fail
        go_roundw
        case rel => exact ⟨i + 1, gg, cap2, k + 1, g3, rfl, hlt, by go_num, rfl, by omega, hgg, HO3.out, HS3.out, HN3.out⟩
        case measure => simp [intOf]; omega
      · have HT2 : Hid ((f.take (i + 1)).filterMap (fun s => if kk ≤ s.2 - s.1 then some (s.1, s.2 - kk + 1) else none) = (f.take i).filterMap (fun s => if kk ≤ s.2 - s.1 then some (s.1, s.2 - kk + 1) else none)) := by show _ = _; rw [HT.out, if_neg hy, List.append_nil]
        clear HT
        go_wp2_with fail
        go_quiet (fail)
        obtain ⟨g2, hg2⟩ : ∃ g2 : Gr w, g.val.drewN nq = g2.val := g.on (drewN_below _ _)
        have HOW2 : Hid (g2.val.ownsRow w.heap.size 33 2 (.slice (some ⟨gb, 0, none⟩) k cap) k (sv ((f.take (i + 1)).filterMap fun s => if kk ≤ s.2 - s.1 then some (s.1, s.2 - kk + 1) else none))) := by show World.ownsRow _ _ _ _ _ _ _; rw [← hg2, HT2.out]; exact own_off HOW.out (F := fun _ => False) (.of_below (drewN_below _ _)) (fun _ _ => id)
        have HSL2 : Hid (Sl g2.val (some ⟨b0, off, none⟩) f.length c1 (sv f)) := by show Sl _ _ _ _ _; rw [← hg2]; exact HSL.out.below (drewN_below _ _) (Nat.le_refl _)
        rw [hg2]
        clear hg2
        go_wp2_with fail
        go_roundw
        case rel => exact ⟨i + 1, gb, cap, k, g2, rfl, hlt, by go_num, rfl, by omega, hgb, HOW2.out, HSL2.out, HNE.out⟩
        case measure => simp [intOf]; omega
    · obtain rfl : i = f.length := by omega
      rw [List.take_length] at HOW
      have hk2 : k = (f.filterMap fun s => if kk ≤ s.2 - s.1 then some (s.1, s.2 - kk + 1) else none).length := by have := HOW.out.1; rw [sv_len] at this; omega
      have HOS := Lib.hid (Sl.own_ HOW.out)
      go_wp2_with fail
      go_ret
      exact ⟨_, _, by rw [← hk2]; rfl, by rw [← hk2]; exact HOS.out, fun a ha => by cases ha; exact hgb, g.ok⟩
theorem rstarts14_any (l : List Spn) (n : Int) (A : Option Addr) (c : Nat) (w : World) (hl : l.length ≤ 1000) (hn : -9223372036854775808 ≤ n ∧ n ≤ 9223372036854775807) (hin : In64 (formL l)) (h : Sl w A l.length c (sv l)) :
    Calls Try.prog 28 #[.slice A l.length c, .int .i64 n] w (RetS (startsL l n) w) := (rstartsN14_any l n A c w hl hn hin h).mono fun _ _ h => h.s
end Go.Proofs.Ytgmcacmdiiogmaa
end
