import Derived.Test.YtibnbpiachdmdaaRows
import Derived.Test.YtibnbpiachdmdaaZNB
import Derived.BigQuiet
import Derived.Deep.AppendLies
/- Contracts of the document's starts, minute by minute (layer 15). -/
section
namespace Go.Proofs.Ytibnbpiachdmdaa
open Go.ChangeShapes Go.WideShapes Go.ChangeAt Go.RowKit Go.Joins Sp
theorem int64_info15 : (Try.prog.info? 2).map (fun i => (i.zero, i.size, i.bytes)) = some (some (.int .i64 0), 1, 8) := by kernel_rfl
/-- Are so many minutes from one on in a row? -/
def inAll (l : List Spn) (at_ : Int) (n : Nat) : Bool := (List.range n).all fun j => hasB l (at_ + j)
theorem inAll_take (l : List Spn) (at_ : Int) (k : Nat) : inAll l at_ (k + 1) = (inAll l at_ k && hasB l (at_ + k)) := by
  unfold inAll; rw [List.range_succ, List.all_append]; simp
theorem inAll_no {l : List Spn} {at_ : Int} {k n : Nat} (hk : k < n) (h : hasB l (at_ + k) = false) : inAll l at_ n = false := by
  unfold inAll
  rw [List.all_eq_false]
  exact ⟨k, List.mem_range.2 hk, by rw [h]; simp⟩
set_option maxRecDepth 100000 in
set_option maxHeartbeats 4000000 in
theorem rin15_any (l : List Spn) (A : Option Addr) (c : Nat) (at_ : Int) (n : Nat) (w : World) (ha : -1000000 ≤ at_ ∧ at_ ≤ 1000000) (hn : n ≤ 1000000) (h : Sl w A l.length c (sv l)) :
    Calls Try.prog 15 #[.slice A l.length c, .int .i64 at_, .int .i64 n] w fun e w' => e = .returned (.bool (inAll l at_ n)) ∧ w = w' := by
  have HH := Lib.hid (fun m : Int => rhas_any l A c m w h)
  obtain ⟨r, hr⟩ : ∃ r, inAll l at_ n = r := ⟨_, rfl⟩
  rw [hr]
  have HR := Lib.hid hr
  clear h hr
  go_enter Try.func15, Try.ntmps15
  go_wp2_with fail
  go_loop [7] (fun s5 => ∃ (k : Nat) (m : Int), k ≤ n ∧ s5 = .int .i64 m ∧ Hid (m = at_ + k) ∧ Hid (inAll l at_ k = true)) (fun s5 => (at_ + n - intOf s5).toNat)
  case atStart => exact ⟨0, at_, Nat.zero_le _, rfl, by show _ = _; simp, rfl⟩
  case round =>
    obtain ⟨k, m, hk, rfl, HM, HF⟩ := hrel
    have hm := HM.out
    have hmb : -1000000 ≤ m ∧ m ≤ 2000000 := by omega
    have HT := Lib.hid (inAll_take l at_ k)
    rw [← hm] at HT
    by_cases hlt : k < n
    · have hz : m < at_ + n := by omega
      have HN2 := Lib.hid (fun q => inAll_no (l := l) (at_ := at_) hlt q)
      rw [← hm] at HN2
      clear hm
      have HC := Lib.hid (HH.out m)
      cases hb : hasB l m with
      | true =>
        rw [hb] at HC HT
        have HF2 : Hid (inAll l at_ (k + 1) = true) := by show _ = _; rw [HT.out, HF.out]; rfl
        go_wp2_with fail
        go_at_call 22
        refine HC.out.mono ?_
        rintro e w' ⟨rfl, rfl⟩
        go_wp2_with fail
        go_round
        case rel => exact ⟨k + 1, m + 1, hlt, rfl, by show _ = _; rw [HM.out]; omega, HF2.out⟩
        case measure => simp [intOf]; omega
      | false =>
        rw [hb] at HC
        have E : Hid (r = false) := by show _ = _; rw [← HR.out]; exact HN2.out hb
        go_wp2_with fail
        go_at_call 22
        refine HC.out.mono ?_
        rintro e w' ⟨rfl, rfl⟩
        go_wp2_with fail
        go_ret
        exact ⟨ret_bool E.out.symm, rfl⟩
    · obtain rfl : k = n := by omega
      have hz : ¬ m < at_ + k := by omega
      have E : Hid (r = true) := by show _ = _; rw [← HR.out]; exact HF.out
      clear hm
      go_wp2_with fail
      go_ret
      exact ⟨ret_bool E.out.symm, rfl⟩
/-- Starts, from a minute on. -/
def st15 (l : List Spn) (n : Nat) (g : Int) : Nat → Int → List Int
  | 0, _ => []
  | f + 1, m => if m < 2000 then (if inAll l m n then [m] else []) ++ st15 l n g f (m + g) else []
theorem st15_end (l : List Spn) (n : Nat) (g m : Int) (h : ¬ m < 2000) : ∀ f, st15 l n g f m = []
  | 0 => rfl
  | f + 1 => by unfold st15; rw [if_neg h]
set_option maxRecDepth 100000 in
set_option maxHeartbeats 4000000 in
theorem rstarts15_any (l : List Spn) (A : Option Addr) (c : Nat) (n : Nat) (d : Int) (w : World) (hn : n ≤ 1000000) (hd : 1 ≤ d ∧ d ≤ 1000000) (h : Sl w A l.length c (sv l)) :
    Calls Try.prog 8 #[.slice A l.length c, .int .i64 n, .int .i64 d] w (RetI (st15 l n d 2001 0) w) := by
  have HIN := Lib.hid (fun (G : Gr w) (m : Int) (hm : -1000000 ≤ m ∧ m ≤ 1000000) => rin15_any l A c m n G.val hm hn (h.gr G))
  obtain ⟨j0, hj0, t0, t1, t2⟩ := info_parts int64_info15
  obtain ⟨res, hres⟩ : ∃ res, st15 l n d 2001 0 = res := ⟨_, rfl⟩
  rw [hres]
  have HRES := Lib.hid hres
  clear h hres
  go_enter Try.func8, Try.ntmps8
  go_wp2_with fail
  go_loopw [7, 8] (fun s7 s8 wr => ∃ (k : Nat) (m : Int) (acc : List Int) (gb cap : Nat) (g : Gr w), wr = g.val ∧ s8 = .int .i64 m ∧ s7 = .slice (some ⟨gb, 0, none⟩) acc.length cap ∧ (k : Int) ≤ m ∧ m ≤ 1001999 ∧ k ≤ 2000 ∧ acc.length ≤ k ∧ Hid (g.val.ownsRow w.heap.size 2 1 (.slice (some ⟨gb, 0, none⟩) acc.length cap) acc.length (iv acc)) ∧ Hid (acc ++ st15 l n d (2001 - k) m = res)) (fun _ s8 _ => (2000 - intOf s8).toNat)
  case atStart => exact ⟨0, 0, [], w.heap.size, 0, ⟨_, (Below.refl _ _).alloc (Nat.le_refl _) _⟩, rfl, rfl, rfl, by omega, by omega, by omega, Nat.le_refl _, World.ownsRow_made (base := w.heap.size) w #[] 0 (Nat.le_refl _) (by decide) rfl, by show _ = _; rw [List.nil_append, Nat.sub_zero]; exact HRES.out⟩
  case round =>
    obtain ⟨k, m, acc, gb, cap, g, rfl, rfl, rfl, hkm, hm, hk, hac, HOW, HI⟩ := hrel
    by_cases hlt : m < 2000
    · have hst : st15 l n d (2001 - k) m = (if inAll l m n then [m] else []) ++ st15 l n d (2001 - (k + 1)) (m + d) := by
        rw [show 2001 - k = (2001 - (k + 1)) + 1 by omega, st15, if_pos hlt]
      have HI2 := Lib.hid HI.out
      rw [hst] at HI2
      clear hst
      have HC := Lib.hid (HIN.out g m (by omega))
      cases hb : inAll l m n with
      | true =>
        rw [hb] at HC HI2
        rw [if_pos rfl, ← List.append_assoc] at HI2
        have hmx : acc.length + 1 ≤ maxLen := by unfold maxLen; omega
        have hby : (acc.length + 1) * 8 ≤ 140737488355328 := by omega
        have HGS := Lib.hid g.size
        go_wp2_with fail
        go_at_call 15
        refine HC.out.mono ?_
        rintro e w' ⟨rfl, rfl⟩
        go_wp2_with (refine wpList_append_lies _ rfl _ _ _ (by rfl) w.heap.size 2 j0 _ 1 8 Try.underlying27 hj0 t0 t1 t2 rfl (by decide) (.slice (some ⟨gb, 0, none⟩) acc.length cap) acc.length (iv acc) (by rfl) (HOW.out.alloc _) ⟨g.val.heap.size, 0, none⟩ 1 1 [.int .i64 m] (by rfl) (by rfl) (World.news_of_block (cs := #[.int .i64 m]) (t := 2) (fr := (0, 0)) (heap_alloc_new _ _)) (by simp [Value.oneCell']) (Nat.lt_succ_self 0) hmx hby (by simp; have := HGS.out; omega) _ rfl ?_; intro gg cap2 w5 hown3 hgr3 hat3 hlt3)
        have hB3 : Below w.heap.size w w5 := (g.ok.alloc HGS.out _).grown hgr3 (by simp; have := HGS.out; omega) (fun kk hk => (HOW.out.lt kk hk).1)
        have HO3 : Hid (w5.ownsRow w.heap.size 2 1 (.slice (some ⟨gg, 0, none⟩) (acc ++ [m]).length cap2) (acc ++ [m]).length (iv (acc ++ [m]))) := by show World.ownsRow _ _ _ _ _ _ _; rw [iv_app, List.length_append]; exact hown3
        obtain ⟨g3, rfl⟩ := Gr.of hB3
        clear hown3 hgr3 hat3 hB3
        go_wp2_with fail
        go_roundw
        case rel => exact ⟨k + 1, m + d, acc ++ [m], gg, cap2, g3, rfl, rfl, by simp, by omega, by omega, by omega, by simp; omega, HO3.out, HI2.out⟩
        case measure => simp [intOf]; omega
      | false =>
        rw [hb] at HC HI2
        rw [if_neg (by simp), List.nil_append] at HI2
        go_wp2_with fail
        go_at_call 15
        refine HC.out.mono ?_
        rintro e w' ⟨rfl, rfl⟩
        go_wp2_with fail
        go_roundw
        case rel => exact ⟨k + 1, m + d, acc, gb, cap, g, rfl, rfl, rfl, by omega, by omega, by omega, by omega, HOW.out, HI2.out⟩
        case measure => simp [intOf]; omega
    · have E : Hid (acc = res) := by show _ = _; rw [← HI.out, st15_end l n d m hlt, List.append_nil]
      have HOS := Lib.hid (Sl.own_ HOW.out)
      go_wp2_with fail
      go_ret
      exact ⟨_, _, by rw [← E.out]; rfl, by rw [← E.out]; exact HOS.out, g.ok⟩
end Go.Proofs.Ytibnbpiachdmdaa
end
