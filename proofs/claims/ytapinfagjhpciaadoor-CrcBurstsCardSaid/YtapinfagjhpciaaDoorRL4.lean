/- The laws' walks: bursts. -/
import Derived.Test.YtapinfagjhpciaaDoorRL1
import Derived.Test.YtapinfagjhpciaaDoorRMath4
import Derived.Laws.AppendOwn
import Derived.WalkKit
import Derived.Lib.SmallJoins
namespace Go.Proofs.YtapinfagjhpciaaDoor
open Go.ChangeShapes Go.WideShapes Go.ChangeAt Go.RowKit Go.Joins Rc

theorem u8_info : (Tryd.prog.info? 5).map (fun i => (i.zero, i.size, i.bytes)) = some (some (.int .u8 0), 1, 1) := by kernel_rfl

theorem bcells_at (l : List UInt8) (j : Nat) : (bcells l)[j]? = (l[j]?).map fun c => Value.int .u8 (c.toNat : Int) := by simp [bcells]

theorem World.block_lt_of_heap {w : World} {g : Nat} {o : Obj} (h : w.heap[g]? = some o) : g < w.heap.size := by
  rcases Nat.lt_or_ge g w.heap.size with h1 | h1
  · exact h1
  · rw [Array.getElem?_eq_none h1] at h; cases h
theorem bit_of (turn i : Nat) (ht : turn < 4294967296) : (bits .and .u32 ((turn : Int) / 2 ^ i) 1 == 1) = turn.testBit i := by
  have e : (turn : Int) / 2 ^ i = ((turn / 2 ^ i : Nat) : Int) := by rw [Int.natCast_ediv]; simp
  have h := u32_and_nat (turn / 2 ^ i) 1 (Nat.lt_of_le_of_lt (Nat.div_le_self _ _) ht) (by omega)
  rw [e, show (1 : Int) = ((1 : Nat) : Int) from rfl, h, Nat.and_one_is_mod, Nat.testBit_eq_decide_div_mod_eq, Bool.eq_iff_iff]
  simp only [beq_iff_eq, decide_eq_true_eq]
  omega

theorem u8_bit (v t : Nat) (hv : v < 256) (ht : t < 8) : bits .xor .u8 (v : Int) (2 ^ t % 256) = ((v ^^^ 2 ^ t : Nat) : Int) := by
  have h2 : 2 ^ t < 2 ^ 8 := Nat.pow_lt_pow_right (by omega) ht
  have h3 : ((2 ^ t : Nat) : Int) = 2 ^ t := by simp
  have e : ((2 : Int) ^ t % 256) = ((2 ^ t : Nat) : Int) := by
    rw [← h3]
    generalize 2 ^ t = x at *
    omega
  rw [e]; exact u8_xor_nat v (2 ^ t) hv h2
/-- Bytes that are turned so. -/
def turnedBy (l : List UInt8) (turn frm : Nat) : List UInt8 := (List.range l.length).map fun j => UInt8.ofNat ((l.getD j 0).toNat ^^^ tb turn frm 32 j)
theorem turnedBy_len (l : List UInt8) (turn frm : Nat) : (turnedBy l turn frm).length = l.length := by simp [turnedBy]
theorem turnedBy_at (l : List UInt8) (turn frm j : Nat) (hj : j < l.length) : ((turnedBy l turn frm)[j]?).map (fun c => c.toNat) = some (l[j].toNat ^^^ tb turn frm 32 j) := by
  have h : l[j].toNat ^^^ tb turn frm 32 j < 256 := Nat.xor_lt_two_pow (n := 8) l[j].toNat_lt (tb_lt _ _ _ _)
  simp only [turnedBy, List.getElem?_map, List.getElem?_range hj, Option.map_some, List.getD_eq_getElem?_getD, List.getElem?_eq_getElem hj, Option.getD_some]
  congr 1
  simp only [UInt8.toNat_ofNat']
  exact Nat.mod_eq_of_lt h
theorem turnedBy_sum (l : List UInt8) (turn frm : Nat) (h0 : turn ≠ 0) (ht : turn < 4294967296) (hn : frm + 32 ≤ 8 * l.length) : Rc.sum (bn (turnedBy l turn frm)) ≠ Rc.sum (bn l) := by
  refine sums_apart h0 ht (by simpa [bn] using hn) (bn_lt _) (bn_lt _) (by simp [bn, turnedBy_len]) fun j c hj => ?_
  have hlt : j < l.length := by have := (List.getElem?_eq_some_iff.1 hj).1; simpa [bn] using this
  have := turnedBy_at l turn frm j hlt
  simp only [bn, List.getElem?_map] at hj ⊢
  rw [List.getElem?_eq_getElem hlt] at hj
  obtain rfl := Option.some.inj hj
  exact this

set_option maxRecDepth 100000 in
set_option maxHeartbeats 1000000 in
theorem crcBursts_walk (l : List UInt8) (A : Option Addr) (ca : Nat) (at_ : Int) (turn : Nat) (w : World) (hl : l.length ≤ ca) (hca : ca ≤ 9223372036854775807) (hat : 0 ≤ at_ ∧ at_ ≤ 65535) (ht : turn < 4294967296) (hA : BAt w A l) (hH : Halves w) :
    Calls Tryd.prog 4 #[.slice A l.length ca, .int .u16 at_, .int .u32 turn] w fun e w' => e = .returned (.bool true) ∧ Below w.heap.size w w' := by
  have HH := Lib.hid hH
  clear hH
  by_cases h1 : 2000 < l.length ∨ l.length < 5 ∨ turn = 0
  · have HF := Lib.hid (fixed4_any w HH.out)
    have hz : (decide ((2000 : Int) < l.length) = true) ∨ (decide ((2000 : Int) < l.length) = false ∧ decide ((l.length : Int) < 5) = true) ∨ (decide ((2000 : Int) < l.length) = false ∧ decide ((l.length : Int) < 5) = false ∧ ((turn : Int) == 0) = true) := by
      by_cases h : 2000 < l.length
      · exact Or.inl (decide_eq_true (by omega))
      · by_cases h5 : l.length < 5
        · exact Or.inr (Or.inl ⟨decide_eq_false (by omega), decide_eq_true (by omega)⟩)
        · exact Or.inr (Or.inr ⟨decide_eq_false (by omega), decide_eq_false (by omega), by simp; omega⟩)
    clear h1
    rcases hz with hz | ⟨hz, hz2⟩ | ⟨hz, hz2, hz3⟩
    all_goals
      go_enter Tryd.func4, Tryd.ntmps4
      go_wp2_with fail
      go_at_call 6
      refine HF.out.mono ?_
      rintro e w' ⟨rfl, hb⟩
      go_wp2_with fail
      go_ret
      exact ⟨rfl, hb⟩
  have hz1 : decide ((2000 : Int) < l.length) = false := decide_eq_false (by omega)
  have hz2 : decide ((l.length : Int) < 5) = false := decide_eq_false (by omega)
  have hz3 : ((turn : Int) == 0) = false := beq_false_of_ne (by omega)
  have hlo : 5 ≤ l.length := by omega
  have hhi : l.length ≤ 2000 := by omega
  have ht0 : turn ≠ 0 := by omega
  have HT0 := Lib.hid ht0
  clear h1 ht0
  obtain ⟨b, off, rfl, hbs, hcells⟩ := hA (by omega)
  obtain ⟨i0, hi0, hq0, hq1, hq2⟩ := info_parts u8_info
  have HC := Lib.hid hcells
  clear hcells
  have hown := World.ownsRow_made (base := w.heap.size) (e := 5) (size := 1) w #[] 0 (Nat.le_refl _) (by decide) rfl
  have HO := Lib.hid hown
  clear hown
  go_enter Tryd.func4, Tryd.ntmps4
  go_wp2_with (at_builtin; refine wpList_append_own _ rfl _ _ 22 rfl w.heap.size 5 i0 (.int .u8 0) 1 1 Tryd.underlying22 hi0 hq0 hq1 hq2 rfl (by decide) _ _ _ rfl HO.out ⟨b, off, none⟩ l.length ca (bcells l).toList rfl ?c1 ?c2 ?c3 ?c4 ?c5 ?c6 ?_)
  case c1 => simp [bcells]
  case c2 =>
    intro j u hj
    rw [Array.getElem?_toList, bcells_at] at hj
    obtain ⟨c, hc, rfl⟩ := Option.map_eq_some_iff.1 hj
    have := HC.out j c hc
    rw [show (⟨b, off, none⟩ : Addr).add j = ⟨b, off + j, none⟩ by unfold Addr.add; split <;> simp_all]
    exact cell_old this ((Below.refl _ w).alloc (Nat.le_refl _) _)
  case c3 =>
    intro u hu
    simp only [bcells] at hu
    obtain ⟨c, _, rfl⟩ := List.mem_map.1 hu
    rfl
  case c4 => unfold maxLen; omega
  case c5 => omega
  case c6 => simp
  intro v' w1 hown1 hgrow _
  have hB1 : Below w.heap.size w w1 := ⟨hgrow.os, hgrow.tape, hgrow.output, Nat.le_trans (by simp) hgrow.size, fun k hk => by
    rw [hgrow.block k (by simp; omega) (by simp [Value.ownBlock]; omega)]
    exact ((Below.refl _ w).alloc (Nat.le_refl _) _).block k hk⟩
  obtain ⟨g, cap, cur, hgw, hblk, hcap, hcm, hcs, hcur, rfl⟩ : ∃ (g cap : Nat) (cur : Array Value), w.heap.size ≤ g ∧ w1.heap[g]? = some (.cells cur 5 (0, 0)) ∧ l.length ≤ cap ∧ cap ≤ maxLen ∧ cur.size = cap ∧ (∀ (j : Nat) (c : UInt8), l[j]? = some c → cur[j]? = some (Value.int .u8 (c.toNat : Int))) ∧ v' = .slice (some ⟨g, 0, none⟩) l.length cap := by
    rcases hown1.2 with ⟨_, h0⟩ | ⟨g, cap, cur, hv, hg, hb, hn, hm, hs, htk⟩
    · omega
    · refine ⟨g, cap, cur, hg, hb, by omega, hm, by omega, fun j c hj => ?_, by rw [hv]⟩
      have hlt : j < l.length := (List.getElem?_eq_some_iff.1 hj).1
      have := congrArg (·[j]?) htk
      simp only [List.nil_append, Nat.zero_add, Nat.mul_one] at this
      rw [List.getElem?_take, if_pos hlt, Array.getElem?_toList, Array.getElem?_toList, bcells_at, hj] at this
      exact this
  clear hgrow hown1
  have HB1 := Lib.hid hB1
  have HBL := Lib.hid hblk
  have HCU := Lib.hid hcur
  have HCS := Lib.hid hcs
  clear hB1 hblk hcur hcs
  obtain ⟨frm, hf⟩ : ∃ frm : Nat, at_.tmod (8 * (l.length : Int) - 31) = frm := ⟨(at_ % (8 * (l.length : Int) - 31)).toNat, by
    rw [Int.tmod_eq_emod_of_nonneg hat.1]; have := Int.emod_nonneg at_ (show 8 * (l.length : Int) - 31 ≠ 0 by omega); omega⟩
  have hfl : frm + 32 ≤ 8 * l.length := by
    have := Int.emod_lt_of_pos at_ (show (0 : Int) < 8 * l.length - 31 by omega)
    rw [Int.tmod_eq_emod_of_nonneg hat.1] at hf; omega
  go_wp2_with fail
  have HF := Lib.hid hf
  clear hf
  have hH1 : Halves w1 := HH.out.below HB1.out
  have HH1 := Lib.hid hH1
  clear hH1
  go_loopw [33] (fun s33 wr => ∃ (i : Nat) (cr : Array Value), i ≤ 32 ∧ s33 = .int .i64 i ∧ Hid (Below w.heap.size w wr ∧ g < wr.heap.size ∧ wr.heap[g]? = some (.cells cr 5 (0, 0)) ∧ ∀ (j : Nat) (c : UInt8), l[j]? = some c → cr[j]? = some (Value.int .u8 ((c.toNat ^^^ tb turn frm i j : Nat) : Int)))) (fun s33 _ => 32 - (intOf s33).toNat)
  case atStart => exact ⟨0, cur, by omega, rfl, HB1.out, World.block_lt_of_heap HBL.out, HBL.out, fun j c hj => by rw [tb_zero, Nat.xor_zero]; exact HCU.out j c hj⟩
  case round =>
    obtain ⟨i, cr, hi, rfl, HR⟩ := hrel
    by_cases hlt : i < 32
    · have hiz : (i : Int) < 32 := by omega
      have hbit := bit_of turn i ht
      obtain ⟨q, hq⟩ : ∃ q : Nat, ((frm : Int) + i) / 8 = q := ⟨(frm + i) / 8, by omega⟩
      obtain ⟨t, hs⟩ : ∃ t : Nat, ((frm : Int) + i) % 8 = t := ⟨(frm + i) % 8, by omega⟩
      have hqt : frm + i = 8 * q + t := by omega
      have ht8 : t < 8 := by omega
      have hql : q < l.length := by omega
      cases hyes : turn.testBit i with
      | true =>
        rw [hyes] at hbit
        obtain ⟨v, hv⟩ : ∃ v : Nat, v = l[q].toNat ^^^ tb turn frm i q := ⟨_, rfl⟩
        have hv8 : v < 256 := by rw [hv]; exact Nat.xor_lt_two_pow (n := 8) l[q].toNat_lt (tb_lt _ _ _ _)
        have hcr : cr[q]? = some (Value.int .u8 (v : Int)) := by rw [hv]; exact HR.out.2.2.2 q _ (List.getElem?_eq_getElem hql)
        have hcell : wr.cell? ⟨g, q, none⟩ = some (.int .u8 (v : Int)) := (cell_of_block HR.out.2.2.1 q).trans hcr
        have hfree : ∀ k, wr.frozen? ⟨g, k, none⟩ = false := fun k => unfrozen_of_block HR.out.2.2.1 k
        have HV := Lib.hid hv
        have HCR := Lib.hid hcr
        clear hv hcr
        go_wp2_with fail
        go_region
        go_wp2_with fail
        go_roundw
        case rel =>
          refine ⟨i + 1, _, hlt, by go_num, ((HR.out.1.setCell (p := ⟨g, q, none⟩) hgw _).drew), by simpa [World.setCell, World.drew] using HR.out.2.1, block_setCell HR.out.2.2.1 _, fun j c hj => ?_⟩
          by_cases he : j = q
          · subst he
            have hlt2 : j < cr.size := (Array.getElem?_eq_some_iff.1 HCR.out).1
            rw [Array.getElem?_setIfInBounds_self_of_lt hlt2, u8_bit v t hv8 ht8, tb_yes hyes hqt ht8, ← Nat.xor_assoc, HV.out]
            rw [List.getElem?_eq_getElem hql] at hj
            obtain rfl := Option.some.inj hj
            rfl
          · rw [Array.getElem?_setIfInBounds_ne (Ne.symm he), tb_else hqt ht8 he]
            exact HR.out.2.2.2 j c hj
        case measure => simp [intOf]; omega
      | false =>
        rw [hyes] at hbit
        go_wp2_with fail
        go_roundw
        case rel => exact ⟨i + 1, cr, hlt, by go_num, HR.out.1, HR.out.2.1, HR.out.2.2.1, fun j c hj => by rw [tb_no hyes]; exact HR.out.2.2.2 j c hj⟩
        case measure => simp [intOf]; omega
    · obtain rfl : i = 32 := by omega
      obtain ⟨hbel, hgs, hblk, hcs⟩ := HR.out
      obtain ⟨G, rfl⟩ := Gr.of hbel
      have hB : BAt G.val (some ⟨g, 0, none⟩) (turnedBy l turn frm) := by
        intro _
        refine ⟨g, 0, rfl, hgs, fun j c hj => ?_⟩
        have hlt : j < l.length := by have := (List.getElem?_eq_some_iff.1 hj).1; rw [turnedBy_len] at this; exact this
        have h1 := hcs j _ (List.getElem?_eq_getElem hlt)
        have h2 := turnedBy_at l turn frm j hlt
        rw [hj] at h2
        rw [Nat.zero_add, cell_of_block hblk j, h1, ← Option.some.inj h2]
      have HBo := Lib.hid (fun G2 : Gr G.val => sum_n (turnedBy l turn frm) l.length (turnedBy_len _ _ _) (some ⟨g, 0, none⟩) cap (by omega) G2.val (hB.gr G2) ((HH.out.gr G).gr G2))
      have HBi := Lib.hid (fun G2 : Gr G.val => sum_any l (some ⟨b, off, none⟩) ca (by omega) G2.val ((hA.gr G).gr G2) ((HH.out.gr G).gr G2))
      have hne := turnedBy_sum l turn frm HT0.out ht hfl
      generalize Rc.sum (bn (turnedBy l turn frm)) = s1 at *
      generalize Rc.sum (bn l) = s2 at *
      have hneb : ((s1 : Int) != (s2 : Int)) = true := by simp; omega
      clear hbel hgs hblk hcs hB hne
      go_wp2_with fail
      go_at_call 6
      refine (fixed4_any _ (HH.out.gr G)).mono ?_
      rintro e w' ⟨rfl, hb⟩
      obtain ⟨G2, rfl⟩ := Gr.of hb
      clear hb
      go_wp2_with fail
      go_at_call 7
      refine (HBo.out G2).mono ?_
      rintro e w' ⟨rfl, rfl⟩
      go_wp2_with fail
      go_at_call 7
      refine (HBi.out G2).mono ?_
      rintro e w' ⟨rfl, rfl⟩
      go_wp2_with fail
      go_ret
      exact ⟨rfl, G.ok.trans (G2.ok.mono G.size)⟩
theorem crcBursts_int (l : List UInt8) (A : Option Addr) (ca : Nat) (at_ turn : Int) (w : World) (hl : l.length ≤ ca) (hca : ca ≤ 9223372036854775807) (hat : 0 ≤ at_ ∧ at_ ≤ 65535) (ht : 0 ≤ turn ∧ turn ≤ 4294967295) (hA : BAt w A l) (hH : Halves w) :
    Calls Tryd.prog 4 #[.slice A l.length ca, .int .u16 at_, .int .u32 turn] w fun e w' => e = .returned (.bool true) ∧ Below w.heap.size w w' := by
  obtain ⟨t, rfl⟩ := Int.eq_ofNat_of_zero_le ht.1
  exact crcBursts_walk l A ca at_ t w hl hca hat (by omega) hA hH
end Go.Proofs.YtapinfagjhpciaaDoor
