import Derived.Test.YtgmcacmdiiogmaaZCV1
import Derived.Test.YtgmcacmdiiogmaaZCUS4
/- CursorLazy, walked. -/
section
namespace Go.Proofs.Ytgmcacmdiiogmaa
open Go.ChangeShapes Go.WideShapes Go.ChangeAt Go.RowKit Go.Joins Sp

set_option maxRecDepth 100000 in
set_option maxHeartbeats 8000000 in
theorem cursorLazy_any {St : StP} {Ct : CtP} (K : CuK St Ct) (rows : List (List Spn)) (A : Option Addr) (d : Nat) (sk : Int) (w : World) (hl : (rows.length : Int) ≤ 9223372036854775807) (hin : ∀ l ∈ rows, In64 l) (h64 : Int64P sk) (hs : SsAt w A rows) :
    Calls Try.prog 5 #[.slice A rows.length d, .int .i64 sk] w fun e w' => e = .returned (.bool true) ∧ Below w.heap.size w w' := by
  have HFX := Lib.hid (fun V : World => fixed14_any K V)
  by_cases h20 : (20 : Int) < rows.length
  · clear hs hin
    go_enter Try.func5, Try.ntmps5
    go_wp2_with fail
    go_at_call 9
    refine (HFX.out _).mono ?_
    rintro e w2 ⟨rfl, hb⟩
    have HB2 := Lib.hid hb
    clear hb
    go_wp2_with fail
    go_ret
    exact ⟨rfl, HB2.out⟩
  have HS := Lib.hid hs
  have HIN := Lib.hid hin
  have HNC := Lib.hid (K.newC w)
  obtain ⟨is0, his0, hqs0, hqs1, hqs2⟩ := info_parts ptr_info
  have hr20 : rows.length ≤ 20 := by omega
  clear hs hin
  go_enter Try.func5, Try.ntmps5
  go_wp2_with fail
  go_at_call 10
  refine HNC.out.mono ?_
  rintro e w2 ⟨c, C, rfl, hct, hC, hb2⟩
  have HB2 := Lib.hid hb2
  have HC : Hid (∀ b, C b → w.heap.size ≤ b ∧ b < w2.heap.size) := fun b h => ⟨hC b h, K.clt hct b h⟩
  have HCT : Hid (∀ V, Below w2.heap.size w2 V → Ct V c 0 C) := fun V hV => K.coff hct (.of_below (F := fun _ => False) hV) fun _ _ => id
  have HSA : Hid (∀ V, Below w2.heap.size w2 V → SsAt V A rows) := fun V hV => (HS.out.below hb2).below hV
  clear hct hC hb2 HNC
  go_wp2_with fail
  go_loopw [6, 7, 22] (fun s6 s7 s22 wr => ∃ (i tot cs : Nat) (As : Option Addr) (g : Gr w2), wr = g.val ∧ i ≤ rows.length ∧ tot ≤ 13 * i ∧ s22 = .int .i64 i ∧ s7 = .int .i64 tot ∧ s6 = .slice As i cs ∧ Hid (∃ T ps ls ns, H1 St w2 g.val T c i cs As ps ps ls ns ∧ ns.sum = tot ∧ total ls ≤ tot)) (fun _ _ s22 _ => rows.length - (intOf s22).toNat)
  case atStart => exact ⟨0, 0, 0, none, ⟨w2, Below.refl _ _⟩, rfl, Nat.zero_le _, Nat.le_refl _, rfl, rfl, rfl, fun _ => 0, [], [], [], H1.start _ _ _, rfl, Nat.le_refl _⟩
  case round =>
    obtain ⟨i, tot, cs, As, g, rfl, hi, htot, rfl, rfl, rfl, HH⟩ := hrel
    by_cases hlt : i < rows.length
    · have hiz : (i : Int) < rows.length := by omega
      have hw1 : IntKind.i64.wrap ((i : Int) + 1) = i + 1 := by rw [IntKind.wrap_i64]; omega
      obtain ⟨l, hli⟩ : ∃ l, rows[i]? = some l := ⟨_, List.getElem?_eq_getElem hlt⟩
      obtain ⟨br, or, Ai, di, rfl, hcell, hsl⟩ := (HSA.out g.val g.ok).at_ hli
      have hli64 := HIN.out l (List.mem_of_getElem? hli)
      have hcap : (l.length : Int) ≤ 9223372036854775807 := by have := hsl.le; have := hsl.cap; unfold maxLen at this; omega
      by_cases h12 : (12 : Int) < l.length
      · clear hsl
        go_wp2_with fail
        go_at_call 9
        refine (HFX.out _).mono ?_
        rintro e w3 ⟨rfl, hb⟩
        have HB3 := Lib.hid (HB2.out.trans ((g.ok.trans (hb.mono g.size)).mono HB2.out.size))
        clear hb
        go_wp2_with fail
        go_ret
        exact ⟨rfl, HB3.out⟩
      · have hl12 : l.length ≤ 12 := by omega
        have HR := Lib.hid (K.row g.val c 0 C l Ai di (by omega) hli64 (HCT.out g.val g.ok) hsl)
        obtain ⟨T, ps, ls, ns, hh, hsum, htl⟩ := HH.out
        have HTL := Lib.hid htl
        clear htl
        have HH1 := Lib.hid hh
        have HSU := Lib.hid hsum
        have HLP := Lib.hid hh.sb.lp
        have hwl : IntKind.i64.wrap ((l.length : Int) + 1) = (l.length : Int) + 1 := by rw [IntKind.wrap_i64]; omega
        have hwt : IntKind.i64.wrap ((tot : Int) + (l.length + 1)) = ((tot + (l.length + 1) : Nat) : Int) := by rw [IntKind.wrap_i64]; omega
        have hmx : i + 1 ≤ maxLen := by unfold maxLen; omega
        have hby : (i + 1) * 8 ≤ 140737488355328 := by omega
        clear hh hsum hsl hli hli64 HH
        go_wp2_with fail
        go_at_call 18
        refine HR.out.mono ?_
        rintro e w3 ⟨p, F, rfl, hst, hF, hb⟩
        obtain ⟨pa, rfl⟩ := K.ptr hst
        have HH3 := Lib.hid (HH1.out.push K hb hst hF)
        clear hst hF hb HR
        obtain ⟨T3, hT3⟩ : ∃ T3, upd T g.val.heap.size (ps.length + 3) = T3 := ⟨_, rfl⟩
        rw [hT3] at HH3
        clear hT3
        go_upto_region 12 with (refine wpList_append_lies _ rfl _ _ _ (by rfl) w2.heap.size 27 is0 _ 1 8 Try.underlying45 his0 hqs0 hqs1 hqs2 rfl (by decide) (.slice As i cs) i _ (by rfl) (own_off HH3.out.sb.own (F := fun _ => False) (.of_below ((Below.refl _ _).alloc (Nat.le_refl _) _)) (fun _ _ => id)) ⟨w3.heap.size, 0, none⟩ 1 1 [.pointer pa] (by rfl) (by rfl) (World.news_of_block (cs := #[.pointer pa]) (t := 27) (fr := (0, 0)) (heap_alloc_new _ _)) (by simp [Value.oneCell']) (Nat.lt_succ_self 0) hmx hby (by simp; have := HH3.out.bel.size; omega) _ rfl ?_; intro gg cap w4 hown4 hgr4 hat4 hlt4)
        have HH4 := Lib.hid (HH3.out.app_s K hown4 hgr4 hat4)
        clear hown4 hgr4 hat4 hlt4
        go_wp2_with fail
        go_roundw
        case rel => exact ⟨i + 1, tot + (l.length + 1), cap, some ⟨gg, 0, none⟩, ⟨w4, HH4.out.bel⟩, rfl, by omega, by omega, by go_num, by first | rfl | go_num, rfl, _, _, _, _, HH4.out, by simp [HSU.out], by have := HTL.out; have := form_len l; rw [total_app, total_one]; omega⟩
        case measure => simp [intOf]; omega
    · obtain rfl : i = rows.length := by omega
      have hiz : ¬ (rows.length : Int) < rows.length := by omega
      obtain ⟨T, ps, ls, ns, hh, hsum, htl⟩ := HH.out
      have HLL : Hid ((behindL (unionL ls) sk).length ≤ 1000) := by
        have q1 := union_len ls
        have q2 : (behindL (unionL ls) sk).length ≤ (unionL ls).length := List.length_filterMap_le _ _
        show _ ≤ _
        omega
      clear htl
      have HU := Lib.hid (hh.union K (by omega))
      have HBG := Lib.hid (And.intro hh.bel hh.ss.base)
      subst hsum
      have htz : (ns.sum : Int) ≤ 1000 := by omega
      clear hh HH
      go_wp2_with fail
      go_at_call 19
      refine HU.out.mono ?_
      rintro e w5 ⟨a5, F5, rfl, hst5, hF5, G5, ho5, hG5⟩
      have HB5 := Lib.hid (HBG.out.1.trans (ho5.toBelow HBG.out.1.size fun b h => (hG5 b h).1))
      have HF5 : Hid (∀ b, F5 b → w2.heap.size ≤ b) := fun b h => (hF5 b h).1
      have HSK := Lib.hid (K.skip w5 c _ _ _ F5 sk h64 hst5)
      clear hst5 hF5 ho5 hG5 HU
      go_wp2_with fail
      go_at_call 16
      refine HSK.out.mono ?_
      rintro e w6 ⟨F6, rfl, hst6, hF6, ho6⟩
      have HB6 := Lib.hid (HB5.out.trans (ho6.toBelow HB5.out.size HF5.out))
      have HF6 : Hid (∀ b, F6 b → w2.heap.size ≤ b) := fun b h => (hF6 b h).elim (HF5.out b) fun q => Nat.le_trans HB5.out.size q
      have HST6 : Hid (∀ V, Below w6.heap.size w6 V → St V c (.pointer a5) (behindL (unionL ls) sk) ns.sum F6) := fun V hV => K.off hst6 (.of_below (F := fun _ => False) hV) fun _ _ => id
      have HS6 := Lib.hid (K.steps w6 c 0 C (by decide) (HCT.out w6 HB6.out))
      clear hst6 hF6 ho6 HSK
      go_wp2_with fail
      go_at_call 15
      refine HS6.out.mono ?_
      rintro e w7 ⟨rfl, hb⟩
      have HB7 := Lib.hid hb
      have HSN := Lib.hid (K.skip w7 (.pointer none) (.pointer none) [] 0 (fun _ => False) sk h64 (K.nilS _ _))
      clear hb HS6
      go_wp2_with fail
      go_at_call 16
      refine HSN.out.mono ?_
      rintro e w8 ⟨F8, rfl, _, _, ho8⟩
      have HB8 : Hid (Below w6.heap.size w6 w8) := HB7.out.trans (ho8.toBelow HB7.out.size fun b h => h.elim)
      have HNX := Lib.hid (K.next w8 (.pointer none) (.pointer none) [] 0 (fun _ => False) 0 (fun _ => False) (K.nilS _ _) (K.nilC _) fun _ h => h.elim)
      clear ho8 HSN HB7
      go_wp2_with fail
      go_at_call 13
      refine HNX.out.mono ?_
      rintro e w9 ⟨L9, n9, k9, F9, x1, x2, ok, rfl, hw9, _, _, _, _, ho9⟩
      have hok : ok = false := by
        rcases hw9 with h | h
        · exact h.2.2.2.2
        · cases h.1
      subst hok
      have HB9 : Hid (Below w6.heap.size w6 w9) := HB8.out.trans (ho9.toBelow HB8.out.size fun b h => h.elim False.elim False.elim)
      have HAL : Hid (∀ V, Below w6.heap.size w6 V → _) := fun V hV => K.all V c (.pointer a5) _ ns.sum F6 0 C (Nat.le_trans HLL.out (by decide)) (HST6.out V hV) (HCT.out V (HB6.out.trans (hV.mono HB6.out.size))) fun b h1 h2 => by have := HF6.out b h1; have := (HC.out b h2).2; omega
      clear hw9 ho9 HNX HB8
      go_wp2_with fail
      go_at_call 12
      refine (HAL.out _ (bel_al HB9.out _)).mono ?_
      rintro e w10 ⟨A10, d10, n10, k10, F10, rfl, _, _, _, hct10, hk10, _, ho10⟩
      have hb9w : Below w.heap.size w (w9.alloc (.cells #[.int .i64 x1, .int .i64 x2] 33)) := HB2.out.trans ((HB6.out.trans ((bel_al HB9.out _).mono HB6.out.size)).mono HB2.out.size)
      have HB10 := Lib.hid (hb9w.trans (ho10.toBelow hb9w.size fun b h => h.elim (fun h => Nat.le_trans HB2.out.size (HF6.out b h)) fun h => (HC.out b h).1))
      have HCT10 : Hid (∀ V, Below w10.heap.size w10 V → Calls Try.prog 15 #[c] V fun e w' => e = .returned (.int .i64 k10) ∧ Below V.heap.size V w') := fun V hV => K.steps V c k10 C (by omega) (K.coff hct10 (.of_below (F := fun _ => False) hV) fun _ _ => id)
      have hkm : (k10 : Int) ≤ ns.sum := by omega
      clear hct10 ho10 hb9w HAL HB9
      go_wp2_with fail
      go_at_call 9
      refine (HFX.out _).mono ?_
      rintro e w11 ⟨rfl, hb⟩
      have HB11 := Lib.hid hb
      have HA0 := Lib.hid (K.all w11 (.pointer none) (.pointer none) [] 0 (fun _ => False) 0 (fun _ => False) (Nat.zero_le _) (K.nilS _ _) (K.nilC _) fun _ h => h.elim)
      clear hb
      go_wp2_with fail
      go_at_call 12
      refine HA0.out.mono ?_
      rintro e w12 ⟨A12, d12, n12, k12, F12, rfl, _, _, _, _, _, _, ho12⟩
      have HB12 : Hid (Below w10.heap.size w10 w12) := HB11.out.trans (ho12.toBelow HB11.out.size fun b h => h.elim False.elim False.elim)
      have HS0 := Lib.hid (K.steps w12 (.pointer none) 0 (fun _ => False) (by decide) (K.nilC _))
      clear ho12 HA0
      go_wp2_with fail
      go_at_call 15
      refine HS0.out.mono ?_
      rintro e w13 ⟨rfl, hb⟩
      have HB13 := Lib.hid (HB12.out.trans (hb.mono HB12.out.size))
      clear hb
      go_wp2_with fail
      go_at_call 15
      refine (HCT10.out _ HB13.out).mono ?_
      rintro e w14 ⟨rfl, hb⟩
      have HB14 := Lib.hid (HB10.out.trans ((HB13.out.trans (hb.mono HB13.out.size)).mono HB10.out.size))
      clear hb
      go_wp2_with fail
      go_ret
      exact ⟨by first | rfl | simp [hkm], HB14.out⟩
end Go.Proofs.Ytgmcacmdiiogmaa
end
