import Derived.Test.YtgmcacmdiiogmaaZCV3
import Derived.Test.YtgmcacmdiiogmaaZCUS4
/- CursorMeets, walked. -/
section
namespace Sp
theorem unionFrom_has : ∀ (ls : List (List Spn)) (o : List Spn) (m : Int), has (unionFrom o ls) m ↔ has o m ∨ ∃ l ∈ ls, has l m
  | [], o, m => by simp [unionFrom]
  | l :: r, o, m => by
    show has (unionFrom (pair (cW 0) o l) r) m ↔ _
    rw [unionFrom_has r, pairW_has]
    simp only [List.mem_cons, exists_eq_or_imp, ← hasB_iff]
    cases hasB o m <;> cases hasB l m <;> simp [cW]
theorem union_has (ls : List (List Spn)) (m : Int) : has (unionL ls) m ↔ ∃ l ∈ ls, has l m := by
  unfold unionL
  rw [unionFrom_has]
  simp [has_nil]
theorem unionFrom_form : ∀ (ls : List (List Spn)) (o : List Spn), form o → form (unionFrom o ls)
  | [], _, h => h
  | l :: r, o, _ => unionFrom_form r _ (pair_form (cW 0) o l)
theorem meet2_has (a b : List Spn) (m : Int) : has (meetL [a, b]) m ↔ has a m ∧ has b m := by
  show has (pair (cW 1) (formL a) b) m ↔ _
  rw [pairW_has, formL_hasB, ← hasB_iff, ← hasB_iff]
  cases hasB a m <;> cases hasB b m <;> simp [cW]
/-- What a union has in common with a row is the union of what each has. -/
theorem meets_is (rows : List (List Spn)) (l : List Spn) : meetL [unionL (rows.map formL), formL l] = unionL (rows.map fun x => meetL [formL x, formL l]) := by
  refine form_unique _ _ (pair_form (cW 1) _ _) (unionFrom_form _ _ trivial) fun m => ?_
  rw [meet2_has, union_has, union_has]
  constructor
  · rintro ⟨⟨x, hx, h1⟩, h2⟩
    obtain ⟨y, hy, rfl⟩ := List.mem_map.1 hx
    exact ⟨_, List.mem_map.2 ⟨y, hy, rfl⟩, (meet2_has _ _ _).2 ⟨h1, h2⟩⟩
  · rintro ⟨x, hx, h⟩
    obtain ⟨y, hy, rfl⟩ := List.mem_map.1 hx
    obtain ⟨h1, h2⟩ := (meet2_has _ _ _).1 h
    exact ⟨⟨_, List.mem_map.2 ⟨y, hy, rfl⟩, h1⟩, h2⟩
end Sp
namespace Go.Proofs.Ytgmcacmdiiogmaa
open Go.ChangeShapes Go.WideShapes Go.ChangeAt Go.RowKit Go.Joins Sp

/-- Two rows of streams, apart. -/
structure Tw (St : StP) (w wr : World) (Ta Tb : Nat → Nat) (ca cb : Nat) (Aa Ab : Option Addr) (pa pa' pb pb' : List Value) (la lb : List (List Spn)) (na nb : List Nat) (ja jb : Nat) : Prop where
  a : H1 St w wr Ta (.pointer none) ja ca Aa pa pa' la na
  b : H1 St w wr Tb (.pointer none) jb cb Ab pb pb' lb nb
  x : ∀ k, w.heap.size ≤ k → k < wr.heap.size → Ta k = 0 ∨ Tb k = 0
section
variable {St : StP} {Ct : CtP} {w wr w' : World} {Ta Tb : Nat → Nat} {ca cb ja jb gg cap : Nat} {Aa Ab : Option Addr} {pa pa' pb pb' : List Value} {la lb : List (List Spn)} {na nb : List Nat} {o : Obj}
theorem x_upd (h : ∀ k, w.heap.size ≤ k → k < wr.heap.size → Ta k = 0 ∨ Tb k = 0) {t : Nat} (V : World) : ∀ k, w.heap.size ≤ k → k < V.heap.size → upd Ta wr.heap.size t k = 0 ∨ upd Tb wr.heap.size 0 k = 0 := fun k h1 _ => by
  by_cases q : k < wr.heap.size
  · rw [upd_old _ q, upd_old _ q]; exact h k h1 q
  · exact .inr (upd_new _ (by omega))
theorem Tw.swap (h : Tw St w wr Ta Tb ca cb Aa Ab pa pa' pb pb' la lb na nb ja jb) : Tw St w wr Tb Ta cb ca Ab Aa pb pb' pa pa' lb la nb na jb ja := ⟨h.b, h.a, fun k h1 h2 => (h.x k h1 h2).symm⟩
/-- A new stream, held by the first ones. -/
theorem Tw.push (K : CuK St Ct) (h : Tw St w wr Ta Tb ca cb Aa Ab pa pa' pb pb' la lb na nb ja jb) {p : Value} {L : List Spn} {q : Nat} {F : Nat → Prop} (hb : Below wr.heap.size wr w') (hs : St w' (.pointer none) p L q F) (hF : ∀ b, F b → wr.heap.size ≤ b) :
    Tw St w w' (upd Ta wr.heap.size (pa'.length + 3)) (upd Tb wr.heap.size 0) ca cb Aa Ab pa (pa' ++ [p]) pb pb' (la ++ [L]) lb (na ++ [q]) nb ja jb := ⟨h.a.push K hb hs hF, h.b.up K hb 0, x_upd h.x w'⟩
/-- It is put down. -/
theorem Tw.app (K : CuK St Ct) (h : Tw St w wr Ta Tb ca cb Aa Ab pa pa' pb pb' la lb na nb ja jb) {p : Value} (hown : w'.ownsRow w.heap.size 27 1 (.slice (some ⟨gg, 0, none⟩) (ja + 1) cap) (ja + 1) (pa ++ [p]))
    (hgr : (wr.alloc o).grownBy w' (Value.slice Aa ja ca).ownBlock) (hat : (Value.slice Aa ja ca).ownBlock = some gg ∨ gg = (wr.alloc o).heap.size) :
    Tw St w w' (upd Ta wr.heap.size 1) (upd Tb wr.heap.size 0) cap cb (some ⟨gg, 0, none⟩) Ab (pa ++ [p]) pa' pb pb' la lb na nb (ja + 1) jb := by
  have ht := own_tag h.a.sb.own h.a.sb.tag
  exact ⟨h.a.app_s K hown hgr hat, h.b.offZ K (grown_off hgr) (fun b q => (ht b q).1) fun b hb q => (h.x b (ht b q).1 hb).elim (fun e => by have := (ht b q).2.2; omega) id, x_upd h.x w'⟩
end

set_option maxRecDepth 100000 in
set_option maxHeartbeats 8000000 in
theorem cursorMeets_any {St : StP} {Ct : CtP} (K : CuK St Ct) (rows : List (List Spn)) (l : List Spn) (A B : Option Addr) (d e : Nat) (w : World) (hl : (rows.length : Int) ≤ 9223372036854775807) (hin : ∀ l ∈ rows, In64 l) (hinl : In64 l) (hs : SsAt w A rows) (hsl : Sl w B l.length e (sv l)) :
    Calls Try.prog 7 #[.slice A rows.length d, .slice B l.length e] w fun e w' => e = .returned (.bool true) ∧ Below w.heap.size w w' := by
  have HFX := Lib.hid (fun V : World => fixed14_any K V)
  have hcl : (l.length : Int) ≤ 9223372036854775807 := by have := hsl.le; have := hsl.cap; unfold maxLen at this; omega
  have hways : ((10 : Int) < rows.length ∧ decide ((10 : Int) < rows.length) = true) ∨ (¬ (10 : Int) < rows.length ∧ decide ((10 : Int) < rows.length) = false ∧ (12 : Int) < l.length) ∨ (¬ (10 : Int) < rows.length ∧ decide ((10 : Int) < rows.length) = false ∧ ¬ (12 : Int) < l.length) := by
    by_cases q : (10 : Int) < rows.length
    · exact .inl ⟨q, decide_eq_true q⟩
    · by_cases q2 : (12 : Int) < l.length
      · exact .inr (.inl ⟨q, decide_eq_false q, q2⟩)
      · exact .inr (.inr ⟨q, decide_eq_false q, q2⟩)
  rcases hways with ⟨h10, h10b⟩ | ⟨h10, h10b, h12⟩ | ⟨h10, h10b, h12⟩
  case inr.inr =>
    have HS := Lib.hid hs
    have HIN := Lib.hid hin
    have HRL : Hid (∀ V, Below w.heap.size w V → Calls Try.prog 18 #[.pointer none, .slice B l.length e] V fun e w' => ∃ p F, e = .returned p ∧ St w' (.pointer none) p (formL l) (l.length + 1) F ∧ (∀ b, F b → V.heap.size ≤ b) ∧ Below V.heap.size V w') := fun V hV => K.row V (.pointer none) 0 _ l B e (by omega) hinl (K.nilC V) (hsl.below hV (Nat.le_refl _))
    obtain ⟨is0, his0, hqs0, hqs1, hqs2⟩ := info_parts ptr_info
    have hr10 : rows.length ≤ 10 := by omega
    clear hs hin hsl hinl
    go_enter Try.func7, Try.ntmps7
    go_wp2_with fail
    go_loopw [5, 6, 21] (fun s5 s6 s21 wr => ∃ (i ca cb : Nat) (Aa Ab : Option Addr) (g : Gr w), wr = g.val ∧ i ≤ rows.length ∧ s21 = .int .i64 i ∧ s5 = .slice Aa i ca ∧ s6 = .slice Ab i cb ∧ Hid (∃ Ta Tb pa pb na nb, Tw St w g.val Ta Tb ca cb Aa Ab pa pa pb pb ((rows.take i).map formL) ((rows.take i).map fun x => meetL [formL x, formL l]) na nb i i) ∧ Hid (∀ x ∈ rows.take i, x.length ≤ 12)) (fun _ _ s21 _ => rows.length - (intOf s21).toNat)
    case atStart => exact ⟨0, 0, 0, none, none, ⟨w, Below.refl _ _⟩, rfl, Nat.zero_le _, rfl, rfl, rfl, ⟨fun _ => 0, fun _ => 0, [], [], [], [], H1.start _ _ _, H1.start _ _ _, fun _ _ _ => .inl rfl⟩, fun x hx => by simp at hx⟩
    case round =>
      obtain ⟨i, ca, cb, Aa, Ab, g, rfl, hi, rfl, rfl, rfl, HH, HX12⟩ := hrel
      by_cases hlt : i < rows.length
      · have hiz : (i : Int) < rows.length := by omega
        have hw1 : IntKind.i64.wrap ((i : Int) + 1) = i + 1 := by rw [IntKind.wrap_i64]; omega
        obtain ⟨x, hxi⟩ : ∃ x, rows[i]? = some x := ⟨_, List.getElem?_eq_getElem hlt⟩
        obtain ⟨br, or, Ai, di, rfl, hcell0, hsx⟩ := HS.out.at_ hxi
        have hcell := cell_old hcell0 g.ok
        clear hcell0
        have hx64 := HIN.out x (List.mem_of_getElem? hxi)
        have hcap : (x.length : Int) ≤ 9223372036854775807 := by have := hsx.le; have := hsx.cap; unfold maxLen at this; omega
        have HT1 : Hid ((rows.take (i + 1)).map formL = (rows.take i).map formL ++ [formL x] ∧ (rows.take (i + 1)).map (fun x => meetL [formL x, formL l]) = (rows.take i).map (fun x => meetL [formL x, formL l]) ++ [meetL [formL x, formL l]]) := by
          constructor <;> (rw [List.take_add_one, hxi, List.map_append]; rfl)
        by_cases hx12 : (12 : Int) < x.length
        · clear hsx
          go_wp2_with fail
          go_at_call 9
          refine (HFX.out _).mono ?_
          rintro e w3 ⟨rfl, hb⟩
          have HB3 := Lib.hid (g.ok.trans (hb.mono g.size))
          clear hb
          go_wp2_with fail
          go_ret
          exact ⟨rfl, HB3.out⟩
        · have hx12' : x.length ≤ 12 := by omega
          have HX13 : Hid (∀ y ∈ rows.take (i + 1), y.length ≤ 12) := fun y hy => by
            rw [List.take_add_one, hxi, List.mem_append] at hy
            rcases hy with h | h
            · exact HX12.out y h
            · obtain rfl : y = x := by simpa using h
              exact hx12'
          have HRX : Hid (∀ V, Below w.heap.size w V → Calls Try.prog 18 #[.pointer none, .slice Ai x.length di] V fun e w' => ∃ p F, e = .returned p ∧ St w' (.pointer none) p (formL x) (x.length + 1) F ∧ (∀ b, F b → V.heap.size ≤ b) ∧ Below V.heap.size V w') := fun V hV => K.row V (.pointer none) 0 _ x Ai di (by omega) hx64 (K.nilC V) (hsx.below hV (Nat.le_refl _))
          obtain ⟨Ta, Tb, pa, pb, na, nb, hh⟩ := HH.out
          have HH1 := Lib.hid hh
          have hmx : i + 1 ≤ maxLen := by unfold maxLen; omega
          have hby : (i + 1) * 8 ≤ 140737488355328 := by omega
          obtain ⟨la, hla⟩ : ∃ la, (rows.take i).map formL = la := ⟨_, rfl⟩
          obtain ⟨lb, hlb⟩ : ∃ lb, (rows.take i).map (fun x => meetL [formL x, formL l]) = lb := ⟨_, rfl⟩
          rw [hla, hlb] at HH1 HT1
          clear hh hsx hxi hx64 HH hla hlb
          go_wp2_with fail
          go_at_call 18
          refine (HRX.out _ g.ok).mono ?_
          rintro e w3 ⟨p3, F3, rfl, hst, hF, hb⟩
          obtain ⟨q3, rfl⟩ := K.ptr hst
          have HH3 := Lib.hid (HH1.out.push K hb hst hF)
          clear hst hF hb HH1
          generalize upd Ta g.val.heap.size (pa.length + 3) = Ta3 at *
          generalize upd Tb g.val.heap.size 0 = Tb3 at *
          go_upto_region 10 with (refine wpList_append_lies _ rfl _ _ _ (by rfl) w.heap.size 27 is0 _ 1 8 Try.underlying45 his0 hqs0 hqs1 hqs2 rfl (by decide) (.slice Aa i ca) i _ (by rfl) (own_off HH3.out.a.sb.own (F := fun _ => False) (.of_below ((Below.refl _ _).alloc (Nat.le_refl _) _)) (fun _ _ => id)) ⟨w3.heap.size, 0, none⟩ 1 1 [.pointer q3] (by rfl) (by rfl) (World.news_of_block (cs := #[.pointer q3]) (t := 27) (fr := (0, 0)) (heap_alloc_new _ _)) (by simp [Value.oneCell']) (Nat.lt_succ_self 0) hmx hby (by simp; have := HH3.out.a.bel.size; omega) _ rfl ?_; intro ga capa w4 hown4 hgr4 hat4 hlt4)
          have HH4 := Lib.hid (HH3.out.app K hown4 hgr4 hat4)
          clear hown4 hgr4 hat4 hlt4 HH3
          generalize upd Ta3 w3.heap.size 1 = Ta4 at *
          generalize upd Tb3 w3.heap.size 0 = Tb4 at *
          go_wp2_with fail
          go_at_call 18
          refine (HRX.out _ HH4.out.a.bel).mono ?_
          rintro e w5 ⟨p5, F5, rfl, hst5, hF5, hb5⟩
          obtain ⟨q5, rfl⟩ := K.ptr hst5
          have HB5 := Lib.hid hb5
          have HF5 : Hid (∀ b, F5 b → w4.heap.size ≤ b) := hF5
          have HS5 := Lib.hid hst5
          clear hst5 hF5 hb5
          go_wp2_with fail
          go_at_call 18
          refine (HRL.out _ (HH4.out.a.bel.trans (HB5.out.mono HH4.out.a.bel.size))).mono ?_
          rintro e w6 ⟨p6, F6, rfl, hst6, hF6, hb6⟩
          obtain ⟨q6, rfl⟩ := K.ptr hst6
          have HB6 := Lib.hid (HB5.out.trans (hb6.mono HB5.out.size))
          have HF6 : Hid (∀ b, F6 b → w4.heap.size ≤ b) := fun b h => Nat.le_trans HB5.out.size (hF6 b h)
          have HM6 := Lib.hid (K.meet2 (K.off (K.off HS5.out (.of_below (F := fun _ => False) hb6) (fun _ _ => id)) (.of_below (F := fun _ => False) (bel_al (Below.refl _ _) (.cells #[.pointer q5, .pointer q6] 27))) (fun _ _ => id)) (K.off hst6 (.of_below (F := fun _ => False) (bel_al (Below.refl _ _) _)) (fun _ _ => id)) (fun b h1 h2 => by have := K.lt HS5.out b h1; have := hF6 b h2; omega) (heap_alloc_new _ _) (fun h => by have := K.lt HS5.out _ h; have := hb6.size; omega) (fun h => by have := K.lt hst6 _ h; omega))
          clear hst6 hF6 hb6 HS5
          go_wp2_with fail
          go_at_call 21
          refine HM6.out.mono ?_
          rintro e w7 ⟨p7, F7, rfl, hst7, hF7, ho7⟩
          obtain ⟨q7, rfl⟩ := K.ptr hst7
          have hb47 : Below w4.heap.size w4 w7 := (bel_al HB6.out _).trans (ho7.toBelow (bel_al HB6.out _).size fun b h => h.elim (HF5.out b) (HF6.out b))
          have HH7 := Lib.hid (HH4.out.swap.push K hb47 hst7 fun b h => (hF7 b h).elim (fun h => h.elim (HF5.out b) (HF6.out b)) fun q => Nat.le_trans (bel_al HB6.out (.cells #[.pointer q5, .pointer q6] 27)).size q)
          clear hst7 hF7 ho7 hb47 HM6 HH4
          generalize upd Ta4 w4.heap.size 0 = Ta7 at *
          generalize upd Tb4 w4.heap.size (pb.length + 3) = Tb7 at *
          go_upto_region 11 with (refine wpList_append_lies _ rfl _ _ _ (by rfl) w.heap.size 27 is0 _ 1 8 Try.underlying45 his0 hqs0 hqs1 hqs2 rfl (by decide) (.slice Ab i cb) i _ (by rfl) (own_off HH7.out.a.sb.own (F := fun _ => False) (.of_below ((Below.refl _ _).alloc (Nat.le_refl _) _)) (fun _ _ => id)) ⟨w7.heap.size, 0, none⟩ 1 1 [.pointer q7] (by rfl) (by rfl) (World.news_of_block (cs := #[.pointer q7]) (t := 27) (fr := (0, 0)) (heap_alloc_new _ _)) (by simp [Value.oneCell']) (Nat.lt_succ_self 0) hmx hby (by simp; have := HH7.out.a.bel.size; omega) _ rfl ?_; intro gb capb w8 hown8 hgr8 hat8 hlt8)
          have HH8 := Lib.hid (HH7.out.app K hown8 hgr8 hat8)
          clear hown8 hgr8 hat8 hlt8
          go_wp2_with fail
          go_roundw
          case rel => exact ⟨i + 1, capa, capb, some ⟨ga, 0, none⟩, some ⟨gb, 0, none⟩, ⟨w8, HH8.out.a.bel⟩, rfl, by omega, by go_num, rfl, rfl, ⟨_, _, _, _, _, _, by rw [HT1.out.1, HT1.out.2]; exact HH8.out.swap⟩, HX13.out⟩
          case measure => simp [intOf]; omega
      · obtain rfl : i = rows.length := by omega
        have hiz : ¬ (rows.length : Int) < rows.length := by omega
        obtain ⟨Ta, Tb, pa, pb, na, nb, hh⟩ := HH.out
        rw [List.take_length] at hh
        have HEQ := Lib.hid (meets_is rows l)
        have HLU : Hid ((unionL (rows.map fun x => meetL [formL x, formL l])).length ≤ 100000) := by
          have h12 : ∀ x ∈ rows, x.length ≤ 12 := by have := HX12.out; rwa [List.take_length] at this
          have q1 := union_len (rows.map fun x => meetL [formL x, formL l])
          have q2 : ∀ rs : List (List Spn), (∀ x ∈ rs, x.length ≤ 12) → total (rs.map fun x => meetL [formL x, formL l]) ≤ 24 * rs.length := by
            intro rs
            induction rs with
            | nil => intro _; exact Nat.le_refl _
            | cons x r ih =>
              intro hr
              have h1 := ih fun y hy => hr y (by simp [hy])
              have h2 := hr x (by simp)
              have h3 := meet_len [formL x, formL l]
              have h4 := form_len x
              have h5 := form_len l
              simp only [total, List.map_cons, List.map_nil, List.sum_cons, List.sum_nil, List.length_cons] at h1 h3 ⊢
              omega
          have := q2 rows h12
          show _ ≤ _
          omega
        have HH1 := Lib.hid hh
        have HU := Lib.hid (hh.a.union K (by omega))
        obtain ⟨ua, hua⟩ : ∃ ua, unionL (rows.map formL) = ua := ⟨_, rfl⟩
        rw [hua] at HU HEQ
        clear hh HH hua
        go_wp2_with fail
        go_at_call 19
        refine HU.out.mono ?_
        rintro e w5 ⟨a5, F5, rfl, hst5, hF5, G5, ho5, hG5⟩
        have HBv := Lib.hid (HH1.out.b.offZ K ho5 (fun b h => (hG5 b h).1) fun b hb h => (HH1.out.x b (hG5 b h).1 hb).elim (fun q => absurd q (hG5 b h).2) id)
        have HF5 : Hid (∀ b, F5 b → w.heap.size ≤ b ∧ (b < w5.heap.size → upd Tb g.val.heap.size 0 b = 0)) := fun b h => ⟨(hF5 b h).1, fun _ => by
          by_cases q : b < g.val.heap.size
          · rw [upd_old _ q]
            have := (hF5 b h).2
            exact (HH1.out.x b (hF5 b h).1 q).elim (fun e => absurd e (by omega)) id
          · exact upd_new _ (by omega)⟩
        have HS5 := Lib.hid hst5
        clear hst5 hF5 ho5 hG5 HU HH1
        generalize upd Tb g.val.heap.size 0 = Tb5 at *
        go_wp2_with fail
        go_at_call 18
        refine (HRL.out _ HBv.out.bel).mono ?_
        rintro e w6 ⟨p6, F6, rfl, hst6, hF6, hb6⟩
        obtain ⟨q6, rfl⟩ := K.ptr hst6
        have HB6 := Lib.hid hb6
        have HF6 : Hid (∀ b, F6 b → w5.heap.size ≤ b) := hF6
        have HM6 := Lib.hid (K.meet2 (K.off (K.off HS5.out (.of_below (F := fun _ => False) hb6) (fun _ _ => id)) (.of_below (F := fun _ => False) (bel_al (Below.refl _ _) (.cells #[.pointer a5, .pointer q6] 27))) (fun _ _ => id)) (K.off hst6 (.of_below (F := fun _ => False) (bel_al (Below.refl _ _) _)) (fun _ _ => id)) (fun b h1 h2 => by have := K.lt HS5.out b h1; have := hF6 b h2; omega) (heap_alloc_new _ _) (fun h => by have := K.lt HS5.out _ h; have := hb6.size; omega) (fun h => by have := K.lt hst6 _ h; omega))
        clear hst6 hF6 hb6
        go_wp2_with fail
        go_at_call 21
        refine HM6.out.mono ?_
        rintro e w7 ⟨p7, F7, rfl, hst7, hF7, ho7⟩
        obtain ⟨q7, rfl⟩ := K.ptr hst7
        have hal : Below w5.heap.size w5 (w6.alloc (.cells #[.pointer a5, .pointer q6] 27)) := bel_al HB6.out _
        have HO7 : Hid (Off (fun b => F5 b ∨ w5.heap.size ≤ b) w5 w7) := (Off.of_below hal).trans ho7 fun b h => .inl (h.imp id (HF6.out b))
        have HF7 : Hid (∀ b, F7 b → F5 b ∨ w5.heap.size ≤ b) := fun b h => (hF7 b h).elim (fun h => h.imp id (HF6.out b)) fun q => .inr (Nat.le_trans hal.size q)
        have HAL := Lib.hid (K.all w7 (.pointer none) (.pointer q7) _ _ F7 0 (fun _ => False) (by rw [HEQ.out]; exact HLU.out) hst7 (K.nilC _) fun _ _ => id)
        rw [HEQ.out] at HAL
        clear hst7 hF7 ho7 hal HM6 HS5
        obtain ⟨lb, hlb⟩ : ∃ lb, (rows.map fun x => meetL [formL x, formL l]) = lb := ⟨_, rfl⟩
        rw [hlb] at HAL HBv HLU
        clear hlb HEQ
        go_wp2_with fail
        go_at_call 12
        refine HAL.out.mono ?_
        rintro e w8 ⟨A8, d8, n8, k8, F8, rfl, hs8, hA8, _, _, _, _, ho8⟩
        have ho58 : Off (fun b => F5 b ∨ w5.heap.size ≤ b) w5 w8 := HO7.out.trans ho8 fun b h => .inl (h.elim (HF7.out b) False.elim)
        have HB8 := Lib.hid (HBv.out.offZ K ho58 (fun b h => h.elim (fun h => (HF5.out b h).1) fun q => Nat.le_trans HBv.out.bel.size q) fun b hb h => h.elim (fun h => (HF5.out b h).2 hb) fun q => by omega)
        have HS8 : Hid (Sl w8 A8 (unionL lb).length d8 (sv (unionL lb)) ∧ ∀ a, A8 = some a → upd Tb5 w5.heap.size 0 a.block = 0) := ⟨hs8, fun a ha => upd_new _ (Nat.le_trans HO7.out.size (hA8 a ha).1)⟩
        clear hs8 hA8 ho8 ho58 HAL HO7 HF7 HBv
        generalize upd Tb5 w5.heap.size 0 = Tb8 at *
        go_wp2_with fail
        go_at_call 9
        refine (HFX.out _).mono ?_
        rintro e w9 ⟨rfl, hb9⟩
        have HB9 := Lib.hid (HB8.out.up K hb9 0)
        have HS9 : Hid (Sl w9 A8 (unionL lb).length d8 (sv (unionL lb)) ∧ (0 < (unionL lb).length → ∀ a, A8 = some a → upd Tb8 w8.heap.size 0 a.block = 0 ∧ a.block < w9.heap.size)) := ⟨HS8.out.1.below hb9 (Nat.le_refl _), fun hn a ha => ⟨by rw [upd_old _ (HS8.out.1.in_ hn ha)]; exact HS8.out.2 a ha, Nat.lt_of_lt_of_le (HS8.out.1.in_ hn ha) hb9.size⟩⟩
        have HU9 := Lib.hid (HB9.out.union K (by omega))
        clear hb9 HB8 HS8
        go_wp2_with fail
        go_at_call 19
        refine HU9.out.mono ?_
        rintro e w10 ⟨a10, F10, rfl, hst10, hF10, G10, ho10, hG10⟩
        have HS10 : Hid (Sl w10 A8 (unionL lb).length d8 (sv (unionL lb)) ∧ (0 < (unionL lb).length → ∀ a, A8 = some a → ¬ F10 a.block)) := ⟨HS9.out.1.offs ho10 fun hn a ha h => (hG10 _ h).2 (HS9.out.2 hn a ha).1, fun hn a ha h => by
          have q := HS9.out.2 hn a ha
          rcases (hF10 _ h).2 with r | r
          · omega
          · exact r q.1⟩
        have HBL := Lib.hid (HB9.out.bel.trans (ho10.toBelow HB9.out.bel.size fun b h => (hG10 b h).1))
        have HF10 : Hid (∀ b, F10 b → w.heap.size ≤ b) := fun b h => (hF10 b h).1
        have HAL := Lib.hid (K.all w10 (.pointer none) (.pointer a10) _ _ F10 0 (fun _ => False) HLU.out hst10 (K.nilC _) fun _ _ => id)
        clear hst10 hF10 ho10 hG10 HU9 HS9 HB9
        go_wp2_with fail
        go_at_call 12
        refine HAL.out.mono ?_
        rintro e w11 ⟨A11, d11, n11, k11, F11, rfl, hs11, _, _, _, _, _, ho11⟩
        have HBM := Lib.hid (HBL.out.trans (ho11.toBelow HBL.out.size fun b h => h.elim (HF10.out b) False.elim))
        have HSM := rsame_any (unionL lb) (unionL lb) A8 A11 d8 d11 w11 (HS10.out.1.offs ho11 fun hn a ha h => h.elim (HS10.out.2 hn a ha) id) hs11
        rw [decide_eq_true rfl] at HSM
        have HSS := Lib.hid HSM
        clear hs11 ho11 HSM HAL HS10 HBL
        go_wp2_with fail
        go_at_call 14
        refine HSS.out.mono ?_
        rintro e w12 ⟨rfl, hb⟩
        have HBN := Lib.hid (HBM.out.trans (hb.mono HBM.out.size))
        clear hb
        go_wp2_with fail
        go_ret
        exact ⟨rfl, HBN.out⟩
  all_goals
    clear hs hin hsl
    go_enter Try.func7, Try.ntmps7
    go_wp2_with fail
    go_at_call 9
    refine (HFX.out _).mono ?_
    rintro e w2 ⟨rfl, hb⟩
    have HB2 := Lib.hid hb
    clear hb
    go_wp2_with fail
    go_ret
    exact ⟨rfl, HB2.out⟩
end Go.Proofs.Ytgmcacmdiiogmaa
end
