/- Contract of the document's rows: built between edges. -/
import Derived.Test.YtdpgmhjhmccfnaaSW1
import Derived.Test.YtdpgmhjhmccfnaaSMath3
import Derived.Deep.RegionHeld3
import Derived.Deep.AppendLies
import Derived.Lib.SmallJoins
namespace Go.Proofs.Ytdpgmhjhmccfnaa
open Go.ChangeShapes Go.WideShapes Go.ChangeAt Go.RowKit Go.Joins Sp

theorem span_info : (Try.prog.info? 32).map (fun i => (i.zero, i.size, i.bytes)) = some (some (.agg #[.int .i64 0, .int .i64 0]), 2, 16) := by kernel_rfl
theorem Sl.boolG {w : World} {A : Option Addr} {n c : Nat} {l : List Bool} (h : Sl w A n c (bv l)) {i : Nat} {x : Bool} (hi : l[i]? = some x) :
    ∃ b off, A = some ⟨b, off, none⟩ ∧ b < w.heap.size ∧ ∀ g : Gr w, g.val.cell? ⟨b, off + i, none⟩ = some (.bool x) := by
  obtain ⟨b, off, e, hb, g1⟩ := h.at_ (bv_at hi)
  exact ⟨b, off, e, hb, fun g => cell_old g1 g.ok⟩
theorem joinS_len (o l : List Spn) : (joinS o l).length ≤ o.length + l.length := by
  rcases List.eq_nil_or_concat o with rfl | ⟨q, t, rfl⟩
  · rw [joinS_nil]; omega
  · rw [List.concat_eq_append]
    cases l with
    | nil => simp [joinS_end]
    | cons s r => rw [joinS_snoc]; split <;> simp <;> omega

theorem own_last {cur : Array Value} {q : List Spn} {t1 t2 y : Int} (h : cur.toList.take ((q.length + 1) * 2) = sv (q ++ [(t1, t2)])) :
    ((cur.setIfInBounds (q.length * 2) (.int .i64 t1)).setIfInBounds (q.length * 2 + 1) (.int .i64 y)).toList.take ((q.length + 1) * 2) = sv (q ++ [(t1, y)]) := by
  have hl := sv_len q
  rw [Array.toList_setIfInBounds, Array.toList_setIfInBounds, List.take_set, List.take_set, h, sv_app, sv_app]
  rw [List.set_append_right _ _ (by omega), List.set_append_right _ _ (by omega)]
  simp [sv, hl]

set_option maxRecDepth 100000 in
set_option maxHeartbeats 2000000 in
theorem rbuild_any (e : List Int) (p : Int → Bool) (A B : Option Addr) (ca cb : Nat) (w : World) (hle : e.length ≤ 10000) (ha : Sl w A e.length ca (iv e)) (hb : Sl w B e.length cb (bv (e.map p))) :
    Calls Try.prog 34 #[.slice A e.length ca, .slice B e.length cb] w (RetS (bld p e) w) := by
  obtain ⟨r, hr⟩ : ∃ r, bld p e = r := ⟨_, rfl⟩
  have HR : Hid (joinS [] (bld p (e.drop 0)) = r) := by show _ = _; rw [joinS_nil]; exact hr
  rw [hr]
  have HA := Lib.hid ha
  have HB := Lib.hid hb
  clear hr ha hb
  obtain ⟨i0, hi0, hq0, hq1, hq2⟩ := info_parts span_info
  go_enter Try.func34, Try.ntmps34
  go_wp2
  go_loopw [5, 6] (fun s5 s6 wr => ∃ (i : Nat) (acc : List Spn) (gb cap : Nat) (g : Gr w), wr = g.val ∧ i ≤ e.length ∧ s6 = .int .i64 i ∧ s5 = .slice (some ⟨gb, 0, none⟩) acc.length cap ∧ acc.length ≤ i ∧ w.heap.size ≤ gb ∧ gb < g.val.heap.size ∧ Hid (g.val.ownsRow w.heap.size 32 2 (.slice (some ⟨gb, 0, none⟩) acc.length cap) acc.length (sv acc)) ∧ Hid (joinS acc (bld p (e.drop i)) = r)) (fun _ s6 _ => e.length - (intOf s6).toNat)
  case atStart => exact ⟨0, [], w.heap.size, 0, ⟨_, (Below.refl _ _).alloc (Nat.le_refl _) _⟩, rfl, Nat.zero_le _, rfl, rfl, Nat.le_refl _, Nat.le_refl _, by simp, World.ownsRow_made (base := w.heap.size) w #[] 0 (Nat.le_refl _) (by decide) rfl, HR⟩
  case round =>
    obtain ⟨i, acc, gb, cap, g, rfl, hi, rfl, rfl, hal, hgb, hgs, HOW, HI⟩ := hrel
    have HGR := Lib.hid (fun (o : Obj) (w1 : World) (h : (g.val.alloc o).drew.drew.grownBy w1 (some gb)) => ((g.ok.alloc g.ok.size o).drew.drew).grown h (by have := g.size; simp [World.drew]; omega) (fun k hk => by obtain rfl := Option.some.inj hk; exact hgb))
    by_cases hlt : i + 1 < e.length
    · have hiz : (i : Int) + 1 < e.length := by omega
      have hlt0 : i < e.length := by omega
      have hiz0 : (i : Int) < e.length := by omega
      obtain ⟨pa, oa, rfl, hpa, hca⟩ := HA.out.intG (List.getElem?_eq_getElem hlt0)
      obtain ⟨pa', oa', ea, _, hca'⟩ := HA.out.intG (List.getElem?_eq_getElem hlt)
      obtain ⟨rfl, rfl⟩ : pa = pa' ∧ oa = oa' := by simpa using ea
      obtain ⟨pb, ob, rfl, hpb, hcb⟩ := HB.out.boolG (i := i) (x := p e[i]) (by rw [List.getElem?_map, List.getElem?_eq_getElem hlt0]; rfl)
      have HST : Hid (joinS acc (bld p (e[i] :: e[i + 1] :: e.drop (i + 1 + 1))) = r) := by show _ = _; rw [← drop_step hlt, ← drop_step hlt0]; exact HI.out
      have HD1 : Hid (e[i + 1] :: e.drop (i + 1 + 1) = e.drop (i + 1)) := (drop_step hlt).symm
      clear HI
      generalize hx : e[i] = x at *
      generalize hy : e[i + 1] = y at *
      clear hx hy
      have HCA := Lib.hid hca
      have HCA' := Lib.hid hca'
      cases hp : p x with
      | false =>
        have E : Hid (joinS acc (bld p (e.drop (i + 1))) = r) := by show _ = _; rw [← HD1.out, ← join_step_no hp]; exact HST.out
        rw [hp] at hcb
        clear HST hca hca'
        have cb := hcb g
        clear hcb
        go_wp2_with fail
        go_roundw
        case rel => exact ⟨i + 1, acc, gb, cap, g, rfl, by omega, by go_num, rfl, by omega, hgb, hgs, HOW, E⟩
        case measure => simp [intOf]; omega
      | true =>
        have E : Hid (joinS (joinS acc [(x, y)]) (bld p (e.drop (i + 1))) = r) := by show _ = _; rw [← HD1.out, ← join_step hp]; exact HST.out
        rw [hp] at hcb
        clear HST hca hca'
        have cb := hcb g
        clear hcb
        rcases (show acc = [] ∨ ∃ q t, acc = q ++ [t] by rcases List.eq_nil_or_concat acc with h | ⟨q, t, h⟩; exact .inl h; exact .inr ⟨q, t, by rw [h, List.concat_eq_append]⟩) with rfl | ⟨q, t, rfl⟩
        · have hsz := g.size
          go_wp2_with fail
          go_region
          go_wp2_with fail
          have hmx : 0 + 1 ≤ maxLen := by decide
          have hbs : w.heap.size ≤ g.val.heap.size + 1 := by omega
          have hw1 : IntKind.i64.wrap ((i : Int) + 1) = i + 1 := by rw [IntKind.wrap_i64]; omega
          have hw2 : (0 : Int) ≤ i + 1 := by omega
          have hw3 : ((i : Int) + 1).toNat = i + 1 := by omega
          go_region_held3 (fun w' => w'.cell? ⟨pa, oa + i, none⟩ = some (.int .i64 x) ∧ w'.cell? ⟨pa, oa + (i + 1), none⟩ = some (.int .i64 y)) (first
            | exact ⟨HCA.out ⟨_, g.ok.drew.drew⟩, HCA'.out ⟨_, g.ok.drew.drew⟩⟩
            | exact ⟨HCA.out ⟨_, (g.ok.alloc g.ok.size _).drew.drew⟩, HCA'.out ⟨_, (g.ok.alloc g.ok.size _).drew.drew⟩⟩
            | exact ⟨HCA.out ⟨_, HGR.out _ _ hgrow⟩, HCA'.out ⟨_, HGR.out _ _ hgrow⟩⟩)
            ((refine step_append_lies _ (by rfl) _ _ _ (by rfl) w.heap.size 32 i0 _ 2 16 Try.underlying22 hi0 hq0 hq1 hq2 rfl (by decide) (.slice (some ⟨gb, 0, none⟩) 0 cap) 0 (sv []) (by rfl) ((HOW.out.alloc _).drew.drew) ⟨g.val.heap.size, 0, none⟩ 1 1 [.int .i64 x, .int .i64 y] (by rfl) (by rfl) (World.news_of_block (cs := #[.int .i64 x, .int .i64 y]) (t := 32) (fr := (0, 0)) (heap_alloc_new g.val _)) (by simp [Value.oneCell']) (Nat.lt_succ_self 0) hmx (by decide) (by simpa [World.drew] using hbs) (g.val.heap.size + 1) (by simp [World.drew]) ?_; intro gg cap2 w1 hown1 hgrow hat hlt2))
          clear hw1 hw2 hw3
          go_wp2_with fail
          go_roundw
          case rel => exact ⟨i + 1, [(x, y)], gg, cap2, ⟨w1, HGR.out _ _ hgrow⟩, rfl, by omega, by go_num, rfl, by simp, (hown1.lt gg rfl).1, hlt2, hown1, E⟩
          case measure => simp [intOf]; omega
        · obtain ⟨t1, t2⟩ := t
          have hsz := g.size
          have hcl := fun (j : Nat) (u : Value) (h : (sv (q ++ [(t1, t2)]))[j]? = some u) => HOW.out.cells (g := gb) rfl j u h
          have hat0 := sv_at (l := q ++ [(t1, t2)]) (i := q.length) (s := (t1, t2)) (by simp)
          have c3 : g.val.cell? ⟨gb, q.length * 2, none⟩ = some (.int .i64 t1) := by have := hcl _ _ hat0.1; rw [add_plain, Nat.zero_add] at this; exact this
          have c4 : g.val.cell? ⟨gb, q.length * 2 + 1, none⟩ = some (.int .i64 t2) := by have := hcl _ _ hat0.2; rw [add_plain, Nat.zero_add] at this; exact this
          have hqe : q.length + 1 ≤ i := by simpa using hal
          have hqz : (0 : Int) < q.length + 1 := by omega
          have hlen : (q ++ [(t1, t2)]).length = q.length + 1 := by simp
          clear hcl hat0
          have c1 := HCA.out g
          by_cases ht : t2 = x
          · have heq : (t2 == x) = true := by simpa using ht
            rw [join_one_ext q (t1, t2) x y ht] at E
            clear ht
            rw [hlen] at HOW
            rw [hlen]
            obtain ⟨cur, hblk, hn1, hm1, hs1, htk, _⟩ := own_block HOW.out
            have hfr : ∀ k, g.val.frozen? ⟨gb, k, none⟩ = false := fun k => unfrozen_of_block hblk k
            have HBL := Lib.hid hblk
            have HTK := Lib.hid htk
            clear hblk htk
            have c2 := HCA'.out g
            have hpg : pa < g.val.heap.size := by omega
            have n1 := World.new_ne g.val _ c2
            have n2 := World.new_ne g.val _ c3
            go_wp2_with fail
            go_region
            go_wp2_with fail
            have hcs : (q.length + 1) * 2 ≤ cur.size := by omega
            have hset := own_last (y := y) HTK.out
            have hbel : Below w.heap.size w ((((g.val.setCell ⟨gb, q.length * 2, none⟩ (.int .i64 t1)).setCell ⟨gb, q.length * 2 + 1, none⟩ (.int .i64 y)).alloc (.cells #[.int .i64 t1, .int .i64 y] 32)).drew) :=
              (((g.ok.setCell (p := ⟨gb, q.length * 2, none⟩) hgb _).setCell (p := ⟨gb, q.length * 2 + 1, none⟩) hgb _).alloc (by simpa [World.setCell] using g.size) _).drew
            have hblk2 : ((((g.val.setCell ⟨gb, q.length * 2, none⟩ (.int .i64 t1)).setCell ⟨gb, q.length * 2 + 1, none⟩ (.int .i64 y)).alloc (.cells #[.int .i64 t1, .int .i64 y] 32)).drew).heap[gb]? = some (.cells ((cur.setIfInBounds (q.length * 2) (.int .i64 t1)).setIfInBounds (q.length * 2 + 1) (.int .i64 y)) 32 (0, 0)) := by
              show ((((g.val.setCell ⟨gb, q.length * 2, none⟩ (.int .i64 t1)).setCell ⟨gb, q.length * 2 + 1, none⟩ (.int .i64 y)).alloc (.cells #[.int .i64 t1, .int .i64 y] 32))).heap[gb]? = _
              rw [heap_alloc_old _ _ (by simpa [World.setCell] using hgs)]
              exact block_setCell (block_setCell HBL.out _) _
            have hlen2 : (q ++ [(t1, y)]).length = q.length + 1 := by simp
            go_roundw
            case rel => exact ⟨i + 1, q ++ [(t1, y)], gb, cap, ⟨_, hbel⟩, rfl, by omega, by go_num, by rw [hlen2], by rw [hlen2]; omega, hgb, by simpa [World.setCell, World.drew] using Nat.lt_succ_of_lt hgs, by show World.ownsRow _ _ _ _ _ _ _; rw [hlen2]; exact own_mk (by rw [sv_len, hlen2]) hgb hblk2 hn1 hm1 (by simpa using hs1) hset, E⟩
            case measure => simp [intOf]; omega
          · have hne : (t2 == x) = false := by simpa using ht
            rw [join_one_new q (t1, t2) x y ht] at E
            clear ht
            rw [hlen] at HOW
            rw [hlen]
            have hfin : ∀ (gg cap2 : Nat), Hid (Value.slice (some ⟨gg, 0, none⟩) (q.length + 1 + 1) cap2 = Value.slice (some ⟨gg, 0, none⟩) (q ++ [(t1, t2)] ++ [(x, y)]).length cap2) := fun _ _ => by show _ = _; simp
            go_wp2_with fail
            go_region
            go_wp2_with fail
            have hmx : q.length + 1 + 1 ≤ maxLen := by unfold maxLen; omega
            have hby : (q.length + 1 + 1) * 16 ≤ 140737488355328 := by omega
            have hbs : w.heap.size ≤ g.val.heap.size + 1 := by omega
            have hw1 : IntKind.i64.wrap ((i : Int) + 1) = i + 1 := by rw [IntKind.wrap_i64]; omega
            have hw2 : (0 : Int) ≤ i + 1 := by omega
            have hw3 : ((i : Int) + 1).toNat = i + 1 := by omega
            go_region_held3 (fun w' => w'.cell? ⟨pa, oa + i, none⟩ = some (.int .i64 x) ∧ w'.cell? ⟨pa, oa + (i + 1), none⟩ = some (.int .i64 y)) (first
              | exact ⟨HCA.out ⟨_, g.ok.drew.drew⟩, HCA'.out ⟨_, g.ok.drew.drew⟩⟩
              | exact ⟨HCA.out ⟨_, (g.ok.alloc g.ok.size _).drew.drew⟩, HCA'.out ⟨_, (g.ok.alloc g.ok.size _).drew.drew⟩⟩
              | exact ⟨HCA.out ⟨_, HGR.out _ _ hgrow⟩, HCA'.out ⟨_, HGR.out _ _ hgrow⟩⟩)
              ((refine step_append_lies _ (by rfl) _ _ _ (by rfl) w.heap.size 32 i0 _ 2 16 Try.underlying22 hi0 hq0 hq1 hq2 rfl (by decide) (.slice (some ⟨gb, 0, none⟩) (q.length + 1) cap) (q.length + 1) (sv (q ++ [(t1, t2)])) (by rfl) ((HOW.out.alloc _).drew.drew) ⟨g.val.heap.size, 0, none⟩ 1 1 [.int .i64 x, .int .i64 y] (by rfl) (by rfl) (World.news_of_block (cs := #[.int .i64 x, .int .i64 y]) (t := 32) (fr := (0, 0)) (heap_alloc_new g.val _)) (by simp [Value.oneCell']) (Nat.lt_succ_self 0) hmx hby (by simpa [World.drew] using hbs) (g.val.heap.size + 1) (by simp [World.drew]) ?_; intro gg cap2 w1 hown1 hgrow hat hlt2))
            clear hw1 hw2 hw3
            go_wp2_with fail
            go_roundw
            case rel => exact ⟨i + 1, q ++ [(t1, t2)] ++ [(x, y)], gg, cap2, ⟨w1, HGR.out _ _ hgrow⟩, rfl, by omega, by go_num, (hfin gg cap2).out, by simp; omega, (hown1.lt gg rfl).1, hlt2, by show World.ownsRow _ _ _ _ _ _ _; rw [show (q ++ [(t1, t2)] ++ [(x, y)]).length = q.length + 1 + 1 by simp, sv_app]; exact hown1, E⟩
            case measure => simp [intOf]; omega
    · have E : Hid (acc = r) := by show _ = _; rw [← HI.out, bld_short p (by simp; omega)]; rfl
      have hiz : decide ((i : Int) + 1 < e.length) = false := decide_eq_false (by omega)
      obtain rfl := E.out
      go_wp2_with fail
      go_ret
      obtain ⟨A3, c3, h3, h4⟩ := Sl.of_own HOW.out
      exact ⟨A3, c3, by rw [← h3]; rfl, h4, g.ok⟩
end Go.Proofs.Ytdpgmhjhmccfnaa
