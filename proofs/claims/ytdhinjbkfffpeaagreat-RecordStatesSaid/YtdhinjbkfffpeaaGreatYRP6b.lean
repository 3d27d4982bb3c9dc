import Derived.Test.YtdhinjbkfffpeaaGreatYRP6h
/- Contracts of the program's pass: rows of things that hold no rows (2). -/
section
namespace Go.Proofs.YtdhinjbkfffpeaaGreat
open Go.ChangeShapes Go.WideShapes Go.ChangeAt Go.RowKit Go.Joins Sp Fr Pk
set_option maxRecDepth 100000 in
set_option maxHeartbeats 4000000 in
theorem prowVo_any (P : Nat) (l : List (Nat × Int)) (A : Option Addr) (d most : Nat) (hmost : most ≤ 1000000) (hfit : ∀ x ∈ l, U32 x.1 ∧ I64 x.2) (m : Md) (b : Bool) (F : Nat → Prop) (w : World) (h : PsAt w P m b F) (hr : m.Room ((cdRow cdVo most).cost l)) (hz : m.Rd → l = [])
  (hx : Held F w (fun V => Sl V A l.length d (kv (fun x : Nat × Int => [.int .u32 (x.1 : Int), .int .i64 x.2]) l))) :
  Calls Tryz.prog 123 #[.pointer (some ⟨P, 0, none⟩), .slice A l.length d, .int .i64 (most : Int), .func (.func 124) #[.pointer (some ⟨P, 0, none⟩)] #[]] w
   (Told (fun (y : List (Nat × Int)) (q : Option Addr × Nat) => .slice q.1 y.length q.2) (fun V y q => Sl V q.1 y.length q.2 (kv (fun x : Nat × Int => [.int .u32 (x.1 : Int), .int .i64 x.2]) y)) (cdRow cdVo most) l P m b F w) := by
 obtain ⟨i0, hi0, hq0, hq1, hq2⟩ := info_parts (show (Tryz.prog.info? 143).map (fun i => (i.zero, i.size, i.bytes)) = some (some (.agg #[.int .u32 0, .int .i64 0]), 2, 16) by kernel_rfl)
 have hlen := len_le hx.now
 have hr : m.Room (10 + ((l.map (Cd.cost cdVo)).sum + 0)) := hr
 have HN := Lib.hid (pnumberIB_any P (l.length : Int) most (by omega) (⟨by omega, by omega⟩ : I64 (l.length : Int)) m b F w h (hr.mono (by omega)))
 obtain ⟨x2, y2, hPc⟩ := h.cells
 have c2 := blk_cell (i := 2) hPc rfl
 have f2 := blk_free hPc 2
 have HPW := Lib.hid (h.wrong true)
 have HX := Lib.hid hx
 have HZ := Lib.hid hz
 have HR := Lib.hid hr
 have HFit := Lib.hid hfit
 clear hx hz hr h hPc hfit
 by_cases hml : l.length ≤ most
 ·have hmz : ¬ (most : Int) < l.length := by omega
  clear c2 f2
  go_enter Tryz.func123, Tryz.ntmps123
  go_wp2_with fail
  go_at_call 102
  refine HN.out.mono ?_
  rintro e w1 ⟨k, m1, b1, F1, rfl, hT, hD, hk1, hk2⟩
  obtain ⟨K, rfl⟩ : ∃ K : Nat, k = (K : Int) := by
   by_cases hm : m.Rd
   ·obtain ⟨r, rfl⟩ := Md.is_rd hm; exact ⟨k.toNat, by have := (hk2 r rfl).1; omega⟩
   ·obtain ⟨s, rfl⟩ := Md.not_rd hm; exact ⟨l.length, hk1 s rfl⟩
  have hKm : K ≤ most := by
   by_cases hm : m.Rd
   ·obtain ⟨r, rfl⟩ := Md.is_rd hm; have := (hk2 r rfl).2; omega
   ·obtain ⟨s, rfl⟩ := Md.not_rd hm; have := hk1 s rfl; omega
  have HKw : Hid (¬ m.Rd → K = l.length) := fun hm => by obtain ⟨s, rfl⟩ := Md.not_rd hm; have := hk1 s rfl; omega
  have HK1 := Lib.hid hk1
  have HT1 := Lib.hid hT
  have HD1 := Lib.hid hD
  have HR1 : Hid (m1.Room ((l.map (Cd.cost cdVo)).sum + 0)) := hD.room HR.out
  clear hT hD hk1 hk2 HN HPW
  go_wp2_with fail
  go_loopw [9, 24] (fun sg si wr => ∃ (i : Nat) (g : List (Nat × Int)) (v : Value) (m2 : Md) (b2 : Bool) (F2 : Nat → Prop), v = sg ∧ si = .int .i64 (i : Int) ∧ i ≤ K ∧ g.length = i ∧ Hid (wr.ownsRow w.heap.size 143 2 v i (kv (fun x : Nat × Int => [.int .u32 (x.1 : Int), .int .i64 x.2]) g)) ∧ Hid (∀ k, v.ownBlock = some k → ¬ F2 k) ∧ Hid (PsTo w wr P m2 b2 F F2) ∧ Hid (Dns cdVo l m1 b1 i g m2 b2)) (fun _ si _ => K - (intOf si).toNat)
  case atStart => exact ⟨0, [], .slice none 0 0, m1, b1, F1, rfl, rfl, Nat.zero_le _, rfl, World.ownsRow_nil _ _ _ _, fun k hk => by simp [Value.ownBlock] at hk, HT1, Dns.start _ _ _ _⟩
  case round =>
   obtain ⟨i, g, v, m2, b2, F2, rfl, rfl, hi, hg, HO, HNF, HT, HDs⟩ := hrel
   have hT2 := HT.out
   by_cases hlt : i < K
   ·have hkz : (i : Int) < K := by omega
    have HIn : Hid (¬ m1.Rd → i < l.length) := fun hm => by have := HKw.out (fun q => hm (HD1.out.mode.2 q)); omega
    by_cases hil : i < l.length
    ·have hiz : (i : Int) < l.length := by omega
     obtain ⟨x, hxi⟩ : ∃ x, l[i]? = some x := ⟨_, List.getElem?_eq_getElem hil⟩
     have hfx := HFit.out x (List.mem_of_getElem? hxi)
     obtain ⟨b0, off, rfl, _, hcc⟩ := Sl.kvG (n := 2) (fun _ => rfl) (by decide) (HX.out.step hT2).now hxi
     have e0 : wr.cell? ⟨b0, off + i * 2, none⟩ = some (.int .u32 (x.1 : Int)) := by have := hcc ⟨wr, Below.refl _ _⟩ 0 _ rfl; rwa [Nat.add_zero] at this
     have e1 : wr.cell? ⟨b0, off + i * 2 + 1, none⟩ = some (.int .i64 x.2) := by have := hcc ⟨wr, Below.refl _ _⟩ 1 _ rfl; rwa [← Nat.add_assoc] at this
     have HCC := Lib.hid (fun W2 (hW : Below wr.heap.size wr W2) => pvote_any P x hfx m2 b2 F2 W2 (hT2.at_.below hW) (by have := HDs.out.room_at (z := x) HR1.out HIn.out; first | (rw [hxi] at this; exact this) | (rw [hxn] at this; exact this)))
     clear hcc hT2
     go_wp2_with fail
     go_at_call 124
     refine (HCC.out _ (by first | exact Below.refl _ _ | exact (Below.refl _ _).alloc (Nat.le_refl _) _)).mono ?_
     rintro e w3 ⟨y, _, m3, b3, F3, rfl, hT3, _, hD3⟩
     have HO3 := Lib.hid (own_off (own_off HO.out (Off.of_below (by first | exact Below.refl _ _ | exact (Below.refl _ _).alloc (Nat.le_refl _) _)) fun _ _ h => h) hT3.off HNF.out)
     have HT3 := Lib.hid (HT.out.trans (hT3.from_ (by first | exact Below.refl _ _ | exact (Below.refl _ _).alloc (Nat.le_refl _) _)))
     have HDs3 := Lib.hid (HDs.out.step (z := ((0, 0) : Nat × Int)) (by rw [hxi]; exact hD3))
     have HNF3 := Lib.hid (fun k (hk : v.ownBlock = some k) => (⟨(hT3.from_ (w := wr) (by first | exact Below.refl _ _ | exact (Below.refl _ _).alloc (Nat.le_refl _) _)).not (HNF.out k hk) (HO.out.lt k hk).2, (HO.out.lt k hk).1⟩ : ¬ F3 k ∧ w.heap.size ≤ k))
     have hle3 := HT3.out.off.size
     have hn3 : ∀ k, w3.heap.size ≤ k → ¬ F3 k := fun k hk => HT3.out.at_.not hk
     clear hT3 hD3
     go_wp2_with (at_builtin; refine wpList_append_lies _ rfl _ _ _ rfl w.heap.size 143 i0 (.agg #[.int .u32 0, .int .i64 0]) 2 16 Tryz.underlying35 hi0 hq0 hq1 hq2 rfl (by decide) v i _ rfl (HO3.out.alloc _) ⟨w3.heap.size, 0, none⟩ 1 1 [.int .u32 (y.1 : Int), .int .i64 y.2] rfl rfl (World.news_of_block (fr := (0, 0)) (heap_alloc_new w3 _)) (by simp [Value.oneCell']) (by decide) (by unfold maxLen; omega) (by omega) (by simp; omega) (w3.heap.size + 1) (by simp) ?_)
     intro gg cap2 w4 hown hgr hat hlt4
     have HO4 := Lib.hid hown
     have HT4 := Lib.hid (HT3.out.grown hgr HNF3.out)
     have HNF4 : Hid (∀ k, (Value.slice (some ⟨gg, 0, none⟩) (i + 1) cap2).ownBlock = some k → ¬ F3 k) := fun k hk => by
      obtain rfl : gg = k := by simpa [Value.ownBlock] using hk
      exact hat.elim (fun e => (HNF3.out gg e).1) fun e => hn3 gg (by omega)
     clear hown hgr hat
     go_wp2_with fail
     go_roundw
     case rel =>
      refine ⟨i + 1, g ++ [y], _, m3, b3, F3, rfl, by go_num, by omega, by rw [List.length_append, hg]; rfl, ?_, HNF4, HT4, HDs3⟩
      show World.ownsRow _ _ _ _ _ _ _
      rw [kv_snoc]; exact HO4.out
     case measure => simp [intOf]; omega
    ·have hiz : ¬ (i : Int) < l.length := by omega
     have hxn : l[i]? = none := List.getElem?_eq_none (by omega)
     obtain ⟨x, hxz⟩ : ∃ x : Nat × Int, x = ((0, 0) : Nat × Int) := ⟨_, rfl⟩
     have hfx : U32 x.1 ∧ I64 x.2 := by rw [hxz]; exact ⟨by show (0 : Nat) < 4294967296; decide, ⟨by decide, by decide⟩⟩
     have HCC := Lib.hid (fun W2 (hW : Below wr.heap.size wr W2) => pvote_any P x hfx m2 b2 F2 W2 (hT2.at_.below hW) (by have := HDs.out.room_at (z := x) HR1.out HIn.out; first | (rw [hxi] at this; exact this) | (rw [hxn] at this; exact this)))
     rw [hxz] at HCC
     clear hT2 hxz
     go_wp2_with fail
     go_at_call 124
     refine (HCC.out _ (by first | exact Below.refl _ _ | exact (Below.refl _ _).alloc (Nat.le_refl _) _)).mono ?_
     rintro e w3 ⟨y, _, m3, b3, F3, rfl, hT3, _, hD3⟩
     have HO3 := Lib.hid (own_off (own_off HO.out (Off.of_below (by first | exact Below.refl _ _ | exact (Below.refl _ _).alloc (Nat.le_refl _) _)) fun _ _ h => h) hT3.off HNF.out)
     have HT3 := Lib.hid (HT.out.trans (hT3.from_ (by first | exact Below.refl _ _ | exact (Below.refl _ _).alloc (Nat.le_refl _) _)))
     have HDs3 := Lib.hid (HDs.out.step (z := ((0, 0) : Nat × Int)) (by rw [hxn]; exact hD3))
     have HNF3 := Lib.hid (fun k (hk : v.ownBlock = some k) => (⟨(hT3.from_ (w := wr) (by first | exact Below.refl _ _ | exact (Below.refl _ _).alloc (Nat.le_refl _) _)).not (HNF.out k hk) (HO.out.lt k hk).2, (HO.out.lt k hk).1⟩ : ¬ F3 k ∧ w.heap.size ≤ k))
     have hle3 := HT3.out.off.size
     have hn3 : ∀ k, w3.heap.size ≤ k → ¬ F3 k := fun k hk => HT3.out.at_.not hk
     clear hT3 hD3
     go_wp2_with (at_builtin; refine wpList_append_lies _ rfl _ _ _ rfl w.heap.size 143 i0 (.agg #[.int .u32 0, .int .i64 0]) 2 16 Tryz.underlying35 hi0 hq0 hq1 hq2 rfl (by decide) v i _ rfl (HO3.out.alloc _) ⟨w3.heap.size, 0, none⟩ 1 1 [.int .u32 (y.1 : Int), .int .i64 y.2] rfl rfl (World.news_of_block (fr := (0, 0)) (heap_alloc_new w3 _)) (by simp [Value.oneCell']) (by decide) (by unfold maxLen; omega) (by omega) (by simp; omega) (w3.heap.size + 1) (by simp) ?_)
     intro gg cap2 w4 hown hgr hat hlt4
     have HO4 := Lib.hid hown
     have HT4 := Lib.hid (HT3.out.grown hgr HNF3.out)
     have HNF4 : Hid (∀ k, (Value.slice (some ⟨gg, 0, none⟩) (i + 1) cap2).ownBlock = some k → ¬ F3 k) := fun k hk => by
      obtain rfl : gg = k := by simpa [Value.ownBlock] using hk
      exact hat.elim (fun e => (HNF3.out gg e).1) fun e => hn3 gg (by omega)
     clear hown hgr hat
     go_wp2_with fail
     go_roundw
     case rel =>
      refine ⟨i + 1, g ++ [y], _, m3, b3, F3, rfl, by go_num, by omega, by rw [List.length_append, hg]; rfl, ?_, HNF4, HT4, HDs3⟩
      show World.ownsRow _ _ _ _ _ _ _
      rw [kv_snoc]; exact HO4.out
     case measure => simp [intOf]; omega
   ·obtain rfl : K = i := by omega
    clear hT2
    go_wp2_with fail
    obtain ⟨Ar, cr, rfl, hsl⟩ := Sl.of_own HO.out
    go_ret
    refine ⟨g, (Ar, cr), m2, b2, F2, by show Ending.returned (.slice Ar K cr) = .returned (.slice Ar g.length cr); rw [hg], HT.out, fun V hV => ?_, ?_⟩
    ·obtain ⟨Ar', cr', q1, q2⟩ := Sl.of_own (own_off HO.out hV fun k hk hq => hq.elim (HNF.out k hk) fun q => by have := (HO.out.lt k hk).1; omega)
     simp only [Value.slice.injEq] at q1
     obtain ⟨rfl, -, rfl⟩ := q1
     rw [hg]; exact q2
    ·have := HDs.out
     exact Dns.row HD1.out HK1.out this hml
 ·have hmz : (most : Int) < l.length := by omega
  clear HN
  go_enter Tryz.func123, Tryz.ntmps123
  go_wp2_with fail
  go_ret
  obtain ⟨s, rfl⟩ := Md.not_rd (m := m) (fun hm => by have := HZ.out hm; subst this; simp at hml)
  exact ⟨[], (none, 0), _, _, F, rfl, HPW.out, fun V _ => Sl.none_ _, Dn.many hml [] _ s rfl b⟩
set_option maxRecDepth 100000 in
set_option maxHeartbeats 4000000 in
theorem prowDo_any (P : Nat) (l : List (Nat × Nat × Nat)) (A : Option Addr) (d most : Nat) (hmost : most ≤ 1000000) (hfit : ∀ x ∈ l, U32 x.1 ∧ U64 x.2.1 ∧ U64 x.2.2) (m : Md) (b : Bool) (F : Nat → Prop) (w : World) (h : PsAt w P m b F) (hr : m.Room ((cdRow cdDo most).cost l)) (hz : m.Rd → l = [])
  (hx : Held F w (fun V => Sl V A l.length d (kv (fun x : Nat × Nat × Nat => [.int .u32 (x.1 : Int), .int .u64 (x.2.1 : Int), .int .u64 (x.2.2 : Int)]) l))) :
  Calls Tryz.prog 94 #[.pointer (some ⟨P, 0, none⟩), .slice A l.length d, .int .i64 (most : Int), .func (.func 95) #[.pointer (some ⟨P, 0, none⟩)] #[]] w
   (Told (fun (y : List (Nat × Nat × Nat)) (q : Option Addr × Nat) => .slice q.1 y.length q.2) (fun V y q => Sl V q.1 y.length q.2 (kv (fun x : Nat × Nat × Nat => [.int .u32 (x.1 : Int), .int .u64 (x.2.1 : Int), .int .u64 (x.2.2 : Int)]) y)) (cdRow cdDo most) l P m b F w) := by
 obtain ⟨i0, hi0, hq0, hq1, hq2⟩ := info_parts (show (Tryz.prog.info? 113).map (fun i => (i.zero, i.size, i.bytes)) = some (some (.agg #[.int .u32 0, .int .u64 0, .int .u64 0]), 3, 24) by kernel_rfl)
 have hlen := len_le hx.now
 have hr : m.Room (10 + ((l.map (Cd.cost cdDo)).sum + 0)) := hr
 have HN := Lib.hid (pnumberIB_any P (l.length : Int) most (by omega) (⟨by omega, by omega⟩ : I64 (l.length : Int)) m b F w h (hr.mono (by omega)))
 obtain ⟨x2, y2, hPc⟩ := h.cells
 have c2 := blk_cell (i := 2) hPc rfl
 have f2 := blk_free hPc 2
 have HPW := Lib.hid (h.wrong true)
 have HX := Lib.hid hx
 have HZ := Lib.hid hz
 have HR := Lib.hid hr
 have HFit := Lib.hid hfit
 clear hx hz hr h hPc hfit
 by_cases hml : l.length ≤ most
 ·have hmz : ¬ (most : Int) < l.length := by omega
  clear c2 f2
  go_enter Tryz.func94, Tryz.ntmps94
  go_wp2_with fail
  go_at_call 102
  refine HN.out.mono ?_
  rintro e w1 ⟨k, m1, b1, F1, rfl, hT, hD, hk1, hk2⟩
  obtain ⟨K, rfl⟩ : ∃ K : Nat, k = (K : Int) := by
   by_cases hm : m.Rd
   ·obtain ⟨r, rfl⟩ := Md.is_rd hm; exact ⟨k.toNat, by have := (hk2 r rfl).1; omega⟩
   ·obtain ⟨s, rfl⟩ := Md.not_rd hm; exact ⟨l.length, hk1 s rfl⟩
  have hKm : K ≤ most := by
   by_cases hm : m.Rd
   ·obtain ⟨r, rfl⟩ := Md.is_rd hm; have := (hk2 r rfl).2; omega
   ·obtain ⟨s, rfl⟩ := Md.not_rd hm; have := hk1 s rfl; omega
  have HKw : Hid (¬ m.Rd → K = l.length) := fun hm => by obtain ⟨s, rfl⟩ := Md.not_rd hm; have := hk1 s rfl; omega
  have HK1 := Lib.hid hk1
  have HT1 := Lib.hid hT
  have HD1 := Lib.hid hD
  have HR1 : Hid (m1.Room ((l.map (Cd.cost cdDo)).sum + 0)) := hD.room HR.out
  clear hT hD hk1 hk2 HN HPW
  go_wp2_with fail
  go_loopw [9, 24] (fun sg si wr => ∃ (i : Nat) (g : List (Nat × Nat × Nat)) (v : Value) (m2 : Md) (b2 : Bool) (F2 : Nat → Prop), v = sg ∧ si = .int .i64 (i : Int) ∧ i ≤ K ∧ g.length = i ∧ Hid (wr.ownsRow w.heap.size 113 3 v i (kv (fun x : Nat × Nat × Nat => [.int .u32 (x.1 : Int), .int .u64 (x.2.1 : Int), .int .u64 (x.2.2 : Int)]) g)) ∧ Hid (∀ k, v.ownBlock = some k → ¬ F2 k) ∧ Hid (PsTo w wr P m2 b2 F F2) ∧ Hid (Dns cdDo l m1 b1 i g m2 b2)) (fun _ si _ => K - (intOf si).toNat)
  case atStart => exact ⟨0, [], .slice none 0 0, m1, b1, F1, rfl, rfl, Nat.zero_le _, rfl, World.ownsRow_nil _ _ _ _, fun k hk => by simp [Value.ownBlock] at hk, HT1, Dns.start _ _ _ _⟩
  case round =>
   obtain ⟨i, g, v, m2, b2, F2, rfl, rfl, hi, hg, HO, HNF, HT, HDs⟩ := hrel
   have hT2 := HT.out
   by_cases hlt : i < K
   ·have hkz : (i : Int) < K := by omega
    have HIn : Hid (¬ m1.Rd → i < l.length) := fun hm => by have := HKw.out (fun q => hm (HD1.out.mode.2 q)); omega
    by_cases hil : i < l.length
    ·have hiz : (i : Int) < l.length := by omega
     obtain ⟨x, hxi⟩ : ∃ x, l[i]? = some x := ⟨_, List.getElem?_eq_getElem hil⟩
     have hfx := HFit.out x (List.mem_of_getElem? hxi)
     obtain ⟨b0, off, rfl, _, hcc⟩ := Sl.kvG (n := 3) (fun _ => rfl) (by decide) (HX.out.step hT2).now hxi
     have e0 : wr.cell? ⟨b0, off + i * 3, none⟩ = some (.int .u32 (x.1 : Int)) := by have := hcc ⟨wr, Below.refl _ _⟩ 0 _ rfl; rwa [Nat.add_zero] at this
     have e1 : wr.cell? ⟨b0, off + i * 3 + 1, none⟩ = some (.int .u64 (x.2.1 : Int)) := by have := hcc ⟨wr, Below.refl _ _⟩ 1 _ rfl; rwa [← Nat.add_assoc] at this
     have e2 : wr.cell? ⟨b0, off + i * 3 + 2, none⟩ = some (.int .u64 (x.2.2 : Int)) := by have := hcc ⟨wr, Below.refl _ _⟩ 2 _ rfl; rwa [← Nat.add_assoc] at this
     have HCC := Lib.hid (fun W2 (hW : Below wr.heap.size wr W2) => pdone_any P x hfx m2 b2 F2 W2 (hT2.at_.below hW) (by have := HDs.out.room_at (z := x) HR1.out HIn.out; first | (rw [hxi] at this; exact this) | (rw [hxn] at this; exact this)))
     clear hcc hT2
     go_wp2_with fail
     go_at_call 95
     refine (HCC.out _ (by first | exact Below.refl _ _ | exact (Below.refl _ _).alloc (Nat.le_refl _) _)).mono ?_
     rintro e w3 ⟨y, _, m3, b3, F3, rfl, hT3, _, hD3⟩
     have HO3 := Lib.hid (own_off (own_off HO.out (Off.of_below (by first | exact Below.refl _ _ | exact (Below.refl _ _).alloc (Nat.le_refl _) _)) fun _ _ h => h) hT3.off HNF.out)
     have HT3 := Lib.hid (HT.out.trans (hT3.from_ (by first | exact Below.refl _ _ | exact (Below.refl _ _).alloc (Nat.le_refl _) _)))
     have HDs3 := Lib.hid (HDs.out.step (z := ((0, 0, 0) : Nat × Nat × Nat)) (by rw [hxi]; exact hD3))
     have HNF3 := Lib.hid (fun k (hk : v.ownBlock = some k) => (⟨(hT3.from_ (w := wr) (by first | exact Below.refl _ _ | exact (Below.refl _ _).alloc (Nat.le_refl _) _)).not (HNF.out k hk) (HO.out.lt k hk).2, (HO.out.lt k hk).1⟩ : ¬ F3 k ∧ w.heap.size ≤ k))
     have hle3 := HT3.out.off.size
     have hn3 : ∀ k, w3.heap.size ≤ k → ¬ F3 k := fun k hk => HT3.out.at_.not hk
     clear hT3 hD3
     go_wp2_with (at_builtin; refine wpList_append_lies _ rfl _ _ _ rfl w.heap.size 113 i0 (.agg #[.int .u32 0, .int .u64 0, .int .u64 0]) 3 24 Tryz.underlying71 hi0 hq0 hq1 hq2 rfl (by decide) v i _ rfl (HO3.out.alloc _) ⟨w3.heap.size, 0, none⟩ 1 1 [.int .u32 (y.1 : Int), .int .u64 (y.2.1 : Int), .int .u64 (y.2.2 : Int)] rfl rfl (World.news_of_block (fr := (0, 0)) (heap_alloc_new w3 _)) (by simp [Value.oneCell']) (by decide) (by unfold maxLen; omega) (by omega) (by simp; omega) (w3.heap.size + 1) (by simp) ?_)
     intro gg cap2 w4 hown hgr hat hlt4
     have HO4 := Lib.hid hown
     have HT4 := Lib.hid (HT3.out.grown hgr HNF3.out)
     have HNF4 : Hid (∀ k, (Value.slice (some ⟨gg, 0, none⟩) (i + 1) cap2).ownBlock = some k → ¬ F3 k) := fun k hk => by
      obtain rfl : gg = k := by simpa [Value.ownBlock] using hk
      exact hat.elim (fun e => (HNF3.out gg e).1) fun e => hn3 gg (by omega)
     clear hown hgr hat
     go_wp2_with fail
     go_roundw
     case rel =>
      refine ⟨i + 1, g ++ [y], _, m3, b3, F3, rfl, by go_num, by omega, by rw [List.length_append, hg]; rfl, ?_, HNF4, HT4, HDs3⟩
      show World.ownsRow _ _ _ _ _ _ _
      rw [kv_snoc]; exact HO4.out
     case measure => simp [intOf]; omega
    ·have hiz : ¬ (i : Int) < l.length := by omega
     have hxn : l[i]? = none := List.getElem?_eq_none (by omega)
     obtain ⟨x, hxz⟩ : ∃ x : Nat × Nat × Nat, x = ((0, 0, 0) : Nat × Nat × Nat) := ⟨_, rfl⟩
     have hfx : U32 x.1 ∧ U64 x.2.1 ∧ U64 x.2.2 := by rw [hxz]; exact ⟨by show (0 : Nat) < 4294967296; decide, by show (0 : Nat) < 18446744073709551616; decide, by show (0 : Nat) < 18446744073709551616; decide⟩
     have HCC := Lib.hid (fun W2 (hW : Below wr.heap.size wr W2) => pdone_any P x hfx m2 b2 F2 W2 (hT2.at_.below hW) (by have := HDs.out.room_at (z := x) HR1.out HIn.out; first | (rw [hxi] at this; exact this) | (rw [hxn] at this; exact this)))
     rw [hxz] at HCC
     clear hT2 hxz
     go_wp2_with fail
     go_at_call 95
     refine (HCC.out _ (by first | exact Below.refl _ _ | exact (Below.refl _ _).alloc (Nat.le_refl _) _)).mono ?_
     rintro e w3 ⟨y, _, m3, b3, F3, rfl, hT3, _, hD3⟩
     have HO3 := Lib.hid (own_off (own_off HO.out (Off.of_below (by first | exact Below.refl _ _ | exact (Below.refl _ _).alloc (Nat.le_refl _) _)) fun _ _ h => h) hT3.off HNF.out)
     have HT3 := Lib.hid (HT.out.trans (hT3.from_ (by first | exact Below.refl _ _ | exact (Below.refl _ _).alloc (Nat.le_refl _) _)))
     have HDs3 := Lib.hid (HDs.out.step (z := ((0, 0, 0) : Nat × Nat × Nat)) (by rw [hxn]; exact hD3))
     have HNF3 := Lib.hid (fun k (hk : v.ownBlock = some k) => (⟨(hT3.from_ (w := wr) (by first | exact Below.refl _ _ | exact (Below.refl _ _).alloc (Nat.le_refl _) _)).not (HNF.out k hk) (HO.out.lt k hk).2, (HO.out.lt k hk).1⟩ : ¬ F3 k ∧ w.heap.size ≤ k))
     have hle3 := HT3.out.off.size
     have hn3 : ∀ k, w3.heap.size ≤ k → ¬ F3 k := fun k hk => HT3.out.at_.not hk
     clear hT3 hD3
     go_wp2_with (at_builtin; refine wpList_append_lies _ rfl _ _ _ rfl w.heap.size 113 i0 (.agg #[.int .u32 0, .int .u64 0, .int .u64 0]) 3 24 Tryz.underlying71 hi0 hq0 hq1 hq2 rfl (by decide) v i _ rfl (HO3.out.alloc _) ⟨w3.heap.size, 0, none⟩ 1 1 [.int .u32 (y.1 : Int), .int .u64 (y.2.1 : Int), .int .u64 (y.2.2 : Int)] rfl rfl (World.news_of_block (fr := (0, 0)) (heap_alloc_new w3 _)) (by simp [Value.oneCell']) (by decide) (by unfold maxLen; omega) (by omega) (by simp; omega) (w3.heap.size + 1) (by simp) ?_)
     intro gg cap2 w4 hown hgr hat hlt4
     have HO4 := Lib.hid hown
     have HT4 := Lib.hid (HT3.out.grown hgr HNF3.out)
     have HNF4 : Hid (∀ k, (Value.slice (some ⟨gg, 0, none⟩) (i + 1) cap2).ownBlock = some k → ¬ F3 k) := fun k hk => by
      obtain rfl : gg = k := by simpa [Value.ownBlock] using hk
      exact hat.elim (fun e => (HNF3.out gg e).1) fun e => hn3 gg (by omega)
     clear hown hgr hat
     go_wp2_with fail
     go_roundw
     case rel =>
      refine ⟨i + 1, g ++ [y], _, m3, b3, F3, rfl, by go_num, by omega, by rw [List.length_append, hg]; rfl, ?_, HNF4, HT4, HDs3⟩
      show World.ownsRow _ _ _ _ _ _ _
      rw [kv_snoc]; exact HO4.out
     case measure => simp [intOf]; omega
   ·obtain rfl : K = i := by omega
    clear hT2
    go_wp2_with fail
    obtain ⟨Ar, cr, rfl, hsl⟩ := Sl.of_own HO.out
    go_ret
    refine ⟨g, (Ar, cr), m2, b2, F2, by show Ending.returned (.slice Ar K cr) = .returned (.slice Ar g.length cr); rw [hg], HT.out, fun V hV => ?_, ?_⟩
    ·obtain ⟨Ar', cr', q1, q2⟩ := Sl.of_own (own_off HO.out hV fun k hk hq => hq.elim (HNF.out k hk) fun q => by have := (HO.out.lt k hk).1; omega)
     simp only [Value.slice.injEq] at q1
     obtain ⟨rfl, -, rfl⟩ := q1
     rw [hg]; exact q2
    ·have := HDs.out
     exact Dns.row HD1.out HK1.out this hml
 ·have hmz : (most : Int) < l.length := by omega
  clear HN
  go_enter Tryz.func94, Tryz.ntmps94
  go_wp2_with fail
  go_ret
  obtain ⟨s, rfl⟩ := Md.not_rd (m := m) (fun hm => by have := HZ.out hm; subst this; simp at hml)
  exact ⟨[], (none, 0), _, _, F, rfl, HPW.out, fun V _ => Sl.none_ _, Dn.many hml [] _ s rfl b⟩
set_option maxRecDepth 100000 in
set_option maxHeartbeats 4000000 in
theorem prowOf_any (P : Nat) (l : List (Int)) (A : Option Addr) (d most : Nat) (hmost : most ≤ 1000000) (hfit : ∀ x ∈ l, I64 x) (m : Md) (b : Bool) (F : Nat → Prop) (w : World) (h : PsAt w P m b F) (hr : m.Room ((cdRow (cdInt 109937) most).cost l)) (hz : m.Rd → l = [])
  (hx : Held F w (fun V => Sl V A l.length d (kv (fun x : Int => [.int .i64 x]) l))) :
  Calls Tryz.prog 140 #[.pointer (some ⟨P, 0, none⟩), .slice A l.length d, .int .i64 (most : Int), .func (.func 141) #[.pointer (some ⟨P, 0, none⟩)] #[]] w
   (Told (fun (y : List (Int)) (q : Option Addr × Nat) => .slice q.1 y.length q.2) (fun V y q => Sl V q.1 y.length q.2 (kv (fun x : Int => [.int .i64 x]) y)) (cdRow (cdInt 109937) most) l P m b F w) := by
 obtain ⟨i0, hi0, hq0, hq1, hq2⟩ := info_parts (show (Tryz.prog.info? 3).map (fun i => (i.zero, i.size, i.bytes)) = some (some (.int .i64 0), 1, 8) by kernel_rfl)
 have hlen := len_le hx.now
 have hr : m.Room (10 + ((l.map (Cd.cost (cdInt 109937))).sum + 0)) := hr
 have HN := Lib.hid (pnumberIB_any P (l.length : Int) most (by omega) (⟨by omega, by omega⟩ : I64 (l.length : Int)) m b F w h (hr.mono (by omega)))
 obtain ⟨x2, y2, hPc⟩ := h.cells
 have c2 := blk_cell (i := 2) hPc rfl
 have f2 := blk_free hPc 2
 have HPW := Lib.hid (h.wrong true)
 have HX := Lib.hid hx
 have HZ := Lib.hid hz
 have HR := Lib.hid hr
 have HFit := Lib.hid hfit
 clear hx hz hr h hPc hfit
 by_cases hml : l.length ≤ most
 ·have hmz : ¬ (most : Int) < l.length := by omega
  clear c2 f2
  go_enter Tryz.func140, Tryz.ntmps140
  go_wp2_with fail
  go_at_call 102
  refine HN.out.mono ?_
  rintro e w1 ⟨k, m1, b1, F1, rfl, hT, hD, hk1, hk2⟩
  obtain ⟨K, rfl⟩ : ∃ K : Nat, k = (K : Int) := by
   by_cases hm : m.Rd
   ·obtain ⟨r, rfl⟩ := Md.is_rd hm; exact ⟨k.toNat, by have := (hk2 r rfl).1; omega⟩
   ·obtain ⟨s, rfl⟩ := Md.not_rd hm; exact ⟨l.length, hk1 s rfl⟩
  have hKm : K ≤ most := by
   by_cases hm : m.Rd
   ·obtain ⟨r, rfl⟩ := Md.is_rd hm; have := (hk2 r rfl).2; omega
   ·obtain ⟨s, rfl⟩ := Md.not_rd hm; have := hk1 s rfl; omega
  have HKw : Hid (¬ m.Rd → K = l.length) := fun hm => by obtain ⟨s, rfl⟩ := Md.not_rd hm; have := hk1 s rfl; omega
  have HK1 := Lib.hid hk1
  have HT1 := Lib.hid hT
  have HD1 := Lib.hid hD
  have HR1 : Hid (m1.Room ((l.map (Cd.cost (cdInt 109937))).sum + 0)) := hD.room HR.out
  clear hT hD hk1 hk2 HN HPW
  go_wp2_with fail
  go_loopw [9, 24] (fun sg si wr => ∃ (i : Nat) (g : List (Int)) (v : Value) (m2 : Md) (b2 : Bool) (F2 : Nat → Prop), v = sg ∧ si = .int .i64 (i : Int) ∧ i ≤ K ∧ g.length = i ∧ Hid (wr.ownsRow w.heap.size 3 1 v i (kv (fun x : Int => [.int .i64 x]) g)) ∧ Hid (∀ k, v.ownBlock = some k → ¬ F2 k) ∧ Hid (PsTo w wr P m2 b2 F F2) ∧ Hid (Dns (cdInt 109937) l m1 b1 i g m2 b2)) (fun _ si _ => K - (intOf si).toNat)
  case atStart => exact ⟨0, [], .slice none 0 0, m1, b1, F1, rfl, rfl, Nat.zero_le _, rfl, World.ownsRow_nil _ _ _ _, fun k hk => by simp [Value.ownBlock] at hk, HT1, Dns.start _ _ _ _⟩
  case round =>
   obtain ⟨i, g, v, m2, b2, F2, rfl, rfl, hi, hg, HO, HNF, HT, HDs⟩ := hrel
   have hT2 := HT.out
   by_cases hlt : i < K
   ·have hkz : (i : Int) < K := by omega
    have HIn : Hid (¬ m1.Rd → i < l.length) := fun hm => by have := HKw.out (fun q => hm (HD1.out.mode.2 q)); omega
    by_cases hil : i < l.length
    ·have hiz : (i : Int) < l.length := by omega
     obtain ⟨x, hxi⟩ : ∃ x, l[i]? = some x := ⟨_, List.getElem?_eq_getElem hil⟩
     have hfx := HFit.out x (List.mem_of_getElem? hxi)
     obtain ⟨b0, off, rfl, _, hcc⟩ := Sl.kvG (n := 1) (fun _ => rfl) (by decide) (HX.out.step hT2).now hxi
     have e0 : wr.cell? ⟨b0, off + i, none⟩ = some (.int .i64 x) := by have := hcc ⟨wr, Below.refl _ _⟩ 0 _ rfl; rwa [Nat.mul_one, Nat.add_zero] at this
     have HCC := Lib.hid (fun W2 (hW : Below wr.heap.size wr W2) => (pdayOff_any P x hfx m2 b2 F2 W2 (hT2.at_.below hW) (by have := HDs.out.room_at (z := x) HR1.out HIn.out; first | (rw [hxi] at this; exact this) | (rw [hxn] at this; exact this))).mono fun e w' h => Tel.told h)
     clear hcc hT2
     go_wp2_with fail
     go_at_call 141
     refine (HCC.out _ (by first | exact Below.refl _ _ | exact (Below.refl _ _).alloc (Nat.le_refl _) _)).mono ?_
     rintro e w3 ⟨y, _, m3, b3, F3, rfl, hT3, _, hD3⟩
     have HO3 := Lib.hid (own_off (own_off HO.out (Off.of_below (by first | exact Below.refl _ _ | exact (Below.refl _ _).alloc (Nat.le_refl _) _)) fun _ _ h => h) hT3.off HNF.out)
     have HT3 := Lib.hid (HT.out.trans (hT3.from_ (by first | exact Below.refl _ _ | exact (Below.refl _ _).alloc (Nat.le_refl _) _)))
     have HDs3 := Lib.hid (HDs.out.step (z := (0 : Int)) (by rw [hxi]; exact hD3))
     have HNF3 := Lib.hid (fun k (hk : v.ownBlock = some k) => (⟨(hT3.from_ (w := wr) (by first | exact Below.refl _ _ | exact (Below.refl _ _).alloc (Nat.le_refl _) _)).not (HNF.out k hk) (HO.out.lt k hk).2, (HO.out.lt k hk).1⟩ : ¬ F3 k ∧ w.heap.size ≤ k))
     have hle3 := HT3.out.off.size
     have hn3 : ∀ k, w3.heap.size ≤ k → ¬ F3 k := fun k hk => HT3.out.at_.not hk
     clear hT3 hD3
     go_wp2_with (at_builtin; refine wpList_append_lies _ rfl _ _ _ rfl w.heap.size 3 i0 (.int .i64 0) 1 8 Tryz.underlying53 hi0 hq0 hq1 hq2 rfl (by decide) v i _ rfl (HO3.out.alloc _) ⟨w3.heap.size, 0, none⟩ 1 1 [.int .i64 y] rfl rfl (World.news_of_block (fr := (0, 0)) (heap_alloc_new w3 _)) (by simp [Value.oneCell']) (by decide) (by unfold maxLen; omega) (by omega) (by simp; omega) (w3.heap.size + 1) (by simp) ?_)
     intro gg cap2 w4 hown hgr hat hlt4
     have HO4 := Lib.hid hown
     have HT4 := Lib.hid (HT3.out.grown hgr HNF3.out)
     have HNF4 : Hid (∀ k, (Value.slice (some ⟨gg, 0, none⟩) (i + 1) cap2).ownBlock = some k → ¬ F3 k) := fun k hk => by
      obtain rfl : gg = k := by simpa [Value.ownBlock] using hk
      exact hat.elim (fun e => (HNF3.out gg e).1) fun e => hn3 gg (by omega)
     clear hown hgr hat
     go_wp2_with fail
     go_roundw
     case rel =>
      refine ⟨i + 1, g ++ [y], _, m3, b3, F3, rfl, by go_num, by omega, by rw [List.length_append, hg]; rfl, ?_, HNF4, HT4, HDs3⟩
      show World.ownsRow _ _ _ _ _ _ _
      rw [kv_snoc]; exact HO4.out
     case measure => simp [intOf]; omega
    ·have hiz : ¬ (i : Int) < l.length := by omega
     have hxn : l[i]? = none := List.getElem?_eq_none (by omega)
     obtain ⟨x, hxz⟩ : ∃ x : Int, x = (0 : Int) := ⟨_, rfl⟩
     have hfx : I64 x := by rw [hxz]; exact ⟨by decide, by decide⟩
     have HCC := Lib.hid (fun W2 (hW : Below wr.heap.size wr W2) => (pdayOff_any P x hfx m2 b2 F2 W2 (hT2.at_.below hW) (by have := HDs.out.room_at (z := x) HR1.out HIn.out; first | (rw [hxi] at this; exact this) | (rw [hxn] at this; exact this))).mono fun e w' h => Tel.told h)
     rw [hxz] at HCC
     clear hT2 hxz
     go_wp2_with fail
     go_at_call 141
     refine (HCC.out _ (by first | exact Below.refl _ _ | exact (Below.refl _ _).alloc (Nat.le_refl _) _)).mono ?_
     rintro e w3 ⟨y, _, m3, b3, F3, rfl, hT3, _, hD3⟩
     have HO3 := Lib.hid (own_off (own_off HO.out (Off.of_below (by first | exact Below.refl _ _ | exact (Below.refl _ _).alloc (Nat.le_refl _) _)) fun _ _ h => h) hT3.off HNF.out)
     have HT3 := Lib.hid (HT.out.trans (hT3.from_ (by first | exact Below.refl _ _ | exact (Below.refl _ _).alloc (Nat.le_refl _) _)))
     have HDs3 := Lib.hid (HDs.out.step (z := (0 : Int)) (by rw [hxn]; exact hD3))
     have HNF3 := Lib.hid (fun k (hk : v.ownBlock = some k) => (⟨(hT3.from_ (w := wr) (by first | exact Below.refl _ _ | exact (Below.refl _ _).alloc (Nat.le_refl _) _)).not (HNF.out k hk) (HO.out.lt k hk).2, (HO.out.lt k hk).1⟩ : ¬ F3 k ∧ w.heap.size ≤ k))
     have hle3 := HT3.out.off.size
     have hn3 : ∀ k, w3.heap.size ≤ k → ¬ F3 k := fun k hk => HT3.out.at_.not hk
     clear hT3 hD3
     go_wp2_with (at_builtin; refine wpList_append_lies _ rfl _ _ _ rfl w.heap.size 3 i0 (.int .i64 0) 1 8 Tryz.underlying53 hi0 hq0 hq1 hq2 rfl (by decide) v i _ rfl (HO3.out.alloc _) ⟨w3.heap.size, 0, none⟩ 1 1 [.int .i64 y] rfl rfl (World.news_of_block (fr := (0, 0)) (heap_alloc_new w3 _)) (by simp [Value.oneCell']) (by decide) (by unfold maxLen; omega) (by omega) (by simp; omega) (w3.heap.size + 1) (by simp) ?_)
     intro gg cap2 w4 hown hgr hat hlt4
     have HO4 := Lib.hid hown
     have HT4 := Lib.hid (HT3.out.grown hgr HNF3.out)
     have HNF4 : Hid (∀ k, (Value.slice (some ⟨gg, 0, none⟩) (i + 1) cap2).ownBlock = some k → ¬ F3 k) := fun k hk => by
      obtain rfl : gg = k := by simpa [Value.ownBlock] using hk
      exact hat.elim (fun e => (HNF3.out gg e).1) fun e => hn3 gg (by omega)
     clear hown hgr hat
     go_wp2_with fail
     go_roundw
     case rel =>
      refine ⟨i + 1, g ++ [y], _, m3, b3, F3, rfl, by go_num, by omega, by rw [List.length_append, hg]; rfl, ?_, HNF4, HT4, HDs3⟩
      show World.ownsRow _ _ _ _ _ _ _
      rw [kv_snoc]; exact HO4.out
     case measure => simp [intOf]; omega
   ·obtain rfl : K = i := by omega
    clear hT2
    go_wp2_with fail
    obtain ⟨Ar, cr, rfl, hsl⟩ := Sl.of_own HO.out
    go_ret
    refine ⟨g, (Ar, cr), m2, b2, F2, by show Ending.returned (.slice Ar K cr) = .returned (.slice Ar g.length cr); rw [hg], HT.out, fun V hV => ?_, ?_⟩
    ·obtain ⟨Ar', cr', q1, q2⟩ := Sl.of_own (own_off HO.out hV fun k hk hq => hq.elim (HNF.out k hk) fun q => by have := (HO.out.lt k hk).1; omega)
     simp only [Value.slice.injEq] at q1
     obtain ⟨rfl, -, rfl⟩ := q1
     rw [hg]; exact q2
    ·have := HDs.out
     exact Dns.row HD1.out HK1.out this hml
 ·have hmz : (most : Int) < l.length := by omega
  clear HN
  go_enter Tryz.func140, Tryz.ntmps140
  go_wp2_with fail
  go_ret
  obtain ⟨s, rfl⟩ := Md.not_rd (m := m) (fun hm => by have := HZ.out hm; subst this; simp at hml)
  exact ⟨[], (none, 0), _, _, F, rfl, HPW.out, fun V _ => Sl.none_ _, Dn.many hml [] _ s rfl b⟩
set_option maxRecDepth 100000 in
set_option maxHeartbeats 4000000 in
theorem prowSm_any (P B0 : Nat) (l : List (Int)) (A : Option Addr) (d most : Nat) (hmost : most ≤ 1000000) (hfit : ∀ x ∈ l, I64 x) (m : Md) (b : Bool) (F : Nat → Prop) (w : World) (h : PsAt w P m b F) (hr : m.Room ((cdRow (cdZ (-400) 400) most).cost l)) (hz : m.Rd → l = [])
  (hx : Held F w (fun V => Sl V A l.length d (kv (fun x : Int => [.int .i64 x]) l))) (hB0 : Held F w (fun V => V.heap[B0]? = some (.cells #[.pointer (some ⟨P, 0, none⟩)] 121 (0, 0)))) :
  Calls Tryz.prog 140 #[.pointer (some ⟨P, 0, none⟩), .slice A l.length d, .int .i64 (most : Int), .func (.func 156) #[] #[.pointer (some ⟨B0, 0, none⟩)]] w
   (Told (fun (y : List (Int)) (q : Option Addr × Nat) => .slice q.1 y.length q.2) (fun V y q => Sl V q.1 y.length q.2 (kv (fun x : Int => [.int .i64 x]) y)) (cdRow (cdZ (-400) 400) most) l P m b F w) := by
 obtain ⟨i0, hi0, hq0, hq1, hq2⟩ := info_parts (show (Tryz.prog.info? 3).map (fun i => (i.zero, i.size, i.bytes)) = some (some (.int .i64 0), 1, 8) by kernel_rfl)
 have hlen := len_le hx.now
 have hr : m.Room (10 + ((l.map (Cd.cost (cdZ (-400) 400))).sum + 0)) := hr
 have HN := Lib.hid (pnumberIB_any P (l.length : Int) most (by omega) (⟨by omega, by omega⟩ : I64 (l.length : Int)) m b F w h (hr.mono (by omega)))
 obtain ⟨x2, y2, hPc⟩ := h.cells
 have c2 := blk_cell (i := 2) hPc rfl
 have f2 := blk_free hPc 2
 have HPW := Lib.hid (h.wrong true)
 have HX := Lib.hid hx
 have HZ := Lib.hid hz
 have HB0 := Lib.hid hB0
 clear hB0
 have HR := Lib.hid hr
 have HFit := Lib.hid hfit
 clear hx hz hr h hPc hfit
 by_cases hml : l.length ≤ most
 ·have hmz : ¬ (most : Int) < l.length := by omega
  clear c2 f2
  go_enter Tryz.func140, Tryz.ntmps140
  go_wp2_with fail
  go_at_call 102
  refine HN.out.mono ?_
  rintro e w1 ⟨k, m1, b1, F1, rfl, hT, hD, hk1, hk2⟩
  obtain ⟨K, rfl⟩ : ∃ K : Nat, k = (K : Int) := by
   by_cases hm : m.Rd
   ·obtain ⟨r, rfl⟩ := Md.is_rd hm; exact ⟨k.toNat, by have := (hk2 r rfl).1; omega⟩
   ·obtain ⟨s, rfl⟩ := Md.not_rd hm; exact ⟨l.length, hk1 s rfl⟩
  have hKm : K ≤ most := by
   by_cases hm : m.Rd
   ·obtain ⟨r, rfl⟩ := Md.is_rd hm; have := (hk2 r rfl).2; omega
   ·obtain ⟨s, rfl⟩ := Md.not_rd hm; have := hk1 s rfl; omega
  have HKw : Hid (¬ m.Rd → K = l.length) := fun hm => by obtain ⟨s, rfl⟩ := Md.not_rd hm; have := hk1 s rfl; omega
  have HK1 := Lib.hid hk1
  have HT1 := Lib.hid hT
  have HD1 := Lib.hid hD
  have HR1 : Hid (m1.Room ((l.map (Cd.cost (cdZ (-400) 400))).sum + 0)) := hD.room HR.out
  clear hT hD hk1 hk2 HN HPW
  go_wp2_with fail
  go_loopw [9, 24] (fun sg si wr => ∃ (i : Nat) (g : List (Int)) (v : Value) (m2 : Md) (b2 : Bool) (F2 : Nat → Prop), v = sg ∧ si = .int .i64 (i : Int) ∧ i ≤ K ∧ g.length = i ∧ Hid (wr.ownsRow w.heap.size 3 1 v i (kv (fun x : Int => [.int .i64 x]) g)) ∧ Hid (∀ k, v.ownBlock = some k → ¬ F2 k) ∧ Hid (PsTo w wr P m2 b2 F F2) ∧ Hid (Dns (cdZ (-400) 400) l m1 b1 i g m2 b2)) (fun _ si _ => K - (intOf si).toNat)
  case atStart => exact ⟨0, [], .slice none 0 0, m1, b1, F1, rfl, rfl, Nat.zero_le _, rfl, World.ownsRow_nil _ _ _ _, fun k hk => by simp [Value.ownBlock] at hk, HT1, Dns.start _ _ _ _⟩
  case round =>
   obtain ⟨i, g, v, m2, b2, F2, rfl, rfl, hi, hg, HO, HNF, HT, HDs⟩ := hrel
   have hT2 := HT.out
   by_cases hlt : i < K
   ·have hkz : (i : Int) < K := by omega
    have HIn : Hid (¬ m1.Rd → i < l.length) := fun hm => by have := HKw.out (fun q => hm (HD1.out.mode.2 q)); omega
    by_cases hil : i < l.length
    ·have hiz : (i : Int) < l.length := by omega
     obtain ⟨x, hxi⟩ : ∃ x, l[i]? = some x := ⟨_, List.getElem?_eq_getElem hil⟩
     have hfx := HFit.out x (List.mem_of_getElem? hxi)
     obtain ⟨b0, off, rfl, _, hcc⟩ := Sl.kvG (n := 1) (fun _ => rfl) (by decide) (HX.out.step hT2).now hxi
     have e0 : wr.cell? ⟨b0, off + i, none⟩ = some (.int .i64 x) := by have := hcc ⟨wr, Below.refl _ _⟩ 0 _ rfl; rwa [Nat.mul_one, Nat.add_zero] at this
     have HCC := Lib.hid (fun W2 (hW : Below wr.heap.size wr W2) => (prule11_any P B0 x hfx m2 b2 F2 W2 (hT2.at_.below hW) (by have := HDs.out.room_at (z := x) HR1.out HIn.out; first | (rw [hxi] at this; exact this) | (rw [hxn] at this; exact this)) ((HB0.out.step hT2).below hW)).mono fun e w' h => Tel.told h)
     clear hcc hT2
     go_wp2_with fail
     go_at_call 156
     refine (HCC.out _ (by first | exact Below.refl _ _ | exact (Below.refl _ _).alloc (Nat.le_refl _) _)).mono ?_
     rintro e w3 ⟨y, _, m3, b3, F3, rfl, hT3, _, hD3⟩
     have HO3 := Lib.hid (own_off (own_off HO.out (Off.of_below (by first | exact Below.refl _ _ | exact (Below.refl _ _).alloc (Nat.le_refl _) _)) fun _ _ h => h) hT3.off HNF.out)
     have HT3 := Lib.hid (HT.out.trans (hT3.from_ (by first | exact Below.refl _ _ | exact (Below.refl _ _).alloc (Nat.le_refl _) _)))
     have HDs3 := Lib.hid (HDs.out.step (z := (0 : Int)) (by rw [hxi]; exact hD3))
     have HNF3 := Lib.hid (fun k (hk : v.ownBlock = some k) => (⟨(hT3.from_ (w := wr) (by first | exact Below.refl _ _ | exact (Below.refl _ _).alloc (Nat.le_refl _) _)).not (HNF.out k hk) (HO.out.lt k hk).2, (HO.out.lt k hk).1⟩ : ¬ F3 k ∧ w.heap.size ≤ k))
     have hle3 := HT3.out.off.size
     have hn3 : ∀ k, w3.heap.size ≤ k → ¬ F3 k := fun k hk => HT3.out.at_.not hk
     clear hT3 hD3
     go_wp2_with (at_builtin; refine wpList_append_lies _ rfl _ _ _ rfl w.heap.size 3 i0 (.int .i64 0) 1 8 Tryz.underlying53 hi0 hq0 hq1 hq2 rfl (by decide) v i _ rfl (HO3.out.alloc _) ⟨w3.heap.size, 0, none⟩ 1 1 [.int .i64 y] rfl rfl (World.news_of_block (fr := (0, 0)) (heap_alloc_new w3 _)) (by simp [Value.oneCell']) (by decide) (by unfold maxLen; omega) (by omega) (by simp; omega) (w3.heap.size + 1) (by simp) ?_)
     intro gg cap2 w4 hown hgr hat hlt4
     have HO4 := Lib.hid hown
     have HT4 := Lib.hid (HT3.out.grown hgr HNF3.out)
     have HNF4 : Hid (∀ k, (Value.slice (some ⟨gg, 0, none⟩) (i + 1) cap2).ownBlock = some k → ¬ F3 k) := fun k hk => by
      obtain rfl : gg = k := by simpa [Value.ownBlock] using hk
      exact hat.elim (fun e => (HNF3.out gg e).1) fun e => hn3 gg (by omega)
     clear hown hgr hat
     go_wp2_with fail
     go_roundw
     case rel =>
      refine ⟨i + 1, g ++ [y], _, m3, b3, F3, rfl, by go_num, by omega, by rw [List.length_append, hg]; rfl, ?_, HNF4, HT4, HDs3⟩
      show World.ownsRow _ _ _ _ _ _ _
      rw [kv_snoc]; exact HO4.out
     case measure => simp [intOf]; omega
    ·have hiz : ¬ (i : Int) < l.length := by omega
     have hxn : l[i]? = none := List.getElem?_eq_none (by omega)
     obtain ⟨x, hxz⟩ : ∃ x : Int, x = (0 : Int) := ⟨_, rfl⟩
     have hfx : I64 x := by rw [hxz]; exact ⟨by decide, by decide⟩
     have HCC := Lib.hid (fun W2 (hW : Below wr.heap.size wr W2) => (prule11_any P B0 x hfx m2 b2 F2 W2 (hT2.at_.below hW) (by have := HDs.out.room_at (z := x) HR1.out HIn.out; first | (rw [hxi] at this; exact this) | (rw [hxn] at this; exact this)) ((HB0.out.step hT2).below hW)).mono fun e w' h => Tel.told h)
     rw [hxz] at HCC
     clear hT2 hxz
     go_wp2_with fail
     go_at_call 156
     refine (HCC.out _ (by first | exact Below.refl _ _ | exact (Below.refl _ _).alloc (Nat.le_refl _) _)).mono ?_
     rintro e w3 ⟨y, _, m3, b3, F3, rfl, hT3, _, hD3⟩
     have HO3 := Lib.hid (own_off (own_off HO.out (Off.of_below (by first | exact Below.refl _ _ | exact (Below.refl _ _).alloc (Nat.le_refl _) _)) fun _ _ h => h) hT3.off HNF.out)
     have HT3 := Lib.hid (HT.out.trans (hT3.from_ (by first | exact Below.refl _ _ | exact (Below.refl _ _).alloc (Nat.le_refl _) _)))
     have HDs3 := Lib.hid (HDs.out.step (z := (0 : Int)) (by rw [hxn]; exact hD3))
     have HNF3 := Lib.hid (fun k (hk : v.ownBlock = some k) => (⟨(hT3.from_ (w := wr) (by first | exact Below.refl _ _ | exact (Below.refl _ _).alloc (Nat.le_refl _) _)).not (HNF.out k hk) (HO.out.lt k hk).2, (HO.out.lt k hk).1⟩ : ¬ F3 k ∧ w.heap.size ≤ k))
     have hle3 := HT3.out.off.size
     have hn3 : ∀ k, w3.heap.size ≤ k → ¬ F3 k := fun k hk => HT3.out.at_.not hk
     clear hT3 hD3
     go_wp2_with (at_builtin; refine wpList_append_lies _ rfl _ _ _ rfl w.heap.size 3 i0 (.int .i64 0) 1 8 Tryz.underlying53 hi0 hq0 hq1 hq2 rfl (by decide) v i _ rfl (HO3.out.alloc _) ⟨w3.heap.size, 0, none⟩ 1 1 [.int .i64 y] rfl rfl (World.news_of_block (fr := (0, 0)) (heap_alloc_new w3 _)) (by simp [Value.oneCell']) (by decide) (by unfold maxLen; omega) (by omega) (by simp; omega) (w3.heap.size + 1) (by simp) ?_)
     intro gg cap2 w4 hown hgr hat hlt4
     have HO4 := Lib.hid hown
     have HT4 := Lib.hid (HT3.out.grown hgr HNF3.out)
     have HNF4 : Hid (∀ k, (Value.slice (some ⟨gg, 0, none⟩) (i + 1) cap2).ownBlock = some k → ¬ F3 k) := fun k hk => by
      obtain rfl : gg = k := by simpa [Value.ownBlock] using hk
      exact hat.elim (fun e => (HNF3.out gg e).1) fun e => hn3 gg (by omega)
     clear hown hgr hat
     go_wp2_with fail
     go_roundw
     case rel =>
      refine ⟨i + 1, g ++ [y], _, m3, b3, F3, rfl, by go_num, by omega, by rw [List.length_append, hg]; rfl, ?_, HNF4, HT4, HDs3⟩
      show World.ownsRow _ _ _ _ _ _ _
      rw [kv_snoc]; exact HO4.out
     case measure => simp [intOf]; omega
   ·obtain rfl : K = i := by omega
    clear hT2
    go_wp2_with fail
    obtain ⟨Ar, cr, rfl, hsl⟩ := Sl.of_own HO.out
    go_ret
    refine ⟨g, (Ar, cr), m2, b2, F2, by show Ending.returned (.slice Ar K cr) = .returned (.slice Ar g.length cr); rw [hg], HT.out, fun V hV => ?_, ?_⟩
    ·obtain ⟨Ar', cr', q1, q2⟩ := Sl.of_own (own_off HO.out hV fun k hk hq => hq.elim (HNF.out k hk) fun q => by have := (HO.out.lt k hk).1; omega)
     simp only [Value.slice.injEq] at q1
     obtain ⟨rfl, -, rfl⟩ := q1
     rw [hg]; exact q2
    ·have := HDs.out
     exact Dns.row HD1.out HK1.out this hml
 ·have hmz : (most : Int) < l.length := by omega
  clear HN
  go_enter Tryz.func140, Tryz.ntmps140
  go_wp2_with fail
  go_ret
  obtain ⟨s, rfl⟩ := Md.not_rd (m := m) (fun hm => by have := HZ.out hm; subst this; simp at hml)
  exact ⟨[], (none, 0), _, _, F, rfl, HPW.out, fun V _ => Sl.none_ _, Dn.many hml [] _ s rfl b⟩
set_option maxRecDepth 100000 in
set_option maxHeartbeats 4000000 in
theorem prowSi_any (P : Nat) (l : List (Int)) (A : Option Addr) (d most : Nat) (hmost : most ≤ 1000000) (hfit : ∀ x ∈ l, I64 x) (m : Md) (b : Bool) (F : Nat → Prop) (w : World) (h : PsAt w P m b F) (hr : m.Room ((cdRow cdSig most).cost l)) (hz : m.Rd → l = [])
  (hx : Held F w (fun V => Sl V A l.length d (kv (fun x : Int => [.int .i64 x]) l))) :
  Calls Tryz.prog 122 #[.pointer (some ⟨P, 0, none⟩), .slice A l.length d, .int .i64 (most : Int), .func (.func 90) #[.pointer (some ⟨P, 0, none⟩)] #[]] w
   (Told (fun (y : List (Int)) (q : Option Addr × Nat) => .slice q.1 y.length q.2) (fun V y q => Sl V q.1 y.length q.2 (kv (fun x : Int => [.int .i64 x]) y)) (cdRow cdSig most) l P m b F w) := by
 obtain ⟨i0, hi0, hq0, hq1, hq2⟩ := info_parts (show (Tryz.prog.info? 2).map (fun i => (i.zero, i.size, i.bytes)) = some (some (.int .i64 0), 1, 8) by kernel_rfl)
 have hlen := len_le hx.now
 have hr : m.Room (10 + ((l.map (Cd.cost cdSig)).sum + 0)) := hr
 have HN := Lib.hid (pnumberIB_any P (l.length : Int) most (by omega) (⟨by omega, by omega⟩ : I64 (l.length : Int)) m b F w h (hr.mono (by omega)))
 obtain ⟨x2, y2, hPc⟩ := h.cells
 have c2 := blk_cell (i := 2) hPc rfl
 have f2 := blk_free hPc 2
 have HPW := Lib.hid (h.wrong true)
 have HX := Lib.hid hx
 have HZ := Lib.hid hz
 have HR := Lib.hid hr
 have HFit := Lib.hid hfit
 clear hx hz hr h hPc hfit
 by_cases hml : l.length ≤ most
 ·have hmz : ¬ (most : Int) < l.length := by omega
  clear c2 f2
  go_enter Tryz.func122, Tryz.ntmps122
  go_wp2_with fail
  go_at_call 102
  refine HN.out.mono ?_
  rintro e w1 ⟨k, m1, b1, F1, rfl, hT, hD, hk1, hk2⟩
  obtain ⟨K, rfl⟩ : ∃ K : Nat, k = (K : Int) := by
   by_cases hm : m.Rd
   ·obtain ⟨r, rfl⟩ := Md.is_rd hm; exact ⟨k.toNat, by have := (hk2 r rfl).1; omega⟩
   ·obtain ⟨s, rfl⟩ := Md.not_rd hm; exact ⟨l.length, hk1 s rfl⟩
  have hKm : K ≤ most := by
   by_cases hm : m.Rd
   ·obtain ⟨r, rfl⟩ := Md.is_rd hm; have := (hk2 r rfl).2; omega
   ·obtain ⟨s, rfl⟩ := Md.not_rd hm; have := hk1 s rfl; omega
  have HKw : Hid (¬ m.Rd → K = l.length) := fun hm => by obtain ⟨s, rfl⟩ := Md.not_rd hm; have := hk1 s rfl; omega
  have HK1 := Lib.hid hk1
  have HT1 := Lib.hid hT
  have HD1 := Lib.hid hD
  have HR1 : Hid (m1.Room ((l.map (Cd.cost cdSig)).sum + 0)) := hD.room HR.out
  clear hT hD hk1 hk2 HN HPW
  go_wp2_with fail
  go_loopw [9, 24] (fun sg si wr => ∃ (i : Nat) (g : List (Int)) (v : Value) (m2 : Md) (b2 : Bool) (F2 : Nat → Prop), v = sg ∧ si = .int .i64 (i : Int) ∧ i ≤ K ∧ g.length = i ∧ Hid (wr.ownsRow w.heap.size 2 1 v i (kv (fun x : Int => [.int .i64 x]) g)) ∧ Hid (∀ k, v.ownBlock = some k → ¬ F2 k) ∧ Hid (PsTo w wr P m2 b2 F F2) ∧ Hid (Dns cdSig l m1 b1 i g m2 b2)) (fun _ si _ => K - (intOf si).toNat)
  case atStart => exact ⟨0, [], .slice none 0 0, m1, b1, F1, rfl, rfl, Nat.zero_le _, rfl, World.ownsRow_nil _ _ _ _, fun k hk => by simp [Value.ownBlock] at hk, HT1, Dns.start _ _ _ _⟩
  case round =>
   obtain ⟨i, g, v, m2, b2, F2, rfl, rfl, hi, hg, HO, HNF, HT, HDs⟩ := hrel
   have hT2 := HT.out
   by_cases hlt : i < K
   ·have hkz : (i : Int) < K := by omega
    have HIn : Hid (¬ m1.Rd → i < l.length) := fun hm => by have := HKw.out (fun q => hm (HD1.out.mode.2 q)); omega
    by_cases hil : i < l.length
    ·have hiz : (i : Int) < l.length := by omega
     obtain ⟨x, hxi⟩ : ∃ x, l[i]? = some x := ⟨_, List.getElem?_eq_getElem hil⟩
     have hfx := HFit.out x (List.mem_of_getElem? hxi)
     obtain ⟨b0, off, rfl, _, hcc⟩ := Sl.kvG (n := 1) (fun _ => rfl) (by decide) (HX.out.step hT2).now hxi
     have e0 : wr.cell? ⟨b0, off + i, none⟩ = some (.int .i64 x) := by have := hcc ⟨wr, Below.refl _ _⟩ 0 _ rfl; rwa [Nat.mul_one, Nat.add_zero] at this
     have HCC := Lib.hid (fun W2 (hW : Below wr.heap.size wr W2) => (psigned_any P x hfx m2 b2 F2 W2 (hT2.at_.below hW) (by have := HDs.out.room_at (z := x) HR1.out HIn.out; first | (rw [hxi] at this; exact this) | (rw [hxn] at this; exact this))).mono fun e w' h => Tel.told h)
     clear hcc hT2
     go_wp2_with fail
     go_at_call 90
     refine (HCC.out _ (by first | exact Below.refl _ _ | exact (Below.refl _ _).alloc (Nat.le_refl _) _)).mono ?_
     rintro e w3 ⟨y, _, m3, b3, F3, rfl, hT3, _, hD3⟩
     have HO3 := Lib.hid (own_off (own_off HO.out (Off.of_below (by first | exact Below.refl _ _ | exact (Below.refl _ _).alloc (Nat.le_refl _) _)) fun _ _ h => h) hT3.off HNF.out)
     have HT3 := Lib.hid (HT.out.trans (hT3.from_ (by first | exact Below.refl _ _ | exact (Below.refl _ _).alloc (Nat.le_refl _) _)))
     have HDs3 := Lib.hid (HDs.out.step (z := (0 : Int)) (by rw [hxi]; exact hD3))
     have HNF3 := Lib.hid (fun k (hk : v.ownBlock = some k) => (⟨(hT3.from_ (w := wr) (by first | exact Below.refl _ _ | exact (Below.refl _ _).alloc (Nat.le_refl _) _)).not (HNF.out k hk) (HO.out.lt k hk).2, (HO.out.lt k hk).1⟩ : ¬ F3 k ∧ w.heap.size ≤ k))
     have hle3 := HT3.out.off.size
     have hn3 : ∀ k, w3.heap.size ≤ k → ¬ F3 k := fun k hk => HT3.out.at_.not hk
     clear hT3 hD3
     go_wp2_with (at_builtin; refine wpList_append_lies _ rfl _ _ _ rfl w.heap.size 2 i0 (.int .i64 0) 1 8 Tryz.underlying34 hi0 hq0 hq1 hq2 rfl (by decide) v i _ rfl (HO3.out.alloc _) ⟨w3.heap.size, 0, none⟩ 1 1 [.int .i64 y] rfl rfl (World.news_of_block (fr := (0, 0)) (heap_alloc_new w3 _)) (by simp [Value.oneCell']) (by decide) (by unfold maxLen; omega) (by omega) (by simp; omega) (w3.heap.size + 1) (by simp) ?_)
     intro gg cap2 w4 hown hgr hat hlt4
     have HO4 := Lib.hid hown
     have HT4 := Lib.hid (HT3.out.grown hgr HNF3.out)
     have HNF4 : Hid (∀ k, (Value.slice (some ⟨gg, 0, none⟩) (i + 1) cap2).ownBlock = some k → ¬ F3 k) := fun k hk => by
      obtain rfl : gg = k := by simpa [Value.ownBlock] using hk
      exact hat.elim (fun e => (HNF3.out gg e).1) fun e => hn3 gg (by omega)
     clear hown hgr hat
     go_wp2_with fail
     go_roundw
     case rel =>
      refine ⟨i + 1, g ++ [y], _, m3, b3, F3, rfl, by go_num, by omega, by rw [List.length_append, hg]; rfl, ?_, HNF4, HT4, HDs3⟩
      show World.ownsRow _ _ _ _ _ _ _
      rw [kv_snoc]; exact HO4.out
     case measure => simp [intOf]; omega
    ·have hiz : ¬ (i : Int) < l.length := by omega
     have hxn : l[i]? = none := List.getElem?_eq_none (by omega)
     obtain ⟨x, hxz⟩ : ∃ x : Int, x = (0 : Int) := ⟨_, rfl⟩
     have hfx : I64 x := by rw [hxz]; exact ⟨by decide, by decide⟩
     have HCC := Lib.hid (fun W2 (hW : Below wr.heap.size wr W2) => (psigned_any P x hfx m2 b2 F2 W2 (hT2.at_.below hW) (by have := HDs.out.room_at (z := x) HR1.out HIn.out; first | (rw [hxi] at this; exact this) | (rw [hxn] at this; exact this))).mono fun e w' h => Tel.told h)
     rw [hxz] at HCC
     clear hT2 hxz
     go_wp2_with fail
     go_at_call 90
     refine (HCC.out _ (by first | exact Below.refl _ _ | exact (Below.refl _ _).alloc (Nat.le_refl _) _)).mono ?_
     rintro e w3 ⟨y, _, m3, b3, F3, rfl, hT3, _, hD3⟩
     have HO3 := Lib.hid (own_off (own_off HO.out (Off.of_below (by first | exact Below.refl _ _ | exact (Below.refl _ _).alloc (Nat.le_refl _) _)) fun _ _ h => h) hT3.off HNF.out)
     have HT3 := Lib.hid (HT.out.trans (hT3.from_ (by first | exact Below.refl _ _ | exact (Below.refl _ _).alloc (Nat.le_refl _) _)))
     have HDs3 := Lib.hid (HDs.out.step (z := (0 : Int)) (by rw [hxn]; exact hD3))
     have HNF3 := Lib.hid (fun k (hk : v.ownBlock = some k) => (⟨(hT3.from_ (w := wr) (by first | exact Below.refl _ _ | exact (Below.refl _ _).alloc (Nat.le_refl _) _)).not (HNF.out k hk) (HO.out.lt k hk).2, (HO.out.lt k hk).1⟩ : ¬ F3 k ∧ w.heap.size ≤ k))
     have hle3 := HT3.out.off.size
     have hn3 : ∀ k, w3.heap.size ≤ k → ¬ F3 k := fun k hk => HT3.out.at_.not hk
     clear hT3 hD3
     go_wp2_with (at_builtin; refine wpList_append_lies _ rfl _ _ _ rfl w.heap.size 2 i0 (.int .i64 0) 1 8 Tryz.underlying34 hi0 hq0 hq1 hq2 rfl (by decide) v i _ rfl (HO3.out.alloc _) ⟨w3.heap.size, 0, none⟩ 1 1 [.int .i64 y] rfl rfl (World.news_of_block (fr := (0, 0)) (heap_alloc_new w3 _)) (by simp [Value.oneCell']) (by decide) (by unfold maxLen; omega) (by omega) (by simp; omega) (w3.heap.size + 1) (by simp) ?_)
     intro gg cap2 w4 hown hgr hat hlt4
     have HO4 := Lib.hid hown
     have HT4 := Lib.hid (HT3.out.grown hgr HNF3.out)
     have HNF4 : Hid (∀ k, (Value.slice (some ⟨gg, 0, none⟩) (i + 1) cap2).ownBlock = some k → ¬ F3 k) := fun k hk => by
      obtain rfl : gg = k := by simpa [Value.ownBlock] using hk
      exact hat.elim (fun e => (HNF3.out gg e).1) fun e => hn3 gg (by omega)
     clear hown hgr hat
     go_wp2_with fail
     go_roundw
     case rel =>
      refine ⟨i + 1, g ++ [y], _, m3, b3, F3, rfl, by go_num, by omega, by rw [List.length_append, hg]; rfl, ?_, HNF4, HT4, HDs3⟩
      show World.ownsRow _ _ _ _ _ _ _
      rw [kv_snoc]; exact HO4.out
     case measure => simp [intOf]; omega
   ·obtain rfl : K = i := by omega
    clear hT2
    go_wp2_with fail
    obtain ⟨Ar, cr, rfl, hsl⟩ := Sl.of_own HO.out
    go_ret
    refine ⟨g, (Ar, cr), m2, b2, F2, by show Ending.returned (.slice Ar K cr) = .returned (.slice Ar g.length cr); rw [hg], HT.out, fun V hV => ?_, ?_⟩
    ·obtain ⟨Ar', cr', q1, q2⟩ := Sl.of_own (own_off HO.out hV fun k hk hq => hq.elim (HNF.out k hk) fun q => by have := (HO.out.lt k hk).1; omega)
     simp only [Value.slice.injEq] at q1
     obtain ⟨rfl, -, rfl⟩ := q1
     rw [hg]; exact q2
    ·have := HDs.out
     exact Dns.row HD1.out HK1.out this hml
 ·have hmz : (most : Int) < l.length := by omega
  clear HN
  go_enter Tryz.func122, Tryz.ntmps122
  go_wp2_with fail
  go_ret
  obtain ⟨s, rfl⟩ := Md.not_rd (m := m) (fun hm => by have := HZ.out hm; subst this; simp at hml)
  exact ⟨[], (none, 0), _, _, F, rfl, HPW.out, fun V _ => Sl.none_ _, Dn.many hml [] _ s rfl b⟩
set_option maxRecDepth 100000 in
set_option maxHeartbeats 4000000 in
theorem prowId_any (P : Nat) (l : List (Nat)) (A : Option Addr) (d most : Nat) (hmost : most ≤ 1000000) (hfit : ∀ x ∈ l, U32 x) (m : Md) (b : Bool) (F : Nat → Prop) (w : World) (h : PsAt w P m b F) (hr : m.Room ((cdRow (cdNum 4294967295) most).cost l)) (hz : m.Rd → l = [])
  (hx : Held F w (fun V => Sl V A l.length d (kv (fun x : Nat => [.int .u32 (x : Int)]) l))) :
  Calls Tryz.prog 146 #[.pointer (some ⟨P, 0, none⟩), .slice A l.length d, .int .i64 (most : Int), .func (.func 103) #[.pointer (some ⟨P, 0, none⟩)] #[]] w
   (Told (fun (y : List (Nat)) (q : Option Addr × Nat) => .slice q.1 y.length q.2) (fun V y q => Sl V q.1 y.length q.2 (kv (fun x : Nat => [.int .u32 (x : Int)]) y)) (cdRow (cdNum 4294967295) most) l P m b F w) := by
 obtain ⟨i0, hi0, hq0, hq1, hq2⟩ := info_parts (show (Tryz.prog.info? 25).map (fun i => (i.zero, i.size, i.bytes)) = some (some (.int .u32 0), 1, 4) by kernel_rfl)
 have hlen := len_le hx.now
 have hr : m.Room (10 + ((l.map (Cd.cost (cdNum 4294967295))).sum + 0)) := hr
 have HN := Lib.hid (pnumberIB_any P (l.length : Int) most (by omega) (⟨by omega, by omega⟩ : I64 (l.length : Int)) m b F w h (hr.mono (by omega)))
 obtain ⟨x2, y2, hPc⟩ := h.cells
 have c2 := blk_cell (i := 2) hPc rfl
 have f2 := blk_free hPc 2
 have HPW := Lib.hid (h.wrong true)
 have HX := Lib.hid hx
 have HZ := Lib.hid hz
 have HR := Lib.hid hr
 have HFit := Lib.hid hfit
 clear hx hz hr h hPc hfit
 by_cases hml : l.length ≤ most
 ·have hmz : ¬ (most : Int) < l.length := by omega
  clear c2 f2
  go_enter Tryz.func146, Tryz.ntmps146
  go_wp2_with fail
  go_at_call 102
  refine HN.out.mono ?_
  rintro e w1 ⟨k, m1, b1, F1, rfl, hT, hD, hk1, hk2⟩
  obtain ⟨K, rfl⟩ : ∃ K : Nat, k = (K : Int) := by
   by_cases hm : m.Rd
   ·obtain ⟨r, rfl⟩ := Md.is_rd hm; exact ⟨k.toNat, by have := (hk2 r rfl).1; omega⟩
   ·obtain ⟨s, rfl⟩ := Md.not_rd hm; exact ⟨l.length, hk1 s rfl⟩
  have hKm : K ≤ most := by
   by_cases hm : m.Rd
   ·obtain ⟨r, rfl⟩ := Md.is_rd hm; have := (hk2 r rfl).2; omega
   ·obtain ⟨s, rfl⟩ := Md.not_rd hm; have := hk1 s rfl; omega
  have HKw : Hid (¬ m.Rd → K = l.length) := fun hm => by obtain ⟨s, rfl⟩ := Md.not_rd hm; have := hk1 s rfl; omega
  have HK1 := Lib.hid hk1
  have HT1 := Lib.hid hT
  have HD1 := Lib.hid hD
  have HR1 : Hid (m1.Room ((l.map (Cd.cost (cdNum 4294967295))).sum + 0)) := hD.room HR.out
  clear hT hD hk1 hk2 HN HPW
  go_wp2_with fail
  go_loopw [9, 24] (fun sg si wr => ∃ (i : Nat) (g : List (Nat)) (v : Value) (m2 : Md) (b2 : Bool) (F2 : Nat → Prop), v = sg ∧ si = .int .i64 (i : Int) ∧ i ≤ K ∧ g.length = i ∧ Hid (wr.ownsRow w.heap.size 25 1 v i (kv (fun x : Nat => [.int .u32 (x : Int)]) g)) ∧ Hid (∀ k, v.ownBlock = some k → ¬ F2 k) ∧ Hid (PsTo w wr P m2 b2 F F2) ∧ Hid (Dns (cdNum 4294967295) l m1 b1 i g m2 b2)) (fun _ si _ => K - (intOf si).toNat)
  case atStart => exact ⟨0, [], .slice none 0 0, m1, b1, F1, rfl, rfl, Nat.zero_le _, rfl, World.ownsRow_nil _ _ _ _, fun k hk => by simp [Value.ownBlock] at hk, HT1, Dns.start _ _ _ _⟩
  case round =>
   obtain ⟨i, g, v, m2, b2, F2, rfl, rfl, hi, hg, HO, HNF, HT, HDs⟩ := hrel
   have hT2 := HT.out
   by_cases hlt : i < K
   ·have hkz : (i : Int) < K := by omega
    have HIn : Hid (¬ m1.Rd → i < l.length) := fun hm => by have := HKw.out (fun q => hm (HD1.out.mode.2 q)); omega
    by_cases hil : i < l.length
    ·have hiz : (i : Int) < l.length := by omega
     obtain ⟨x, hxi⟩ : ∃ x, l[i]? = some x := ⟨_, List.getElem?_eq_getElem hil⟩
     have hfx := HFit.out x (List.mem_of_getElem? hxi)
     obtain ⟨b0, off, rfl, _, hcc⟩ := Sl.kvG (n := 1) (fun _ => rfl) (by decide) (HX.out.step hT2).now hxi
     have e0 : wr.cell? ⟨b0, off + i, none⟩ = some (.int .u32 (x : Int)) := by have := hcc ⟨wr, Below.refl _ _⟩ 0 _ rfl; rwa [Nat.mul_one, Nat.add_zero] at this
     have HCC := Lib.hid (fun W2 (hW : Below wr.heap.size wr W2) => (pid_any P x hfx m2 b2 F2 W2 (hT2.at_.below hW) (by have := HDs.out.room_at (z := x) HR1.out HIn.out; first | (rw [hxi] at this; exact this) | (rw [hxn] at this; exact this))).mono fun e w' h => Tel.told h)
     clear hcc hT2
     go_wp2_with fail
     go_at_call 103
     refine (HCC.out _ (by first | exact Below.refl _ _ | exact (Below.refl _ _).alloc (Nat.le_refl _) _)).mono ?_
     rintro e w3 ⟨y, _, m3, b3, F3, rfl, hT3, _, hD3⟩
     have HO3 := Lib.hid (own_off (own_off HO.out (Off.of_below (by first | exact Below.refl _ _ | exact (Below.refl _ _).alloc (Nat.le_refl _) _)) fun _ _ h => h) hT3.off HNF.out)
     have HT3 := Lib.hid (HT.out.trans (hT3.from_ (by first | exact Below.refl _ _ | exact (Below.refl _ _).alloc (Nat.le_refl _) _)))
     have HDs3 := Lib.hid (HDs.out.step (z := (0 : Nat)) (by rw [hxi]; exact hD3))
     have HNF3 := Lib.hid (fun k (hk : v.ownBlock = some k) => (⟨(hT3.from_ (w := wr) (by first | exact Below.refl _ _ | exact (Below.refl _ _).alloc (Nat.le_refl _) _)).not (HNF.out k hk) (HO.out.lt k hk).2, (HO.out.lt k hk).1⟩ : ¬ F3 k ∧ w.heap.size ≤ k))
     have hle3 := HT3.out.off.size
     have hn3 : ∀ k, w3.heap.size ≤ k → ¬ F3 k := fun k hk => HT3.out.at_.not hk
     clear hT3 hD3
     go_wp2_with (at_builtin; refine wpList_append_lies _ rfl _ _ _ rfl w.heap.size 25 i0 (.int .u32 0) 1 4 Tryz.underlying28 hi0 hq0 hq1 hq2 rfl (by decide) v i _ rfl (HO3.out.alloc _) ⟨w3.heap.size, 0, none⟩ 1 1 [.int .u32 (y : Int)] rfl rfl (World.news_of_block (fr := (0, 0)) (heap_alloc_new w3 _)) (by simp [Value.oneCell']) (by decide) (by unfold maxLen; omega) (by omega) (by simp; omega) (w3.heap.size + 1) (by simp) ?_)
     intro gg cap2 w4 hown hgr hat hlt4
     have HO4 := Lib.hid hown
     have HT4 := Lib.hid (HT3.out.grown hgr HNF3.out)
     have HNF4 : Hid (∀ k, (Value.slice (some ⟨gg, 0, none⟩) (i + 1) cap2).ownBlock = some k → ¬ F3 k) := fun k hk => by
      obtain rfl : gg = k := by simpa [Value.ownBlock] using hk
      exact hat.elim (fun e => (HNF3.out gg e).1) fun e => hn3 gg (by omega)
     clear hown hgr hat
     go_wp2_with fail
     go_roundw
     case rel =>
      refine ⟨i + 1, g ++ [y], _, m3, b3, F3, rfl, by go_num, by omega, by rw [List.length_append, hg]; rfl, ?_, HNF4, HT4, HDs3⟩
      show World.ownsRow _ _ _ _ _ _ _
      rw [kv_snoc]; exact HO4.out
     case measure => simp [intOf]; omega
    ·have hiz : ¬ (i : Int) < l.length := by omega
     have hxn : l[i]? = none := List.getElem?_eq_none (by omega)
     obtain ⟨x, hxz⟩ : ∃ x : Nat, x = (0 : Nat) := ⟨_, rfl⟩
     have hfx : U32 x := by rw [hxz]; show (0 : Nat) < 4294967296; decide
     have HCC := Lib.hid (fun W2 (hW : Below wr.heap.size wr W2) => (pid_any P x hfx m2 b2 F2 W2 (hT2.at_.below hW) (by have := HDs.out.room_at (z := x) HR1.out HIn.out; first | (rw [hxi] at this; exact this) | (rw [hxn] at this; exact this))).mono fun e w' h => Tel.told h)
     rw [hxz] at HCC
     clear hT2 hxz
     go_wp2_with fail
     go_at_call 103
     refine (HCC.out _ (by first | exact Below.refl _ _ | exact (Below.refl _ _).alloc (Nat.le_refl _) _)).mono ?_
     rintro e w3 ⟨y, _, m3, b3, F3, rfl, hT3, _, hD3⟩
     have HO3 := Lib.hid (own_off (own_off HO.out (Off.of_below (by first | exact Below.refl _ _ | exact (Below.refl _ _).alloc (Nat.le_refl _) _)) fun _ _ h => h) hT3.off HNF.out)
     have HT3 := Lib.hid (HT.out.trans (hT3.from_ (by first | exact Below.refl _ _ | exact (Below.refl _ _).alloc (Nat.le_refl _) _)))
     have HDs3 := Lib.hid (HDs.out.step (z := (0 : Nat)) (by rw [hxn]; exact hD3))
     have HNF3 := Lib.hid (fun k (hk : v.ownBlock = some k) => (⟨(hT3.from_ (w := wr) (by first | exact Below.refl _ _ | exact (Below.refl _ _).alloc (Nat.le_refl _) _)).not (HNF.out k hk) (HO.out.lt k hk).2, (HO.out.lt k hk).1⟩ : ¬ F3 k ∧ w.heap.size ≤ k))
     have hle3 := HT3.out.off.size
     have hn3 : ∀ k, w3.heap.size ≤ k → ¬ F3 k := fun k hk => HT3.out.at_.not hk
     clear hT3 hD3
     go_wp2_with (at_builtin; refine wpList_append_lies _ rfl _ _ _ rfl w.heap.size 25 i0 (.int .u32 0) 1 4 Tryz.underlying28 hi0 hq0 hq1 hq2 rfl (by decide) v i _ rfl (HO3.out.alloc _) ⟨w3.heap.size, 0, none⟩ 1 1 [.int .u32 (y : Int)] rfl rfl (World.news_of_block (fr := (0, 0)) (heap_alloc_new w3 _)) (by simp [Value.oneCell']) (by decide) (by unfold maxLen; omega) (by omega) (by simp; omega) (w3.heap.size + 1) (by simp) ?_)
     intro gg cap2 w4 hown hgr hat hlt4
     have HO4 := Lib.hid hown
     have HT4 := Lib.hid (HT3.out.grown hgr HNF3.out)
     have HNF4 : Hid (∀ k, (Value.slice (some ⟨gg, 0, none⟩) (i + 1) cap2).ownBlock = some k → ¬ F3 k) := fun k hk => by
      obtain rfl : gg = k := by simpa [Value.ownBlock] using hk
      exact hat.elim (fun e => (HNF3.out gg e).1) fun e => hn3 gg (by omega)
     clear hown hgr hat
     go_wp2_with fail
     go_roundw
     case rel =>
      refine ⟨i + 1, g ++ [y], _, m3, b3, F3, rfl, by go_num, by omega, by rw [List.length_append, hg]; rfl, ?_, HNF4, HT4, HDs3⟩
      show World.ownsRow _ _ _ _ _ _ _
      rw [kv_snoc]; exact HO4.out
     case measure => simp [intOf]; omega
   ·obtain rfl : K = i := by omega
    clear hT2
    go_wp2_with fail
    obtain ⟨Ar, cr, rfl, hsl⟩ := Sl.of_own HO.out
    go_ret
    refine ⟨g, (Ar, cr), m2, b2, F2, by show Ending.returned (.slice Ar K cr) = .returned (.slice Ar g.length cr); rw [hg], HT.out, fun V hV => ?_, ?_⟩
    ·obtain ⟨Ar', cr', q1, q2⟩ := Sl.of_own (own_off HO.out hV fun k hk hq => hq.elim (HNF.out k hk) fun q => by have := (HO.out.lt k hk).1; omega)
     simp only [Value.slice.injEq] at q1
     obtain ⟨rfl, -, rfl⟩ := q1
     rw [hg]; exact q2
    ·have := HDs.out
     exact Dns.row HD1.out HK1.out this hml
 ·have hmz : (most : Int) < l.length := by omega
  clear HN
  go_enter Tryz.func146, Tryz.ntmps146
  go_wp2_with fail
  go_ret
  obtain ⟨s, rfl⟩ := Md.not_rd (m := m) (fun hm => by have := HZ.out hm; subst this; simp at hml)
  exact ⟨[], (none, 0), _, _, F, rfl, HPW.out, fun V _ => Sl.none_ _, Dn.many hml [] _ s rfl b⟩
end Go.Proofs.YtdhinjbkfffpeaaGreat
end
