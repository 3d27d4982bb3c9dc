/- The program's writer in memory; contracts of what is told to it. -/
import Derived.Test.YtldfemohnommoaaCB
import Derived.Test.YtldfemohnommoaaPMath2
import Derived.Lib.AppendStr
namespace Go.Proofs.Ytldfemohnommoaa
open Go.ChangeShapes Go.WideShapes Go.ChangeAt Go.RowKit Go.Joins Fr Pk

theorem strCells_bl (s : ByteArray) : Lib.strCells s = bl s.data.toList := rfl
/-- A text is appended to a row of the call's own: where the new row lies. -/
theorem append_text_at {P : Program} (w : World) (base : Nat) (t u ty e : TypeId) (i : TypeInfo) (ht : P.underlying t = some (.slice e)) (hu : P.underlying u = some .string) (hi : P.info? e = some i) (hz : i.zero = some (.int .u8 0)) (hsize : i.size = 1) (hby : i.bytes = 1)
    (v : Value) (n : Nat) (xs : List Value) (hown : w.ownsRow base e 1 v n xs) (s : ByteArray) (h63 : n + s.size ≤ maxLen) (hbytes : n + s.size ≤ 140737488355328) (hbase : base ≤ w.heap.size) {v' : Value} {w' : World}
    (hr : (Builtin.append_ #[t, u] ty #[v, .string s]).run P w = .ok v' w') : v'.ownBlock = v.ownBlock ∨ v'.ownBlock = some w.heap.size := by
  have hsm : n + s.size ≤ 9223372036854775807 := by unfold maxLen at h63; omega
  have hxl : xs.length = n := by simpa using hown.1
  rcases hown.2 with ⟨rfl, rfl⟩ | ⟨g, cap, cur, rfl, hbg, hg, hnc, hcm, hcs, htake⟩
  · by_cases hm : s.size = 0
    · obtain ⟨v2, w2, hr2, _, _, h4⟩ := Lib.run_append_own_string (P := P) w base t u ty e i ht hu hi hz hsize hby _ _ xs hown s h63 hbytes hbase
      rw [hr] at hr2
      injection hr2 with h1 _
      left; rw [h1, h4.2 ⟨rfl, hm⟩]
    · have hr2 := run_append_nil_string (P := P) w t u ty e i (.int .u8 0) ht hu hi hz s (by omega) (by omega) (by rw [hby]; omega)
      rw [hr] at hr2
      injection hr2 with h1 _
      right; rw [h1]; rfl
  · by_cases hroom : n + s.size ≤ cap
    · have hr2 := Lib.run_append_room_string (P := P) w t u ty e i ht hu hi hsize g n cap cur hg s hroom (by rw [hcs]; omega)
      rw [hr] at hr2
      injection hr2 with h1 _
      left; rw [h1]; rfl
    · have hr2 := Lib.run_append_grow_string (P := P) w t u ty e i (.int .u8 0) ht hu hi hz ⟨g, 0, none⟩ n cap xs (by rw [hsize]; simpa using hxl) (hown.cells (g := g) rfl) s (by omega) (by omega) (by rw [hby]; exact growslice_fits (by omega) (by omega))
      rw [hr] at hr2
      injection hr2 with h1 _
      right; rw [h1]; rfl
theorem wpList_text_at {P : Program} {w : World} {ops : Array Oper} {rest : List Oper} {o : Oper} {a : Act} {Q : Exit → Act → World → Prop} (hgd : o.guard = none) (sl x : Operand) (t u : TypeId)
    (ho : o.op = .call { callee := .builtin .append, args := #[sl, x], argTypes := #[t, u] })
    (base : Nat) (e : TypeId) (i : TypeInfo) (ht : P.underlying t = some (.slice e)) (hu : P.underlying u = some .string) (hi : P.info? e = some i) (hz : i.zero = some (.int .u8 0))
    (hsize : i.size = 1) (hby : i.bytes = 1) (v : Value) (n : Nat) (xs : List Value) (hs : a.eval sl = v) (hown : w.ownsRow base e 1 v n xs) (s : ByteArray) (hx : a.eval x = .string s)
    (h63 : n + s.size ≤ maxLen) (hbytes : n + s.size ≤ 140737488355328) (hbase : base ≤ w.heap.size)
    (h : ∀ v' w', w'.ownsRow base e 1 v' (n + s.size) (xs ++ Lib.strCells s) → w.grownBy w' v.ownBlock → (v'.ownBlock = v.ownBlock ∨ v'.ownBlock = some w.heap.size) → wpList P ops Q rest (a.put o.dst v') w') : wpList P ops Q (o :: rest) a w := by
  refine wpList_plain hgd fun K hK => ?_
  obtain ⟨v', w', hr, h2, h3, _⟩ := Lib.run_append_own_string (P := P) w base t u o.type e i ht hu hi hz hsize hby v n xs hown s h63 hbytes hbase
  have h5 := append_text_at w base t u o.type e i ht hu hi hz hsize hby v n xs hown s h63 hbytes hbase hr
  unfold Oper.wp execOp
  simp only [ho, resolve, invoke, builtin, Sem.run_bind, Sem.run_pure, Result.andThen_ok, List.map_toArray, List.map_cons, List.map_nil, hs, hx, hr]
  exact hK _ _ (h v' w' h2 h3 h5)

structure WrIn (w : World) (D : Nat) (v : Value) (l : List UInt8) (F : Nat → Prop) : Prop where
  blk : w.heap[D]? = some (.cells #[v] 51 (0, 0))
  own : w.ownsRow 0 5 1 v l.length (bl l)
  ne : v.ownBlock ≠ some D
  fD : F D
  fv : ∀ k, v.ownBlock = some k → F k
  lt : ∀ k, F k → k < w.heap.size
/-- A writer at a place; what it reaches lies in a set. -/
def WrAt (w : World) (D : Nat) (l : List UInt8) (F : Nat → Prop) : Prop := ∃ v, WrIn w D v l F
def WrTo (w w' : World) (D : Nat) (l : List UInt8) (F : Nat → Prop) : Prop := ∃ F', WrAt w' D l F' ∧ Off F w w' ∧ ∀ k, F' k → F k ∨ w.heap.size ≤ k
section
variable {w w1 w2 w' : World} {D : Nat} {v v' : Value} {l l' : List UInt8} {F F1 G : Nat → Prop}
theorem WrIn.cell (h : WrIn w D v l F) : w.cell? ⟨D, 0, none⟩ = some v := by have hb := h.blk; simp [World.cell?, hb]
theorem WrIn.free (h : WrIn w D v l F) (i : Nat) : w.frozen? ⟨D, i, none⟩ = false := by have hb := h.blk; simp [World.frozen?, hb]
theorem WrIn.off (h : WrIn w D v l F) (ho : Off G w w') (hG : ∀ b, F b → ¬ G b) : WrIn w' D v l F :=
  ⟨ho.heap h.blk (hG _ h.fD), own_off h.own ho fun k hk => hG _ (h.fv k hk), h.ne, h.fD, h.fv, fun k hk => Nat.lt_of_lt_of_le (h.lt k hk) ho.size⟩
theorem WrAt.off (h : WrAt w D l F) (ho : Off G w w') (hG : ∀ b, F b → ¬ G b) : WrAt w' D l F := by obtain ⟨v, h⟩ := h; exact ⟨v, h.off ho hG⟩
theorem WrAt.below (h : WrAt w D l F) (hb : Below w.heap.size w w') : WrAt w' D l F := h.off (Off.of_below (F := fun _ => False) hb) fun _ _ h => h
theorem WrAt.lt (h : WrAt w D l F) : ∀ k, F k → k < w.heap.size := by obtain ⟨v, h⟩ := h; exact h.lt
theorem WrAt.self (h : WrAt w D l F) : WrTo w w D l F := ⟨F, h, .refl _ _, fun _ hk => .inl hk⟩
theorem WrTo.step (o1 : Off F w w1) (i1 : ∀ k, F1 k → F k ∨ w.heap.size ≤ k) (h : WrTo w1 w2 D l F1) : WrTo w w2 D l F := by
  obtain ⟨F2, h2, o2, i2⟩ := h
  exact ⟨F2, h2, o1.trans o2 i1, fun b hb => (i2 b hb).elim (i1 b) fun hs => .inr (Nat.le_trans o1.size hs)⟩
theorem WrTo.trans (h : WrTo w w1 D l F) (k : ∀ F1, WrAt w1 D l F1 → WrTo w1 w2 D l' F1) : WrTo w w2 D l' F := by
  obtain ⟨F1, h1, o1, i1⟩ := h
  exact WrTo.step o1 i1 (k F1 h1)
/-- Its bytes are another row now. -/
theorem WrIn.set (h : WrIn w D v l F) (ho : Off (fun k => v.ownBlock = some k) w w2) (hown : w2.ownsRow 0 5 1 v' l'.length (bl l')) (hat : ∀ k, v'.ownBlock = some k → v.ownBlock = some k ∨ w.heap.size ≤ k) :
    WrTo w (w2.setCell ⟨D, 0, none⟩ v') D l' F := by
  have hD := heap_lt h.blk
  have neD : v'.ownBlock ≠ some D := fun e => (hat D e).elim h.ne fun h => by omega
  have o2 : Off (fun k => k = D) w2 (w2.setCell ⟨D, 0, none⟩ v') := (Off.refl (fun k => k = D) w2).setCell (b := D) (.inl rfl) _
  refine ⟨fun k => F k ∨ v'.ownBlock = some k, ⟨v', ?_, own_off hown o2 fun k hk e => neD (by rw [hk, e]), neD, .inl h.fD, fun k hk => .inr hk, fun k hk => ?_⟩, (ho.mono (G := F) fun k _ hk => h.fv k hk).setCell (b := D) (.inl h.fD) _, fun k hk => ?_⟩
  · have := block_setCell (ho.heap h.blk h.ne) (i := 0) v'
    simpa using this
  · rcases hk with hk | hk
    · exact Nat.lt_of_lt_of_le (h.lt k hk) (Nat.le_trans ho.size o2.size)
    · exact Nat.lt_of_lt_of_le (hown.lt k hk).2 o2.size
  · rcases hk with hk | hk
    · exact .inl hk
    · exact (hat k hk).elim (fun e => .inl (h.fv k e)) .inr
theorem WrIn.mid (h : WrIn w D v l F) (ho : Off (fun k => v.ownBlock = some k) w w2) : w2.cell? ⟨D, 0, none⟩ = some v ∧ w2.frozen? ⟨D, 0, none⟩ = false := by
  have hb := ho.heap h.blk h.ne
  exact ⟨by simp [World.cell?, hb], by simp [World.frozen?, hb]⟩
end

theorem wr_new (w : World) :
    Calls Try.prog 9 #[] w fun e w' => ∃ D F, e = .returned (.pointer (some ⟨D, 0, none⟩)) ∧ WrAt w' D [] F ∧ Below w.heap.size w w' ∧ ∀ b, F b → w.heap.size ≤ b := by
  go_enter Try.func9, Try.ntmps9
  go_wp2
  go_ret
  exact ⟨w.heap.size, fun k => k = w.heap.size, rfl, ⟨.slice none 0 0, heap_alloc_new w _, World.ownsRow_nil _ _ _ _, by simp [Value.ownBlock], rfl, fun k hk => by simp [Value.ownBlock] at hk, fun k hk => by simp; omega⟩, (Below.refl _ w).alloc (Nat.le_refl _) _, fun b hb => by omega⟩

theorem bl_snoc (l : List UInt8) (n : Nat) (hn : n < 256) (x : Int) (hx : x = n) : bl (l ++ [u8 n]) = bl l ++ [.int .u8 x] := by
  subst hx; rw [bl_app]; simp [bl, u8_nat hn]

set_option maxRecDepth 100000 in
set_option maxHeartbeats 1000000 in
theorem wr_number_any (D n : Nat) (hn : n < 18446744073709551616) (l : List UInt8) (F : Nat → Prop) (hl : l.length + 10 ≤ 140737488355328) (w : World) (h : WrAt w D l F) :
    Calls Try.prog 10 #[.pointer (some ⟨D, 0, none⟩), .int .u64 n] w fun e w' => e = .returned (.tuple #[]) ∧ WrTo w w' D (l ++ numT n) F := by
  obtain ⟨i0, hi0, hq0, hq1, hq2⟩ := info_parts u8_info
  have HL := Lib.hid (num_len10 hn)
  have H := Lib.hid h
  clear h
  go_enter Try.func10, Try.ntmps10
  go_wp2_with fail
  go_loopw [1] (fun s1 wr => ∃ (m : Nat) (p : List UInt8), m < 18446744073709551616 ∧ s1 = .int .u64 m ∧ Hid (numT n = p ++ numT m) ∧ Hid (WrTo w wr D (l ++ p) F)) (fun s1 _ => (intOf s1).toNat)
  case atStart => exact ⟨n, [], hn, rfl, rfl, by show WrTo _ _ _ _ _; rw [List.append_nil]; exact H.out.self⟩
  case round =>
    obtain ⟨m, p, hm, rfl, HN, HW⟩ := hrel
    obtain ⟨F1, ⟨v, hIn⟩, o1, i1⟩ := HW.out
    have hp1 : (l ++ p).length + 1 ≤ 140737488355328 := by
      have h1 := HL.out
      rw [HN.out] at h1
      have := List.length_pos_iff.2 (num_ne m)
      simp at h1 ⊢; omega
    have hmx : (l ++ p).length + 1 ≤ maxLen := by unfold maxLen; omega
    have hby : ((l ++ p).length + 1) * 1 ≤ 140737488355328 := by omega
    have hc := hIn.cell
    have HI := Lib.hid hIn
    have O1 := Lib.hid o1
    have I1 := Lib.hid i1
    clear hIn o1 i1
    by_cases hz : m < 128
    · have hzi : (m : Int) < 128 := by omega
      have e4 : IntKind.u8.wrap (m : Int) = m := by rw [IntKind.wrap_u8']; omega
      go_wp2_with (at_builtin; refine wpList_append_lies _ rfl _ _ _ rfl 0 5 i0 (.int .u8 0) 1 1 Try.underlying37 hi0 hq0 hq1 hq2 rfl (by decide) v (l ++ p).length _ rfl (HI.out.own.alloc _) ⟨wr.heap.size, 0, none⟩ 1 1 [.int .u8 _] rfl rfl (World.news_of_block (fr := (0, 0)) (heap_alloc_new wr _)) (by simp [Value.oneCell']) (by decide) hmx hby (by simp) (wr.heap.size + 1) (by simp) ?_)
      intro gg cap2 w3 hown hgr hat hlt
      have ho : Off (fun k => v.ownBlock = some k) wr w3 := ((Off.refl _ wr).alloc _).trans' (Off.of_grown hgr fun k hk => hk)
      obtain ⟨c3, f3⟩ := HI.out.mid ho
      have HO := Lib.hid ho
      have HOW : Hid (w3.ownsRow 0 5 1 (.slice (some ⟨gg, 0, none⟩) (l.length + p.length + 1) cap2) (l ++ p ++ [Fr.u8 m]).length (bl (l ++ p ++ [Fr.u8 m]))) := by
        show World.ownsRow _ _ _ _ _ _ _
        rw [bl_snoc _ m (by omega) _ rfl, show (l ++ p ++ [Fr.u8 m]).length = l.length + p.length + 1 by rw [List.length_append, List.length_append]; rfl]; exact hown
      have HAT := Lib.hid hat
      clear ho hown hgr hat
      go_wp2_with fail
      first | go_end0 | refine bodyPost_ret (results_none rfl _ _ _) rfl ?_
      refine ⟨rfl, ?_⟩
      rw [HN.out, num_small hz, ← List.append_assoc]
      exact WrTo.step O1.out I1.out (HI.out.set HO.out HOW.out fun k hk => by
        obtain rfl : gg = k := by simpa [Value.ownBlock] using hk
        exact HAT.out.imp id fun e => by omega)
    · have hzi : ¬ (m : Int) < 128 := by omega
      have hzj : (128 : Int) ≤ m := by omega
      have e1 : IntKind.u64.wrap ((m : Int) / 128) = (m : Int) / 128 := by rw [IntKind.wrap_u64]; omega
      have e2 : (m : Int).tmod 128 = (m : Int) % 128 := Int.tmod_eq_emod_of_nonneg (by omega)
      have e5 : (m : Int).tdiv 128 = (m : Int) / 128 := Int.tdiv_eq_ediv_of_nonneg (by omega)
      have e3 : IntKind.u64.wrap ((m : Int) % 128 + 128) = (m : Int) % 128 + 128 := by rw [IntKind.wrap_u64]; omega
      have e4 : IntKind.u8.wrap ((m : Int) % 128 + 128) = (m : Int) % 128 + 128 := by rw [IntKind.wrap_u8']; omega
      go_wp2_with (at_builtin; refine wpList_append_lies _ rfl _ _ _ rfl 0 5 i0 (.int .u8 0) 1 1 Try.underlying37 hi0 hq0 hq1 hq2 rfl (by decide) v (l ++ p).length _ rfl (HI.out.own.alloc _) ⟨wr.heap.size, 0, none⟩ 1 1 [.int .u8 _] rfl rfl (World.news_of_block (fr := (0, 0)) (heap_alloc_new wr _)) (by simp [Value.oneCell']) (by decide) hmx hby (by simp) (wr.heap.size + 1) (by simp) ?_)
      intro gg cap2 w3 hown hgr hat hlt
      have ho : Off (fun k => v.ownBlock = some k) wr w3 := ((Off.refl _ wr).alloc _).trans' (Off.of_grown hgr fun k hk => hk)
      obtain ⟨c3, f3⟩ := HI.out.mid ho
      have HO := Lib.hid ho
      have HOW : Hid (w3.ownsRow 0 5 1 (.slice (some ⟨gg, 0, none⟩) (l.length + p.length + 1) cap2) (l ++ p ++ [Fr.u8 (128 + m % 128)]).length (bl (l ++ p ++ [Fr.u8 (128 + m % 128)]))) := by
        show World.ownsRow _ _ _ _ _ _ _
        rw [bl_snoc _ (128 + m % 128) (by omega) ((m : Int) % 128 + 128) (by omega), show (l ++ p ++ [Fr.u8 (128 + m % 128)]).length = l.length + p.length + 1 by rw [List.length_append, List.length_append]; rfl]; exact hown
      have HAT := Lib.hid hat
      clear ho hown hgr hat
      go_wp2_with fail
      go_roundw
      case rel =>
        refine ⟨m / 128, p ++ [Fr.u8 (128 + m % 128)], by omega, by go_num, ?_, ?_⟩
        · show _ = _; rw [HN.out, num_great hz, List.append_assoc]; rfl
        · show WrTo _ _ _ _ _
          rw [← List.append_assoc]
          exact WrTo.step O1.out I1.out (HI.out.set HO.out HOW.out fun k hk => by
            obtain rfl : gg = k := by simpa [Value.ownBlock] using hk
            exact HAT.out.imp id fun e => by omega)
      case measure => simp [intOf]; omega
theorem wr_number_nil (n : Int) (w : World) :
    Calls Try.prog 10 #[.pointer none, .int .u64 n] w fun e w' => e = .returned (.tuple #[]) ∧ w = w' := by
  go_enter Try.func10, Try.ntmps10
  go_wp2
  first | go_end0 | refine bodyPost_ret (results_none rfl _ _ _) rfl ?_
  exact ⟨rfl, rfl⟩
end Go.Proofs.Ytldfemohnommoaa
