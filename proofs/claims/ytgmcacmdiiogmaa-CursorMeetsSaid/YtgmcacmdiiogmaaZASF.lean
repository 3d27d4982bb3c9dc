import Derived.Test.YtgmcacmdiiogmaaZMB
import Derived.Deep.AppendLies
import Derived.Laws.OwnMore
/- 'append' to a slice that is full: a new row is made; a slice cut to its first elements, with no room behind. No text of the program is read here. -/
section
namespace Go.Proofs.Ytgmcacmdiiogmaa
open Go.ChangeShapes Go.WideShapes Go.ChangeAt Go.RowKit

theorem add_zero13 (A : Option Addr) : A.map (·.add 0) = A := by
  cases A with
  | none => rfl
  | some a => obtain ⟨b, o, s⟩ := a; cases s <;> simp [Addr.add]
/-- 's[:j:j]'. -/
theorem full_cut {P : Program} {A : Option Addr} {n c j size : Nat} {t : TypeId} (hj : j ≤ n) (hc : n ≤ c) (ht : P.underlying t = some (.slice (P.elem t))) (hs : ∀ w' : World, (sizeOf (P.elem t)).run P w' = .ok size w') (w' : World) :
    (Instr.sliceAt t (.slice A n c) none (some (.int .i64 j)) (some (.int .i64 j))).run P w' = .ok (.slice A j j) w' := by
  rw [run_sliceAt_slice w' t _ _ _ _ ht, run_slice_hm w' t A n c ht .i64 .i64 j j (by omega) (by omega) (by omega), hs]
  simp only [Result.andThen, sliced, Int.toNat_natCast, Nat.zero_mul, Nat.sub_zero, add_zero13]
  split <;> rfl
theorem run_append_full {P : Program} (w : World) (t ty base e : TypeId) (i : TypeInfo) (z : Value) (size bytes : Nat) (ht : P.underlying t = some (.slice e)) (hi : P.info? e = some i) (hz : i.zero = some z)
    (hsize : i.size = size) (hby : i.bytes = bytes) (hzs : z.cells.size = size)
    (A : Option Addr) (n : Nat) (xs : List Value) (hsl : Sl w A n n xs) (hxl : xs.length = n * size) (a : Addr) (c : Nat) (news : List Value) (hl : news.length = size) (hnews : ∀ j u, news[j]? = some u → w.cell? (a.add j) = some u)
    (h63 : n + 1 ≤ maxLen) (hbytes : (n + 1) * bytes ≤ 140737488355328) (hbase : base ≤ w.heap.size) :
    ∃ cap w', (Builtin.append_ #[t, t] ty #[.slice A n n, .slice (some a) 1 c]).run P w = .ok (.slice (some ⟨w.heap.size, 0, none⟩) (n + 1) cap) w' ∧ w'.ownsRow base e size (.slice (some ⟨w.heap.size, 0, none⟩) (n + 1) cap) (n + 1) (xs ++ news) ∧ Below w.heap.size w w' := by
  have h64 : ((n + 1 : Nat) : Int) ≤ 9223372036854775807 := by unfold maxLen at h63; omega
  have hge : n + 1 ≤ grownCap w (n + 1) n e := grownCap_ge w _ _ _
  have hle : grownCap w (n + 1) n e ≤ maxLen := grownCap_le_maxLen w _ _ _ h63
  subst hsize hby
  cases A with
  | none =>
    obtain rfl : n = 0 := hsl.nil rfl
    obtain rfl : xs = [] := List.eq_nil_of_length_eq_zero (by simpa using hxl)
    have hr := run_append_nil (P := P) w t ty e i z ht hi hz a 1 c news (by simpa using hl) hnews (by omega) (by omega) (by omega)
    refine ⟨_, _, hr, ⟨by simp [hl], .inr ⟨w.heap.size, _, _, rfl, hbase, heap_alloc_new w.drew _, hge, hle, ?_, ?_⟩⟩, (Below.refl _ _).drew.alloc (Nat.le_refl _) _⟩
    · simp only [Array.size_append, List.size_toArray, size_zeroCells, hzs, hl]
      rw [show i.size + (grownCap w 1 0 e - 1) * i.size = (1 + (grownCap w 1 0 e - 1)) * i.size by rw [Nat.add_mul, Nat.one_mul]]
      simp only [Nat.zero_add] at hge ⊢
      congr 1; omega
    · simp only [Array.toList_append, List.nil_append]
      rw [List.take_append_of_le_length (by simp [hl]), List.take_of_length_le (by simp [hl])]
  | some b =>
    have holds : ∀ j v, xs[j]? = some v → w.cell? (b.add j) = some v := fun j u hu => by
      obtain ⟨b', off, e, _, hc⟩ := hsl.at_ hu
      obtain rfl := Option.some.inj e
      rw [show (⟨b', off, none⟩ : Addr).add j = ⟨b', off + j, none⟩ by unfold Addr.add; split <;> simp_all]
      exact hc
    have hr := run_append_grow (P := P) w t ty e i z ht hi hz b n n xs hxl holds a 1 c news (by simpa using hl) hnews (by omega) h64 (growslice_fits (by omega) hbytes)
    refine ⟨_, _, hr, ⟨by simp [hl, hxl, Nat.add_mul], .inr ⟨w.heap.size, _, _, rfl, hbase, heap_alloc_new w.drew _, hge, hle, ?_, ?_⟩⟩, (Below.refl _ _).drew.alloc (Nat.le_refl _) _⟩
    · simp only [Array.size_append, List.size_toArray, size_zeroCells, hzs, hl, hxl]
      rw [show n * i.size + i.size = (n + 1) * i.size by rw [Nat.add_mul, Nat.one_mul], ← Nat.add_mul]
      congr 1; omega
    · simp only [Array.toList_append]
      rw [List.take_append_of_le_length (by simp [hl, hxl, Nat.add_mul]), List.take_of_length_le (by simp [hl, hxl, Nat.add_mul])]
theorem step_append_full {P : Program} {w : World} {ops : Array Oper} {o : Oper} {a : Act} {K : Act → World → Prop} {Q : Exit → Act → World → Prop} {E : Prop} (hgd : o.guard = none) (s x : Operand) (t : TypeId)
    (ho : o.op = .call { callee := .builtin .append, args := #[s, x], argTypes := #[t, t] })
    (base : Nat) (e : TypeId) (i : TypeInfo) (z : Value) (size bytes : Nat) (ht : P.underlying t = some (.slice e)) (hi : P.info? e = some i) (hz : i.zero = some z)
    (hsize : i.size = size) (hby : i.bytes = bytes) (hzs : z.cells.size = size)
    (A : Option Addr) (n : Nat) (xs : List Value) (hs : a.eval s = .slice A n n) (hsl : Sl w A n n xs) (hxl : xs.length = n * size) (ad : Addr) (c : Nat) (news : List Value) (hx : a.eval x = .slice (some ad) 1 c) (hl : news.length = size) (hnews : ∀ j u, news[j]? = some u → w.cell? (ad.add j) = some u)
    (h63 : n + 1 ≤ maxLen) (hbytes : (n + 1) * bytes ≤ 140737488355328) (hbase : base ≤ w.heap.size)
    (h : ∀ cap w', w'.ownsRow base e size (.slice (some ⟨w.heap.size, 0, none⟩) (n + 1) cap) (n + 1) (xs ++ news) → Below w.heap.size w w' → K (a.put o.dst (.slice (some ⟨w.heap.size, 0, none⟩) (n + 1) cap)) w') :
    if Region.wanted o (yielded ops a.tmps) = true then Oper.wp P o a w K Q else E := by
  have hw : Region.wanted o (yielded ops a.tmps) = true := by simp [Region.wanted, hgd]
  rw [if_pos hw]
  obtain ⟨cap, w', hr, h2, h3⟩ := run_append_full (P := P) w t o.type base e i z size bytes ht hi hz hsize hby hzs A n xs hsl hxl ad c news hl hnews h63 hbytes hbase
  unfold Oper.wp execOp
  simp only [ho, resolve, invoke, builtin, Sem.run_bind, Sem.run_pure, Result.andThen_ok, List.map_toArray, List.map_cons, List.map_nil, hs, hx, hr]
  exact h cap w' h2 h3
end Go.Proofs.Ytgmcacmdiiogmaa
end
