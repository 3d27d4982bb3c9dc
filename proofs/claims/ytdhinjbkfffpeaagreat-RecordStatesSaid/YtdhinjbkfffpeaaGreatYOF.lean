import Derived.Test.YtdhinjbkfffpeaaGreatYOE
import Derived.Test.YtdhinjbkfffpeaaGreatYOD
import Derived.Laws.BitsAll
/- The program's reader in memory; contracts of what is read. -/
section
namespace Go.Proofs.YtdhinjbkfffpeaaGreat
open Go.ChangeShapes Go.WideShapes Go.ChangeAt Go.RowKit Go.Joins Fr Pk
structure RdAt (w : World) (D : Nat) (r : Option (List UInt8)) (F : Nat → Prop) : Prop where
  ok : match r with
    | none => w.heap[D]? = some (.cells #[.slice none 0 0, .bool true] 202 (0, 0))
    | some l => ∃ A c, w.heap[D]? = some (.cells #[.slice A l.length c, .bool false] 202 (0, 0)) ∧ l.length ≤ c ∧ c ≤ maxLen ∧ (A = none → c = 0) ∧ BIn (fun k => F k ∧ k ≠ D) w A l
  fD : F D
  lt : ∀ k, F k → k < w.heap.size
def RdTo (w w' : World) (D : Nat) (r : Option (List UInt8)) (F : Nat → Prop) : Prop := RdAt w' D r F ∧ Off (fun k => k = D) w w'
section
variable {w w1 w2 w' : World} {D : Nat} {r r' : Option (List UInt8)} {F G : Nat → Prop}
theorem RdAt.off (h : RdAt w D r F) (ho : Off G w w') (hG : ∀ b, F b → ¬ G b) : RdAt w' D r F := by
  refine ⟨?_, h.fD, fun k hk => Nat.lt_of_lt_of_le (h.lt k hk) ho.size⟩
  have hok := h.ok
  cases r with
  | none => exact ho.heap hok (hG _ h.fD)
  | some l =>
    obtain ⟨A, c, h1, h2, h3, h4, h5⟩ := hok
    exact ⟨A, c, ho.heap h1 (hG _ h.fD), h2, h3, h4, h5.off ho fun b hb => hG _ hb.1⟩
theorem RdAt.below (h : RdAt w D r F) (hb : Below w.heap.size w w') : RdAt w' D r F := h.off (Off.of_below (F := fun _ => False) hb) fun _ _ h => h
theorem RdAt.self (h : RdAt w D r F) : RdTo w w D r F := ⟨h, .refl _ _⟩
theorem RdTo.trans {r1 : Option (List UInt8)} (h : RdTo w w1 D r1 F) (k : RdTo w1 w2 D r F) : RdTo w w2 D r F := ⟨k.1, h.2.trans' k.2⟩
theorem RdTo.toBelow {B : Nat} (h : RdTo w w' D r F) (hB : B ≤ w.heap.size) (hF : ∀ b, F b → B ≤ b) : Below B w w' := h.2.toBelow hB fun b e => by subst e; exact hF _ h.1.fD
theorem RdAt.spoilt (h : RdAt w D r F) : RdTo w ((w.setCell ⟨D, 0, none⟩ (.slice none 0 0)).setCell ⟨D, 1, none⟩ (.bool true)) D none F := by
  have o : Off (fun k => k = D) w ((w.setCell ⟨D, 0, none⟩ (.slice none 0 0)).setCell ⟨D, 1, none⟩ (.bool true)) := ((Off.refl (fun k => k = D) w).setCell (b := D) (.inl rfl) _).setCell (b := D) (.inl rfl) _
  refine ⟨⟨?_, h.fD, fun k hk => Nat.lt_of_lt_of_le (h.lt k hk) o.size⟩, o⟩
  have hok := h.ok
  cases r with
  | none => exact block_setCell (block_setCell hok _) _
  | some l =>
    obtain ⟨A, c, h1, _⟩ := hok
    exact block_setCell (block_setCell h1 _) _
theorem RdAt.read {l : List UInt8} {A2 : Option Addr} {k c2 : Nat} (h : RdAt w D (some l) F) (_hk : k ≤ l.length) (hle : l.length - k ≤ c2) (hc : c2 ≤ maxLen) (hz : A2 = none → c2 = 0) (hb : BAt w A2 (l.drop k)) (hF : 0 < (l.drop k).length → ∀ a, A2 = some a → F a.block ∧ a.block ≠ D) :
    RdTo w (w.setCell ⟨D, 0, none⟩ (.slice A2 (l.length - k) c2)) D (some (l.drop k)) F := by
  have o : Off (fun k => k = D) w (w.setCell ⟨D, 0, none⟩ (.slice A2 (l.length - k) c2)) := (Off.refl (fun k => k = D) w).setCell (b := D) (.inl rfl) _
  obtain ⟨A, c, h1, _⟩ := h.ok
  refine ⟨⟨⟨A2, c2, ?_, by simpa using hle, hc, hz, BIn.off (F := fun k => k = D) ⟨hb, fun hn a ha => hF hn a ha⟩ o fun b hb e => hb.2 e⟩, h.fD, fun k hk => Nat.lt_of_lt_of_le (h.lt k hk) o.size⟩, o⟩
  rw [List.length_drop]
  exact block_setCell h1 _
theorem RdAt.cells (h : RdAt w D r F) : ∃ x, w.cell? ⟨D, 0, none⟩ = some x ∧ w.cell? ⟨D, 1, none⟩ = some (.bool r.isNone) ∧ ∀ i, w.frozen? ⟨D, i, none⟩ = false := by
  have hok := h.ok
  cases r with
  | none => exact ⟨_, by simp [World.cell?, hok]; rfl, by simp [World.cell?, hok], fun i => by simp [World.frozen?, hok]⟩
  | some l =>
    obtain ⟨A, c, h1, _⟩ := hok
    exact ⟨_, by simp [World.cell?, h1]; rfl, by simp [World.cell?, h1], fun i => by simp [World.frozen?, h1]⟩
theorem BIn.cut (ik : IntKind) {P : Program} {K : Nat → Prop} {A : Option Addr} {l : List UInt8} (h : BIn K w A l) {ca k : Nat} (hk : k ≤ l.length) (hl : l.length ≤ ca) (hz : A = none → ca = 0) {t : TypeId} (ht : P.underlying t = some (.slice (P.elem t))) (hs : ∀ w' : World, (sizeOf (P.elem t)).run P w' = .ok 1 w') :
    ∃ A1 A2 : Option Addr, (∀ w' : World, (Instr.sliceAt t (.slice A l.length ca) none (some (.int ik k)) none).run P w' = .ok (.slice A1 k ca) w') ∧
      (∀ w' : World, (Instr.sliceAt t (.slice A l.length ca) (some (.int ik k)) none none).run P w' = .ok (.slice A2 (l.length - k) (ca - k)) w') ∧ BAt w A1 (l.take k) ∧ BIn K w A2 (l.drop k) ∧ (A2 = none → ca - k = 0) ∧ (A1 = none → ca = 0) := by
  refine ⟨if ca = 0 then A else A.map (·.add (0 * 1)), if ca = k then A else A.map (·.add (k * 1)), fun w' => ?_, fun w' => ?_, ?_, ⟨?_, ?_⟩, ?_, ?_⟩
  · rw [run_sliceAt_slice w' t _ _ _ _ ht, run_slice_h w' t A l.length ca ht ik k (by omega) (by omega), hs]
    simp [Result.andThen, sliced]
  · rw [run_sliceAt_slice w' t _ _ _ _ ht, run_slice_l w' t A l.length ca ht ik k (by omega) (by omega), hs]
    simp [Result.andThen, sliced]
  · intro hn
    have hk0 : 0 < k := by simp at hn; omega
    obtain ⟨b, off, rfl, hlt, hc⟩ := h.1 (by omega)
    refine ⟨b, off, by rw [if_neg (by omega)]; simp [Addr.add], hlt, fun i c hi => hc i c ?_⟩
    rw [List.getElem?_take] at hi
    split at hi
    · exact hi
    · cases hi
  · intro hn
    have hk0 : k < l.length := by simp at hn; omega
    obtain ⟨b, off, rfl, hlt, hc⟩ := h.1 (by omega)
    refine ⟨b, off + k, by rw [if_neg (by omega)]; unfold Addr.add; by_cases h0 : k = 0 <;> simp [h0], hlt, fun i c hi => ?_⟩
    rw [Nat.add_assoc]
    exact hc (k + i) c (by rw [List.getElem?_drop] at hi; exact hi)
  · intro hn a ha
    have hk0 : k < l.length := by simp at hn; omega
    obtain ⟨b, off, rfl, hlt, hc⟩ := h.1 (by omega)
    have hb := h.2 (by omega) _ rfl
    rw [if_neg (by omega)] at ha
    have : a.block = b := by rw [← Option.some.inj ha]; unfold Addr.add; split <;> rfl
    rw [this]; exact hb
  · intro he
    split at he
    · omega
    · have := hz (by simpa using he); omega
  · intro he
    split at he
    · assumption
    · exact hz (by simpa using he)
end
theorem rd_new (A : Option Addr) (c : Nat) (l : List UInt8) (hl : l.length ≤ c) (hc : c ≤ maxLen) (hn : A = none → c = 0) (hb : l.length ≤ 140737488355328) (w : World) (h : BAt w A l) :
    Calls Tryz.prog 75 #[.slice A l.length c] w fun e w' => ∃ D F, e = .returned (.pointer (some ⟨D, 0, none⟩)) ∧ RdAt w' D (some l) F ∧ Below w.heap.size w w' ∧ ∀ b, F b → w.heap.size ≤ b := by
  have HC := Lib.hid (clone_any A c l hl hc hn hb w h)
  clear h
  go_enter Tryz.func75, Tryz.ntmps75
  go_wp2_with fail
  go_at_call 109
  refine HC.out.mono ?_
  rintro e w1 hR
  obtain ⟨A1, c1, rfl, hf⟩ := hR.fresh
  have HF := Lib.hid hf
  clear hf hR
  go_wp2_with fail
  go_ret
  have hb1 : Below w1.heap.size w1 (w1.alloc (.cells #[.slice A1 l.length c1, .bool false] 202)) := (Below.refl _ w1).alloc (Nat.le_refl _) _
  refine ⟨w1.heap.size, fun k => w.heap.size ≤ k ∧ k < w1.heap.size + 1, rfl, ⟨⟨A1, c1, heap_alloc_new w1 _, HF.out.le, HF.out.cap, HF.out.nil, ?_⟩, ⟨HF.out.below.size, by omega⟩, fun k hk => by simp; omega⟩, HF.out.below.trans (hb1.mono HF.out.below.size), fun b hb => hb.1⟩
  refine ⟨HF.out.at_.1.below hb1 (Nat.le_refl _), fun h0 a ha => ?_⟩
  obtain ⟨b, off, e, hlt, _⟩ := HF.out.at_.1 h0
  have h2 := HF.out.at_.2 h0 a ha
  rw [e] at ha
  obtain rfl := Option.some.inj ha
  exact ⟨⟨h2, Nat.lt_succ_of_lt hlt⟩, Nat.ne_of_lt hlt⟩
theorem rd_bad (D : Nat) (r : Option (List UInt8)) (F : Nat → Prop) (w : World) (h : RdAt w D r F) :
    Calls Tryz.prog 125 #[.pointer (some ⟨D, 0, none⟩)] w fun e w' => e = .returned (.bool r.isNone) ∧ w = w' := by
  obtain ⟨x, c0, c1, hf⟩ := h.cells
  generalize r.isNone = b at *
  clear h
  go_enter Tryz.func125, Tryz.ntmps125
  go_wp2
  go_ret
  exact ⟨rfl, rfl⟩
theorem rd_spoil (D : Nat) (r : Option (List UInt8)) (F : Nat → Prop) (w : World) (h : RdAt w D r F) :
    Calls Tryz.prog 152 #[.pointer (some ⟨D, 0, none⟩)] w fun e w' => e = .returned (.tuple #[]) ∧ RdTo w w' D none F := by
  obtain ⟨x, c0, c1, hf⟩ := h.cells
  have H := Lib.hid h.spoilt
  generalize r.isNone = b at *
  clear h
  go_enter Tryz.func152, Tryz.ntmps152
  go_wp2
  first | go_end0 | refine bodyPost_ret (results_none rfl _ _ _) rfl ?_
  exact ⟨rfl, H.out⟩
theorem rd_end (D : Nat) (r : Option (List UInt8)) (F : Nat → Prop) (w : World) (h : RdAt w D r F) :
    Calls Tryz.prog 76 #[.pointer (some ⟨D, 0, none⟩)] w fun e w' => e = .returned (.bool (decide (r = some []))) ∧ w = w' := by
  have HB := Lib.hid (rd_bad D r F w h)
  cases r with
  | none =>
    clear h
    go_enter Tryz.func76, Tryz.ntmps76
    go_wp2_with fail
    go_at_call 125
    refine HB.out.mono ?_
    rintro e w' ⟨rfl, rfl⟩
    go_wp2_with fail
    go_ret
    exact ⟨rfl, rfl⟩
  | some l =>
    obtain ⟨A, c, h1, h2, h3, h4, h5⟩ := h.ok
    have c0 : w.cell? ⟨D, 0, none⟩ = some (.slice A l.length c) := by simp [World.cell?, h1]
    clear h h1 h5
    go_enter Tryz.func76, Tryz.ntmps76
    go_wp2_with fail
    go_at_call 125
    refine HB.out.mono ?_
    rintro e w' ⟨rfl, rfl⟩
    go_wp2_with fail
    go_ret
    exact ⟨ret_bool (by cases l <;> simp <;> omega), rfl⟩
theorem or_shift {a c i : Nat} (ha : a < 128 ^ i) (hi : i ≤ 9) (hc : c < 128) (h9 : i = 9 → c ≤ 1) :
    bits .or .u64 (a : Int) (IntKind.u64.wrap ((c : Int) * 2 ^ (7 * i))) = ((a + 128 ^ i * c : Nat) : Int) := by
  have hp : (128 : Nat) ^ i = 2 ^ (7 * i) := by rw [Nat.pow_mul]
  have hlt : c * 2 ^ (7 * i) < 18446744073709551616 := by
    by_cases h : i = 9
    · have := h9 h; subst h; omega
    · have hm : 2 ^ (7 * i) ≤ 2 ^ 56 := Nat.pow_le_pow_right (by omega) (by omega)
      have := Nat.mul_le_mul (show c ≤ 127 by omega) hm
      omega
  have ha2 : a < 18446744073709551616 := Nat.lt_of_lt_of_le ha (by rw [hp]; exact Nat.le_trans (Nat.pow_le_pow_right (by omega) (show 7 * i ≤ 63 by omega)) (by decide))
  have e1 : IntKind.u64.wrap ((c : Int) * 2 ^ (7 * i)) = ((c * 2 ^ (7 * i) : Nat) : Int) := by
    have : ((c : Int) * 2 ^ (7 * i)) = ((c * 2 ^ (7 * i) : Nat) : Int) := by simp
    rw [this, IntKind.wrap_u64]; omega
  rw [e1, u64_or_nat a _ ha2 hlt]
  rw [hp] at ha ⊢
  rw [Nat.mul_comm c, Nat.or_comm, ← Nat.two_pow_add_eq_or_of_lt ha, Nat.add_comm]
set_option maxRecDepth 100000 in
set_option maxHeartbeats 2000000 in
theorem rd_first (A : Option Addr) (c : Nat) (l : List UInt8) (hl : l.length ≤ 9223372036854775807) (w : World) (h : BAt w A l) :
    Calls Tryz.prog 151 #[.slice A l.length c] w fun e w' => w = w' ∧ ((firstT l = none ∧ e = .returned (.tuple #[.int .u64 0, .int .i64 0])) ∨ ∃ n k : Nat, firstT l = some (n, l.drop k) ∧ 0 < k ∧ k ≤ l.length ∧ e = .returned (.tuple #[.int .u64 n, .int .i64 k])) := by
  have H := Lib.hid h
  clear h
  go_enter Tryz.func151, Tryz.ntmps151
  go_wp2_with fail
  go_loop [4, 9] (fun s4 s9 => ∃ i : Nat, i ≤ 9 ∧ i ≤ l.length ∧ s4 = .int .u64 (valT (l.take i) : Nat) ∧ s9 = .int .i64 i ∧ Hid (Great (l.take i))) (fun _ s9 => l.length - (intOf s9).toNat)
  case atStart => exact ⟨0, Nat.zero_le _, Nat.zero_le _, rfl, rfl, Great.nil⟩
  case round =>
    obtain ⟨i, hi9, hi, rfl, rfl, HG⟩ := hrel
    by_cases hlt : i < l.length
    · have hiz : (i : Int) < l.length := by omega
      obtain ⟨b, off, rfl, hbs, hc⟩ := H.out.at_ hlt
      have hcl := (l[i]).toNat_lt
      have hsp : Hid (l = l.take i ++ l[i] :: l.drop (i + 1)) := by show _ = _; rw [← List.drop_eq_getElem_cons hlt, List.take_append_drop]
      have htl : (l.take i).length = i := by simp; omega
      have hw7 : IntKind.i64.wrap (7 * (i : Int)) = 7 * i := by rw [IntKind.wrap_i64]; omega
      have hw1 : IntKind.i64.wrap ((i : Int) + 1) = i + 1 := by rw [IntKind.wrap_i64]; omega
      have hsn : Hid (l.take (i + 1) = l.take i ++ [l[i]]) := by show _ = _; rw [List.take_add_one, List.getElem?_eq_getElem hlt]; rfl
      have hvl := valT_lt (l.take i)
      rw [htl] at hvl
      generalize l[i] = ch at *
      have hcu : Hid (ch.toNat < 256) := hcl
      obtain ⟨x, hx⟩ : ∃ x, ch.toNat = x := ⟨_, rfl⟩
      rw [hx] at hc hcl
      have em : (x : Int).tmod 128 = (x : Int) % 128 := Int.tmod_eq_emod_of_nonneg (by omega)
      have hw64 : IntKind.u64.wrap ((x : Int) % 128) = (x : Int) % 128 := by rw [IntKind.wrap_u64]; omega
      obtain ⟨v, hv⟩ : ∃ v, valT (l.take i) = v := ⟨_, rfl⟩
      rw [hv] at hvl ⊢
      have HV : Hid (valT (l.take i) = v) := hv
      have HX : Hid (ch.toNat = x) := hx
      have HTL := Lib.hid htl
      have HVL := Lib.hid hvl
      have HVS : Hid (valT (l.take i ++ [ch]) = v + 128 ^ i * (x % 128)) := by show _ = _; rw [valT_append, HV.out, htl, valT_cons, hx, valT_nil, Nat.mul_zero, Nat.add_zero]
      have HOR : Hid ((i = 9 → x ≤ 1) → bits .or .u64 (v : Int) (IntKind.u64.wrap ((x : Int) % 128 * 2 ^ (7 * i))) = ((v + 128 ^ i * (x % 128) : Nat) : Int)) := fun h9 => by
        have := or_shift hvl hi9 (c := x % 128) (Nat.mod_lt _ (by omega)) fun e => by have := h9 e; omega
        rwa [show ((x % 128 : Nat) : Int) = (x : Int) % 128 by omega] at this
      have HFT : Hid (x < 128 → (0 < i → x ≠ 0) → (i = 9 → x ≤ 1) → firstT l = some (v + 128 ^ i * (x % 128), l.drop (i + 1))) := fun h1 h2 h3 => by
        have F := first_told (t := l.drop (i + 1)) HG.out (by rw [htl]; exact hi9) (by rw [hx]; exact h1) (by rw [htl, hx]; exact h2) (by rw [htl, hx]; exact h3)
        rw [← hsp.out, HVS.out] at F
        exact F
      clear hv hx htl hvl hcu
      by_cases h10 : i = 9 ∧ 1 < x
      · obtain ⟨rfl, h1⟩ := h10
        have h1z : (1 : Int) < x := by omega
        go_wp2_with fail
        go_ret2
        exact ⟨rfl, .inl ⟨by rw [hsp.out]; exact first_ten HG.out HTL.out (by rw [HX.out]; exact h1), rfl⟩⟩
      · by_cases hn9 : i = 9
        · subst hn9
          have h1z : ¬ (1 : Int) < x := by omega
          have h2z : ¬ (128 : Int) ≤ x := by omega
          by_cases h0 : x = 0
          · subst h0
            go_wp2_with fail
            go_ret2
            exact ⟨rfl, .inl ⟨by rw [hsp.out]; exact first_zero HG.out (by rw [HTL.out]; omega) HX.out, rfl⟩⟩
          · have h3z : ¬ (x : Int) = 0 := by omega
            have h3b : ((x : Int) == 0) = false := by simpa using h3z
            go_wp2_with fail
            go_ret2
            refine ⟨rfl, .inr ⟨v + 128 ^ 9 * (x % 128), 10, HFT.out (by omega) (by omega) (by omega), by omega, by omega, ?_⟩⟩
            have := HOR.out (by omega)
            rw [show IntKind.u64.wrap ((x : Int) % 128 * 2 ^ (7 * 9)) = (x : Int) % 128 * 9223372036854775808 by rw [IntKind.wrap_u64]; omega] at this
            exact congrArg (fun y => Ending.returned (Value.tuple #[.int .u64 y, .int .i64 10])) this
        · have hnz : ¬ (i : Int) = 9 := by omega
          have hnb : ((i : Int) == 9) = false := by simpa using hnz
          by_cases hg : 128 ≤ x
          · have hgz : (128 : Int) ≤ x := by omega
            go_wp2_with fail
            go_round
            case rel => exact ⟨i + 1, by omega, by omega, by rw [HOR.out (by omega), hsn.out, HVS.out], by go_num, by show Great _; rw [hsn.out]; exact Great.snoc HG.out (by rw [HX.out]; exact hg)⟩
            case measure => simp [intOf]; omega
          · have hgz : ¬ (128 : Int) ≤ x := by omega
            by_cases h0 : x = 0
            · subst h0
              by_cases hi0 : 0 < i
              · have hi0z : (0 : Int) < i := by omega
                go_wp2_with fail
                go_ret2
                exact ⟨rfl, .inl ⟨by rw [hsp.out]; exact first_zero HG.out (by rw [HTL.out]; omega) HX.out, rfl⟩⟩
              · have hi0z : ¬ (0 : Int) < i := by omega
                go_wp2_with fail
                go_ret2
                refine ⟨rfl, .inr ⟨v + 128 ^ i * (0 % 128), i + 1, HFT.out (by omega) (by omega) (by omega), by omega, by omega, ?_⟩⟩
                have := HOR.out (by omega)
                rw [show IntKind.u64.wrap (((0 : Nat) : Int) % 128 * 2 ^ (7 * i)) = 0 by rw [show ((0 : Nat) : Int) % 128 * 2 ^ (7 * i) = 0 by simp]; rfl] at this
                exact congrArg (fun y => Ending.returned (Value.tuple #[.int .u64 y, .int .i64 ((i : Int) + 1)])) this
            · have h3z : ¬ (x : Int) = 0 := by omega
              have h3b : ((x : Int) == 0) = false := by simpa using h3z
              go_wp2_with fail
              go_ret2
              refine ⟨rfl, .inr ⟨v + 128 ^ i * (x % 128), i + 1, HFT.out (by omega) (by omega) (by omega), by omega, by omega, ?_⟩⟩
              exact congrArg (fun y => Ending.returned (Value.tuple #[.int .u64 y, .int .i64 ((i : Int) + 1)])) (HOR.out (by omega))
    · have hle : l.length = i := by omega
      subst hle
      go_wp2_with fail
      go_ret2
      exact ⟨rfl, .inl ⟨by have := HG.out; rw [List.take_of_length_le (Nat.le_refl _)] at this; exact first_none this, rfl⟩⟩
theorem rdNum_none (most : Nat) : rdNum most none = (0, none) := rfl
theorem rdNum_no {most : Nat} {l : List UInt8} (h : firstT l = none) : rdNum most (some l) = (0, none) := by simp only [rdNum, h]
theorem rdNum_yes {most n : Nat} {l r : List UInt8} (h : firstT l = some (n, r)) (hm : n ≤ most) : rdNum most (some l) = (n, some r) := by simp only [rdNum, h, if_pos hm]
theorem rdNum_over {most n : Nat} {l r : List UInt8} (h : firstT l = some (n, r)) (hm : ¬ n ≤ most) : rdNum most (some l) = (0, none) := by simp only [rdNum, h, if_neg hm]
set_option maxHeartbeats 1000000 in
theorem rd_number (D most : Nat) (_hm : most < 18446744073709551616) (r : Option (List UInt8)) (F : Nat → Prop) (w : World) (h : RdAt w D r F) :
    Calls Tryz.prog 113 #[.pointer (some ⟨D, 0, none⟩), .int .u64 most] w fun e w' => e = .returned (.int .u64 (rdNum most r).1) ∧ RdTo w w' D (rdNum most r).2 F := by
  have HB := Lib.hid (rd_bad D r F w h)
  cases r with
  | none =>
    rw [rdNum_none]
    have H := Lib.hid h
    clear h
    go_enter Tryz.func113, Tryz.ntmps113
    go_wp2_with fail
    go_at_call 125
    refine HB.out.mono ?_
    rintro e w' ⟨rfl, rfl⟩
    go_wp2_with fail
    go_ret
    exact ⟨rfl, H.out.self⟩
  | some l =>
    obtain ⟨A, c, h1, h2, h3, h4, h5⟩ := h.ok
    have c0 : w.cell? ⟨D, 0, none⟩ = some (.slice A l.length c) := by simp [World.cell?, h1]
    have cf : ∀ i, w.frozen? ⟨D, i, none⟩ = false := fun i => by simp [World.frozen?, h1]
    have HF := Lib.hid (rd_first A c l (by unfold maxLen at h3; omega) w h5.1)
    have HS := Lib.hid (rd_spoil D _ F w h)
    have H := Lib.hid h
    have HI := Lib.hid h5
    clear h h1 h5
    go_enter Tryz.func113, Tryz.ntmps113
    go_wp2_with fail
    go_at_call 125
    refine HB.out.mono ?_
    rintro e w' ⟨rfl, rfl⟩
    go_wp2_with fail
    go_at_call 151
    refine HF.out.mono ?_
    rintro e w' ⟨rfl, ⟨hno, rfl⟩ | ⟨n, k, hf, hk0, hkl, rfl⟩⟩
    · have HX := Lib.hid (rdNum_no (most := most) hno)
      clear hno HF
      go_wp2_with fail
      go_at_call 152
      refine HS.out.mono ?_
      rintro e w' ⟨rfl, hT⟩
      go_wp2_with fail
      go_ret
      rw [HX.out]
      exact ⟨rfl, hT⟩
    · have hkz : ¬ (k : Int) = 0 := by omega
      have hkb : ((k : Int) == 0) = false := by simpa using hkz
      by_cases ho : n ≤ most
      · have hoz : ¬ (most : Int) < n := by omega
        have HX := Lib.hid (rdNum_yes hf ho)
        obtain ⟨A1, A2, _, hc2, _, hb2, hz2, _⟩ := HI.out.cut .i64 (P := Tryz.prog) (t := 42) hkl h2 h4 (by kernel_rfl) (fun w' => by kernel_rfl)
        have HR := Lib.hid (H.out.read (A2 := A2) (c2 := c - k) hkl (by omega) (by omega) hz2 hb2.1 hb2.2)
        clear hb2 hf ho hk0
        go_wp2_with fail
        go_ret
        rw [HX.out]
        exact ⟨rfl, HR.out⟩
      · have hoz : (most : Int) < n := by omega
        have HX := Lib.hid (rdNum_over hf ho)
        clear hf HF hkl
        go_wp2_with fail
        go_at_call 152
        refine HS.out.mono ?_
        rintro e w' ⟨rfl, hT⟩
        go_wp2_with fail
        go_ret
        rw [HX.out]
        exact ⟨rfl, hT⟩
theorem rd_signed (D : Nat) (r : Option (List UInt8)) (F : Nat → Prop) (w : World) (h : RdAt w D r F) :
    Calls Tryz.prog 130 #[.pointer (some ⟨D, 0, none⟩)] w fun e w' => e = .returned (.int .i64 (rdSig r).1) ∧ RdTo w w' D (rdSig r).2 F := by
  have HN := Lib.hid (rd_number D 18446744073709551615 (by omega) r F w h)
  have hlt := rdNum_lt 18446744073709551615 r
  unfold rdSig
  generalize rdNum 18446744073709551615 r = q at *
  obtain ⟨n, q⟩ := q
  simp only at hlt HN ⊢
  obtain ⟨z, hz⟩ : ∃ z, zag n = z := ⟨_, rfl⟩
  rw [hz]
  unfold zag at hz
  clear h
  have em : (n : Int).tmod 2 = (n : Int) % 2 := Int.tmod_eq_emod_of_nonneg (by omega)
  have ed : (n : Int).tdiv 2 = (n : Int) / 2 := Int.tdiv_eq_ediv_of_nonneg (by omega)
  have e1 : IntKind.u64.wrap ((n : Int) / 2) = (n : Int) / 2 := by rw [IntKind.wrap_u64]; omega
  have e2 : IntKind.i64.wrap ((n : Int) / 2) = (n : Int) / 2 := by rw [IntKind.wrap_i64]; omega
  have e3 : IntKind.i64.wrap (-((n : Int) / 2)) = -((n : Int) / 2) := by rw [IntKind.wrap_i64]; omega
  have e4 : IntKind.i64.wrap (-((n : Int) / 2) - 1) = -((n : Int) / 2) - 1 := by rw [IntKind.wrap_i64]; omega
  by_cases h2 : n % 2 = 1
  · have hp : ¬ (n : Int) % 2 = 0 := by omega
    have hb : ((n : Int) % 2 == 0) = false := by simpa using hp
    rw [if_pos h2] at hz
    have HZ : Hid (-((n : Int) / 2) - 1 = z) := by show _ = _; rw [← hz]; omega
    clear h2 hz hlt
    go_enter Tryz.func130, Tryz.ntmps130
    go_wp2_with fail
    go_at_call 113
    refine HN.out.mono ?_
    rintro e w' ⟨rfl, hT⟩
    go_wp2_with fail
    go_ret
    exact ⟨ret_int HZ.out, hT⟩
  · have hp : (n : Int) % 2 = 0 := by omega
    rw [if_neg h2] at hz
    have HZ : Hid ((n : Int) / 2 = z) := by show _ = _; rw [← hz]; omega
    clear h2 hz hlt
    go_enter Tryz.func130, Tryz.ntmps130
    go_wp2_with fail
    go_at_call 113
    refine HN.out.mono ?_
    rintro e w' ⟨rfl, hT⟩
    go_wp2_with fail
    go_ret
    exact ⟨ret_int HZ.out, hT⟩
theorem rd_flag (D : Nat) (r : Option (List UInt8)) (F : Nat → Prop) (w : World) (h : RdAt w D r F) :
    Calls Tryz.prog 121 #[.pointer (some ⟨D, 0, none⟩)] w fun e w' => e = .returned (.bool (rdFlag r).1) ∧ RdTo w w' D (rdFlag r).2 F := by
  have HN := Lib.hid (rd_number D 1 (by omega) r F w h)
  unfold rdFlag
  generalize rdNum 1 r = q at *
  obtain ⟨n, q⟩ := q
  simp only at HN ⊢
  clear h
  go_enter Tryz.func121, Tryz.ntmps121
  go_wp2_with fail
  go_at_call 113
  refine HN.out.mono ?_
  rintro e w' ⟨rfl, hT⟩
  go_wp2_with fail
  go_ret
  exact ⟨ret_bool (by rw [Bool.eq_iff_iff]; simp; omega), hT⟩
end Go.Proofs.YtdhinjbkfffpeaaGreat
end
section
namespace Go.Proofs.YtdhinjbkfffpeaaGreat
open Go.ChangeShapes Go.WideShapes Go.ChangeAt Go.RowKit Go.Joins Fr Pk
end Go.Proofs.YtdhinjbkfffpeaaGreat
end
