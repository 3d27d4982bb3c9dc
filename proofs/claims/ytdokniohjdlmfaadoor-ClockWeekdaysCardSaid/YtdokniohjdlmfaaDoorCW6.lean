/- Contracts of the program's digits and texts of times. -/
import Derived.Test.YtdokniohjdlmfaaDoorRows
import Derived.Test.YtdokniohjdlmfaaDoorShelf
import Derived.Test.YtdokniohjdlmfaaDoorCMath5
import Derived.Test.YtdokniohjdlmfaaDoorKit3
import Derived.Test.YtdokniohjdlmfaaDoorW4
import Derived.Laws.RangeAny
import Derived.WalkSmall
namespace Go.Proofs.YtdokniohjdlmfaaDoor
open Go.ChangeShapes Go.WideShapes Go.ChangeAt Go.RowKit Ck

/-- What the library's variables hold. -/
structure Env (w : World) : Prop where
  ml : ∃ m, w.cell? ⟨1, 0, none⟩ = some (.int .i64 m)
  pow : Lib.TabIs Tryd.prog w "internal/strconv.uint64pow10" .u64 Lib.pow10Tab
theorem powAt : Tryd.prog.globalNamed "internal/strconv.uint64pow10" = some 2 := by kernel_rfl
theorem Env.below {w w' : World} (h : Env w) (hb : Below w.heap.size w w') : Env w' := by
  obtain ⟨m, hm⟩ := h.ml
  have hp := h.pow
  refine ⟨⟨m, cell_old hm hb⟩, ?_⟩
  have hc := Lib.TabIs.cell hp powAt 0 (by decide)
  exact var?_below hb powAt (World.block_lt_of_cell? _ _ hc) hp
theorem Env.gr {w : World} (h : Env w) (g : Gr w) : Env g.val := h.below g.ok

theorem below_grow6 (w : World) (k : Nat) (os : Array Obj) : Below w.heap.size w (Go.Sort.grow (w.drewN k) os) :=
  ⟨rfl, rfl, rfl, by show w.heap.size ≤ (w.heap ++ os).size; rw [Array.size_append]; omega, fun j hj => by show (w.heap ++ os)[j]? = w.heap[j]?; rw [Array.getElem?_append_left hj]⟩
theorem itoa_any (n : Int) (h0 : 0 ≤ n) (hn : n ≤ 1000000000) (w : World) (hE : Env w) :
    Calls Tryd.prog 41 #[.int .i64 n] w fun e w' => e = .returned (.string ⟨(Lib.itoa n).toArray⟩) ∧ Below w.heap.size w w' :=
  (Tryd.strconv_Itoa n (by omega) (by omega) w hE.pow).mono fun e w' ⟨he, k, os, hw⟩ => ⟨he, by rw [hw]; exact below_grow6 w k os⟩
theorem repeat_any (c : Nat) (hc : c ≤ 100) (w : World) :
    Calls Tryd.prog 42 #[.string ⟨#[48]⟩, .int .i64 c] w fun e w' => e = .returned (.string ⟨(Lib.repeatL [48] c).toArray⟩) ∧ Below w.heap.size w w' :=
  Tryd.strings_Repeat ⟨#[48]⟩ c w (by omega) (by show 1 * c ≤ _; omega)

theorem digits_any (n : Int) (d : Nat) (h0 : 0 ≤ n) (hd1 : 1 ≤ d) (hd : d ≤ 4) (hn : n < 10 ^ d) (w : World) (hE : Env w) :
    Calls Tryd.prog 26 #[.int .i64 n, .int .i64 d] w fun e w' => e = .returned (.string ⟨(low n d).toArray⟩) ∧ Below w.heap.size w w' := by
  obtain ⟨hl, hlow⟩ := itoa_low h0 hd1 hn
  have hp := pow4 (k := d) hd
  have HI := Lib.hid (fun w hE => itoa_any n h0 (by omega) w hE)
  have HE := Lib.hid hE
  rw [← hlow]
  generalize Lib.itoa n = t at *
  have HR := Lib.hid (fun w => repeat_any (d - t.length) (by omega) w)
  have hcast : ((d - t.length : Nat) : Int) = (d : Int) - t.length := by omega
  rw [hcast] at HR
  have h2 : (Lib.repeatL [48] (d - t.length)).length ≤ 4 := by rw [Lib.repeatL_length]; simp; omega
  generalize Lib.repeatL [48] (d - t.length) = u at *
  clear hp hlow hE hn
  go_enter Tryd.func26, Tryd.ntmps26
  go_wp2_with fail
  go_at_call 41
  refine (HI.out _ HE.out).mono ?_
  rintro e w' ⟨rfl, hb⟩
  obtain ⟨g, rfl⟩ := Gr.of hb
  clear hb
  go_wp2_with fail
  go_at_call 42
  refine (HR.out _).mono ?_
  rintro e w' ⟨rfl, hb⟩
  obtain ⟨g, rfl⟩ := g.on hb
  clear hb
  go_wp2
  go_ret
  exact ⟨congrArg (fun x => Ending.returned (Value.string x)) (ByteArray.mk_append_mk u t), g.ok⟩

theorem iter_below (w : World) (s : ByteArray) (p : Nat) : Below w.heap.size w (w.iter s p) := (Below.refl _ w).alloc (Nat.le_refl _) _
theorem drop_at6 (s : ByteArray) (k : Nat) (h : k < s.size) : s.data.toList.drop k = s[k] :: s.data.toList.drop (k + 1) := by
  rw [List.drop_eq_getElem_cons (by simpa using h)]; rfl
theorem ret_ib {a b : Int} {c d : Bool} (h : a = b ∧ c = d) : Ending.returned (.tuple #[.int .i64 a, .bool c]) = .returned (.tuple #[.int .i64 b, .bool d]) := by rw [h.1, h.2]

theorem readd_any (s : ByteArray) (d : Nat) (hd : d ≤ 4) (w : World) :
    Calls Tryd.prog 29 #[.string s, .int .i64 d] w fun e w' => e = .returned (.tuple #[.int .i64 (rdN s.data.toList d), .bool (rdB s.data.toList d)]) ∧ Below w.heap.size w w' := by
  obtain ⟨r, hr⟩ : ∃ r, rdN s.data.toList d = r := ⟨_, rfl⟩
  obtain ⟨b, hb⟩ : ∃ b, rdB s.data.toList d = b := ⟨_, rfl⟩
  rw [hr, hb]
  have HS := Lib.hid (fun h => rd_short (l := s.data.toList) (w := d) h)
  have HY := Lib.hid (fun h hv => rd_yes (l := s.data.toList) (w := d) h hv)
  have HN := Lib.hid (fun hv => rd_no (l := s.data.toList) (w := d) hv)
  have hlen : s.data.toList.length = s.size := by simp
  rw [hr, hb, hlen] at HS HY
  rw [hr, hb] at HN
  clear hr hb
  by_cases hs : s.size = d
  · have hsn : ((s.size : Int) != (d : Int)) = false := by simp; omega
    have hs4 : s.size ≤ 4 := by omega
    go_enter Tryd.func29, Tryd.ntmps29
    go_wp2
    go_loopw [6] (fun s6 wr => ∃ (k : Nat) (n : Int), wr = w.iter s k ∧ k ≤ s.size ∧ 0 ≤ n ∧ n < 10 ^ k ∧ s6 = .int .i64 n ∧ Hid (valFrom n (s.data.toList.drop k) = valI s.data.toList)) (fun _ wr => s.size - wr.iterPos w.heap.size)
    case atStart => exact ⟨0, 0, rfl, Nat.zero_le _, by omega, by simp, rfl, rfl⟩
    case round =>
      obtain ⟨k, n, rfl, hk, hn0, hn1, rfl, HV⟩ := hrel
      have P4 := pow4 (k := k) (by omega)
      have PS : Hid ((10 : Int) ^ (k + 1) = 10 ^ k * 10) := Int.pow_succ 10 k
      generalize (10 : Int) ^ k = q at *
      by_cases hlt : k < s.size
      · have hdr := drop_at6 s k hlt
        have HD : Hid (valFrom n (s.data.toList.drop k) = if 48 ≤ s[k].toNat ∧ s[k].toNat ≤ 57 then valFrom (10 * n + s[k].toNat - 48) (s.data.toList.drop (k + 1)) else -1) := by show _ = _; rw [hdr]; rfl
        clear hdr
        have b0 := s[k].toNat_lt
        by_cases ha : s[k].toNat < 128
        · have hnx : ∀ ty, (Instr.next (.pointer (some ⟨w.heap.size, 0, none⟩)) true ty).run Tryd.prog (w.iter s k) = _ := fun ty => run_next_ascii w s k ty hlt ha
          by_cases h1 : (s[k].toNat : Int) < 48
          · have E : Hid (r = 0 ∧ b = false) := HN.out (by rw [← HV.out, HD.out, if_neg (by omega)])
            go_wp2
            go_ret2
            exact ⟨ret_ib ⟨by rw [E.out.1], by rw [E.out.2]⟩, iter_below _ _ _⟩
          · by_cases h2 : (57 : Int) < s[k].toNat
            · have E : Hid (r = 0 ∧ b = false) := HN.out (by rw [← HV.out, HD.out, if_neg (by omega)])
              go_wp2
              go_ret2
              exact ⟨ret_ib ⟨by rw [E.out.1], by rw [E.out.2]⟩, iter_below _ _ _⟩
            · have E : Hid (valFrom (10 * n + s[k].toNat - 48) (s.data.toList.drop (k + 1)) = valI s.data.toList) := by show _ = _; rw [← HV.out, HD.out, if_pos (by omega)]
              go_wp2
              go_roundw
              case rel => exact ⟨k + 1, 10 * n + s[k].toNat - 48, rfl, hlt, by omega, by rw [PS.out]; omega, by go_num, E⟩
              case measure => simp; omega
        · have hnx : ∀ ty, (Instr.next (.pointer (some ⟨w.heap.size, 0, none⟩)) true ty).run Tryd.prog (w.iter s k) = _ := fun ty => run_next_any w s k ty hlt
          have hh := (decode_high s k hlt (by omega)).1
          have hx : (57 : Int) < ((Utf8.decode s k).1 : Int) := by omega
          have hy : (48 : Int) ≤ ((Utf8.decode s k).1 : Int) := by omega
          have E : Hid (r = 0 ∧ b = false) := HN.out (by rw [← HV.out, HD.out, if_neg (by omega)])
          generalize Utf8.decode s k = dc at *
          go_wp2
          go_ret2
          exact ⟨ret_ib ⟨by rw [E.out.1], by rw [E.out.2]⟩, iter_below _ _ _⟩
      · have hnx : ∀ ty, (Instr.next (.pointer (some ⟨w.heap.size, 0, none⟩)) true ty).run Tryd.prog (w.iter s k) = _ := fun ty => run_next_end w s k ty hlt
        have e : n = valI s.data.toList := by rw [← HV.out, List.drop_of_length_le (by simp; omega)]; rfl
        have E : Hid (r = n ∧ b = true) := by
          have := HY.out hs (by omega)
          rw [← e] at this; exact this
        clear e
        go_wp2
        go_ret2
        exact ⟨ret_ib ⟨by rw [E.out.1], by rw [E.out.2]⟩, iter_below _ _ _⟩
  · have hsn : ((s.size : Int) != (d : Int)) = true := by simp; omega
    have E : Hid (r = 0 ∧ b = false) := HS.out hs
    go_enter Tryd.func29, Tryd.ntmps29
    go_wp2
    go_ret2
    exact ⟨ret_ib ⟨by rw [E.out.1], by rw [E.out.2]⟩, Below.refl _ _⟩
end Go.Proofs.YtdokniohjdlmfaaDoor
