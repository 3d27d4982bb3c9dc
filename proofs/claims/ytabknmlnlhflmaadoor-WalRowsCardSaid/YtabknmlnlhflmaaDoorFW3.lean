/- Contracts of the program's frames: numbers in four bytes. -/
import Derived.Test.YtabknmlnlhflmaaDoorFW2
import Derived.Test.YtabknmlnlhflmaaDoorRW2
import Derived.Test.YtabknmlnlhflmaaDoorCB
import Derived.Laws.BitsAll
namespace Go.Proofs.YtabknmlnlhflmaaDoor
open Go.ChangeShapes Go.WideShapes Go.ChangeAt Go.RowKit Go.Joins Fr

theorem or8 {a b : Nat} (ha : a < 256) (hb : b < 256) : bits .or .u32 (a : Int) ((b : Int) * 256) = ((a + 256 * b : Nat) : Int) := by
  rw [show (b : Int) * 256 = ((b * 256 : Nat) : Int) by omega, u32_or_nat a (b * 256) (by omega) (by omega), nat_join8' (b * 256) a (by omega) ha]
  omega
theorem or16 {a b : Nat} (ha : a < 65536) (hb : b < 256) : bits .or .u32 (a : Int) ((b : Int) * 65536) = ((a + 65536 * b : Nat) : Int) := by
  rw [show (b : Int) * 65536 = ((b * 65536 : Nat) : Int) by omega, u32_or_nat a (b * 65536) (by omega) (by omega), nat_join16' (b * 65536) a (by omega) ha]
  omega
theorem or24 {a b : Nat} (ha : a < 16777216) (hb : b < 256) : bits .or .u32 (a : Int) ((b : Int) * 16777216) = ((a + 16777216 * b : Nat) : Int) := by
  rw [show (b : Int) * 16777216 = ((b * 16777216 : Nat) : Int) by omega, u32_or_nat a (b * 16777216) (by omega) (by omega), nat_join24' (b * 16777216) a (by omega) ha]
  omega
theorem rd4_drop (l : List UInt8) (at_ : Nat) (h : at_ + 4 ≤ l.length) : rd4 (l.drop at_) = l[at_].toNat + 256 * l[at_ + 1].toNat + 65536 * l[at_ + 2].toNat + 16777216 * l[at_ + 3].toNat := by
  unfold rd4
  simp only [List.getD_eq_getElem?_getD, List.getElem?_drop]
  rw [List.getElem?_eq_getElem (show at_ + 0 < l.length by omega), List.getElem?_eq_getElem (show at_ + 1 < l.length by omega), List.getElem?_eq_getElem (show at_ + 2 < l.length by omega), List.getElem?_eq_getElem (show at_ + 3 < l.length by omega)]
  rfl

theorem word_at (l : List UInt8) (A : Option Addr) (n c at_ : Nat) (hl : l.length = n) (hat : at_ + 4 ≤ n) (hn : n ≤ 9223372036854775807) (w : World) (hB : BAt w A l) :
    Calls Tryd.prog 40 #[.slice A n c, .int .i64 at_] w fun e w' => e = .returned (.int .u32 (rd4 (l.drop at_) : Nat)) ∧ Below w.heap.size w w' := by
  subst hl
  obtain ⟨b, off, rfl, hbs, hc⟩ := hB (by omega)
  have h0 := hc at_ l[at_] (List.getElem?_eq_getElem (by omega))
  have h1 := hc (at_ + 1) l[at_ + 1] (List.getElem?_eq_getElem (by omega))
  have h2 := hc (at_ + 2) l[at_ + 2] (List.getElem?_eq_getElem (by omega))
  have h3 := hc (at_ + 3) l[at_ + 3] (List.getElem?_eq_getElem (by omega))
  have b0 : l[at_].toNat < 256 := l[at_].toNat_lt
  have b1 : l[at_ + 1].toNat < 256 := l[at_ + 1].toNat_lt
  have b2 : l[at_ + 2].toNat < 256 := l[at_ + 2].toNat_lt
  have b3 : l[at_ + 3].toNat < 256 := l[at_ + 3].toNat_lt
  rw [rd4_drop l at_ hat]
  generalize l[at_].toNat = x0 at *
  generalize l[at_ + 1].toNat = x1 at *
  generalize l[at_ + 2].toNat = x2 at *
  generalize l[at_ + 3].toNat = x3 at *
  have z0 : (at_ : Int) < l.length := by omega
  have z1 : (at_ : Int) + 1 < l.length := by omega
  have z2 : (at_ : Int) + 2 < l.length := by omega
  have z3 : (at_ : Int) + 3 < l.length := by omega
  clear hc
  go_enter Tryd.func40, Tryd.ntmps40
  go_wp2_with fail
  go_region
  go_wp2_with fail
  go_ret
  exact ⟨ret_int (by rw [or8 b0 b1, or16 (by omega) b2, or24 (by omega) b3]), drew_below w⟩

theorem may_be (gen : Nat) (k : Int) (w : World) :
    Calls Tryd.prog 33 #[.int .u32 gen, .int .i64 k] w fun e w' => e = .returned (.bool (decide (0 < gen ∧ k ≤ 1048576))) ∧ w = w' := by
  by_cases h0 : gen = 0
  · subst h0
    go_enter Tryd.func33, Tryd.ntmps33
    go_wp2
    go_ret
    exact ⟨by simp, rfl⟩
  · have hz : (0 : Int) < gen := by omega
    go_enter Tryd.func33, Tryd.ntmps33
    go_wp2
    go_ret
    exact ⟨ret_bool (by simp; omega), rfl⟩

theorem bl_four {x : Nat} (hx : x < 4294967296) : bl (four x) = [.int .u8 ((x : Int) % 256), .int .u8 ((x : Int) / 256 % 256), .int .u8 ((x : Int) / 65536 % 256), .int .u8 ((x : Int) / 16777216)] := by
  unfold bl four
  simp only [List.map_cons, List.map_nil]
  rw [u8_nat (show x % 256 < 256 by omega), u8_nat (show x / 256 % 256 < 256 by omega), u8_nat (show x / 65536 % 256 < 256 by omega), u8_nat (show x / 16777216 < 256 by omega)]
  simp

theorem add_word (g n m cap : Nat) (l : List UInt8) (x base : Nat) (hx : x < 4294967296) (hm : m = n + 4) (hn : n ≤ 1048600) (w : World) (hb : base ≤ w.heap.size)
    (hown : w.ownsRow base 5 1 (.slice (some ⟨g, 0, none⟩) n cap) n (bl l)) :
    Calls Tryd.prog 34 #[.slice (some ⟨g, 0, none⟩) n cap, .int .u32 x] w fun e w' => ∃ g' cap', e = .returned (.slice (some ⟨g', 0, none⟩) m cap') ∧ w'.ownsRow base 5 1 (.slice (some ⟨g', 0, none⟩) m cap') m (bl (l ++ four x)) ∧ Below base w w' := by
  subst hm
  obtain ⟨i0, hi0, hq0, hq1, hq2⟩ := info_parts u8_info
  have HO := Lib.hid hown
  have HX := Lib.hid (bl_four hx)
  have hmx : n + 4 ≤ maxLen := by unfold maxLen; omega
  have hby : (n + 4) * 1 ≤ 140737488355328 := by omega
  clear hown
  go_enter Tryd.func34, Tryd.ntmps34
  go_wp2_with (at_builtin; refine wpList_append_lies _ rfl _ _ _ rfl base 5 i0 (.int .u8 0) 1 1 Tryd.underlying23 hi0 hq0 hq1 hq2 rfl (by decide) (.slice (some ⟨g, 0, none⟩) n cap) n _ rfl (HO.out.alloc _) ⟨w.heap.size, 0, none⟩ 4 4 [.int .u8 _, .int .u8 _, .int .u8 _, .int .u8 _] rfl rfl (World.news_of_block (fr := (0, 0)) (heap_alloc_new w _)) (by simp [Value.oneCell']) (by decide) hmx hby (by simp; omega) (w.heap.size + 1) (by simp) ?_)
  intro gg cap2 w3 hown1 hgrow hat hlt2
  go_wp2_with fail
  go_ret
  refine ⟨gg, cap2, rfl, ?_, ((Below.refl base w).alloc hb _).grown hgrow (by simp; omega) (fun k hk => (HO.out.lt k hk).1)⟩
  rw [bl_app, HX.out]
  exact hown1
end Go.Proofs.YtabknmlnlhflmaaDoor
