/- Contracts of the document's frames. -/
import Derived.Test.YtjjmbndknjjjjaaDoorRW1
import Derived.Test.YtjjmbndknjjjjaaDoorFMath
namespace Go.Proofs.YtjjmbndknjjjjaaDoor
open Go.ChangeShapes Go.WideShapes Go.ChangeAt Go.RowKit Fr

theorem conv_four {P : Program} (w : World) (x0 x1 x2 x3 : Int) (b0 b1 b2 b3 : UInt8) (h0 : (b0.toNat : Int) = x0) (h1 : (b1.toNat : Int) = x1) (h2 : (b2.toNat : Int) = x2) (h3 : (b3.toNat : Int) = x3)
    {src dst e : TypeId} (hs : P.underlying src = some (.slice e)) (he : P.underlying e = some (.int .u8)) (hd : P.underlying dst = some .string) :
    (convert src dst (.slice (some ⟨w.heap.size, 0, none⟩) 4 4)).run P (w.alloc (.cells #[.int .u8 x0, .int .u8 x1, .int .u8 x2, .int .u8 x3] e)) = .ok (.string ⟨#[b0, b1, b2, b3]⟩) (w.alloc (.cells #[.int .u8 x0, .int .u8 x1, .int .u8 x2, .int .u8 x3] e)) := by
  refine run_convert_bytes_back (w.alloc (.cells #[.int .u8 x0, .int .u8 x1, .int .u8 x2, .int .u8 x3] e)) src dst e ⟨w.heap.size, 0, none⟩ 4 [b0, b1, b2, b3] hs he hd fun j hj => ?_
  have hj' : j < 4 := hj
  have : j = 0 ∨ j = 1 ∨ j = 2 ∨ j = 3 := by omega
  rcases this with rfl | rfl | rfl | rfl
  · simp [go_sem, h0]
  · simp [go_sem, h1, Addr.add]
  · simp [go_sem, h2, Addr.add]
  · simp [go_sem, h3, Addr.add]

theorem rfour_any (n : Nat) (hn : n < 4294967296) (w : World) :
    Calls Tryd.prog 17 #[.int .u32 n] w fun e w' => e = .returned (.string ⟨(four n).toArray⟩) ∧ Below w.heap.size w w' := by
  have HC := conv_four (P := Tryd.prog) w ((n : Int) % 256) ((n : Int) / 256 % 256) ((n : Int) / 65536 % 256) ((n : Int) / 16777216) (u8 (n % 256)) (u8 (n / 256 % 256)) (u8 (n / 65536 % 256)) (u8 (n / 16777216))
    (by rw [u8_nat (by omega)]; omega) (by rw [u8_nat (by omega)]; omega) (by rw [u8_nat (by omega)]; omega) (by rw [u8_nat (by omega)]; omega) Tryd.underlying23 Tryd.underlying5 Tryd.underlying9
  go_enter Tryd.func17, Tryd.ntmps17
  go_wp2
  go_ret
  exact ⟨rfl, (Below.refl _ _).alloc (Nat.le_refl _) _⟩

/-- A frame without its sum. -/
def headT (gen number : Nat) (l : List UInt8) : List UInt8 := four l.length ++ four gen ++ four number ++ l
/-- A frame; nothing, if it may not be. -/
def putT (gen number : Nat) (l : List UInt8) : List UInt8 := if gen = 0 ∨ 1048576 < l.length then [] else headT gen number l ++ four (Rc.sum (bn (headT gen number l)))
theorem sum_lt (l : List Nat) : Rc.sum l < 4294967296 := by unfold Rc.sum; omega
theorem app4 (a b c : List UInt8) (s : ByteArray) : (ByteArray.mk a.toArray ++ ByteArray.mk b.toArray ++ ByteArray.mk c.toArray ++ s : ByteArray) = ⟨(a ++ b ++ c ++ s.data.toList).toArray⟩ := by
  have e : s = ⟨s.data.toList.toArray⟩ := by cases s; simp
  conv => lhs; rw [e]
  simp only [ByteArray.mk_append_mk]

set_option maxHeartbeats 1000000 in
theorem rput_any (gen number : Nat) (s : ByteArray) (hg : gen < 4294967296) (hn : number < 4294967296) (hs : s.size ≤ 140737488355328) (w : World) :
    Calls Tryd.prog 10 #[.int .u32 gen, .int .u32 number, .string s] w fun e w' => e = .returned (.string ⟨(putT gen number s.data.toList).toArray⟩) ∧ Below w.heap.size w w' := by
  have hsl : s.data.toList.length = s.size := by simp
  by_cases h0 : gen = 0
  · subst h0
    rw [show putT 0 number s.data.toList = [] by unfold putT; rw [if_pos (.inl rfl)]]
    rw [show ((0 : Nat) : Int) = 0 from rfl]
    clear hsl
    go_enter Tryd.func10, Tryd.ntmps10
    go_wp2
    go_ret
    exact ⟨rfl, Below.refl _ _⟩
  have h0b : ((gen : Int) == 0) = false := beq_false_of_ne (by omega)
  by_cases h1 : 1048576 < s.size
  · rw [show putT gen number s.data.toList = [] by unfold putT; rw [if_pos (.inr (by omega))]]
    have h1z : (1048576 : Int) < s.size := by omega
    clear hsl
    go_enter Tryd.func10, Tryd.ntmps10
    go_wp2
    go_ret
    exact ⟨rfl, Below.refl _ _⟩
  have h1z : (s.size : Int) ≤ 1048576 := by omega
  have HP : Hid (putT gen number s.data.toList = headT gen number s.data.toList ++ four (Rc.sum (bn (headT gen number s.data.toList)))) := by show _ = _; unfold putT; rw [if_neg (by omega)]
  have HH : Hid (four s.size ++ four gen ++ four number ++ s.data.toList = headT gen number s.data.toList) := by show _ = _; unfold headT; rw [hsl]
  obtain ⟨r, hr⟩ : ∃ r, putT gen number s.data.toList = r := ⟨_, rfl⟩
  rw [hr] at HP ⊢
  have A4 := app4 (four s.size) (four gen) (four number) s
  rw [HH.out] at A4
  have hHs : (headT gen number s.data.toList).length ≤ 1048588 := by unfold headT; simp [four_len]; omega
  generalize headT gen number s.data.toList = hd at *
  have SU := Lib.hid (fun w => rsum_any ⟨hd.toArray⟩ (by simp [ByteArray.size]; omega) w)
  have F1 := Lib.hid (fun w => rfour_any s.size (by omega) w)
  have F2 := Lib.hid (fun w => rfour_any gen hg w)
  have F3 := Lib.hid (fun w => rfour_any number hn w)
  have F4 := Lib.hid (fun w => rfour_any (Rc.sum (bn hd)) (sum_lt _) w)
  have L1 : (four s.size).length ≤ 4 := Nat.le_refl _
  have L2 : (four gen).length ≤ 4 := Nat.le_refl _
  have L3 : (four number).length ≤ 4 := Nat.le_refl _
  have L4 : (four (Rc.sum (bn hd))).length ≤ 4 := Nat.le_refl _
  clear hr hsl HH h0 h1 hg hn
  generalize four s.size = f1 at *
  generalize four gen = f2 at *
  generalize four number = f3 at *
  generalize four (Rc.sum (bn hd)) = f4 at *
  generalize Rc.sum (bn hd) = su at *
  go_enter Tryd.func10, Tryd.ntmps10
  go_wp2_with fail
  go_at_call 17
  refine (F1.out _).mono ?_
  rintro e w' ⟨rfl, hb⟩
  obtain ⟨g, rfl⟩ := Gr.of hb
  clear hb
  go_wp2_with fail
  go_at_call 17
  refine (F2.out _).mono ?_
  rintro e w' ⟨rfl, hb⟩
  obtain ⟨g, rfl⟩ := g.on hb
  clear hb
  go_wp2_with fail
  go_at_call 17
  refine (F3.out _).mono ?_
  rintro e w' ⟨rfl, hb⟩
  obtain ⟨g, rfl⟩ := g.on hb
  clear hb
  go_wp2_with fail
  go_at_call 18
  refine (SU.out _).mono ?_
  rintro e w' ⟨rfl, rfl⟩
  go_wp2_with fail
  go_at_call 17
  refine (F4.out _).mono ?_
  rintro e w' ⟨rfl, hb⟩
  obtain ⟨g, rfl⟩ := g.on hb
  clear hb
  go_wp2_with fail
  go_ret
  exact ⟨ret_str (by rw [HP.out]), g.ok⟩
end Go.Proofs.YtjjmbndknjjjjaaDoor
