import Derived.Test.YtbclfcghacedfaaGreatDoorRows
import Derived.Test.YtbclfcghacedfaaGreatDoorZShelf
import Derived.Test.YtbclfcghacedfaaGreatDoorZMA
import Derived.Test.YtbclfcghacedfaaGreatDoorZMB
import Derived.Test.YtbclfcghacedfaaGreatDoorZMC
import Derived.Laws.RangeAny
import Derived.WalkSmall
import Derived.RangeFuncNested
import Derived.RangeFuncBound
import Derived.RangeFuncCalls
import Derived.RangeFuncLeaves
import Derived.Shelf.Abstract
import Derived.Shelf.RegionOpen
import Derived.WalkKit
import Derived.OwnWalkIn
import Derived.TacticsInMore
import Derived.LoopNIn
import Derived.LoopIn
import Derived.RangeFuncFrom
/- Contracts of the program's digits and texts of times. -/
section
namespace Go.Proofs.YtbclfcghacedfaaGreatDoor
open Go.ChangeShapes Go.WideShapes Go.ChangeAt Go.RowKit Ck

/-- What the library's variables hold. -/
structure Env (w : World) : Prop where
  ml : ∃ m, w.cell? ⟨2, 0, none⟩ = some (.int .i64 m)
  pow : Lib.TabIs Tryz.prog w "internal/strconv.uint64pow10" .u64 Lib.pow10Tab
theorem powAt : Tryz.prog.globalNamed "internal/strconv.uint64pow10" = some 3 := by kernel_rfl
theorem Env.below {w w' : World} (h : Env w) (hb : Below w.heap.size w w') : Env w' := by
  obtain ⟨m, hm⟩ := h.ml
  have hp := h.pow
  refine ⟨⟨m, cell_old hm hb⟩, ?_⟩
  have hc := Lib.TabIs.cell hp powAt 0 (by decide)
  exact var?_below hb powAt (World.block_lt_of_cell? _ _ hc) hp
theorem Env.gr {w : World} (h : Env w) (g : Gr w) : Env g.val := h.below g.ok

theorem below_grow6 (w : World) (k : Nat) (os : Array Obj) : Below w.heap.size w (Go.Sort.grow (w.drewN k) os) :=
  ⟨rfl, rfl, rfl, by show w.heap.size ≤ (w.heap ++ os).size; rw [Array.size_append]; omega, fun j hj => by show (w.heap ++ os)[j]? = w.heap[j]?; rw [Array.getElem?_append_left hj]⟩
theorem itoa_any (n : Int) (h0 : 0 ≤ n) (hn : n ≤ 1000000000) (w : World) (hE : Env w) :
    Calls Tryz.prog 16 #[.int .i64 n] w fun e w' => e = .returned (.string ⟨(Lib.itoa n).toArray⟩) ∧ Below w.heap.size w w' :=
  (Tryz.strconv_Itoa n (by omega) (by omega) w hE.pow).mono fun e w' ⟨he, k, os, hw⟩ => ⟨he, by rw [hw]; exact below_grow6 w k os⟩
theorem repeat_any (c : Nat) (hc : c ≤ 100) (w : World) :
    Calls Tryz.prog 101 #[.string ⟨#[48]⟩, .int .i64 c] w fun e w' => e = .returned (.string ⟨(Lib.repeatL [48] c).toArray⟩) ∧ Below w.heap.size w w' :=
  Tryz.strings_Repeat ⟨#[48]⟩ c w (by omega) (by show 1 * c ≤ _; omega)

theorem digits_any (n : Int) (d : Nat) (h0 : 0 ≤ n) (hd1 : 1 ≤ d) (hd : d ≤ 4) (hn : n < 10 ^ d) (w : World) (hE : Env w) :
    Calls Tryz.prog 72 #[.int .i64 n, .int .i64 d] w fun e w' => e = .returned (.string ⟨(low n d).toArray⟩) ∧ Below w.heap.size w w' := by
  obtain ⟨hl, hlow⟩ := itoa_low h0 hd1 hn
  have hp := pow4 (k := d) hd
  have HI := Lib.hid (fun w hE => itoa_any n h0 (by omega) w hE)
  have HE := Lib.hid hE
  rw [← hlow]
  generalize Lib.itoa n = t at *
  have HR := Lib.hid (fun w => repeat_any (d - t.length) (by omega) w)
  have hcast : ((d - t.length : Nat) : Int) = (d : Int) - t.length := by omega
  rw [hcast] at HR
  have h2 : (Lib.repeatL [48] (d - t.length)).length ≤ 4 := by rw [Lib.repeatL_length]; simp; omega
  generalize Lib.repeatL [48] (d - t.length) = u at *
  clear hp hlow hE hn
  go_enter Tryz.func72, Tryz.ntmps72
  go_wp2_with fail
  go_at_call 16
  refine (HI.out _ HE.out).mono ?_
  rintro e w' ⟨rfl, hb⟩
  obtain ⟨g, rfl⟩ := Gr.of hb
  clear hb
  go_wp2_with fail
  go_at_call 101
  refine (HR.out _).mono ?_
  rintro e w' ⟨rfl, hb⟩
  obtain ⟨g, rfl⟩ := g.on hb
  clear hb
  go_wp2
  go_ret
  exact ⟨congrArg (fun x => Ending.returned (Value.string x)) (ByteArray.mk_append_mk u t), g.ok⟩

theorem iter_below (w : World) (s : ByteArray) (p : Nat) : Below w.heap.size w (w.iter s p) := (Below.refl _ w).alloc (Nat.le_refl _) _
theorem drop_at6 (s : ByteArray) (k : Nat) (h : k < s.size) : s.data.toList.drop k = s[k] :: s.data.toList.drop (k + 1) := by
  rw [List.drop_eq_getElem_cons (by simpa using h)]; rfl
theorem ret_ib {a b : Int} {c d : Bool} (h : a = b ∧ c = d) : Ending.returned (.tuple #[.int .i64 a, .bool c]) = .returned (.tuple #[.int .i64 b, .bool d]) := by rw [h.1, h.2]

theorem readd_any (s : ByteArray) (d : Nat) (hd : d ≤ 4) (w : World) :
    Calls Tryz.prog 140 #[.string s, .int .i64 d] w fun e w' => e = .returned (.tuple #[.int .i64 (rdN s.data.toList d), .bool (rdB s.data.toList d)]) ∧ Below w.heap.size w w' := by
  obtain ⟨r, hr⟩ : ∃ r, rdN s.data.toList d = r := ⟨_, rfl⟩
  obtain ⟨b, hb⟩ : ∃ b, rdB s.data.toList d = b := ⟨_, rfl⟩
  rw [hr, hb]
  have HS := Lib.hid (fun h => rd_short (l := s.data.toList) (w := d) h)
  have HY := Lib.hid (fun h hv => rd_yes (l := s.data.toList) (w := d) h hv)
  have HN := Lib.hid (fun hv => rd_no (l := s.data.toList) (w := d) hv)
  have hlen : s.data.toList.length = s.size := by simp
  rw [hr, hb, hlen] at HS HY
  rw [hr, hb] at HN
  clear hr hb
  by_cases hs : s.size = d
  · have hsn : ((s.size : Int) != (d : Int)) = false := by simp; omega
    have hs4 : s.size ≤ 4 := by omega
    go_enter Tryz.func140, Tryz.ntmps140
    go_wp2
    go_loopw [6] (fun s6 wr => ∃ (k : Nat) (n : Int), wr = w.iter s k ∧ k ≤ s.size ∧ 0 ≤ n ∧ n < 10 ^ k ∧ s6 = .int .i64 n ∧ Hid (valFrom n (s.data.toList.drop k) = valI s.data.toList)) (fun _ wr => s.size - wr.iterPos w.heap.size)
    case atStart => exact ⟨0, 0, rfl, Nat.zero_le _, by omega, by simp, rfl, rfl⟩
    case round =>
      obtain ⟨k, n, rfl, hk, hn0, hn1, rfl, HV⟩ := hrel
      have P4 := pow4 (k := k) (by omega)
      have PS : Hid ((10 : Int) ^ (k + 1) = 10 ^ k * 10) := Int.pow_succ 10 k
      generalize (10 : Int) ^ k = q at *
      by_cases hlt : k < s.size
      · have hdr := drop_at6 s k hlt
        have HD : Hid (valFrom n (s.data.toList.drop k) = if 48 ≤ s[k].toNat ∧ s[k].toNat ≤ 57 then valFrom (10 * n + s[k].toNat - 48) (s.data.toList.drop (k + 1)) else -1) := by show _ = _; rw [hdr]; rfl
        clear hdr
        have b0 := s[k].toNat_lt
        by_cases ha : s[k].toNat < 128
        · have hnx : ∀ ty, (Instr.next (.pointer (some ⟨w.heap.size, 0, none⟩)) true ty).run Tryz.prog (w.iter s k) = _ := fun ty => run_next_ascii w s k ty hlt ha
          by_cases h1 : (s[k].toNat : Int) < 48
          · have E : Hid (r = 0 ∧ b = false) := HN.out (by rw [← HV.out, HD.out, if_neg (by omega)])
            go_wp2
            go_ret2
            exact ⟨ret_ib ⟨by rw [E.out.1], by rw [E.out.2]⟩, iter_below _ _ _⟩
          · by_cases h2 : (57 : Int) < s[k].toNat
            · have E : Hid (r = 0 ∧ b = false) := HN.out (by rw [← HV.out, HD.out, if_neg (by omega)])
              go_wp2
              go_ret2
              exact ⟨ret_ib ⟨by rw [E.out.1], by rw [E.out.2]⟩, iter_below _ _ _⟩
            · have E : Hid (valFrom (10 * n + s[k].toNat - 48) (s.data.toList.drop (k + 1)) = valI s.data.toList) := by show _ = _; rw [← HV.out, HD.out, if_pos (by omega)]
              go_wp2
              go_roundw
              case rel => exact ⟨k + 1, 10 * n + s[k].toNat - 48, rfl, hlt, by omega, by rw [PS.out]; omega, by go_num, E⟩
              case measure => simp; omega
        · have hnx : ∀ ty, (Instr.next (.pointer (some ⟨w.heap.size, 0, none⟩)) true ty).run Tryz.prog (w.iter s k) = _ := fun ty => run_next_any w s k ty hlt
          have hh := (decode_high s k hlt (by omega)).1
          have hx : (57 : Int) < ((Utf8.decode s k).1 : Int) := by omega
          have hy : (48 : Int) ≤ ((Utf8.decode s k).1 : Int) := by omega
          have E : Hid (r = 0 ∧ b = false) := HN.out (by rw [← HV.out, HD.out, if_neg (by omega)])
          generalize Utf8.decode s k = dc at *
          go_wp2
          go_ret2
          exact ⟨ret_ib ⟨by rw [E.out.1], by rw [E.out.2]⟩, iter_below _ _ _⟩
      · have hnx : ∀ ty, (Instr.next (.pointer (some ⟨w.heap.size, 0, none⟩)) true ty).run Tryz.prog (w.iter s k) = _ := fun ty => run_next_end w s k ty hlt
        have e : n = valI s.data.toList := by rw [← HV.out, List.drop_of_length_le (by simp; omega)]; rfl
        have E : Hid (r = n ∧ b = true) := by
          have := HY.out hs (by omega)
          rw [← e] at this; exact this
        clear e
        go_wp2
        go_ret2
        exact ⟨ret_ib ⟨by rw [E.out.1], by rw [E.out.2]⟩, iter_below _ _ _⟩
  · have hsn : ((s.size : Int) != (d : Int)) = true := by simp; omega
    have E : Hid (r = 0 ∧ b = false) := HS.out hs
    go_enter Tryz.func140, Tryz.ntmps140
    go_wp2
    go_ret2
    exact ⟨ret_ib ⟨by rw [E.out.1], by rw [E.out.2]⟩, Below.refl _ _⟩
end Go.Proofs.YtbclfcghacedfaaGreatDoor
end

/- Contracts of the program's minutes and stamps. -/
section
namespace Go.Proofs.YtbclfcghacedfaaGreatDoor
open Go.ChangeShapes Go.WideShapes Go.ChangeAt Go.RowKit Ck

theorem digits4 (n : Int) (h0 : 0 ≤ n) (hn : n ≤ 9999) (w : World) (hE : Env w) :
    Calls Tryz.prog 72 #[.int .i64 n, .int .i64 4] w fun e w' => e = .returned (.string ⟨(low n 4).toArray⟩) ∧ Below w.heap.size w w' := digits_any n 4 h0 (by omega) (by omega) (by omega) w hE
theorem digits2 (n : Int) (h0 : 0 ≤ n) (hn : n ≤ 99) (w : World) (hE : Env w) :
    Calls Tryz.prog 72 #[.int .i64 n, .int .i64 2] w fun e w' => e = .returned (.string ⟨(low n 2).toArray⟩) ∧ Below w.heap.size w w' := digits_any n 2 h0 (by omega) (by omega) (by omega) w hE

theorem ret_sb {a b : List UInt8} {c d : Bool} (h : a = b ∧ c = d) : Ending.returned (.tuple #[.string ⟨a.toArray⟩, .bool c]) = .returned (.tuple #[.string ⟨b.toArray⟩, .bool d]) := by rw [h.1, h.2]

theorem minute_no (n : Int) (h : n < 0 ∨ 1440 < n) (w : World) :
    Calls Tryz.prog 71 #[.int .i64 n] w fun e w' => e = .returned (.tuple #[.string ⟨#[]⟩, .bool false]) ∧ w = w' := by
  rcases h with h | h
  · go_enter Tryz.func71, Tryz.ntmps71
    go_wp2
    go_ret2
    exact ⟨rfl, rfl⟩
  · have h0 : decide (n < 0) = false := decide_eq_false (by omega)
    go_enter Tryz.func71, Tryz.ntmps71
    go_wp2
    go_ret2
    exact ⟨rfl, rfl⟩
theorem minute_yes (n : Int) (h0 : 0 ≤ n) (h1 : n ≤ 1440) (w : World) (hE : Env w) :
    Calls Tryz.prog 71 #[.int .i64 n] w fun e w' => e = .returned (.tuple #[.string ⟨(minT n).toArray⟩, .bool true]) ∧ Below w.heap.size w w' := by
  have g0 : decide (n < 0) = false := decide_eq_false (by omega)
  have g1 : decide (1440 < n) = false := decide_eq_false (by omega)
  have l1 : (low (n / 60) 2).length ≤ 10 := by rw [low_len]; omega
  have l2 : (low (n % 60) 2).length ≤ 10 := by rw [low_len]; omega
  have HE := Lib.hid hE
  have H1 := Lib.hid (fun w hE => digits2 (n / 60) (by omega) (by omega) w hE)
  have H2 := Lib.hid (fun w hE => digits2 (n % 60) (by omega) (by omega) w hE)
  have HT : Hid (minT n = low (n / 60) 2 ++ [58] ++ low (n % 60) 2) := rfl
  clear hE
  go_enter Tryz.func71, Tryz.ntmps71
  go_wp2_with fail
  go_at_call 72
  refine (H1.out _ HE.out).mono ?_
  rintro e w' ⟨rfl, hb⟩
  obtain ⟨g, rfl⟩ := Gr.of hb
  clear hb
  go_wp2_with fail
  go_at_call 72
  refine (H2.out _ (HE.out.gr g)).mono ?_
  rintro e w' ⟨rfl, hb⟩
  obtain ⟨g, rfl⟩ := g.on hb
  clear hb
  go_wp2_with fail
  go_ret2
  exact ⟨congrArg (fun x => Ending.returned (Value.tuple #[.string x, .bool true])) (by rw [HT.out]; exact app3 (low (n / 60) 2) [58] (low (n % 60) 2)), g.ok⟩

theorem cut_any (s sep : ByteArray) (hs : s.size ≤ 1000000) (w : World) (hE : Env w) :
    Calls Tryz.prog 37 #[.string s, .string sep] w fun e w' => e = .returned (.tuple #[.string ⟨(Lib.cut s.data.toList sep.data.toList).1.toArray⟩, .string ⟨(Lib.cut s.data.toList sep.data.toList).2.1.toArray⟩, .bool (Lib.cut s.data.toList sep.data.toList).2.2]) ∧ Below w.heap.size w w' := by
  obtain ⟨m, hm⟩ := hE.ml
  exact (Tryz.strings_Cut s sep m w (by omega) hm).mono fun e w' ⟨he, k, hw⟩ => ⟨he, by rw [hw]; exact drewN_below w k⟩
theorem readd_list (l : List UInt8) (d : Nat) (hd : d ≤ 4) (w : World) :
    Calls Tryz.prog 140 #[.string ⟨l.toArray⟩, .int .i64 d] w fun e w' => e = .returned (.tuple #[.int .i64 (rdN l d), .bool (rdB l d)]) ∧ Below w.heap.size w w' := by
  have := readd_any ⟨l.toArray⟩ d hd w
  simpa using this
theorem readd2 (l : List UInt8) (w : World) :
    Calls Tryz.prog 140 #[.string ⟨l.toArray⟩, .int .i64 2] w fun e w' => e = .returned (.tuple #[.int .i64 (rdN l 2), .bool (rdB l 2)]) ∧ Below w.heap.size w w' := readd_list l 2 (by omega) w
theorem readd4 (l : List UInt8) (w : World) :
    Calls Tryz.prog 140 #[.string ⟨l.toArray⟩, .int .i64 4] w fun e w' => e = .returned (.tuple #[.int .i64 (rdN l 4), .bool (rdB l 4)]) ∧ Below w.heap.size w w' := readd_list l 4 (by omega) w

theorem rmV_ways (a b : Bool) (h m : Int) (r : Int × Bool) (hr : (if a = true ∧ b = true ∧ m < 60 ∧ h * 60 + m ≤ 1440 then (h * 60 + m, true) else (0, false)) = r) :
    (a = false ∧ r = (0, false)) ∨ (a = true ∧ b = false ∧ r = (0, false)) ∨ (a = true ∧ b = true ∧ 60 ≤ m ∧ r = (0, false)) ∨ (a = true ∧ b = true ∧ m < 60 ∧ 1440 < h * 60 + m ∧ r = (0, false)) ∨
    (a = true ∧ b = true ∧ m < 60 ∧ h * 60 + m ≤ 1440 ∧ r = (h * 60 + m, true)) := by
  cases a <;> cases b <;> simp at hr ⊢ <;> try exact hr.symm
  by_cases h1 : m < 60
  · by_cases h2 : h * 60 + m ≤ 1440
    · rw [if_pos ⟨h1, h2⟩] at hr; exact .inr (.inr ⟨h1, h2, hr.symm⟩)
    · rw [if_neg (fun c => h2 c.2)] at hr; exact .inr (.inl ⟨h1, by omega, hr.symm⟩)
  · rw [if_neg (fun c => h1 c.1)] at hr; exact .inl ⟨by omega, hr.symm⟩

theorem readmin_any (s : ByteArray) (hs : s.size ≤ 1000000) (w : World) (hE : Env w) :
    Calls Tryz.prog 113 #[.string s] w fun e w' => e = .returned (.tuple #[.int .i64 (posN (readM s.data.toList)), .bool (posB (readM s.data.toList))]) ∧ Below w.heap.size w w' := by
  have hrm := rm_eq s.data.toList
  obtain ⟨r1, hr1⟩ : ∃ r, posN (readM s.data.toList) = r := ⟨_, rfl⟩
  obtain ⟨r2, hr2⟩ : ∃ r, posB (readM s.data.toList) = r := ⟨_, rfl⟩
  rw [hr1, hr2] at hrm ⊢
  clear hr1 hr2
  have HE := Lib.hid hE
  have HC := Lib.hid (fun w hE => cut_any s ⟨#[58]⟩ hs w hE)
  simp only at HC
  have hbx := rd_bd2 (l := (Lib.cut s.data.toList [58]).1)
  have hby := rd_bd2 (l := (Lib.cut s.data.toList [58]).2.1)
  have HX := Lib.hid (fun w => readd2 (Lib.cut s.data.toList [58]).1 w)
  have HY := Lib.hid (fun w => readd2 (Lib.cut s.data.toList [58]).2.1 w)
  unfold rmV at hrm
  generalize Lib.cut s.data.toList [58] = c at *
  obtain ⟨x, y, fd⟩ := c
  simp only at hbx hby HX HY hrm
  obtain ⟨bx1, bx2⟩ := hbx
  obtain ⟨by1, by2⟩ := hby
  generalize rdN x 2 = hh at *
  generalize rdN y 2 = mm at *
  generalize rdB x 2 = ab at *
  generalize rdB y 2 = bb at *
  clear hE
  rcases rmV_ways ab bb hh mm (r1, r2) hrm with ⟨rfl, he⟩ | ⟨rfl, rfl, he⟩ | ⟨rfl, rfl, h1, he⟩ | ⟨rfl, rfl, h1, h2, he⟩ | ⟨rfl, rfl, h1, h2, he⟩
  all_goals
    clear hrm
    obtain ⟨rfl, rfl⟩ := Prod.mk.inj he
    clear he
    try (have g1 : decide (60 ≤ mm) = false := decide_eq_false (by omega))
    try (have g2 : decide (1440 < hh * 60 + mm) = false := decide_eq_false (by omega))
    go_enter Tryz.func113, Tryz.ntmps113
    go_wp2_with fail
    go_at_call 37
    refine (HC.out _ HE.out).mono ?_
    rintro e w' ⟨rfl, hb⟩
    obtain ⟨g, rfl⟩ := Gr.of hb
    clear hb
    go_wp2_with fail
    go_at_call 140
    refine (HX.out _).mono ?_
    rintro e w' ⟨rfl, hb⟩
    obtain ⟨g, rfl⟩ := g.on hb
    clear hb
    go_wp2_with fail
    go_at_call 140
    refine (HY.out _).mono ?_
    rintro e w' ⟨rfl, hb⟩
    obtain ⟨g, rfl⟩ := g.on hb
    clear hb
    go_wp2_with fail
    go_ret2
    exact ⟨rfl, g.ok⟩
theorem readmin_list (l : List UInt8) (hs : l.length ≤ 1000000) (w : World) (hE : Env w) :
    Calls Tryz.prog 113 #[.string ⟨l.toArray⟩] w fun e w' => e = .returned (.tuple #[.int .i64 (posN (readM l)), .bool (posB (readM l))]) ∧ Below w.heap.size w w' := by
  have := readmin_any ⟨l.toArray⟩ (by show l.toArray.size ≤ _; simpa using hs) w hE
  simpa using this
end Go.Proofs.YtbclfcghacedfaaGreatDoor
end

/- Contracts of the program's stamps. -/
section
namespace Go.Proofs.YtbclfcghacedfaaGreatDoor
open Go.ChangeShapes Go.WideShapes Go.ChangeAt Go.RowKit Ck

theorem app8b (a b c d e f g : List UInt8) : (ByteArray.mk a.toArray ++ ByteArray.mk b.toArray ++ ByteArray.mk c.toArray ++ ByteArray.mk d.toArray ++ ByteArray.mk e.toArray ++ ByteArray.mk f.toArray ++ ByteArray.mk g.toArray : ByteArray) = ⟨(a ++ b ++ c ++ d ++ e ++ f ++ g).toArray⟩ := by
  simp only [ByteArray.mk_append_mk]

theorem stamp_no (n : Int) (h : n < 0 ∨ 158310720 < n) (w : World) :
    Calls Tryz.prog 45 #[.int .i64 n] w fun e w' => e = .returned (.tuple #[.string ⟨#[]⟩, .bool false]) ∧ w = w' := by
  rcases h with h | h
  · go_enter Tryz.func45, Tryz.ntmps45
    go_wp2
    go_ret2
    exact ⟨rfl, rfl⟩
  · have h0 : decide (n < 0) = false := decide_eq_false (by omega)
    go_enter Tryz.func45, Tryz.ntmps45
    go_wp2
    go_ret2
    exact ⟨rfl, rfl⟩

set_option maxHeartbeats 1000000 in
theorem stamp_core (n y m d dn mi : Int) (h0 : 0 ≤ n) (hn : n ≤ 158310720) (hdn : 0 ≤ dn ∧ dn ≤ 109937) (hmi : 0 ≤ mi ∧ mi ≤ 1440) (hy : 0 ≤ y ∧ y ≤ 9999) (hm : 0 ≤ m ∧ m ≤ 99) (hd : 0 ≤ d ∧ d ≤ 99)
    (hcase : (n = 158310720 ∧ dn = 109937 ∧ mi = 1440) ∨ (n ≠ 158310720 ∧ dn = n / 1440 ∧ mi = n % 1440))
    (HD : ∀ w, Calls Tryz.prog 70 #[.int .i64 dn] w fun e w' => e = .returned (.tuple #[.agg #[.int .i64 y, .int .i64 m, .int .i64 d], .bool true]) ∧ Below w.heap.size w w') (w : World) (hE : Env w) :
    Calls Tryz.prog 45 #[.int .i64 n] w fun e w' => e = .returned (.tuple #[.string ⟨(stT y m d mi).toArray⟩, .bool true]) ∧ Below w.heap.size w w' := by
  obtain ⟨hy1, hy2⟩ := hy
  obtain ⟨hm1, hm2⟩ := hm
  obtain ⟨hd1, hd2⟩ := hd
  obtain ⟨hmi1, hmi2⟩ := hmi
  have g0 : decide (n < 0) = false := decide_eq_false (by omega)
  have g1 : decide (158310720 < n) = false := decide_eq_false (by omega)
  have l1 : (low y 4).length ≤ 10 := by rw [low_len]; omega
  have l2 : (low m 2).length ≤ 10 := by rw [low_len]; omega
  have l3 : (low d 2).length ≤ 10 := by rw [low_len]; omega
  have l4 : (minT mi).length ≤ 10 := by rw [minT_len]; omega
  have HDh := Lib.hid HD
  have HE := Lib.hid hE
  have HT : Hid (stT y m d mi = low y 4 ++ [45] ++ low m 2 ++ [45] ++ low d 2 ++ [84] ++ minT mi) := rfl
  have HM := Lib.hid (fun w hE => minute_yes mi hmi1 hmi2 w hE)
  have H1 := Lib.hid (fun w hE => digits4 y hy1 hy2 w hE)
  have H2 := Lib.hid (fun w hE => digits2 m hm1 hm2 w hE)
  have H3 := Lib.hid (fun w hE => digits2 d hd1 hd2 w hE)
  clear HD hE
  have hnb : n = 158310720 ∨ n ≠ 158310720 := by omega
  rcases hcase with ⟨hc, rfl, rfl⟩ | ⟨hc, rfl, rfl⟩
  · have hcb : (n == 158310720) = true := by simpa using hc
    clear hc hnb
    go_enter Tryz.func45, Tryz.ntmps45
    go_wp2_with fail
    go_at_call 70
    (with_reducible refine (HDh.out _).mono ?_); rintro e w' ⟨rfl, hb⟩; obtain ⟨g, rfl⟩ := Gr.of hb; clear hb
    obtain ⟨N0, N1, N2, _⟩ := Gr.lay3 g.val (.int .i64 y) (.int .i64 m) (.int .i64 d) 87
    have HE1 : Hid (Env (g.val.alloc (.cells #[.int .i64 y, .int .i64 m, .int .i64 d] 87))) := (HE.out.gr g).below ((Below.refl _ _).alloc (Nat.le_refl _) _)
    have HE2 := Lib.hid (fun g' : Gr (g.val.alloc (.cells #[.int .i64 y, .int .i64 m, .int .i64 d] 87)) => HE1.out.gr g')
    go_wp2_with fail
    go_at_call 71
    (with_reducible refine (HM.out _ HE1.out).mono ?_); rintro e w' ⟨rfl, hb⟩; obtain ⟨g2, rfl⟩ := Gr.of hb; clear hb
    go_wp2_with fail
    refine Gr.region (by kernel_rfl) (by kernel_rfl) g2.draw ?_
    repeat (go_big_quiet_step (fail))
    go_big_quiet_step ((go_at_call 72; exact Gr.calls _ (H1.out _ (HE2.out _))))
    repeat (go_big_quiet_step (fail))
    go_big_quiet_step ((go_at_call 72; exact Gr.calls _ (H2.out _ (HE2.out _))))
    repeat (go_big_quiet_step (fail))
    go_big_quiet_step ((go_at_call 72; exact Gr.calls _ (H3.out _ (HE2.out _))))
    repeat (go_big_quiet_step (fail))
    refine wpQuiet_nil ?_
    rintro _ ⟨g3, rfl⟩
    go_wp2
    go_ret2
    exact ⟨congrArg (fun x => Ending.returned (Value.tuple #[.string x, .bool true])) (by rw [HT.out]; exact app8b (low y 4) [45] (low m 2) [45] (low d 2) [84] (minT 1440)), g.below2' g3⟩
  · have hcb : (n == 158310720) = false := by simpa using hc
    clear hc hnb
    go_enter Tryz.func45, Tryz.ntmps45
    go_wp2_with fail
    go_at_call 70
    (with_reducible refine (HDh.out _).mono ?_); rintro e w' ⟨rfl, hb⟩; obtain ⟨g, rfl⟩ := Gr.of hb; clear hb
    obtain ⟨N0, N1, N2, _⟩ := Gr.lay3 g.val (.int .i64 y) (.int .i64 m) (.int .i64 d) 87
    have HE1 : Hid (Env (g.val.alloc (.cells #[.int .i64 y, .int .i64 m, .int .i64 d] 87))) := (HE.out.gr g).below ((Below.refl _ _).alloc (Nat.le_refl _) _)
    have HE2 := Lib.hid (fun g' : Gr (g.val.alloc (.cells #[.int .i64 y, .int .i64 m, .int .i64 d] 87)) => HE1.out.gr g')
    go_wp2_with fail
    go_at_call 71
    (with_reducible refine (HM.out _ HE1.out).mono ?_); rintro e w' ⟨rfl, hb⟩; obtain ⟨g2, rfl⟩ := Gr.of hb; clear hb
    go_wp2_with fail
    refine Gr.region (by kernel_rfl) (by kernel_rfl) g2.draw ?_
    repeat (go_big_quiet_step (fail))
    go_big_quiet_step ((go_at_call 72; exact Gr.calls _ (H1.out _ (HE2.out _))))
    repeat (go_big_quiet_step (fail))
    go_big_quiet_step ((go_at_call 72; exact Gr.calls _ (H2.out _ (HE2.out _))))
    repeat (go_big_quiet_step (fail))
    go_big_quiet_step ((go_at_call 72; exact Gr.calls _ (H3.out _ (HE2.out _))))
    repeat (go_big_quiet_step (fail))
    refine wpQuiet_nil ?_
    rintro _ ⟨g3, rfl⟩
    go_wp2
    go_ret2
    exact ⟨congrArg (fun x => Ending.returned (Value.tuple #[.string x, .bool true])) (by rw [HT.out]; exact app8b (low y 4) [45] (low m 2) [45] (low d 2) [84] (minT (n % 1440))), g.below2' g3⟩

theorem stamp_yes (n : Int) (h0 : 0 ≤ n) (hn : n ≤ 158310720) (w : World) (hE : Env w) :
    Calls Tryz.prog 45 #[.int .i64 n] w fun e w' => e = .returned (.tuple #[.string ⟨(stampT n).toArray⟩, .bool true]) ∧ Below w.heap.size w w' := by
  obtain ⟨a1, a2, a3, a4⟩ := day_bd h0 hn
  have hs := (Cal.dateOf_spec (dayI n) a1 a2).1
  have hm := Cal.may_month hs
  have hl := Cal.len_bd (Cal.yOf (dayI n)) (Cal.mOf (dayI n))
  unfold Cal.mayP at hs
  exact stamp_core n _ _ _ (dayI n) (minuteI n) h0 hn ⟨a1, a2⟩ ⟨a3, a4⟩ (by omega) (by omega) (by omega)
    (by unfold dayI minuteI; split <;> omega) (fun w => date_yes (dayI n) w a1 a2) w hE

theorem rday_ways (a b c : Bool) (y m d : Int) (r : Int × Bool) (hr : (if a = true ∧ b = true ∧ c = true ∧ Cal.mayB y m d = true then (Cal.numI y m d, true) else (0, false)) = r) :
    (a = false ∧ r = (0, false)) ∨ (a = true ∧ b = false ∧ r = (0, false)) ∨ (a = true ∧ b = true ∧ c = false ∧ r = (0, false)) ∨ (a = true ∧ b = true ∧ c = true ∧ Cal.mayB y m d = false ∧ r = (0, false)) ∨
    (a = true ∧ b = true ∧ c = true ∧ Cal.mayP y m d ∧ r = (Cal.numI y m d, true)) := by
  rw [← Cal.may_iff]
  cases a <;> cases b <;> cases c <;> cases h : Cal.mayB y m d <;> simp_all

theorem readday_list (l : List UInt8) (hs : l.length ≤ 1000000) (w : World) (hE : Env w) :
    Calls Tryz.prog 112 #[.string ⟨l.toArray⟩] w fun e w' => e = .returned (.tuple #[.int .i64 (rdayV l).1, .bool (rdayV l).2]) ∧ Below w.heap.size w w' := by
  obtain ⟨r, hr⟩ : ∃ r, rdayV l = r := ⟨_, rfl⟩
  rw [hr]
  unfold rdayV at hr
  have HE := Lib.hid hE
  have cl := cut_len 45 l
  have HC := Lib.hid (fun w hE => cut_any ⟨l.toArray⟩ ⟨#[45]⟩ (by show l.toArray.size ≤ _; simpa using hs) w hE)
  simp only at HC
  generalize Lib.cut l [45] = c at *
  obtain ⟨x, y, fd⟩ := c
  simp only at hr HC cl
  have HC2 := Lib.hid (fun w hE => cut_any ⟨y.toArray⟩ ⟨#[45]⟩ (by show y.toArray.size ≤ _; rw [List.size_toArray]; omega) w hE)
  simp only at HC2
  generalize Lib.cut y [45] = c2 at *
  obtain ⟨u, v, fd2⟩ := c2
  simp only at hr HC2
  have HX := Lib.hid (fun w => readd4 x w)
  have HU := Lib.hid (fun w => readd2 u w)
  have HV := Lib.hid (fun w => readd2 v w)
  generalize rdN x 4 = yy at *
  generalize rdN u 2 = mm at *
  generalize rdN v 2 = dd at *
  generalize rdB x 4 = ab at *
  generalize rdB u 2 = bb at *
  generalize rdB v 2 = cb at *
  clear hE cl hs
  rcases rday_ways ab bb cb yy mm dd r hr with ⟨rfl, rfl⟩ | ⟨rfl, rfl, rfl⟩ | ⟨rfl, rfl, rfl, rfl⟩ | ⟨rfl, rfl, rfl, h, rfl⟩ | ⟨rfl, rfl, rfl, h, rfl⟩
  case inr.inr.inr.inl =>
    have HN := Lib.hid (fun w => number_no yy mm dd w h)
    clear hr h
    go_enter Tryz.func112, Tryz.ntmps112
    go_wp2_with fail
    go_at_call 37
    refine (HC.out _ HE.out).mono ?_
    rintro e w' ⟨rfl, hb⟩; obtain ⟨g, rfl⟩ := Gr.of hb; clear hb
    go_wp2_with fail
    go_at_call 37
    refine (HC2.out _ (HE.out.gr g)).mono ?_
    rintro e w' ⟨rfl, hb⟩; obtain ⟨g, rfl⟩ := g.on hb; clear hb
    go_wp2_with fail
    go_at_call 140
    refine (HX.out _).mono ?_
    rintro e w' ⟨rfl, hb⟩; obtain ⟨g, rfl⟩ := g.on hb; clear hb
    go_wp2_with fail
    go_at_call 140
    refine (HU.out _).mono ?_
    rintro e w' ⟨rfl, hb⟩; obtain ⟨g, rfl⟩ := g.on hb; clear hb
    go_wp2_with fail
    go_at_call 140
    refine (HV.out _).mono ?_
    rintro e w' ⟨rfl, hb⟩; obtain ⟨g, rfl⟩ := g.on hb; clear hb
    go_wp2_with fail
    go_at_call 141
    refine (HN.out _).mono ?_
    rintro e w' ⟨rfl, hb⟩; obtain ⟨g, rfl⟩ := g.on hb; clear hb
    go_wp2_with fail
    go_ret2
    exact ⟨rfl, g.ok⟩
  case inr.inr.inr.inr =>
    have HN := Lib.hid (fun w => number_yes yy mm dd w h)
    clear hr h
    go_enter Tryz.func112, Tryz.ntmps112
    go_wp2_with fail
    go_at_call 37
    refine (HC.out _ HE.out).mono ?_
    rintro e w' ⟨rfl, hb⟩; obtain ⟨g, rfl⟩ := Gr.of hb; clear hb
    go_wp2_with fail
    go_at_call 37
    refine (HC2.out _ (HE.out.gr g)).mono ?_
    rintro e w' ⟨rfl, hb⟩; obtain ⟨g, rfl⟩ := g.on hb; clear hb
    go_wp2_with fail
    go_at_call 140
    refine (HX.out _).mono ?_
    rintro e w' ⟨rfl, hb⟩; obtain ⟨g, rfl⟩ := g.on hb; clear hb
    go_wp2_with fail
    go_at_call 140
    refine (HU.out _).mono ?_
    rintro e w' ⟨rfl, hb⟩; obtain ⟨g, rfl⟩ := g.on hb; clear hb
    go_wp2_with fail
    go_at_call 140
    refine (HV.out _).mono ?_
    rintro e w' ⟨rfl, hb⟩; obtain ⟨g, rfl⟩ := g.on hb; clear hb
    go_wp2_with fail
    go_at_call 141
    refine (HN.out _).mono ?_
    rintro e w' ⟨rfl, hb⟩; obtain ⟨g, rfl⟩ := g.on hb; clear hb
    go_wp2_with fail
    go_ret2
    exact ⟨rfl, g.ok⟩
  all_goals
    clear hr
    go_enter Tryz.func112, Tryz.ntmps112
    go_wp2_with fail
    go_at_call 37
    refine (HC.out _ HE.out).mono ?_
    rintro e w' ⟨rfl, hb⟩; obtain ⟨g, rfl⟩ := Gr.of hb; clear hb
    go_wp2_with fail
    go_at_call 37
    refine (HC2.out _ (HE.out.gr g)).mono ?_
    rintro e w' ⟨rfl, hb⟩; obtain ⟨g, rfl⟩ := g.on hb; clear hb
    go_wp2_with fail
    go_at_call 140
    refine (HX.out _).mono ?_
    rintro e w' ⟨rfl, hb⟩; obtain ⟨g, rfl⟩ := g.on hb; clear hb
    go_wp2_with fail
    go_at_call 140
    refine (HU.out _).mono ?_
    rintro e w' ⟨rfl, hb⟩; obtain ⟨g, rfl⟩ := g.on hb; clear hb
    go_wp2_with fail
    go_at_call 140
    refine (HV.out _).mono ?_
    rintro e w' ⟨rfl, hb⟩; obtain ⟨g, rfl⟩ := g.on hb; clear hb
    go_wp2_with fail
    go_ret2
    exact ⟨rfl, g.ok⟩

theorem rs_ways (a b : Bool) (m d : Int) (r : Int × Bool) (hr : (if a = true ∧ b = true ∧ ¬ (m = 1440 ∧ d ≠ 109937) then (d * 1440 + m, true) else (0, false)) = r) :
    (a = false ∧ r = (0, false)) ∨ (a = true ∧ b = false ∧ r = (0, false)) ∨ (a = true ∧ b = true ∧ (m == 1440) = true ∧ (d != 109937) = true ∧ r = (0, false)) ∨
    (a = true ∧ b = true ∧ (m == 1440) = true ∧ (d != 109937) = false ∧ r = (d * 1440 + m, true)) ∨ (a = true ∧ b = true ∧ (m == 1440) = false ∧ r = (d * 1440 + m, true)) := by
  cases a <;> cases b <;> by_cases h1 : m = 1440 <;> by_cases h2 : d = 109937 <;> simp_all

theorem readst_any (s : ByteArray) (hs : s.size ≤ 1000000) (w : World) (hE : Env w) :
    Calls Tryz.prog 84 #[.string s] w fun e w' => e = .returned (.tuple #[.int .i64 (posN (readS s.data.toList)), .bool (posB (readS s.data.toList))]) ∧ Below w.heap.size w w' := by
  have hrm := rs_eq s.data.toList
  obtain ⟨r1, hr1⟩ : ∃ r, posN (readS s.data.toList) = r := ⟨_, rfl⟩
  obtain ⟨r2, hr2⟩ : ∃ r, posB (readS s.data.toList) = r := ⟨_, rfl⟩
  rw [hr1, hr2] at hrm ⊢
  clear hr1 hr2
  have HE := Lib.hid hE
  have HC := Lib.hid (fun w hE => cut_any s ⟨#[84]⟩ hs w hE)
  simp only at HC
  have cl := cut_len 84 s.data.toList
  have hsl : s.data.toList.length = s.size := by simp
  rw [hsl] at cl
  unfold rsV at hrm
  generalize Lib.cut s.data.toList [84] = c at *
  obtain ⟨x, y, fd⟩ := c
  simp only at HC hrm cl
  have HX := Lib.hid (fun w hE => readday_list x (by omega) w hE)
  have HY := Lib.hid (fun w hE => readmin_list y (by omega) w hE)
  rw [rm_eq y] at hrm
  have hbd := rday_bd (l := x)
  have hbm := readM_bd y
  have hpm : 0 ≤ posN (readM y) ∧ posN (readM y) ≤ 1440 := by unfold posN; split <;> omega
  generalize rdayV x = dv at *
  obtain ⟨dd, ab⟩ := dv
  simp only at HX hrm hbd
  generalize posN (readM y) = mm at *
  generalize posB (readM y) = bb at *
  obtain ⟨d1, d2⟩ := hbd
  obtain ⟨m1, m2⟩ := hpm
  clear hE hbm cl hsl
  rcases rs_ways ab bb mm dd (r1, r2) hrm with ⟨rfl, he⟩ | ⟨rfl, rfl, he⟩ | ⟨rfl, rfl, h1, h2, he⟩ | ⟨rfl, rfl, h1, h2, he⟩ | ⟨rfl, rfl, h1, he⟩
  all_goals
    clear hrm
    obtain ⟨rfl, rfl⟩ := Prod.mk.inj he
    clear he
    go_enter Tryz.func84, Tryz.ntmps84
    go_wp2_with fail
    go_at_call 37
    refine (HC.out _ HE.out).mono ?_
    rintro e w' ⟨rfl, hb⟩
    obtain ⟨g, rfl⟩ := Gr.of hb
    clear hb
    go_wp2_with fail
    go_at_call 112
    refine (HX.out _ (HE.out.gr g)).mono ?_
    rintro e w' ⟨rfl, hb⟩
    obtain ⟨g, rfl⟩ := g.on hb
    clear hb
    go_wp2_with fail
    go_at_call 113
    refine (HY.out _ (HE.out.gr g)).mono ?_
    rintro e w' ⟨rfl, hb⟩
    obtain ⟨g, rfl⟩ := g.on hb
    clear hb
    go_wp2_with fail
    go_ret2
    exact ⟨rfl, g.ok⟩

theorem stampT0 : stampT 0 = [49, 57, 48, 48, 45, 48, 49, 45, 48, 49, 84, 48, 48, 58, 48, 48] := by
  have h := Cal.dateOf_eq (y := 1900) (m := 1) (d := 1) (n := 0) (Cal.may_iff.1 (by decide)) (by decide)
  unfold stampT
  rw [show dayI 0 = 0 by decide, show minuteI 0 = 0 by decide, h.1, h.2.1, h.2.2]
  decide
end Go.Proofs.YtbclfcghacedfaaGreatDoor
end

/- The program's days of a set: an iterator's contract. -/
section
namespace Go.Proofs.YtbclfcghacedfaaGreatDoor
open Go.RowKit Go.Shelf Ck

attribute [local go_sem] Oper.semAt_some

/-- The days of a set, below the k-th. -/
def dl (set : Int) : Nat → List (Fin 7)
  | 0 => []
  | k + 1 => if set / 2 ^ k % 2 = 1 then dl set k ++ [Fin.ofNat 7 k] else dl set k
theorem dl_len (set : Int) (k : Nat) : (dl set k).length ≤ k := by
  induction k with
  | zero => exact Nat.le_refl _
  | succ k ih =>
    unfold dl
    split
    · rw [List.length_append]; simp; omega
    · omega
theorem dl_yes {set : Int} {k : Nat} (h : set / 2 ^ k % 2 = 1) : dl set (k + 1) = dl set k ++ [Fin.ofNat 7 k] := by rw [dl, if_pos h]
theorem dl_no {set : Int} {k : Nat} (h : ¬ set / 2 ^ k % 2 = 1) : dl set (k + 1) = dl set k := by rw [dl, if_neg h]
theorem dl_pre (set : Int) {k m : Nat} (h : k ≤ m) : dl set k <+: dl set m := by
  induction m with
  | zero => obtain rfl : k = 0 := by omega
            exact List.prefix_refl _
  | succ m ih =>
    by_cases e : k = m + 1
    · subst e; exact List.prefix_refl _
    · refine (ih (by omega)).trans ?_
      rw [show dl set (m + 1) = if set / 2 ^ m % 2 = 1 then dl set m ++ [Fin.ofNat 7 m] else dl set m from rfl]
      split
      · exact List.prefix_append _ _
      · exact List.prefix_refl _
/-- The text of some days. -/
def wtS (t : List UInt8) (x : Fin 7) : List UInt8 := if t = [] then nm x.val else t ++ [44] ++ nm x.val
def wt (l : List (Fin 7)) : List UInt8 := l.foldl wtS []
theorem wt_snoc (l : List (Fin 7)) (x : Fin 7) : wt (l ++ [x]) = wtS (wt l) x := by unfold wt; rw [List.foldl_append]; rfl
theorem wt_dl (set : Int) (k : Nat) (h : k ≤ 7) : wt (dl set k) = wdI set k := by
  induction k with
  | zero => rfl
  | succ k ih =>
    have hv : (Fin.ofNat 7 k).val = k := Nat.mod_eq_of_lt (by omega)
    rw [wdI]
    by_cases hb : set / 2 ^ k % 2 = 1
    · rw [dl_yes hb, wt_snoc, ih (by omega), if_pos hb]; unfold wtS; rw [hv]
    · rw [dl_no hb, ih (by omega), if_neg hb]
theorem wtF_len (l : List (Fin 7)) : ∀ t : List UInt8, (l.foldl wtS t).length ≤ t.length + 3 * l.length := by
  induction l with
  | nil => intro t; simp
  | cons x l ih =>
    intro t
    have h := ih (wtS t x)
    have h2 : (wtS t x).length ≤ t.length + 3 := by
      have h3 := nm_len x.val
      unfold wtS
      split
      · omega
      · simp only [List.length_append, List.length_cons, List.length_nil]; omega
    simp only [List.foldl_cons, List.length_cons]
    omega
theorem wt_len (l : List (Fin 7)) : (wt l).length ≤ 3 * l.length := by have := wtF_len l []; simpa [wt] using this

theorem wraps_i64 (n : Int) (h₀ : 0 ≤ n) (h₁ : n < 2 ^ 62) : IntKind.i64.wrap n = n := by rw [IntKind.wrap_i64]; omega
theorem and_one (x : Int) (h0 : 0 ≤ x) (h1 : x < 2 ^ 62) : bits .and .i64 x 1 = x % 2 := by
  have := bits_mask .i64 62 (by decide) wraps_i64 1 (by decide) x h0 h1
  simpa using this

/-- The iterator's own box is kept. -/
def KpC (Bs : Nat) (W W' : World) : Prop := W'.cell? ⟨Bs, 0, none⟩ = W.cell? ⟨Bs, 0, none⟩
theorem kpC_t {Bs : Nat} {A B C : World} (h1 : KpC Bs A B) (h2 : KpC Bs B C) : KpC Bs A C := Eq.trans h2 h1
theorem kpC_b {Bs : Nat} {w : World} (hb : Bs < w.heap.size) (W : World) (l : Nat) (o o' : Obj) (hl : w.heap.size ≤ l) (_ : W.heap[l]? = some o) (_ : o.isCells = false) (_ : o.isWalk = false) : KpC Bs W (W.putObj l o') := by
  unfold KpC World.cell?
  have : (W.putObj l o').heap[Bs]? = W.heap[Bs]? := by
    show (W.heap.setIfInBounds l o')[Bs]? = _
    rw [Array.getElem?_setIfInBounds_ne (by omega)]
  simp only [this]

set_option maxRecDepth 100000 in
set_option maxHeartbeats 2000000 in
theorem days1_in (F : Fence) (n : Nat) (h50 : F.fn 105) (hro : F.round = none) (hn : 1 ≤ n) (l Bs : Nat) (set : Int) (h0 : 0 ≤ set) (h1 : set < 128) (J Jx : List (Fin 7) → World → Prop)
    (hY : ∀ pre x W, J pre W → pre.length < 7 → YieldAt F (n - 1) Tryz.prog l #[.int .i64 (x.val : Int)] W fun e W' =>
      (e = .returned (.bool true) ∧ J (pre ++ [x]) W' ∧ KpC Bs W W') ∨ (e = .returned (.bool false) ∧ Jx (pre ++ [x]) W'))
    (W : World) (hBs : W.cell? ⟨Bs, 0, none⟩ = some (.int .i64 set)) (hJ0 : J [] W) :
    CallsIn F n Tryz.prog 105 #[.func (.yield l) #[] #[], .pointer (some ⟨Bs, 0, none⟩)] W fun e W' => (∃ v, e = .returned v) ∧
      ((∃ ys, ys = dl set 7 ∧ J ys W') ∨ (∃ pre, (∃ k, k ≤ 7 ∧ pre = dl set k) ∧ Jx pre W')) := by
  refine callsIn_of_wp Tryz.func105 rfl h50 ?_ hro
  simp only [Tryz.ntmps105, List.size_toArray, List.length_cons, List.length_nil, Nat.reduceAdd, Nat.reduceSub, Array.replicate_succ, Array.replicate_zero, List.push_toArray, List.append_toArray, List.nil_append, List.cons_append]
  gi_wp2
  gi_loopw [4] (fun i wr => ∃ k : Nat, k ≤ 7 ∧ i = .int .i64 k ∧ J (dl set k) wr ∧ wr.cell? ⟨Bs, 0, none⟩ = some (.int .i64 set))
    (fun i _ => 7 - (intOf i).toNat)
  case atStart => exact ⟨0, Nat.zero_le _, rfl, hJ0, hBs⟩
  case round =>
    obtain ⟨k, hk, rfl, hJs, hcx⟩ := hrel
    by_cases hlt : k < 7
    · have hkz : (k : Int) < 7 := by omega
      have hq0 := div2_nn h0 k
      have hq1 := div2_le h0 k
      by_cases hbit : set / 2 ^ k % 2 = 1
      · obtain ⟨fn, tmps, assign, body, hy, hR⟩ := hY _ (Fin.ofNat 7 k) wr hJs (by have := dl_len set k; omega)
        have hv : (Fin.ofNat 7 k).val = k := Nat.mod_eq_of_lt hlt
        rw [hv] at hy
        have hand : bits .and .i64 (set / 2 ^ k) 1 = 1 := by rw [and_one _ hq0 (by omega), hbit]
        have hdl := dl_yes hbit
        clear hbit
        gi_wp2
        refine hR.mono ?_
        rintro e W3 (⟨rfl, hJ3, hk3⟩ | ⟨rfl, hJx3⟩)
        · gi_wp2
          go_roundw
          case rel => exact ⟨k + 1, by omega, by simp, by rw [hdl]; exact hJ3, Eq.trans hk3 hcx⟩
          case measure => simp [intOf]; omega
        · gi_wp2
          refine bodyPost_ret (results_none rfl _ _ _) rfl ?_
          exact ⟨⟨_, rfl⟩, .inr ⟨_, ⟨k + 1, by omega, hdl.symm⟩, hJx3⟩⟩
      · have hand : bits .and .i64 (set / 2 ^ k) 1 = 0 := by rw [and_one _ hq0 (by omega)]; omega
        have hdl := dl_no hbit
        clear hbit
        gi_wp2
        refine ⟨fun _ h => (by cases h), ?_⟩
        gi_wp2
        go_roundw
        case rel => exact ⟨k + 1, by omega, by simp, by rw [hdl]; exact hJs, hcx⟩
        case measure => simp [intOf]; omega
    · obtain rfl : k = 7 := by omega
      gi_wp2
      go_end0
      exact ⟨⟨_, rfl⟩, .inl ⟨_, rfl, hJs⟩⟩

theorem days_in (F : Fence) (n : Nat) (h35 : F.fn 77) (hro : F.round = none) (set : Int) (w : World) :
    CallsIn F n Tryz.prog 77 #[.int .i64 set] w fun e w' => e = .returned (.func (.func 105) #[] #[.pointer (some ⟨w.heap.size, 0, none⟩)]) ∧ w' = w.alloc (.cells #[.int .i64 set] 3) := by
  refine callsIn_of_wp Tryz.func77 rfl h35 ?_ hro
  simp only [Tryz.ntmps77, List.size_toArray, List.length_cons, List.length_nil, Nat.reduceAdd, Nat.reduceSub, Array.replicate_succ, Array.replicate_zero, List.push_toArray, List.append_toArray, List.nil_append, List.cons_append]
  gi_wp2
  go_ret
  exact ⟨rfl, rfl⟩
theorem days_stops (F : Fence) (n : Nat) (h50 : F.fn 105) (hro : F.round = none) (hn : 1 ≤ n) (Bs : Nat) (set : Int) (h0 : 0 ≤ set) (h1 : set < 128) (w : World) (hBs : Bs < w.heap.size)
    (hc : w.cell? ⟨Bs, 0, none⟩ = some (.int .i64 set)) :
    SeqStopsK F n Tryz.prog 105 #[.pointer (some ⟨Bs, 0, none⟩)] (fun x : Fin 7 => #[Value.int .i64 (x.val : Int)]) (KpC Bs) (fun ys => ys = dl set 7) (fun pre => pre <+: dl set 7) 7 w := fun l J Jx W hW _ _ hY hJ0 => by
  have hc' := (hW.cell (p := ⟨Bs, 0, none⟩) hBs).trans hc
  refine (days1_in F n h50 hro hn l Bs set h0 h1 J Jx hY W hc' hJ0).mono ?_
  rintro e W' ⟨he, ⟨ys, rfl, hj⟩ | ⟨pre, ⟨k, hk, rfl⟩, hj⟩⟩
  · exact ⟨he, .inl ⟨_, rfl, hj⟩⟩
  · exact ⟨he, .inr ⟨_, dl_pre set hk, hj⟩⟩
end Go.Proofs.YtbclfcghacedfaaGreatDoor
end

/- Contracts of the program's weekdays. -/
section
namespace Go.Proofs.YtbclfcghacedfaaGreatDoor
open Go.RowKit Go.Shelf Ck

attribute [local go_sem] Oper.semAt_some

/-- The names of the days, in the program's table. -/
def Names (w : World) : Prop := ∀ i, i < 7 → w.cell? ⟨1, i, none⟩ = some (.string ⟨(nm i).toArray⟩)
theorem Names.below {w w' : World} (h : Names w) (hb : Below w.heap.size w w') : Names w' := fun i hi => cell_old (h i hi) hb

theorem cell_new_l (W : World) (v : Value) (t : TypeId) : (W.alloc (.cells #[v] t)).cell? ⟨W.heap.size, 0, none⟩ = some v ∧ (W.alloc (.cells #[v] t)).frozen? ⟨W.heap.size, 0, none⟩ = false := by
  refine ⟨?_, World.frozen?_alloc_at #[v] t _ _ rfl⟩
  rw [World.cell?_alloc_mark]; rfl
theorem cell_alloc_l {W : World} {a : Addr} {v : Value} (o : Obj) (h : W.cell? a = some v) : (W.alloc o).cell? a = some v := cell_kept h (World.grownBy_alloc W o none) (fun r e => by cases e)
theorem frozen_alloc_l {W : World} {a : Addr} {v : Value} (o : Obj) (h : W.cell? a = some v) (hf : W.frozen? a = false) : (W.alloc o).frozen? a = false := (frozen_kept h (World.grownBy_alloc W o none) (fun r e => by cases e)).trans hf

set_option maxRecDepth 100000 in
set_option maxHeartbeats 2000000 in
theorem weekdays_in (F : Fence) (n : Nat) (h19 : F.fn 48) (h35 : F.fn 77) (h50 : F.fn 105) (hro : F.round = none) (hn : 3 ≤ n) (set : Int) (h0 : 1 ≤ set) (hs : set < 128) (w : World) (hN : Names w) :
    CallsIn F n Tryz.prog 48 #[.int .i64 set] w fun e W' => e = .returned (.tuple #[.string ⟨(wt (dl set 7)).toArray⟩, .bool true]) ∧ Below w.heap.size w W' := by
  have h1 : 1 ≤ n := by omega
  have q0 : decide (set < 0) = false := decide_eq_false (by omega)
  have q1 : decide (127 < set) = false := decide_eq_false (by omega)
  have q2 : (set == 0) = false := beq_false_of_ne (by omega)
  refine callsIn_of_wp_marks Tryz.func48 rfl h19 ?_ hro
  simp only [Tryz.ntmps48, List.size_toArray, List.length_cons, List.length_nil, Nat.reduceAdd, Nat.reduceSub, Array.replicate_succ, Array.replicate_zero, List.push_toArray, List.append_toArray, List.nil_append, List.cons_append]
  gi_wp2_with (gi_at_call 77; refine (days_in F (n - 1) h35 hro set _).mono ?_; rintro e w' ⟨rfl, rfl⟩)
  have hs1 := cell_new_l w (.string ⟨#[]⟩) 9
  have hb1 := cell_new_l (w.alloc (.cells #[.string ⟨#[]⟩] 9)) (.int .i64 set) 3
  rw [World.size_alloc] at hb1
  have hB0 : Below w.heap.size w ((w.alloc (.cells #[.string ⟨#[]⟩] 9)).alloc (.cells #[.int .i64 set] 3)) := ((Below.refl _ w).alloc (Nat.le_refl _) _).alloc (by simp) _
  refine wpIn_rangeFunc_ownF hro h1 (gf := 105) (lb := #[.pointer (some ⟨w.heap.size + 1, 0, none⟩)]) rfl h50 (enters_of Tryz.func105 (by kernel_rfl) rfl)
    (days_stops F (n - 1) h50 hro (by omega) (w.heap.size + 1) set (by omega) hs _ (by simp) hb1.1) kpC_t (kpC_b (by simp)) (Below.refl _ _) (fun _ => rfl)
    (fun pre W => (W.cell? ⟨w.heap.size, 0, none⟩ = some (.string ⟨(wt pre).toArray⟩) ∧ W.frozen? ⟨w.heap.size, 0, none⟩ = false) ∧ Below w.heap.size w W)
    (fun _ _ _ => False)
    (OwnFrom.and (Own.from (fun s A B row hs hg hr => ⟨cell_kept hs.1 hg hr, (frozen_kept hs.1 hg hr).trans hs.2⟩) _) (ownFrom_below (Nat.le_refl _) (by simp; omega)))
    (fun _ _ _ _ _ hs _ _ => hs)
    ⟨⟨cell_alloc_l _ hs1.1, frozen_alloc_l _ hs1.1 hs1.2⟩, hB0⟩
    (fun x => { tmps := #[Value.int IntKind.i64 set, undef, Value.string { data := #[] }, Value.bool false, Value.pointer (some { block := w.heap.size, off := 0 }), .int .i64 (x.val : Int), Value.int IntKind.i64 set, Value.bool false,
          Value.bool false, Value.int IntKind.i64 set, Value.bool false, Value.bool false, Value.int IntKind.i64 set, Value.bool false, Value.int IntKind.i64 set,
          Value.func (Fn.func 105) #[] #[Value.pointer (some { block := w.heap.size + 1, off := 0 })], .int .i64 (x.val : Int), undef, undef, undef, undef, undef, undef, undef, undef, undef, undef], defers := [] }) ?assign ?body ?done ?stop
  case assign =>
    intro l x W K hK
    gi_wp2
    exact hK
  case body =>
    rintro l pre x W ⟨⟨hc, hf⟩, hB⟩ hlen
    have hmx : Tryz.prog.follows .mixedOrders = true := by kernel_rfl
    obtain ⟨x, hx⟩ := x
    have hl := wt_len pre
    have hxz : (x : Int) < 7 := by omega
    have hx0 : (0 : Int) ≤ (x : Int) := by omega
    have hname := hN.below hB x hx
    have hname2 : ∀ v, (W.setCell ⟨w.heap.size, 0, none⟩ v).cell? ⟨1, x, none⟩ = some (.string ⟨(nm x).toArray⟩) := fun v => by
      rw [World.cell?_setCell_other _ _ _ _ (by intro e; have h8 : w.heap.size = 1 := congrArg Addr.block e; have h9 : 1 < w.heap.size := World.block_lt_of_cell? _ _ (hN x hx); omega)]; exact hname
    have hnl : (nm x).length ≤ 10 := by rw [nm_len]; omega
    have HW : Hid (wt (pre ++ [⟨x, hx⟩]) = wtS (wt pre) ⟨x, hx⟩) := wt_snoc _ _
    have hlw : w.heap.size < W.heap.size := World.block_lt_of_cell? _ _ hc
    have hl2 : (wt pre).length ≤ 18 := by omega
    generalize wt pre = t at *
    cases t with
    | nil =>
      have HE : Hid (wt (pre ++ [⟨x, hx⟩]) = nm x) := by show _ = _; rw [HW.out]; rfl
      clear HW
      gi_wp2
      gi_region_o
      all_goals gi_wp2
      all_goals (try go_bits)
      all_goals exact ⟨(KeepsOthers.setCell _ _ _).trans (KeepsOthers.drew _), (World.cell?_setCell_other _ _ _ _ (by intro e; have := congrArg Addr.block e; simp at this)), ⟨by rw [HE.out]; exact (World.cell?_setCell_same' _ _ _ (by rw [hc]; rfl)).trans (congrArg (fun z => some (Value.string z)) (ByteArray.mk_append_mk [] (nm x))), by rw [frozen_drew_own, World.frozen?_setCell]; exact hf⟩, (hB.setCell (p := ⟨w.heap.size, 0, none⟩) (Nat.le_refl _) _).drew⟩
    | cons c r =>
      have HE : Hid (wt (pre ++ [⟨x, hx⟩]) = c :: r ++ [44] ++ nm x) := by show _ = _; rw [HW.out]; rfl
      clear HW
      have hoth : ∀ (A : World) (v : Value), (A.setCell ⟨w.heap.size, 0, none⟩ v).cell? ⟨w.heap.size + 1, 0, none⟩ = A.cell? ⟨w.heap.size + 1, 0, none⟩ := fun A v => World.cell?_setCell_other _ _ _ _ (by intro e; have := congrArg Addr.block e; simp at this)
      have hr : r.length ≤ 17 := by simpa using hl2
      clear hl hl2
      gi_wp2
      gi_region_o
      all_goals gi_wp2
      all_goals (try go_bits)
      all_goals exact ⟨((KeepsOthers.setCell _ _ _).trans (KeepsOthers.setCell _ _ _)).trans (KeepsOthers.drew _), (hoth _ _).trans (hoth _ _), ⟨by rw [HE.out]; exact (World.cell?_setCell_same' _ _ _ (by rw [World.cell?_setCell_same' _ _ _ (by rw [hc]; rfl)]; rfl)).trans (congrArg (fun z => some (Value.string z)) (app3 (c :: r) [44] (nm x))), by rw [frozen_drew_own, World.frozen?_setCell, World.frozen?_setCell]; exact hf⟩, ((hB.setCell (p := ⟨w.heap.size, 0, none⟩) (Nat.le_refl _) _).setCell (p := ⟨w.heap.size, 0, none⟩) (Nat.le_refl _) _).drew⟩
  case done =>
    rintro D ys W hD rfl ⟨⟨hc, _⟩, hB⟩ hK
    gi_wp2
    refine ⟨by simp, .inl ⟨_, _, rfl, run_takeDeferred hK, ?_⟩⟩
    exact ⟨_, results_tmp2 rfl _ _ _, rfl, hB.trans (belowK_b (w := w) (Nat.le_refl _) W D _ _ (by simp at hD; omega) hK rfl rfl)⟩
  case stop =>
    rintro D c pre W _ _ h _
    exact h.elim

theorem wdI_some : ∀ n : Fin 128, n.val ≠ 0 → wdI (n.val : Int) 7 ≠ [] := by decide +kernel
theorem wdT_zero : wdT 0 = [45] := by decide
theorem weekdays_no (n : Int) (h : n < 0 ∨ 127 < n) (w : World) :
    Calls Tryz.prog 48 #[.int .i64 n] w fun e w' => e = .returned (.tuple #[.string ⟨#[]⟩, .bool false]) ∧ w = w' := by
  rcases h with h | h
  · go_enter Tryz.func48, Tryz.ntmps48
    go_wp2
    go_ret2
    exact ⟨rfl, rfl⟩
  · have h0 : decide (n < 0) = false := decide_eq_false (by omega)
    go_enter Tryz.func48, Tryz.ntmps48
    go_wp2
    go_ret2
    exact ⟨rfl, rfl⟩
theorem weekdays_zero (w : World) :
    Calls Tryz.prog 48 #[.int .i64 0] w fun e w' => e = .returned (.tuple #[.string ⟨#[45]⟩, .bool true]) ∧ w = w' := by
  go_enter Tryz.func48, Tryz.ntmps48
  go_wp2
  go_ret2
  exact ⟨rfl, rfl⟩
theorem weekdays_yes (n : Int) (h0 : 0 ≤ n) (h1 : n < 128) (w : World) (hN : Names w) :
    Calls Tryz.prog 48 #[.int .i64 n] w fun e w' => e = .returned (.tuple #[.string ⟨(wdT n).toArray⟩, .bool true]) ∧ Below w.heap.size w w' := by
  by_cases hz : n = 0
  · subst hz
    rw [wdT_zero]
    exact (weekdays_zero w).mono fun e w' ⟨a, b⟩ => ⟨a, by rw [← b]; exact Below.refl _ _⟩
  · have := callsIn_wide.1 (weekdays_in Fence.wide 9 trivial trivial trivial rfl (by omega) n (by omega) h1 w hN)
    have hne := wdI_some ⟨n.toNat, by omega⟩ (by simp; omega)
    rw [show (((⟨n.toNat, by omega⟩ : Fin 128).val : Nat) : Int) = n by simp; omega] at hne
    have e : wdT n = wdI n 7 := by unfold wdT; rw [if_neg hne]
    rw [wt_dl n 7 (Nat.le_refl _), ← e] at this
    exact this
end Go.Proofs.YtbclfcghacedfaaGreatDoor
end
