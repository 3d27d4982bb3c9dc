/- Contracts of the program's rows of spans: the minutes in both of two rows; those in a window. -/
import Derived.Test.YtdpgmhjhmccfnaaSP4
import Derived.BigRegion
import Derived.Deep.CutRange
namespace Go.Proofs.Ytdpgmhjhmccfnaa
open Go.ChangeShapes Go.WideShapes Go.ChangeAt Go.RowKit Go.Joins Sp

/-- How many elements a slice has. -/
def slen : Value → Nat
  | .slice _ n _ => n
  | _ => 0
/-- Two rows in their forms are gone through together. -/
structure Mt (w2 wr : World) (fa fb : List Spn) (i j k n0 n1 c0 c1 cv : Nat) (A0 A1 Av : Option Addr) (out : List Spn) : Prop where
  meets : ∃ y, Meets fa fb i j y out
  e0 : n0 + i = fa.length
  e1 : n1 + j = fb.length
  s0 : Sl w2 A0 n0 c0 (sv (fa.drop i))
  s1 : Sl w2 A1 n1 c1 (sv (fb.drop j))
  len : out.length = k
  le : k ≤ i + j
  own : wr.ownsRow w2.heap.size 32 2 (.slice Av k cv) k (sv out)
theorem head_drop {l : List Spn} {n i : Nat} (h : n + 1 + i = l.length) : ∃ s, l[i]? = some s ∧ (l.drop i)[0]? = some s := by
  obtain ⟨s, hs⟩ : ∃ s, l[i]? = some s := ⟨_, List.getElem?_eq_getElem (by omega)⟩
  exact ⟨s, hs, by rw [List.getElem?_drop]; exact hs⟩
/-- A row's rest behind its first span. -/
theorem sl_tail {w : World} {l : List Spn} {A : Option Addr} {n i c : Nat} (h : n + 1 + i = l.length) (hs : Sl w A (n + 1) c (sv (l.drop i))) :
    ∃ A2, (∀ w' : World, (Instr.sliceAt 22 (.slice A (n + 1) c) (some (.int .i64 1)) none none).run Try.prog w' = .ok (.slice A2 n (c - 1)) w') ∧ Sl w A2 n (c - 1) (sv (l.drop (i + 1))) := by
  obtain ⟨A1, A2, _, e2, _, q2⟩ := hs.cut (P := Try.prog) (k := 1) (s := 2) (by omega) (by rw [sv_len, List.length_drop]; omega) (t := 22) Try.underlying22 (fun w' => by kernel_rfl)
  refine ⟨A2, e2, ?_⟩
  have e : (sv (l.drop i)).drop (1 * 2) = sv (l.drop (i + 1)) := by
    have h1 : l.drop i = l[i] :: l.drop (i + 1) := List.drop_eq_getElem_cons (by omega)
    rw [h1]; rfl
  rw [e] at q2
  exact q2

set_option maxRecDepth 100000 in
set_option maxHeartbeats 4000000 in
theorem pmeet13_any (a b : List Spn) (A B : Option Addr) (ca cb : Nat) (w : World) (hla : a.length ≤ 100000) (hlb : b.length ≤ 100000) (ha : Sl w A a.length ca (sv a)) (hb : Sl w B b.length cb (sv b)) :
    Calls Try.prog 17 #[.slice A a.length ca, .slice B b.length cb] w (RetS (pair (cW 1) a b) w) := by
  obtain ⟨i0, hi0, hq0, hq1, hq2⟩ := info_parts span_info
  have HF1 := Lib.hid (pform13_any a A ca w (by omega) ha)
  have HF2 : Hid (∀ g : Gr w, Calls Try.prog 9 #[.slice B b.length cb] g.val (RetO (formL b) g.val)) := fun g => pform13_any b B cb g.val (by omega) (hb.gr g)
  have HE : Hid (pair (cW 1) (formL a) (formL b) = pair (cW 1) a b) := pairW_forms 1 a b
  have hfa := formL_form a
  have hfb := formL_form b
  have hna := form_len a
  have hnb := form_len b
  generalize formL a = fa at *
  generalize formL b = fb at *
  have HFA := Lib.hid hfa
  have HFB := Lib.hid hfb
  clear ha hb hfa hfb
  go_enter Try.func17, Try.ntmps17
  go_wp2_with fail
  go_at_call 9
  refine HF1.out.mono ?_
  rintro e w1 ⟨v1, rfl, hown1, hb1⟩
  obtain ⟨A1, c1, rfl, hsl1⟩ := Sl.of_own hown1
  have HB1 := Lib.hid hb1
  have HS1 := Lib.hid hsl1
  clear hown1 hsl1 hb1 HF1
  go_wp2_with fail
  go_at_call 9
  refine (HF2.out ⟨w1, HB1.out⟩).mono ?_
  rintro e w2 ⟨v2, rfl, hown2, hb2⟩
  obtain ⟨A2, c2, rfl, hsl2⟩ := Sl.of_own hown2
  have HB2 := Lib.hid (HB1.out.trans (hb2.mono HB1.out.size))
  have HS2 := Lib.hid hsl2
  have HS1' := Lib.hid (HS1.out.below hb2 (Nat.le_refl _))
  clear hown2 hsl2 hb2 HF2 HS1 HB1
  go_wp2_with fail
  go_loopw [0, 1, 5] (fun s0 s1 s5 wr => ∃ (i j k n0 n1 c0 c1 cv : Nat) (A0 A1 Av : Option Addr) (out : List Spn) (g : Gr w2), wr = g.val ∧ s0 = .slice A0 n0 c0 ∧ s1 = .slice A1 n1 c1 ∧ s5 = .slice Av k cv ∧ n0 ≤ fa.length ∧ n1 ≤ fb.length ∧ Hid (Mt w2 g.val fa fb i j k n0 n1 c0 c1 cv A0 A1 Av out)) (fun s0 s1 _ _ => slen s0 + slen s1)
  case atStart => exact ⟨0, 0, 0, fa.length, fb.length, c1, c2, 0, A1, A2, none, [], ⟨w2, Below.refl _ _⟩, rfl, rfl, rfl, rfl, Nat.le_refl _, Nat.le_refl _, ⟨Meets.start HFA.out HFB.out, by omega, by omega, HS1'.out, HS2.out, rfl, Nat.le_refl _, World.ownsRow_nil _ _ _ _⟩⟩
  case round =>
    obtain ⟨i, j, k, n0, n1, c0, c1, cv, A0, A1, Av, out, g, rfl, rfl, rfl, rfl, hn0, hn1, HM⟩ := hrel
    have hk0 := HM.out.e0
    have hk1 := HM.out.e1
    have hEND : Hid (n0 = 0 ∨ n1 = 0 → out = pair (cW 1) fa fb) := fun q => by
      obtain ⟨y, hy⟩ := HM.out.meets
      exact hy.ends (by have := HM.out.e0; have := HM.out.e1; omega) HFA.out HFB.out
    have hret : Hid (n0 = 0 ∨ n1 = 0 → RetS (pair (cW 1) a b) w (.returned (.slice Av k cv)) g.val) := fun q => by
      obtain ⟨A', c', e, hsl⟩ := Sl.of_own HM.out.own
      simp only [Value.slice.injEq, true_and] at e
      obtain ⟨rfl, rfl⟩ := e
      have e2 : out = pair (cW 1) a b := (hEND.out q).trans HE.out
      have hl := HM.out.len
      subst e2
      subst hl
      exact ⟨_, _, rfl, hsl, HB2.out.trans (g.ok.mono HB2.out.size)⟩
    rcases Nat.eq_zero_or_pos n0 with rfl | h0
    · have hz : ¬ (0 : Int) < ((0 : Nat) : Int) := by omega
      go_wp2_with fail
      go_ret
      exact hret.out (.inl (by trivial))
    obtain ⟨m0, rfl⟩ : ∃ m0, n0 = m0 + 1 := ⟨n0 - 1, by omega⟩
    have hz0 : (0 : Int) < (m0 : Int) + 1 := by omega
    have hz0b : decide ((0 : Int) < (m0 : Int) + 1) = true := decide_eq_true hz0
    rcases Nat.eq_zero_or_pos n1 with rfl | h1
    · have hz : ¬ (0 : Int) < ((0 : Nat) : Int) := by omega
      go_wp2_with fail
      go_ret
      exact hret.out (.inr (by trivial))
    obtain ⟨m1, rfl⟩ : ∃ m1, n1 = m1 + 1 := ⟨n1 - 1, by omega⟩
    have hz1 : (0 : Int) < (m1 : Int) + 1 := by omega
    have hz1b : decide ((0 : Int) < (m1 : Int) + 1) = true := decide_eq_true hz1
    obtain ⟨⟨s1, s2⟩, hs, hsd⟩ := head_drop (l := fa) HM.out.e0
    obtain ⟨⟨t1, t2⟩, ht, htd⟩ := head_drop (l := fb) HM.out.e1
    obtain ⟨ba, oa, rfl, hba, hca⟩ := HM.out.s0.spanG hsd
    obtain ⟨bb, ob, rfl, hbb, hcb⟩ := HM.out.s1.spanG htd
    have hCA : ∀ G : Gr w2, G.val.cell? ⟨ba, oa, none⟩ = some (.int .i64 s1) ∧ G.val.cell? ⟨ba, oa + 1, none⟩ = some (.int .i64 s2) := fun G => by simpa using hca G
    have hCB : ∀ G : Gr w2, G.val.cell? ⟨bb, ob, none⟩ = some (.int .i64 t1) ∧ G.val.cell? ⟨bb, ob + 1, none⟩ = some (.int .i64 t2) := fun G => by simpa using hcb G
    obtain ⟨A0', eA, hA'⟩ := sl_tail HM.out.e0 HM.out.s0
    obtain ⟨B0', eB, hB'⟩ := sl_tail HM.out.e1 HM.out.s1
    have HTA := Lib.hid hA'
    have EA := Lib.hid eA
    have EB := Lib.hid eB
    clear eA eB
    have HTB := Lib.hid hB'
    have hNA : s2 ≤ t2 → ∃ y, Meets fa fb (i + 1) j y (if max s1 t1 < min s2 t2 then out ++ [(max s1 t1, min s2 t2)] else out) := fun q => by
      obtain ⟨y, hy⟩ := HM.out.meets
      exact ⟨_, hy.stepA HFA.out HFB.out hs ht q⟩
    have hNB : t2 ≤ s2 → ∃ y, Meets fa fb i (j + 1) y (if max s1 t1 < min s2 t2 then out ++ [(max s1 t1, min s2 t2)] else out) := fun q => by
      obtain ⟨y, hy⟩ := HM.out.meets
      exact ⟨_, hy.stepB HFA.out HFB.out hs ht q⟩
    obtain ⟨x1, hx1⟩ : ∃ x1, max s1 t1 = x1 := ⟨_, rfl⟩
    obtain ⟨x2, hx2⟩ : ∃ x2, min s2 t2 = x2 := ⟨_, rfl⟩
    have hx11 : (if s1 < t1 then t1 else s1) = x1 := by rw [← hx1]; split <;> omega
    have hx12 : (if s1 ≤ t1 then t1 else s1) = x1 := by rw [← hx1]; split <;> omega
    have hx13 : (if t1 < s1 then s1 else t1) = x1 := by rw [← hx1]; split <;> omega
    have hx14 : (if t1 ≤ s1 then s1 else t1) = x1 := by rw [← hx1]; split <;> omega
    have hx21 : (if s2 < t2 then s2 else t2) = x2 := by rw [← hx2]; split <;> omega
    have hx22 : (if s2 ≤ t2 then s2 else t2) = x2 := by rw [← hx2]; split <;> omega
    have hx23 : (if t2 < s2 then t2 else s2) = x2 := by rw [← hx2]; split <;> omega
    have hx24 : (if t2 ≤ s2 then t2 else s2) = x2 := by rw [← hx2]; split <;> omega
    rw [hx1, hx2] at hNA hNB
    have HNA := Lib.hid hNA
    have HNB := Lib.hid hNB
    have hkz : k ≤ 200000 := by have := HM.out.le; have := HM.out.e0; have := HM.out.e1; omega
    have hmx : k + 1 ≤ maxLen := by unfold maxLen; omega
    have hby : (k + 1) * 16 ≤ 140737488355328 := by omega
    have HCA := Lib.hid hCA
    have HCB := Lib.hid hCB
    obtain ⟨a1, a2⟩ := hCA g
    obtain ⟨b1, b2⟩ := hCB g
    clear hca hcb hCA hCB hA' hB' hNA hNB hEND hret hk0 hk1 hs hsd ht htd
    obtain ⟨W0, hW0⟩ : ∃ W0, g.val = W0 := ⟨_, rfl⟩
    have hg0 : Below w2.heap.size w2 W0 := by rw [← hW0]; exact g.ok
    have HO0 : Hid (W0.ownsRow w2.heap.size 32 2 (.slice Av k cv) k (sv out)) := by rw [← hW0]; exact HM.out.own
    have HLEN := Lib.hid (And.intro HM.out.len (And.intro HM.out.le (And.intro HM.out.e0 HM.out.e1)))
    have HSS := Lib.hid (And.intro HM.out.s0 HM.out.s1)
    rw [hW0] at a1 a2 b1 b2 ⊢
    clear hW0 HM
    have u1 : ∀ o : Obj, (W0.alloc o).cell? ⟨ba, oa, none⟩ = some (.int .i64 s1) := fun o => cell_old a1 ((Below.refl _ _).alloc (Nat.le_refl _) o)
    have u2 : ∀ o : Obj, (W0.alloc o).cell? ⟨ba, oa + 1, none⟩ = some (.int .i64 s2) := fun o => cell_old a2 ((Below.refl _ _).alloc (Nat.le_refl _) o)
    have u3 : ∀ o : Obj, (W0.alloc o).cell? ⟨bb, ob, none⟩ = some (.int .i64 t1) := fun o => cell_old b1 ((Below.refl _ _).alloc (Nat.le_refl _) o)
    have u4 : ∀ o : Obj, (W0.alloc o).cell? ⟨bb, ob + 1, none⟩ = some (.int .i64 t2) := fun o => cell_old b2 ((Below.refl _ _).alloc (Nat.le_refl _) o)
    obtain ⟨W1, hW1⟩ : ∃ W1, (W0.alloc (.cells #[.int .i64 x1, .int .i64 x2] 32)).drew = W1 := ⟨_, rfl⟩
    have hB01 : Below W0.heap.size W0 W1 := by rw [← hW1]; exact ((Below.refl _ _).alloc (Nat.le_refl _) _).drew
    have hblk : W1.heap[W0.heap.size]? = some (.cells #[.int .i64 x1, .int .i64 x2] 32 (0, 0)) := by rw [← hW1]; exact heap_alloc_new W0 _
    have HO : Hid (W1.ownsRow w2.heap.size 32 2 (.slice Av k cv) k (sv out)) := own_off HO0.out (F := fun _ => False) (.of_below hB01) (fun _ _ => id)
    have k0 := blk_cell hblk (i := 0) rfl
    have k1 := blk_cell hblk (i := 1) rfl
    have hg1 : Below w2.heap.size w2 W1 := hg0.trans (hB01.mono hg0.size)
    have HG1 := Lib.hid hg1
    have E1 := Lib.hid hW1
    clear hg1 hW1 hblk hB01 hg0
    go_upto_region 4 with fail
    go_cut [6] from 11 to 59 (fun s6 wx => s6 = .pointer (some ⟨W0.heap.size, 0, none⟩) ∧ wx = (W0.alloc (.cells #[.int .i64 x1, .int .i64 x2] 32)).drew)
    case first =>
      clear k0 k1
      go_region
      go_wp2_with fail
      go_meet
      case rel => exact ⟨rfl, rfl⟩
    case rest =>
    obtain ⟨rfl, rfl⟩ := hcut
    rw [E1.out]
    clear hx1 hx2 hx11 hx12 hx13 hx14 hx21 hx22 hx23 hx24 u1 u2 u3 u4 a1 a2 b1 b2 hz0 hz0b hz1 hz1b h0 h1
    by_cases hx : x1 < x2
    · have hxb : decide (x1 < x2) = true := decide_eq_true hx
      rw [if_pos hx] at HNA HNB
      go_upto_region 7 with (refine wpList_append_lies _ rfl _ _ _ (by rfl) w2.heap.size 32 i0 _ 2 16 Try.underlying22 hi0 hq0 hq1 hq2 rfl (by decide) (.slice Av k cv) k _ (by rfl) (own_off HO.out (F := fun _ => False) (.of_below ((Below.refl _ _).alloc (Nat.le_refl _) _)) (fun _ _ => id)) ⟨W1.heap.size, 0, none⟩ 1 1 [.int .i64 x1, .int .i64 x2] (by rfl) (by rfl) (World.news_of_block (cs := #[.int .i64 x1, .int .i64 x2]) (t := 32) (fr := (0, 0)) (heap_alloc_new _ _)) (by simp [Value.oneCell']) (Nat.lt_succ_self 0) hmx hby (by simp; have := HG1.out.size; omega) _ rfl ?_; intro gg cap2 w5 hown3 hgr3 hat3 hlt3)
      have hB5 : Below w2.heap.size w2 w5 := (HG1.out.alloc HG1.out.size _).grown hgr3 (by simp; have := HG1.out.size; omega) (fun kk hk => (HO.out.lt kk hk).1)
      obtain ⟨g5, rfl⟩ := Gr.of hB5
      have HW5 := Lib.hid hown3
      clear hown3 hgr3 hat3 hB5 k0 k1
      obtain ⟨_, a2⟩ := HCA.out g5
      obtain ⟨_, b2⟩ := HCB.out g5
      go_quiet (fail)
      obtain ⟨g6, hg6⟩ := g5.on (drewN_below g5.val nq)
      have HW6 : Hid (g6.val.ownsRow w2.heap.size 32 2 (.slice (some ⟨gg, 0, none⟩) (k + 1) cap2) (k + 1) (sv out ++ [.int .i64 x1, .int .i64 x2])) := by show World.ownsRow _ _ _ _ _ _ _; rw [← hg6]; exact own_off HW5.out (F := fun _ => False) (.of_below (drewN_below _ _)) (fun _ _ => id)
      rw [hg6]
      clear hg6
      have eA := EA.out
      have eB := EB.out
      by_cases hst : s2 < t2
      · have hstb : decide (s2 < t2) = true := decide_eq_true hst
        go_wp2_with fail
        go_roundw
        case rel =>
          obtain ⟨l1, l2, l3, l4⟩ := HLEN.out
          exact ⟨i + 1, j, k + 1, m0, m1 + 1, c0 - 1, c1, cap2, A0', some ⟨bb, ob, none⟩, some ⟨gg, 0, none⟩, out ++ [(x1, x2)], g6, rfl, rfl, by first | rfl | simp, by first | rfl | simp, by omega, by omega, ⟨HNA.out (by omega), by omega, l4, HTA.out, HSS.out.2, by simp; omega, by omega, by rw [sv_app]; exact HW6.out⟩⟩
        case measure => simp [slen]
      · have hstb : decide (s2 < t2) = false := decide_eq_false hst
        go_wp2_with fail
        go_roundw
        case rel =>
          obtain ⟨l1, l2, l3, l4⟩ := HLEN.out
          exact ⟨i, j + 1, k + 1, m0 + 1, m1, c0, c1 - 1, cap2, some ⟨ba, oa, none⟩, B0', some ⟨gg, 0, none⟩, out ++ [(x1, x2)], g6, rfl, by first | rfl | simp, rfl, by first | rfl | simp, by omega, by omega, ⟨HNB.out (by omega), l3, by omega, HSS.out.1, HTB.out, by simp; omega, by omega, by rw [sv_app]; exact HW6.out⟩⟩
        case measure => simp [slen]
    · have hxb : decide (x1 < x2) = false := decide_eq_false hx
      rw [if_neg hx] at HNA HNB
      go_upto_region 7 with fail
      obtain ⟨g5, rfl⟩ := Gr.of HG1.out
      have HW5 := Lib.hid HO.out
      clear k0 k1
      obtain ⟨_, a2⟩ := HCA.out g5
      obtain ⟨_, b2⟩ := HCB.out g5
      go_quiet (fail)
      obtain ⟨g6, hg6⟩ := g5.on (drewN_below g5.val nq)
      have HW6 : Hid (g6.val.ownsRow w2.heap.size 32 2 (.slice Av k cv) k (sv out)) := by show World.ownsRow _ _ _ _ _ _ _; rw [← hg6]; exact own_off HW5.out (F := fun _ => False) (.of_below (drewN_below _ _)) (fun _ _ => id)
      rw [hg6]
      clear hg6
      have eA := EA.out
      have eB := EB.out
      by_cases hst : s2 < t2
      · have hstb : decide (s2 < t2) = true := decide_eq_true hst
        go_wp2_with fail
        go_roundw
        case rel =>
          obtain ⟨l1, l2, l3, l4⟩ := HLEN.out
          exact ⟨i + 1, j, k, m0, m1 + 1, c0 - 1, c1, cv, A0', some ⟨bb, ob, none⟩, Av, out, g6, rfl, rfl, by first | rfl | simp, by first | rfl | simp, by omega, by omega, ⟨HNA.out (by omega), by omega, l4, HTA.out, HSS.out.2, l1, by omega, HW6.out⟩⟩
        case measure => simp [slen]
      · have hstb : decide (s2 < t2) = false := decide_eq_false hst
        go_wp2_with fail
        go_roundw
        case rel =>
          obtain ⟨l1, l2, l3, l4⟩ := HLEN.out
          exact ⟨i, j + 1, k, m0 + 1, m1, c0, c1 - 1, cv, some ⟨ba, oa, none⟩, B0', Av, out, g6, rfl, by first | rfl | simp, rfl, by first | rfl | simp, by omega, by omega, ⟨HNB.out (by omega), l3, by omega, HSS.out.1, HTB.out, l1, by omega, HW6.out⟩⟩
        case measure => simp [slen]
end Go.Proofs.Ytdpgmhjhmccfnaa
