/- Contracts of the program's rows of spans: the minutes in a window; those in no span of a row; those in the first row alone. -/
import Derived.Test.YtdpgmhjhmccfnaaSP7
namespace Sp
/-- What lies between the spans of a row, from x on. -/
def restF (x : Int) : List Spn → List Spn
  | [] => [(x, 9223372036854775807)]
  | s :: r => (x, s.1) :: restF s.2 r
theorem restF_len : ∀ (l : List Spn) (x : Int), (restF x l).length = l.length + 1
  | [], _ => rfl
  | s :: r, x => by simp [restF, restF_len r s.2]
theorem restF_has : ∀ (l : List Spn) (x m : Int), form l → (∀ s ∈ l, x ≤ s.1 ∧ s.2 ≤ 9223372036854775807) → (has (restF x l) m ↔ x ≤ m ∧ m < 9223372036854775807 ∧ ¬ has l m)
  | [], x, m, _, _ => by
    constructor
    · rintro ⟨s, hs, h1, h2⟩
      obtain rfl : s = (x, 9223372036854775807) := by simpa [restF] using hs
      exact ⟨h1, h2, has_nil m⟩
    · rintro ⟨h1, h2, _⟩
      exact ⟨(x, 9223372036854775807), by simp [restF], h1, h2⟩
  | s :: r, x, m, hf, hb => by
    have hs := hb s List.mem_cons_self
    have hr : formFrom s.2 r := hf.2
    have ha := fun t ht => from_above hr t ht
    have ih := restF_has r s.2 m (formFrom_form hr) fun t ht => ⟨by have := ha t ht; omega, (hb t (List.mem_cons_of_mem _ ht)).2⟩
    show has ((x, s.1) :: restF s.2 r) m ↔ _
    rw [has_cons, has_cons, ih]
    have hgt : has r m → s.2 < m := fun h => has_above hr h
    have hpos : s.1 < s.2 := hf.1
    dsimp only
    by_cases q : has r m
    · have := hgt q
      simp only [q, not_true_eq_false, and_false, or_true, or_false, iff_false]
      omega
    · simp only [q, not_false_eq_true, and_true, or_false]
      omega
theorem restF_in {l : List Spn} {x : Int} (hx : -9223372036854775808 ≤ x ∧ x ≤ 9223372036854775807) (hl : ∀ s ∈ l, (-9223372036854775808 ≤ s.1 ∧ s.1 ≤ 9223372036854775807) ∧ -9223372036854775808 ≤ s.2 ∧ s.2 ≤ 9223372036854775807) : ∀ s ∈ restF x l, (-9223372036854775808 ≤ s.1 ∧ s.1 ≤ 9223372036854775807) ∧ -9223372036854775808 ≤ s.2 ∧ s.2 ≤ 9223372036854775807 := by
  induction l generalizing x with
  | nil =>
    intro s hs
    obtain rfl : s = (x, 9223372036854775807) := by simpa [restF] using hs
    exact ⟨hx, by omega, by omega⟩
  | cons t r ih =>
    intro s hs
    rcases List.mem_cons.1 hs with rfl | hs
    · exact ⟨hx, (hl t List.mem_cons_self).1⟩
    · exact ih (hl t List.mem_cons_self).2 (fun u hu => hl u (List.mem_cons_of_mem _ hu)) s hs
/-- What the first row alone has is what it has of the other one's gaps. -/
theorem minus_rest {a b : List Spn} (ha : ∀ s ∈ a, -9223372036854775808 ≤ s.1 ∧ s.2 ≤ 9223372036854775807) (hb : ∀ s ∈ formL b, -9223372036854775808 ≤ s.1 ∧ s.2 ≤ 9223372036854775807) :
    pair (cW 1) a (restF (-9223372036854775808) (formL b)) = pair (cW 2) a b :=
  form_unique _ _ (pair_form _ _ _) (pair_form _ _ _) fun m => by
    rw [and_has, but_has, restF_has _ _ _ (formL_form b) hb, formL_has]
    constructor
    · rintro ⟨h1, _, _, h2⟩
      exact ⟨h1, h2⟩
    · rintro ⟨h1, h2⟩
      have := has_bd ha h1
      exact ⟨h1, this.1, this.2, h2⟩
theorem restF_step {l : List Spn} {i : Nat} {s : Spn} (h : l[i]? = some s) (x : Int) : restF x (l.drop i) = (x, s.1) :: restF s.2 (l.drop (i + 1)) := by
  obtain ⟨hi, rfl⟩ := List.getElem?_eq_some_iff.1 h
  rw [List.drop_eq_getElem_cons hi]; rfl
end Sp
namespace Go.Proofs.Ytdpgmhjhmccfnaa
open Go.ChangeShapes Go.WideShapes Go.ChangeAt Go.RowKit Go.Joins Sp

set_option maxHeartbeats 1000000 in
theorem pcut13_any (l : List Spn) (x1 x2 : Int) (A : Option Addr) (c : Nat) (w : World) (hl : l.length ≤ 100000) (hs : Sl w A l.length c (sv l)) :
    Calls Try.prog 20 #[.slice A l.length c, .agg #[.int .i64 x1, .int .i64 x2]] w (RetS (pair (cW 1) l [(x1, x2)]) w) := by
  obtain ⟨W1, hW1⟩ : ∃ W1, (w.alloc (.cells #[.int .i64 x1, .int .i64 x2] 32)).alloc (.cells #[.int .i64 x1, .int .i64 x2] 32) = W1 := ⟨_, rfl⟩
  have hB : Below w.heap.size w W1 := by rw [← hW1]; exact ((Below.refl _ _).alloc (Nat.le_refl _) _).alloc (by simp) _
  have hn : Sl W1 (some ⟨w.heap.size + 1, 0, none⟩) 1 1 (sv [(x1, x2)]) := by
    rw [← hW1]
    have h := Sl.new (w.alloc (.cells #[.int .i64 x1, .int .i64 x2] 32)) (sv [(x1, x2)]) 1 32 (0, 0) (by decide)
    rw [show (w.alloc (.cells #[.int .i64 x1, .int .i64 x2] 32)).heap.size = w.heap.size + 1 by simp] at h
    exact h
  have HC := Lib.hid (pmeet13_any l [(x1, x2)] A (some ⟨w.heap.size + 1, 0, none⟩) c 1 W1 hl (by simp) (hs.below hB (Nat.le_refl _)) hn)
  have E1 := Lib.hid hW1
  have HB := Lib.hid hB
  clear hs hW1 hB hn
  go_enter Try.func20, Try.ntmps20
  go_wp2_with fail
  rw [E1.out]
  go_at_call 17
  refine HC.out.mono ?_
  rintro e w2 ⟨A2, c2, rfl, hsl, hb⟩
  have HS2 := Lib.hid hsl
  have HB2 := Lib.hid (HB.out.trans (hb.mono HB.out.size))
  clear hb hsl HC
  go_wp2_with fail
  go_ret
  exact ⟨_, _, rfl, HS2.out, HB2.out⟩

/-- What lies between the spans is put down, span by span. -/
structure Rs (w2 wr : World) (f : List Spn) (i cv : Nat) (Av : Option Addr) (x : Int) (q : List Spn) : Prop where
  eq : q ++ restF x (f.drop i) = restF (-9223372036854775808) f
  len : q.length = i
  x64 : -9223372036854775808 ≤ x ∧ x ≤ 9223372036854775807
  own : wr.ownsRow w2.heap.size 32 2 (.slice Av i cv) i (sv q)

set_option maxRecDepth 100000 in
set_option maxHeartbeats 4000000 in
theorem prest13_any (l : List Spn) (A : Option Addr) (c : Nat) (w : World) (hl : l.length ≤ 90000) (hin : In64 l) (hs : Sl w A l.length c (sv l)) :
    Calls Try.prog 32 #[.slice A l.length c] w (RetS (restF (-9223372036854775808) (formL l)) w) := by
  obtain ⟨i0, hi0, hq0, hq1, hq2⟩ := info_parts span_info
  have HF := Lib.hid (pform13_any l A c w (by omega) hs)
  have hnf := form_len l
  have hfin := hin.form
  generalize formL l = f at *
  have HIN := Lib.hid hfin
  clear hs hin hfin
  go_enter Try.func32, Try.ntmps32
  go_wp2_with fail
  go_at_call 9
  refine HF.out.mono ?_
  rintro e w2 ⟨v1, rfl, hown1, hb1⟩
  obtain ⟨A1, c1, rfl, hsl1⟩ := Sl.of_own hown1
  have HB2 := Lib.hid hb1
  have HS := Lib.hid hsl1
  clear hown1 hsl1 hb1 HF
  go_wp2_with fail
  go_loopw [3, 4, 10] (fun s3 s4 s10 wr => ∃ (i cv : Nat) (Av : Option Addr) (x : Int) (q : List Spn) (g : Gr w2), wr = g.val ∧ i ≤ f.length ∧ s10 = .int .i64 i ∧ s4 = .int .i64 x ∧ s3 = .slice Av i cv ∧ Hid (Rs w2 g.val f i cv Av x q)) (fun _ _ s10 _ => f.length - (intOf s10).toNat)
  case atStart => exact ⟨0, 0, none, _, [], ⟨w2, Below.refl _ _⟩, rfl, Nat.zero_le _, rfl, rfl, rfl, ⟨rfl, rfl, by omega, World.ownsRow_nil _ _ _ _⟩⟩
  case round =>
    obtain ⟨i, cv, Av, x, q, g, rfl, hi, rfl, rfl, rfl, HR⟩ := hrel
    have hmx : i + 1 ≤ maxLen := by unfold maxLen; omega
    have hby : (i + 1) * 16 ≤ 140737488355328 := by omega
    by_cases hlt : i < f.length
    · have hiz : (i : Int) < f.length := by omega
      have hiz2 : (i : Int) ≤ 100000 := by omega
      have hw1 : IntKind.i64.wrap ((i : Int) + 1) = i + 1 := by rw [IntKind.wrap_i64]; omega
      obtain ⟨⟨s1, s2⟩, hs⟩ : ∃ s, f[i]? = some s := ⟨_, List.getElem?_eq_getElem hlt⟩
      obtain ⟨b, off, rfl, hbs, hcell⟩ := HS.out.spanG hs
      obtain ⟨p1, p2⟩ := hcell g
      have HST := Lib.hid (restF_step hs x)
      have H64 := Lib.hid (HIN.out _ (List.mem_of_getElem? hs)).2
      obtain ⟨W1, hW1⟩ : ∃ W1, g.val.alloc (.cells #[.int .i64 s1, .int .i64 s2] 32) = W1 := ⟨_, rfl⟩
      have hB : Below g.val.heap.size g.val W1 := by rw [← hW1]; exact (Below.refl _ _).alloc (Nat.le_refl _) _
      have hblk : W1.heap[g.val.heap.size]? = some (.cells #[.int .i64 s1, .int .i64 s2] 32 (0, 0)) := by rw [← hW1]; exact heap_alloc_new _ _
      have hsz : W1.heap.size = g.val.heap.size + 1 := by rw [← hW1]; simp
      have HO : Hid (W1.ownsRow w2.heap.size 32 2 (.slice Av i cv) i (sv q)) := own_off HR.out.own (F := fun _ => False) (.of_below hB) (fun _ _ => id)
      have HLT : Hid (∀ k, (Value.slice Av i cv).ownBlock = some k → k < g.val.heap.size) := fun k hk => (HR.out.own.lt k hk).2
      have k0 : W1.cell? ⟨g.val.heap.size, 0, none⟩ = some (.int .i64 s1) := blk_cell hblk rfl
      have k1 : W1.cell? ⟨g.val.heap.size, 1, none⟩ = some (.int .i64 s2) := blk_cell hblk rfl
      have hg1 : Below w2.heap.size w2 W1 := g.ok.trans (hB.mono g.size)
      have HG1 := Lib.hid hg1
      have HK1 := Lib.hid (And.intro k1 hsz)
      have E1 := Lib.hid hW1
      clear hs hcell hW1 hB hblk hsz hg1
      go_upto_region 6 with fail
      rw [E1.out]
      clear p1 p2
      go_upto_region 7 with (refine wpList_append_lies _ rfl _ _ _ (by rfl) w2.heap.size 32 i0 _ 2 16 Try.underlying22 hi0 hq0 hq1 hq2 rfl (by decide) (.slice Av i cv) i _ (by rfl) (own_off HO.out (F := fun _ => False) (.of_below ((Below.refl _ _).alloc (Nat.le_refl _) _)) (fun _ _ => id)) ⟨W1.heap.size, 0, none⟩ 1 1 [.int .i64 x, .int .i64 s1] (by rfl) (by rfl) (World.news_of_block (cs := #[.int .i64 x, .int .i64 s1]) (t := 32) (fr := (0, 0)) (heap_alloc_new _ _)) (by simp [Value.oneCell']) (Nat.lt_succ_self 0) hmx hby (by simp; have := HG1.out.size; omega) _ rfl ?_; intro gg cap2 w5 hown3 hgr3 hat3 hlt3)
      have k5 : w5.cell? ⟨g.val.heap.size, 1, none⟩ = some (.int .i64 s2) := by
        have h1 := HK1.out.1
        have h2 := HK1.out.2
        rw [World.cell?_of_block (show w5.heap[g.val.heap.size]? = W1.heap[g.val.heap.size]? from ?_)]
        · exact h1
        · rw [hgr3.block _ (by simp; omega) (fun e => by have := HLT.out _ e.symm; omega)]
          exact heap_alloc_old _ _ (by omega)
      have hB5 : Below w2.heap.size w2 w5 := (HG1.out.alloc HG1.out.size _).grown hgr3 (by simp; have := HG1.out.size; omega) (fun kk hk => (HO.out.lt kk hk).1)
      have HW5 := Lib.hid hown3
      have HB5 := Lib.hid hB5
      clear hown3 hgr3 hat3 hB5 k0 k1
      go_wp2_with fail
      go_roundw
      case rel => exact ⟨i + 1, cap2, some ⟨gg, 0, none⟩, s2, q ++ [(x, s1)], ⟨w5, HB5.out⟩, rfl, by omega, by go_num, rfl, by first | rfl | go_num, ⟨by have := HR.out.eq; rw [HST.out] at this; rw [← this]; simp, by have := HR.out.len; simp; omega, H64.out, by rw [sv_app]; exact HW5.out⟩⟩
      case measure => simp [intOf]; omega
    · obtain rfl : i = f.length := by omega
      have hiz : ¬ (f.length : Int) < f.length := by omega
      have HO := Lib.hid HR.out.own
      have HGS := Lib.hid g.size
      go_wp2_with (refine wpList_append_lies _ rfl _ _ _ (by rfl) w2.heap.size 32 i0 _ 2 16 Try.underlying22 hi0 hq0 hq1 hq2 rfl (by decide) (.slice Av f.length cv) f.length _ (by rfl) (own_off HO.out (F := fun _ => False) (.of_below ((Below.refl _ _).alloc (Nat.le_refl _) _)) (fun _ _ => id)) ⟨g.val.heap.size, 0, none⟩ 1 1 [.int .i64 x, .int .i64 9223372036854775807] (by rfl) (by rfl) (World.news_of_block (cs := #[.int .i64 x, .int .i64 9223372036854775807]) (t := 32) (fr := (0, 0)) (heap_alloc_new _ _)) (by simp [Value.oneCell']) (Nat.lt_succ_self 0) hmx hby (by simp; have := HGS.out; omega) _ rfl ?_; intro gg cap2 w5 hown3 hgr3 hat3 hlt3)
      have hB5 : Below w2.heap.size w2 w5 := (g.ok.alloc g.size _).grown hgr3 (by simp; have := g.size; omega) (fun kk hk => (HO.out.lt kk hk).1)
      go_ret
      have e : q ++ [(x, 9223372036854775807)] = restF (-9223372036854775808) f := by
        have := HR.out.eq
        rw [List.drop_of_length_le (Nat.le_refl _)] at this
        exact this
      rw [← e]
      have hql := HR.out.len
      have h5 : w5.ownsRow w2.heap.size 32 2 (.slice (some ⟨gg, 0, none⟩) (q ++ [(x, (9223372036854775807 : Int))]).length cap2) (q ++ [(x, (9223372036854775807 : Int))]).length (sv (q ++ [(x, 9223372036854775807)])) := by
        rw [List.length_append, List.length_singleton, hql, sv_app]; exact hown3
      refine ⟨some ⟨gg, 0, none⟩, cap2, ?_, Sl.own_ h5, HB2.out.trans (hB5.mono HB2.out.size)⟩
      rw [List.length_append, List.length_singleton, hql]
      rfl

set_option maxHeartbeats 1000000 in
theorem pminus13_any (a b : List Spn) (A B : Option Addr) (ca cb : Nat) (w : World) (hla : a.length ≤ 90000) (hlb : b.length ≤ 90000) (ia : In64 a) (ib : In64 b) (ha : Sl w A a.length ca (sv a)) (hb : Sl w B b.length cb (sv b)) :
    Calls Try.prog 18 #[.slice A a.length ca, .slice B b.length cb] w (RetS (pair (cW 2) a b) w) := by
  have HR := Lib.hid (prest13_any b B cb w hlb ib hb)
  have HE := Lib.hid (minus_rest (a := a) (b := b) (fun s hs => by have := ia s hs; omega) (fun s hs => by have := ib.form s hs; omega))
  have hlen : (restF (-9223372036854775808) (formL b)).length ≤ 100000 := by have := form_len b; rw [restF_len]; omega
  generalize restF (-9223372036854775808) (formL b) = r at *
  have HA := Lib.hid ha
  clear ha hb ia ib
  go_enter Try.func18, Try.ntmps18
  go_wp2_with fail
  go_at_call 32
  refine HR.out.mono ?_
  rintro e w1 ⟨A1, c1, rfl, hsl, hb⟩
  have HM := Lib.hid (pmeet13_any a r A A1 ca c1 w1 (by omega) hlen (HA.out.below hb (Nat.le_refl _)) hsl)
  have HB1 := Lib.hid hb
  clear hb hsl HR
  go_wp2_with fail
  go_at_call 17
  refine HM.out.mono ?_
  rintro e w2 ⟨A2, c2, rfl, hsl, hb⟩
  have HS2 := Lib.hid hsl
  have HB2 := Lib.hid (HB1.out.trans (hb.mono HB1.out.size))
  clear hb hsl HM
  go_wp2_with fail
  go_ret
  rw [HE.out] at HS2
  rw [← HE.out]
  exact ⟨_, _, rfl, by rw [HE.out]; exact HS2.out, HB2.out⟩
end Go.Proofs.Ytdpgmhjhmccfnaa
