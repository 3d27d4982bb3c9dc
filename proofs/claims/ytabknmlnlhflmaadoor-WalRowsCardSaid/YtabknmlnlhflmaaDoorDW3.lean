/- Contracts of the program's disk: a copy of bytes; what is laid over. -/
import Derived.Test.YtabknmlnlhflmaaDoorDW2
import Derived.Test.YtabknmlnlhflmaaDoorCB
import Derived.Deep.RegionHeld3
import Derived.Deep.AppendLies
import Derived.Lib.SliceRun
namespace Go.Proofs.YtabknmlnlhflmaaDoor
open Go.ChangeShapes Go.WideShapes Go.ChangeAt Go.RowKit Go.Joins Dm

/-- 'copy' over a part of a row of the call's own, in a region that draws its order. -/
theorem step_copy_own {P : Program} {ops : Array Oper} {o : Oper} {a : Act} {w : World} {K : Act → World → Prop} {Q : Exit → Act → World → Prop} {E : Prop} (hgd : o.guard = none) (d s : Operand) (dT sT : TypeId)
    (ho : o.op = .call { callee := .builtin .copy, args := #[d, s], argTypes := #[dT, sT] }) (elem : TypeId) (hu : P.underlying dT = some (.slice elem)) (hsz : (P.info? elem).map (·.size) = some 1)
    (dp sp : Option Addr) (dLen dCap sLen sCap : Nat) (hd : a.eval d = .slice dp dLen dCap) (hs : a.eval s = .slice sp sLen sCap)
    (base : Nat) (v : Value) (n off : Nat) (xs cs : List Value) (hown : w.ownsRow base elem 1 v n xs) (hdp : 0 < dLen → ∃ g, v.ownBlock = some g ∧ dp = some ⟨g, off, none⟩)
    (hn : cs.length = Nat.min sLen dLen) (hfit : off + dLen ≤ n) (hsl : 0 < cs.length → ∃ ad, sp = some ad ∧ ∀ j v, cs[j]? = some v → w.cell? (ad.add j) = some v) (h1 : ∀ v ∈ cs, v.oneCell' = true)
    (h : ∀ w', w'.ownsRow base elem 1 v n (xs.take off ++ (cs ++ xs.drop (off + cs.length))) → w.grownBy w' v.ownBlock → K (a.put o.dst (goInt cs.length)) w') :
    if Region.wanted o (yielded ops a.tmps) = true then Oper.wp P o a w K Q else E := by
  have hw : Region.wanted o (yielded ops a.tmps) = true := by simp [Region.wanted, hgd]
  rw [if_pos hw]
  by_cases h0 : cs.length = 0
  · obtain rfl : cs = [] := List.eq_nil_of_length_eq_zero h0
    have hrun := run_copy_none (P := P) w dT sT o.type elem dp sp dLen dCap sLen sCap hu hsz (by simpa using hn.symm)
    unfold Oper.wp
    simp [execOp, ho, resolve, invoke, builtin, hd, hs, hrun, Result.andThen]
    exact h w (by simpa using hown) ⟨rfl, rfl, rfl, Nat.le_refl _, fun _ _ _ => rfl⟩
  · have hcl : cs.length ≤ dLen := by rw [hn]; exact Nat.min_le_right _ _
    have hd0 : 0 < dLen := by omega
    obtain ⟨g, hg, rfl⟩ := hdp hd0
    obtain ⟨ad, rfl, hsrc⟩ := hsl (by omega)
    rcases hown.2 with ⟨rfl, _⟩ | ⟨g', cap, cur, rfl, hb, hblk, hnc, hm, hsize, htk⟩
    · simp [Value.ownBlock] at hg
    · obtain rfl : g' = g := by simpa [Value.ownBlock] using hg
      have hrun := run_copy_row (P := P) w dT sT o.type elem g' off dLen dCap ad sLen sCap cur elem cs hu hsz hblk hn hsrc (by omega) h1
      unfold Oper.wp
      simp [execOp, ho, resolve, invoke, builtin, hd, hs, hrun, Result.andThen]
      refine h _ ⟨?_, .inr ⟨g', cap, _, rfl, hb, setRow_heap w g' _ _ elem _ hblk, hnc, hm, ?_, ?_⟩⟩ ⟨rfl, rfl, rfl, by simp [World.setRow], fun k hk hne => setRow_other w g' k _ (by simpa [Value.ownBlock] using hne)⟩
      · have := hown.1; simp; omega
      · simp; omega
      · have hx := hown.1
        simp only [Nat.mul_one] at hx htk ⊢
        rw [← htk]
        rw [List.take_append, List.take_append, List.take_of_length_le (l := List.take off cur.toList) (by simp; omega), List.take_of_length_le (l := cs) (by simp; omega), List.take_take, Nat.min_eq_left (by omega), List.drop_take]
        congr 3
        simp
        omega

theorem Sl.from_ {P : Program} {w : World} {A : Option Addr} {n c : Nat} {l : List UInt8} (h : BAt w A l) (hn : l.length = n) (hc : n ≤ c) (hcm : c ≤ maxLen) (hz : A = none → c = 0) {k : Nat} (hk : k ≤ n) {t : TypeId} (ht : P.underlying t = some (.slice (P.elem t))) (hs : ∀ w' : World, (sizeOf (P.elem t)).run P w' = .ok 1 w') :
    ∃ sp sc, (∀ w' : World, (Instr.sliceAt t (.slice A n c) (some (.int .i64 k)) none none).run P w' = .ok (.slice sp (n - k) sc) w') ∧ BAt w sp (l.drop k) := by
  subst hn
  obtain ⟨A1, A2, _, h2, _, h4⟩ := h.cut (P := P) hk hc ht hs
  exact ⟨A2, _, h2, h4⟩

theorem BAt.src {w : World} {sp : Option Addr} {l : List UInt8} (h : BAt w sp l) (k : Nat) : 0 < (bl (l.take k)).length → ∃ ad, sp = some ad ∧ ∀ j v, (bl (l.take k))[j]? = some v → w.cell? (ad.add j) = some v := by
  intro hn
  have hn' : 0 < l.length := by rw [bl_len] at hn; simp at hn; omega
  obtain ⟨b, off, rfl, hb, hc⟩ := h hn'
  refine ⟨_, rfl, fun j v hv => ?_⟩
  have hj := (List.getElem?_eq_some_iff.1 hv).1
  rw [bl_len] at hj
  have hj2 : j < l.length := by simp at hj; omega
  rw [bl_at (c := l[j]) (by rw [List.getElem?_take, if_pos (by simp at hj; omega), List.getElem?_eq_getElem hj2])] at hv
  rw [← Option.some.inj hv, show (⟨b, off, none⟩ : Addr).add j = ⟨b, off + j, none⟩ by unfold Addr.add; split <;> simp_all]
  exact hc j _ (List.getElem?_eq_getElem hj2)

set_option maxRecDepth 100000 in
set_option maxHeartbeats 2000000 in
theorem layOver_any (at_ : Nat) (Ab : Option Addr) (cb : Nat) (b : List UInt8) (v : Value) (base f : Nat) (l : List UInt8) (hat : at_ ≤ 4194304) (hf : f ≤ 4194304) (hb : b.length ≤ cb) (hcb : cb ≤ maxLen) (hz : Ab = none → cb = 0) (hl : l.length ≤ 4194304) (w : World)
    (hB : BAt w Ab b) (hown : w.ownsRow base 5 1 v l.length (bl l)) :
    Calls Tryd.prog 39 #[.agg #[.int .i64 at_, .slice Ab b.length cb], v, .int .i64 f] w fun e w' => e = .returned (.tuple #[]) ∧ w'.ownsRow base 5 1 v l.length (bl (lay l at_ b f)) ∧ w.grownBy w' v.ownBlock := by
  have ha : min (at_ - f) l.length = min (at_ - f) l.length := rfl
  have hs : min (f - at_) b.length = min (f - at_) b.length := rfl
  obtain ⟨a, hA⟩ : ∃ a, min (at_ - f) l.length = a := ⟨_, rfl⟩
  obtain ⟨s, hS⟩ : ∃ s, min (f - at_) b.length = s := ⟨_, rfl⟩
  obtain ⟨a1, ha1⟩ : ∃ a1, at_ - f = a1 := ⟨_, rfl⟩
  obtain ⟨s1, hs1⟩ : ∃ s1, f - at_ = s1 := ⟨_, rfl⟩
  have hal : a ≤ l.length := by omega
  have hsl : s ≤ b.length := by omega
  obtain ⟨Av, cv, rfl, hv1, hv2, _, _, _⟩ := BAt.of_own hown
  obtain ⟨dp, dc, hd1, hd2⟩ := own_cut (P := Tryd.prog) (t := 23) hown hal (by kernel_rfl) (fun w' => by kernel_rfl)
  obtain ⟨sp, sc, hsp, hs2⟩ := Sl.from_ (P := Tryd.prog) (t := 23) hB rfl hb hcb hz hsl (by kernel_rfl) (fun w' => by kernel_rfl)
  have hm1 : IntKind.i64.wrap ((at_ : Int) - f) = at_ - f := by rw [IntKind.wrap_i64]; omega
  have hm2 : IntKind.i64.wrap ((f : Int) - at_) = f - at_ := by rw [IntKind.wrap_i64]; omega
  have hq1 : (if (at_ : Int) - f < 0 then 0 else (at_ : Int) - f) = a1 := by split <;> omega
  have hq2 : (if (f : Int) - at_ < 0 then 0 else (f : Int) - at_) = s1 := by split <;> omega
  have HOW := Lib.hid hown
  have HSB := Lib.hid hs2
  have HD2 := Lib.hid hd2
  have HR : Hid (bl (lay l at_ b f) = (bl l).take a ++ (bl ((b.drop s).take (l.length - a)) ++ (bl l).drop (a + (bl ((b.drop s).take (l.length - a))).length))) := by
    show _ = _; unfold lay; rw [hA, hS, bl_app, bl_app, bl_take, bl_drop, bl_len]
  have hlen : (bl ((b.drop s).take (l.length - a))).length = Nat.min (b.length - s) (l.length - a) := by rw [bl_len]; simp [Nat.min_comm]
  generalize hcs : bl ((b.drop s).take (l.length - a)) = cs at *
  have HCS := Lib.hid (fun (w' : World) (h : BAt w' sp (b.drop s)) => hcs ▸ h.src (l.length - a))
  have H1 : Hid (∀ v ∈ cs, v.oneCell' = true) := by show ∀ v ∈ cs, _; rw [← hcs]; exact bl_one _
  have ww : (a1 : Int) ≤ l.length ∧ a = a1 ∨ (l.length : Int) < a1 ∧ a = l.length := by omega
  have ws : (s1 : Int) ≤ b.length ∧ s = s1 ∨ (b.length : Int) < s1 ∧ s = b.length := by omega
  have hfit : a + (l.length - a) ≤ l.length := by omega
  have h01 : a1 = 0 ∨ s1 = 0 := by omega
  generalize l.length - a = da at *
  generalize b.length - s = ds at *
  have hne : some w.heap.size ≠ (Value.slice Av l.length cv).ownBlock := fun e => by have := (hown.lt _ e.symm).2; omega
  have HNE := Lib.hid hne
  clear hne
  clear hown hs2 hd2 hB ha hs hcs ha1 hs1 hA hS
  rcases ww with ⟨hw1, rfl⟩ | ⟨hw1, rfl⟩ <;> rcases ws with ⟨hw2, rfl⟩ | ⟨hw2, rfl⟩
  case inr.inr => exfalso; omega
  all_goals
    clear h01
    go_enter Tryd.func39, Tryd.ntmps39
    go_wp2_with fail
    go_region_held3 (fun w' => w'.cell? ⟨w.heap.size, 0 + 1, none⟩ = some (.slice Ab b.length cb)) (first
      | (simp [go_sem]; done)
      | exact hgr2.cell (by simp [go_sem]) HNE.out)
      ((refine step_copy_own (by rfl) _ _ _ _ (by rfl) 5 Tryd.underlying23 (by kernel_rfl) dp sp _ dc _ sc (by rfl) (by rfl) base _ _ _ (bl l) cs ((HOW.out.alloc _).drew) HD2.out hlen hfit (HCS.out _ (HSB.out.below (B := w.heap.size) (((Below.refl _ w).alloc (Nat.le_refl _) _).drew) (Nat.le_refl _))) H1.out ?_; intro w2 hown2 hgr2))
    go_end0
    refine ⟨rfl, ?_, ?_⟩
    · rw [HR.out]; exact hown2
    · exact ⟨hgr2.os, hgr2.tape, hgr2.output, by have := hgr2.size; simp [World.drew] at this; omega, fun k hk hn => (hgr2.block k (by simp [World.drew]; omega) hn).trans (Below.heap_alloc _ _ _ hk)⟩
end Go.Proofs.YtabknmlnlhflmaaDoor
