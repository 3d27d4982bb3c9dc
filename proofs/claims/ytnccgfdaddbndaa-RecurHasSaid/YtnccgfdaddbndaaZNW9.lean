import Derived.Test.YtnccgfdaddbndaaZNW8
import Derived.Test.YtnccgfdaddbndaaZMN
/- Contract of the program's times: the days are handed out one by one. -/
section
namespace Go.Proofs.Ytnccgfdaddbndaa
open Go.ChangeShapes Go.WideShapes Go.ChangeAt Go.RowKit Go.Joins Go.Shelf Qr Tm Cal

attribute [local go_sem] Oper.semAt_some

/-- Days as numbers. -/
def dvs (l : List (Fin 109938)) : List Int := l.map fun x => (x.val : Int)
theorem dvs_snoc (l : List (Fin 109938)) (x : Fin 109938) : dvs (l ++ [x]) = dvs l ++ [(x.val : Int)] := by unfold dvs; simp
theorem dvs_len (l : List (Fin 109938)) : (dvs l).length = l.length := by unfold dvs; simp

theorem own_grow {β : Type} {B : Nat} {I : β → World → Prop} (h : OwnFrom B I) {x : β} {W W' : World} (hs : I x W) (hb : Below W.heap.size W W') : I x W' :=
  h x W W' none hs ⟨hb.os, hb.tape, hb.output, hb.size, fun k hk _ => hb.block k hk⟩ (fun r e => by cases e)
theorem own_sl {w : World} {base size : Nat} {e : TypeId} {A : Option Addr} {n c : Nat} {xs : List Value} (h : w.ownsRow base e size (.slice A n c) n xs) : Sl w A n c xs := by
  obtain ⟨A', c', e', hs⟩ := Sl.of_own h
  simp only [Value.slice.injEq, true_and] at e'
  obtain ⟨rfl, rfl⟩ := e'
  exact hs
section
variable (r : R) (A1 A2 A3 A4 : Option Addr) (c1 c2 c3 c4 : Nat)
set_option maxRecDepth 100000 in
set_option maxHeartbeats 4000000 in
theorem pdays1_in (n l M Lo M0 b1 b2 b3 sn fn : Nat) (X : Nat → Prop) (last : Int) (T : List Int) (ho : Okr r) (hct : 0 ≤ r.count) (hs : sn ≤ 109937) (hsf : sn ≤ fn) (hf : fn ≤ 109938) (hl : 0 ≤ last ∧ last ≤ 109938)
    (hb2 : r.bd.length ≤ 10000) (hp2 : r.bd.Pairwise (· ≤ ·)) (hb4 : r.bs.length ≤ 10000) (hp4 : r.bs.Pairwise (· ≤ ·)) (hT : daysL r (dt sn) fn last = T)
    (hX1 : ¬ X b1) (hX2 : ¬ X b2) (hX3 : ¬ X b3) (hXr : ∀ k, Lo ≤ k → k < M0 → ¬ X k) (hXM : ∀ k, M ≤ k → ¬ X k)
    (J Jx : List (Fin 109938) → World → Prop) (hJ : OwnFrom M J)
    (hY : ∀ pre x W, J pre W → pre.length < T.length → YieldAt Fence.wide (n - 1) Try.prog l #[.int .i64 (x.val : Int)] W fun e W' =>
      (e = .returned (.bool true) ∧ J (pre ++ [x]) W' ∧ Kx X M0 W W') ∨ (e = .returned (.bool false) ∧ Jx (pre ++ [x]) W'))
    (W : World) (hM : M ≤ W.heap.size) (hC : CIn W Lo M0 r A1 A2 A3 A4 c1 c2 c3 c4 sn fn last b1 b2 b3) (hJ0 : J [] W) :
    CallsIn Fence.wide n Try.prog 48 #[.func (.yield l) #[] #[], .pointer (some ⟨b1, 0, none⟩), .pointer (some ⟨b2, 0, none⟩), .pointer (some ⟨b3, 0, none⟩)] W fun e W' => (∃ v, e = .returned v) ∧
      ((∃ ys, dvs ys = T ∧ J ys W') ∨ (∃ pre, dvs pre <+: T ∧ Jx pre W')) := by
  have hmx : Try.prog.follows .mixedOrders = true := by kernel_rfl
  have x1 := blk_cell hC.x1 (i := 0) (v := .int .i64 fn) rfl
  have x2 := blk_cell hC.x2 (i := 0) (v := .int .i64 last) rfl
  refine callsIn_of_wp Try.func48 rfl trivial ?_ rfl
  simp only [Try.ntmps48, List.size_toArray, List.length_cons, List.length_nil, Nat.reduceAdd, Nat.reduceSub, Array.replicate_succ, Array.replicate_zero, List.push_toArray, List.append_toArray, List.nil_append, List.cons_append]
  by_cases hfl : last ≤ fn
  · have hfl2 : ¬ (fn : Int) < last := by omega
    have hT0 : Hid (T = []) := by show _ = _; rw [← hT]; unfold daysL; rw [if_pos hfl]
    clear hT
    gi_wp2
    refine bodyPost_ret (results_none rfl _ _ _) rfl ?_
    exact ⟨⟨_, rfl⟩, .inl ⟨[], by rw [hT0.out]; rfl, hJ0⟩⟩
  · have hfl2 : ¬ last ≤ (fn : Int) := hfl
    have hfn : fn ≤ 109937 := by omega
    obtain ⟨g1, g2, g3, g4⟩ := fst_low ho hs hfn hsf
    have hsm := bg_small ho (pp_low ho hfn) (by have := (bg_pp ho hfn (pp_low ho hfn)).2 (Int.le_refl _); omega)
    have hl0 : 0 ≤ lowP r := by unfold lowP; split <;> (try split) <;> (try split) <;> omega
    have hblow := bg_low ho g2
    have hi := ho.i
    have HT : Hid (T = outer r sn fn last 110000 (fstP r (dt sn) fn) 0) := by show _ = _; rw [← hT]; unfold daysL; rw [if_neg hfl, dt_n]
    have HF := Lib.hid (fun w => pfirst_any r A1 A2 A3 A4 c1 c2 c3 c4 sn fn hs hfn hsf ho hct w)
    have HC := Lib.hid hC
    obtain ⟨p0, hp0⟩ : ∃ p0, fstP r (dt sn) fn = p0 := ⟨_, rfl⟩
    rw [hp0] at HT HF g1 g2 g3 g4 hblow
    have hp0b : 0 ≤ p0 ∧ p0 < 110000 := by omega
    clear hT hC hp0 g1 g3 g4 hsm
    have q3 := HC.out.x3
    unfold ccells at q3
    have k0 := blk_cell q3 (i := 0) rfl
    have k1 := blk_cell q3 (i := 1) rfl
    have k2 := blk_cell q3 (i := 2) rfl
    have k3 := blk_cell q3 (i := 3) rfl
    have k4 := blk_cell q3 (i := 4) rfl
    have k5 := blk_cell q3 (i := 5) rfl
    have k6 := blk_cell q3 (i := 6) rfl
    have k7 := blk_cell q3 (i := 7) rfl
    have k8 := blk_cell q3 (i := 8) rfl
    have k9 := blk_cell q3 (i := 9) rfl
    clear q3
    unfold ccells at HF
    gi_wp2_with fail
    refine ⟨trivial, fun h => (by cases h), (callsIn_wide.2 (HF.out _)).mono ?_⟩
    rintro e w1 ⟨rfl, hb⟩
    have HC1 := Lib.hid (HC.out.below hb)
    have HJ1 := Lib.hid (own_grow hJ hJ0 hb)
    have hM1 : M ≤ w1.heap.size := Nat.le_trans hM hb.size
    clear k0 k1 k2 k3 k4 k5 k6 k7 k8 k9 x1 x2 hb HC hJ0 hM HF
    have HY := Lib.hid hY
    have HJ := Lib.hid hJ
    clear hY hJ
    have HBG : Hid (∀ p, 0 ≤ p → p ≤ 1000000 → ∀ w, Calls Try.prog 50 #[.agg (ccells r A1 A2 A3 A4 c1 c2 c3 c4 sn), .int .i64 p] w fun e w' => e = .returned (.int .i64 (bg r p)) ∧ Below w.heap.size w w') := fun p h1 h2 w => pbegin_any r A1 A2 A3 A4 c1 c2 c3 c4 sn p ho h1 h2 w
    have HDY : Hid (∀ p, lowP r ≤ p → bg r p < 109938 → ∀ w, CIn w Lo M0 r A1 A2 A3 A4 c1 c2 c3 c4 sn fn last b1 b2 b3 → Calls Try.prog 51 #[.agg (ccells r A1 A2 A3 A4 c1 c2 c3 c4 sn), .int .i64 p] w (RetN (dd r p) w)) := fun p h1 h2 w h3 => pdays_any r A1 A2 A3 A4 c1 c2 c3 c4 sn p ho h1 h2 hb2 hp2 hb4 hp4 w h3.rows.at_
    have HRI : Hid (∀ p, lowP r ≤ p → bg r p < 109938 → bg r p < bg r (p + r.iv) ∨ 109938 ≤ bg r (p + r.iv)) := fun p h1 h2 => bg_next ho h1 h2
    unfold ccells at HBG HDY
    clear hb2 hp2 hb4 hp4
    gi_wp2
    gi_loopw [5, 6] (fun s5 s6 wr => ∃ (pre : List (Fin 109938)) (f : Nat) (p told : Int), s5 = .int .i64 told ∧ s6 = .int .i64 p ∧ lowP r ≤ p ∧ p ≤ 120000 ∧ 0 ≤ told ∧ told + 400 * (f : Int) ≤ 44000000 ∧ (109938 - bg r p).toNat ≤ f ∧ M ≤ wr.heap.size ∧
        Hid (CIn wr Lo M0 r A1 A2 A3 A4 c1 c2 c3 c4 sn fn last b1 b2 b3) ∧ Hid (J pre wr) ∧ Hid (T = dvs pre ++ outer r sn fn last f p told))
      (fun _ s6 _ => (109938 - bg r (intOf s6)).toNat)
    case atStart => exact ⟨[], 110000, p0, 0, rfl, rfl, g2, by omega, by omega, by omega, by omega, hM1, HC1, HJ1, HT⟩
    case round =>
      obtain ⟨pre, f, p, told, rfl, rfl, hp1, hp2, ht1, ht2, hfu, hMr, HCr, HJr, HTr⟩ := hrel
      have q3 := HCr.out.x3
      unfold ccells at q3
      have k0 := blk_cell q3 (i := 0) rfl
      have k1 := blk_cell q3 (i := 1) rfl
      have k2 := blk_cell q3 (i := 2) rfl
      have k3 := blk_cell q3 (i := 3) rfl
      have k4 := blk_cell q3 (i := 4) rfl
      have k5 := blk_cell q3 (i := 5) rfl
      have k6 := blk_cell q3 (i := 6) rfl
      have k7 := blk_cell q3 (i := 7) rfl
      have k8 := blk_cell q3 (i := 8) rfl
      have k9 := blk_cell q3 (i := 9) rfl
      have x2 := blk_cell HCr.out.x2 (i := 0) (v := .int .i64 last) rfl
      have x2g : ∀ g : Gr wr, g.val.cell? ⟨b2, 0, none⟩ = some (.int .i64 last) := fun g => cell_old x2 g.ok
      clear q3
      have HB1 := Lib.hid (HBG.out p (by omega) (by omega))
      have hbl := bg_low ho hp1
      by_cases hlt : bg r p < last
      · have hpp := bg_small ho hp1 (by omega)
        obtain ⟨f, rfl⟩ : ∃ f', f = f' + 1 := ⟨f - 1, by omega⟩
        have hnx := HRI.out p hp1 (by omega)
        have hdl := dd_len ho hp1 (by omega)
        have HD1 := Lib.hid (HDY.out p hp1 (by omega))
        have HTr2 : Hid (T = dvs pre ++ inner sn fn last r.count (dd r p) told (fun t => outer r sn fn last f (p + r.iv) t)) := by
          show _ = _
          have h := HTr.out
          unfold outer at h
          rw [if_pos hlt] at h
          exact h
        have HMD := Lib.hid (fun x (h : x ∈ dd r p) => mem_dd h)
        clear HTr
        gi_wp2_with fail
        gi_region_with_o (refine ⟨trivial, fun h => (by cases h), (callsIn_wide.2 (HB1.out _)).mono ?_⟩; rintro e w2 ⟨rfl, hb⟩; have hb2 := (drew_below wr).trans hb; have y2 := cell_old x2 hb2; clear hb)
        all_goals
          have HC2 := Lib.hid (HCr.out.below hb2)
          have HJ2 := Lib.hid (own_grow HJ.out HJr.out hb2)
          have hM2 : M ≤ w2.heap.size := Nat.le_trans hMr hb2.size
          clear k0 k1 k2 k3 k4 k5 k6 k7 k8 k9 x2 x2g hb2 HCr HJr
          have q3 := HC2.out.x3
          unfold ccells at q3
          have k0 := blk_cell q3 (i := 0) rfl
          have k1 := blk_cell q3 (i := 1) rfl
          have k2 := blk_cell q3 (i := 2) rfl
          have k3 := blk_cell q3 (i := 3) rfl
          have k4 := blk_cell q3 (i := 4) rfl
          have k5 := blk_cell q3 (i := 5) rfl
          have k6 := blk_cell q3 (i := 6) rfl
          have k7 := blk_cell q3 (i := 7) rfl
          have k8 := blk_cell q3 (i := 8) rfl
          have k9 := blk_cell q3 (i := 9) rfl
          clear q3
          gi_wp2_with fail
          refine ⟨trivial, fun h => (by cases h), (callsIn_wide.2 (HD1.out _ HC2.out)).mono ?_⟩
          rintro e w3 ⟨v, rfl, hown, hb3⟩
          have HC3 := Lib.hid (HC2.out.below hb3)
          have HJ3 := Lib.hid (own_grow HJ.out HJ2.out hb3)
          have hM3 : M ≤ w3.heap.size := Nat.le_trans hM2 hb3.size
          have HOW := Lib.hid (ownN_base hown hM2)
          clear k0 k1 k2 k3 k4 k5 k6 k7 k8 k9 y2 hb3 HC2 HJ2 hown
          obtain ⟨Ad, cd, rfl, _⟩ := Sl.of_own HOW.out
          generalize dd r p = d at *
          have HTD : Hid (T = dvs pre ++ inner sn fn last r.count (d.drop 0) told (fun t => outer r sn fn last f (p + r.iv) t)) := HTr2.out
          clear HTr2
          gi_wp2
          gi_loopw [5, 29] (fun s5 s29 wr => ∃ (pre : List (Fin 109938)) (j : Nat) (told : Int), s5 = .int .i64 told ∧ s29 = .int .i64 j ∧ j ≤ d.length ∧ 0 ≤ told ∧ told + ((d.length : Int) - j) + 400 * (f : Int) ≤ 44000000 ∧ M ≤ wr.heap.size ∧
              Hid (CIn wr Lo M0 r A1 A2 A3 A4 c1 c2 c3 c4 sn fn last b1 b2 b3) ∧ Hid (J pre wr) ∧ Hid (wr.ownsRow M 3 1 (.slice Ad d.length cd) d.length (iv d)) ∧ Hid (T = dvs pre ++ inner sn fn last r.count (d.drop j) told (fun t => outer r sn fn last f (p + r.iv) t)))
            (fun _ s29 _ => d.length - (intOf s29).toNat)
          case atStart => exact ⟨pre, 0, told, rfl, rfl, Nat.zero_le _, ht1, by omega, hM3, HC3, HJ3, HOW, HTD⟩
          case round =>
            obtain ⟨pre, j, told, rfl, rfl, hj, ht3, ht4, hMr, HCr, HJr, HOr, HTr⟩ := hrel
            by_cases hjl : j < d.length
            · have hjz : (j : Int) < d.length := by omega
              have hw1 : IntKind.i64.wrap ((j : Int) + 1) = j + 1 := by rw [IntKind.wrap_i64]; omega
              have hw2 : IntKind.i64.wrap (told + 1) = told + 1 := by rw [IntKind.wrap_i64]; omega
              obtain ⟨x, hx⟩ : ∃ x, d[j]? = some x := ⟨_, List.getElem?_eq_getElem hjl⟩
              obtain ⟨pb, po, rfl, hpb, hpc⟩ := (own_sl HOr.out).intG hx
              have hc0 := hpc ⟨wr, Below.refl _ _⟩
              simp only at hc0
              have hxb := HMD.out x (List.mem_of_getElem? hx)
              have hxd : d.drop j = x :: d.drop (j + 1) := by
                rw [drop_step hjl]; congr 1
                have := List.getElem?_eq_getElem hjl
                rw [hx] at this; exact (Option.some.inj this).symm
              have k9 := blk_cell HCr.out.x3 (i := 9) (v := .int .i64 sn) rfl
              have k2 := blk_cell HCr.out.x3 (i := 2) (v := .int .i64 r.count) rfl
              have y1 := blk_cell HCr.out.x1 (i := 0) (v := .int .i64 fn) rfl
              have y2 := blk_cell HCr.out.x2 (i := 0) (v := .int .i64 last) rfl
              have HTr2 : Hid (T = dvs pre ++ (if x < sn then inner sn fn last r.count (d.drop (j + 1)) told (fun t => outer r sn fn last f (p + r.iv) t) else if last ≤ x then [] else (if (fn : Int) ≤ x then [x] else []) ++ (if told + 1 = r.count then [] else inner sn fn last r.count (d.drop (j + 1)) (told + 1) (fun t => outer r sn fn last f (p + r.iv) t)))) := by
                show _ = _
                have h := HTr.out
                rw [hxd] at h
                exact h
              clear HTr hx hpc hxd
              by_cases e1 : x < sn
              · have E : Hid (T = dvs pre ++ inner sn fn last r.count (d.drop (j + 1)) told (fun t => outer r sn fn last f (p + r.iv) t)) := by show _ = _; have h := HTr2.out; rw [if_pos e1] at h; exact h
                clear HTr2
                gi_wp2_with fail
                go_roundw
                case rel => exact ⟨pre, j + 1, told, rfl, by go_num, by omega, ht3, by omega, hMr, HCr, HJr, HOr, E⟩
                case measure => simp [intOf]; omega
              · have e1b : decide (x < (sn : Int)) = false := decide_eq_false e1
                by_cases e2 : last ≤ x
                · have E : Hid (T = dvs pre) := by show _ = _; have h := HTr2.out; rw [if_neg e1, if_pos e2, List.append_nil] at h; exact h
                  clear HTr2
                  gi_wp2_with fail
                  refine bodyPost_ret (results_none rfl _ _ _) rfl ?_
                  exact ⟨⟨_, rfl⟩, .inl ⟨pre, E.out.symm, HJr.out⟩⟩
                · have e2b : decide (last ≤ x) = false := decide_eq_false e2
                  have HT3 : Hid (T = dvs pre ++ ((if (fn : Int) ≤ x then [x] else []) ++ (if told + 1 = r.count then [] else inner sn fn last r.count (d.drop (j + 1)) (told + 1) (fun t => outer r sn fn last f (p + r.iv) t)))) := by show _ = _; have h := HTr2.out; rw [if_neg e1, if_neg e2] at h; exact h
                  clear HTr2
                  by_cases e3 : (fn : Int) ≤ x
                  · have hxv : ((x.toNat : Nat) : Int) = x := by omega
                    have HT4 : Hid (T = dvs (pre ++ [⟨x.toNat, by omega⟩]) ++ (if told + 1 = r.count then [] else inner sn fn last r.count (d.drop (j + 1)) (told + 1) (fun t => outer r sn fn last f (p + r.iv) t))) := by
                      show _ = _; have h := HT3.out
                      rw [if_pos e3] at h
                      rw [dvs_snoc, hxv, List.append_assoc]; exact h
                    have hlen : pre.length < T.length := by
                      have h := congrArg List.length HT4.out
                      rw [List.length_append, dvs_len, List.length_append] at h
                      simp at h; omega
                    obtain ⟨fn', tmps, assign, body, hy, hR⟩ := HY.out pre ⟨x.toNat, by omega⟩ wr HJr.out hlen
                    simp only [hxv] at hy
                    clear HT3 hlen
                    gi_wp2_with fail
                    refine ⟨fun h => (by cases h), hR.mono ?_⟩
                    rintro e W3 (⟨rfl, hJ3, hk3⟩ | ⟨rfl, hJx3⟩)
                    · have HC4 := Lib.hid (HCr.out.kx hk3 hX1 hX2 hX3 hXr)
                      have HO4 := Lib.hid (own_kx HOr.out hk3 hXM (by decide))
                      have hM4 : M ≤ W3.heap.size := Nat.le_trans hMr hk3.size
                      have HJ4 := Lib.hid hJ3
                      have z2 := blk_cell HC4.out.x3 (i := 2) (v := .int .i64 r.count) rfl
                      by_cases e4 : told + 1 = r.count
                      · have e4b : (told + 1 == r.count) = true := beq_iff_eq.2 e4
                        have E : Hid (T = dvs (pre ++ [⟨x.toNat, by omega⟩])) := by show _ = _; have h := HT4.out; rw [if_pos e4, List.append_nil] at h; exact h
                        clear HT4 hJ3 hk3 e4
                        gi_wp2_with fail
                        refine bodyPost_ret (results_none rfl _ _ _) rfl ?_
                        exact ⟨⟨_, rfl⟩, .inl ⟨_, E.out.symm, HJ4.out⟩⟩
                      · have e4b : (told + 1 == r.count) = false := beq_false_of_ne e4
                        have E : Hid (T = dvs (pre ++ [⟨x.toNat, by omega⟩]) ++ inner sn fn last r.count (d.drop (j + 1)) (told + 1) (fun t => outer r sn fn last f (p + r.iv) t)) := by show _ = _; have h := HT4.out; rw [if_neg e4] at h; exact h
                        clear HT4 hJ3 hk3 e4
                        gi_wp2_with fail
                        go_roundw
                        case rel => exact ⟨_, j + 1, told + 1, rfl, by go_num, by omega, by omega, by omega, hM4, HC4, HJ4, HO4, E⟩
                        case measure => simp [intOf]; omega
                    · gi_wp2_with fail
                      refine bodyPost_ret (results_none rfl _ _ _) rfl ?_
                      exact ⟨⟨_, rfl⟩, .inr ⟨_, ⟨_, HT4.out.symm⟩, hJx3⟩⟩
                  · have e3b : decide ((fn : Int) ≤ x) = false := decide_eq_false e3
                    have HT4 : Hid (T = dvs pre ++ (if told + 1 = r.count then [] else inner sn fn last r.count (d.drop (j + 1)) (told + 1) (fun t => outer r sn fn last f (p + r.iv) t))) := by
                      show _ = _; have h := HT3.out
                      rw [if_neg e3, List.nil_append] at h; exact h
                    clear HT3
                    by_cases e4 : told + 1 = r.count
                    · have e4b : (told + 1 == r.count) = true := beq_iff_eq.2 e4
                      have E : Hid (T = dvs pre) := by show _ = _; have h := HT4.out; rw [if_pos e4, List.append_nil] at h; exact h
                      clear HT4 e4
                      gi_wp2_with fail
                      refine ⟨fun _ h => (by cases h), ?_⟩
                      gi_wp2_with fail
                      refine bodyPost_ret (results_none rfl _ _ _) rfl ?_
                      exact ⟨⟨_, rfl⟩, .inl ⟨_, E.out.symm, HJr.out⟩⟩
                    · have e4b : (told + 1 == r.count) = false := beq_false_of_ne e4
                      have E : Hid (T = dvs pre ++ inner sn fn last r.count (d.drop (j + 1)) (told + 1) (fun t => outer r sn fn last f (p + r.iv) t)) := by show _ = _; have h := HT4.out; rw [if_neg e4] at h; exact h
                      clear HT4 e4
                      gi_wp2_with fail
                      refine ⟨fun _ h => (by cases h), ?_⟩
                      gi_wp2_with fail
                      go_roundw
                      case rel => exact ⟨_, j + 1, told + 1, rfl, by go_num, by omega, by omega, by omega, hMr, HCr, HJr, HOr, E⟩
                      case measure => simp [intOf]; omega
            · have hjz : ¬ (j : Int) < d.length := by omega
              have E : Hid (T = dvs pre ++ outer r sn fn last f (p + r.iv) told) := by show _ = _; have h := HTr.out; rw [List.drop_of_length_le (by omega)] at h; exact h
              have k1 := blk_cell HCr.out.x3 (i := 1) (v := .int .i64 r.iv) rfl
              have hwi : IntKind.i64.wrap (p + r.iv) = p + r.iv := by rw [IntKind.wrap_i64]; omega
              clear HTr
              gi_wp2_with fail
              go_roundw
              case rel => exact ⟨pre, f, p + r.iv, told, rfl, by go_num, by omega, by omega, ht3, by omega, by omega, hMr, HCr, HJr, E⟩
              case measure => simp only [intOf]; omega
      · have E : Hid (T = dvs pre) := by
          show _ = _
          have h := HTr.out
          cases f with
          | zero => unfold outer at h; rw [List.append_nil] at h; exact h
          | succ f => unfold outer at h; rw [if_neg hlt, List.append_nil] at h; exact h
        have hltb : decide (bg r p < last) = false := decide_eq_false hlt
        gi_wp2_with fail
        gi_region_with_o (refine ⟨trivial, fun h => (by cases h), (callsIn_wide.2 (HB1.out _)).mono ?_⟩; rintro e w2 ⟨rfl, hb⟩; have hb2 := (drew_below wr).trans hb; have y2 := cell_old x2 hb2; clear hb)
        all_goals
          have HJ2 := Lib.hid (own_grow HJ.out HJr.out hb2)
          gi_wp2
          go_end0
          exact ⟨⟨_, rfl⟩, .inl ⟨pre, E.out.symm, HJ2.out⟩⟩
end
end Go.Proofs.Ytnccgfdaddbndaa
end
