import Derived.Test.YtgmcacmdiiogmaaZCUB0
import Derived.Test.YtgmcacmdiiogmaaZCUB1
import Derived.Test.YtgmcacmdiiogmaaZCUB2
import Derived.Test.YtgmcacmdiiogmaaZCUB3
import Derived.Test.YtgmcacmdiiogmaaZCUB4
import Derived.Test.YtgmcacmdiiogmaaZCUB5
/- What the law of layer 14 makes of its operations: streams, and the document's rows, side by side. -/
section
namespace Go.Proofs.Ytgmcacmdiiogmaa
open Go.ChangeShapes Go.WideShapes Go.ChangeAt Go.RowKit Go.Joins Sp

set_option maxRecDepth 100000 in
set_option maxHeartbeats 60000000 in
theorem build_any {St : StP} {Ct : CtP} (K : CuK St Ct) (c : Value) (k : Nat) (C : Nat → Prop) (ops : List Op14) (A : Option Addr) (d : Nat) (w : World) (hn : ops.length ≤ 20) (hok : ∀ o ∈ ops, o.Ok ∧ o.l.length ≤ 12) (hc : Ct w c k C) (hops : OpsAt w A ops) :
    Calls Try.prog 11 #[c, .slice A ops.length d] w (RetB St c w) := by
  obtain ⟨is0, his0, hqs0, hqs1, hqs2⟩ := info_parts ptr_info
  obtain ⟨ir0, hir0, hqr0, hqr1, hqr2⟩ := info_parts row_info
  have HOP := Lib.hid hops
  have HOK := Lib.hid hok
  have HCT : Hid (∀ g : Gr w, Ct g.val c k C) := fun g => K.coff hc (.of_below (F := fun _ => False) g.ok) fun _ _ => id
  have hnz : (ops.length : Int) ≤ 20 := by omega
  clear hops hok hc
  go_enter Try.func11, Try.ntmps11
  go_wp2_with fail
  go_loopw [7, 8, 9, 16] (fun s7 s8 s9 s16 wr => BuR St w c ops s7 s8 s9 s16 wr) (fun _ _ _ s16 _ => ops.length - (intOf s16).toNat)
  case atStart => exact ⟨0, 0, 0, 0, 0, none, none, ⟨w, Below.refl _ _⟩, rfl, Nat.zero_le _, Nat.le_refl _, Nat.le_refl _, rfl, rfl, rfl, rfl, fun _ => 0, [], [], [], [], ⟨Nat.le_refl _, rfl, rfl, fun i p L q h => by simp at h⟩, ⟨World.ownsRow_nil _ _ _ _, fun a h => by cases h⟩, ⟨rfl, World.ownsRow_nil _ _ _ _, (fun a h => by cases h), fun i L h => by simp at h⟩, Nat.le_refl _, Nat.le_refl _⟩
  case round =>
    have hrel' := hrel
    obtain ⟨i, m, most, cs, cr, As, Ar, g, rfl, hi, hmi, hmost, h16, h7, h8, h9, HB⟩ := hrel'
    by_cases hlt : i < ops.length
    · obtain ⟨o, ho⟩ : ∃ o, ops[i]? = some o := ⟨_, List.getElem?_eq_getElem hlt⟩
      have hc := HCT.out ⟨w, Below.refl _ _⟩
      by_cases e0 : o.k = 0
      · exact build_w0 K hn HOK.out hc HOP.out hrel h16 hlt ho e0
      by_cases e1 : o.k = 1
      · exact build_w1 K hn HOK.out hc HOP.out hrel h16 hlt ho e1
      by_cases e2 : o.k = 2
      · exact build_w2 K hn HOK.out hc HOP.out hrel h16 hlt ho e2
      by_cases e3 : o.k = 3
      · exact build_w3 K hn HOK.out hc HOP.out hrel h16 hlt ho e3
      by_cases e4 : o.k = 4
      · exact build_w4 K hn HOK.out hc HOP.out hrel h16 hlt ho e4
      exact build_w5 K hn HOK.out hc HOP.out hrel h16 hlt ho ⟨e0, e1, e2, e3, e4⟩
    subst h16 h7 h8 h9
    clear hrel
    obtain rfl : i = ops.length := by omega
    have hiz : ¬ (ops.length : Int) < ops.length := by omega
    obtain ⟨T, ps, xs, ls, ns, hbu⟩ := HB.out
    rcases Nat.eq_zero_or_pos m with rfl | hm0
    · go_wp2_with fail
      go_ret3
      exact ⟨.pointer none, none, 0, [], 0, most, fun _ => False, rfl, K.nilS _ _, Nat.zero_le _, by omega, by simp, Sl.none_ _, fun h => absurd h (by simp), fun _ h => h.elim, g.ok⟩
    · obtain ⟨j, rfl⟩ : ∃ j, m = j + 1 := ⟨m - 1, by omega⟩
      have hmb : ((j : Int) + 1 == 0) = false := beq_false_of_ne (by omega)
      have hwj : IntKind.i64.wrap ((j : Int) + 1 - 1) = (j : Int) := by rw [IntKind.wrap_i64]; omega
      have hwj2 : IntKind.i64.wrap (j : Int) = (j : Int) := by rw [IntKind.wrap_i64]; omega
      have hwj3 : IntKind.i64.wrap (((j + 1 : Nat) : Int) - 1) = (j : Int) := by rw [IntKind.wrap_i64]; omega
      have hjz : (j : Int) < (j : Int) + 1 := by omega
      have hjz2 : (j : Int) < ((j + 1 : Nat) : Int) := by omega
      have hj0 : (0 : Int) ≤ j := by omega
      obtain ⟨gsb, cs2, ea, _, _⟩ := hbu.sb.own.form (by omega)
      simp only [Value.slice.injEq, true_and] at ea
      obtain ⟨rfl, rfl⟩ := ea
      obtain ⟨grb, cr2, ea, _, _⟩ := hbu.rb.own.form (by omega)
      simp only [Value.slice.injEq, true_and] at ea
      obtain ⟨rfl, rfl⟩ := ea
      have hlp := hbu.sb.lp
      obtain ⟨L, hL⟩ : ∃ L, ls[j]? = some L := ⟨_, List.getElem?_eq_getElem (by rw [hbu.rb.ll]; omega)⟩
      obtain ⟨nn, hnn⟩ : ∃ nn, ns[j]? = some nn := ⟨_, List.getElem?_eq_getElem (by rw [hbu.ss.ln]; omega)⟩
      obtain ⟨pp, hpp⟩ : ∃ pp, ps[j]? = some pp := ⟨_, List.getElem?_eq_getElem (by omega)⟩
      have hst := hbu.ss.st j pp L nn hpp hL hnn
      obtain ⟨pa, rfl⟩ := K.ptr hst
      obtain ⟨A2, d2, hxj, hsl2, hA2⟩ := hbu.rb.at_ j L hL
      have HST := Lib.hid hst
      have HS2 := Lib.hid (And.intro hsl2 hA2)
      have HLL : Hid (L.length ≤ 260) := by
        have h1 := total_cut ls j
        have h2 := total_drop ls j L hL
        have h3 := hbu.tot
        show _ ≤ _
        omega
      have HNN : Hid (nn ≤ most) := by
        have h1 := sum_cut ns j
        have hlt := (List.getElem?_eq_some_iff.1 hnn).1
        rw [List.drop_eq_getElem_cons hlt, (List.getElem?_eq_some_iff.1 hnn).2, List.sum_cons] at h1
        have h3 := hbu.sum
        show _ ≤ _
        omega
      obtain ⟨c1, _⟩ := own_at hbu.sb.own hpp
      obtain ⟨c2, _⟩ := own_at hbu.rb.own hxj
      clear hbu hst hsl2 hA2 hL hnn hpp hxj HB
      go_upto_region 31 with fail
      go_quiet (fail)
      go_wp2_with fail
      go_ret3
      have hd := drewN_below g.val nq
      have ho := Off.of_below (F := fun _ => False) hd
      have h1 := K.mono (F' := tg w g.val T (j + 3)) (K.off HST.out ho fun _ _ => id) (fun _ q => q) fun b q => Nat.lt_of_lt_of_le q.2.1 hd.size
      exact ⟨.pointer pa, A2, d2, L, nn, most, tg w g.val T (j + 3), rfl, h1, HNN.out, by omega, by have := HLL.out; omega, HS2.out.1.below hd (Nat.le_refl _), fun hn a ha => ⟨(HS2.out.2 hn a ha).1, fun q => by have := (HS2.out.2 hn a ha).2; have := q.2.2; omega⟩, fun b q => q.1, g.ok.trans (hd.mono g.size)⟩
end Go.Proofs.Ytgmcacmdiiogmaa
end
