/- The laws' walks: which frame bytes begin with. -/
import Derived.Test.YtjjmbndknjjjjaaDoorFL2
namespace Go.Proofs.YtjjmbndknjjjjaaDoor
open Go.ChangeShapes Go.WideShapes Go.ChangeAt Go.RowKit Go.Joins Fr

set_option maxHeartbeats 1000000 in
theorem frameGets_walk (l : List UInt8) (gen number : Nat) (A : Option Addr) (c : Nat) (w : World) (hg : gen < 4294967296) (hn : number < 4294967296) (hl : l.length ≤ c) (hc : c ≤ maxLen) (hz : A = none → c = 0) (hA : BAt w A l) (hH : Halves w) :
    Calls Tryd.prog 4 #[.slice A l.length c, .int .u32 gen, .int .u32 number] w fun e w' => e = .returned (.bool true) ∧ Below w.heap.size w w' := by
  have HH := Lib.hid hH
  clear hH
  by_cases h1 : 5000 < l.length
  · have HF := Lib.hid (fixed6_any w HH.out)
    have hz : (5000 : Int) < l.length := by omega
    clear h1
    go_enter Tryd.func4, Tryd.ntmps4
    go_wp2_with fail
    go_at_call 8
    refine HF.out.mono ?_
    rintro e w' ⟨rfl, hb⟩
    go_wp2_with fail
    go_ret
    exact ⟨rfl, hb⟩
  have hz1 : ¬ (5000 : Int) < l.length := by omega
  have hl5 : l.length ≤ 5000 := by omega
  obtain ⟨i0, hi0, hq0, hq1, hq2⟩ := info_parts u8_info
  have HS := Lib.hid (Sl.of_bytes hA hl hc hz)
  have HA := Lib.hid hA
  have h1b := Lib.hid (bl_one l)
  have hmx : 0 + l.length ≤ maxLen := by unfold maxLen; omega
  clear hA h1 hz
  go_enter Tryd.func4, Tryd.ntmps4
  go_wp2_with (at_builtin; refine wpList_append_sl rfl _ _ _ (by rfl) w.heap.size 5 i0 _ 1 1 Tryd.underlying23 hi0 hq0 hq1 hq2 rfl (by decide) (.slice (some ⟨w.heap.size, 0, none⟩) 0 0) 0 [] (by rfl) (World.ownsRow_made (base := w.heap.size) w #[] 0 (Nat.le_refl _) (by decide) rfl) A l.length c (bl l) (by rfl) (HS.out.alloc _) (by rw [bl_len]; omega) h1b.out hmx (by omega) (by simp) ?_)
  intro v1 w1 o1 gr1
  have W1 : Hid (Below w.heap.size w w1) := ((Below.refl _ w).alloc (Nat.le_refl _) _).grown gr1 (by simp) (by simp [Value.ownBlock])
  have o1' : w1.ownsRow w.heap.size 5 1 v1 l.length (bl l) := by simpa using o1
  obtain ⟨B, cb, rfl, q1, q2, q3, q4, _⟩ := BAt.of_own o1'
  have HB := Lib.hid q3
  clear q3 o1 o1' gr1 h1b HS
  have HG := Lib.hid (get_any gen number l.length l B cb hg hn rfl q1 q2 w1 HB.out (HH.out.below W1.out))
  go_wp2_with fail
  go_at_call 11
  refine HG.out.mono ?_
  rintro e w2 hret
  have HR := Lib.hid (fun w : World => rget_any gen number ⟨l.toArray⟩ hg hn (by simp [ByteArray.size]; omega) w)
  have cvA := fun (g : Gr w1) => ((HA.out.below W1.out (Nat.le_refl _)).gr g).conv (P := Tryd.prog) c (dst := 9) Tryd.underlying23 Tryd.underlying5 Tryd.underlying9
  have cvB := fun (g : Gr w1) => (HB.out.gr g).conv (P := Tryd.prog) cb (dst := 9) Tryd.underlying23 Tryd.underlying5 Tryd.underlying9
  have HF := Lib.hid (fun g : Gr w1 => fixed6_any g.val ((HH.out.below W1.out).gr g))
  have HFin := Lib.hid (fun (g : Gr w1) (w4 : World) (h : Below g.val.heap.size g.val w4) => (W1.out.trans (g.ok.mono W1.out.size)).trans (h.mono (Nat.le_trans W1.out.size g.size)))
  rcases hret with ⟨hno, rfl, hb⟩ | ⟨hyes, A4, c4, rfl, hf⟩
  · obtain ⟨g, rfl⟩ := Gr.of hb
    rw [getV_no hno] at HR
    clear hb HG hno
    go_wp2_with fail
    go_at_call 13
    refine (HR.out _).mono ?_
    rintro e w' ⟨rfl, hb⟩
    obtain ⟨g, rfl⟩ := g.on hb
    clear hb
    go_wp2_with fail
    go_at_call 8
    refine (HF.out _).mono ?_
    rintro e w' ⟨rfl, hb⟩
    go_wp2_with fail
    go_ret
    exact ⟨rfl, HFin.out g _ hb⟩
  · obtain ⟨g, rfl⟩ := Gr.of hf.below
    rw [getV_yes hyes] at HR
    have hw := (getB_ways hg hn).1 hyes
    have h16 : (0 : Int) ≤ 16 + (rd4 l : Nat) := by omega
    have hcast : ((16 + rd4 l : Nat) : Int) = 16 + ((rd4 l : Nat) : Int) := by omega
    simp only [hcast] at HR
    have HP := Lib.hid hf.at_.1
    have hpl := hf.len
    have HN := Lib.hid (fun g2 : Gr w1 => gen_any l l.length A c rfl hw.1 (by omega) g2.val ((HA.out.below W1.out (Nat.le_refl _)).gr g2))
    rw [hw.2.1] at HN
    clear hf HG hyes hw hcast
    generalize rd4 l = r at *
    generalize getP l = p at *
    go_wp2_with fail
    go_at_call 13
    refine (HR.out _).mono ?_
    rintro e w' ⟨rfl, hb⟩
    have HP2 := Lib.hid (HP.out.below hb (Nat.le_refl _))
    obtain ⟨g, rfl⟩ := g.on hb
    clear hb
    go_wp2_with fail
    go_at_call 8
    refine (HF.out _).mono ?_
    rintro e w' ⟨rfl, hb⟩
    have cvP := (HP2.out.below hb (Nat.le_refl _)).conv_n (P := Tryd.prog) c4 _ hpl (dst := 9) Tryd.underlying23 Tryd.underlying5 Tryd.underlying9
    have HB4 := Lib.hid (HFin.out g _ hb)
    obtain ⟨g4, hg4⟩ : ∃ g4 : Gr w1, w' = g4.val := g.on hb
    have HN4 := Lib.hid (HN.out g4)
    rw [← hg4] at HN4
    clear hb hg4
    go_wp2_with fail
    go_at_call 12
    refine HN4.out.mono ?_
    rintro e w5 ⟨rfl, hb⟩
    go_wp2_with fail
    go_ret
    exact ⟨rfl, HB4.out.trans (hb.mono HB4.out.size)⟩
end Go.Proofs.YtjjmbndknjjjjaaDoor
