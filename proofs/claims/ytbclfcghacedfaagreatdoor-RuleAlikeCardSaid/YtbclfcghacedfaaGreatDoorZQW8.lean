import Derived.Test.YtbclfcghacedfaaGreatDoorZQW4
import Derived.Test.YtbclfcghacedfaaGreatDoorZMA
import Derived.Test.YtbclfcghacedfaaGreatDoorZMC
import Derived.Deep.Cut
import Derived.Deep.QuietTactic
import Derived.BigQuiet
/- Contract of the document's rules: their texts. -/
section
namespace Go.Proofs.YtbclfcghacedfaaGreatDoor
open Go.ChangeShapes Go.WideShapes Go.ChangeAt Go.RowKit Qr Ck

def namesA : Array Value := #[.string ⟨#[77, 79]⟩, .string ⟨#[84, 85]⟩, .string ⟨#[87, 69]⟩, .string ⟨#[84, 72]⟩, .string ⟨#[70, 82]⟩, .string ⟨#[83, 65]⟩, .string ⟨#[83, 85]⟩]
def freqsA : Array Value := #[.string ⟨#[]⟩, .string ⟨#[68, 65, 73, 76, 89]⟩, .string ⟨#[87, 69, 69, 75, 76, 89]⟩, .string ⟨#[77, 79, 78, 84, 72, 76, 89]⟩, .string ⟨#[89, 69, 65, 82, 76, 89]⟩]
theorem namesA_at : ∀ k, k < 7 → namesA[k]? = some (.string ⟨(dayName k).toArray⟩)
  | 0, _ => rfl
  | 1, _ => rfl
  | 2, _ => rfl
  | 3, _ => rfl
  | 4, _ => rfl
  | 5, _ => rfl
  | 6, _ => rfl
  | k + 7, h => absurd h (by omega)
theorem freqsA_at : ∀ k, 1 ≤ k → k ≤ 4 → freqsA[k]? = some (.string ⟨(freqName k).toArray⟩)
  | 0, h, _ => absurd h (by omega)
  | 1, _, _ => rfl
  | 2, _, _ => rfl
  | 3, _, _ => rfl
  | 4, _, _ => rfl
  | k + 5, _, h => absurd h (by omega)
theorem prt_len {nm : List UInt8} {l : List Int} (hb : ∀ x ∈ l, -1000000 ≤ x ∧ x ≤ 1000000) : (prt nm l).length ≤ nm.length + 2 + 9 * l.length := by
  unfold prt
  split
  · simp
  · cases l with
    | nil => simp [nums]
    | cons x r =>
      have h1 := decI_len (hb x (by simp)).1 (hb x (by simp)).2
      have h2 : ∀ r : List Int, (∀ x ∈ r, -1000000 ≤ x ∧ x ≤ 1000000) → (tail_ r).length ≤ 9 * r.length := by
        intro r hr
        induction r with
        | nil => simp [tail_]
        | cons y r ih =>
          have h3 := decI_len (hr y (by simp)).1 (hr y (by simp)).2
          have h4 := ih (fun z hz => hr z (by simp [hz]))
          rw [tail_cons]; simp; omega
      have h3 := h2 r (fun z hz => hb z (by simp [hz]))
      simp [nums]; omega

theorem row_bd {most : Int} {below : Bool} {l : List Int} (h : rowB most below l = true) (hm : 0 ≤ most ∧ most ≤ 1000) (x : Int) (hx : x ∈ l) : -1000000 ≤ x ∧ x ≤ 1000000 := by
  obtain ⟨i, hi, rfl⟩ := List.getElem_of_mem hx
  have := rowB_iff.1 h i hi
  unfold okN at this
  rw [getD_at hi] at this
  omega
theorem day_bd9 {r : R} (h : daysB r = true) (i : Nat) (hi : i < r.bw.length) : 0 ≤ r.bw[i].2 ∧ r.bw[i].2 ≤ 6 ∧ -5 ≤ r.bw[i].1 ∧ r.bw[i].1 ≤ 5 := by
  have := daysB_iff.1 h i hi
  unfold okD at this
  simp only [getD_at hi] at this
  omega
theorem app2x (a b : List UInt8) : (ByteArray.mk a.toArray ++ ByteArray.mk b.toArray : ByteArray) = ⟨(a ++ b).toArray⟩ := ByteArray.mk_append_mk a b

theorem draw2x {w : World} (g : Gr w) : ∃ g' : Gr w, { g.val.drew with drawn := g.val.drew.drawn + 1 } = g'.val := ⟨⟨_, g.ok.drew.drew⟩, rfl⟩
theorem ext_mk (T : List UInt8) (i j : Nat) : (ByteArray.mk T.toArray).extract i j = ⟨((T.drop i).take (j - i)).toArray⟩ := by
  apply ByteArray.ext
  apply Array.toList_inj.1
  rw [ByteArray.data_extract, Array.toList_extract, List.extract_eq_take_drop]
theorem slice_a {P : Program} {t : TypeId} {T : List UInt8} (h : P.underlying t = some .string) (hT : T.length = 16) (w' : World) : (Instr.slice t (.string ⟨T.toArray⟩) none (some (.int .i64 4)) none).run P w' = .ok (.string ⟨(T.take 4).toArray⟩) w' := by
  have hs : (ByteArray.mk T.toArray).size = 16 := by show T.toArray.size = 16; simpa using hT
  rw [run_slice_string_h w' t _ h .i64 4 (by omega) (by omega), show (4 : Int).toNat = 4 from rfl, ext_mk]; simp
theorem slice_b {P : Program} {t : TypeId} {T : List UInt8} (h : P.underlying t = some .string) (hT : T.length = 16) (w' : World) : (Instr.slice t (.string ⟨T.toArray⟩) (some (.int .i64 5)) (some (.int .i64 7)) none).run P w' = .ok (.string ⟨((T.drop 5).take 2).toArray⟩) w' := by
  have hs : (ByteArray.mk T.toArray).size = 16 := by show T.toArray.size = 16; simpa using hT
  rw [run_slice_string w' t _ .i64 .i64 5 7 h (by omega) (by omega) (by omega), show (5 : Int).toNat = 5 from rfl, show (7 : Int).toNat = 7 from rfl, ext_mk]
theorem slice_c {P : Program} {t : TypeId} {T : List UInt8} (h : P.underlying t = some .string) (hT : T.length = 16) (w' : World) : (Instr.slice t (.string ⟨T.toArray⟩) (some (.int .i64 8)) (some (.int .i64 13)) none).run P w' = .ok (.string ⟨((T.drop 8).take 5).toArray⟩) w' := by
  have hs : (ByteArray.mk T.toArray).size = 16 := by show T.toArray.size = 16; simpa using hT
  rw [run_slice_string w' t _ .i64 .i64 8 13 h (by omega) (by omega) (by omega), show (8 : Int).toNat = 8 from rfl, show (13 : Int).toNat = 13 from rfl, ext_mk]
theorem slice_d {P : Program} {t : TypeId} {T : List UInt8} (h : P.underlying t = some .string) (hT : T.length = 16) (w' : World) : (Instr.slice t (.string ⟨T.toArray⟩) (some (.int .i64 14)) none none).run P w' = .ok (.string ⟨(T.drop 14).toArray⟩) w' := by
  have hs : (ByteArray.mk T.toArray).size = 16 := by show T.toArray.size = 16; simpa using hT
  rw [run_slice_string_l w' t _ h .i64 14 (by omega) (by omega), show (14 : Int).toNat = 14 from rfl, ext_mk, List.take_of_length_le (by rw [List.length_drop, hs]; omega)]

/-- The worlds of a text: a rule's box, the days' names, the others. -/
structure TW (w : World) (r : R) (A1 A2 A3 A4 : Option Addr) (c1 c2 c3 c4 : Nat) (W0 : World) : Prop where
  below : Below w.heap.size w W0
  box : ∀ (g : Gr W0) (k : Nat) (v : Value), (rcells r A1 A2 A3 A4 c1 c2 c3 c4)[k]? = some v → g.val.cell? ⟨w.heap.size, k, none⟩ = some v
  days : ∀ (g : Gr W0) (k : Nat), k < 7 → g.val.cell? ⟨w.heap.size + 1, k, none⟩ = some (.string ⟨(dayName k).toArray⟩)
  freqs : ∀ (g : Gr W0) (k : Nat), 1 ≤ k → k ≤ 4 → g.val.cell? ⟨w.heap.size + 1 + 1, k, none⟩ = some (.string ⟨(freqName k).toArray⟩)
theorem TW.mk_ (w : World) (r : R) (A1 A2 A3 A4 : Option Addr) (c1 c2 c3 c4 : Nat) (t1 t2 : TypeId) : TW w r A1 A2 A3 A4 c1 c2 c3 c4 (((w.alloc (.cells (rcells r A1 A2 A3 A4 c1 c2 c3 c4) t1)).alloc (.cells namesA t2)).alloc (.cells freqsA t2)) := by
  have b1 : ∀ (x : World) (o : Obj), Below x.heap.size x (x.alloc o) := fun x o => (Below.refl _ x).alloc (Nat.le_refl _) o
  refine ⟨(((Below.refl _ w).alloc (Nat.le_refl _) _).alloc (by simp) _).alloc (by simp; omega) _, fun g k v h => ?_, fun g k hk => ?_, fun g k h1 h2 => ?_⟩
  · refine cell_old ?_ g.ok
    refine cell_old ?_ (b1 _ _)
    refine cell_old ?_ (b1 _ _)
    rw [World.cell?_alloc_mark]; exact h
  · refine cell_old ?_ g.ok
    refine cell_old ?_ (b1 _ _)
    have := World.cell?_alloc_mark (w.alloc (.cells (rcells r A1 A2 A3 A4 c1 c2 c3 c4) t1)) namesA t2 (0, 0) k
    rw [namesA_at k hk] at this
    simpa using this
  · refine cell_old ?_ g.ok
    have := World.cell?_alloc_mark ((w.alloc (.cells (rcells r A1 A2 A3 A4 c1 c2 c3 c4) t1)).alloc (.cells namesA t2)) freqsA t2 (0, 0) k
    rw [freqsA_at k h1 h2] at this
    simpa using this

set_option maxRecDepth 100000 in
set_option maxHeartbeats 4000000 in
theorem rtext_any (r : R) (A1 A2 A3 A4 : Option Addr) (c1 c2 c3 c4 : Nat) (w : World) (hm : mayP r) (hl : r.bm.length ≤ 1000 ∧ r.bd.length ≤ 1000 ∧ r.bw.length ≤ 1000 ∧ r.bs.length ≤ 1000) (hs : RAt w r A1 A2 A3 A4 c1 c2 c3 c4) :
    Calls Tryz.prog 13 #[.agg (rcells r A1 A2 A3 A4 c1 c2 c3 c4)] w fun e w' => e = .returned (.string ⟨(textT r).toArray⟩) ∧ Below w.heap.size w w' := by
  have HT := Lib.hid (TW.mk_ w r A1 A2 A3 A4 c1 c2 c3 c4 25 9)
  have HS := Lib.hid hs
  have HM := Lib.hid hm
  obtain ⟨l1, l2, l3, l4⟩ := hl
  have hfr := hm.1.1
  have hfr2 := hm.1.2.1
  obtain ⟨fq, hfq⟩ : ∃ fq : Nat, r.freq = fq := ⟨r.freq.toNat, by omega⟩
  have HFQ := Lib.hid hfq
  have f1 : 1 ≤ fq := by omega
  have f2 : fq ≤ 4 := by omega
  clear hs hm hfr hfr2
  obtain ⟨freq, iv_, count, until_, bm, bd, bw, bs, start⟩ := r
  simp only at hfq l1 l2 l3 l4
  subst hfq
  unfold rcells namesA freqsA at *
  simp only at *
  have HX : Hid (textT ⟨fq, iv_, count, until_, bm, bd, bw, bs, start⟩ = [70, 82, 69, 81, 61] ++ freqName fq ++ ivT ⟨fq, iv_, count, until_, bm, bd, bw, bs, start⟩ ++ ctT ⟨fq, iv_, count, until_, bm, bd, bw, bs, start⟩ ++ unT ⟨fq, iv_, count, until_, bm, bd, bw, bs, start⟩ ++ (prt [66, 89, 77, 79, 78, 84, 72] bm ++ prt [66, 89, 77, 79, 78, 84, 72, 68, 65, 89] bd) ++ rstD bw 0 ++ prt [66, 89, 83, 69, 84, 80, 79, 83] bs ++ wkT ⟨fq, iv_, count, until_, bm, bd, bw, bs, start⟩) := rfl
  obtain ⟨R, hR⟩ : ∃ R, textT ⟨fq, iv_, count, until_, bm, bd, bw, bs, start⟩ = R := ⟨_, rfl⟩
  rw [hR] at HX ⊢
  clear hR
  go_enter Tryz.func13, Tryz.ntmps13
  go_upto_region 3 with fail
  obtain ⟨G, hG⟩ : ∃ G, (((w.alloc (.cells #[.int .i64 (fq : Int), .int .i64 iv_, .int .i64 count, .int .i64 until_, .slice A1 bm.length c1, .slice A2 bd.length c2, .slice A3 bw.length c3, .slice A4 bs.length c4, .int .i64 start] 25)).alloc (.cells #[.string ⟨#[77, 79]⟩, .string ⟨#[84, 85]⟩, .string ⟨#[87, 69]⟩, .string ⟨#[84, 72]⟩, .string ⟨#[70, 82]⟩, .string ⟨#[83, 65]⟩, .string ⟨#[83, 85]⟩] 9)).alloc (.cells #[.string ⟨#[]⟩, .string ⟨#[68, 65, 73, 76, 89]⟩, .string ⟨#[87, 69, 69, 75, 76, 89]⟩, .string ⟨#[77, 79, 78, 84, 72, 76, 89]⟩, .string ⟨#[89, 69, 65, 82, 76, 89]⟩] 9)) = G := ⟨_, rfl⟩
  rw [hG] at HT ⊢
  clear hG
  have T1 : G.cell? ⟨w.heap.size, 0, none⟩ = some (.int .i64 (fq : Int)) := HT.out.box ⟨G, Below.refl _ _⟩ 0 _ rfl
  have TB1 := Lib.hid (fun g : Gr G => (show g.val.cell? ⟨w.heap.size, 1, none⟩ = some (.int .i64 iv_) from HT.out.box g 1 _ rfl))
  have TB2 := Lib.hid (fun g : Gr G => (show g.val.cell? ⟨w.heap.size, 2, none⟩ = some (.int .i64 count) from HT.out.box g 2 _ rfl))
  have TB3 := Lib.hid (fun g : Gr G => (show g.val.cell? ⟨w.heap.size, 3, none⟩ = some (.int .i64 until_) from HT.out.box g 3 _ rfl))
  have TB4 := Lib.hid (fun g : Gr G => (show g.val.cell? ⟨w.heap.size, 4, none⟩ = some (.slice A1 bm.length c1) from HT.out.box g 4 _ rfl))
  have TB5 := Lib.hid (fun g : Gr G => (show g.val.cell? ⟨w.heap.size, 5, none⟩ = some (.slice A2 bd.length c2) from HT.out.box g 5 _ rfl))
  have TB6 := Lib.hid (fun g : Gr G => (show g.val.cell? ⟨w.heap.size, 6, none⟩ = some (.slice A3 bw.length c3) from HT.out.box g 6 _ rfl))
  have TB7 := Lib.hid (fun g : Gr G => (show g.val.cell? ⟨w.heap.size, 7, none⟩ = some (.slice A4 bs.length c4) from HT.out.box g 7 _ rfl))
  have TB8 := Lib.hid (fun g : Gr G => (show g.val.cell? ⟨w.heap.size, 8, none⟩ = some (.int .i64 start) from HT.out.box g 8 _ rfl))
  have TF := HT.out.freqs ⟨G, Below.refl _ _⟩ fq f1 f2
  have hfl := freqName_len fq
  have hfz : (0 : Int) ≤ fq := by omega
  have hfz5 : (fq : Int) < 5 := by omega
  generalize freqName fq = fn at *
  have TG1 := TB1.out ⟨G, Below.refl _ _⟩
  have TG2 := TB2.out ⟨G, Below.refl _ _⟩
  have TG3 := TB3.out ⟨G, Below.refl _ _⟩
  simp only at TG1 TG2 TG3 T1 TF
  have HIV := Lib.hid (fun (g : Gr G) => rdecI_any iv_ (by have := HM.out.1; simp only at this; omega) (by have := HM.out.1; simp only at this; omega) g.val)
  have HCT := Lib.hid (fun (g : Gr G) => rdecI_any count (by have := HM.out.1; simp only at this; omega) (by have := HM.out.1; simp only at this; omega) g.val)
  have livT := decI_len (n := iv_) (by have := HM.out.1; simp only at this; omega) (by have := HM.out.1; simp only at this; omega)
  have lctT := decI_len (n := count) (by have := HM.out.1; simp only at this; omega) (by have := HM.out.1; simp only at this; omega)
  have HN1 := Lib.hid (fun g : Gr G => rnumbers_any [66, 89, 77, 79, 78, 84, 72] bm A1 c1 g.val (by simp) l1 (fun x hx => row_bd (HM.out.2.2.1.1) (by omega) x hx) ((HS.out.s1.below HT.out.below (Nat.le_refl _)).gr g))
  have HN2 := Lib.hid (fun g : Gr G => rnumbers_any [66, 89, 77, 79, 78, 84, 72, 68, 65, 89] bd A2 c2 g.val (by simp) l2 (fun x hx => row_bd (HM.out.2.2.1.2.1) (by omega) x hx) ((HS.out.s2.below HT.out.below (Nat.le_refl _)).gr g))
  have HN4 := Lib.hid (fun g : Gr G => rnumbers_any [66, 89, 83, 69, 84, 80, 79, 83] bs A4 c4 g.val (by simp) l4 (fun x hx => row_bd (HM.out.2.2.1.2.2.1) (by omega) x hx) ((HS.out.s4.below HT.out.below (Nat.le_refl _)).gr g))
  have lp1 : (prt [66, 89, 77, 79, 78, 84, 72] bm).length ≤ 10000 := by have := prt_len (nm := [66, 89, 77, 79, 78, 84, 72]) (l := bm) (fun x hx => row_bd (HM.out.2.2.1.1) (by omega) x hx); simp at this; omega
  have lp2 : (prt [66, 89, 77, 79, 78, 84, 72, 68, 65, 89] bd).length ≤ 10000 := by have := prt_len (nm := [66, 89, 77, 79, 78, 84, 72, 68, 65, 89]) (l := bd) (fun x hx => row_bd (HM.out.2.2.1.2.1) (by omega) x hx); simp at this; omega
  have lp4 : (prt [66, 89, 83, 69, 84, 80, 79, 83] bs).length ≤ 10000 := by have := prt_len (nm := [66, 89, 83, 69, 84, 80, 79, 83]) (l := bs) (fun x hx => row_bd (HM.out.2.2.1.2.2.1) (by omega) x hx); simp at this; omega
  have HDY := Lib.hid (fun (i : Nat) (hi : i < bw.length) => day_bd9 (HM.out.2.2.1.2.2.2) i hi)
  have HSW := Lib.hid (HS.out.s3.below HT.out.below (Nat.le_refl _))
  have hbwl : bw.length ≤ 1000 := l3
  generalize prt [66, 89, 77, 79, 78, 84, 72] bm = p1 at *
  generalize prt [66, 89, 77, 79, 78, 84, 72, 68, 65, 89] bd = p2 at *
  generalize prt [66, 89, 83, 69, 84, 80, 79, 83] bs = p4 at *
  by_cases kiv : 1 < iv_
  · by_cases kct : 0 < count
    · have EI : ivT ⟨fq, iv_, count, until_, bm, bd, bw, bs, start⟩ = [59, 73, 78, 84, 69, 82, 86, 65, 76, 61] ++ decI iv_ := if_pos kiv
      rw [EI] at HX
      clear EI
      generalize decI iv_ = tiv at *
      have EC : ctT ⟨fq, iv_, count, until_, bm, bd, bw, bs, start⟩ = [59, 67, 79, 85, 78, 84, 61] ++ decI count := if_pos kct
      rw [EC] at HX
      clear EC
      generalize decI count = tct at *
      have kun : ¬ 0 ≤ until_ := by have := HM.out.2.1; simp only at this; omega
      have kunb : decide (0 ≤ until_) = false := decide_eq_false kun
      have EU : unT ⟨fq, iv_, count, until_, bm, bd, bw, bs, start⟩ = [] := if_neg kun
      rw [EU] at HX
      clear EU
      go_wp2_with fail
      go_at_call 38
      refine (HIV.out ⟨G, Below.refl _ _⟩).mono ?_
      rintro e w' ⟨rfl, hb⟩
      obtain ⟨g, rfl⟩ := Gr.of hb
      clear hb
      have U2 := TB2.out g
      have U3 := TB3.out g
      go_wp2_with fail
      go_at_call 38
      refine (HCT.out g).mono ?_
      rintro e w' ⟨rfl, hb⟩
      obtain ⟨g, rfl⟩ := g.on hb
      clear hb
      have U3 := TB3.out g
      go_wp2_with fail
      have hpre : (ByteArray.mk [70, 82, 69, 81, 61].toArray ++ ByteArray.mk fn.toArray ++ ByteArray.mk [59, 73, 78, 84, 69, 82, 86, 65, 76, 61].toArray ++ ByteArray.mk tiv.toArray ++ ByteArray.mk [59, 67, 79, 85, 78, 84, 61].toArray ++ ByteArray.mk tct.toArray) = ⟨([70, 82, 69, 81, 61] ++ fn ++ [59, 73, 78, 84, 69, 82, 86, 65, 76, 61] ++ tiv ++ [59, 67, 79, 85, 78, 84, 61] ++ tct).toArray⟩ := by simp only [ByteArray.mk_append_mk]
      rw [hpre]
      clear hpre
      obtain ⟨P, hP, hPl⟩ : ∃ P : List UInt8, P = [70, 82, 69, 81, 61] ++ fn ++ [59, 73, 78, 84, 69, 82, 86, 65, 76, 61] ++ tiv ++ [59, 67, 79, 85, 78, 84, 61] ++ tct ∧ P.length ≤ 100 := ⟨_, rfl, by simp <;> omega⟩
      rw [← hP]
      have HXP : Hid (P ++ (p1 ++ p2) ++ rstD bw 0 ++ p4 ++ wkT ⟨fq, iv_, count, until_, bm, bd, bw, bs, start⟩ = R) := by show _ = _; rw [HX.out, hP]; simp only [List.append_assoc, List.append_nil]
      clear hP HX
      have b4 := TB4.out
      have b5 := TB5.out
      refine Gr.region (by kernel_rfl) (by kernel_rfl) g.draw ?_
      repeat (go_big_quiet_step (fail))
      go_big_quiet_step ((go_at_call 40; exact Gr.calls _ (HN1.out _)))
      repeat (go_big_quiet_step (fail))
      go_big_quiet_step ((go_at_call 40; exact Gr.calls _ (HN2.out _)))
      repeat (go_big_quiet_step (fail))
      refine wpQuiet_nil ?_
      rintro _ ⟨g, rfl⟩
      clear b4 b5
      have b6 := TB6.out g
      go_wp2_with fail
      clear b6
      rw [app3 P p1 p2]
      obtain ⟨WK, hWK⟩ : ∃ WK, WK = wkT ⟨fq, iv_, count, until_, bm, bd, bw, bs, start⟩ := ⟨_, rfl⟩
      rw [← hWK] at HXP
      have HWK := Lib.hid hWK
      clear hWK
      have HXQ : Hid (P ++ p1 ++ p2 ++ rstD bw 0 ++ p4 ++ WK = R) := by show _ = _; rw [← HXP.out]; simp only [List.append_assoc]
      have hql : (P ++ p1 ++ p2).length ≤ 20200 := by simp; omega
      clear HXP
      generalize P ++ p1 ++ p2 = Q at *
      go_loopw [5, 66] (fun s5 s66 wr => ∃ (i : Nat) (acc : List UInt8) (g2 : Gr G), wr = g2.val ∧ i ≤ bw.length ∧ s66 = .int .i64 i ∧ s5 = .string ⟨acc.toArray⟩ ∧ acc.length ≤ 20200 + 20 * i ∧ Hid (acc ++ rstD bw i ++ p4 ++ WK = R)) (fun _ s66 _ => bw.length - (intOf s66).toNat)
      case atStart => exact ⟨0, Q, g, rfl, Nat.zero_le _, rfl, rfl, hql, HXQ⟩
      case round =>
        obtain ⟨i, acc, g2, rfl, hi, rfl, rfl, hal, HI⟩ := hrel
        clear HXQ hql
        by_cases hlt : i < bw.length
        · have hiz : (i : Int) < bw.length := by omega
          obtain ⟨p, off, rfl, hp, hc⟩ := HSW.out.spanG (List.getElem?_eq_getElem hlt)
          obtain ⟨y1, y2, n1, n2⟩ := HDY.out i hlt
          have hfirst := fun h : i = 0 => (show rstD bw i = ([59, 66, 89, 68, 65, 89, 61] : List UInt8) ++ oneD bw[i] ++ rstD bw (i + 1) by subst h; exact rstD_first hlt)
          have hnext := fun h : 0 < i => rstD_next h hlt
          have HF1 := Lib.hid hfirst
          have HF2 := Lib.hid hnext
          clear hfirst hnext
          generalize bw[i] = d at *
          obtain ⟨n, y⟩ := d
          simp only at y1 y2 n1 n2 hc
          obtain ⟨yy, rfl⟩ : ∃ yy : Nat, y = yy := ⟨y.toNat, by omega⟩
          have hy7 : yy < 7 := by omega
          have hyz : (0 : Int) ≤ yy := by omega
          have hyz7 : (yy : Int) < 7 := by omega
          have HTN := Lib.hid (fun g : Gr G => HT.out.days g yy hy7)
          have hdl := dayName_len yy
          have HNN := Lib.hid (fun g : Gr G => rdecI_any n (by omega) (by omega) g.val)
          have htl := decI_len (n := n) (by omega) (by omega)
          have HO : Hid (oneD (n, (yy : Int)) = (if n = 0 then [] else decI n) ++ dayName yy) := by show _ = _; unfold oneD; simp
          generalize dayName yy = dn at *
          generalize decI n = t at *
          have b6 := TB6.out g2
          have tn := HTN.out g2
          obtain ⟨x1, x2⟩ := hc g2
          by_cases hn0 : n = 0
          · subst hn0
            have HO2 : Hid (oneD (0, (yy : Int)) = dn) := by show _ = _; rw [HO.out, if_pos rfl]; rfl
            cases i with
            | zero =>
              have E : Hid (acc ++ [59, 66, 89, 68, 65, 89, 61] ++ dn ++ rstD bw (0 + 1) ++ p4 ++ WK = R) := by show _ = _; rw [← HI.out, HF1.out rfl, HO2.out]; simp only [List.append_assoc]
              rw [Nat.zero_mul, Nat.add_zero] at x1 x2
              go_wp2_with fail
              go_roundw
              case rel => exact ⟨_ + 1, _, g2, rfl, hlt, by go_num, congrArg Value.string (by simp only [ByteArray.mk_append_mk]), by simp <;> omega, E⟩
              case measure => simp [intOf]; omega
            | succ k =>
              have E : Hid (acc ++ [44] ++ dn ++ rstD bw (k + 1 + 1) ++ p4 ++ WK = R) := by show _ = _; rw [← HI.out, HF2.out (Nat.succ_pos k), HO2.out]; simp
              have hk0 : (((k + 1 : Nat) : Int) == 0) = false := beq_false_of_ne (by omega)
              have hk1 : ((k : Int) + 1 == 0) = false := beq_false_of_ne (by omega)
              have hk2 : ¬ (k : Int) + 1 = 0 := by omega
              go_wp2_with fail
              go_roundw
              case rel => exact ⟨_ + 1, _, g2, rfl, hlt, by go_num, congrArg Value.string (by simp only [ByteArray.mk_append_mk]), by simp <;> omega, E⟩
              case measure => simp [intOf]; omega
          · have hnb : (n == 0) = false := beq_false_of_ne hn0
            have hnb2 : (n != 0) = true := by simpa using hn0
            have HO2 : Hid (oneD (n, (yy : Int)) = t ++ dn) := by show _ = _; rw [HO.out, if_neg hn0]
            cases i with
            | zero =>
              have E : Hid (acc ++ [59, 66, 89, 68, 65, 89, 61] ++ t ++ dn ++ rstD bw (0 + 1) ++ p4 ++ WK = R) := by show _ = _; rw [← HI.out, HF1.out rfl, HO2.out]; simp only [List.append_assoc]
              rw [Nat.zero_mul, Nat.add_zero] at hc x1 x2
              go_wp2_with fail
              go_at_call 38
              refine (HNN.out g2).mono ?_
              rintro e w' ⟨rfl, hb⟩
              obtain ⟨g2, rfl⟩ := g2.on hb
              clear hb
              have b6 := TB6.out g2
              have tn := HTN.out g2
              obtain ⟨x1, x2⟩ := hc g2
              go_wp2_with fail
              go_roundw
              case rel => exact ⟨_ + 1, _, g2, rfl, hlt, by go_num, congrArg Value.string (by simp only [ByteArray.mk_append_mk]), by simp <;> omega, E⟩
              case measure => simp [intOf]; omega
            | succ k =>
              have E : Hid (acc ++ [44] ++ t ++ dn ++ rstD bw (k + 1 + 1) ++ p4 ++ WK = R) := by show _ = _; rw [← HI.out, HF2.out (Nat.succ_pos k), HO2.out]; simp
              have hk0 : (((k + 1 : Nat) : Int) == 0) = false := beq_false_of_ne (by omega)
              have hk1 : ((k : Int) + 1 == 0) = false := beq_false_of_ne (by omega)
              have hk2 : ¬ (k : Int) + 1 = 0 := by omega
              go_wp2_with fail
              go_at_call 38
              refine (HNN.out g2).mono ?_
              rintro e w' ⟨rfl, hb⟩
              obtain ⟨g2, rfl⟩ := g2.on hb
              clear hb
              have b6 := TB6.out g2
              have tn := HTN.out g2
              obtain ⟨x1, x2⟩ := hc g2
              go_wp2_with fail
              go_roundw
              case rel => exact ⟨_ + 1, _, g2, rfl, hlt, by go_num, congrArg Value.string (by simp only [ByteArray.mk_append_mk]), by simp <;> omega, E⟩
              case measure => simp [intOf]; omega
        · obtain rfl : i = bw.length := by omega
          have b7 := TB7.out g2
          have b8 := TB8.out g2
          by_cases hst : 0 < start
          · have hs6 : start ≤ 6 := HM.out.1.2.2.2.2.2.2.2
            obtain ⟨st, rfl⟩ : ∃ st : Nat, start = st := ⟨start.toNat, by omega⟩
            have hst7 : st < 7 := by omega
            have hstz : (0 : Int) ≤ st := by omega
            have hstz7 : (st : Int) < 7 := by omega
            have EW : WK = [59, 87, 75, 83, 84, 61] ++ dayName st := by rw [HWK.out]; exact (if_pos hst).trans (by simp)
            have E : Hid (acc ++ p4 ++ [59, 87, 75, 83, 84, 61] ++ dayName st = R) := by show _ = _; rw [← HI.out, rstD_end, EW]; simp only [List.append_assoc, List.nil_append]
            have HTN := Lib.hid (fun g : Gr G => HT.out.days g st hst7)
            have hdl := dayName_len st
            clear EW
            generalize dayName st = dn at *
            go_wp2_with fail
            go_at_call 40
            refine (HN4.out g2).mono ?_
            rintro e w' ⟨rfl, hb⟩
            obtain ⟨g2, rfl⟩ := g2.on hb
            clear hb
            have b8 := TB8.out g2
            have tn := HTN.out g2
            go_wp2_with fail
            go_ret
            exact ⟨congrArg (fun x => Ending.returned (Value.string x)) (by rw [← E.out]; simp only [ByteArray.mk_append_mk]), HT.out.below.trans (g2.ok.mono HT.out.below.size)⟩
          · have EW : WK = [] := by rw [HWK.out]; exact if_neg hst
            have E : Hid (acc ++ p4 = R) := by show _ = _; rw [← HI.out, rstD_end, EW, List.append_nil, List.append_nil]
            clear EW
            go_wp2_with fail
            go_at_call 40
            refine (HN4.out g2).mono ?_
            rintro e w' ⟨rfl, hb⟩
            obtain ⟨g2, rfl⟩ := g2.on hb
            clear hb
            have b8 := TB8.out g2
            go_wp2_with fail
            go_ret
            exact ⟨congrArg (fun x => Ending.returned (Value.string x)) (by rw [app2x, E.out]), HT.out.below.trans (g2.ok.mono HT.out.below.size)⟩
    · by_cases kun : 0 ≤ until_
      · have EI : ivT ⟨fq, iv_, count, until_, bm, bd, bw, bs, start⟩ = [59, 73, 78, 84, 69, 82, 86, 65, 76, 61] ++ decI iv_ := if_pos kiv
        rw [EI] at HX
        clear EI
        generalize decI iv_ = tiv at *
        have EC : ctT ⟨fq, iv_, count, until_, bm, bd, bw, bs, start⟩ = [] := if_neg kct
        rw [EC] at HX
        clear EC
        have kctb : decide (0 < count) = false := decide_eq_false kct
        have EU : unT ⟨fq, iv_, count, until_, bm, bd, bw, bs, start⟩ = [59, 85, 78, 84, 73, 76, 61] ++ (stampT until_).take 4 ++ ((stampT until_).drop 5).take 2 ++ ((stampT until_).drop 8).take 5 ++ (stampT until_).drop 14 := if_pos kun
        rw [EU] at HX
        clear EU
        have ku1 := HM.out.2.1
        simp only at ku1
        have HST := Lib.hid (fun (g : Gr G) => rstamp_any until_ kun (by omega) g.val)
        have hT16 := stampT_len until_
        clear ku1
        generalize stampT until_ = T at *
        have r1 := slice_a Tryz.underlying9 hT16
        have r2 := slice_b Tryz.underlying9 hT16
        have r3 := slice_c Tryz.underlying9 hT16
        have r4 := slice_d Tryz.underlying9 hT16
        have z1 : (T.take 4).length ≤ 4 := by simp; omega
        have z2 : ((T.drop 5).take 2).length ≤ 2 := by simp; omega
        have z3 : ((T.drop 8).take 5).length ≤ 5 := by simp; omega
        have z4 : (T.drop 14).length ≤ 2 := by simp; omega
        clear hT16
        generalize T.take 4 = q1 at *
        generalize (T.drop 5).take 2 = q2 at *
        generalize (T.drop 8).take 5 = q3 at *
        generalize T.drop 14 = q4 at *
        go_wp2_with fail
        go_at_call 38
        refine (HIV.out ⟨G, Below.refl _ _⟩).mono ?_
        rintro e w' ⟨rfl, hb⟩
        obtain ⟨g, rfl⟩ := Gr.of hb
        clear hb
        have U2 := TB2.out g
        have U3 := TB3.out g
        go_wp2_with fail
        go_at_call 39
        refine (HST.out g).mono ?_
        rintro e w' ⟨rfl, hb⟩
        obtain ⟨g, rfl⟩ := g.on hb
        clear hb
        have U3 := TB3.out g
        go_wp2_with fail
        go_region
        go_wp2_with fail
        have hpre : (ByteArray.mk [70, 82, 69, 81, 61].toArray ++ ByteArray.mk fn.toArray ++ ByteArray.mk [59, 73, 78, 84, 69, 82, 86, 65, 76, 61].toArray ++ ByteArray.mk tiv.toArray ++ ByteArray.mk [59, 85, 78, 84, 73, 76, 61].toArray ++ ByteArray.mk q1.toArray ++ ByteArray.mk q2.toArray ++ ByteArray.mk q3.toArray ++ ByteArray.mk q4.toArray) = ⟨([70, 82, 69, 81, 61] ++ fn ++ [59, 73, 78, 84, 69, 82, 86, 65, 76, 61] ++ tiv ++ [59, 85, 78, 84, 73, 76, 61] ++ q1 ++ q2 ++ q3 ++ q4).toArray⟩ := by simp only [ByteArray.mk_append_mk]
        rw [hpre]
        clear hpre
        obtain ⟨P, hP, hPl⟩ : ∃ P : List UInt8, P = [70, 82, 69, 81, 61] ++ fn ++ [59, 73, 78, 84, 69, 82, 86, 65, 76, 61] ++ tiv ++ [59, 85, 78, 84, 73, 76, 61] ++ q1 ++ q2 ++ q3 ++ q4 ∧ P.length ≤ 100 := ⟨_, rfl, by simp <;> omega⟩
        rw [← hP]
        have HXP : Hid (P ++ (p1 ++ p2) ++ rstD bw 0 ++ p4 ++ wkT ⟨fq, iv_, count, until_, bm, bd, bw, bs, start⟩ = R) := by show _ = _; rw [HX.out, hP]; simp only [List.append_assoc, List.append_nil]
        clear hP HX
        have b4 := TB4.out
        have b5 := TB5.out
        refine Gr.region (by kernel_rfl) (by kernel_rfl) (draw2x g) ?_
        repeat (go_big_quiet_step (fail))
        go_big_quiet_step ((go_at_call 40; exact Gr.calls _ (HN1.out _)))
        repeat (go_big_quiet_step (fail))
        go_big_quiet_step ((go_at_call 40; exact Gr.calls _ (HN2.out _)))
        repeat (go_big_quiet_step (fail))
        refine wpQuiet_nil ?_
        rintro _ ⟨g, rfl⟩
        clear b4 b5
        have b6 := TB6.out g
        go_wp2_with fail
        clear b6
        rw [app3 P p1 p2]
        obtain ⟨WK, hWK⟩ : ∃ WK, WK = wkT ⟨fq, iv_, count, until_, bm, bd, bw, bs, start⟩ := ⟨_, rfl⟩
        rw [← hWK] at HXP
        have HWK := Lib.hid hWK
        clear hWK
        have HXQ : Hid (P ++ p1 ++ p2 ++ rstD bw 0 ++ p4 ++ WK = R) := by show _ = _; rw [← HXP.out]; simp only [List.append_assoc]
        have hql : (P ++ p1 ++ p2).length ≤ 20200 := by simp; omega
        clear HXP
        generalize P ++ p1 ++ p2 = Q at *
        go_loopw [5, 66] (fun s5 s66 wr => ∃ (i : Nat) (acc : List UInt8) (g2 : Gr G), wr = g2.val ∧ i ≤ bw.length ∧ s66 = .int .i64 i ∧ s5 = .string ⟨acc.toArray⟩ ∧ acc.length ≤ 20200 + 20 * i ∧ Hid (acc ++ rstD bw i ++ p4 ++ WK = R)) (fun _ s66 _ => bw.length - (intOf s66).toNat)
        case atStart => exact ⟨0, Q, g, rfl, Nat.zero_le _, rfl, rfl, hql, HXQ⟩
        case round =>
          obtain ⟨i, acc, g2, rfl, hi, rfl, rfl, hal, HI⟩ := hrel
          clear HXQ hql
          by_cases hlt : i < bw.length
          · have hiz : (i : Int) < bw.length := by omega
            obtain ⟨p, off, rfl, hp, hc⟩ := HSW.out.spanG (List.getElem?_eq_getElem hlt)
            obtain ⟨y1, y2, n1, n2⟩ := HDY.out i hlt
            have hfirst := fun h : i = 0 => (show rstD bw i = ([59, 66, 89, 68, 65, 89, 61] : List UInt8) ++ oneD bw[i] ++ rstD bw (i + 1) by subst h; exact rstD_first hlt)
            have hnext := fun h : 0 < i => rstD_next h hlt
            have HF1 := Lib.hid hfirst
            have HF2 := Lib.hid hnext
            clear hfirst hnext
            generalize bw[i] = d at *
            obtain ⟨n, y⟩ := d
            simp only at y1 y2 n1 n2 hc
            obtain ⟨yy, rfl⟩ : ∃ yy : Nat, y = yy := ⟨y.toNat, by omega⟩
            have hy7 : yy < 7 := by omega
            have hyz : (0 : Int) ≤ yy := by omega
            have hyz7 : (yy : Int) < 7 := by omega
            have HTN := Lib.hid (fun g : Gr G => HT.out.days g yy hy7)
            have hdl := dayName_len yy
            have HNN := Lib.hid (fun g : Gr G => rdecI_any n (by omega) (by omega) g.val)
            have htl := decI_len (n := n) (by omega) (by omega)
            have HO : Hid (oneD (n, (yy : Int)) = (if n = 0 then [] else decI n) ++ dayName yy) := by show _ = _; unfold oneD; simp
            generalize dayName yy = dn at *
            generalize decI n = t at *
            have b6 := TB6.out g2
            have tn := HTN.out g2
            obtain ⟨x1, x2⟩ := hc g2
            by_cases hn0 : n = 0
            · subst hn0
              have HO2 : Hid (oneD (0, (yy : Int)) = dn) := by show _ = _; rw [HO.out, if_pos rfl]; rfl
              cases i with
              | zero =>
                have E : Hid (acc ++ [59, 66, 89, 68, 65, 89, 61] ++ dn ++ rstD bw (0 + 1) ++ p4 ++ WK = R) := by show _ = _; rw [← HI.out, HF1.out rfl, HO2.out]; simp only [List.append_assoc]
                rw [Nat.zero_mul, Nat.add_zero] at x1 x2
                go_wp2_with fail
                go_roundw
                case rel => exact ⟨_ + 1, _, g2, rfl, hlt, by go_num, congrArg Value.string (by simp only [ByteArray.mk_append_mk]), by simp <;> omega, E⟩
                case measure => simp [intOf]; omega
              | succ k =>
                have E : Hid (acc ++ [44] ++ dn ++ rstD bw (k + 1 + 1) ++ p4 ++ WK = R) := by show _ = _; rw [← HI.out, HF2.out (Nat.succ_pos k), HO2.out]; simp
                have hk0 : (((k + 1 : Nat) : Int) == 0) = false := beq_false_of_ne (by omega)
                have hk1 : ((k : Int) + 1 == 0) = false := beq_false_of_ne (by omega)
                have hk2 : ¬ (k : Int) + 1 = 0 := by omega
                go_wp2_with fail
                go_roundw
                case rel => exact ⟨_ + 1, _, g2, rfl, hlt, by go_num, congrArg Value.string (by simp only [ByteArray.mk_append_mk]), by simp <;> omega, E⟩
                case measure => simp [intOf]; omega
            · have hnb : (n == 0) = false := beq_false_of_ne hn0
              have hnb2 : (n != 0) = true := by simpa using hn0
              have HO2 : Hid (oneD (n, (yy : Int)) = t ++ dn) := by show _ = _; rw [HO.out, if_neg hn0]
              cases i with
              | zero =>
                have E : Hid (acc ++ [59, 66, 89, 68, 65, 89, 61] ++ t ++ dn ++ rstD bw (0 + 1) ++ p4 ++ WK = R) := by show _ = _; rw [← HI.out, HF1.out rfl, HO2.out]; simp only [List.append_assoc]
                rw [Nat.zero_mul, Nat.add_zero] at hc x1 x2
                go_wp2_with fail
                go_at_call 38
                refine (HNN.out g2).mono ?_
                rintro e w' ⟨rfl, hb⟩
                obtain ⟨g2, rfl⟩ := g2.on hb
                clear hb
                have b6 := TB6.out g2
                have tn := HTN.out g2
                obtain ⟨x1, x2⟩ := hc g2
                go_wp2_with fail
                go_roundw
                case rel => exact ⟨_ + 1, _, g2, rfl, hlt, by go_num, congrArg Value.string (by simp only [ByteArray.mk_append_mk]), by simp <;> omega, E⟩
                case measure => simp [intOf]; omega
              | succ k =>
                have E : Hid (acc ++ [44] ++ t ++ dn ++ rstD bw (k + 1 + 1) ++ p4 ++ WK = R) := by show _ = _; rw [← HI.out, HF2.out (Nat.succ_pos k), HO2.out]; simp
                have hk0 : (((k + 1 : Nat) : Int) == 0) = false := beq_false_of_ne (by omega)
                have hk1 : ((k : Int) + 1 == 0) = false := beq_false_of_ne (by omega)
                have hk2 : ¬ (k : Int) + 1 = 0 := by omega
                go_wp2_with fail
                go_at_call 38
                refine (HNN.out g2).mono ?_
                rintro e w' ⟨rfl, hb⟩
                obtain ⟨g2, rfl⟩ := g2.on hb
                clear hb
                have b6 := TB6.out g2
                have tn := HTN.out g2
                obtain ⟨x1, x2⟩ := hc g2
                go_wp2_with fail
                go_roundw
                case rel => exact ⟨_ + 1, _, g2, rfl, hlt, by go_num, congrArg Value.string (by simp only [ByteArray.mk_append_mk]), by simp <;> omega, E⟩
                case measure => simp [intOf]; omega
          · obtain rfl : i = bw.length := by omega
            have b7 := TB7.out g2
            have b8 := TB8.out g2
            by_cases hst : 0 < start
            · have hs6 : start ≤ 6 := HM.out.1.2.2.2.2.2.2.2
              obtain ⟨st, rfl⟩ : ∃ st : Nat, start = st := ⟨start.toNat, by omega⟩
              have hst7 : st < 7 := by omega
              have hstz : (0 : Int) ≤ st := by omega
              have hstz7 : (st : Int) < 7 := by omega
              have EW : WK = [59, 87, 75, 83, 84, 61] ++ dayName st := by rw [HWK.out]; exact (if_pos hst).trans (by simp)
              have E : Hid (acc ++ p4 ++ [59, 87, 75, 83, 84, 61] ++ dayName st = R) := by show _ = _; rw [← HI.out, rstD_end, EW]; simp only [List.append_assoc, List.nil_append]
              have HTN := Lib.hid (fun g : Gr G => HT.out.days g st hst7)
              have hdl := dayName_len st
              clear EW
              generalize dayName st = dn at *
              go_wp2_with fail
              go_at_call 40
              refine (HN4.out g2).mono ?_
              rintro e w' ⟨rfl, hb⟩
              obtain ⟨g2, rfl⟩ := g2.on hb
              clear hb
              have b8 := TB8.out g2
              have tn := HTN.out g2
              go_wp2_with fail
              go_ret
              exact ⟨congrArg (fun x => Ending.returned (Value.string x)) (by rw [← E.out]; simp only [ByteArray.mk_append_mk]), HT.out.below.trans (g2.ok.mono HT.out.below.size)⟩
            · have EW : WK = [] := by rw [HWK.out]; exact if_neg hst
              have E : Hid (acc ++ p4 = R) := by show _ = _; rw [← HI.out, rstD_end, EW, List.append_nil, List.append_nil]
              clear EW
              go_wp2_with fail
              go_at_call 40
              refine (HN4.out g2).mono ?_
              rintro e w' ⟨rfl, hb⟩
              obtain ⟨g2, rfl⟩ := g2.on hb
              clear hb
              have b8 := TB8.out g2
              go_wp2_with fail
              go_ret
              exact ⟨congrArg (fun x => Ending.returned (Value.string x)) (by rw [app2x, E.out]), HT.out.below.trans (g2.ok.mono HT.out.below.size)⟩
      · have EI : ivT ⟨fq, iv_, count, until_, bm, bd, bw, bs, start⟩ = [59, 73, 78, 84, 69, 82, 86, 65, 76, 61] ++ decI iv_ := if_pos kiv
        rw [EI] at HX
        clear EI
        generalize decI iv_ = tiv at *
        have EC : ctT ⟨fq, iv_, count, until_, bm, bd, bw, bs, start⟩ = [] := if_neg kct
        rw [EC] at HX
        clear EC
        have kctb : decide (0 < count) = false := decide_eq_false kct
        have kun := kun
        have kunb : decide (0 ≤ until_) = false := decide_eq_false kun
        have EU : unT ⟨fq, iv_, count, until_, bm, bd, bw, bs, start⟩ = [] := if_neg kun
        rw [EU] at HX
        clear EU
        go_wp2_with fail
        go_at_call 38
        refine (HIV.out ⟨G, Below.refl _ _⟩).mono ?_
        rintro e w' ⟨rfl, hb⟩
        obtain ⟨g, rfl⟩ := Gr.of hb
        clear hb
        have U2 := TB2.out g
        have U3 := TB3.out g
        go_wp2_with fail
        have hpre : (ByteArray.mk [70, 82, 69, 81, 61].toArray ++ ByteArray.mk fn.toArray ++ ByteArray.mk [59, 73, 78, 84, 69, 82, 86, 65, 76, 61].toArray ++ ByteArray.mk tiv.toArray) = ⟨([70, 82, 69, 81, 61] ++ fn ++ [59, 73, 78, 84, 69, 82, 86, 65, 76, 61] ++ tiv).toArray⟩ := by simp only [ByteArray.mk_append_mk]
        rw [hpre]
        clear hpre
        obtain ⟨P, hP, hPl⟩ : ∃ P : List UInt8, P = [70, 82, 69, 81, 61] ++ fn ++ [59, 73, 78, 84, 69, 82, 86, 65, 76, 61] ++ tiv ∧ P.length ≤ 100 := ⟨_, rfl, by simp <;> omega⟩
        rw [← hP]
        have HXP : Hid (P ++ (p1 ++ p2) ++ rstD bw 0 ++ p4 ++ wkT ⟨fq, iv_, count, until_, bm, bd, bw, bs, start⟩ = R) := by show _ = _; rw [HX.out, hP]; simp only [List.append_assoc, List.append_nil]
        clear hP HX
        have b4 := TB4.out
        have b5 := TB5.out
        refine Gr.region (by kernel_rfl) (by kernel_rfl) g.draw ?_
        repeat (go_big_quiet_step (fail))
        go_big_quiet_step ((go_at_call 40; exact Gr.calls _ (HN1.out _)))
        repeat (go_big_quiet_step (fail))
        go_big_quiet_step ((go_at_call 40; exact Gr.calls _ (HN2.out _)))
        repeat (go_big_quiet_step (fail))
        refine wpQuiet_nil ?_
        rintro _ ⟨g, rfl⟩
        clear b4 b5
        have b6 := TB6.out g
        go_wp2_with fail
        clear b6
        rw [app3 P p1 p2]
        obtain ⟨WK, hWK⟩ : ∃ WK, WK = wkT ⟨fq, iv_, count, until_, bm, bd, bw, bs, start⟩ := ⟨_, rfl⟩
        rw [← hWK] at HXP
        have HWK := Lib.hid hWK
        clear hWK
        have HXQ : Hid (P ++ p1 ++ p2 ++ rstD bw 0 ++ p4 ++ WK = R) := by show _ = _; rw [← HXP.out]; simp only [List.append_assoc]
        have hql : (P ++ p1 ++ p2).length ≤ 20200 := by simp; omega
        clear HXP
        generalize P ++ p1 ++ p2 = Q at *
        go_loopw [5, 66] (fun s5 s66 wr => ∃ (i : Nat) (acc : List UInt8) (g2 : Gr G), wr = g2.val ∧ i ≤ bw.length ∧ s66 = .int .i64 i ∧ s5 = .string ⟨acc.toArray⟩ ∧ acc.length ≤ 20200 + 20 * i ∧ Hid (acc ++ rstD bw i ++ p4 ++ WK = R)) (fun _ s66 _ => bw.length - (intOf s66).toNat)
        case atStart => exact ⟨0, Q, g, rfl, Nat.zero_le _, rfl, rfl, hql, HXQ⟩
        case round =>
          obtain ⟨i, acc, g2, rfl, hi, rfl, rfl, hal, HI⟩ := hrel
          clear HXQ hql
          by_cases hlt : i < bw.length
          · have hiz : (i : Int) < bw.length := by omega
            obtain ⟨p, off, rfl, hp, hc⟩ := HSW.out.spanG (List.getElem?_eq_getElem hlt)
            obtain ⟨y1, y2, n1, n2⟩ := HDY.out i hlt
            have hfirst := fun h : i = 0 => (show rstD bw i = ([59, 66, 89, 68, 65, 89, 61] : List UInt8) ++ oneD bw[i] ++ rstD bw (i + 1) by subst h; exact rstD_first hlt)
            have hnext := fun h : 0 < i => rstD_next h hlt
            have HF1 := Lib.hid hfirst
            have HF2 := Lib.hid hnext
            clear hfirst hnext
            generalize bw[i] = d at *
            obtain ⟨n, y⟩ := d
            simp only at y1 y2 n1 n2 hc
            obtain ⟨yy, rfl⟩ : ∃ yy : Nat, y = yy := ⟨y.toNat, by omega⟩
            have hy7 : yy < 7 := by omega
            have hyz : (0 : Int) ≤ yy := by omega
            have hyz7 : (yy : Int) < 7 := by omega
            have HTN := Lib.hid (fun g : Gr G => HT.out.days g yy hy7)
            have hdl := dayName_len yy
            have HNN := Lib.hid (fun g : Gr G => rdecI_any n (by omega) (by omega) g.val)
            have htl := decI_len (n := n) (by omega) (by omega)
            have HO : Hid (oneD (n, (yy : Int)) = (if n = 0 then [] else decI n) ++ dayName yy) := by show _ = _; unfold oneD; simp
            generalize dayName yy = dn at *
            generalize decI n = t at *
            have b6 := TB6.out g2
            have tn := HTN.out g2
            obtain ⟨x1, x2⟩ := hc g2
            by_cases hn0 : n = 0
            · subst hn0
              have HO2 : Hid (oneD (0, (yy : Int)) = dn) := by show _ = _; rw [HO.out, if_pos rfl]; rfl
              cases i with
              | zero =>
                have E : Hid (acc ++ [59, 66, 89, 68, 65, 89, 61] ++ dn ++ rstD bw (0 + 1) ++ p4 ++ WK = R) := by show _ = _; rw [← HI.out, HF1.out rfl, HO2.out]; simp only [List.append_assoc]
                rw [Nat.zero_mul, Nat.add_zero] at x1 x2
                go_wp2_with fail
                go_roundw
                case rel => exact ⟨_ + 1, _, g2, rfl, hlt, by go_num, congrArg Value.string (by simp only [ByteArray.mk_append_mk]), by simp <;> omega, E⟩
                case measure => simp [intOf]; omega
              | succ k =>
                have E : Hid (acc ++ [44] ++ dn ++ rstD bw (k + 1 + 1) ++ p4 ++ WK = R) := by show _ = _; rw [← HI.out, HF2.out (Nat.succ_pos k), HO2.out]; simp
                have hk0 : (((k + 1 : Nat) : Int) == 0) = false := beq_false_of_ne (by omega)
                have hk1 : ((k : Int) + 1 == 0) = false := beq_false_of_ne (by omega)
                have hk2 : ¬ (k : Int) + 1 = 0 := by omega
                go_wp2_with fail
                go_roundw
                case rel => exact ⟨_ + 1, _, g2, rfl, hlt, by go_num, congrArg Value.string (by simp only [ByteArray.mk_append_mk]), by simp <;> omega, E⟩
                case measure => simp [intOf]; omega
            · have hnb : (n == 0) = false := beq_false_of_ne hn0
              have hnb2 : (n != 0) = true := by simpa using hn0
              have HO2 : Hid (oneD (n, (yy : Int)) = t ++ dn) := by show _ = _; rw [HO.out, if_neg hn0]
              cases i with
              | zero =>
                have E : Hid (acc ++ [59, 66, 89, 68, 65, 89, 61] ++ t ++ dn ++ rstD bw (0 + 1) ++ p4 ++ WK = R) := by show _ = _; rw [← HI.out, HF1.out rfl, HO2.out]; simp only [List.append_assoc]
                rw [Nat.zero_mul, Nat.add_zero] at hc x1 x2
                go_wp2_with fail
                go_at_call 38
                refine (HNN.out g2).mono ?_
                rintro e w' ⟨rfl, hb⟩
                obtain ⟨g2, rfl⟩ := g2.on hb
                clear hb
                have b6 := TB6.out g2
                have tn := HTN.out g2
                obtain ⟨x1, x2⟩ := hc g2
                go_wp2_with fail
                go_roundw
                case rel => exact ⟨_ + 1, _, g2, rfl, hlt, by go_num, congrArg Value.string (by simp only [ByteArray.mk_append_mk]), by simp <;> omega, E⟩
                case measure => simp [intOf]; omega
              | succ k =>
                have E : Hid (acc ++ [44] ++ t ++ dn ++ rstD bw (k + 1 + 1) ++ p4 ++ WK = R) := by show _ = _; rw [← HI.out, HF2.out (Nat.succ_pos k), HO2.out]; simp
                have hk0 : (((k + 1 : Nat) : Int) == 0) = false := beq_false_of_ne (by omega)
                have hk1 : ((k : Int) + 1 == 0) = false := beq_false_of_ne (by omega)
                have hk2 : ¬ (k : Int) + 1 = 0 := by omega
                go_wp2_with fail
                go_at_call 38
                refine (HNN.out g2).mono ?_
                rintro e w' ⟨rfl, hb⟩
                obtain ⟨g2, rfl⟩ := g2.on hb
                clear hb
                have b6 := TB6.out g2
                have tn := HTN.out g2
                obtain ⟨x1, x2⟩ := hc g2
                go_wp2_with fail
                go_roundw
                case rel => exact ⟨_ + 1, _, g2, rfl, hlt, by go_num, congrArg Value.string (by simp only [ByteArray.mk_append_mk]), by simp <;> omega, E⟩
                case measure => simp [intOf]; omega
          · obtain rfl : i = bw.length := by omega
            have b7 := TB7.out g2
            have b8 := TB8.out g2
            by_cases hst : 0 < start
            · have hs6 : start ≤ 6 := HM.out.1.2.2.2.2.2.2.2
              obtain ⟨st, rfl⟩ : ∃ st : Nat, start = st := ⟨start.toNat, by omega⟩
              have hst7 : st < 7 := by omega
              have hstz : (0 : Int) ≤ st := by omega
              have hstz7 : (st : Int) < 7 := by omega
              have EW : WK = [59, 87, 75, 83, 84, 61] ++ dayName st := by rw [HWK.out]; exact (if_pos hst).trans (by simp)
              have E : Hid (acc ++ p4 ++ [59, 87, 75, 83, 84, 61] ++ dayName st = R) := by show _ = _; rw [← HI.out, rstD_end, EW]; simp only [List.append_assoc, List.nil_append]
              have HTN := Lib.hid (fun g : Gr G => HT.out.days g st hst7)
              have hdl := dayName_len st
              clear EW
              generalize dayName st = dn at *
              go_wp2_with fail
              go_at_call 40
              refine (HN4.out g2).mono ?_
              rintro e w' ⟨rfl, hb⟩
              obtain ⟨g2, rfl⟩ := g2.on hb
              clear hb
              have b8 := TB8.out g2
              have tn := HTN.out g2
              go_wp2_with fail
              go_ret
              exact ⟨congrArg (fun x => Ending.returned (Value.string x)) (by rw [← E.out]; simp only [ByteArray.mk_append_mk]), HT.out.below.trans (g2.ok.mono HT.out.below.size)⟩
            · have EW : WK = [] := by rw [HWK.out]; exact if_neg hst
              have E : Hid (acc ++ p4 = R) := by show _ = _; rw [← HI.out, rstD_end, EW, List.append_nil, List.append_nil]
              clear EW
              go_wp2_with fail
              go_at_call 40
              refine (HN4.out g2).mono ?_
              rintro e w' ⟨rfl, hb⟩
              obtain ⟨g2, rfl⟩ := g2.on hb
              clear hb
              have b8 := TB8.out g2
              go_wp2_with fail
              go_ret
              exact ⟨congrArg (fun x => Ending.returned (Value.string x)) (by rw [app2x, E.out]), HT.out.below.trans (g2.ok.mono HT.out.below.size)⟩
  · by_cases kct : 0 < count
    · have EI : ivT ⟨fq, iv_, count, until_, bm, bd, bw, bs, start⟩ = [] := if_neg kiv
      have kivb : decide (1 < iv_) = false := decide_eq_false kiv
      rw [EI] at HX
      clear EI
      have EC : ctT ⟨fq, iv_, count, until_, bm, bd, bw, bs, start⟩ = [59, 67, 79, 85, 78, 84, 61] ++ decI count := if_pos kct
      rw [EC] at HX
      clear EC
      generalize decI count = tct at *
      have kun : ¬ 0 ≤ until_ := by have := HM.out.2.1; simp only at this; omega
      have kunb : decide (0 ≤ until_) = false := decide_eq_false kun
      have EU : unT ⟨fq, iv_, count, until_, bm, bd, bw, bs, start⟩ = [] := if_neg kun
      rw [EU] at HX
      clear EU
      go_wp2_with fail
      go_at_call 38
      refine (HCT.out ⟨G, Below.refl _ _⟩).mono ?_
      rintro e w' ⟨rfl, hb⟩
      obtain ⟨g, rfl⟩ := Gr.of hb
      clear hb
      have U3 := TB3.out g
      go_wp2_with fail
      have hpre : (ByteArray.mk [70, 82, 69, 81, 61].toArray ++ ByteArray.mk fn.toArray ++ ByteArray.mk [59, 67, 79, 85, 78, 84, 61].toArray ++ ByteArray.mk tct.toArray) = ⟨([70, 82, 69, 81, 61] ++ fn ++ [59, 67, 79, 85, 78, 84, 61] ++ tct).toArray⟩ := by simp only [ByteArray.mk_append_mk]
      rw [hpre]
      clear hpre
      obtain ⟨P, hP, hPl⟩ : ∃ P : List UInt8, P = [70, 82, 69, 81, 61] ++ fn ++ [59, 67, 79, 85, 78, 84, 61] ++ tct ∧ P.length ≤ 100 := ⟨_, rfl, by simp <;> omega⟩
      rw [← hP]
      have HXP : Hid (P ++ (p1 ++ p2) ++ rstD bw 0 ++ p4 ++ wkT ⟨fq, iv_, count, until_, bm, bd, bw, bs, start⟩ = R) := by show _ = _; rw [HX.out, hP]; simp only [List.append_assoc, List.append_nil]
      clear hP HX
      have b4 := TB4.out
      have b5 := TB5.out
      refine Gr.region (by kernel_rfl) (by kernel_rfl) g.draw ?_
      repeat (go_big_quiet_step (fail))
      go_big_quiet_step ((go_at_call 40; exact Gr.calls _ (HN1.out _)))
      repeat (go_big_quiet_step (fail))
      go_big_quiet_step ((go_at_call 40; exact Gr.calls _ (HN2.out _)))
      repeat (go_big_quiet_step (fail))
      refine wpQuiet_nil ?_
      rintro _ ⟨g, rfl⟩
      clear b4 b5
      have b6 := TB6.out g
      go_wp2_with fail
      clear b6
      rw [app3 P p1 p2]
      obtain ⟨WK, hWK⟩ : ∃ WK, WK = wkT ⟨fq, iv_, count, until_, bm, bd, bw, bs, start⟩ := ⟨_, rfl⟩
      rw [← hWK] at HXP
      have HWK := Lib.hid hWK
      clear hWK
      have HXQ : Hid (P ++ p1 ++ p2 ++ rstD bw 0 ++ p4 ++ WK = R) := by show _ = _; rw [← HXP.out]; simp only [List.append_assoc]
      have hql : (P ++ p1 ++ p2).length ≤ 20200 := by simp; omega
      clear HXP
      generalize P ++ p1 ++ p2 = Q at *
      go_loopw [5, 66] (fun s5 s66 wr => ∃ (i : Nat) (acc : List UInt8) (g2 : Gr G), wr = g2.val ∧ i ≤ bw.length ∧ s66 = .int .i64 i ∧ s5 = .string ⟨acc.toArray⟩ ∧ acc.length ≤ 20200 + 20 * i ∧ Hid (acc ++ rstD bw i ++ p4 ++ WK = R)) (fun _ s66 _ => bw.length - (intOf s66).toNat)
      case atStart => exact ⟨0, Q, g, rfl, Nat.zero_le _, rfl, rfl, hql, HXQ⟩
      case round =>
        obtain ⟨i, acc, g2, rfl, hi, rfl, rfl, hal, HI⟩ := hrel
        clear HXQ hql
        by_cases hlt : i < bw.length
        · have hiz : (i : Int) < bw.length := by omega
          obtain ⟨p, off, rfl, hp, hc⟩ := HSW.out.spanG (List.getElem?_eq_getElem hlt)
          obtain ⟨y1, y2, n1, n2⟩ := HDY.out i hlt
          have hfirst := fun h : i = 0 => (show rstD bw i = ([59, 66, 89, 68, 65, 89, 61] : List UInt8) ++ oneD bw[i] ++ rstD bw (i + 1) by subst h; exact rstD_first hlt)
          have hnext := fun h : 0 < i => rstD_next h hlt
          have HF1 := Lib.hid hfirst
          have HF2 := Lib.hid hnext
          clear hfirst hnext
          generalize bw[i] = d at *
          obtain ⟨n, y⟩ := d
          simp only at y1 y2 n1 n2 hc
          obtain ⟨yy, rfl⟩ : ∃ yy : Nat, y = yy := ⟨y.toNat, by omega⟩
          have hy7 : yy < 7 := by omega
          have hyz : (0 : Int) ≤ yy := by omega
          have hyz7 : (yy : Int) < 7 := by omega
          have HTN := Lib.hid (fun g : Gr G => HT.out.days g yy hy7)
          have hdl := dayName_len yy
          have HNN := Lib.hid (fun g : Gr G => rdecI_any n (by omega) (by omega) g.val)
          have htl := decI_len (n := n) (by omega) (by omega)
          have HO : Hid (oneD (n, (yy : Int)) = (if n = 0 then [] else decI n) ++ dayName yy) := by show _ = _; unfold oneD; simp
          generalize dayName yy = dn at *
          generalize decI n = t at *
          have b6 := TB6.out g2
          have tn := HTN.out g2
          obtain ⟨x1, x2⟩ := hc g2
          by_cases hn0 : n = 0
          · subst hn0
            have HO2 : Hid (oneD (0, (yy : Int)) = dn) := by show _ = _; rw [HO.out, if_pos rfl]; rfl
            cases i with
            | zero =>
              have E : Hid (acc ++ [59, 66, 89, 68, 65, 89, 61] ++ dn ++ rstD bw (0 + 1) ++ p4 ++ WK = R) := by show _ = _; rw [← HI.out, HF1.out rfl, HO2.out]; simp only [List.append_assoc]
              rw [Nat.zero_mul, Nat.add_zero] at x1 x2
              go_wp2_with fail
              go_roundw
              case rel => exact ⟨_ + 1, _, g2, rfl, hlt, by go_num, congrArg Value.string (by simp only [ByteArray.mk_append_mk]), by simp <;> omega, E⟩
              case measure => simp [intOf]; omega
            | succ k =>
              have E : Hid (acc ++ [44] ++ dn ++ rstD bw (k + 1 + 1) ++ p4 ++ WK = R) := by show _ = _; rw [← HI.out, HF2.out (Nat.succ_pos k), HO2.out]; simp
              have hk0 : (((k + 1 : Nat) : Int) == 0) = false := beq_false_of_ne (by omega)
              have hk1 : ((k : Int) + 1 == 0) = false := beq_false_of_ne (by omega)
              have hk2 : ¬ (k : Int) + 1 = 0 := by omega
              go_wp2_with fail
              go_roundw
              case rel => exact ⟨_ + 1, _, g2, rfl, hlt, by go_num, congrArg Value.string (by simp only [ByteArray.mk_append_mk]), by simp <;> omega, E⟩
              case measure => simp [intOf]; omega
          · have hnb : (n == 0) = false := beq_false_of_ne hn0
            have hnb2 : (n != 0) = true := by simpa using hn0
            have HO2 : Hid (oneD (n, (yy : Int)) = t ++ dn) := by show _ = _; rw [HO.out, if_neg hn0]
            cases i with
            | zero =>
              have E : Hid (acc ++ [59, 66, 89, 68, 65, 89, 61] ++ t ++ dn ++ rstD bw (0 + 1) ++ p4 ++ WK = R) := by show _ = _; rw [← HI.out, HF1.out rfl, HO2.out]; simp only [List.append_assoc]
              rw [Nat.zero_mul, Nat.add_zero] at hc x1 x2
              go_wp2_with fail
              go_at_call 38
              refine (HNN.out g2).mono ?_
              rintro e w' ⟨rfl, hb⟩
              obtain ⟨g2, rfl⟩ := g2.on hb
              clear hb
              have b6 := TB6.out g2
              have tn := HTN.out g2
              obtain ⟨x1, x2⟩ := hc g2
              go_wp2_with fail
              go_roundw
              case rel => exact ⟨_ + 1, _, g2, rfl, hlt, by go_num, congrArg Value.string (by simp only [ByteArray.mk_append_mk]), by simp <;> omega, E⟩
              case measure => simp [intOf]; omega
            | succ k =>
              have E : Hid (acc ++ [44] ++ t ++ dn ++ rstD bw (k + 1 + 1) ++ p4 ++ WK = R) := by show _ = _; rw [← HI.out, HF2.out (Nat.succ_pos k), HO2.out]; simp
              have hk0 : (((k + 1 : Nat) : Int) == 0) = false := beq_false_of_ne (by omega)
              have hk1 : ((k : Int) + 1 == 0) = false := beq_false_of_ne (by omega)
              have hk2 : ¬ (k : Int) + 1 = 0 := by omega
              go_wp2_with fail
              go_at_call 38
              refine (HNN.out g2).mono ?_
              rintro e w' ⟨rfl, hb⟩
              obtain ⟨g2, rfl⟩ := g2.on hb
              clear hb
              have b6 := TB6.out g2
              have tn := HTN.out g2
              obtain ⟨x1, x2⟩ := hc g2
              go_wp2_with fail
              go_roundw
              case rel => exact ⟨_ + 1, _, g2, rfl, hlt, by go_num, congrArg Value.string (by simp only [ByteArray.mk_append_mk]), by simp <;> omega, E⟩
              case measure => simp [intOf]; omega
        · obtain rfl : i = bw.length := by omega
          have b7 := TB7.out g2
          have b8 := TB8.out g2
          by_cases hst : 0 < start
          · have hs6 : start ≤ 6 := HM.out.1.2.2.2.2.2.2.2
            obtain ⟨st, rfl⟩ : ∃ st : Nat, start = st := ⟨start.toNat, by omega⟩
            have hst7 : st < 7 := by omega
            have hstz : (0 : Int) ≤ st := by omega
            have hstz7 : (st : Int) < 7 := by omega
            have EW : WK = [59, 87, 75, 83, 84, 61] ++ dayName st := by rw [HWK.out]; exact (if_pos hst).trans (by simp)
            have E : Hid (acc ++ p4 ++ [59, 87, 75, 83, 84, 61] ++ dayName st = R) := by show _ = _; rw [← HI.out, rstD_end, EW]; simp only [List.append_assoc, List.nil_append]
            have HTN := Lib.hid (fun g : Gr G => HT.out.days g st hst7)
            have hdl := dayName_len st
            clear EW
            generalize dayName st = dn at *
            go_wp2_with fail
            go_at_call 40
            refine (HN4.out g2).mono ?_
            rintro e w' ⟨rfl, hb⟩
            obtain ⟨g2, rfl⟩ := g2.on hb
            clear hb
            have b8 := TB8.out g2
            have tn := HTN.out g2
            go_wp2_with fail
            go_ret
            exact ⟨congrArg (fun x => Ending.returned (Value.string x)) (by rw [← E.out]; simp only [ByteArray.mk_append_mk]), HT.out.below.trans (g2.ok.mono HT.out.below.size)⟩
          · have EW : WK = [] := by rw [HWK.out]; exact if_neg hst
            have E : Hid (acc ++ p4 = R) := by show _ = _; rw [← HI.out, rstD_end, EW, List.append_nil, List.append_nil]
            clear EW
            go_wp2_with fail
            go_at_call 40
            refine (HN4.out g2).mono ?_
            rintro e w' ⟨rfl, hb⟩
            obtain ⟨g2, rfl⟩ := g2.on hb
            clear hb
            have b8 := TB8.out g2
            go_wp2_with fail
            go_ret
            exact ⟨congrArg (fun x => Ending.returned (Value.string x)) (by rw [app2x, E.out]), HT.out.below.trans (g2.ok.mono HT.out.below.size)⟩
    · by_cases kun : 0 ≤ until_
      · have EI : ivT ⟨fq, iv_, count, until_, bm, bd, bw, bs, start⟩ = [] := if_neg kiv
        have kivb : decide (1 < iv_) = false := decide_eq_false kiv
        rw [EI] at HX
        clear EI
        have EC : ctT ⟨fq, iv_, count, until_, bm, bd, bw, bs, start⟩ = [] := if_neg kct
        rw [EC] at HX
        clear EC
        have kctb : decide (0 < count) = false := decide_eq_false kct
        have EU : unT ⟨fq, iv_, count, until_, bm, bd, bw, bs, start⟩ = [59, 85, 78, 84, 73, 76, 61] ++ (stampT until_).take 4 ++ ((stampT until_).drop 5).take 2 ++ ((stampT until_).drop 8).take 5 ++ (stampT until_).drop 14 := if_pos kun
        rw [EU] at HX
        clear EU
        have ku1 := HM.out.2.1
        simp only at ku1
        have HST := Lib.hid (fun (g : Gr G) => rstamp_any until_ kun (by omega) g.val)
        have hT16 := stampT_len until_
        clear ku1
        generalize stampT until_ = T at *
        have r1 := slice_a Tryz.underlying9 hT16
        have r2 := slice_b Tryz.underlying9 hT16
        have r3 := slice_c Tryz.underlying9 hT16
        have r4 := slice_d Tryz.underlying9 hT16
        have z1 : (T.take 4).length ≤ 4 := by simp; omega
        have z2 : ((T.drop 5).take 2).length ≤ 2 := by simp; omega
        have z3 : ((T.drop 8).take 5).length ≤ 5 := by simp; omega
        have z4 : (T.drop 14).length ≤ 2 := by simp; omega
        clear hT16
        generalize T.take 4 = q1 at *
        generalize (T.drop 5).take 2 = q2 at *
        generalize (T.drop 8).take 5 = q3 at *
        generalize T.drop 14 = q4 at *
        go_wp2_with fail
        go_at_call 39
        refine (HST.out ⟨G, Below.refl _ _⟩).mono ?_
        rintro e w' ⟨rfl, hb⟩
        obtain ⟨g, rfl⟩ := Gr.of hb
        clear hb
        have U3 := TB3.out g
        go_wp2_with fail
        go_region
        go_wp2_with fail
        have hpre : (ByteArray.mk [70, 82, 69, 81, 61].toArray ++ ByteArray.mk fn.toArray ++ ByteArray.mk [59, 85, 78, 84, 73, 76, 61].toArray ++ ByteArray.mk q1.toArray ++ ByteArray.mk q2.toArray ++ ByteArray.mk q3.toArray ++ ByteArray.mk q4.toArray) = ⟨([70, 82, 69, 81, 61] ++ fn ++ [59, 85, 78, 84, 73, 76, 61] ++ q1 ++ q2 ++ q3 ++ q4).toArray⟩ := by simp only [ByteArray.mk_append_mk]
        rw [hpre]
        clear hpre
        obtain ⟨P, hP, hPl⟩ : ∃ P : List UInt8, P = [70, 82, 69, 81, 61] ++ fn ++ [59, 85, 78, 84, 73, 76, 61] ++ q1 ++ q2 ++ q3 ++ q4 ∧ P.length ≤ 100 := ⟨_, rfl, by simp <;> omega⟩
        rw [← hP]
        have HXP : Hid (P ++ (p1 ++ p2) ++ rstD bw 0 ++ p4 ++ wkT ⟨fq, iv_, count, until_, bm, bd, bw, bs, start⟩ = R) := by show _ = _; rw [HX.out, hP]; simp only [List.append_assoc, List.append_nil]
        clear hP HX
        have b4 := TB4.out
        have b5 := TB5.out
        refine Gr.region (by kernel_rfl) (by kernel_rfl) (draw2x g) ?_
        repeat (go_big_quiet_step (fail))
        go_big_quiet_step ((go_at_call 40; exact Gr.calls _ (HN1.out _)))
        repeat (go_big_quiet_step (fail))
        go_big_quiet_step ((go_at_call 40; exact Gr.calls _ (HN2.out _)))
        repeat (go_big_quiet_step (fail))
        refine wpQuiet_nil ?_
        rintro _ ⟨g, rfl⟩
        clear b4 b5
        have b6 := TB6.out g
        go_wp2_with fail
        clear b6
        rw [app3 P p1 p2]
        obtain ⟨WK, hWK⟩ : ∃ WK, WK = wkT ⟨fq, iv_, count, until_, bm, bd, bw, bs, start⟩ := ⟨_, rfl⟩
        rw [← hWK] at HXP
        have HWK := Lib.hid hWK
        clear hWK
        have HXQ : Hid (P ++ p1 ++ p2 ++ rstD bw 0 ++ p4 ++ WK = R) := by show _ = _; rw [← HXP.out]; simp only [List.append_assoc]
        have hql : (P ++ p1 ++ p2).length ≤ 20200 := by simp; omega
        clear HXP
        generalize P ++ p1 ++ p2 = Q at *
        go_loopw [5, 66] (fun s5 s66 wr => ∃ (i : Nat) (acc : List UInt8) (g2 : Gr G), wr = g2.val ∧ i ≤ bw.length ∧ s66 = .int .i64 i ∧ s5 = .string ⟨acc.toArray⟩ ∧ acc.length ≤ 20200 + 20 * i ∧ Hid (acc ++ rstD bw i ++ p4 ++ WK = R)) (fun _ s66 _ => bw.length - (intOf s66).toNat)
        case atStart => exact ⟨0, Q, g, rfl, Nat.zero_le _, rfl, rfl, hql, HXQ⟩
        case round =>
          obtain ⟨i, acc, g2, rfl, hi, rfl, rfl, hal, HI⟩ := hrel
          clear HXQ hql
          by_cases hlt : i < bw.length
          · have hiz : (i : Int) < bw.length := by omega
            obtain ⟨p, off, rfl, hp, hc⟩ := HSW.out.spanG (List.getElem?_eq_getElem hlt)
            obtain ⟨y1, y2, n1, n2⟩ := HDY.out i hlt
            have hfirst := fun h : i = 0 => (show rstD bw i = ([59, 66, 89, 68, 65, 89, 61] : List UInt8) ++ oneD bw[i] ++ rstD bw (i + 1) by subst h; exact rstD_first hlt)
            have hnext := fun h : 0 < i => rstD_next h hlt
            have HF1 := Lib.hid hfirst
            have HF2 := Lib.hid hnext
            clear hfirst hnext
            generalize bw[i] = d at *
            obtain ⟨n, y⟩ := d
            simp only at y1 y2 n1 n2 hc
            obtain ⟨yy, rfl⟩ : ∃ yy : Nat, y = yy := ⟨y.toNat, by omega⟩
            have hy7 : yy < 7 := by omega
            have hyz : (0 : Int) ≤ yy := by omega
            have hyz7 : (yy : Int) < 7 := by omega
            have HTN := Lib.hid (fun g : Gr G => HT.out.days g yy hy7)
            have hdl := dayName_len yy
            have HNN := Lib.hid (fun g : Gr G => rdecI_any n (by omega) (by omega) g.val)
            have htl := decI_len (n := n) (by omega) (by omega)
            have HO : Hid (oneD (n, (yy : Int)) = (if n = 0 then [] else decI n) ++ dayName yy) := by show _ = _; unfold oneD; simp
            generalize dayName yy = dn at *
            generalize decI n = t at *
            have b6 := TB6.out g2
            have tn := HTN.out g2
            obtain ⟨x1, x2⟩ := hc g2
            by_cases hn0 : n = 0
            · subst hn0
              have HO2 : Hid (oneD (0, (yy : Int)) = dn) := by show _ = _; rw [HO.out, if_pos rfl]; rfl
              cases i with
              | zero =>
                have E : Hid (acc ++ [59, 66, 89, 68, 65, 89, 61] ++ dn ++ rstD bw (0 + 1) ++ p4 ++ WK = R) := by show _ = _; rw [← HI.out, HF1.out rfl, HO2.out]; simp only [List.append_assoc]
                rw [Nat.zero_mul, Nat.add_zero] at x1 x2
                go_wp2_with fail
                go_roundw
                case rel => exact ⟨_ + 1, _, g2, rfl, hlt, by go_num, congrArg Value.string (by simp only [ByteArray.mk_append_mk]), by simp <;> omega, E⟩
                case measure => simp [intOf]; omega
              | succ k =>
                have E : Hid (acc ++ [44] ++ dn ++ rstD bw (k + 1 + 1) ++ p4 ++ WK = R) := by show _ = _; rw [← HI.out, HF2.out (Nat.succ_pos k), HO2.out]; simp
                have hk0 : (((k + 1 : Nat) : Int) == 0) = false := beq_false_of_ne (by omega)
                have hk1 : ((k : Int) + 1 == 0) = false := beq_false_of_ne (by omega)
                have hk2 : ¬ (k : Int) + 1 = 0 := by omega
                go_wp2_with fail
                go_roundw
                case rel => exact ⟨_ + 1, _, g2, rfl, hlt, by go_num, congrArg Value.string (by simp only [ByteArray.mk_append_mk]), by simp <;> omega, E⟩
                case measure => simp [intOf]; omega
            · have hnb : (n == 0) = false := beq_false_of_ne hn0
              have hnb2 : (n != 0) = true := by simpa using hn0
              have HO2 : Hid (oneD (n, (yy : Int)) = t ++ dn) := by show _ = _; rw [HO.out, if_neg hn0]
              cases i with
              | zero =>
                have E : Hid (acc ++ [59, 66, 89, 68, 65, 89, 61] ++ t ++ dn ++ rstD bw (0 + 1) ++ p4 ++ WK = R) := by show _ = _; rw [← HI.out, HF1.out rfl, HO2.out]; simp only [List.append_assoc]
                rw [Nat.zero_mul, Nat.add_zero] at hc x1 x2
                go_wp2_with fail
                go_at_call 38
                refine (HNN.out g2).mono ?_
                rintro e w' ⟨rfl, hb⟩
                obtain ⟨g2, rfl⟩ := g2.on hb
                clear hb
                have b6 := TB6.out g2
                have tn := HTN.out g2
                obtain ⟨x1, x2⟩ := hc g2
                go_wp2_with fail
                go_roundw
                case rel => exact ⟨_ + 1, _, g2, rfl, hlt, by go_num, congrArg Value.string (by simp only [ByteArray.mk_append_mk]), by simp <;> omega, E⟩
                case measure => simp [intOf]; omega
              | succ k =>
                have E : Hid (acc ++ [44] ++ t ++ dn ++ rstD bw (k + 1 + 1) ++ p4 ++ WK = R) := by show _ = _; rw [← HI.out, HF2.out (Nat.succ_pos k), HO2.out]; simp
                have hk0 : (((k + 1 : Nat) : Int) == 0) = false := beq_false_of_ne (by omega)
                have hk1 : ((k : Int) + 1 == 0) = false := beq_false_of_ne (by omega)
                have hk2 : ¬ (k : Int) + 1 = 0 := by omega
                go_wp2_with fail
                go_at_call 38
                refine (HNN.out g2).mono ?_
                rintro e w' ⟨rfl, hb⟩
                obtain ⟨g2, rfl⟩ := g2.on hb
                clear hb
                have b6 := TB6.out g2
                have tn := HTN.out g2
                obtain ⟨x1, x2⟩ := hc g2
                go_wp2_with fail
                go_roundw
                case rel => exact ⟨_ + 1, _, g2, rfl, hlt, by go_num, congrArg Value.string (by simp only [ByteArray.mk_append_mk]), by simp <;> omega, E⟩
                case measure => simp [intOf]; omega
          · obtain rfl : i = bw.length := by omega
            have b7 := TB7.out g2
            have b8 := TB8.out g2
            by_cases hst : 0 < start
            · have hs6 : start ≤ 6 := HM.out.1.2.2.2.2.2.2.2
              obtain ⟨st, rfl⟩ : ∃ st : Nat, start = st := ⟨start.toNat, by omega⟩
              have hst7 : st < 7 := by omega
              have hstz : (0 : Int) ≤ st := by omega
              have hstz7 : (st : Int) < 7 := by omega
              have EW : WK = [59, 87, 75, 83, 84, 61] ++ dayName st := by rw [HWK.out]; exact (if_pos hst).trans (by simp)
              have E : Hid (acc ++ p4 ++ [59, 87, 75, 83, 84, 61] ++ dayName st = R) := by show _ = _; rw [← HI.out, rstD_end, EW]; simp only [List.append_assoc, List.nil_append]
              have HTN := Lib.hid (fun g : Gr G => HT.out.days g st hst7)
              have hdl := dayName_len st
              clear EW
              generalize dayName st = dn at *
              go_wp2_with fail
              go_at_call 40
              refine (HN4.out g2).mono ?_
              rintro e w' ⟨rfl, hb⟩
              obtain ⟨g2, rfl⟩ := g2.on hb
              clear hb
              have b8 := TB8.out g2
              have tn := HTN.out g2
              go_wp2_with fail
              go_ret
              exact ⟨congrArg (fun x => Ending.returned (Value.string x)) (by rw [← E.out]; simp only [ByteArray.mk_append_mk]), HT.out.below.trans (g2.ok.mono HT.out.below.size)⟩
            · have EW : WK = [] := by rw [HWK.out]; exact if_neg hst
              have E : Hid (acc ++ p4 = R) := by show _ = _; rw [← HI.out, rstD_end, EW, List.append_nil, List.append_nil]
              clear EW
              go_wp2_with fail
              go_at_call 40
              refine (HN4.out g2).mono ?_
              rintro e w' ⟨rfl, hb⟩
              obtain ⟨g2, rfl⟩ := g2.on hb
              clear hb
              have b8 := TB8.out g2
              go_wp2_with fail
              go_ret
              exact ⟨congrArg (fun x => Ending.returned (Value.string x)) (by rw [app2x, E.out]), HT.out.below.trans (g2.ok.mono HT.out.below.size)⟩
      · have EI : ivT ⟨fq, iv_, count, until_, bm, bd, bw, bs, start⟩ = [] := if_neg kiv
        have kivb : decide (1 < iv_) = false := decide_eq_false kiv
        rw [EI] at HX
        clear EI
        have EC : ctT ⟨fq, iv_, count, until_, bm, bd, bw, bs, start⟩ = [] := if_neg kct
        rw [EC] at HX
        clear EC
        have kctb : decide (0 < count) = false := decide_eq_false kct
        have kun := kun
        have kunb : decide (0 ≤ until_) = false := decide_eq_false kun
        have EU : unT ⟨fq, iv_, count, until_, bm, bd, bw, bs, start⟩ = [] := if_neg kun
        rw [EU] at HX
        clear EU
        go_wp2_with fail
        have hpre : (ByteArray.mk [70, 82, 69, 81, 61].toArray ++ ByteArray.mk fn.toArray) = ⟨([70, 82, 69, 81, 61] ++ fn).toArray⟩ := by simp only [ByteArray.mk_append_mk]
        rw [hpre]
        clear hpre
        obtain ⟨P, hP, hPl⟩ : ∃ P : List UInt8, P = [70, 82, 69, 81, 61] ++ fn ∧ P.length ≤ 100 := ⟨_, rfl, by simp <;> omega⟩
        rw [← hP]
        have HXP : Hid (P ++ (p1 ++ p2) ++ rstD bw 0 ++ p4 ++ wkT ⟨fq, iv_, count, until_, bm, bd, bw, bs, start⟩ = R) := by show _ = _; rw [HX.out, hP]; simp only [List.append_assoc, List.append_nil]
        clear hP HX
        have b4 := TB4.out
        have b5 := TB5.out
        refine Gr.region (by kernel_rfl) (by kernel_rfl) (Gr.draw0 G) ?_
        repeat (go_big_quiet_step (fail))
        go_big_quiet_step ((go_at_call 40; exact Gr.calls _ (HN1.out _)))
        repeat (go_big_quiet_step (fail))
        go_big_quiet_step ((go_at_call 40; exact Gr.calls _ (HN2.out _)))
        repeat (go_big_quiet_step (fail))
        refine wpQuiet_nil ?_
        rintro _ ⟨g, rfl⟩
        clear b4 b5
        have b6 := TB6.out g
        go_wp2_with fail
        clear b6
        rw [app3 P p1 p2]
        obtain ⟨WK, hWK⟩ : ∃ WK, WK = wkT ⟨fq, iv_, count, until_, bm, bd, bw, bs, start⟩ := ⟨_, rfl⟩
        rw [← hWK] at HXP
        have HWK := Lib.hid hWK
        clear hWK
        have HXQ : Hid (P ++ p1 ++ p2 ++ rstD bw 0 ++ p4 ++ WK = R) := by show _ = _; rw [← HXP.out]; simp only [List.append_assoc]
        have hql : (P ++ p1 ++ p2).length ≤ 20200 := by simp; omega
        clear HXP
        generalize P ++ p1 ++ p2 = Q at *
        go_loopw [5, 66] (fun s5 s66 wr => ∃ (i : Nat) (acc : List UInt8) (g2 : Gr G), wr = g2.val ∧ i ≤ bw.length ∧ s66 = .int .i64 i ∧ s5 = .string ⟨acc.toArray⟩ ∧ acc.length ≤ 20200 + 20 * i ∧ Hid (acc ++ rstD bw i ++ p4 ++ WK = R)) (fun _ s66 _ => bw.length - (intOf s66).toNat)
        case atStart => exact ⟨0, Q, g, rfl, Nat.zero_le _, rfl, rfl, hql, HXQ⟩
        case round =>
          obtain ⟨i, acc, g2, rfl, hi, rfl, rfl, hal, HI⟩ := hrel
          clear HXQ hql
          by_cases hlt : i < bw.length
          · have hiz : (i : Int) < bw.length := by omega
            obtain ⟨p, off, rfl, hp, hc⟩ := HSW.out.spanG (List.getElem?_eq_getElem hlt)
            obtain ⟨y1, y2, n1, n2⟩ := HDY.out i hlt
            have hfirst := fun h : i = 0 => (show rstD bw i = ([59, 66, 89, 68, 65, 89, 61] : List UInt8) ++ oneD bw[i] ++ rstD bw (i + 1) by subst h; exact rstD_first hlt)
            have hnext := fun h : 0 < i => rstD_next h hlt
            have HF1 := Lib.hid hfirst
            have HF2 := Lib.hid hnext
            clear hfirst hnext
            generalize bw[i] = d at *
            obtain ⟨n, y⟩ := d
            simp only at y1 y2 n1 n2 hc
            obtain ⟨yy, rfl⟩ : ∃ yy : Nat, y = yy := ⟨y.toNat, by omega⟩
            have hy7 : yy < 7 := by omega
            have hyz : (0 : Int) ≤ yy := by omega
            have hyz7 : (yy : Int) < 7 := by omega
            have HTN := Lib.hid (fun g : Gr G => HT.out.days g yy hy7)
            have hdl := dayName_len yy
            have HNN := Lib.hid (fun g : Gr G => rdecI_any n (by omega) (by omega) g.val)
            have htl := decI_len (n := n) (by omega) (by omega)
            have HO : Hid (oneD (n, (yy : Int)) = (if n = 0 then [] else decI n) ++ dayName yy) := by show _ = _; unfold oneD; simp
            generalize dayName yy = dn at *
            generalize decI n = t at *
            have b6 := TB6.out g2
            have tn := HTN.out g2
            obtain ⟨x1, x2⟩ := hc g2
            by_cases hn0 : n = 0
            · subst hn0
              have HO2 : Hid (oneD (0, (yy : Int)) = dn) := by show _ = _; rw [HO.out, if_pos rfl]; rfl
              cases i with
              | zero =>
                have E : Hid (acc ++ [59, 66, 89, 68, 65, 89, 61] ++ dn ++ rstD bw (0 + 1) ++ p4 ++ WK = R) := by show _ = _; rw [← HI.out, HF1.out rfl, HO2.out]; simp only [List.append_assoc]
                rw [Nat.zero_mul, Nat.add_zero] at x1 x2
                go_wp2_with fail
                go_roundw
                case rel => exact ⟨_ + 1, _, g2, rfl, hlt, by go_num, congrArg Value.string (by simp only [ByteArray.mk_append_mk]), by simp <;> omega, E⟩
                case measure => simp [intOf]; omega
              | succ k =>
                have E : Hid (acc ++ [44] ++ dn ++ rstD bw (k + 1 + 1) ++ p4 ++ WK = R) := by show _ = _; rw [← HI.out, HF2.out (Nat.succ_pos k), HO2.out]; simp
                have hk0 : (((k + 1 : Nat) : Int) == 0) = false := beq_false_of_ne (by omega)
                have hk1 : ((k : Int) + 1 == 0) = false := beq_false_of_ne (by omega)
                have hk2 : ¬ (k : Int) + 1 = 0 := by omega
                go_wp2_with fail
                go_roundw
                case rel => exact ⟨_ + 1, _, g2, rfl, hlt, by go_num, congrArg Value.string (by simp only [ByteArray.mk_append_mk]), by simp <;> omega, E⟩
                case measure => simp [intOf]; omega
            · have hnb : (n == 0) = false := beq_false_of_ne hn0
              have hnb2 : (n != 0) = true := by simpa using hn0
              have HO2 : Hid (oneD (n, (yy : Int)) = t ++ dn) := by show _ = _; rw [HO.out, if_neg hn0]
              cases i with
              | zero =>
                have E : Hid (acc ++ [59, 66, 89, 68, 65, 89, 61] ++ t ++ dn ++ rstD bw (0 + 1) ++ p4 ++ WK = R) := by show _ = _; rw [← HI.out, HF1.out rfl, HO2.out]; simp only [List.append_assoc]
                rw [Nat.zero_mul, Nat.add_zero] at hc x1 x2
                go_wp2_with fail
                go_at_call 38
                refine (HNN.out g2).mono ?_
                rintro e w' ⟨rfl, hb⟩
                obtain ⟨g2, rfl⟩ := g2.on hb
                clear hb
                have b6 := TB6.out g2
                have tn := HTN.out g2
                obtain ⟨x1, x2⟩ := hc g2
                go_wp2_with fail
                go_roundw
                case rel => exact ⟨_ + 1, _, g2, rfl, hlt, by go_num, congrArg Value.string (by simp only [ByteArray.mk_append_mk]), by simp <;> omega, E⟩
                case measure => simp [intOf]; omega
              | succ k =>
                have E : Hid (acc ++ [44] ++ t ++ dn ++ rstD bw (k + 1 + 1) ++ p4 ++ WK = R) := by show _ = _; rw [← HI.out, HF2.out (Nat.succ_pos k), HO2.out]; simp
                have hk0 : (((k + 1 : Nat) : Int) == 0) = false := beq_false_of_ne (by omega)
                have hk1 : ((k : Int) + 1 == 0) = false := beq_false_of_ne (by omega)
                have hk2 : ¬ (k : Int) + 1 = 0 := by omega
                go_wp2_with fail
                go_at_call 38
                refine (HNN.out g2).mono ?_
                rintro e w' ⟨rfl, hb⟩
                obtain ⟨g2, rfl⟩ := g2.on hb
                clear hb
                have b6 := TB6.out g2
                have tn := HTN.out g2
                obtain ⟨x1, x2⟩ := hc g2
                go_wp2_with fail
                go_roundw
                case rel => exact ⟨_ + 1, _, g2, rfl, hlt, by go_num, congrArg Value.string (by simp only [ByteArray.mk_append_mk]), by simp <;> omega, E⟩
                case measure => simp [intOf]; omega
          · obtain rfl : i = bw.length := by omega
            have b7 := TB7.out g2
            have b8 := TB8.out g2
            by_cases hst : 0 < start
            · have hs6 : start ≤ 6 := HM.out.1.2.2.2.2.2.2.2
              obtain ⟨st, rfl⟩ : ∃ st : Nat, start = st := ⟨start.toNat, by omega⟩
              have hst7 : st < 7 := by omega
              have hstz : (0 : Int) ≤ st := by omega
              have hstz7 : (st : Int) < 7 := by omega
              have EW : WK = [59, 87, 75, 83, 84, 61] ++ dayName st := by rw [HWK.out]; exact (if_pos hst).trans (by simp)
              have E : Hid (acc ++ p4 ++ [59, 87, 75, 83, 84, 61] ++ dayName st = R) := by show _ = _; rw [← HI.out, rstD_end, EW]; simp only [List.append_assoc, List.nil_append]
              have HTN := Lib.hid (fun g : Gr G => HT.out.days g st hst7)
              have hdl := dayName_len st
              clear EW
              generalize dayName st = dn at *
              go_wp2_with fail
              go_at_call 40
              refine (HN4.out g2).mono ?_
              rintro e w' ⟨rfl, hb⟩
              obtain ⟨g2, rfl⟩ := g2.on hb
              clear hb
              have b8 := TB8.out g2
              have tn := HTN.out g2
              go_wp2_with fail
              go_ret
              exact ⟨congrArg (fun x => Ending.returned (Value.string x)) (by rw [← E.out]; simp only [ByteArray.mk_append_mk]), HT.out.below.trans (g2.ok.mono HT.out.below.size)⟩
            · have EW : WK = [] := by rw [HWK.out]; exact if_neg hst
              have E : Hid (acc ++ p4 = R) := by show _ = _; rw [← HI.out, rstD_end, EW, List.append_nil, List.append_nil]
              clear EW
              go_wp2_with fail
              go_at_call 40
              refine (HN4.out g2).mono ?_
              rintro e w' ⟨rfl, hb⟩
              obtain ⟨g2, rfl⟩ := g2.on hb
              clear hb
              have b8 := TB8.out g2
              go_wp2_with fail
              go_ret
              exact ⟨congrArg (fun x => Ending.returned (Value.string x)) (by rw [app2x, E.out]), HT.out.below.trans (g2.ok.mono HT.out.below.size)⟩
end Go.Proofs.YtbclfcghacedfaaGreatDoor
end
