import Derived.Test.YtgmcacmdiiogmaaZCUBA
/- What the law of layer 14 makes of its operations: one kind of them. -/
section
namespace Go.Proofs.Ytgmcacmdiiogmaa
open Go.ChangeShapes Go.WideShapes Go.ChangeAt Go.RowKit Go.Joins Sp

set_option maxRecDepth 100000 in
set_option maxHeartbeats 60000000 in
theorem build_w2 {St : StP} {Ct : CtP} (K : CuK St Ct) {c : Value} {k : Nat} {C : Nat → Prop} {ops : List Op14} {A : Option Addr} {d : Nat} {w : World} (hn : ops.length ≤ 20) (hok : ∀ o ∈ ops, o.Ok ∧ o.l.length ≤ 12) (hc : Ct w c k C) (hops : OpsAt w A ops)
    {Ko : Act → World → Prop} {wr : World} {u7 u8 u9 u11 u12 u13 u16 u17 u18 u19 u20 u21 u22 u23 u24 u25 u26 u27 u28 u29 u30 u31 u32 u33 u34 u35 u36 u37 u38 u39 u40 u41 u42 u43 u44 u45 u46 u47 u48 u49 u50 u51 u52 u53 u54 u55 u56 u57 u58 u59 u60 u61 u62 u63 u64 u65 u66 u67 u68 u69 u70 u71 u72 u73 u74 u75 u76 u77 u78 u79 u80 u81 u82 u83 u84 u85 u86 u87 u88 u89 u90 u91 u92 u93 u94 u95 u96 u97 u98 u99 u100 u101 u102 u103 u104 u105 u106 u107 u108 u109 u110 u111 u112 u113 u114 u115 u116 u117 u118 u119 u120 u121 u122 u123 u124 u125 u126 u127 u128 u129 u130 u131 u132 u133 u134 u135 u136 u137 u138 u139 u140 u141 u142 u143 u144 u145 u146 u147 u148 u149 u150 u151 u152 u153 u154 u155 u156 u157 u158 u159 u160 u161 u162 u163 u164 u165 u166 u167 u168 u169 u170 u171 u172 u173 u174 u175 u176 u177 u178 u179 u180 u181 u182 u183 u184 u185 u186 u187 u188 u189 u190 u191 u192 u193 u194 u195 u196 u197 u198 u199 u200 u201 u202 u203 u204 u205 u206 u207 u208 u209 u210 : Value} (hrel : BuR St w c ops u7 u8 u9 u16 wr) {i : Nat} (h16 : u16 = .int .i64 i) (hlt : i < ops.length) {o : Op14} (ho : ops[i]? = some o) (hkn : o.k = 2) :
    Code.wp Try.prog (cLoop (cBlk (cSeq2 (cSeq1 (cSeq2 (cSeq2 (cSeq2 (cSeq2 (Try.f11.body.getD .skip))))))))) (Exit.then (fun (a' : Act) (w' : World) => (∃ (u7 u8 u9 u11 u12 u13 u16 u17 u18 u19 u20 u21 u22 u23 u24 u25 u26 u27 u28 u29 u30 u31 u32 u33 u34 u35 u36 u37 u38 u39 u40 u41 u42 u43 u44 u45 u46 u47 u48 u49 u50 u51 u52 u53 u54 u55 u56 u57 u58 u59 u60 u61 u62 u63 u64 u65 u66 u67 u68 u69 u70 u71 u72 u73 u74 u75 u76 u77 u78 u79 u80 u81 u82 u83 u84 u85 u86 u87 u88 u89 u90 u91 u92 u93 u94 u95 u96 u97 u98 u99 u100 u101 u102 u103 u104 u105 u106 u107 u108 u109 u110 u111 u112 u113 u114 u115 u116 u117 u118 u119 u120 u121 u122 u123 u124 u125 u126 u127 u128 u129 u130 u131 u132 u133 u134 u135 u136 u137 u138 u139 u140 u141 u142 u143 u144 u145 u146 u147 u148 u149 u150 u151 u152 u153 u154 u155 u156 u157 u158 u159 u160 u161 u162 u163 u164 u165 u166 u167 u168 u169 u170 u171 u172 u173 u174 u175 u176 u177 u178 u179 u180 u181 u182 u183 u184 u185 u186 u187 u188 u189 u190 u191 u192 u193 u194 u195 u196 u197 u198 u199 u200 u201 u202 u203 u204 u205 u206 u207 u208 u209 u210 : Value), BuR St w c ops u7 u8 u9 u16 w' ∧ a' = { tmps := #[c, .slice A ops.length d, undef, undef, .pointer none, .slice none 0 0, .int .i64 0, u7, u8, u9, undef, u11, u12, u13, .slice A ops.length d, .int .i64 (ops.length : Int), u16, u17, u18, u19, u20, u21, u22, u23, u24, u25, u26, u27, u28, u29, u30, u31, u32, u33, u34, u35, u36, u37, u38, u39, u40, u41, u42, u43, u44, u45, u46, u47, u48, u49, u50, u51, u52, u53, u54, u55, u56, u57, u58, u59, u60, u61, u62, u63, u64, u65, u66, u67, u68, u69, u70, u71, u72, u73, u74, u75, u76, u77, u78, u79, u80, u81, u82, u83, u84, u85, u86, u87, u88, u89, u90, u91, u92, u93, u94, u95, u96, u97, u98, u99, u100, u101, u102, u103, u104, u105, u106, u107, u108, u109, u110, u111, u112, u113, u114, u115, u116, u117, u118, u119, u120, u121, u122, u123, u124, u125, u126, u127, u128, u129, u130, u131, u132, u133, u134, u135, u136, u137, u138, u139, u140, u141, u142, u143, u144, u145, u146, u147, u148, u149, u150, u151, u152, u153, u154, u155, u156, u157, u158, u159, u160, u161, u162, u163, u164, u165, u166, u167, u168, u169, u170, u171, u172, u173, u174, u175, u176, u177, u178, u179, u180, u181, u182, u183, u184, u185, u186, u187, u188, u189, u190, u191, u192, u193, u194, u195, u196, u197, u198, u199, u200, u201, u202, u203, u204, u205, u206, u207, u208, u209, u210, undef, undef, undef, undef, undef, undef, undef, undef, undef, undef, undef, undef, undef, undef, undef, undef, undef], defers := [] }) ∧ ops.length - (intOf (a'.tmps.getD 16 undef)).toNat < ops.length - (intOf (#[c, .slice A ops.length d, undef, undef, .pointer none, .slice none 0 0, .int .i64 0, u7, u8, u9, undef, u11, u12, u13, .slice A ops.length d, .int .i64 (ops.length : Int), u16, u17, u18, u19, u20, u21, u22, u23, u24, u25, u26, u27, u28, u29, u30, u31, u32, u33, u34, u35, u36, u37, u38, u39, u40, u41, u42, u43, u44, u45, u46, u47, u48, u49, u50, u51, u52, u53, u54, u55, u56, u57, u58, u59, u60, u61, u62, u63, u64, u65, u66, u67, u68, u69, u70, u71, u72, u73, u74, u75, u76, u77, u78, u79, u80, u81, u82, u83, u84, u85, u86, u87, u88, u89, u90, u91, u92, u93, u94, u95, u96, u97, u98, u99, u100, u101, u102, u103, u104, u105, u106, u107, u108, u109, u110, u111, u112, u113, u114, u115, u116, u117, u118, u119, u120, u121, u122, u123, u124, u125, u126, u127, u128, u129, u130, u131, u132, u133, u134, u135, u136, u137, u138, u139, u140, u141, u142, u143, u144, u145, u146, u147, u148, u149, u150, u151, u152, u153, u154, u155, u156, u157, u158, u159, u160, u161, u162, u163, u164, u165, u166, u167, u168, u169, u170, u171, u172, u173, u174, u175, u176, u177, u178, u179, u180, u181, u182, u183, u184, u185, u186, u187, u188, u189, u190, u191, u192, u193, u194, u195, u196, u197, u198, u199, u200, u201, u202, u203, u204, u205, u206, u207, u208, u209, u210, undef, undef, undef, undef, undef, undef, undef, undef, undef, undef, undef, undef, undef, undef, undef, undef, undef].getD 16 undef)).toNat) (Exit.inBlock 0 (Exit.then Ko (bodyPost Try.prog Try.f11 (RetB St c w))))) { tmps := #[c, .slice A ops.length d, undef, undef, .pointer none, .slice none 0 0, .int .i64 0, u7, u8, u9, undef, u11, u12, u13, .slice A ops.length d, .int .i64 (ops.length : Int), u16, u17, u18, u19, u20, u21, u22, u23, u24, u25, u26, u27, u28, u29, u30, u31, u32, u33, u34, u35, u36, u37, u38, u39, u40, u41, u42, u43, u44, u45, u46, u47, u48, u49, u50, u51, u52, u53, u54, u55, u56, u57, u58, u59, u60, u61, u62, u63, u64, u65, u66, u67, u68, u69, u70, u71, u72, u73, u74, u75, u76, u77, u78, u79, u80, u81, u82, u83, u84, u85, u86, u87, u88, u89, u90, u91, u92, u93, u94, u95, u96, u97, u98, u99, u100, u101, u102, u103, u104, u105, u106, u107, u108, u109, u110, u111, u112, u113, u114, u115, u116, u117, u118, u119, u120, u121, u122, u123, u124, u125, u126, u127, u128, u129, u130, u131, u132, u133, u134, u135, u136, u137, u138, u139, u140, u141, u142, u143, u144, u145, u146, u147, u148, u149, u150, u151, u152, u153, u154, u155, u156, u157, u158, u159, u160, u161, u162, u163, u164, u165, u166, u167, u168, u169, u170, u171, u172, u173, u174, u175, u176, u177, u178, u179, u180, u181, u182, u183, u184, u185, u186, u187, u188, u189, u190, u191, u192, u193, u194, u195, u196, u197, u198, u199, u200, u201, u202, u203, u204, u205, u206, u207, u208, u209, u210, undef, undef, undef, undef, undef, undef, undef, undef, undef, undef, undef, undef, undef, undef, undef, undef, undef], defers := [] } wr := by
  conv =>
    arg 2
    simp only [Try.f11, Option.getD_some, cLoop, cBlk, cSeq1, cSeq2]
  obtain ⟨is0, his0, hqs0, hqs1, hqs2⟩ := info_parts ptr_info
  obtain ⟨ir0, hir0, hqr0, hqr1, hqr2⟩ := info_parts row_info
  have HOP := Lib.hid hops
  have HOK := Lib.hid hok
  have HCT : Hid (∀ g : Gr w, Ct g.val c k C) := fun g => K.coff hc (.of_below (F := fun _ => False) g.ok) fun _ _ => id
  have hnz : (ops.length : Int) ≤ 20 := by omega
  clear hops hok hc
  subst h16
  obtain ⟨i', m, most, cs, cr, As, Ar, g, rfl, hi, hmi, hmost, hii, rfl, rfl, rfl, HB⟩ := hrel
  obtain rfl : i = i' := by simp only [Value.int.injEq, true_and] at hii; omega
  clear hii
  have hiz : (i : Int) < ops.length := by omega
  have hw1 : IntKind.i64.wrap ((i : Int) + 1) = i + 1 := by rw [IntKind.wrap_i64]; omega
  obtain ⟨bo, offo, Ai, di, rfl, hsl, hcell⟩ := HOP.out.at_ ho
  obtain ⟨hOK, hlen⟩ := HOK.out o (List.mem_of_getElem? ho)
  obtain ⟨p0, p1, p2, p3, p4, p5, p6⟩ := hcell g
  have HSL : Hid (∀ g : Gr w, Sl g.val Ai o.l.length di (sv o.l)) := fun g => hsl.gr g
  obtain ⟨ok, ol, on, ow1, ow2, oa, ob⟩ := o
  simp only at p0 p1 p2 p3 p4 p5 p6 hlen HSL hkn
  have HKN := Lib.hid hkn
  clear hkn
  have HK64 := Lib.hid hOK
  obtain ⟨W1, hW1⟩ : ∃ W1, g.val.alloc (.cells #[.int .i64 ok, .slice Ai ol.length di, .int .i64 on, .int .i64 ow1, .int .i64 ow2, .int .i64 oa, .int .i64 ob] 53) = W1 := ⟨_, rfl⟩
  have hB : Below g.val.heap.size g.val W1 := by rw [← hW1]; exact (Below.refl _ _).alloc (Nat.le_refl _) _
  have hblk : W1.heap[g.val.heap.size]? = some (.cells #[.int .i64 ok, .slice Ai ol.length di, .int .i64 on, .int .i64 ow1, .int .i64 ow2, .int .i64 oa, .int .i64 ob] 53 (0, 0)) := by rw [← hW1]; exact heap_alloc_new _ _
  have hk : ∀ G : Gr W1, G.val.cell? ⟨g.val.heap.size, 0, none⟩ = some (.int .i64 ok) ∧ G.val.cell? ⟨g.val.heap.size, 1, none⟩ = some (.slice Ai ol.length di) ∧ G.val.cell? ⟨g.val.heap.size, 2, none⟩ = some (.int .i64 on) ∧ G.val.cell? ⟨g.val.heap.size, 3, none⟩ = some (.int .i64 ow1) ∧ G.val.cell? ⟨g.val.heap.size, 4, none⟩ = some (.int .i64 ow2) ∧ G.val.cell? ⟨g.val.heap.size, 5, none⟩ = some (.int .i64 oa) ∧ G.val.cell? ⟨g.val.heap.size, 6, none⟩ = some (.int .i64 ob) := fun G =>
    ⟨cell_old (blk_cell hblk rfl) G.ok, cell_old (blk_cell hblk rfl) G.ok, cell_old (blk_cell hblk rfl) G.ok, cell_old (blk_cell hblk rfl) G.ok, cell_old (blk_cell hblk rfl) G.ok, cell_old (blk_cell hblk rfl) G.ok, cell_old (blk_cell hblk rfl) G.ok⟩
  have HK := Lib.hid hk
  have HBW : Hid (Below w.heap.size w W1) := g.ok.trans (hB.mono g.size)
  obtain ⟨T, ps, xs, ls, ns, hbu⟩ := HB.out
  obtain ⟨T1, hT1⟩ : ∃ T1, upd T g.val.heap.size 0 = T1 := ⟨_, rfl⟩
  have HB1 : Hid (Hl St w W1 T1 c m m cs cr As Ar ps ps xs ls ls ns) := by
    show Hl _ _ _ _ _ _ _ _ _ _ _ _ _ _ _ _ _
    rw [← hT1]
    exact Hl.up K ⟨g.ok, hbu.ss, hbu.sb, hbu.rb⟩ hB 0
  have HX1 : Hid (Bx W1 g.val.heap.size 0 ok Ai ol di on ow1 ow2 oa ob T1) := ⟨hblk, by rw [← hT1]; exact upd_new T (Nat.le_refl _)⟩
  clear hT1
  have HSU := Lib.hid (And.intro hbu.sum hbu.tot)
  have HLN : Hid (ps.length = m ∧ xs.length = m ∧ ls.length = m ∧ ns.length = m) := ⟨hbu.sb.lp, hbu.lxs, hbu.rb.ll, by rw [hbu.ss.ln, hbu.sb.lp]⟩
  have HBS := Lib.hid hB.size
  have E1 := Lib.hid hW1
  obtain ⟨x, hx⟩ : ∃ x, max 0 on = x := ⟨_, rfl⟩
  have x1 : (if (0 : Int) < on then on else 0) = x := by rw [← hx]; split <;> omega
  have x2 : (if (0 : Int) ≤ on then on else 0) = x := by rw [← hx]; split <;> omega
  have x3 : (if on < (0 : Int) then 0 else on) = x := by rw [← hx]; split <;> omega
  have x4 : (if on ≤ (0 : Int) then 0 else on) = x := by rw [← hx]; split <;> omega
  have hx0 : 0 ≤ x := by omega
  obtain ⟨kk, hkk⟩ : ∃ kk : Nat, min x (m : Int) = kk := ⟨(min x (m : Int)).toNat, by omega⟩
  have y1 : (if x < (m : Int) then x else (m : Int)) = kk := by rw [← hkk]; split <;> omega
  have y2 : (if x ≤ (m : Int) then x else (m : Int)) = kk := by rw [← hkk]; split <;> omega
  have y3 : (if (m : Int) < x then (m : Int) else x) = kk := by rw [← hkk]; split <;> omega
  have y4 : (if (m : Int) ≤ x then (m : Int) else x) = kk := by rw [← hkk]; split <;> omega
  have hkm : kk ≤ m := by omega
  obtain ⟨k0, k1, k2, k3, k4, k5, k6⟩ := hk ⟨W1, Below.refl _ _⟩
  simp only at k0 k1 k2 k3 k4 k5 k6
  clear hcell hk hW1 hB hblk hsl hOK hbu HB
  go_upto_region 7 with fail
  rw [E1.out]
  clear p0 p1 p2 p3 p4 p5 p6
  go_upto_region 11 with fail
  clear hx x1 x2 x3 x4 hx0 hkk y1 y2 y3 y4 k2
  have hmz : (m : Int) ≤ 20 := by omega
  have hm20 : m ≤ 20 := by omega
  have e2 : ok = 2 := HKN.out
  subst e2
  obtain ⟨j, hj⟩ : ∃ j, j + kk = m := ⟨m - kk, by omega⟩
  have hjm : j ≤ m := by omega
  have hwj : IntKind.i64.wrap ((m : Int) - kk) = (j : Int) := by rw [IntKind.wrap_i64]; omega
  have hmcs : m ≤ cs := (sl_own HB1.out.sb.own).le
  have hmcr : m ≤ cr := (sl_own HB1.out.rb.own).le
  have hsz45 : ∀ w' : World, (sizeOf (Try.prog.elem 45)).run Try.prog w' = .ok 1 w' := fun w' => by kernel_rfl
  have hsz44 : ∀ w' : World, (sizeOf (Try.prog.elem 44)).run Try.prog w' = .ok 1 w' := fun w' => by kernel_rfl
  have hfull := full_cut (A := As) hjm hmcs Try.underlying45 hsz45
  have hlow := cutA_run (A := As) (c := cs) hjm Try.underlying45 hsz45
  have hfullR := full_cut (A := Ar) hjm hmcr Try.underlying44 hsz44
  have hlowR := cutA_run (A := Ar) (c := cr) hjm Try.underlying44 hsz44
  rw [show m - j = kk by omega] at hlow hlowR
  have HU : Hid (∀ V, Below W1.heap.size W1 V → Calls Try.prog 21 #[.slice (cutA As cs j) kk (cs - j)] V (StepS St w W1 T1 c m m cs cr As Ar ps xs (ps.take j) (ls.take j ++ [meetL (ls.drop j)]) ls (ns.take j ++ [(ns.drop j).sum]))) := fun V hV => HB1.out.meet K hj (by omega) hV
  have HFR := Lib.hid (And.intro hfullR hlowR)
  have HAB := Lib.hid (rfl : cutA Ar cr j = cutA Ar cr j)
  generalize cutA As cs j = A2 at *
  generalize cs - j = c2 at *
  have hmxj : j + 1 ≤ maxLen := by unfold maxLen; omega
  have hbyj : (j + 1) * 8 ≤ 140737488355328 := by omega
  have hbyj2 : (j + 1) * 24 ≤ 140737488355328 := by omega
  clear hfullR hlowR hsz45 hsz44
  go_upto_region 19 with fail
  clear k0 k1 k3 k4 k5 k6
  go_cut [7, 16] from 16 to 210 (fun s7 s16 wx => s16 = .int .i64 i ∧ ∃ (gs caps : Nat), s7 = .slice (some ⟨gs, 0, none⟩) (j + 1) caps ∧ Hid (∃ a T', Hl St w wx T' c (j + 1) m caps cr (some ⟨gs, 0, none⟩) Ar (ps.take j ++ [.pointer a]) (ps.take j ++ [.pointer a]) xs (ls.take j ++ [meetL (ls.drop j)]) ls (ns.take j ++ [(ns.drop j).sum]) ∧ Bx wx g.val.heap.size 0 2 Ai ol di on ow1 ow2 oa ob T'))
  case first =>
    go_region_held3 (fun _ => True) (trivial) (first
      | (go_at_call 21; refine (HU.out _ (by (repeat (first | exact Below.refl _ _ | refine Below.drew ?_)))).mono ?_; rintro e w2 ⟨pa, T2, rfl, hb2, ht2, G2, ho2, hG2⟩)
      | (refine step_append_full (by rfl) _ _ _ (by rfl) w2.heap.size 27 is0 _ 1 8 Try.underlying45 his0 hqs0 hqs1 hqs2 rfl As j (ps.take j) (by rfl) (((sl_own hb2.sb.own).full hjm).below (by (repeat (first | exact Below.refl _ _ | refine Below.drew ?_ | refine bel_al ?_ _))) (Nat.le_refl _)) (by rw [List.length_take, HLN.out.1]; omega) ⟨w2.heap.size, 0, none⟩ 1 [.pointer pa] (by rfl) (by rfl) (World.news_of_block (cs := #[.pointer pa]) (t := 27) (fr := (0, 0)) (heap_alloc_new w2 _)) hmxj hbyj (by simp) ?_; intro caps w3 hown3 hb3))
    all_goals
      have hb23 : Below w2.heap.size w2 w3 := (bel_al (Below.refl _ _) _).trans (hb3.mono (by simp))
      have hx2 := HX1.out.off ho2 (fun h1 h2 => hG2 _ h1 h2) fun h1 h2 => ht2 _ h1 h2
      have hx3 := hx2.off (Off.of_below (F := fun _ => False) hb23) (fun _ _ => id) (T' := upd T2 w2.heap.size 1) fun h1 h2 => by rw [upd_old T2 h1]; exact h2
      rw [show (w2.alloc (.cells #[.pointer pa] 27)).heap.size = w2.heap.size + 1 by simp] at hown3
      have hb5 := hb2.full_s K hown3 hb23
      have HE5 := Lib.hid (And.intro hb5 hx3)
      clear hb5 hx3 hx2 hb23 hb3 hown3 hb2 ht2 ho2 hG2
      go_wp2_with fail
      go_meet
      case rel => exact ⟨rfl, _, _, rfl, pa, _, HE5.out⟩
  case rest =>
  obtain ⟨rfl, gs, caps, rfl, HC⟩ := hcut
  obtain ⟨pa, T2, hb2, hx2⟩ := HC.out
  have HB2 := Lib.hid hb2
  have HX2 := Lib.hid hx2
  have hdl : (ls.drop j).length = kk := by have := HLN.out.2.2.1; rw [List.length_drop]; omega
  have hdt : total (ls.drop j) ≤ 260 := by have := HSU.out.2; have := total_cut ls j; omega
  have hulen : (meetL (ls.drop j)).length ≤ total (ls.drop j) := meet_len _
  have hHU : ∀ V, Below wc.heap.size wc V → Calls Try.prog 23 #[.slice (cutA Ar cr j) kk (cr - j)] V (RetN (meetL (ls.drop j)) V) := fun V hV => by
    have := rmeetN_any (ls.drop j) (cutA Ar cr j) (cr - j) V (by omega) (by omega) ((HB2.out.up K hV 0).rb.ss hjm)
    rwa [hdl] at this
  have HU2 := Lib.hid hHU
  obtain ⟨hfullR, hlowR⟩ := HFR.out
  have HUL := Lib.hid hulen
  have HTC := Lib.hid (total_cut ls j)
  have HNC := Lib.hid (sum_cut ns j)
  have HRL : Hid (xs.length = m) := by have := HB2.out.rb.own.1; show _ = _; omega
  clear hb2 hx2 HC HU hHU hdl hulen hfull hlow HAB
  generalize cutA Ar cr j = A3 at *
  generalize cr - j = c3 at *
  obtain ⟨U, hU⟩ : ∃ U, meetL (ls.drop j) = U := ⟨_, rfl⟩
  rw [hU] at HB2 HU2 HUL
  clear hU
  go_upto_region 20 with fail
  go_region_held3 (fun _ => True) (trivial) (first
    | (go_at_call 23; refine (HU2.out _ (by (repeat (first | exact Below.refl _ _ | refine Below.drew ?_)))).mono ?_; rintro e w4 ⟨A4, d4, rfl, hs4, hn4, hb4⟩)
    | (refine step_append_full (by rfl) _ _ _ (by rfl) w4.heap.size 28 ir0 _ 1 24 Try.underlying44 hir0 hqr0 hqr1 hqr2 rfl Ar j (xs.take j) (by rfl) (((sl_own (HB2.out.up K ((show Below wc.heap.size wc _ from (by (repeat (first | exact Below.refl _ _ | refine Below.drew ?_)))).trans hb4) 0).rb.own).full hjm).below (by (repeat (first | exact Below.refl _ _ | refine Below.drew ?_ | refine bel_al ?_ _))) (Nat.le_refl _)) (by rw [List.length_take, HRL.out]; omega) ⟨w4.heap.size, 0, none⟩ 1 [.slice A4 U.length d4] (by rfl) (by rfl) (World.news_of_block (cs := #[.slice A4 U.length d4]) (t := 28) (fr := (0, 0)) (heap_alloc_new w4 _)) hmxj hbyj2 (by simp) ?_; intro capr w5 hown5 hb5))
  all_goals
    have hbV := (show Below wc.heap.size wc _ from (by (repeat (first | exact Below.refl _ _ | refine Below.drew ?_)))).trans hb4
    have hb45 : Below w4.heap.size w4 w5 := (bel_al (Below.refl _ _) _).trans (hb5.mono (by simp))
    rw [show (w4.alloc (.cells #[.slice A4 U.length d4] 28)).heap.size = w4.heap.size + 1 by simp] at hown5
    have h4 := HB2.out.up K hbV 0
    have hA : 0 < U.length → ∀ a, A4 = some a → w.heap.size ≤ a.block ∧ upd T2 wc.heap.size 0 a.block = 0 := fun _ a ha => by
      have q1 := hn4 a ha
      have q2 : wc.heap.size ≤ a.block := q1
      exact ⟨Nat.le_trans HB2.out.bel.size q2, upd_new T2 q2⟩
    have HE5 := Lib.hid (h4.full_r K hjm hs4 hA hown5 hb45)
    clear hb5 hb45 h4 hA hown5 hb4 hn4 hs4 hbV
    go_wp2_with fail
    refine ⟨?_, ?measure⟩
    focus
      (repeat apply Exists.intro)
      refine ⟨?rel, rfl⟩
    case rel => exact ⟨i + 1, j + 1, most, caps, capr, some ⟨gs, 0, none⟩, some ⟨w4.heap.size + 1, 0, none⟩, ⟨w5, HE5.out.bel⟩, rfl, by omega, by omega, by omega, by go_num, rfl, rfl, by first | rfl | go_num, HE5.out.bu (by have := HSU.out.1; have := HNC.out; simp; omega) (by have := HSU.out.2; have := HTC.out; have := HUL.out; rw [total_app, total_one]; omega)⟩
    case measure => simp [intOf]; omega
end Go.Proofs.Ytgmcacmdiiogmaa
end
