import Derived.Test.YtgmcacmdiiogmaaZCUBA
/- What the law of layer 14 makes of its operations: one kind of them. -/
section
namespace Go.Proofs.Ytgmcacmdiiogmaa
open Go.ChangeShapes Go.WideShapes Go.ChangeAt Go.RowKit Go.Joins Sp

set_option maxRecDepth 100000 in
set_option maxHeartbeats 60000000 in
theorem build_w0 {St : StP} {Ct : CtP} (K : CuK St Ct) {c : Value} {k : Nat} {C : Nat → Prop} {ops : List Op14} {A : Option Addr} {d : Nat} {w : World} (hn : ops.length ≤ 20) (hok : ∀ o ∈ ops, o.Ok ∧ o.l.length ≤ 12) (hc : Ct w c k C) (hops : OpsAt w A ops)
    {Ko : Act → World → Prop} {wr : World} {u7 u8 u9 u11 u12 u13 u16 u17 u18 u19 u20 u21 u22 u23 u24 u25 u26 u27 u28 u29 u30 u31 u32 u33 u34 u35 u36 u37 u38 u39 u40 u41 u42 u43 u44 u45 u46 u47 u48 u49 u50 u51 u52 u53 u54 u55 u56 u57 u58 u59 u60 u61 u62 u63 u64 u65 u66 u67 u68 u69 u70 u71 u72 u73 u74 u75 u76 u77 u78 u79 u80 u81 u82 u83 u84 u85 u86 u87 u88 u89 u90 u91 u92 u93 u94 u95 u96 u97 u98 u99 u100 u101 u102 u103 u104 u105 u106 u107 u108 u109 u110 u111 u112 u113 u114 u115 u116 u117 u118 u119 u120 u121 u122 u123 u124 u125 u126 u127 u128 u129 u130 u131 u132 u133 u134 u135 u136 u137 u138 u139 u140 u141 u142 u143 u144 u145 u146 u147 u148 u149 u150 u151 u152 u153 u154 u155 u156 u157 u158 u159 u160 u161 u162 u163 u164 u165 u166 u167 u168 u169 u170 u171 u172 u173 u174 u175 u176 u177 u178 u179 u180 u181 u182 u183 u184 u185 u186 u187 u188 u189 u190 u191 u192 u193 u194 u195 u196 u197 u198 u199 u200 u201 u202 u203 u204 u205 u206 u207 u208 u209 u210 : Value} (hrel : BuR St w c ops u7 u8 u9 u16 wr) {i : Nat} (h16 : u16 = .int .i64 i) (hlt : i < ops.length) {o : Op14} (ho : ops[i]? = some o) (hkn : o.k = 0) :
    Code.wp Try.prog (cLoop (cBlk (cSeq2 (cSeq1 (cSeq2 (cSeq2 (cSeq2 (cSeq2 (Try.f11.body.getD .skip))))))))) (Exit.then (fun (a' : Act) (w' : World) => (∃ (u7 u8 u9 u11 u12 u13 u16 u17 u18 u19 u20 u21 u22 u23 u24 u25 u26 u27 u28 u29 u30 u31 u32 u33 u34 u35 u36 u37 u38 u39 u40 u41 u42 u43 u44 u45 u46 u47 u48 u49 u50 u51 u52 u53 u54 u55 u56 u57 u58 u59 u60 u61 u62 u63 u64 u65 u66 u67 u68 u69 u70 u71 u72 u73 u74 u75 u76 u77 u78 u79 u80 u81 u82 u83 u84 u85 u86 u87 u88 u89 u90 u91 u92 u93 u94 u95 u96 u97 u98 u99 u100 u101 u102 u103 u104 u105 u106 u107 u108 u109 u110 u111 u112 u113 u114 u115 u116 u117 u118 u119 u120 u121 u122 u123 u124 u125 u126 u127 u128 u129 u130 u131 u132 u133 u134 u135 u136 u137 u138 u139 u140 u141 u142 u143 u144 u145 u146 u147 u148 u149 u150 u151 u152 u153 u154 u155 u156 u157 u158 u159 u160 u161 u162 u163 u164 u165 u166 u167 u168 u169 u170 u171 u172 u173 u174 u175 u176 u177 u178 u179 u180 u181 u182 u183 u184 u185 u186 u187 u188 u189 u190 u191 u192 u193 u194 u195 u196 u197 u198 u199 u200 u201 u202 u203 u204 u205 u206 u207 u208 u209 u210 : Value), BuR St w c ops u7 u8 u9 u16 w' ∧ a' = { tmps := #[c, .slice A ops.length d, undef, undef, .pointer none, .slice none 0 0, .int .i64 0, u7, u8, u9, undef, u11, u12, u13, .slice A ops.length d, .int .i64 (ops.length : Int), u16, u17, u18, u19, u20, u21, u22, u23, u24, u25, u26, u27, u28, u29, u30, u31, u32, u33, u34, u35, u36, u37, u38, u39, u40, u41, u42, u43, u44, u45, u46, u47, u48, u49, u50, u51, u52, u53, u54, u55, u56, u57, u58, u59, u60, u61, u62, u63, u64, u65, u66, u67, u68, u69, u70, u71, u72, u73, u74, u75, u76, u77, u78, u79, u80, u81, u82, u83, u84, u85, u86, u87, u88, u89, u90, u91, u92, u93, u94, u95, u96, u97, u98, u99, u100, u101, u102, u103, u104, u105, u106, u107, u108, u109, u110, u111, u112, u113, u114, u115, u116, u117, u118, u119, u120, u121, u122, u123, u124, u125, u126, u127, u128, u129, u130, u131, u132, u133, u134, u135, u136, u137, u138, u139, u140, u141, u142, u143, u144, u145, u146, u147, u148, u149, u150, u151, u152, u153, u154, u155, u156, u157, u158, u159, u160, u161, u162, u163, u164, u165, u166, u167, u168, u169, u170, u171, u172, u173, u174, u175, u176, u177, u178, u179, u180, u181, u182, u183, u184, u185, u186, u187, u188, u189, u190, u191, u192, u193, u194, u195, u196, u197, u198, u199, u200, u201, u202, u203, u204, u205, u206, u207, u208, u209, u210, undef, undef, undef, undef, undef, undef, undef, undef, undef, undef, undef, undef, undef, undef, undef, undef, undef], defers := [] }) ∧ ops.length - (intOf (a'.tmps.getD 16 undef)).toNat < ops.length - (intOf (#[c, .slice A ops.length d, undef, undef, .pointer none, .slice none 0 0, .int .i64 0, u7, u8, u9, undef, u11, u12, u13, .slice A ops.length d, .int .i64 (ops.length : Int), u16, u17, u18, u19, u20, u21, u22, u23, u24, u25, u26, u27, u28, u29, u30, u31, u32, u33, u34, u35, u36, u37, u38, u39, u40, u41, u42, u43, u44, u45, u46, u47, u48, u49, u50, u51, u52, u53, u54, u55, u56, u57, u58, u59, u60, u61, u62, u63, u64, u65, u66, u67, u68, u69, u70, u71, u72, u73, u74, u75, u76, u77, u78, u79, u80, u81, u82, u83, u84, u85, u86, u87, u88, u89, u90, u91, u92, u93, u94, u95, u96, u97, u98, u99, u100, u101, u102, u103, u104, u105, u106, u107, u108, u109, u110, u111, u112, u113, u114, u115, u116, u117, u118, u119, u120, u121, u122, u123, u124, u125, u126, u127, u128, u129, u130, u131, u132, u133, u134, u135, u136, u137, u138, u139, u140, u141, u142, u143, u144, u145, u146, u147, u148, u149, u150, u151, u152, u153, u154, u155, u156, u157, u158, u159, u160, u161, u162, u163, u164, u165, u166, u167, u168, u169, u170, u171, u172, u173, u174, u175, u176, u177, u178, u179, u180, u181, u182, u183, u184, u185, u186, u187, u188, u189, u190, u191, u192, u193, u194, u195, u196, u197, u198, u199, u200, u201, u202, u203, u204, u205, u206, u207, u208, u209, u210, undef, undef, undef, undef, undef, undef, undef, undef, undef, undef, undef, undef, undef, undef, undef, undef, undef].getD 16 undef)).toNat) (Exit.inBlock 0 (Exit.then Ko (bodyPost Try.prog Try.f11 (RetB St c w))))) { tmps := #[c, .slice A ops.length d, undef, undef, .pointer none, .slice none 0 0, .int .i64 0, u7, u8, u9, undef, u11, u12, u13, .slice A ops.length d, .int .i64 (ops.length : Int), u16, u17, u18, u19, u20, u21, u22, u23, u24, u25, u26, u27, u28, u29, u30, u31, u32, u33, u34, u35, u36, u37, u38, u39, u40, u41, u42, u43, u44, u45, u46, u47, u48, u49, u50, u51, u52, u53, u54, u55, u56, u57, u58, u59, u60, u61, u62, u63, u64, u65, u66, u67, u68, u69, u70, u71, u72, u73, u74, u75, u76, u77, u78, u79, u80, u81, u82, u83, u84, u85, u86, u87, u88, u89, u90, u91, u92, u93, u94, u95, u96, u97, u98, u99, u100, u101, u102, u103, u104, u105, u106, u107, u108, u109, u110, u111, u112, u113, u114, u115, u116, u117, u118, u119, u120, u121, u122, u123, u124, u125, u126, u127, u128, u129, u130, u131, u132, u133, u134, u135, u136, u137, u138, u139, u140, u141, u142, u143, u144, u145, u146, u147, u148, u149, u150, u151, u152, u153, u154, u155, u156, u157, u158, u159, u160, u161, u162, u163, u164, u165, u166, u167, u168, u169, u170, u171, u172, u173, u174, u175, u176, u177, u178, u179, u180, u181, u182, u183, u184, u185, u186, u187, u188, u189, u190, u191, u192, u193, u194, u195, u196, u197, u198, u199, u200, u201, u202, u203, u204, u205, u206, u207, u208, u209, u210, undef, undef, undef, undef, undef, undef, undef, undef, undef, undef, undef, undef, undef, undef, undef, undef, undef], defers := [] } wr := by
  conv =>
    arg 2
    simp only [Try.f11, Option.getD_some, cLoop, cBlk, cSeq1, cSeq2]
  obtain ⟨is0, his0, hqs0, hqs1, hqs2⟩ := info_parts ptr_info
  obtain ⟨ir0, hir0, hqr0, hqr1, hqr2⟩ := info_parts row_info
  have HOP := Lib.hid hops
  have HOK := Lib.hid hok
  have HCT : Hid (∀ g : Gr w, Ct g.val c k C) := fun g => K.coff hc (.of_below (F := fun _ => False) g.ok) fun _ _ => id
  have hnz : (ops.length : Int) ≤ 20 := by omega
  clear hops hok hc
  subst h16
  obtain ⟨i', m, most, cs, cr, As, Ar, g, rfl, hi, hmi, hmost, hii, rfl, rfl, rfl, HB⟩ := hrel
  obtain rfl : i = i' := by simp only [Value.int.injEq, true_and] at hii; omega
  clear hii
  have hiz : (i : Int) < ops.length := by omega
  have hw1 : IntKind.i64.wrap ((i : Int) + 1) = i + 1 := by rw [IntKind.wrap_i64]; omega
  obtain ⟨bo, offo, Ai, di, rfl, hsl, hcell⟩ := HOP.out.at_ ho
  obtain ⟨hOK, hlen⟩ := HOK.out o (List.mem_of_getElem? ho)
  obtain ⟨p0, p1, p2, p3, p4, p5, p6⟩ := hcell g
  have HSL : Hid (∀ g : Gr w, Sl g.val Ai o.l.length di (sv o.l)) := fun g => hsl.gr g
  obtain ⟨ok, ol, on, ow1, ow2, oa, ob⟩ := o
  simp only at p0 p1 p2 p3 p4 p5 p6 hlen HSL hkn
  have HKN := Lib.hid hkn
  clear hkn
  have HK64 := Lib.hid hOK
  obtain ⟨W1, hW1⟩ : ∃ W1, g.val.alloc (.cells #[.int .i64 ok, .slice Ai ol.length di, .int .i64 on, .int .i64 ow1, .int .i64 ow2, .int .i64 oa, .int .i64 ob] 53) = W1 := ⟨_, rfl⟩
  have hB : Below g.val.heap.size g.val W1 := by rw [← hW1]; exact (Below.refl _ _).alloc (Nat.le_refl _) _
  have hblk : W1.heap[g.val.heap.size]? = some (.cells #[.int .i64 ok, .slice Ai ol.length di, .int .i64 on, .int .i64 ow1, .int .i64 ow2, .int .i64 oa, .int .i64 ob] 53 (0, 0)) := by rw [← hW1]; exact heap_alloc_new _ _
  have hk : ∀ G : Gr W1, G.val.cell? ⟨g.val.heap.size, 0, none⟩ = some (.int .i64 ok) ∧ G.val.cell? ⟨g.val.heap.size, 1, none⟩ = some (.slice Ai ol.length di) ∧ G.val.cell? ⟨g.val.heap.size, 2, none⟩ = some (.int .i64 on) ∧ G.val.cell? ⟨g.val.heap.size, 3, none⟩ = some (.int .i64 ow1) ∧ G.val.cell? ⟨g.val.heap.size, 4, none⟩ = some (.int .i64 ow2) ∧ G.val.cell? ⟨g.val.heap.size, 5, none⟩ = some (.int .i64 oa) ∧ G.val.cell? ⟨g.val.heap.size, 6, none⟩ = some (.int .i64 ob) := fun G =>
    ⟨cell_old (blk_cell hblk rfl) G.ok, cell_old (blk_cell hblk rfl) G.ok, cell_old (blk_cell hblk rfl) G.ok, cell_old (blk_cell hblk rfl) G.ok, cell_old (blk_cell hblk rfl) G.ok, cell_old (blk_cell hblk rfl) G.ok, cell_old (blk_cell hblk rfl) G.ok⟩
  have HK := Lib.hid hk
  have HBW : Hid (Below w.heap.size w W1) := g.ok.trans (hB.mono g.size)
  obtain ⟨T, ps, xs, ls, ns, hbu⟩ := HB.out
  obtain ⟨T1, hT1⟩ : ∃ T1, upd T g.val.heap.size 0 = T1 := ⟨_, rfl⟩
  have HB1 : Hid (Hl St w W1 T1 c m m cs cr As Ar ps ps xs ls ls ns) := by
    show Hl _ _ _ _ _ _ _ _ _ _ _ _ _ _ _ _ _
    rw [← hT1]
    exact Hl.up K ⟨g.ok, hbu.ss, hbu.sb, hbu.rb⟩ hB 0
  have HX1 : Hid (Bx W1 g.val.heap.size 0 ok Ai ol di on ow1 ow2 oa ob T1) := ⟨hblk, by rw [← hT1]; exact upd_new T (Nat.le_refl _)⟩
  clear hT1
  have HSU := Lib.hid (And.intro hbu.sum hbu.tot)
  have HLN : Hid (ps.length = m ∧ xs.length = m ∧ ls.length = m ∧ ns.length = m) := ⟨hbu.sb.lp, hbu.lxs, hbu.rb.ll, by rw [hbu.ss.ln, hbu.sb.lp]⟩
  have HBS := Lib.hid hB.size
  have E1 := Lib.hid hW1
  obtain ⟨x, hx⟩ : ∃ x, max 0 on = x := ⟨_, rfl⟩
  have x1 : (if (0 : Int) < on then on else 0) = x := by rw [← hx]; split <;> omega
  have x2 : (if (0 : Int) ≤ on then on else 0) = x := by rw [← hx]; split <;> omega
  have x3 : (if on < (0 : Int) then 0 else on) = x := by rw [← hx]; split <;> omega
  have x4 : (if on ≤ (0 : Int) then 0 else on) = x := by rw [← hx]; split <;> omega
  have hx0 : 0 ≤ x := by omega
  obtain ⟨kk, hkk⟩ : ∃ kk : Nat, min x (m : Int) = kk := ⟨(min x (m : Int)).toNat, by omega⟩
  have y1 : (if x < (m : Int) then x else (m : Int)) = kk := by rw [← hkk]; split <;> omega
  have y2 : (if x ≤ (m : Int) then x else (m : Int)) = kk := by rw [← hkk]; split <;> omega
  have y3 : (if (m : Int) < x then (m : Int) else x) = kk := by rw [← hkk]; split <;> omega
  have y4 : (if (m : Int) ≤ x then (m : Int) else x) = kk := by rw [← hkk]; split <;> omega
  have hkm : kk ≤ m := by omega
  obtain ⟨k0, k1, k2, k3, k4, k5, k6⟩ := hk ⟨W1, Below.refl _ _⟩
  simp only at k0 k1 k2 k3 k4 k5 k6
  clear hcell hk hW1 hB hblk hsl hOK hbu HB
  go_upto_region 7 with fail
  rw [E1.out]
  clear p0 p1 p2 p3 p4 p5 p6
  go_upto_region 11 with fail
  clear hx x1 x2 x3 x4 hx0 hkk y1 y2 y3 y4 k2
  have hmz : (m : Int) ≤ 20 := by omega
  have hm20 : m ≤ 20 := by omega
  have hmx : m + 1 ≤ maxLen := by unfold maxLen; omega
  have hby : (m + 1) * 8 ≤ 140737488355328 := by omega
  have hby2 : (m + 1) * 24 ≤ 140737488355328 := by omega
  have hwn : IntKind.i64.wrap ((most : Int) + (ol.length + 1)) = ((most + (ol.length + 1) : Nat) : Int) := by rw [IntKind.wrap_i64]; omega
  have hwl : IntKind.i64.wrap ((ol.length : Int) + 1) = (ol.length : Int) + 1 := by rw [IntKind.wrap_i64]; omega
  have e0 : ok = 0 := HKN.out
  subst e0
  have HR : Hid (∀ (G : Gr W1), Calls Try.prog 18 #[c, .slice Ai ol.length di] G.val fun e w' => ∃ p F, e = .returned p ∧ St w' c p (formL ol) (ol.length + 1) F ∧ (∀ b, F b → G.val.heap.size ≤ b) ∧ Below G.val.heap.size G.val w') := fun G =>
    K.row G.val c k C ol Ai di (by omega) HK64.out.l (HCT.out ⟨G.val, HBW.out.trans (G.ok.mono HBW.out.size)⟩) (HSL.out ⟨G.val, HBW.out.trans (G.ok.mono HBW.out.size)⟩)
  go_upto_region 12 with fail
  go_wp2_with fail
  go_at_call 18
  refine (HR.out ⟨W1, Below.refl _ _⟩).mono ?_
  rintro e w2 ⟨p, F, rfl, hst, hFn, hb2⟩
  obtain ⟨pa, rfl⟩ := K.ptr hst
  obtain ⟨T2, hT2⟩ : ∃ T2, upd T1 W1.heap.size (m + 3) = T2 := ⟨_, rfl⟩
  have HB2 : Hid (Hl St w w2 T2 c m m cs cr As Ar ps (ps ++ [.pointer pa]) xs (ls ++ [formL ol]) ls (ns ++ [ol.length + 1])) := by
    have h1 := HB1.out.up K hb2 (m + 3)
    rw [hT2] at h1
    refine ⟨h1.bel, h1.ss.push ?_, h1.sb, h1.rb⟩
    rw [HLN.out.1]
    exact K.mono hst (fun b hb => ⟨Nat.le_trans HBW.out.size (hFn b hb), K.lt hst b hb, by rw [← hT2]; exact upd_new T1 (hFn b hb)⟩) fun b hb => hb.2.1
  have HX2 : Hid (Bx w2 g.val.heap.size 0 0 Ai ol di on ow1 ow2 oa ob T2) := HX1.out.off (Off.of_below (F := fun _ => False) hb2) (fun _ _ => id) fun h1 h2 => by rw [← hT2, upd_old T1 h1]; exact h2
  clear hst hFn hb2 HR hT2 k0 k1 k3 k4 k5 k6
  go_upto_region 13 with (refine wpList_append_lies _ rfl _ _ _ (by rfl) w.heap.size 27 is0 _ 1 8 Try.underlying45 his0 hqs0 hqs1 hqs2 rfl (by decide) (.slice As m cs) m _ (by rfl) (own_off HB2.out.sb.own (F := fun _ => False) (.of_below ((Below.refl _ _).alloc (Nat.le_refl _) _)) (fun _ _ => id)) ⟨w2.heap.size, 0, none⟩ 1 1 [.pointer pa] (by rfl) (by rfl) (World.news_of_block (cs := #[.pointer pa]) (t := 27) (fr := (0, 0)) (heap_alloc_new _ _)) (by simp [Value.oneCell']) (Nat.lt_succ_self 0) hmx hby (by simp; have := HB2.out.bel.size; omega) _ rfl ?_; intro gs caps w3 hown3 hgr3 hat3 hlt3)
  obtain ⟨T3, hT3⟩ : ∃ T3, upd T2 w2.heap.size 1 = T3 := ⟨_, rfl⟩
  have hB3 := HB2.out.app_s K hown3 hgr3 hat3
  rw [hT3] at hB3
  have HB3 := Lib.hid hB3
  have HX3 : Hid (Bx w3 g.val.heap.size 0 0 Ai ol di on ow1 ow2 oa ob T3) := HX2.out.off (grown_off hgr3) (fun _ h2 q => by have := (own_tag HB2.out.sb.own HB2.out.sb.tag _ q).2.2; omega) fun h1 h2 => by rw [← hT3, upd_old T2 h1]; exact h2
  clear hown3 hgr3 hat3 hlt3 hT3 hB3
  obtain ⟨_, j1, _⟩ := HX3.out.cells (Below.refl _ _)
  have hal : Below w3.heap.size w3 (w3.alloc (.cells #[.slice Ai ol.length di] 28)) := (Below.refl _ _).alloc (Nat.le_refl _) _
  have HU := Lib.hid (runionN_any [ol] (some ⟨w3.heap.size, 0, none⟩) 1 (w3.alloc (.cells #[.slice Ai ol.length di] 28)) (by simp) (by rw [total_one]; omega) (ss_one (heap_alloc_new _ _) ((HSL.out ⟨w3, HB3.out.bel⟩).alloc _)))
  rw [union_one] at HU
  have HAL := Lib.hid hal
  clear hal
  go_wp2_with fail
  go_at_call 22
  refine HU.out.mono ?_
  rintro e w4 ⟨A4, d4, rfl, hs4, hn4, hb4⟩
  have hb34 : Below w3.heap.size w3 w4 := HAL.out.trans (hb4.mono HAL.out.size)
  obtain ⟨T4, hT4⟩ : ∃ T4, upd T3 w3.heap.size 0 = T4 := ⟨_, rfl⟩
  have hB4 := HB3.out.up K hb34 0
  rw [hT4] at hB4
  have HB4 := Lib.hid hB4
  have HX4 : Hid (Bx w4 g.val.heap.size 0 0 Ai ol di on ow1 ow2 oa ob T4) := HX3.out.off (Off.of_below (F := fun _ => False) hb34) (fun _ _ => id) fun h1 h2 => by rw [← hT4, upd_old T3 h1]; exact h2
  have HS4 : Hid (Sl w4 A4 (formL ol).length d4 (sv (formL ol)) ∧ (0 < (formL ol).length → ∀ a, A4 = some a → w.heap.size ≤ a.block ∧ T4 a.block = 0)) := ⟨hs4, fun _ a ha => by
    have h1 := hn4 a ha
    have h2 := HAL.out.size
    have h3 := HB3.out.bel.size
    exact ⟨by omega, by rw [← hT4]; exact upd_new T3 (by omega)⟩⟩
  have hfl := form_len ol
  have HLF := Lib.hid hfl
  clear hs4 hn4 hb4 hb34 hT4 hB4 HU HAL j1 hfl
  obtain ⟨fl, hfl⟩ : ∃ fl, formL ol = fl := ⟨_, rfl⟩
  rw [hfl] at HS4 HB4 HLF ⊢
  clear hfl
  go_upto_region 14 with (refine wpList_append_lies _ rfl _ _ _ (by rfl) w.heap.size 28 ir0 _ 1 24 Try.underlying44 hir0 hqr0 hqr1 hqr2 rfl (by decide) (.slice Ar m cr) m _ (by rfl) (own_off HB4.out.rb.own (F := fun _ => False) (.of_below ((Below.refl _ _).alloc (Nat.le_refl _) _)) (fun _ _ => id)) ⟨w4.heap.size, 0, none⟩ 1 1 [.slice A4 fl.length d4] (by rfl) (by rfl) (World.news_of_block (cs := #[.slice A4 fl.length d4]) (t := 28) (fr := (0, 0)) (heap_alloc_new _ _)) (by simp [Value.oneCell']) (Nat.lt_succ_self 0) hmx hby2 (by simp; have := HB4.out.bel.size; omega) _ rfl ?_; intro gr capr w5 hown5 hgr5 hat5 hlt5)
  have HB5 := Lib.hid (HB4.out.app_r K HS4.out.1 HS4.out.2 hown5 hgr5 hat5)
  have HX5 : Hid (Bx w5 g.val.heap.size 0 0 Ai ol di on ow1 ow2 oa ob (upd T4 w4.heap.size 2)) := HX4.out.off (grown_off hgr5) (fun _ h2 q => by have := (own_tag HB4.out.rb.own HB4.out.rb.tag _ q).2.2; omega) fun h1 h2 => by rw [upd_old T4 h1]; exact h2
  clear hown5 hgr5 hat5 hlt5
  obtain ⟨_, j1, _⟩ := HX5.out.cells (Below.refl _ _)
  go_wp2_with fail
  refine ⟨?_, ?measure⟩
  focus
    (repeat apply Exists.intro)
    refine ⟨?rel, rfl⟩
  case rel => exact ⟨i + 1, m + 1, most + (ol.length + 1), caps, capr, some ⟨gs, 0, none⟩, some ⟨gr, 0, none⟩, ⟨w5, HB5.out.bel⟩, rfl, by omega, by omega, by omega, by go_num, rfl, rfl, by first | rfl | go_num, HB5.out.bu (by have := HSU.out.1; simp; omega) (by have := HSU.out.2; have := HLF.out; rw [total_app, total_one]; omega)⟩
  case measure => simp [intOf]; omega
end Go.Proofs.Ytgmcacmdiiogmaa
end
