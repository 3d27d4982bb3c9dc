import Derived.Test.YtgmcacmdiiogmaaZCUBA
/- What the law of layer 14 makes of its operations: one kind of them. -/
section
namespace Go.Proofs.Ytgmcacmdiiogmaa
open Go.ChangeShapes Go.WideShapes Go.ChangeAt Go.RowKit Go.Joins Sp

set_option maxRecDepth 100000 in
set_option maxHeartbeats 60000000 in
theorem build_w3 {St : StP} {Ct : CtP} (K : CuK St Ct) {c : Value} {k : Nat} {C : Nat → Prop} {ops : List Op14} {A : Option Addr} {d : Nat} {w : World} (hn : ops.length ≤ 20) (hok : ∀ o ∈ ops, o.Ok ∧ o.l.length ≤ 12) (hc : Ct w c k C) (hops : OpsAt w A ops)
    {Ko : Act → World → Prop} {wr : World} {u7 u8 u9 u11 u12 u13 u16 u17 u18 u19 u20 u21 u22 u23 u24 u25 u26 u27 u28 u29 u30 u31 u32 u33 u34 u35 u36 u37 u38 u39 u40 u41 u42 u43 u44 u45 u46 u47 u48 u49 u50 u51 u52 u53 u54 u55 u56 u57 u58 u59 u60 u61 u62 u63 u64 u65 u66 u67 u68 u69 u70 u71 u72 u73 u74 u75 u76 u77 u78 u79 u80 u81 u82 u83 u84 u85 u86 u87 u88 u89 u90 u91 u92 u93 u94 u95 u96 u97 u98 u99 u100 u101 u102 u103 u104 u105 u106 u107 u108 u109 u110 u111 u112 u113 u114 u115 u116 u117 u118 u119 u120 u121 u122 u123 u124 u125 u126 u127 u128 u129 u130 u131 u132 u133 u134 u135 u136 u137 u138 u139 u140 u141 u142 u143 u144 u145 u146 u147 u148 u149 u150 u151 u152 u153 u154 u155 u156 u157 u158 u159 u160 u161 u162 u163 u164 u165 u166 u167 u168 u169 u170 u171 u172 u173 u174 u175 u176 u177 u178 u179 u180 u181 u182 u183 u184 u185 u186 u187 u188 u189 u190 u191 u192 u193 u194 u195 u196 u197 u198 u199 u200 u201 u202 u203 u204 u205 u206 u207 u208 u209 u210 : Value} (hrel : BuR St w c ops u7 u8 u9 u16 wr) {i : Nat} (h16 : u16 = .int .i64 i) (hlt : i < ops.length) {o : Op14} (ho : ops[i]? = some o) (hkn : o.k = 3) :
    Code.wp Try.prog (cLoop (cBlk (cSeq2 (cSeq1 (cSeq2 (cSeq2 (cSeq2 (cSeq2 (Try.f11.body.getD .skip))))))))) (Exit.then (fun (a' : Act) (w' : World) => (∃ (u7 u8 u9 u11 u12 u13 u16 u17 u18 u19 u20 u21 u22 u23 u24 u25 u26 u27 u28 u29 u30 u31 u32 u33 u34 u35 u36 u37 u38 u39 u40 u41 u42 u43 u44 u45 u46 u47 u48 u49 u50 u51 u52 u53 u54 u55 u56 u57 u58 u59 u60 u61 u62 u63 u64 u65 u66 u67 u68 u69 u70 u71 u72 u73 u74 u75 u76 u77 u78 u79 u80 u81 u82 u83 u84 u85 u86 u87 u88 u89 u90 u91 u92 u93 u94 u95 u96 u97 u98 u99 u100 u101 u102 u103 u104 u105 u106 u107 u108 u109 u110 u111 u112 u113 u114 u115 u116 u117 u118 u119 u120 u121 u122 u123 u124 u125 u126 u127 u128 u129 u130 u131 u132 u133 u134 u135 u136 u137 u138 u139 u140 u141 u142 u143 u144 u145 u146 u147 u148 u149 u150 u151 u152 u153 u154 u155 u156 u157 u158 u159 u160 u161 u162 u163 u164 u165 u166 u167 u168 u169 u170 u171 u172 u173 u174 u175 u176 u177 u178 u179 u180 u181 u182 u183 u184 u185 u186 u187 u188 u189 u190 u191 u192 u193 u194 u195 u196 u197 u198 u199 u200 u201 u202 u203 u204 u205 u206 u207 u208 u209 u210 : Value), BuR St w c ops u7 u8 u9 u16 w' ∧ a' = { tmps := #[c, .slice A ops.length d, undef, undef, .pointer none, .slice none 0 0, .int .i64 0, u7, u8, u9, undef, u11, u12, u13, .slice A ops.length d, .int .i64 (ops.length : Int), u16, u17, u18, u19, u20, u21, u22, u23, u24, u25, u26, u27, u28, u29, u30, u31, u32, u33, u34, u35, u36, u37, u38, u39, u40, u41, u42, u43, u44, u45, u46, u47, u48, u49, u50, u51, u52, u53, u54, u55, u56, u57, u58, u59, u60, u61, u62, u63, u64, u65, u66, u67, u68, u69, u70, u71, u72, u73, u74, u75, u76, u77, u78, u79, u80, u81, u82, u83, u84, u85, u86, u87, u88, u89, u90, u91, u92, u93, u94, u95, u96, u97, u98, u99, u100, u101, u102, u103, u104, u105, u106, u107, u108, u109, u110, u111, u112, u113, u114, u115, u116, u117, u118, u119, u120, u121, u122, u123, u124, u125, u126, u127, u128, u129, u130, u131, u132, u133, u134, u135, u136, u137, u138, u139, u140, u141, u142, u143, u144, u145, u146, u147, u148, u149, u150, u151, u152, u153, u154, u155, u156, u157, u158, u159, u160, u161, u162, u163, u164, u165, u166, u167, u168, u169, u170, u171, u172, u173, u174, u175, u176, u177, u178, u179, u180, u181, u182, u183, u184, u185, u186, u187, u188, u189, u190, u191, u192, u193, u194, u195, u196, u197, u198, u199, u200, u201, u202, u203, u204, u205, u206, u207, u208, u209, u210, undef, undef, undef, undef, undef, undef, undef, undef, undef, undef, undef, undef, undef, undef, undef, undef, undef], defers := [] }) ∧ ops.length - (intOf (a'.tmps.getD 16 undef)).toNat < ops.length - (intOf (#[c, .slice A ops.length d, undef, undef, .pointer none, .slice none 0 0, .int .i64 0, u7, u8, u9, undef, u11, u12, u13, .slice A ops.length d, .int .i64 (ops.length : Int), u16, u17, u18, u19, u20, u21, u22, u23, u24, u25, u26, u27, u28, u29, u30, u31, u32, u33, u34, u35, u36, u37, u38, u39, u40, u41, u42, u43, u44, u45, u46, u47, u48, u49, u50, u51, u52, u53, u54, u55, u56, u57, u58, u59, u60, u61, u62, u63, u64, u65, u66, u67, u68, u69, u70, u71, u72, u73, u74, u75, u76, u77, u78, u79, u80, u81, u82, u83, u84, u85, u86, u87, u88, u89, u90, u91, u92, u93, u94, u95, u96, u97, u98, u99, u100, u101, u102, u103, u104, u105, u106, u107, u108, u109, u110, u111, u112, u113, u114, u115, u116, u117, u118, u119, u120, u121, u122, u123, u124, u125, u126, u127, u128, u129, u130, u131, u132, u133, u134, u135, u136, u137, u138, u139, u140, u141, u142, u143, u144, u145, u146, u147, u148, u149, u150, u151, u152, u153, u154, u155, u156, u157, u158, u159, u160, u161, u162, u163, u164, u165, u166, u167, u168, u169, u170, u171, u172, u173, u174, u175, u176, u177, u178, u179, u180, u181, u182, u183, u184, u185, u186, u187, u188, u189, u190, u191, u192, u193, u194, u195, u196, u197, u198, u199, u200, u201, u202, u203, u204, u205, u206, u207, u208, u209, u210, undef, undef, undef, undef, undef, undef, undef, undef, undef, undef, undef, undef, undef, undef, undef, undef, undef].getD 16 undef)).toNat) (Exit.inBlock 0 (Exit.then Ko (bodyPost Try.prog Try.f11 (RetB St c w))))) { tmps := #[c, .slice A ops.length d, undef, undef, .pointer none, .slice none 0 0, .int .i64 0, u7, u8, u9, undef, u11, u12, u13, .slice A ops.length d, .int .i64 (ops.length : Int), u16, u17, u18, u19, u20, u21, u22, u23, u24, u25, u26, u27, u28, u29, u30, u31, u32, u33, u34, u35, u36, u37, u38, u39, u40, u41, u42, u43, u44, u45, u46, u47, u48, u49, u50, u51, u52, u53, u54, u55, u56, u57, u58, u59, u60, u61, u62, u63, u64, u65, u66, u67, u68, u69, u70, u71, u72, u73, u74, u75, u76, u77, u78, u79, u80, u81, u82, u83, u84, u85, u86, u87, u88, u89, u90, u91, u92, u93, u94, u95, u96, u97, u98, u99, u100, u101, u102, u103, u104, u105, u106, u107, u108, u109, u110, u111, u112, u113, u114, u115, u116, u117, u118, u119, u120, u121, u122, u123, u124, u125, u126, u127, u128, u129, u130, u131, u132, u133, u134, u135, u136, u137, u138, u139, u140, u141, u142, u143, u144, u145, u146, u147, u148, u149, u150, u151, u152, u153, u154, u155, u156, u157, u158, u159, u160, u161, u162, u163, u164, u165, u166, u167, u168, u169, u170, u171, u172, u173, u174, u175, u176, u177, u178, u179, u180, u181, u182, u183, u184, u185, u186, u187, u188, u189, u190, u191, u192, u193, u194, u195, u196, u197, u198, u199, u200, u201, u202, u203, u204, u205, u206, u207, u208, u209, u210, undef, undef, undef, undef, undef, undef, undef, undef, undef, undef, undef, undef, undef, undef, undef, undef, undef], defers := [] } wr := by
  conv =>
    arg 2
    simp only [Try.f11, Option.getD_some, cLoop, cBlk, cSeq1, cSeq2]
  obtain ⟨is0, his0, hqs0, hqs1, hqs2⟩ := info_parts ptr_info
  obtain ⟨ir0, hir0, hqr0, hqr1, hqr2⟩ := info_parts row_info
  have HOP := Lib.hid hops
  have HOK := Lib.hid hok
  have HCT : Hid (∀ g : Gr w, Ct g.val c k C) := fun g => K.coff hc (.of_below (F := fun _ => False) g.ok) fun _ _ => id
  have hnz : (ops.length : Int) ≤ 20 := by omega
  clear hops hok hc
  subst h16
  obtain ⟨i', m, most, cs, cr, As, Ar, g, rfl, hi, hmi, hmost, hii, rfl, rfl, rfl, HB⟩ := hrel
  obtain rfl : i = i' := by simp only [Value.int.injEq, true_and] at hii; omega
  clear hii
  have hiz : (i : Int) < ops.length := by omega
  have hw1 : IntKind.i64.wrap ((i : Int) + 1) = i + 1 := by rw [IntKind.wrap_i64]; omega
  obtain ⟨bo, offo, Ai, di, rfl, hsl, hcell⟩ := HOP.out.at_ ho
  obtain ⟨hOK, hlen⟩ := HOK.out o (List.mem_of_getElem? ho)
  obtain ⟨p0, p1, p2, p3, p4, p5, p6⟩ := hcell g
  have HSL : Hid (∀ g : Gr w, Sl g.val Ai o.l.length di (sv o.l)) := fun g => hsl.gr g
  obtain ⟨ok, ol, on, ow1, ow2, oa, ob⟩ := o
  simp only at p0 p1 p2 p3 p4 p5 p6 hlen HSL hkn
  have HKN := Lib.hid hkn
  clear hkn
  have HK64 := Lib.hid hOK
  obtain ⟨W1, hW1⟩ : ∃ W1, g.val.alloc (.cells #[.int .i64 ok, .slice Ai ol.length di, .int .i64 on, .int .i64 ow1, .int .i64 ow2, .int .i64 oa, .int .i64 ob] 53) = W1 := ⟨_, rfl⟩
  have hB : Below g.val.heap.size g.val W1 := by rw [← hW1]; exact (Below.refl _ _).alloc (Nat.le_refl _) _
  have hblk : W1.heap[g.val.heap.size]? = some (.cells #[.int .i64 ok, .slice Ai ol.length di, .int .i64 on, .int .i64 ow1, .int .i64 ow2, .int .i64 oa, .int .i64 ob] 53 (0, 0)) := by rw [← hW1]; exact heap_alloc_new _ _
  have hk : ∀ G : Gr W1, G.val.cell? ⟨g.val.heap.size, 0, none⟩ = some (.int .i64 ok) ∧ G.val.cell? ⟨g.val.heap.size, 1, none⟩ = some (.slice Ai ol.length di) ∧ G.val.cell? ⟨g.val.heap.size, 2, none⟩ = some (.int .i64 on) ∧ G.val.cell? ⟨g.val.heap.size, 3, none⟩ = some (.int .i64 ow1) ∧ G.val.cell? ⟨g.val.heap.size, 4, none⟩ = some (.int .i64 ow2) ∧ G.val.cell? ⟨g.val.heap.size, 5, none⟩ = some (.int .i64 oa) ∧ G.val.cell? ⟨g.val.heap.size, 6, none⟩ = some (.int .i64 ob) := fun G =>
    ⟨cell_old (blk_cell hblk rfl) G.ok, cell_old (blk_cell hblk rfl) G.ok, cell_old (blk_cell hblk rfl) G.ok, cell_old (blk_cell hblk rfl) G.ok, cell_old (blk_cell hblk rfl) G.ok, cell_old (blk_cell hblk rfl) G.ok, cell_old (blk_cell hblk rfl) G.ok⟩
  have HK := Lib.hid hk
  have HBW : Hid (Below w.heap.size w W1) := g.ok.trans (hB.mono g.size)
  obtain ⟨T, ps, xs, ls, ns, hbu⟩ := HB.out
  obtain ⟨T1, hT1⟩ : ∃ T1, upd T g.val.heap.size 0 = T1 := ⟨_, rfl⟩
  have HB1 : Hid (Hl St w W1 T1 c m m cs cr As Ar ps ps xs ls ls ns) := by
    show Hl _ _ _ _ _ _ _ _ _ _ _ _ _ _ _ _ _
    rw [← hT1]
    exact Hl.up K ⟨g.ok, hbu.ss, hbu.sb, hbu.rb⟩ hB 0
  have HX1 : Hid (Bx W1 g.val.heap.size 0 ok Ai ol di on ow1 ow2 oa ob T1) := ⟨hblk, by rw [← hT1]; exact upd_new T (Nat.le_refl _)⟩
  clear hT1
  have HSU := Lib.hid (And.intro hbu.sum hbu.tot)
  have HLN : Hid (ps.length = m ∧ xs.length = m ∧ ls.length = m ∧ ns.length = m) := ⟨hbu.sb.lp, hbu.lxs, hbu.rb.ll, by rw [hbu.ss.ln, hbu.sb.lp]⟩
  have HBS := Lib.hid hB.size
  have E1 := Lib.hid hW1
  obtain ⟨x, hx⟩ : ∃ x, max 0 on = x := ⟨_, rfl⟩
  have x1 : (if (0 : Int) < on then on else 0) = x := by rw [← hx]; split <;> omega
  have x2 : (if (0 : Int) ≤ on then on else 0) = x := by rw [← hx]; split <;> omega
  have x3 : (if on < (0 : Int) then 0 else on) = x := by rw [← hx]; split <;> omega
  have x4 : (if on ≤ (0 : Int) then 0 else on) = x := by rw [← hx]; split <;> omega
  have hx0 : 0 ≤ x := by omega
  obtain ⟨kk, hkk⟩ : ∃ kk : Nat, min x (m : Int) = kk := ⟨(min x (m : Int)).toNat, by omega⟩
  have y1 : (if x < (m : Int) then x else (m : Int)) = kk := by rw [← hkk]; split <;> omega
  have y2 : (if x ≤ (m : Int) then x else (m : Int)) = kk := by rw [← hkk]; split <;> omega
  have y3 : (if (m : Int) < x then (m : Int) else x) = kk := by rw [← hkk]; split <;> omega
  have y4 : (if (m : Int) ≤ x then (m : Int) else x) = kk := by rw [← hkk]; split <;> omega
  have hkm : kk ≤ m := by omega
  obtain ⟨k0, k1, k2, k3, k4, k5, k6⟩ := hk ⟨W1, Below.refl _ _⟩
  simp only at k0 k1 k2 k3 k4 k5 k6
  clear hcell hk hW1 hB hblk hsl hOK hbu HB
  go_upto_region 7 with fail
  rw [E1.out]
  clear p0 p1 p2 p3 p4 p5 p6
  go_upto_region 11 with fail
  clear hx x1 x2 x3 x4 hx0 hkk y1 y2 y3 y4 k2
  have hmz : (m : Int) ≤ 20 := by omega
  have hm20 : m ≤ 20 := by omega
  have e0 : ¬ ok = 0 := by have := HKN.out; omega
  have e1 : ¬ ok = 1 := by have := HKN.out; omega
  have e2 : ¬ ok = 2 := by have := HKN.out; omega
  have n0 : (ok == 0) = false := beq_false_of_ne e0
  have n1 : (ok == 1) = false := beq_false_of_ne e1
  have n2 : (ok == 2) = false := beq_false_of_ne e2
  by_cases em : m = 0
  · subst em
    go_wp2_with fail
    refine ⟨?_, ?measure⟩
    focus
      (repeat apply Exists.intro)
      refine ⟨?rel, rfl⟩
    case rel => exact ⟨i + 1, 0, most, cs, cr, As, Ar, ⟨W1, HBW.out⟩, rfl, by omega, by omega, by omega, by go_num, rfl, rfl, rfl, HB1.out.bu HSU.out.1 (by have := HSU.out.2; omega)⟩
    case measure => simp [intOf]; omega
  obtain ⟨j, rfl⟩ : ∃ j, m = j + 1 := ⟨m - 1, by omega⟩
  have hmb : ((j : Int) + 1 == 0) = false := beq_false_of_ne (by omega)
  have hwj : IntKind.i64.wrap ((j : Int) + 1 - 1) = (j : Int) := by rw [IntKind.wrap_i64]; omega
  have hjz : (j : Int) < (j : Int) + 1 := by omega
  have hj0 : (0 : Int) ≤ j := by omega
  have hwj2 : IntKind.i64.wrap (j : Int) = (j : Int) := by rw [IntKind.wrap_i64]; omega
  have hwj3 : IntKind.i64.wrap (((j + 1 : Nat) : Int) - 1) = (j : Int) := by rw [IntKind.wrap_i64]; omega
  have hjz2 : (j : Int) < ((j + 1 : Nat) : Int) := by omega
  obtain ⟨gsb, cs2, ea, hs1, hs2⟩ := HB1.out.sb.own.form (by omega)
  simp only [Value.slice.injEq, true_and] at ea
  obtain ⟨rfl, rfl⟩ := ea
  obtain ⟨grb, cr2, ea, hr1, hr2⟩ := HB1.out.rb.own.form (by omega)
  simp only [Value.slice.injEq, true_and] at ea
  obtain ⟨rfl, rfl⟩ := ea
  obtain ⟨L, hL⟩ : ∃ L, ls[j]? = some L := ⟨_, List.getElem?_eq_getElem (by rw [HLN.out.2.2.1]; omega)⟩
  obtain ⟨nn, hnn⟩ : ∃ nn, ns[j]? = some nn := ⟨_, List.getElem?_eq_getElem (by rw [HLN.out.2.2.2]; omega)⟩
  obtain ⟨pp, hpp⟩ : ∃ pp, ps[j]? = some pp := ⟨_, List.getElem?_eq_getElem (by rw [HLN.out.1]; omega)⟩
  obtain ⟨pa, rfl⟩ := K.ptr (HB1.out.ss.st j pp L nn hpp hL hnn)
  have HPJ := Lib.hid hpp
  have HIN := Lib.hid (K.in64 (HB1.out.ss.st j (.pointer pa) L nn hpp hL hnn)).form
  have HLJ : Hid (ls.length = j + 1 ∧ ls[j]? = some L ∧ ns[j]? = some nn ∧ total ls = total (ls.take j) + L.length ∧ ns.sum = (ns.take j).sum + nn ∧ L.length ≤ 260) := by
    have h1 := total_cut ls j
    have h2 := total_drop ls j L hL
    have h3 : total (ls.drop (j + 1)) = 0 := by rw [List.drop_of_length_le (by rw [HLN.out.2.2.1]; omega)]; rfl
    have h4 := sum_cut ns j
    have h5 : ns.drop j = [nn] := by
      have hlt := (List.getElem?_eq_some_iff.1 hnn).1
      rw [List.drop_eq_getElem_cons hlt, (List.getElem?_eq_some_iff.1 hnn).2, List.drop_of_length_le (by rw [HLN.out.2.2.2]; omega)]
    rw [h5] at h4
    have h6 := HSU.out.2
    exact ⟨HLN.out.2.2.1, hL, hnn, by omega, by simpa using h4.symm, by omega⟩
  clear hL hnn hpp hs1 hs2 hr1 hr2
  have e3 : ok = 3 := HKN.out
  have hk3 : (ok == 3) = true := by simpa using e3
  have HL0 : Hid (ls.length = j + 1 ∧ ls[j]? = some L ∧ ns[j]? = some nn ∧ total ls = total (ls.take j) + L.length ∧ ns.sum = (ns.take j).sum + nn ∧ L.length ≤ 260) := HLJ.out
  have HU : Hid (∀ V, Below W1.heap.size W1 V → Calls Try.prog 20 #[.pointer pa, .agg #[.int .i64 ow1, .int .i64 ow2]] V (StepS St w W1 T1 c (j + 1) (j + 1) cs cr (some ⟨gsb, 0, none⟩) (some ⟨grb, 0, none⟩) ps xs (ps.take j) (ls.take j ++ [gapsL L (ow1, ow2)]) ls (ns.take j ++ [nn]))) := fun V hV => HB1.out.gaps K HPJ.out HLJ.out.2.1 HLJ.out.2.2.1 hV HK64.out.w1 HK64.out.w2
  have HKV : Hid (∀ V, Below W1.heap.size W1 V → V.cell? ⟨gsb, j, none⟩ = some (.pointer pa) ∧ V.cell? ⟨g.val.heap.size, 3, none⟩ = some (.int .i64 ow1) ∧ V.cell? ⟨g.val.heap.size, 4, none⟩ = some (.int .i64 ow2) ∧ V.cell? ⟨g.val.heap.size, 5, none⟩ = some (.int .i64 oa) ∧ V.cell? ⟨g.val.heap.size, 6, none⟩ = some (.int .i64 ob)) := fun V hV => by
    obtain ⟨_, _, _, q3, q4, q5, q6⟩ := HX1.out.cells hV
    exact ⟨(own_at (HB1.out.up K hV 0).sb.own HPJ.out).1, q3, q4, q5, q6⟩
  go_upto_region 23 with fail
  clear k0 k1 k3 k4 k5 k6
  go_cut [16] from 16 to 210 (fun s16 wx => s16 = .int .i64 i ∧ Hid (∃ a T', Hl St w wx T' c (j + 1) (j + 1) cs cr (some ⟨gsb, 0, none⟩) (some ⟨grb, 0, none⟩) (ps.take j ++ [.pointer a]) (ps.take j ++ [.pointer a]) xs (ls.take j ++ [gapsL L (ow1, ow2)]) ls (ns.take j ++ [nn]) ∧ Bx wx g.val.heap.size 0 ok Ai ol di on ow1 ow2 oa ob T'))
  case first =>
    obtain ⟨a1, a2, a3, a4, a5⟩ := HKV.out W1 (Below.refl _ _)
    go_region_law ((go_simp; go_at_call 20; refine (HU.out W1.drew (drew_below W1)).mono ?_; rintro e w2 ⟨pb, T2, rfl, hb2, ht2, G2, ho2, hG2⟩; have hx2 := HX1.out.off ho2 (fun h1 h2 => hG2 _ h1 h2) (fun h1 h2 => ht2 _ h1 h2); obtain ⟨c2, f2⟩ := own_at hb2.sb.own HPJ.out; have HE2 := Lib.hid (And.intro hb2 hx2); clear hb2 ht2 ho2 hG2 hx2))
    all_goals
      go_wp2_with fail
      go_meet
      case rel => exact ⟨rfl, pb, T2, by
        have hb2 := HE2.out.1
        exact hb2.put_s K (.pointer pb), by
        have hx2 := HE2.out.2
        exact hx2.off ((Off.refl (fun b => b = gsb) w2).setCell (.inl rfl) _) (fun h1 h2 q => by have := (own_tag HE2.out.1.sb.own HE2.out.1.sb.tag gsb rfl).2.2; subst q; omega) fun _ q => q⟩
  case rest =>
  obtain ⟨rfl, HC⟩ := hcut
  obtain ⟨pb, T2, hb2, hx2⟩ := HC.out
  obtain ⟨A2, d2, hxj, hsl2, hA2⟩ := hb2.rb.at_ j L HLJ.out.2.1
  have HB2 := Lib.hid hb2
  have hul : (gapsL L (ow1, ow2)).length ≤ L.length + 1 := gaps_len L (ow1, ow2)
  have HR : Hid (Calls Try.prog 24 #[.slice A2 L.length d2, .agg #[.int .i64 ow1, .int .i64 ow2]] wc.drew (RetN (gapsL L (ow1, ow2)) wc.drew)) := rgapsN_any L (ow1, ow2) A2 d2 wc.drew (by have := HLJ.out.2.2.2.2.2; omega) (hsl2.below (drew_below wc) (Nat.le_refl _))
  obtain ⟨U, hU⟩ : ∃ U, gapsL L (ow1, ow2) = U := ⟨_, rfl⟩
  rw [hU] at HB2 HR hul
  have HUL := Lib.hid hul
  have HXJ := Lib.hid hxj
  obtain ⟨a1, f1⟩ := own_at hb2.rb.own hxj
  obtain ⟨_, _, _, a3, a4, a5, a6⟩ := hx2.cells (Below.refl _ _)
  clear hU hb2 hx2 HC HU hsl2 hA2 hul HKV
  go_upto_region 24 with fail
  go_region_law ((go_simp; go_at_call 24; refine HR.out.mono ?_; rintro e w4 ⟨A4, d4, rfl, hs4, hn4, hb4⟩; have h24 : Below wc.heap.size wc w4 := (drew_below wc).trans hb4; have h4 := HB2.out.up K h24 0; obtain ⟨c4, f4⟩ := own_at h4.rb.own HXJ.out; have hA4 : 0 < U.length → ∀ a, A4 = some a → w.heap.size ≤ a.block ∧ upd T2 wc.heap.size 0 a.block = 0 := (fun _ a ha => ⟨Nat.le_trans HB2.out.bel.size (hn4 a ha), upd_new T2 (hn4 a ha)⟩); have HE4 := Lib.hid (h4.put_r K hs4 hA4); clear hs4 hn4 hb4 h24 h4 hA4))
  all_goals
    go_wp2_with fail
    refine ⟨?_, ?measure⟩
    focus
      (repeat apply Exists.intro)
      refine ⟨?rel, rfl⟩
    case rel => exact ⟨i + 1, j + 1, most, cs, cr, some ⟨gsb, 0, none⟩, some ⟨grb, 0, none⟩, ⟨_, HE4.out.bel⟩, rfl, by omega, by omega, by omega, by go_num, by first | rfl | simp, by first | rfl | simp, rfl, HE4.out.bu (by have := HSU.out.1; have := HLJ.out.2.2.2.2.1; simp; omega) (by have := HSU.out.2; have := HLJ.out.2.2.2.1; have := HUL.out; rw [total_app, total_one]; omega)⟩
    case measure => simp [intOf]; omega
end Go.Proofs.Ytgmcacmdiiogmaa
end
