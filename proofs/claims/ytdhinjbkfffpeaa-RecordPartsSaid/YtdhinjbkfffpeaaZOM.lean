import Derived.Test.YtdhinjbkfffpeaaZOL
import Derived.Test.YtdhinjbkfffpeaaZOK
/- Contracts of the program's pass: requests: how they are told. -/
section
namespace Go.Proofs.Ytdhinjbkfffpeaa
open Go.ChangeShapes Go.WideShapes Go.ChangeAt Go.RowKit Go.Joins Sp Fr Pk
def akZ : Ak := noAk (0, 0, 0)
def akH (k : Int) (c n : Nat) : Ak := { noAk (k, c, n) with user := 0 }
theorem akc_info (r : Ak) (p : AkP) : (Try.prog.info? 48).map (·.size) = some (aCells r p).toArray.size := by kernel_rfl
theorem akc_info2 (r : Ak) (p : AkP) : (Try.prog.info? 48).map (·.size) = some (aCells r p).length := by kernel_rfl
theorem akc_one (r : Ak) (p : AkP) : (aCells r p).toArray.all (·.oneCell') = true := by simp [aCells, sCells, eCells, qCells, Value.oneCell']
theorem akc_settings (a : Ak) (p : AkP) (s : Stg) (q : StgP) : setAll (aCells a p).toArray 5 (sCells s q) = (aCells { a with settings := s } { p with s := q }).toArray :=
 setAll_part (sCells s q) [.int .i64 a.kind, .int .u32 (a.caller : Int), .int .u64 (a.number : Int), .int .u32 (a.user : Int), .int .u32 (a.id : Int)] (sCells a.settings p.s) _ rfl
theorem akc_event (a : Ak) (p : AkP) (s : Evt) (q : EvP) : setAll (aCells a p).toArray 11 (eCells s q) = (aCells { a with event := s } { p with e := q }).toArray := by
 have := setAll_part (eCells s q) ([.int .i64 a.kind, .int .u32 (a.caller : Int), .int .u64 (a.number : Int), .int .u32 (a.user : Int), .int .u32 (a.id : Int)] ++ sCells a.settings p.s) (eCells a.event p.e) (qCells a.query p.q ++ [.string ⟨a.cursor.toArray⟩, .int .i64 a.count, .int .u32 (a.poll : Int), .int .i64 a.slot, .bool a.yes, .int .i64 a.until_]) rfl
 rw [List.append_assoc, List.append_assoc] at this
 exact this
theorem akc_query (a : Ak) (p : AkP) (s : Qy) (q : QyP) : setAll (aCells a p).toArray 27 (qCells s q) = (aCells { a with query := s } { p with q := q }).toArray := by
 have := setAll_part (qCells s q) ([.int .i64 a.kind, .int .u32 (a.caller : Int), .int .u64 (a.number : Int), .int .u32 (a.user : Int), .int .u32 (a.id : Int)] ++ (sCells a.settings p.s ++ eCells a.event p.e)) (qCells a.query p.q) [.string ⟨a.cursor.toArray⟩, .int .i64 a.count, .int .u32 (a.poll : Int), .int .i64 a.slot, .bool a.yes, .int .i64 a.until_] rfl
 rw [List.append_assoc, List.append_assoc, List.append_assoc, List.append_assoc] at this
 exact this
theorem wp_alloc {P : Program} {o : Oper} {a : Act} {w : World} {K : Act → World → Prop} {Q : Exit → Act → World → Prop} {t : TypeId} {c : Array Value} (ho : o.op = .alloc t)
  (hl : (Instr.alloc t true (.tuple #[])).run P w = .ok (.pointer (some ⟨w.heap.size, 0, none⟩)) (w.alloc (.cells c t))) (h : K (a.put o.dst (.pointer (some ⟨w.heap.size, 0, none⟩))) (w.alloc (.cells c t))) : Oper.wp P o a w K Q := by
 have he : (execOp a.eval o).run P w = .ok (.value (.pointer (some ⟨w.heap.size, 0, none⟩))) (w.alloc (.cells c t)) := by
  unfold execOp
  rw [ho]
  simp [hl]
 unfold Oper.wp
 rw [he]
 exact h
theorem exec_build {P : Program} {o : Oper} {a : Act} {w : World} {t : TypeId} {ps : Array (Nat × Operand)} {v : Value} (ho : o.op = .build t ps) (hl : (Instr.build t (ps.map fun (i, x) => (i, a.eval x))).run P w = .ok v w) : (execOp a.eval o).run P w = .ok (.value v) w := by
 unfold execOp
 rw [ho]
 simp [hl]
def akTail (x : Ak) : Nat := cdStg.cost x.settings + (cdEv.cost x.event + (cdQy.cost x.query + (x.cursor.length + 100)))
def cdAkH : Cd (Int × Nat × Nat) := (cdInt 11).pair ((cdNum 4294967295).pair (cdNum 18446744073709551615))
def cdAkB (h : Int × Nat × Nat) : Cd Ak := ⟨Ak.bodyT, fun a => (a.kind, a.caller, a.number) = h ∧ (1 ≤ a.kind ∧ a.kind ≤ 11) ∧ a.named = a ∧ a.bodyO, rdAkB h, akTail, (cod_akb h).bad⟩
def cdAk : Cd Ak := ⟨Ak.T, Ak.O, rdAk, fun x => 30 + akTail x, cod_ak.bad⟩
theorem dn_ak {x y : Ak} {m m1 m2 : Md} {b b1 b2 : Bool} {h : Int × Nat × Nat} (h1 : Dn cdAkH (x.kind, x.caller, x.number) m b h m1 b1) (h2 : Dn (cdAkB h) x m1 b1 y m2 b2) : Dn cdAk x m b y m2 b2 :=
 h1.two (d := cdAkB) (D := cdAk) h2 (fun _ e => e) (by show (10 + (10 + 10)) + akTail x ≤ 30 + akTail x; omega) (fun o => ⟨⟨⟨by have := o.2.1.1; show (0 : Int) ≤ x.kind; omega, o.2.1.2⟩, u32_le.1 o.1.1, u64_le.1 o.1.2⟩, ⟨rfl, o.2.1, o.2.2⟩, rfl⟩) (fun _ => rfl) rfl (fun r => by rw [show cdAkH.rd = rdAkH from rfl]; rfl)
theorem dn_ak1 {x : Ak} {c n : Nat} {t : _} {m m1 : Md} {b b1 : Bool} (h : Dn cdStg x.settings m b t m1 b1) : Dn (cdAkB (1, c, n)) x m b (mkAk1 (1, c, n) t) m1 b1 := by
 refine h.conv (fun t => mkAk1 (1, c, n) t) (by show cdStg.cost x.settings ≤ akTail x; unfold akTail; omega) (fun o => ?_) (fun o => ?_) rfl (fun _ => rfl)
 ·obtain ⟨q1, _, q3, q4⟩ := o
  obtain ⟨a1, a2, a3, a4, a5, a6, a7, a8, a9, a10, a11, a12, a13, a14⟩ := x
  simp only [Prod.mk.injEq] at q1
  obtain ⟨rfl, rfl, rfl⟩ := q1
  exact ⟨q4, q3⟩
 ·obtain ⟨q1, _, q3, q4⟩ := o
  obtain ⟨a1, a2, a3, a4, a5, a6, a7, a8, a9, a10, a11, a12, a13, a14⟩ := x
  simp only [Prod.mk.injEq] at q1
  obtain ⟨rfl, rfl, rfl⟩ := q1
  rfl
theorem dn_ak3 {x : Ak} {c n : Nat} {t : _} {m m1 : Md} {b b1 : Bool} (h : Dn ((cdNum 4294967295).pair cdEv) (x.id, x.event) m b t m1 b1) : Dn (cdAkB (3, c, n)) x m b (mkAk3 (3, c, n) t) m1 b1 := by
 refine h.conv (fun t => mkAk3 (3, c, n) t) (by show 10 + (cdEv.cost x.event) ≤ akTail x; unfold akTail; omega) (fun o => ?_) (fun o => ?_) rfl (fun _ => rfl)
 ·obtain ⟨q1, _, q3, q4⟩ := o
  obtain ⟨a1, a2, a3, a4, a5, a6, a7, a8, a9, a10, a11, a12, a13, a14⟩ := x
  simp only [Prod.mk.injEq] at q1
  obtain ⟨rfl, rfl, rfl⟩ := q1
  exact ⟨⟨u32_le.1 (show U32 _ ∧ _ from q4).1, (show U32 _ ∧ _ from q4).2⟩, q3⟩
 ·obtain ⟨q1, _, q3, q4⟩ := o
  obtain ⟨a1, a2, a3, a4, a5, a6, a7, a8, a9, a10, a11, a12, a13, a14⟩ := x
  simp only [Prod.mk.injEq] at q1
  obtain ⟨rfl, rfl, rfl⟩ := q1
  rfl
theorem dn_ak4 {x : Ak} {c n : Nat} {t : _} {m m1 : Md} {b b1 : Bool} (h : Dn (cdNum 4294967295) x.id m b t m1 b1) : Dn (cdAkB (4, c, n)) x m b (mkAk4 (4, c, n) t) m1 b1 := by
 refine h.conv (fun t => mkAk4 (4, c, n) t) (by show 10 ≤ akTail x; unfold akTail; omega) (fun o => ?_) (fun o => ?_) rfl (fun _ => rfl)
 ·obtain ⟨q1, _, q3, q4⟩ := o
  obtain ⟨a1, a2, a3, a4, a5, a6, a7, a8, a9, a10, a11, a12, a13, a14⟩ := x
  simp only [Prod.mk.injEq] at q1
  obtain ⟨rfl, rfl, rfl⟩ := q1
  exact ⟨u32_le.1 (show U32 _ from q4), q3⟩
 ·obtain ⟨q1, _, q3, q4⟩ := o
  obtain ⟨a1, a2, a3, a4, a5, a6, a7, a8, a9, a10, a11, a12, a13, a14⟩ := x
  simp only [Prod.mk.injEq] at q1
  obtain ⟨rfl, rfl, rfl⟩ := q1
  rfl
theorem dn_ak5 {x : Ak} {c n : Nat} {t : _} {m m1 : Md} {b b1 : Bool} (h : Dn (cdQy.pair ((cdText 64).pair (cdInt 100))) (x.query, x.cursor, x.count) m b t m1 b1) : Dn (cdAkB (5, c, n)) x m b (mkAk5 (5, c, n) t) m1 b1 := by
 refine h.conv (fun t => mkAk5 (5, c, n) t) (by show cdQy.cost x.query + ((x.cursor.length + 10) + (10)) ≤ akTail x; unfold akTail; omega) (fun o => ?_) (fun o => ?_) rfl (fun _ => rfl)
 ·obtain ⟨q1, _, q3, q4⟩ := o
  obtain ⟨a1, a2, a3, a4, a5, a6, a7, a8, a9, a10, a11, a12, a13, a14⟩ := x
  simp only [Prod.mk.injEq] at q1
  obtain ⟨rfl, rfl, rfl⟩ := q1
  exact ⟨q4, q3⟩
 ·obtain ⟨q1, _, q3, q4⟩ := o
  obtain ⟨a1, a2, a3, a4, a5, a6, a7, a8, a9, a10, a11, a12, a13, a14⟩ := x
  simp only [Prod.mk.injEq] at q1
  obtain ⟨rfl, rfl, rfl⟩ := q1
  rfl
theorem dn_ak6 {x : Ak} {c n : Nat} {t : _} {m m1 : Md} {b b1 : Bool} (h : Dn ((cdNum 4294967295).pair (cdQy.pair ((cdInt 100).pair cdSig))) (x.poll, x.query, x.count, x.until_) m b t m1 b1) : Dn (cdAkB (6, c, n)) x m b (mkAk6 (6, c, n) t) m1 b1 := by
 refine h.conv (fun t => mkAk6 (6, c, n) t) (by show 10 + (cdQy.cost x.query + (10 + (10))) ≤ akTail x; unfold akTail; omega) (fun o => ?_) (fun o => ?_) rfl (fun _ => rfl)
 ·obtain ⟨q1, _, q3, q4⟩ := o
  obtain ⟨a1, a2, a3, a4, a5, a6, a7, a8, a9, a10, a11, a12, a13, a14⟩ := x
  simp only [Prod.mk.injEq] at q1
  obtain ⟨rfl, rfl, rfl⟩ := q1
  exact ⟨⟨u32_le.1 (show U32 _ ∧ _ from q4).1, (show U32 _ ∧ _ from q4).2⟩, q3⟩
 ·obtain ⟨q1, _, q3, q4⟩ := o
  obtain ⟨a1, a2, a3, a4, a5, a6, a7, a8, a9, a10, a11, a12, a13, a14⟩ := x
  simp only [Prod.mk.injEq] at q1
  obtain ⟨rfl, rfl, rfl⟩ := q1
  rfl
theorem dn_ak7 {x : Ak} {c n : Nat} {t : _} {m m1 : Md} {b b1 : Bool} (h : Dn ((cdNum 4294967295).pair ((cdInt 40).pair cdFlag)) (x.poll, x.slot, x.yes) m b t m1 b1) : Dn (cdAkB (7, c, n)) x m b (mkAk7 (7, c, n) t) m1 b1 := by
 refine h.conv (fun t => mkAk7 (7, c, n) t) (by show 10 + (10 + (10)) ≤ akTail x; unfold akTail; omega) (fun o => ?_) (fun o => ?_) rfl (fun _ => rfl)
 ·obtain ⟨q1, _, q3, q4⟩ := o
  obtain ⟨a1, a2, a3, a4, a5, a6, a7, a8, a9, a10, a11, a12, a13, a14⟩ := x
  simp only [Prod.mk.injEq] at q1
  obtain ⟨rfl, rfl, rfl⟩ := q1
  exact ⟨⟨u32_le.1 (show U32 _ ∧ _ from q4).1, (show U32 _ ∧ _ from q4).2⟩, q3⟩
 ·obtain ⟨q1, _, q3, q4⟩ := o
  obtain ⟨a1, a2, a3, a4, a5, a6, a7, a8, a9, a10, a11, a12, a13, a14⟩ := x
  simp only [Prod.mk.injEq] at q1
  obtain ⟨rfl, rfl, rfl⟩ := q1
  rfl
theorem dn_ak8 {x : Ak} {c n : Nat} {t : _} {m m1 : Md} {b b1 : Bool} (h : Dn (cdNum 4294967295) x.poll m b t m1 b1) : Dn (cdAkB (8, c, n)) x m b (mkAk8 (8, c, n) t) m1 b1 := by
 refine h.conv (fun t => mkAk8 (8, c, n) t) (by show 10 ≤ akTail x; unfold akTail; omega) (fun o => ?_) (fun o => ?_) rfl (fun _ => rfl)
 ·obtain ⟨q1, _, q3, q4⟩ := o
  obtain ⟨a1, a2, a3, a4, a5, a6, a7, a8, a9, a10, a11, a12, a13, a14⟩ := x
  simp only [Prod.mk.injEq] at q1
  obtain ⟨rfl, rfl, rfl⟩ := q1
  exact ⟨u32_le.1 (show U32 _ from q4), q3⟩
 ·obtain ⟨q1, _, q3, q4⟩ := o
  obtain ⟨a1, a2, a3, a4, a5, a6, a7, a8, a9, a10, a11, a12, a13, a14⟩ := x
  simp only [Prod.mk.injEq] at q1
  obtain ⟨rfl, rfl, rfl⟩ := q1
  rfl
theorem dn_ak10 {x : Ak} {c n : Nat} {t : _} {m m1 : Md} {b b1 : Bool} (h : Dn (cdNum 4294967295) x.poll m b t m1 b1) : Dn (cdAkB (10, c, n)) x m b (mkAk10 (10, c, n) t) m1 b1 := by
 refine h.conv (fun t => mkAk10 (10, c, n) t) (by show 10 ≤ akTail x; unfold akTail; omega) (fun o => ?_) (fun o => ?_) rfl (fun _ => rfl)
 ·obtain ⟨q1, _, q3, q4⟩ := o
  obtain ⟨a1, a2, a3, a4, a5, a6, a7, a8, a9, a10, a11, a12, a13, a14⟩ := x
  simp only [Prod.mk.injEq] at q1
  obtain ⟨rfl, rfl, rfl⟩ := q1
  exact ⟨u32_le.1 (show U32 _ from q4), q3⟩
 ·obtain ⟨q1, _, q3, q4⟩ := o
  obtain ⟨a1, a2, a3, a4, a5, a6, a7, a8, a9, a10, a11, a12, a13, a14⟩ := x
  simp only [Prod.mk.injEq] at q1
  obtain ⟨rfl, rfl, rfl⟩ := q1
  rfl
theorem dn_ak9 {x : Ak} {c n : Nat} {t : _} {m m1 : Md} {b b1 : Bool} (h : Dn ((cdNum 4294967295).pair (cdNum 4294967295)) (x.poll, x.id) m b t m1 b1) : Dn (cdAkB (9, c, n)) x m b (mkAk9 (9, c, n) t) m1 b1 := by
 refine h.conv (fun t => mkAk9 (9, c, n) t) (by show 10 + (10) ≤ akTail x; unfold akTail; omega) (fun o => ?_) (fun o => ?_) rfl (fun _ => rfl)
 ·obtain ⟨q1, _, q3, q4⟩ := o
  obtain ⟨a1, a2, a3, a4, a5, a6, a7, a8, a9, a10, a11, a12, a13, a14⟩ := x
  simp only [Prod.mk.injEq] at q1
  obtain ⟨rfl, rfl, rfl⟩ := q1
  exact ⟨⟨u32_le.1 (show U32 _ ∧ U32 _ from q4).1, u32_le.1 (show U32 _ ∧ U32 _ from q4).2⟩, q3⟩
 ·obtain ⟨q1, _, q3, q4⟩ := o
  obtain ⟨a1, a2, a3, a4, a5, a6, a7, a8, a9, a10, a11, a12, a13, a14⟩ := x
  simp only [Prod.mk.injEq] at q1
  obtain ⟨rfl, rfl, rfl⟩ := q1
  rfl
theorem dn_ak11 {x : Ak} {c n : Nat} {t : _} {m m1 : Md} {b b1 : Bool} (h : Dn cdSig x.until_ m b t m1 b1) : Dn (cdAkB (11, c, n)) x m b (mkAk11 (11, c, n) t) m1 b1 := by
 refine h.conv (fun t => mkAk11 (11, c, n) t) (by show 10 ≤ akTail x; unfold akTail; omega) (fun o => ?_) (fun o => ?_) rfl (fun _ => rfl)
 ·obtain ⟨q1, _, q3, q4⟩ := o
  obtain ⟨a1, a2, a3, a4, a5, a6, a7, a8, a9, a10, a11, a12, a13, a14⟩ := x
  simp only [Prod.mk.injEq] at q1
  obtain ⟨rfl, rfl, rfl⟩ := q1
  exact ⟨q4, q3⟩
 ·obtain ⟨q1, _, q3, q4⟩ := o
  obtain ⟨a1, a2, a3, a4, a5, a6, a7, a8, a9, a10, a11, a12, a13, a14⟩ := x
  simp only [Prod.mk.injEq] at q1
  obtain ⟨rfl, rfl, rfl⟩ := q1
  rfl
theorem dn_ak2 {x : Ak} {c n : Nat} {m : Md} {b : Bool} : Dn (cdAkB (2, c, n)) x m b (noAk (2, c, n)) m b := by
 refine (Dn.unit m b).conv (fun t => mkAk2 (2, c, n) t) (Nat.zero_le _) (fun o => ?_) (fun o => ?_) rfl (fun _ => rfl)
 ·obtain ⟨q1, _, q3, q4⟩ := o
  obtain ⟨a1, a2, a3, a4, a5, a6, a7, a8, a9, a10, a11, a12, a13, a14⟩ := x
  simp only [Prod.mk.injEq] at q1
  obtain ⟨rfl, rfl, rfl⟩ := q1
  exact ⟨trivial, q3⟩
 ·obtain ⟨q1, _, q3, q4⟩ := o
  obtain ⟨a1, a2, a3, a4, a5, a6, a7, a8, a9, a10, a11, a12, a13, a14⟩ := x
  simp only [Prod.mk.injEq] at q1
  obtain ⟨rfl, rfl, rfl⟩ := q1
  rfl
theorem dn_akN {x y : Ak} {k : Int} {c n : Nat} {m : Md} {b : Bool} (hk : ¬ (1 ≤ k ∧ k ≤ 11)) : Dn (cdAkB (k, c, n)) x m b y m true := by
 cases m with
 | wr l => exact ⟨[], by simp, Nat.zero_le _, fun o => by
   obtain ⟨q1, q2, _⟩ := o
   simp only [Prod.mk.injEq] at q1
   exact absurd (by rw [← q1.1]; exact q2) hk⟩
 | rd r =>
  refine ⟨r, rfl, ?_, fun h => absurd rfl h⟩
  show none = (rdAkB (k, c, n) _).2
  unfold rdAkB
  simp only
  rw [if_neg (by omega), if_neg (by omega), if_neg (by omega), if_neg (by omega), if_neg (by omega), if_neg (by omega), if_neg (by omega), if_neg (by omega), if_neg (by omega), if_neg (by omega), if_neg (by omega)]
end Go.Proofs.Ytdhinjbkfffpeaa
end
section
namespace Go.Proofs.Ytdhinjbkfffpeaa
open Go.ChangeShapes Go.WideShapes Go.ChangeAt Go.RowKit Go.Joins Sp Fr Pk
set_option maxRecDepth 100000 in
set_option maxHeartbeats 4000000 in
theorem pask_any (P : Nat) (x : Ak) (p : AkP) (hx : x.Fits) (m : Md) (b : Bool) (F : Nat → Prop) (w : World) (h : PsAt w P m b F) (hr : m.Room (cdAk.cost x)) (hz : m.Rd → x = noAk (0, 0, 0)) (hm : Held F w (fun V => AkAt V x p)) :
  Calls Try.prog 13 #[.pointer (some ⟨P, 0, none⟩), .agg (aCells x p).toArray] w (Told (fun (y : Ak) (q : AkP) => .agg (aCells y q).toArray) AkAt cdAk x P m b F w) := by
 obtain ⟨W1, hW1⟩ : ∃ W1, ((w.alloc (.cells (aCells x p).toArray 48)).alloc (.cells #[.int .i64 0, .int .u32 0, .int .u64 0, .int .u32 0, .int .u32 0, .int .i64 0, .slice none 0 0, .slice none 0 0, .slice none 0 0, .int .i64 0, .int .i64 0, .int .i64 0, .int .i64 0, .bool false, .bool false, .int .i64 0, .int .i64 0, .int .i64 0, .int .i64 0, .slice none 0 0, .slice none 0 0, .slice none 0 0, .slice none 0 0, .int .i64 0, .slice none 0 0, .slice none 0 0, .slice none 0 0, .int .i64 0, .int .i64 0, .int .i64 0, .int .i64 0, .slice none 0 0, .slice none 0 0, .int .i64 0, .slice none 0 0, .slice none 0 0, .string ⟨#[]⟩, .int .i64 0, .int .u32 0, .int .i64 0, .bool false, .int .i64 0] 48)) = W1 := ⟨_, rfl⟩
 have HB : Hid (Below w.heap.size w W1) := by show Below _ _ _; rw [← hW1]; exact ((Below.refl _ _).alloc (Nat.le_refl _) _).alloc (by simp) _
 have hb1 : W1.heap[w.heap.size]? = some (.cells (aCells x p).toArray 48 (0, 0)) := by rw [← hW1, heap_alloc_old _ _ (by simp), heap_alloc_new]
 have hb2 : W1.heap[w.heap.size + 1]? = some (.cells (aCells akZ noAkP).toArray 48 (0, 0)) := by rw [← hW1]; exact heap_alloc_new2 _ _ _
 have n1 : ¬ F w.heap.size := h.not (by omega)
 have n2 : ¬ F (w.heap.size + 1) := h.not (by omega)
 have HN2 : Hid (¬ F (w.heap.size + 1) ∧ w.heap.size + 1 < W1.heap.size) := ⟨n2, heap_lt hb2⟩
 have E1 := Lib.hid hW1
 obtain ⟨XB, hXB⟩ : ∃ X : World → Prop, X = fun V => V.heap[w.heap.size]? = some (.cells (aCells x p).toArray 48 (0, 0)) := ⟨_, rfl⟩
 obtain ⟨X, hX⟩ : ∃ X : World → Prop, X = fun V => (XB V ∧ V.heap[w.heap.size + 1]? = some (.cells (aCells akZ noAkP).toArray 48 (0, 0))) ∧ AkAt V x p := ⟨_, rfl⟩
 have HXV : Hid (∀ V, XB V → V.heap[w.heap.size]? = some (.cells (aCells x p).toArray 48 (0, 0))) := fun V hV => by rw [hXB] at hV; exact hV
 have HZL : Hid (∀ V, XB V → V.cell? ⟨w.heap.size, 0, none⟩ = some (.int .i64 x.kind) ∧ V.cell? ⟨w.heap.size, 1, none⟩ = some (.int .u32 (x.caller : Int)) ∧ V.cell? ⟨w.heap.size, 2, none⟩ = some (.int .u64 (x.number : Int))) := fun V hV => by
  have hV := HXV.out V hV
  exact ⟨blk_cell hV rfl, blk_cell hV rfl, blk_cell hV rfl⟩
 have HXB : Hid (∀ V, X V → XB V) := fun V hV => by rw [hX] at hV; exact hV.1.1
 have HXR : Hid (∀ V, X V → V.heap[w.heap.size + 1]? = some (.cells (aCells akZ noAkP).toArray 48 (0, 0))) := fun V hV => by rw [hX] at hV; exact hV.1.2
 have HXM : Hid (∀ V, X V → AkAt V x p) := fun V hV => by rw [hX] at hV; exact hV.2
 have HXA : Hid (∀ V o, XB V → XB (V.alloc o)) := fun V o hV => by
  rw [hXB] at hV ⊢
  show (V.alloc o).heap[w.heap.size]? = _
  rw [heap_alloc_old _ _ (heap_lt hV)]; exact hV
 have HXD : Hid (∀ V, XB V → XB V.drew) := fun V hV => by rw [hXB] at hV ⊢; exact hV
 have HXS : Hid (∀ V C o vs, w.heap.size ≠ C → XB V → XB (V.setCells C o vs)) := fun V C o vs hne hV => by
  rw [hXB] at hV ⊢
  show (V.setCells C o vs).heap[w.heap.size]? = _
  rw [setCells_ne hne]; exact hV
 have HXH : Hid (Held F W1 X) := by show Held _ _ _; rw [hX, hXB]; exact ((Held.blk hb1 n1).and (Held.blk hb2 n2)).and (hm.below HB.out)
 have HS0 : Hid (St W1 W1.drew P m b F F X (fun _ => True)) := (St.start (h.below HB.out) HXH.out).drew
 have HR0 : Hid (m.Room ((cdInt 11).cost x.kind + ((cdNum 4294967295).cost x.caller + ((cdNum 18446744073709551615).cost x.number + akTail x)))) := hr.mono (by show 10 + (10 + (10 + akTail x)) ≤ 30 + akTail x; omega)
 have HM0 : Hid (m.Rd → m.Rd) := id
 have HZ := Lib.hid hz
 have HXF := Lib.hid hx
 have HC0 := Lib.hid (fun mx bx Fx wx h hr => pnumberI_any P x.kind 11 (by decide) hx.kind mx bx Fx wx h hr)
 have HC1 := Lib.hid (fun mx bx Fx wx h hr => pid_any P x.caller hx.caller mx bx Fx wx h hr)
 have HC2 := Lib.hid (fun mx bx Fx wx h hr => panyNumber_any P x.number hx.number mx bx Fx wx h hr)
 clear hW1 hX hXB hb1 hb2 n1 n2 h hr hz hm hx
 go_enter Try.func13, Try.ntmps13
 go_upto_region 1 with fail
 rw [E1.out]
 generalize (Value.agg (aCells x p).toArray) = va
 go_cut [5] from 6 to 138 (fun s5 wx => ∃ (C : Nat) (y0 : Int) (y1 y2 : Nat) (m2 : Md) (b2 : Bool) (F2 : Nat → Prop), s5 = .pointer (some ⟨C, 0, none⟩) ∧ Hid (Hd W1 wx P m2 b2 F F2 C (aCells (akH y0 y1 y2) noAkP).toArray 48) ∧ Hid (Dn cdAkH (x.kind, x.caller, x.number) m b (y0, y1, y2) m2 b2))
 case first =>
  refine wp_region_lexF XB (fun k => [3, 7, 11, 14].contains k) 13 50 [0, 1, 2, 4, 5, 6, 8, 9, 10, 3, 7, 11, 12, 13, 14] rfl (by kernel_rfl) (by kernel_rfl) (by kernel_rfl) (fun _ _ _ _ _ h => h) (HXB.out _ HS0.out.now) (fun OPS hOPS => ?_)
  generalize World.drew W1 = w0 at *
  have hk0 := congrArg (fun x => x[0]?) hOPS
  simp only [List.getElem?_toArray, List.getElem?_cons_zero, List.getElem?_cons_succ] at hk0
  have hk1 := congrArg (fun x => x[1]?) hOPS
  simp only [List.getElem?_toArray, List.getElem?_cons_zero, List.getElem?_cons_succ] at hk1
  have hk2 := congrArg (fun x => x[2]?) hOPS
  simp only [List.getElem?_toArray, List.getElem?_cons_zero, List.getElem?_cons_succ] at hk2
  have hk3 := congrArg (fun x => x[3]?) hOPS
  simp only [List.getElem?_toArray, List.getElem?_cons_zero, List.getElem?_cons_succ] at hk3
  have hk4 := congrArg (fun x => x[4]?) hOPS
  simp only [List.getElem?_toArray, List.getElem?_cons_zero, List.getElem?_cons_succ] at hk4
  have hk5 := congrArg (fun x => x[5]?) hOPS
  simp only [List.getElem?_toArray, List.getElem?_cons_zero, List.getElem?_cons_succ] at hk5
  have hk6 := congrArg (fun x => x[6]?) hOPS
  simp only [List.getElem?_toArray, List.getElem?_cons_zero, List.getElem?_cons_succ] at hk6
  have hk7 := congrArg (fun x => x[7]?) hOPS
  simp only [List.getElem?_toArray, List.getElem?_cons_zero, List.getElem?_cons_succ] at hk7
  have hk8 := congrArg (fun x => x[8]?) hOPS
  simp only [List.getElem?_toArray, List.getElem?_cons_zero, List.getElem?_cons_succ] at hk8
  have hk9 := congrArg (fun x => x[9]?) hOPS
  simp only [List.getElem?_toArray, List.getElem?_cons_zero, List.getElem?_cons_succ] at hk9
  have hk10 := congrArg (fun x => x[10]?) hOPS
  simp only [List.getElem?_toArray, List.getElem?_cons_zero, List.getElem?_cons_succ] at hk10
  have hk11 := congrArg (fun x => x[11]?) hOPS
  simp only [List.getElem?_toArray, List.getElem?_cons_zero, List.getElem?_cons_succ] at hk11
  have hk12 := congrArg (fun x => x[12]?) hOPS
  simp only [List.getElem?_toArray, List.getElem?_cons_zero, List.getElem?_cons_succ] at hk12
  have hk13 := congrArg (fun x => x[13]?) hOPS
  simp only [List.getElem?_toArray, List.getElem?_cons_zero, List.getElem?_cons_succ] at hk13
  have hk14 := congrArg (fun x => x[14]?) hOPS
  simp only [List.getElem?_toArray, List.getElem?_cons_zero, List.getElem?_cons_succ] at hk14
  clear hOPS
  refine wpHf_yes (v := ?_) hk0 (by decide) rfl rfl (fun w' hS => ?_) ?_; rotate_left; (go_simp; with_reducible rfl); (try simp only [Act.put, List.setIfInBounds_toArray, List.set_cons_zero, List.set_cons_succ])
  refine wpHf_yes (v := ?_) hk1 (by decide) rfl rfl (fun w' hS => ?_) ?_; rotate_left; (go_simp; with_reducible rfl); (try simp only [Act.put, List.setIfInBounds_toArray, List.set_cons_zero, List.set_cons_succ])
  refine wpHf_yes (v := ?_) hk2 (by decide) rfl rfl (fun w' hS => ?_) ?_; rotate_left; (obtain ⟨f0, f1, f2⟩ := HZL.out w' hS; go_simp; with_reducible rfl); (try simp only [Act.put, List.setIfInBounds_toArray, List.set_cons_zero, List.set_cons_succ])
  refine wpHf_yes (v := ?_) hk4 (by decide) rfl rfl (fun w' hS => ?_) ?_; rotate_left; (go_simp; with_reducible rfl); (try simp only [Act.put, List.setIfInBounds_toArray, List.set_cons_zero, List.set_cons_succ])
  refine wpHf_yes (v := ?_) hk5 (by decide) rfl rfl (fun w' hS => ?_) ?_; rotate_left; (go_simp; with_reducible rfl); (try simp only [Act.put, List.setIfInBounds_toArray, List.set_cons_zero, List.set_cons_succ])
  refine wpHf_yes (v := ?_) hk6 (by decide) rfl rfl (fun w' hS => ?_) ?_; rotate_left; (obtain ⟨f0, f1, f2⟩ := HZL.out w' hS; go_simp; with_reducible rfl); (try simp only [Act.put, List.setIfInBounds_toArray, List.set_cons_zero, List.set_cons_succ])
  refine wpHf_yes (v := ?_) hk8 (by decide) rfl rfl (fun w' hS => ?_) ?_; rotate_left; (go_simp; with_reducible rfl); (try simp only [Act.put, List.setIfInBounds_toArray, List.set_cons_zero, List.set_cons_succ])
  refine wpHf_yes (v := ?_) hk9 (by decide) rfl rfl (fun w' hS => ?_) ?_; rotate_left; (go_simp; with_reducible rfl); (try simp only [Act.put, List.setIfInBounds_toArray, List.set_cons_zero, List.set_cons_succ])
  refine wpHf_yes (v := ?_) hk10 (by decide) rfl rfl (fun w' hS => ?_) ?_; rotate_left; (obtain ⟨f0, f1, f2⟩ := HZL.out w' hS; go_simp; with_reducible rfl); (try simp only [Act.put, List.setIfInBounds_toArray, List.set_cons_zero, List.set_cons_succ])
  refine wpHf_both hk3 hk13 (by decide) rfl (wpK_yes rfl (fun K hK => ?_)) (wpK_yes rfl (fun K hK => ?_))
  ·go_simp
   go_at_call 21
   refine (HC0.out _ _ _ _ HS0.out.to.at_ (HR0.out.mono (Nat.le_add_right _ _))).mono ?_
   rintro e w1 ⟨y0, m0, b0, F0, rfl, hT, hD, hy⟩
   have HD0 := Lib.hid hD
   have HR1 := Lib.hid (hD.room HR0.out)
   have HM1 : Hid (m0.Rd → m.Rd) := fun hm => HM0.out (hD.mode.1 hm)
   have HS1 := Lib.hid (HS0.out.tel hT)
   clear hT hD hy HS0 HR0 HC0 HM0
   refine hK _ _ (HXB.out _ HS1.out.now) (fun _ => ?_)
   clear hK K
   refine wpHf_both hk7 hk13 (by decide) rfl (wpK_yes rfl (fun K hK => ?_)) (wpK_yes rfl (fun K hK => ?_))
   ·go_simp
    go_at_call 22
    refine (HC1.out _ _ _ _ HS1.out.to.at_ (HR1.out.mono (Nat.le_add_right _ _))).mono ?_
    rintro e w2 ⟨y1, m1, b1, F1, rfl, hT, hD, hy⟩
    have HD1 := Lib.hid hD
    have HR2 := Lib.hid (hD.room HR1.out)
    have HM2 : Hid (m1.Rd → m.Rd) := fun hm => HM1.out (hD.mode.1 hm)
    have HS2 := Lib.hid (HS1.out.tel hT)
    clear hT hD hy HS1 HR1 HC1 HM1
    refine hK _ _ (HXB.out _ HS2.out.now) (fun _ => ?_)
    clear hK K
    refine wpHf_both hk11 hk13 (by decide) rfl (wpK_yes rfl (fun K hK => ?_)) (wpK_yes rfl (fun K hK => ?_))
    ·go_simp
     go_at_call 23
     refine (HC2.out _ _ _ _ HS2.out.to.at_ (HR2.out.mono (Nat.le_add_right _ _))).mono ?_
     rintro e w3 ⟨y2, m2, b2, F2, rfl, hT, hD, hy⟩
     have HD2 := Lib.hid hD
     have HR3 := Lib.hid (hD.room HR2.out)
     have HM3 : Hid (m2.Rd → m.Rd) := fun hm => HM2.out (hD.mode.1 hm)
     have HS3 := Lib.hid (HS2.out.tel hT)
     clear hT hD hy HS2 HR2 HC2 HM2
     refine hK _ _ (HXB.out _ HS3.out.now) (fun _ => ?_)
     clear hK K
     refine wpHf_yes (v := .agg (aCells (akH y0 y1 y2) noAkP).toArray) hk12 (by decide) rfl rfl (fun w' hS => exec_build rfl (by kernel_rfl)) ?_
     (try simp only [Act.put, List.setIfInBounds_toArray, List.set_cons_zero, List.set_cons_succ])
     refine wpHf_new hk13 (wpK_yes rfl (fun K hK => ?_))
     refine wp_alloc (c := (aCells akZ noAkP).toArray) rfl rfl ?_
     refine hK _ _ (HXA.out _ _ (HXB.out _ HS3.out.now)) (fun _ => ?_)
     (try simp only [Act.put, List.setIfInBounds_toArray, List.set_cons_zero, List.set_cons_succ])
     clear hK K
     have hca := heap_alloc_new w3 (.cells (aCells akZ noAkP).toArray 48)
     have hst := HS3.out.alloc (.cells (aCells akZ noAkP).toArray 48)
     obtain ⟨C, hC⟩ : ∃ C, w3.heap.size = C := ⟨_, rfl⟩
     obtain ⟨v3, hv⟩ : ∃ v, w3.alloc (.cells (aCells akZ noAkP).toArray 48) = v := ⟨_, rfl⟩
     have Hnf3 : Hid (¬ F2 C) := by show ¬ _; rw [← hC]; exact HS3.out.to.at_.not (Nat.le_refl _)
     have HCle : Hid (W1.heap.size ≤ C) := by show _ ≤ _; rw [← hC]; exact HS3.out.to.off.size
     have HCne : Hid (w.heap.size ≠ C) := by have h1 := HCle.out; have h2 := HN2.out.2; show _ ≠ _; omega
     rw [hv] at hca hst ⊢
     rw [hC] at hca ⊢
     clear HS3 hC hv
     have HS3 := Lib.hid hst
     have HE3 : Hid (v3.heap[C]? = some (.cells (aCells akZ noAkP).toArray 48 (0, 0))) := hca
     clear hst hca
     refine wpHf_call hk14 (by decide) rfl (wpK_yes rfl (fun K hK => ?_))
     refine wp_store_mid 48 (.tmp 5) (.tmp 18) rfl C 0 (aCells (akH y0 y1 y2) noAkP).toArray rfl rfl (blk_there HE3.out (Nat.le_refl _)) (akc_info _ _) (akc_one _ _) ?_
     refine hK _ _ (HXS.out _ _ _ _ HCne.out (HXB.out _ HS3.out.now)) (fun _ => ?_)
     simp only [Act.put]
     clear hK K
     have hset := setCells_blk (b := C) (aCells (akH y0 y1 y2) noAkP) 0 _ _ HE3.out
     rw [setAll_all (by rfl)] at hset
     have HTT := HS3.out.to.store HCle.out Hnf3.out 0 (aCells (akH y0 y1 y2) noAkP)
     show Exit.then _ _ _ _ _
     go_wp2_with fail
     go_meet
     case rel =>
      exact ⟨C, y0, y1, y2, m2, b2, F2, rfl, ⟨HTT, hset, Hnf3.out, HCle.out⟩, HD0.out.pair (HD1.out.pair HD2.out)⟩
    ·refine wp_alloc (c := (aCells akZ noAkP).toArray) rfl rfl ?_
     refine hK _ _ (HXA.out _ _ (HXB.out _ HS2.out.now)) (fun _ => ?_)
     (try simp only [Act.put, List.setIfInBounds_toArray, List.set_cons_zero, List.set_cons_succ])
     clear hK K
     have hca := heap_alloc_new w2 (.cells (aCells akZ noAkP).toArray 48)
     have hst := HS2.out.alloc (.cells (aCells akZ noAkP).toArray 48)
     obtain ⟨C, hC⟩ : ∃ C, w2.heap.size = C := ⟨_, rfl⟩
     obtain ⟨v2, hv⟩ : ∃ v, w2.alloc (.cells (aCells akZ noAkP).toArray 48) = v := ⟨_, rfl⟩
     have Hnf2 : Hid (¬ F1 C) := by show ¬ _; rw [← hC]; exact HS2.out.to.at_.not (Nat.le_refl _)
     have HCle : Hid (W1.heap.size ≤ C) := by show _ ≤ _; rw [← hC]; exact HS2.out.to.off.size
     have HCne : Hid (w.heap.size ≠ C) := by have h1 := HCle.out; have h2 := HN2.out.2; show _ ≠ _; omega
     rw [hv] at hca hst ⊢
     rw [hC] at hca ⊢
     clear HS2 hC hv
     have HS2 := Lib.hid hst
     have HE2 : Hid (v2.heap[C]? = some (.cells (aCells akZ noAkP).toArray 48 (0, 0))) := hca
     clear hst hca
     refine wpHf_call hk11 (by decide) rfl (wpK_yes rfl (fun K hK => ?_))
     go_simp
     go_at_call 23
     refine (HC2.out _ _ _ _ HS2.out.to.at_ (HR2.out.mono (Nat.le_add_right _ _))).mono ?_
     rintro e w3 ⟨y2, m2, b2, F2, rfl, hT, hD, hy⟩
     have HD2 := Lib.hid hD
     have HR3 := Lib.hid (hD.room HR2.out)
     have HM3 : Hid (m2.Rd → m.Rd) := fun hm => HM2.out (hD.mode.1 hm)
     have HS3 := Lib.hid (HS2.out.tel hT)
     have HE3 := Lib.hid (hT.off.heap HE2.out Hnf2.out)
     have Hnf3 : Hid (¬ F2 C) := hT.not Hnf2.out (heap_lt HE2.out)
     clear hT hD hy HS2 HR2 HC2 HM2 HE2 Hnf2
     refine hK _ _ (HXB.out _ HS3.out.now) (fun _ => ?_)
     clear hK K
     refine wpHf_yes (v := .agg (aCells (akH y0 y1 y2) noAkP).toArray) hk12 (by decide) rfl rfl (fun w' hS => exec_build rfl (by kernel_rfl)) ?_
     (try simp only [Act.put, List.setIfInBounds_toArray, List.set_cons_zero, List.set_cons_succ])
     refine wpHf_was ?_
     refine wpHf_call hk14 (by decide) rfl (wpK_yes rfl (fun K hK => ?_))
     refine wp_store_mid 48 (.tmp 5) (.tmp 18) rfl C 0 (aCells (akH y0 y1 y2) noAkP).toArray rfl rfl (blk_there HE3.out (Nat.le_refl _)) (akc_info _ _) (akc_one _ _) ?_
     refine hK _ _ (HXS.out _ _ _ _ HCne.out (HXB.out _ HS3.out.now)) (fun _ => ?_)
     simp only [Act.put]
     clear hK K
     have hset := setCells_blk (b := C) (aCells (akH y0 y1 y2) noAkP) 0 _ _ HE3.out
     rw [setAll_all (by rfl)] at hset
     have HTT := HS3.out.to.store HCle.out Hnf3.out 0 (aCells (akH y0 y1 y2) noAkP)
     show Exit.then _ _ _ _ _
     go_wp2_with fail
     go_meet
     case rel =>
      exact ⟨C, y0, y1, y2, m2, b2, F2, rfl, ⟨HTT, hset, Hnf3.out, HCle.out⟩, HD0.out.pair (HD1.out.pair HD2.out)⟩
   ·refine wp_alloc (c := (aCells akZ noAkP).toArray) rfl rfl ?_
    refine hK _ _ (HXA.out _ _ (HXB.out _ HS1.out.now)) (fun _ => ?_)
    (try simp only [Act.put, List.setIfInBounds_toArray, List.set_cons_zero, List.set_cons_succ])
    clear hK K
    have hca := heap_alloc_new w1 (.cells (aCells akZ noAkP).toArray 48)
    have hst := HS1.out.alloc (.cells (aCells akZ noAkP).toArray 48)
    obtain ⟨C, hC⟩ : ∃ C, w1.heap.size = C := ⟨_, rfl⟩
    obtain ⟨v1, hv⟩ : ∃ v, w1.alloc (.cells (aCells akZ noAkP).toArray 48) = v := ⟨_, rfl⟩
    have Hnf1 : Hid (¬ F0 C) := by show ¬ _; rw [← hC]; exact HS1.out.to.at_.not (Nat.le_refl _)
    have HCle : Hid (W1.heap.size ≤ C) := by show _ ≤ _; rw [← hC]; exact HS1.out.to.off.size
    have HCne : Hid (w.heap.size ≠ C) := by have h1 := HCle.out; have h2 := HN2.out.2; show _ ≠ _; omega
    rw [hv] at hca hst ⊢
    rw [hC] at hca ⊢
    clear HS1 hC hv
    have HS1 := Lib.hid hst
    have HE1 : Hid (v1.heap[C]? = some (.cells (aCells akZ noAkP).toArray 48 (0, 0))) := hca
    clear hst hca
    refine wpHf_call hk7 (by decide) rfl (wpK_yes rfl (fun K hK => ?_))
    go_simp
    go_at_call 22
    refine (HC1.out _ _ _ _ HS1.out.to.at_ (HR1.out.mono (Nat.le_add_right _ _))).mono ?_
    rintro e w2 ⟨y1, m1, b1, F1, rfl, hT, hD, hy⟩
    have HD1 := Lib.hid hD
    have HR2 := Lib.hid (hD.room HR1.out)
    have HM2 : Hid (m1.Rd → m.Rd) := fun hm => HM1.out (hD.mode.1 hm)
    have HS2 := Lib.hid (HS1.out.tel hT)
    have HE2 := Lib.hid (hT.off.heap HE1.out Hnf1.out)
    have Hnf2 : Hid (¬ F1 C) := hT.not Hnf1.out (heap_lt HE1.out)
    clear hT hD hy HS1 HR1 HC1 HM1 HE1 Hnf1
    refine hK _ _ (HXB.out _ HS2.out.now) (fun _ => ?_)
    clear hK K
    refine wpHf_call hk11 (by decide) rfl (wpK_yes rfl (fun K hK => ?_))
    go_simp
    go_at_call 23
    refine (HC2.out _ _ _ _ HS2.out.to.at_ (HR2.out.mono (Nat.le_add_right _ _))).mono ?_
    rintro e w3 ⟨y2, m2, b2, F2, rfl, hT, hD, hy⟩
    have HD2 := Lib.hid hD
    have HR3 := Lib.hid (hD.room HR2.out)
    have HM3 : Hid (m2.Rd → m.Rd) := fun hm => HM2.out (hD.mode.1 hm)
    have HS3 := Lib.hid (HS2.out.tel hT)
    have HE3 := Lib.hid (hT.off.heap HE2.out Hnf2.out)
    have Hnf3 : Hid (¬ F2 C) := hT.not Hnf2.out (heap_lt HE2.out)
    clear hT hD hy HS2 HR2 HC2 HM2 HE2 Hnf2
    refine hK _ _ (HXB.out _ HS3.out.now) (fun _ => ?_)
    clear hK K
    refine wpHf_yes (v := .agg (aCells (akH y0 y1 y2) noAkP).toArray) hk12 (by decide) rfl rfl (fun w' hS => exec_build rfl (by kernel_rfl)) ?_
    (try simp only [Act.put, List.setIfInBounds_toArray, List.set_cons_zero, List.set_cons_succ])
    refine wpHf_was ?_
    refine wpHf_call hk14 (by decide) rfl (wpK_yes rfl (fun K hK => ?_))
    refine wp_store_mid 48 (.tmp 5) (.tmp 18) rfl C 0 (aCells (akH y0 y1 y2) noAkP).toArray rfl rfl (blk_there HE3.out (Nat.le_refl _)) (akc_info _ _) (akc_one _ _) ?_
    refine hK _ _ (HXS.out _ _ _ _ HCne.out (HXB.out _ HS3.out.now)) (fun _ => ?_)
    simp only [Act.put]
    clear hK K
    have hset := setCells_blk (b := C) (aCells (akH y0 y1 y2) noAkP) 0 _ _ HE3.out
    rw [setAll_all (by rfl)] at hset
    have HTT := HS3.out.to.store HCle.out Hnf3.out 0 (aCells (akH y0 y1 y2) noAkP)
    show Exit.then _ _ _ _ _
    go_wp2_with fail
    go_meet
    case rel =>
     exact ⟨C, y0, y1, y2, m2, b2, F2, rfl, ⟨HTT, hset, Hnf3.out, HCle.out⟩, HD0.out.pair (HD1.out.pair HD2.out)⟩
  ·refine wp_alloc (c := (aCells akZ noAkP).toArray) rfl rfl ?_
   refine hK _ _ (HXA.out _ _ (HXB.out _ HS0.out.now)) (fun _ => ?_)
   (try simp only [Act.put, List.setIfInBounds_toArray, List.set_cons_zero, List.set_cons_succ])
   clear hK K
   have hca := heap_alloc_new w0 (.cells (aCells akZ noAkP).toArray 48)
   have hst := HS0.out.alloc (.cells (aCells akZ noAkP).toArray 48)
   obtain ⟨C, hC⟩ : ∃ C, w0.heap.size = C := ⟨_, rfl⟩
   obtain ⟨v0, hv⟩ : ∃ v, w0.alloc (.cells (aCells akZ noAkP).toArray 48) = v := ⟨_, rfl⟩
   have Hnf0 : Hid (¬ F C) := by show ¬ _; rw [← hC]; exact HS0.out.to.at_.not (Nat.le_refl _)
   have HCle : Hid (W1.heap.size ≤ C) := by show _ ≤ _; rw [← hC]; exact HS0.out.to.off.size
   have HCne : Hid (w.heap.size ≠ C) := by have h1 := HCle.out; have h2 := HN2.out.2; show _ ≠ _; omega
   rw [hv] at hca hst ⊢
   rw [hC] at hca ⊢
   clear HS0 hC hv
   have HS0 := Lib.hid hst
   have HE0 : Hid (v0.heap[C]? = some (.cells (aCells akZ noAkP).toArray 48 (0, 0))) := hca
   clear hst hca
   refine wpHf_call hk3 (by decide) rfl (wpK_yes rfl (fun K hK => ?_))
   go_simp
   go_at_call 21
   refine (HC0.out _ _ _ _ HS0.out.to.at_ (HR0.out.mono (Nat.le_add_right _ _))).mono ?_
   rintro e w1 ⟨y0, m0, b0, F0, rfl, hT, hD, hy⟩
   have HD0 := Lib.hid hD
   have HR1 := Lib.hid (hD.room HR0.out)
   have HM1 : Hid (m0.Rd → m.Rd) := fun hm => HM0.out (hD.mode.1 hm)
   have HS1 := Lib.hid (HS0.out.tel hT)
   have HE1 := Lib.hid (hT.off.heap HE0.out Hnf0.out)
   have Hnf1 : Hid (¬ F0 C) := hT.not Hnf0.out (heap_lt HE0.out)
   clear hT hD hy HS0 HR0 HC0 HM0 HE0 Hnf0
   refine hK _ _ (HXB.out _ HS1.out.now) (fun _ => ?_)
   clear hK K
   refine wpHf_call hk7 (by decide) rfl (wpK_yes rfl (fun K hK => ?_))
   go_simp
   go_at_call 22
   refine (HC1.out _ _ _ _ HS1.out.to.at_ (HR1.out.mono (Nat.le_add_right _ _))).mono ?_
   rintro e w2 ⟨y1, m1, b1, F1, rfl, hT, hD, hy⟩
   have HD1 := Lib.hid hD
   have HR2 := Lib.hid (hD.room HR1.out)
   have HM2 : Hid (m1.Rd → m.Rd) := fun hm => HM1.out (hD.mode.1 hm)
   have HS2 := Lib.hid (HS1.out.tel hT)
   have HE2 := Lib.hid (hT.off.heap HE1.out Hnf1.out)
   have Hnf2 : Hid (¬ F1 C) := hT.not Hnf1.out (heap_lt HE1.out)
   clear hT hD hy HS1 HR1 HC1 HM1 HE1 Hnf1
   refine hK _ _ (HXB.out _ HS2.out.now) (fun _ => ?_)
   clear hK K
   refine wpHf_call hk11 (by decide) rfl (wpK_yes rfl (fun K hK => ?_))
   go_simp
   go_at_call 23
   refine (HC2.out _ _ _ _ HS2.out.to.at_ (HR2.out.mono (Nat.le_add_right _ _))).mono ?_
   rintro e w3 ⟨y2, m2, b2, F2, rfl, hT, hD, hy⟩
   have HD2 := Lib.hid hD
   have HR3 := Lib.hid (hD.room HR2.out)
   have HM3 : Hid (m2.Rd → m.Rd) := fun hm => HM2.out (hD.mode.1 hm)
   have HS3 := Lib.hid (HS2.out.tel hT)
   have HE3 := Lib.hid (hT.off.heap HE2.out Hnf2.out)
   have Hnf3 : Hid (¬ F2 C) := hT.not Hnf2.out (heap_lt HE2.out)
   clear hT hD hy HS2 HR2 HC2 HM2 HE2 Hnf2
   refine hK _ _ (HXB.out _ HS3.out.now) (fun _ => ?_)
   clear hK K
   refine wpHf_yes (v := .agg (aCells (akH y0 y1 y2) noAkP).toArray) hk12 (by decide) rfl rfl (fun w' hS => exec_build rfl (by kernel_rfl)) ?_
   (try simp only [Act.put, List.setIfInBounds_toArray, List.set_cons_zero, List.set_cons_succ])
   refine wpHf_was ?_
   refine wpHf_call hk14 (by decide) rfl (wpK_yes rfl (fun K hK => ?_))
   refine wp_store_mid 48 (.tmp 5) (.tmp 18) rfl C 0 (aCells (akH y0 y1 y2) noAkP).toArray rfl rfl (blk_there HE3.out (Nat.le_refl _)) (akc_info _ _) (akc_one _ _) ?_
   refine hK _ _ (HXS.out _ _ _ _ HCne.out (HXB.out _ HS3.out.now)) (fun _ => ?_)
   simp only [Act.put]
   clear hK K
   have hset := setCells_blk (b := C) (aCells (akH y0 y1 y2) noAkP) 0 _ _ HE3.out
   rw [setAll_all (by rfl)] at hset
   have HTT := HS3.out.to.store HCle.out Hnf3.out 0 (aCells (akH y0 y1 y2) noAkP)
   show Exit.then _ _ _ _ _
   go_wp2_with fail
   go_meet
   case rel =>
    exact ⟨C, y0, y1, y2, m2, b2, F2, rfl, ⟨HTT, hset, Hnf3.out, HCle.out⟩, HD0.out.pair (HD1.out.pair HD2.out)⟩
 case rest =>
 obtain ⟨C, y0, y1, y2, m2, b2, F2, rfl, HH, HHL⟩ := hcut
 obtain ⟨w4, hw4⟩ : ∃ q, q = wc := ⟨_, rfl⟩
 subst hw4
 have HQ4 : Hid (Sq W1 w4 P m2 b2 F F2 C (fun _ => True)) := ⟨HH.out.tt, OwnK.const trivial⟩
 have HE4 := Lib.hid HH.out.blk
 have HnC : Hid (¬ F2 C) := HH.out.nC
 have hWC : W1.heap.size ≤ C := HH.out.le
 have hCR : w.heap.size + 1 < C := by have := HN2.out.2; omega
 have HCne : Hid (w.heap.size ≠ C) := by show _ ≠ _; omega
 have HR : Hid (m2.Room (akTail x)) := HHL.out.room (c := cdAkH) (n := akTail x) (HR0.out.mono (by show 10 + (10 + 10) + akTail x ≤ 10 + (10 + (10 + akTail x)); omega))
 have HM : Hid (m2.Rd → m.Rd) := fun hm => HHL.out.mode.1 hm
 clear HR0 HM0 HS0 HC0 HC1 HC2 HH
 have g1 : w4.cell? ⟨C, 1, none⟩ = some (.int .u32 (y1 : Int)) := blk_cell HE4.out rfl
 have g3 : w4.cell? ⟨C, 3, none⟩ = some (.int .u32 0) := blk_cell HE4.out rfl
 have gz := fun i => blk_free (b := C) HE4.out i
 go_upto_region 3 with fail
 have hset := block_setCell HE4.out (i := 3) (.int .u32 (y1 : Int))
 have hset : (w4.setCell ⟨C, 3, none⟩ (.int .u32 (y1 : Int))).heap[C]? = some (.cells (aCells (noAk (y0, y1, y2)) noAkP).toArray 48 (0, 0)) := hset
 have HQ5 := Lib.hid (HQ4.out.set (C := C) hWC HnC.out 3 (.int .u32 (y1 : Int)))
 obtain ⟨w5, hw5⟩ : ∃ w5, w4.setCell ⟨C, 3, none⟩ (.int .u32 (y1 : Int)) = w5 := ⟨_, rfl⟩
 rw [hw5] at hset HQ5 ⊢
 have HE5 := Lib.hid hset
 clear g1 g3 gz hw5 hset HQ4 HE4
 by_cases h1 : y0 = 1
 ·subst h1
  have HZK : Hid (∀ V, XB V → V.cell? ⟨w.heap.size, 5, none⟩ = some (.int .i64 x.settings.base) ∧ V.cell? ⟨w.heap.size, 6, none⟩ = some (.slice p.s.A1 x.settings.turns.length p.s.c1) ∧ V.cell? ⟨w.heap.size, 7, none⟩ = some (.slice p.s.A2 x.settings.shifts.length p.s.c2) ∧ V.cell? ⟨w.heap.size, 8, none⟩ = some (.slice p.s.A3 x.settings.off.length p.s.c3) ∧ V.cell? ⟨w.heap.size, 9, none⟩ = some (.int .i64 x.settings.before) ∧ V.cell? ⟨w.heap.size, 10, none⟩ = some (.int .i64 x.settings.after)) := fun V hV => by
   have hV := HXV.out V hV
   exact ⟨blk_cell hV rfl, blk_cell hV rfl, blk_cell hV rfl, blk_cell hV rfl, blk_cell hV rfl, blk_cell hV rfl⟩
  have HC0 := Lib.hid (fun mx bx Fx wx h hr hz hm => psettings_any P x.settings p.s HXF.out.settings mx bx Fx wx h hr hz hm)
  have HR0 : Hid (m2.Room (cdStg.cost x.settings + 0)) := HR.out.mono (by show cdStg.cost x.settings + 0 ≤ akTail x; unfold akTail; omega)
  have HM0 := Lib.hid HM.out
  have g0 : w5.cell? ⟨C, 0, none⟩ = some (.int .i64 1) := blk_cell HE5.out rfl
  have HP0 := Lib.hid HQ5.out
  have HB0 := Lib.hid HE5.out
  have Hn0 := Lib.hid HnC.out
  obtain ⟨f5, f6, f7, f8, f9, f10⟩ := HZK.out w5 (HXB.out _ (HXH.out.step HQ5.out.tt).now)
  go_wp2_with fail
  go_at_call 24
  refine (HC0.out _ _ _ _ HP0.out.tt.at_ (HR0.out.mono (Nat.le_add_right _ _)) (fun hm => by rw [HZ.out (HM0.out hm)] <;> rfl) ((HXH.out.step HP0.out.tt).imp fun V hV => (HXM.out V hV).s)).mono ?_
  rintro e v1 ⟨z0, q0, n0, a0, G0, rfl, hT, hO, hD⟩
  have HD0 := Lib.hid hD
  have HR1 := Lib.hid (hD.room HR0.out)
  have HM1 : Hid (n0.Rd → m.Rd) := fun hm => HM0.out (hD.mode.1 hm)
  have HP1 := Lib.hid (HP0.out.told hT hO (heap_lt HB0.out))
  have HB1 := Lib.hid (hT.off.heap HB0.out Hn0.out)
  have Hn1 : Hid (¬ G0 C) := hT.not Hn0.out (heap_lt HB0.out)
  clear hT hD hO HP0 HR0 HC0 HM0 HB0 Hn0
  clear f5 f6 f7 f8 f9 f10 g0
  simp only [sCells]
  go_upto_region 25 with (refine wpList_store_mid rfl 32 (.tmp 33) (.tmp 32) rfl C 5 #[.int .i64 z0.base, .slice q0.A1 z0.turns.length q0.c1, .slice q0.A2 z0.shifts.length q0.c2, .slice q0.A3 z0.off.length q0.c3, .int .i64 z0.before, .int .i64 z0.after] rfl rfl (blk_there HB1.out (by show 5 + 6 ≤ 42; decide)) (by kernel_rfl) (by simp [Value.oneCell']) ?_)
  have hset := setCells_blk (b := C) [.int .i64 z0.base, .slice q0.A1 z0.turns.length q0.c1, .slice q0.A2 z0.shifts.length q0.c2, .slice q0.A3 z0.off.length q0.c3, .int .i64 z0.before, .int .i64 z0.after] 5 _ _ HB1.out
  have hset : (v1.setCells C 5 [.int .i64 z0.base, .slice q0.A1 z0.turns.length q0.c1, .slice q0.A2 z0.shifts.length q0.c2, .slice q0.A3 z0.off.length q0.c3, .int .i64 z0.before, .int .i64 z0.after]).heap[C]? = some (.cells (aCells { noAk (1, y1, y2) with settings := z0 } { noAkP with s := q0 }).toArray 48 (0, 0)) := hset.trans (congrArg (fun z => some (Obj.cells z 48 (0, 0))) (akc_settings _ _ _ _))
  have hq := HP1.out.store (C := C) hWC Hn1.out 5 [.int .i64 z0.base, .slice q0.A1 z0.turns.length q0.c1, .slice q0.A2 z0.shifts.length q0.c2, .slice q0.A3 z0.off.length q0.c3, .int .i64 z0.before, .int .i64 z0.after]
  obtain ⟨v2, hw⟩ : ∃ q, v1.setCells C 5 [.int .i64 z0.base, .slice q0.A1 z0.turns.length q0.c1, .slice q0.A2 z0.shifts.length q0.c2, .slice q0.A3 z0.off.length q0.c3, .int .i64 z0.before, .int .i64 z0.after] = q := ⟨_, rfl⟩
  have hwb : v1.setCells C 5 #[.int .i64 z0.base, .slice q0.A1 z0.turns.length q0.c1, .slice q0.A2 z0.shifts.length q0.c2, .slice q0.A3 z0.off.length q0.c3, .int .i64 z0.before, .int .i64 z0.after].toList = v2 := hw
  rw [hwb]
  rw [hw] at hset hq
  have HB2 := Lib.hid hset
  have HP2 := Lib.hid hq
  clear hw hwb hset hq HB1 HP1
  have HRB := Lib.hid (HXR.out _ (HXH.out.step HP2.out.tt).now)
  go_wp2_with (first
   | (refine wpList_load (v := .agg (aCells { noAk (1, y1, y2) with settings := z0 } { noAkP with s := q0 }).toArray) rfl rfl (load_blk (vs := (aCells { noAk (1, y1, y2) with settings := z0 } { noAkP with s := q0 })) HB2.out (fun j v hj => by simpa using hj) rfl (akc_info2 _ _)) ?_; simp only [Act.put])
   | (refine wpList_store_mid rfl 48 (.tmp 4) (.tmp 138) rfl (w.heap.size + 1) 0 (aCells { noAk (1, y1, y2) with settings := z0 } { noAkP with s := q0 }).toArray rfl rfl (blk_there HRB.out (Nat.le_refl _)) (akc_info _ _) (akc_one _ _) ?_))
  have hset := setCells_blk (b := w.heap.size + 1) (aCells { noAk (1, y1, y2) with settings := z0 } { noAkP with s := q0 }) 0 _ _ HRB.out
  rw [setAll_all (by rfl)] at hset
  have HTO := Lib.hid (HP2.out.tt.store' HB.out (R := w.heap.size + 1) (by omega) (HP2.out.tt.not HN2.out.1 HN2.out.2) 0 (aCells { noAk (1, y1, y2) with settings := z0 } { noAkP with s := q0 }))
  have HOW := Lib.hid ((HP2.out.y.store (R := w.heap.size + 1) (.inl HN2.out.2) 0 (aCells { noAk (1, y1, y2) with settings := z0 } { noAkP with s := q0 })).own (s := w.heap.size) fun k hk => .inl (Nat.lt_of_lt_of_le hk HB.out.size))
  have HSE := Lib.hid hset
  clear hset
  refine bodyPost_ret (results_cell_row rfl _ _ (w.heap.size + 1) 48 (aCells { noAk (1, y1, y2) with settings := z0 } { noAkP with s := q0 }).toArray (0, 0) _ rfl HSE.out Try.underlying48 rfl (akc_info _ _)) rfl ?_
  exact ⟨mkAk1 (1, y1, y2) z0, ⟨q0, noEvP, noPlP.q⟩, _, _, _, rfl, HTO.out, HOW.out.imp (fun V hV => ⟨hV.2, noEvt_at _, (noPl_at V).q⟩), dn_ak HHL.out (dn_ak1 HD0.out)⟩
 by_cases h2 : y0 = 2
 ·subst h2
  have g0 : w5.cell? ⟨C, 0, none⟩ = some (.int .i64 2) := blk_cell HE5.out rfl
  have HRB := Lib.hid (HXR.out _ (HXH.out.step HQ5.out.tt).now)
  go_wp2_with (first
   | (refine wpList_load (v := .agg (aCells (noAk (2, y1, y2)) noAkP).toArray) rfl rfl (load_blk (vs := (aCells (noAk (2, y1, y2)) noAkP)) HE5.out (fun j v hj => by simpa using hj) rfl (akc_info2 _ _)) ?_; simp only [Act.put])
   | (refine wpList_store_mid rfl 48 (.tmp 4) (.tmp 138) rfl (w.heap.size + 1) 0 (aCells (noAk (2, y1, y2)) noAkP).toArray rfl rfl (blk_there HRB.out (Nat.le_refl _)) (akc_info _ _) (akc_one _ _) ?_))
  have hset := setCells_blk (b := w.heap.size + 1) (aCells (noAk (2, y1, y2)) noAkP) 0 _ _ HRB.out
  rw [setAll_all (by rfl)] at hset
  have HTO := Lib.hid (HQ5.out.tt.store' HB.out (R := w.heap.size + 1) (by omega) (HQ5.out.tt.not HN2.out.1 HN2.out.2) 0 (aCells (noAk (2, y1, y2)) noAkP))
  have HOW := Lib.hid ((HQ5.out.y.store (R := w.heap.size + 1) (.inl HN2.out.2) 0 (aCells (noAk (2, y1, y2)) noAkP)).own (s := w.heap.size) fun k hk => .inl (Nat.lt_of_lt_of_le hk HB.out.size))
  have HSE := Lib.hid hset
  clear hset
  refine bodyPost_ret (results_cell_row rfl _ _ (w.heap.size + 1) 48 (aCells (noAk (2, y1, y2)) noAkP).toArray (0, 0) _ rfl HSE.out Try.underlying48 rfl (akc_info _ _)) rfl ?_
  exact ⟨noAk (2, y1, y2), noAkP, _, _, _, rfl, HTO.out, HOW.out.imp (fun V hV => ⟨noStg_at _, noEvt_at _, (noPl_at V).q⟩), dn_ak HHL.out dn_ak2⟩
 by_cases h3 : y0 = 3
 ·subst h3
  have HZK : Hid (∀ V, XB V → V.cell? ⟨w.heap.size, 4, none⟩ = some (.int .u32 (x.id : Int)) ∧ V.cell? ⟨w.heap.size, 11, none⟩ = some (.int .i64 x.event.start) ∧ V.cell? ⟨w.heap.size, 12, none⟩ = some (.int .i64 x.event.long) ∧ V.cell? ⟨w.heap.size, 13, none⟩ = some (.bool x.event.world) ∧ V.cell? ⟨w.heap.size, 14, none⟩ = some (.bool x.event.again) ∧ V.cell? ⟨w.heap.size, 15, none⟩ = some (.int .i64 x.event.rule.freq) ∧ V.cell? ⟨w.heap.size, 16, none⟩ = some (.int .i64 x.event.rule.iv) ∧ V.cell? ⟨w.heap.size, 17, none⟩ = some (.int .i64 x.event.rule.count) ∧ V.cell? ⟨w.heap.size, 18, none⟩ = some (.int .i64 x.event.rule.until_) ∧ V.cell? ⟨w.heap.size, 19, none⟩ = some (.slice p.e.A1 x.event.rule.bm.length p.e.c1) ∧ V.cell? ⟨w.heap.size, 20, none⟩ = some (.slice p.e.A2 x.event.rule.bd.length p.e.c2) ∧ V.cell? ⟨w.heap.size, 21, none⟩ = some (.slice p.e.A3 x.event.rule.bw.length p.e.c3) ∧ V.cell? ⟨w.heap.size, 22, none⟩ = some (.slice p.e.A4 x.event.rule.bs.length p.e.c4) ∧ V.cell? ⟨w.heap.size, 23, none⟩ = some (.int .i64 x.event.rule.start) ∧ V.cell? ⟨w.heap.size, 24, none⟩ = some (.slice p.e.A5 x.event.ex.length p.e.c5) ∧ V.cell? ⟨w.heap.size, 25, none⟩ = some (.slice p.e.A6 x.event.plus.length p.e.c6) ∧ V.cell? ⟨w.heap.size, 26, none⟩ = some (.slice p.e.A7 x.event.ch.length p.e.c7)) := fun V hV => by
   have hV := HXV.out V hV
   exact ⟨blk_cell hV rfl, blk_cell hV rfl, blk_cell hV rfl, blk_cell hV rfl, blk_cell hV rfl, blk_cell hV rfl, blk_cell hV rfl, blk_cell hV rfl, blk_cell hV rfl, blk_cell hV rfl, blk_cell hV rfl, blk_cell hV rfl, blk_cell hV rfl, blk_cell hV rfl, blk_cell hV rfl, blk_cell hV rfl, blk_cell hV rfl⟩
  have HC0 := Lib.hid (fun mx bx Fx wx h hr => pid_any P x.id HXF.out.id mx bx Fx wx h hr)
  have HC1 := Lib.hid (fun mx bx Fx wx h hr hz hm => pevent_any P x.event p.e HXF.out.event mx bx Fx wx h hr hz hm)
  have HR0 : Hid (m2.Room ((cdNum 4294967295).cost x.id + (cdEv.cost x.event + 0))) := HR.out.mono (by show 10 + (cdEv.cost x.event + 0) ≤ akTail x; unfold akTail; omega)
  have HM0 := Lib.hid HM.out
  have g0 : w5.cell? ⟨C, 0, none⟩ = some (.int .i64 3) := blk_cell HE5.out rfl
  have HP0 := Lib.hid HQ5.out
  have HB0 := Lib.hid HE5.out
  have Hn0 := Lib.hid HnC.out
  go_upto_region 9 with fail
  clear g0
  refine wp_region_lexO XB (fun k => [3, 7, 9, 11].contains k) [0, 1, 2, 4, 5, 6, 3, 8, 7, 9, 10, 11] rfl (by kernel_rfl) (by kernel_rfl) (by kernel_rfl) (fun _ _ _ _ _ h => h) (by have := HXB.out _ (HXH.out.step HQ5.out.tt).now; exact HXD.out _ this) ?_
  have hd5 := Below.refl w5.heap.size w5 |>.drew
  have hp0 : Sq W1 w5.drew P m2 b2 F F2 C (fun _ => True) := ⟨HP0.out.tt.below hd5, OwnK.const trivial⟩
  have hb0 := blk_below HB0.out hd5
  clear HP0 HB0 hd5
  generalize World.drew w5 = v0 at *
  have HP0 := Lib.hid hp0
  have HB0 := Lib.hid hb0
  clear hp0 hb0
  refine wpHo_name fun OPS hOPS => ?_
  have hk0 := congrArg (fun x => x[0]?) hOPS
  simp only [List.getElem?_toArray, List.getElem?_cons_zero, List.getElem?_cons_succ] at hk0
  have hk1 := congrArg (fun x => x[1]?) hOPS
  simp only [List.getElem?_toArray, List.getElem?_cons_zero, List.getElem?_cons_succ] at hk1
  have hk2 := congrArg (fun x => x[2]?) hOPS
  simp only [List.getElem?_toArray, List.getElem?_cons_zero, List.getElem?_cons_succ] at hk2
  have hk3 := congrArg (fun x => x[3]?) hOPS
  simp only [List.getElem?_toArray, List.getElem?_cons_zero, List.getElem?_cons_succ] at hk3
  have hk4 := congrArg (fun x => x[4]?) hOPS
  simp only [List.getElem?_toArray, List.getElem?_cons_zero, List.getElem?_cons_succ] at hk4
  have hk5 := congrArg (fun x => x[5]?) hOPS
  simp only [List.getElem?_toArray, List.getElem?_cons_zero, List.getElem?_cons_succ] at hk5
  have hk6 := congrArg (fun x => x[6]?) hOPS
  simp only [List.getElem?_toArray, List.getElem?_cons_zero, List.getElem?_cons_succ] at hk6
  have hk7 := congrArg (fun x => x[7]?) hOPS
  simp only [List.getElem?_toArray, List.getElem?_cons_zero, List.getElem?_cons_succ] at hk7
  have hk8 := congrArg (fun x => x[8]?) hOPS
  simp only [List.getElem?_toArray, List.getElem?_cons_zero, List.getElem?_cons_succ] at hk8
  have hk9 := congrArg (fun x => x[9]?) hOPS
  simp only [List.getElem?_toArray, List.getElem?_cons_zero, List.getElem?_cons_succ] at hk9
  have hk10 := congrArg (fun x => x[10]?) hOPS
  simp only [List.getElem?_toArray, List.getElem?_cons_zero, List.getElem?_cons_succ] at hk10
  have hk11 := congrArg (fun x => x[11]?) hOPS
  simp only [List.getElem?_toArray, List.getElem?_cons_zero, List.getElem?_cons_succ] at hk11
  clear hOPS
  refine wpHo_yes (v := ?_) hk0 rfl rfl (fun w' hS => ?_) ?_; rotate_left; (go_simp; with_reducible rfl); (try simp only [Act.put, List.setIfInBounds_toArray, List.set_cons_zero, List.set_cons_succ])
  refine wpHo_yes (v := ?_) hk1 rfl rfl (fun w' hS => ?_) ?_; rotate_left; (go_simp; with_reducible rfl); (try simp only [Act.put, List.setIfInBounds_toArray, List.set_cons_zero, List.set_cons_succ])
  refine wpHo_yes (v := ?_) hk2 rfl rfl (fun w' hS => ?_) ?_; rotate_left; (obtain ⟨f4, f11, f12, f13, f14, f15, f16, f17, f18, f19, f20, f21, f22, f23, f24, f25, f26⟩ := HZK.out w' hS; go_simp; with_reducible rfl); (try simp only [Act.put, List.setIfInBounds_toArray, List.set_cons_zero, List.set_cons_succ])
  refine wpHo_yes (v := ?_) hk4 rfl rfl (fun w' hS => ?_) ?_; rotate_left; (go_simp; with_reducible rfl); (try simp only [Act.put, List.setIfInBounds_toArray, List.set_cons_zero, List.set_cons_succ])
  refine wpHo_yes (v := ?_) hk5 rfl rfl (fun w' hS => ?_) ?_; rotate_left; (go_simp; with_reducible rfl); (try simp only [Act.put, List.setIfInBounds_toArray, List.set_cons_zero, List.set_cons_succ])
  refine wpHo_yes (v := ?_) hk6 rfl rfl (fun w' hS => ?_) ?_; rotate_left; (obtain ⟨f4, f11, f12, f13, f14, f15, f16, f17, f18, f19, f20, f21, f22, f23, f24, f25, f26⟩ := HZK.out w' hS; go_simp; with_reducible rfl); (try simp only [Act.put, List.setIfInBounds_toArray, List.set_cons_zero, List.set_cons_succ])
  refine wpHo_callYes hk3 rfl rfl (fun K hK => ?_)
  go_simp
  go_at_call 22
  refine (HC0.out _ _ _ _ HP0.out.tt.at_ (HR0.out.mono (Nat.le_add_right _ _))).mono ?_
  rintro e v1 ⟨z0, n0, a0, G0, rfl, hT, hD, hy⟩
  have HD0 := Lib.hid hD
  have HR1 := Lib.hid (hD.room HR0.out)
  have HM1 : Hid (n0.Rd → m.Rd) := fun hm => HM0.out (hD.mode.1 hm)
  have HP1 := Lib.hid (HP0.out.tel hT)
  have HB1 := Lib.hid (hT.off.heap HB0.out Hn0.out)
  have Hn1 : Hid (¬ G0 C) := hT.not Hn0.out (heap_lt HB0.out)
  clear hT hD hy HP0 HR0 HC0 HM0 HB0 Hn0
  refine hK _ _ (HXB.out _ (HXH.out.step HP1.out.tt).now) (fun _ => ?_)
  (try simp only [Act.put, List.setIfInBounds_toArray, List.set_cons_zero, List.set_cons_succ])
  clear hK K
  refine wpHo_yes (v := ?_) hk8 rfl rfl (fun w' hS => ?_) ?_; rotate_left; (go_simp; with_reducible rfl); (try simp only [Act.put, List.setIfInBounds_toArray, List.set_cons_zero, List.set_cons_succ])
  refine wpHo_callYes hk7 rfl rfl (fun K hK => ?_)
  go_simp
  go_at_call 25
  refine (HC1.out _ _ _ _ HP1.out.tt.at_ (HR1.out.mono (Nat.le_add_right _ _)) (fun hm => by rw [HZ.out (HM1.out hm)] <;> rfl) ((HXH.out.step HP1.out.tt).imp fun V hV => (HXM.out V hV).e)).mono ?_
  rintro e v2 ⟨z1, q1, n1, a1, G1, rfl, hT, hO, hD⟩
  have HD1 := Lib.hid hD
  have HR2 := Lib.hid (hD.room HR1.out)
  have HM2 : Hid (n1.Rd → m.Rd) := fun hm => HM1.out (hD.mode.1 hm)
  have HP2 := Lib.hid (HP1.out.told hT hO (heap_lt HB1.out))
  have HB2 := Lib.hid (hT.off.heap HB1.out Hn1.out)
  have Hn2 : Hid (¬ G1 C) := hT.not Hn1.out (heap_lt HB1.out)
  clear hT hD hO HP1 HR1 HC1 HM1 HB1 Hn1
  refine hK _ _ (HXB.out _ (HXH.out.step HP2.out.tt).now) (fun _ => ?_)
  (try simp only [Act.put, List.setIfInBounds_toArray, List.set_cons_zero, List.set_cons_succ])
  (try simp only [eCells])
  clear hK K
  have HXX : Hid (XB v2) := HXB.out _ (HXH.out.step HP2.out.tt).now
  have HnX := Lib.hid Hn2.out
  have g : v2.cell? ⟨C, 4, none⟩ = some (.int .u32 0) := blk_cell HB2.out rfl
  have gz := fun i => blk_free (b := C) HB2.out i
  refine wpHo_callYes hk9 rfl rfl (fun K hK => ?_)
  go_simp
  clear g gz
  have HXY : Hid (XB (v2.setCell ⟨C, 4, none⟩ (.int .u32 (z0 : Int)))) := HXS.out _ C 4 [.int .u32 (z0 : Int)] HCne.out HXX.out
  refine hK _ _ HXY.out (fun _ => ?_)
  (try simp only [Act.put, List.setIfInBounds_toArray, List.set_cons_zero, List.set_cons_succ])
  clear hK K
  clear HXX
  have HXX := Lib.hid HXY.out
  clear HXY
  have hset : (v2.setCell ⟨C, 4, none⟩ (.int .u32 (z0 : Int))).heap[C]? = some (.cells (aCells { noAk (3, y1, y2) with id := z0 } noAkP).toArray 48 (0, 0)) := block_setCell HB2.out (i := 4) (.int .u32 (z0 : Int))
  have hq := HP2.out.set (C := C) hWC HnX.out 4 (.int .u32 (z0 : Int))
  obtain ⟨v3, hw⟩ : ∃ q, v2.setCell ⟨C, 4, none⟩ (.int .u32 (z0 : Int)) = q := ⟨_, rfl⟩
  rw [hw] at hset hq HXX ⊢
  have HB3 := Lib.hid hset
  have HP3 := Lib.hid hq
  clear hw hset hq HB2 HP2
  refine wpHo_yes (v := ?_) hk10 rfl rfl (fun w' hS => ?_) ?_; rotate_left; (go_simp; with_reducible rfl); (try simp only [Act.put, List.setIfInBounds_toArray, List.set_cons_zero, List.set_cons_succ])
  refine wpHo_callYes hk11 rfl rfl (fun K hK => ?_)
  refine wp_store_mid 39 (.tmp 47) (.tmp 45) rfl C 11 #[.int .i64 z1.start, .int .i64 z1.long, .bool z1.world, .bool z1.again, .int .i64 z1.rule.freq, .int .i64 z1.rule.iv, .int .i64 z1.rule.count, .int .i64 z1.rule.until_, .slice q1.A1 z1.rule.bm.length q1.c1, .slice q1.A2 z1.rule.bd.length q1.c2, .slice q1.A3 z1.rule.bw.length q1.c3, .slice q1.A4 z1.rule.bs.length q1.c4, .int .i64 z1.rule.start, .slice q1.A5 z1.ex.length q1.c5, .slice q1.A6 z1.plus.length q1.c6, .slice q1.A7 z1.ch.length q1.c7] rfl rfl (blk_there HB3.out (by show 11 + 16 ≤ 42; decide)) (by kernel_rfl) (by simp [Value.oneCell']) ?_
  have HXY : Hid (XB (v3.setCells C 11 [.int .i64 z1.start, .int .i64 z1.long, .bool z1.world, .bool z1.again, .int .i64 z1.rule.freq, .int .i64 z1.rule.iv, .int .i64 z1.rule.count, .int .i64 z1.rule.until_, .slice q1.A1 z1.rule.bm.length q1.c1, .slice q1.A2 z1.rule.bd.length q1.c2, .slice q1.A3 z1.rule.bw.length q1.c3, .slice q1.A4 z1.rule.bs.length q1.c4, .int .i64 z1.rule.start, .slice q1.A5 z1.ex.length q1.c5, .slice q1.A6 z1.plus.length q1.c6, .slice q1.A7 z1.ch.length q1.c7])) := HXS.out _ _ _ _ HCne.out HXX.out
  refine hK _ _ HXY.out (fun _ => ?_)
  (try simp only [Act.put, List.setIfInBounds_toArray, List.set_cons_zero, List.set_cons_succ])
  clear hK K
  clear HXX
  have HXX := Lib.hid HXY.out
  clear HXY
  have hset := setCells_blk (b := C) [.int .i64 z1.start, .int .i64 z1.long, .bool z1.world, .bool z1.again, .int .i64 z1.rule.freq, .int .i64 z1.rule.iv, .int .i64 z1.rule.count, .int .i64 z1.rule.until_, .slice q1.A1 z1.rule.bm.length q1.c1, .slice q1.A2 z1.rule.bd.length q1.c2, .slice q1.A3 z1.rule.bw.length q1.c3, .slice q1.A4 z1.rule.bs.length q1.c4, .int .i64 z1.rule.start, .slice q1.A5 z1.ex.length q1.c5, .slice q1.A6 z1.plus.length q1.c6, .slice q1.A7 z1.ch.length q1.c7] 11 _ _ HB3.out
  have hset : (v3.setCells C 11 [.int .i64 z1.start, .int .i64 z1.long, .bool z1.world, .bool z1.again, .int .i64 z1.rule.freq, .int .i64 z1.rule.iv, .int .i64 z1.rule.count, .int .i64 z1.rule.until_, .slice q1.A1 z1.rule.bm.length q1.c1, .slice q1.A2 z1.rule.bd.length q1.c2, .slice q1.A3 z1.rule.bw.length q1.c3, .slice q1.A4 z1.rule.bs.length q1.c4, .int .i64 z1.rule.start, .slice q1.A5 z1.ex.length q1.c5, .slice q1.A6 z1.plus.length q1.c6, .slice q1.A7 z1.ch.length q1.c7]).heap[C]? = some (.cells (aCells { noAk (3, y1, y2) with id := z0, event := z1 } { noAkP with e := q1 }).toArray 48 (0, 0)) := hset.trans (congrArg (fun z => some (Obj.cells z 48 (0, 0))) (akc_event _ _ _ _))
  have hq := HP3.out.store (C := C) hWC HnX.out 11 [.int .i64 z1.start, .int .i64 z1.long, .bool z1.world, .bool z1.again, .int .i64 z1.rule.freq, .int .i64 z1.rule.iv, .int .i64 z1.rule.count, .int .i64 z1.rule.until_, .slice q1.A1 z1.rule.bm.length q1.c1, .slice q1.A2 z1.rule.bd.length q1.c2, .slice q1.A3 z1.rule.bw.length q1.c3, .slice q1.A4 z1.rule.bs.length q1.c4, .int .i64 z1.rule.start, .slice q1.A5 z1.ex.length q1.c5, .slice q1.A6 z1.plus.length q1.c6, .slice q1.A7 z1.ch.length q1.c7]
  obtain ⟨v4, hw⟩ : ∃ q, v3.setCells C 11 [.int .i64 z1.start, .int .i64 z1.long, .bool z1.world, .bool z1.again, .int .i64 z1.rule.freq, .int .i64 z1.rule.iv, .int .i64 z1.rule.count, .int .i64 z1.rule.until_, .slice q1.A1 z1.rule.bm.length q1.c1, .slice q1.A2 z1.rule.bd.length q1.c2, .slice q1.A3 z1.rule.bw.length q1.c3, .slice q1.A4 z1.rule.bs.length q1.c4, .int .i64 z1.rule.start, .slice q1.A5 z1.ex.length q1.c5, .slice q1.A6 z1.plus.length q1.c6, .slice q1.A7 z1.ch.length q1.c7] = q := ⟨_, rfl⟩
  have hwb : v3.setCells C 11 #[.int .i64 z1.start, .int .i64 z1.long, .bool z1.world, .bool z1.again, .int .i64 z1.rule.freq, .int .i64 z1.rule.iv, .int .i64 z1.rule.count, .int .i64 z1.rule.until_, .slice q1.A1 z1.rule.bm.length q1.c1, .slice q1.A2 z1.rule.bd.length q1.c2, .slice q1.A3 z1.rule.bw.length q1.c3, .slice q1.A4 z1.rule.bs.length q1.c4, .int .i64 z1.rule.start, .slice q1.A5 z1.ex.length q1.c5, .slice q1.A6 z1.plus.length q1.c6, .slice q1.A7 z1.ch.length q1.c7].toList = v4 := hw
  rw [hwb]
  rw [hw] at hset hq HXX
  have HB4 := Lib.hid hset
  have HP4 := Lib.hid hq
  clear hw hwb hset hq HB3 HP3
  first | show Exit.then _ _ _ _ _ | show Exit.inBlock _ _ _ _ _
  have HRB := Lib.hid (HXR.out _ (HXH.out.step HP4.out.tt).now)
  go_wp2_with (first
   | (refine wpList_load (v := .agg (aCells { noAk (3, y1, y2) with id := z0, event := z1 } { noAkP with e := q1 }).toArray) rfl rfl (load_blk (vs := (aCells { noAk (3, y1, y2) with id := z0, event := z1 } { noAkP with e := q1 })) HB4.out (fun j v hj => by simpa using hj) rfl (akc_info2 _ _)) ?_; simp only [Act.put])
   | (refine wpList_store_mid rfl 48 (.tmp 4) (.tmp 138) rfl (w.heap.size + 1) 0 (aCells { noAk (3, y1, y2) with id := z0, event := z1 } { noAkP with e := q1 }).toArray rfl rfl (blk_there HRB.out (Nat.le_refl _)) (akc_info _ _) (akc_one _ _) ?_))
  have hset := setCells_blk (b := w.heap.size + 1) (aCells { noAk (3, y1, y2) with id := z0, event := z1 } { noAkP with e := q1 }) 0 _ _ HRB.out
  rw [setAll_all (by rfl)] at hset
  have HTO := Lib.hid (HP4.out.tt.store' HB.out (R := w.heap.size + 1) (by omega) (HP4.out.tt.not HN2.out.1 HN2.out.2) 0 (aCells { noAk (3, y1, y2) with id := z0, event := z1 } { noAkP with e := q1 }))
  have HOW := Lib.hid ((HP4.out.y.store (R := w.heap.size + 1) (.inl HN2.out.2) 0 (aCells { noAk (3, y1, y2) with id := z0, event := z1 } { noAkP with e := q1 })).own (s := w.heap.size) fun k hk => .inl (Nat.lt_of_lt_of_le hk HB.out.size))
  have HSE := Lib.hid hset
  clear hset
  refine bodyPost_ret (results_cell_row rfl _ _ (w.heap.size + 1) 48 (aCells { noAk (3, y1, y2) with id := z0, event := z1 } { noAkP with e := q1 }).toArray (0, 0) _ rfl HSE.out Try.underlying48 rfl (akc_info _ _)) rfl ?_
  exact ⟨mkAk3 (3, y1, y2) (z0, z1), ⟨noStgP, q1, noPlP.q⟩, _, _, _, rfl, HTO.out, HOW.out.imp (fun V hV => ⟨noStg_at _, hV.2, (noPl_at V).q⟩), dn_ak HHL.out (dn_ak3 (HD0.out.pair HD1.out))⟩
 by_cases h4 : y0 = 4
 ·subst h4
  have HZK : Hid (∀ V, XB V → V.cell? ⟨w.heap.size, 4, none⟩ = some (.int .u32 (x.id : Int))) := fun V hV => blk_cell (HXV.out V hV) rfl
  have HC0 := Lib.hid (fun mx bx Fx wx h hr => pid_any P x.id HXF.out.id mx bx Fx wx h hr)
  have HR0 : Hid (m2.Room ((cdNum 4294967295).cost x.id + 0)) := HR.out.mono (by show 10 + 0 ≤ akTail x; unfold akTail; omega)
  have HM0 := Lib.hid HM.out
  have g0 : w5.cell? ⟨C, 0, none⟩ = some (.int .i64 4) := blk_cell HE5.out rfl
  have HP0 := Lib.hid HQ5.out
  have HB0 := Lib.hid HE5.out
  have Hn0 := Lib.hid HnC.out
  have f4 := HZK.out w5 (HXB.out _ (HXH.out.step HQ5.out.tt).now)
  go_wp2_with fail
  go_at_call 22
  refine (HC0.out _ _ _ _ HP0.out.tt.at_ (HR0.out.mono (Nat.le_add_right _ _))).mono ?_
  rintro e v1 ⟨z0, n0, a0, G0, rfl, hT, hD, hy⟩
  have HD0 := Lib.hid hD
  have HR1 := Lib.hid (hD.room HR0.out)
  have HM1 : Hid (n0.Rd → m.Rd) := fun hm => HM0.out (hD.mode.1 hm)
  have HP1 := Lib.hid (HP0.out.tel hT)
  have HB1 := Lib.hid (hT.off.heap HB0.out Hn0.out)
  have Hn1 : Hid (¬ G0 C) := hT.not Hn0.out (heap_lt HB0.out)
  clear hT hD hy HP0 HR0 HC0 HM0 HB0 Hn0
  clear f4 g0
  have g : v1.cell? ⟨C, 4, none⟩ = some (.int .u32 0) := blk_cell HB1.out rfl
  have gz := fun i => blk_free (b := C) HB1.out i
  go_upto_region 25 with fail
  clear g gz
  have hset : (v1.setCell ⟨C, 4, none⟩ (.int .u32 (z0 : Int))).heap[C]? = some (.cells (aCells { noAk (4, y1, y2) with id := z0 } noAkP).toArray 48 (0, 0)) := block_setCell HB1.out (i := 4) (.int .u32 (z0 : Int))
  have hq := HP1.out.set (C := C) hWC Hn1.out 4 (.int .u32 (z0 : Int))
  obtain ⟨v2, hw⟩ : ∃ q, v1.setCell ⟨C, 4, none⟩ (.int .u32 (z0 : Int)) = q := ⟨_, rfl⟩
  rw [hw] at hset hq ⊢
  have HB2 := Lib.hid hset
  have HP2 := Lib.hid hq
  clear hw hset hq HB1 HP1
  have HRB := Lib.hid (HXR.out _ (HXH.out.step HP2.out.tt).now)
  go_wp2_with (first
   | (refine wpList_load (v := .agg (aCells { noAk (4, y1, y2) with id := z0 } noAkP).toArray) rfl rfl (load_blk (vs := (aCells { noAk (4, y1, y2) with id := z0 } noAkP)) HB2.out (fun j v hj => by simpa using hj) rfl (akc_info2 _ _)) ?_; simp only [Act.put])
   | (refine wpList_store_mid rfl 48 (.tmp 4) (.tmp 138) rfl (w.heap.size + 1) 0 (aCells { noAk (4, y1, y2) with id := z0 } noAkP).toArray rfl rfl (blk_there HRB.out (Nat.le_refl _)) (akc_info _ _) (akc_one _ _) ?_))
  have hset := setCells_blk (b := w.heap.size + 1) (aCells { noAk (4, y1, y2) with id := z0 } noAkP) 0 _ _ HRB.out
  rw [setAll_all (by rfl)] at hset
  have HTO := Lib.hid (HP2.out.tt.store' HB.out (R := w.heap.size + 1) (by omega) (HP2.out.tt.not HN2.out.1 HN2.out.2) 0 (aCells { noAk (4, y1, y2) with id := z0 } noAkP))
  have HOW := Lib.hid ((HP2.out.y.store (R := w.heap.size + 1) (.inl HN2.out.2) 0 (aCells { noAk (4, y1, y2) with id := z0 } noAkP)).own (s := w.heap.size) fun k hk => .inl (Nat.lt_of_lt_of_le hk HB.out.size))
  have HSE := Lib.hid hset
  clear hset
  refine bodyPost_ret (results_cell_row rfl _ _ (w.heap.size + 1) 48 (aCells { noAk (4, y1, y2) with id := z0 } noAkP).toArray (0, 0) _ rfl HSE.out Try.underlying48 rfl (akc_info _ _)) rfl ?_
  exact ⟨mkAk4 (4, y1, y2) z0, ⟨noStgP, noEvP, noPlP.q⟩, _, _, _, rfl, HTO.out, HOW.out.imp (fun V hV => ⟨noStg_at _, noEvt_at _, (noPl_at V).q⟩), dn_ak HHL.out (dn_ak4 HD0.out)⟩
 by_cases h5 : y0 = 5
 ·subst h5
  have HZK : Hid (∀ V, XB V → V.cell? ⟨w.heap.size, 27, none⟩ = some (.int .i64 x.query.win.1) ∧ V.cell? ⟨w.heap.size, 28, none⟩ = some (.int .i64 x.query.win.2) ∧ V.cell? ⟨w.heap.size, 29, none⟩ = some (.int .i64 x.query.long) ∧ V.cell? ⟨w.heap.size, 30, none⟩ = some (.int .i64 x.query.grid) ∧ V.cell? ⟨w.heap.size, 31, none⟩ = some (.slice p.q.A1 x.query.must.length p.q.c1) ∧ V.cell? ⟨w.heap.size, 32, none⟩ = some (.slice p.q.A2 x.query.may.length p.q.c2) ∧ V.cell? ⟨w.heap.size, 33, none⟩ = some (.int .i64 x.query.seats) ∧ V.cell? ⟨w.heap.size, 34, none⟩ = some (.slice p.q.A3 x.query.apart.length p.q.c3) ∧ V.cell? ⟨w.heap.size, 35, none⟩ = some (.slice p.q.A4 x.query.prefer.length p.q.c4) ∧ V.cell? ⟨w.heap.size, 36, none⟩ = some (.string ⟨x.cursor.toArray⟩) ∧ V.cell? ⟨w.heap.size, 37, none⟩ = some (.int .i64 x.count)) := fun V hV => by
   have hV := HXV.out V hV
   exact ⟨blk_cell hV rfl, blk_cell hV rfl, blk_cell hV rfl, blk_cell hV rfl, blk_cell hV rfl, blk_cell hV rfl, blk_cell hV rfl, blk_cell hV rfl, blk_cell hV rfl, blk_cell hV rfl, blk_cell hV rfl⟩
  have HC0 := Lib.hid (fun mx bx Fx wx h hr hz hm => pquery_any P x.query p.q HXF.out.query mx bx Fx wx h hr hz hm)
  have HC1 := Lib.hid (fun mx bx Fx wx h hr => ptext_any P x.cursor 64 (by decide) mx bx Fx wx h hr)
  have HC2 := Lib.hid (fun mx bx Fx wx h hr => pcount_any P x.count HXF.out.count mx bx Fx wx h hr)
  have HR0 : Hid (m2.Room (cdQy.cost x.query + ((cdText 64).cost x.cursor + ((cdInt 100).cost x.count + 0)))) := HR.out.mono (by show cdQy.cost x.query + ((x.cursor.length + 10) + (10 + 0)) ≤ akTail x; unfold akTail; omega)
  have HM0 := Lib.hid HM.out
  have g0 : w5.cell? ⟨C, 0, none⟩ = some (.int .i64 5) := blk_cell HE5.out rfl
  have HP0 := Lib.hid HQ5.out
  have HB0 := Lib.hid HE5.out
  have Hn0 := Lib.hid HnC.out
  go_upto_region 13 with fail
  clear g0
  refine wp_region_lexO XB (fun k => [3, 7, 11, 13, 15, 17].contains k) [0, 1, 2, 4, 5, 6, 8, 9, 10, 3, 12, 7, 11, 13, 14, 15, 16, 17] rfl (by kernel_rfl) (by kernel_rfl) (by kernel_rfl) (fun _ _ _ _ _ h => h) (by have := HXB.out _ (HXH.out.step HQ5.out.tt).now; exact HXD.out _ this) ?_
  have hd5 := Below.refl w5.heap.size w5 |>.drew
  have hp0 : Sq W1 w5.drew P m2 b2 F F2 C (fun _ => True) := ⟨HP0.out.tt.below hd5, OwnK.const trivial⟩
  have hb0 := blk_below HB0.out hd5
  clear HP0 HB0 hd5
  generalize World.drew w5 = v0 at *
  have HP0 := Lib.hid hp0
  have HB0 := Lib.hid hb0
  clear hp0 hb0
  refine wpHo_name fun OPS hOPS => ?_
  have hk0 := congrArg (fun x => x[0]?) hOPS
  simp only [List.getElem?_toArray, List.getElem?_cons_zero, List.getElem?_cons_succ] at hk0
  have hk1 := congrArg (fun x => x[1]?) hOPS
  simp only [List.getElem?_toArray, List.getElem?_cons_zero, List.getElem?_cons_succ] at hk1
  have hk2 := congrArg (fun x => x[2]?) hOPS
  simp only [List.getElem?_toArray, List.getElem?_cons_zero, List.getElem?_cons_succ] at hk2
  have hk3 := congrArg (fun x => x[3]?) hOPS
  simp only [List.getElem?_toArray, List.getElem?_cons_zero, List.getElem?_cons_succ] at hk3
  have hk4 := congrArg (fun x => x[4]?) hOPS
  simp only [List.getElem?_toArray, List.getElem?_cons_zero, List.getElem?_cons_succ] at hk4
  have hk5 := congrArg (fun x => x[5]?) hOPS
  simp only [List.getElem?_toArray, List.getElem?_cons_zero, List.getElem?_cons_succ] at hk5
  have hk6 := congrArg (fun x => x[6]?) hOPS
  simp only [List.getElem?_toArray, List.getElem?_cons_zero, List.getElem?_cons_succ] at hk6
  have hk7 := congrArg (fun x => x[7]?) hOPS
  simp only [List.getElem?_toArray, List.getElem?_cons_zero, List.getElem?_cons_succ] at hk7
  have hk8 := congrArg (fun x => x[8]?) hOPS
  simp only [List.getElem?_toArray, List.getElem?_cons_zero, List.getElem?_cons_succ] at hk8
  have hk9 := congrArg (fun x => x[9]?) hOPS
  simp only [List.getElem?_toArray, List.getElem?_cons_zero, List.getElem?_cons_succ] at hk9
  have hk10 := congrArg (fun x => x[10]?) hOPS
  simp only [List.getElem?_toArray, List.getElem?_cons_zero, List.getElem?_cons_succ] at hk10
  have hk11 := congrArg (fun x => x[11]?) hOPS
  simp only [List.getElem?_toArray, List.getElem?_cons_zero, List.getElem?_cons_succ] at hk11
  have hk12 := congrArg (fun x => x[12]?) hOPS
  simp only [List.getElem?_toArray, List.getElem?_cons_zero, List.getElem?_cons_succ] at hk12
  have hk13 := congrArg (fun x => x[13]?) hOPS
  simp only [List.getElem?_toArray, List.getElem?_cons_zero, List.getElem?_cons_succ] at hk13
  have hk14 := congrArg (fun x => x[14]?) hOPS
  simp only [List.getElem?_toArray, List.getElem?_cons_zero, List.getElem?_cons_succ] at hk14
  have hk15 := congrArg (fun x => x[15]?) hOPS
  simp only [List.getElem?_toArray, List.getElem?_cons_zero, List.getElem?_cons_succ] at hk15
  have hk16 := congrArg (fun x => x[16]?) hOPS
  simp only [List.getElem?_toArray, List.getElem?_cons_zero, List.getElem?_cons_succ] at hk16
  have hk17 := congrArg (fun x => x[17]?) hOPS
  simp only [List.getElem?_toArray, List.getElem?_cons_zero, List.getElem?_cons_succ] at hk17
  clear hOPS
  refine wpHo_yes (v := ?_) hk0 rfl rfl (fun w' hS => ?_) ?_; rotate_left; (go_simp; with_reducible rfl); (try simp only [Act.put, List.setIfInBounds_toArray, List.set_cons_zero, List.set_cons_succ])
  refine wpHo_yes (v := ?_) hk1 rfl rfl (fun w' hS => ?_) ?_; rotate_left; (go_simp; with_reducible rfl); (try simp only [Act.put, List.setIfInBounds_toArray, List.set_cons_zero, List.set_cons_succ])
  refine wpHo_yes (v := ?_) hk2 rfl rfl (fun w' hS => ?_) ?_; rotate_left; (obtain ⟨f27, f28, f29, f30, f31, f32, f33, f34, f35, f36, f37⟩ := HZK.out w' hS; go_simp; with_reducible rfl); (try simp only [Act.put, List.setIfInBounds_toArray, List.set_cons_zero, List.set_cons_succ])
  refine wpHo_yes (v := ?_) hk4 rfl rfl (fun w' hS => ?_) ?_; rotate_left; (go_simp; with_reducible rfl); (try simp only [Act.put, List.setIfInBounds_toArray, List.set_cons_zero, List.set_cons_succ])
  refine wpHo_yes (v := ?_) hk5 rfl rfl (fun w' hS => ?_) ?_; rotate_left; (go_simp; with_reducible rfl); (try simp only [Act.put, List.setIfInBounds_toArray, List.set_cons_zero, List.set_cons_succ])
  refine wpHo_yes (v := ?_) hk6 rfl rfl (fun w' hS => ?_) ?_; rotate_left; (obtain ⟨f27, f28, f29, f30, f31, f32, f33, f34, f35, f36, f37⟩ := HZK.out w' hS; go_simp; with_reducible rfl); (try simp only [Act.put, List.setIfInBounds_toArray, List.set_cons_zero, List.set_cons_succ])
  refine wpHo_yes (v := ?_) hk8 rfl rfl (fun w' hS => ?_) ?_; rotate_left; (go_simp; with_reducible rfl); (try simp only [Act.put, List.setIfInBounds_toArray, List.set_cons_zero, List.set_cons_succ])
  refine wpHo_yes (v := ?_) hk9 rfl rfl (fun w' hS => ?_) ?_; rotate_left; (go_simp; with_reducible rfl); (try simp only [Act.put, List.setIfInBounds_toArray, List.set_cons_zero, List.set_cons_succ])
  refine wpHo_yes (v := ?_) hk10 rfl rfl (fun w' hS => ?_) ?_; rotate_left; (obtain ⟨f27, f28, f29, f30, f31, f32, f33, f34, f35, f36, f37⟩ := HZK.out w' hS; go_simp; with_reducible rfl); (try simp only [Act.put, List.setIfInBounds_toArray, List.set_cons_zero, List.set_cons_succ])
  refine wpHo_callYes hk3 rfl rfl (fun K hK => ?_)
  go_simp
  go_at_call 26
  refine (HC0.out _ _ _ _ HP0.out.tt.at_ (HR0.out.mono (Nat.le_add_right _ _)) (fun hm => by rw [HZ.out (HM0.out hm)] <;> rfl) ((HXH.out.step HP0.out.tt).imp fun V hV => (HXM.out V hV).q)).mono ?_
  rintro e v1 ⟨z0, q0, n0, a0, G0, rfl, hT, hO, hD⟩
  have HD0 := Lib.hid hD
  have HR1 := Lib.hid (hD.room HR0.out)
  have HM1 : Hid (n0.Rd → m.Rd) := fun hm => HM0.out (hD.mode.1 hm)
  have HP1 := Lib.hid (HP0.out.told hT hO (heap_lt HB0.out))
  have HB1 := Lib.hid (hT.off.heap HB0.out Hn0.out)
  have Hn1 : Hid (¬ G0 C) := hT.not Hn0.out (heap_lt HB0.out)
  clear hT hD hO HP0 HR0 HC0 HM0 HB0 Hn0
  refine hK _ _ (HXB.out _ (HXH.out.step HP1.out.tt).now) (fun _ => ?_)
  (try simp only [Act.put, List.setIfInBounds_toArray, List.set_cons_zero, List.set_cons_succ])
  (try simp only [qCells])
  clear hK K
  refine wpHo_yes (v := ?_) hk12 rfl rfl (fun w' hS => ?_) ?_; rotate_left; (go_simp; with_reducible rfl); (try simp only [Act.put, List.setIfInBounds_toArray, List.set_cons_zero, List.set_cons_succ])
  refine wpHo_callYes hk7 rfl rfl (fun K hK => ?_)
  go_simp
  go_at_call 27
  refine (HC1.out _ _ _ _ HP1.out.tt.at_ (HR1.out.mono (Nat.le_add_right _ _))).mono ?_
  rintro e v2 ⟨z1, n1, a1, G1, rfl, hT, hD, hy⟩
  have HD1 := Lib.hid hD
  have HR2 := Lib.hid (hD.room HR1.out)
  have HM2 : Hid (n1.Rd → m.Rd) := fun hm => HM1.out (hD.mode.1 hm)
  have HP2 := Lib.hid (HP1.out.tel hT)
  have HB2 := Lib.hid (hT.off.heap HB1.out Hn1.out)
  have Hn2 : Hid (¬ G1 C) := hT.not Hn1.out (heap_lt HB1.out)
  clear hT hD hy HP1 HR1 HC1 HM1 HB1 Hn1
  refine hK _ _ (HXB.out _ (HXH.out.step HP2.out.tt).now) (fun _ => ?_)
  (try simp only [Act.put, List.setIfInBounds_toArray, List.set_cons_zero, List.set_cons_succ])
  clear hK K
  refine wpHo_callYes hk11 rfl rfl (fun K hK => ?_)
  go_simp
  go_at_call 28
  refine (HC2.out _ _ _ _ HP2.out.tt.at_ (HR2.out.mono (Nat.le_add_right _ _))).mono ?_
  rintro e v3 ⟨z2, n2, a2, G2, rfl, hT, hD, hy⟩
  have HD2 := Lib.hid hD
  have HR3 := Lib.hid (hD.room HR2.out)
  have HM3 : Hid (n2.Rd → m.Rd) := fun hm => HM2.out (hD.mode.1 hm)
  have HP3 := Lib.hid (HP2.out.tel hT)
  have HB3 := Lib.hid (hT.off.heap HB2.out Hn2.out)
  have Hn3 : Hid (¬ G2 C) := hT.not Hn2.out (heap_lt HB2.out)
  clear hT hD hy HP2 HR2 HC2 HM2 HB2 Hn2
  refine hK _ _ (HXB.out _ (HXH.out.step HP3.out.tt).now) (fun _ => ?_)
  (try simp only [Act.put, List.setIfInBounds_toArray, List.set_cons_zero, List.set_cons_succ])
  clear hK K
  have HXX : Hid (XB v3) := HXB.out _ (HXH.out.step HP3.out.tt).now
  have HnX := Lib.hid Hn3.out
  refine wpHo_callYes hk13 rfl rfl (fun K hK => ?_)
  refine wp_store_mid 46 (.tmp 69) (.tmp 60) rfl C 27 #[.int .i64 z0.win.1, .int .i64 z0.win.2, .int .i64 z0.long, .int .i64 z0.grid, .slice q0.A1 z0.must.length q0.c1, .slice q0.A2 z0.may.length q0.c2, .int .i64 z0.seats, .slice q0.A3 z0.apart.length q0.c3, .slice q0.A4 z0.prefer.length q0.c4] rfl rfl (blk_there HB3.out (by show 27 + 9 ≤ 42; decide)) (by kernel_rfl) (by simp [Value.oneCell']) ?_
  have HXY : Hid (XB (v3.setCells C 27 [.int .i64 z0.win.1, .int .i64 z0.win.2, .int .i64 z0.long, .int .i64 z0.grid, .slice q0.A1 z0.must.length q0.c1, .slice q0.A2 z0.may.length q0.c2, .int .i64 z0.seats, .slice q0.A3 z0.apart.length q0.c3, .slice q0.A4 z0.prefer.length q0.c4])) := HXS.out _ _ _ _ HCne.out HXX.out
  refine hK _ _ HXY.out (fun _ => ?_)
  (try simp only [Act.put, List.setIfInBounds_toArray, List.set_cons_zero, List.set_cons_succ])
  clear hK K
  clear HXX
  have HXX := Lib.hid HXY.out
  clear HXY
  have hset := setCells_blk (b := C) [.int .i64 z0.win.1, .int .i64 z0.win.2, .int .i64 z0.long, .int .i64 z0.grid, .slice q0.A1 z0.must.length q0.c1, .slice q0.A2 z0.may.length q0.c2, .int .i64 z0.seats, .slice q0.A3 z0.apart.length q0.c3, .slice q0.A4 z0.prefer.length q0.c4] 27 _ _ HB3.out
  have hset : (v3.setCells C 27 [.int .i64 z0.win.1, .int .i64 z0.win.2, .int .i64 z0.long, .int .i64 z0.grid, .slice q0.A1 z0.must.length q0.c1, .slice q0.A2 z0.may.length q0.c2, .int .i64 z0.seats, .slice q0.A3 z0.apart.length q0.c3, .slice q0.A4 z0.prefer.length q0.c4]).heap[C]? = some (.cells (aCells { noAk (5, y1, y2) with query := z0 } { noAkP with q := q0 }).toArray 48 (0, 0)) := hset.trans (congrArg (fun z => some (Obj.cells z 48 (0, 0))) (akc_query _ _ _ _))
  have hq := HP3.out.store (C := C) hWC HnX.out 27 [.int .i64 z0.win.1, .int .i64 z0.win.2, .int .i64 z0.long, .int .i64 z0.grid, .slice q0.A1 z0.must.length q0.c1, .slice q0.A2 z0.may.length q0.c2, .int .i64 z0.seats, .slice q0.A3 z0.apart.length q0.c3, .slice q0.A4 z0.prefer.length q0.c4]
  obtain ⟨v4, hw⟩ : ∃ q, v3.setCells C 27 [.int .i64 z0.win.1, .int .i64 z0.win.2, .int .i64 z0.long, .int .i64 z0.grid, .slice q0.A1 z0.must.length q0.c1, .slice q0.A2 z0.may.length q0.c2, .int .i64 z0.seats, .slice q0.A3 z0.apart.length q0.c3, .slice q0.A4 z0.prefer.length q0.c4] = q := ⟨_, rfl⟩
  have hwb : v3.setCells C 27 #[.int .i64 z0.win.1, .int .i64 z0.win.2, .int .i64 z0.long, .int .i64 z0.grid, .slice q0.A1 z0.must.length q0.c1, .slice q0.A2 z0.may.length q0.c2, .int .i64 z0.seats, .slice q0.A3 z0.apart.length q0.c3, .slice q0.A4 z0.prefer.length q0.c4].toList = v4 := hw
  rw [hwb]
  rw [hw] at hset hq HXX
  have HB4 := Lib.hid hset
  have HP4 := Lib.hid hq
  clear hw hwb hset hq HB3 HP3
  refine wpHo_yes (v := ?_) hk14 rfl rfl (fun w' hS => ?_) ?_; rotate_left; (go_simp; with_reducible rfl); (try simp only [Act.put, List.setIfInBounds_toArray, List.set_cons_zero, List.set_cons_succ])
  have g : v4.cell? ⟨C, 36, none⟩ = some (.string ⟨#[]⟩) := blk_cell HB4.out rfl
  have gz := fun i => blk_free (b := C) HB4.out i
  refine wpHo_callYes hk15 rfl rfl (fun K hK => ?_)
  go_simp
  clear g gz
  have HXY : Hid (XB (v4.setCell ⟨C, 36, none⟩ (.string ⟨z1.toArray⟩))) := HXS.out _ C 36 [.string ⟨z1.toArray⟩] HCne.out HXX.out
  refine hK _ _ HXY.out (fun _ => ?_)
  (try simp only [Act.put, List.setIfInBounds_toArray, List.set_cons_zero, List.set_cons_succ])
  clear hK K
  clear HXX
  have HXX := Lib.hid HXY.out
  clear HXY
  have hset : (v4.setCell ⟨C, 36, none⟩ (.string ⟨z1.toArray⟩)).heap[C]? = some (.cells (aCells { noAk (5, y1, y2) with query := z0, cursor := z1 } { noAkP with q := q0 }).toArray 48 (0, 0)) := block_setCell HB4.out (i := 36) (.string ⟨z1.toArray⟩)
  have hq := HP4.out.set (C := C) hWC HnX.out 36 (.string ⟨z1.toArray⟩)
  obtain ⟨v5, hw⟩ : ∃ q, v4.setCell ⟨C, 36, none⟩ (.string ⟨z1.toArray⟩) = q := ⟨_, rfl⟩
  rw [hw] at hset hq HXX ⊢
  have HB5 := Lib.hid hset
  have HP5 := Lib.hid hq
  clear hw hset hq HB4 HP4
  refine wpHo_yes (v := ?_) hk16 rfl rfl (fun w' hS => ?_) ?_; rotate_left; (go_simp; with_reducible rfl); (try simp only [Act.put, List.setIfInBounds_toArray, List.set_cons_zero, List.set_cons_succ])
  have g : v5.cell? ⟨C, 37, none⟩ = some (.int .i64 0) := blk_cell HB5.out rfl
  have gz := fun i => blk_free (b := C) HB5.out i
  refine wpHo_callYes hk17 rfl rfl (fun K hK => ?_)
  go_simp
  clear g gz
  have HXY : Hid (XB (v5.setCell ⟨C, 37, none⟩ (.int .i64 z2))) := HXS.out _ C 37 [.int .i64 z2] HCne.out HXX.out
  refine hK _ _ HXY.out (fun _ => ?_)
  (try simp only [Act.put, List.setIfInBounds_toArray, List.set_cons_zero, List.set_cons_succ])
  clear hK K
  clear HXX
  have HXX := Lib.hid HXY.out
  clear HXY
  have hset : (v5.setCell ⟨C, 37, none⟩ (.int .i64 z2)).heap[C]? = some (.cells (aCells { noAk (5, y1, y2) with query := z0, cursor := z1, count := z2 } { noAkP with q := q0 }).toArray 48 (0, 0)) := block_setCell HB5.out (i := 37) (.int .i64 z2)
  have hq := HP5.out.set (C := C) hWC HnX.out 37 (.int .i64 z2)
  obtain ⟨v6, hw⟩ : ∃ q, v5.setCell ⟨C, 37, none⟩ (.int .i64 z2) = q := ⟨_, rfl⟩
  rw [hw] at hset hq HXX ⊢
  have HB6 := Lib.hid hset
  have HP6 := Lib.hid hq
  clear hw hset hq HB5 HP5
  first | show Exit.then _ _ _ _ _ | show Exit.inBlock _ _ _ _ _
  have HRB := Lib.hid (HXR.out _ (HXH.out.step HP6.out.tt).now)
  go_wp2_with (first
   | (refine wpList_load (v := .agg (aCells { noAk (5, y1, y2) with query := z0, cursor := z1, count := z2 } { noAkP with q := q0 }).toArray) rfl rfl (load_blk (vs := (aCells { noAk (5, y1, y2) with query := z0, cursor := z1, count := z2 } { noAkP with q := q0 })) HB6.out (fun j v hj => by simpa using hj) rfl (akc_info2 _ _)) ?_; simp only [Act.put])
   | (refine wpList_store_mid rfl 48 (.tmp 4) (.tmp 138) rfl (w.heap.size + 1) 0 (aCells { noAk (5, y1, y2) with query := z0, cursor := z1, count := z2 } { noAkP with q := q0 }).toArray rfl rfl (blk_there HRB.out (Nat.le_refl _)) (akc_info _ _) (akc_one _ _) ?_))
  have hset := setCells_blk (b := w.heap.size + 1) (aCells { noAk (5, y1, y2) with query := z0, cursor := z1, count := z2 } { noAkP with q := q0 }) 0 _ _ HRB.out
  rw [setAll_all (by rfl)] at hset
  have HTO := Lib.hid (HP6.out.tt.store' HB.out (R := w.heap.size + 1) (by omega) (HP6.out.tt.not HN2.out.1 HN2.out.2) 0 (aCells { noAk (5, y1, y2) with query := z0, cursor := z1, count := z2 } { noAkP with q := q0 }))
  have HOW := Lib.hid ((HP6.out.y.store (R := w.heap.size + 1) (.inl HN2.out.2) 0 (aCells { noAk (5, y1, y2) with query := z0, cursor := z1, count := z2 } { noAkP with q := q0 })).own (s := w.heap.size) fun k hk => .inl (Nat.lt_of_lt_of_le hk HB.out.size))
  have HSE := Lib.hid hset
  clear hset
  refine bodyPost_ret (results_cell_row rfl _ _ (w.heap.size + 1) 48 (aCells { noAk (5, y1, y2) with query := z0, cursor := z1, count := z2 } { noAkP with q := q0 }).toArray (0, 0) _ rfl HSE.out Try.underlying48 rfl (akc_info _ _)) rfl ?_
  exact ⟨mkAk5 (5, y1, y2) (z0, z1, z2), ⟨noStgP, noEvP, q0⟩, _, _, _, rfl, HTO.out, HOW.out.imp (fun V hV => ⟨noStg_at _, noEvt_at _, hV.2⟩), dn_ak HHL.out (dn_ak5 (HD0.out.pair (HD1.out.pair HD2.out)))⟩
 by_cases h6 : y0 = 6
 ·subst h6
  have HZK : Hid (∀ V, XB V → V.cell? ⟨w.heap.size, 27, none⟩ = some (.int .i64 x.query.win.1) ∧ V.cell? ⟨w.heap.size, 28, none⟩ = some (.int .i64 x.query.win.2) ∧ V.cell? ⟨w.heap.size, 29, none⟩ = some (.int .i64 x.query.long) ∧ V.cell? ⟨w.heap.size, 30, none⟩ = some (.int .i64 x.query.grid) ∧ V.cell? ⟨w.heap.size, 31, none⟩ = some (.slice p.q.A1 x.query.must.length p.q.c1) ∧ V.cell? ⟨w.heap.size, 32, none⟩ = some (.slice p.q.A2 x.query.may.length p.q.c2) ∧ V.cell? ⟨w.heap.size, 33, none⟩ = some (.int .i64 x.query.seats) ∧ V.cell? ⟨w.heap.size, 34, none⟩ = some (.slice p.q.A3 x.query.apart.length p.q.c3) ∧ V.cell? ⟨w.heap.size, 35, none⟩ = some (.slice p.q.A4 x.query.prefer.length p.q.c4) ∧ V.cell? ⟨w.heap.size, 37, none⟩ = some (.int .i64 x.count) ∧ V.cell? ⟨w.heap.size, 38, none⟩ = some (.int .u32 (x.poll : Int)) ∧ V.cell? ⟨w.heap.size, 41, none⟩ = some (.int .i64 x.until_)) := fun V hV => by
   have hV := HXV.out V hV
   exact ⟨blk_cell hV rfl, blk_cell hV rfl, blk_cell hV rfl, blk_cell hV rfl, blk_cell hV rfl, blk_cell hV rfl, blk_cell hV rfl, blk_cell hV rfl, blk_cell hV rfl, blk_cell hV rfl, blk_cell hV rfl, blk_cell hV rfl⟩
  have HC0 := Lib.hid (fun mx bx Fx wx h hr => pid_any P x.poll HXF.out.poll mx bx Fx wx h hr)
  have HC1 := Lib.hid (fun mx bx Fx wx h hr hz hm => pquery_any P x.query p.q HXF.out.query mx bx Fx wx h hr hz hm)
  have HC2 := Lib.hid (fun mx bx Fx wx h hr => pcount_any P x.count HXF.out.count mx bx Fx wx h hr)
  have HC3 := Lib.hid (fun mx bx Fx wx h hr => psigned_any P x.until_ HXF.out.until_ mx bx Fx wx h hr)
  have HR0 : Hid (m2.Room ((cdNum 4294967295).cost x.poll + (cdQy.cost x.query + ((cdInt 100).cost x.count + (cdSig.cost x.until_ + 0))))) := HR.out.mono (by show 10 + (cdQy.cost x.query + (10 + (10 + 0))) ≤ akTail x; unfold akTail; omega)
  have HM0 := Lib.hid HM.out
  have g0 : w5.cell? ⟨C, 0, none⟩ = some (.int .i64 6) := blk_cell HE5.out rfl
  have HP0 := Lib.hid HQ5.out
  have HB0 := Lib.hid HE5.out
  have Hn0 := Lib.hid HnC.out
  go_upto_region 15 with fail
  clear g0
  refine wp_region_lexO XB (fun k => [3, 7, 11, 15, 17, 19, 21, 23].contains k) [0, 1, 2, 4, 5, 6, 8, 9, 10, 12, 13, 14, 3, 16, 7, 11, 15, 17, 18, 19, 20, 21, 22, 23] rfl (by kernel_rfl) (by kernel_rfl) (by kernel_rfl) (fun _ _ _ _ _ h => h) (by have := HXB.out _ (HXH.out.step HQ5.out.tt).now; exact HXD.out _ this) ?_
  have hd5 := Below.refl w5.heap.size w5 |>.drew
  have hp0 : Sq W1 w5.drew P m2 b2 F F2 C (fun _ => True) := ⟨HP0.out.tt.below hd5, OwnK.const trivial⟩
  have hb0 := blk_below HB0.out hd5
  clear HP0 HB0 hd5
  generalize World.drew w5 = v0 at *
  have HP0 := Lib.hid hp0
  have HB0 := Lib.hid hb0
  clear hp0 hb0
  refine wpHo_name fun OPS hOPS => ?_
  have hk0 := congrArg (fun x => x[0]?) hOPS
  simp only [List.getElem?_toArray, List.getElem?_cons_zero, List.getElem?_cons_succ] at hk0
  have hk1 := congrArg (fun x => x[1]?) hOPS
  simp only [List.getElem?_toArray, List.getElem?_cons_zero, List.getElem?_cons_succ] at hk1
  have hk2 := congrArg (fun x => x[2]?) hOPS
  simp only [List.getElem?_toArray, List.getElem?_cons_zero, List.getElem?_cons_succ] at hk2
  have hk3 := congrArg (fun x => x[3]?) hOPS
  simp only [List.getElem?_toArray, List.getElem?_cons_zero, List.getElem?_cons_succ] at hk3
  have hk4 := congrArg (fun x => x[4]?) hOPS
  simp only [List.getElem?_toArray, List.getElem?_cons_zero, List.getElem?_cons_succ] at hk4
  have hk5 := congrArg (fun x => x[5]?) hOPS
  simp only [List.getElem?_toArray, List.getElem?_cons_zero, List.getElem?_cons_succ] at hk5
  have hk6 := congrArg (fun x => x[6]?) hOPS
  simp only [List.getElem?_toArray, List.getElem?_cons_zero, List.getElem?_cons_succ] at hk6
  have hk7 := congrArg (fun x => x[7]?) hOPS
  simp only [List.getElem?_toArray, List.getElem?_cons_zero, List.getElem?_cons_succ] at hk7
  have hk8 := congrArg (fun x => x[8]?) hOPS
  simp only [List.getElem?_toArray, List.getElem?_cons_zero, List.getElem?_cons_succ] at hk8
  have hk9 := congrArg (fun x => x[9]?) hOPS
  simp only [List.getElem?_toArray, List.getElem?_cons_zero, List.getElem?_cons_succ] at hk9
  have hk10 := congrArg (fun x => x[10]?) hOPS
  simp only [List.getElem?_toArray, List.getElem?_cons_zero, List.getElem?_cons_succ] at hk10
  have hk11 := congrArg (fun x => x[11]?) hOPS
  simp only [List.getElem?_toArray, List.getElem?_cons_zero, List.getElem?_cons_succ] at hk11
  have hk12 := congrArg (fun x => x[12]?) hOPS
  simp only [List.getElem?_toArray, List.getElem?_cons_zero, List.getElem?_cons_succ] at hk12
  have hk13 := congrArg (fun x => x[13]?) hOPS
  simp only [List.getElem?_toArray, List.getElem?_cons_zero, List.getElem?_cons_succ] at hk13
  have hk14 := congrArg (fun x => x[14]?) hOPS
  simp only [List.getElem?_toArray, List.getElem?_cons_zero, List.getElem?_cons_succ] at hk14
  have hk15 := congrArg (fun x => x[15]?) hOPS
  simp only [List.getElem?_toArray, List.getElem?_cons_zero, List.getElem?_cons_succ] at hk15
  have hk16 := congrArg (fun x => x[16]?) hOPS
  simp only [List.getElem?_toArray, List.getElem?_cons_zero, List.getElem?_cons_succ] at hk16
  have hk17 := congrArg (fun x => x[17]?) hOPS
  simp only [List.getElem?_toArray, List.getElem?_cons_zero, List.getElem?_cons_succ] at hk17
  have hk18 := congrArg (fun x => x[18]?) hOPS
  simp only [List.getElem?_toArray, List.getElem?_cons_zero, List.getElem?_cons_succ] at hk18
  have hk19 := congrArg (fun x => x[19]?) hOPS
  simp only [List.getElem?_toArray, List.getElem?_cons_zero, List.getElem?_cons_succ] at hk19
  have hk20 := congrArg (fun x => x[20]?) hOPS
  simp only [List.getElem?_toArray, List.getElem?_cons_zero, List.getElem?_cons_succ] at hk20
  have hk21 := congrArg (fun x => x[21]?) hOPS
  simp only [List.getElem?_toArray, List.getElem?_cons_zero, List.getElem?_cons_succ] at hk21
  have hk22 := congrArg (fun x => x[22]?) hOPS
  simp only [List.getElem?_toArray, List.getElem?_cons_zero, List.getElem?_cons_succ] at hk22
  have hk23 := congrArg (fun x => x[23]?) hOPS
  simp only [List.getElem?_toArray, List.getElem?_cons_zero, List.getElem?_cons_succ] at hk23
  clear hOPS
  refine wpHo_yes (v := ?_) hk0 rfl rfl (fun w' hS => ?_) ?_; rotate_left; (go_simp; with_reducible rfl); (try simp only [Act.put, List.setIfInBounds_toArray, List.set_cons_zero, List.set_cons_succ])
  refine wpHo_yes (v := ?_) hk1 rfl rfl (fun w' hS => ?_) ?_; rotate_left; (go_simp; with_reducible rfl); (try simp only [Act.put, List.setIfInBounds_toArray, List.set_cons_zero, List.set_cons_succ])
  refine wpHo_yes (v := ?_) hk2 rfl rfl (fun w' hS => ?_) ?_; rotate_left; (obtain ⟨f27, f28, f29, f30, f31, f32, f33, f34, f35, f37, f38, f41⟩ := HZK.out w' hS; go_simp; with_reducible rfl); (try simp only [Act.put, List.setIfInBounds_toArray, List.set_cons_zero, List.set_cons_succ])
  refine wpHo_yes (v := ?_) hk4 rfl rfl (fun w' hS => ?_) ?_; rotate_left; (go_simp; with_reducible rfl); (try simp only [Act.put, List.setIfInBounds_toArray, List.set_cons_zero, List.set_cons_succ])
  refine wpHo_yes (v := ?_) hk5 rfl rfl (fun w' hS => ?_) ?_; rotate_left; (go_simp; with_reducible rfl); (try simp only [Act.put, List.setIfInBounds_toArray, List.set_cons_zero, List.set_cons_succ])
  refine wpHo_yes (v := ?_) hk6 rfl rfl (fun w' hS => ?_) ?_; rotate_left; (obtain ⟨f27, f28, f29, f30, f31, f32, f33, f34, f35, f37, f38, f41⟩ := HZK.out w' hS; go_simp; with_reducible rfl); (try simp only [Act.put, List.setIfInBounds_toArray, List.set_cons_zero, List.set_cons_succ])
  refine wpHo_yes (v := ?_) hk8 rfl rfl (fun w' hS => ?_) ?_; rotate_left; (go_simp; with_reducible rfl); (try simp only [Act.put, List.setIfInBounds_toArray, List.set_cons_zero, List.set_cons_succ])
  refine wpHo_yes (v := ?_) hk9 rfl rfl (fun w' hS => ?_) ?_; rotate_left; (go_simp; with_reducible rfl); (try simp only [Act.put, List.setIfInBounds_toArray, List.set_cons_zero, List.set_cons_succ])
  refine wpHo_yes (v := ?_) hk10 rfl rfl (fun w' hS => ?_) ?_; rotate_left; (obtain ⟨f27, f28, f29, f30, f31, f32, f33, f34, f35, f37, f38, f41⟩ := HZK.out w' hS; go_simp; with_reducible rfl); (try simp only [Act.put, List.setIfInBounds_toArray, List.set_cons_zero, List.set_cons_succ])
  refine wpHo_yes (v := ?_) hk12 rfl rfl (fun w' hS => ?_) ?_; rotate_left; (go_simp; with_reducible rfl); (try simp only [Act.put, List.setIfInBounds_toArray, List.set_cons_zero, List.set_cons_succ])
  refine wpHo_yes (v := ?_) hk13 rfl rfl (fun w' hS => ?_) ?_; rotate_left; (go_simp; with_reducible rfl); (try simp only [Act.put, List.setIfInBounds_toArray, List.set_cons_zero, List.set_cons_succ])
  refine wpHo_yes (v := ?_) hk14 rfl rfl (fun w' hS => ?_) ?_; rotate_left; (obtain ⟨f27, f28, f29, f30, f31, f32, f33, f34, f35, f37, f38, f41⟩ := HZK.out w' hS; go_simp; with_reducible rfl); (try simp only [Act.put, List.setIfInBounds_toArray, List.set_cons_zero, List.set_cons_succ])
  refine wpHo_callYes hk3 rfl rfl (fun K hK => ?_)
  go_simp
  go_at_call 22
  refine (HC0.out _ _ _ _ HP0.out.tt.at_ (HR0.out.mono (Nat.le_add_right _ _))).mono ?_
  rintro e v1 ⟨z0, n0, a0, G0, rfl, hT, hD, hy⟩
  have HD0 := Lib.hid hD
  have HR1 := Lib.hid (hD.room HR0.out)
  have HM1 : Hid (n0.Rd → m.Rd) := fun hm => HM0.out (hD.mode.1 hm)
  have HP1 := Lib.hid (HP0.out.tel hT)
  have HB1 := Lib.hid (hT.off.heap HB0.out Hn0.out)
  have Hn1 : Hid (¬ G0 C) := hT.not Hn0.out (heap_lt HB0.out)
  clear hT hD hy HP0 HR0 HC0 HM0 HB0 Hn0
  refine hK _ _ (HXB.out _ (HXH.out.step HP1.out.tt).now) (fun _ => ?_)
  (try simp only [Act.put, List.setIfInBounds_toArray, List.set_cons_zero, List.set_cons_succ])
  clear hK K
  refine wpHo_yes (v := ?_) hk16 rfl rfl (fun w' hS => ?_) ?_; rotate_left; (go_simp; with_reducible rfl); (try simp only [Act.put, List.setIfInBounds_toArray, List.set_cons_zero, List.set_cons_succ])
  refine wpHo_callYes hk7 rfl rfl (fun K hK => ?_)
  go_simp
  go_at_call 26
  refine (HC1.out _ _ _ _ HP1.out.tt.at_ (HR1.out.mono (Nat.le_add_right _ _)) (fun hm => by rw [HZ.out (HM1.out hm)] <;> rfl) ((HXH.out.step HP1.out.tt).imp fun V hV => (HXM.out V hV).q)).mono ?_
  rintro e v2 ⟨z1, q1, n1, a1, G1, rfl, hT, hO, hD⟩
  have HD1 := Lib.hid hD
  have HR2 := Lib.hid (hD.room HR1.out)
  have HM2 : Hid (n1.Rd → m.Rd) := fun hm => HM1.out (hD.mode.1 hm)
  have HP2 := Lib.hid (HP1.out.told hT hO (heap_lt HB1.out))
  have HB2 := Lib.hid (hT.off.heap HB1.out Hn1.out)
  have Hn2 : Hid (¬ G1 C) := hT.not Hn1.out (heap_lt HB1.out)
  clear hT hD hO HP1 HR1 HC1 HM1 HB1 Hn1
  refine hK _ _ (HXB.out _ (HXH.out.step HP2.out.tt).now) (fun _ => ?_)
  (try simp only [Act.put, List.setIfInBounds_toArray, List.set_cons_zero, List.set_cons_succ])
  (try simp only [qCells])
  clear hK K
  refine wpHo_callYes hk11 rfl rfl (fun K hK => ?_)
  go_simp
  go_at_call 28
  refine (HC2.out _ _ _ _ HP2.out.tt.at_ (HR2.out.mono (Nat.le_add_right _ _))).mono ?_
  rintro e v3 ⟨z2, n2, a2, G2, rfl, hT, hD, hy⟩
  have HD2 := Lib.hid hD
  have HR3 := Lib.hid (hD.room HR2.out)
  have HM3 : Hid (n2.Rd → m.Rd) := fun hm => HM2.out (hD.mode.1 hm)
  have HP3 := Lib.hid (HP2.out.tel hT)
  have HB3 := Lib.hid (hT.off.heap HB2.out Hn2.out)
  have Hn3 : Hid (¬ G2 C) := hT.not Hn2.out (heap_lt HB2.out)
  clear hT hD hy HP2 HR2 HC2 HM2 HB2 Hn2
  refine hK _ _ (HXB.out _ (HXH.out.step HP3.out.tt).now) (fun _ => ?_)
  (try simp only [Act.put, List.setIfInBounds_toArray, List.set_cons_zero, List.set_cons_succ])
  clear hK K
  refine wpHo_callYes hk15 rfl rfl (fun K hK => ?_)
  go_simp
  go_at_call 29
  refine (HC3.out _ _ _ _ HP3.out.tt.at_ (HR3.out.mono (Nat.le_add_right _ _))).mono ?_
  rintro e v4 ⟨z3, n3, a3, G3, rfl, hT, hD, hy⟩
  have HD3 := Lib.hid hD
  have HR4 := Lib.hid (hD.room HR3.out)
  have HM4 : Hid (n3.Rd → m.Rd) := fun hm => HM3.out (hD.mode.1 hm)
  have HP4 := Lib.hid (HP3.out.tel hT)
  have HB4 := Lib.hid (hT.off.heap HB3.out Hn3.out)
  have Hn4 : Hid (¬ G3 C) := hT.not Hn3.out (heap_lt HB3.out)
  clear hT hD hy HP3 HR3 HC3 HM3 HB3 Hn3
  refine hK _ _ (HXB.out _ (HXH.out.step HP4.out.tt).now) (fun _ => ?_)
  (try simp only [Act.put, List.setIfInBounds_toArray, List.set_cons_zero, List.set_cons_succ])
  clear hK K
  have HXX : Hid (XB v4) := HXB.out _ (HXH.out.step HP4.out.tt).now
  have HnX := Lib.hid Hn4.out
  have g : v4.cell? ⟨C, 38, none⟩ = some (.int .u32 0) := blk_cell HB4.out rfl
  have gz := fun i => blk_free (b := C) HB4.out i
  refine wpHo_callYes hk17 rfl rfl (fun K hK => ?_)
  go_simp
  clear g gz
  have HXY : Hid (XB (v4.setCell ⟨C, 38, none⟩ (.int .u32 (z0 : Int)))) := HXS.out _ C 38 [.int .u32 (z0 : Int)] HCne.out HXX.out
  refine hK _ _ HXY.out (fun _ => ?_)
  (try simp only [Act.put, List.setIfInBounds_toArray, List.set_cons_zero, List.set_cons_succ])
  clear hK K
  clear HXX
  have HXX := Lib.hid HXY.out
  clear HXY
  have hset : (v4.setCell ⟨C, 38, none⟩ (.int .u32 (z0 : Int))).heap[C]? = some (.cells (aCells { noAk (6, y1, y2) with poll := z0 } noAkP).toArray 48 (0, 0)) := block_setCell HB4.out (i := 38) (.int .u32 (z0 : Int))
  have hq := HP4.out.set (C := C) hWC HnX.out 38 (.int .u32 (z0 : Int))
  obtain ⟨v5, hw⟩ : ∃ q, v4.setCell ⟨C, 38, none⟩ (.int .u32 (z0 : Int)) = q := ⟨_, rfl⟩
  rw [hw] at hset hq HXX ⊢
  have HB5 := Lib.hid hset
  have HP5 := Lib.hid hq
  clear hw hset hq HB4 HP4
  refine wpHo_yes (v := ?_) hk18 rfl rfl (fun w' hS => ?_) ?_; rotate_left; (go_simp; with_reducible rfl); (try simp only [Act.put, List.setIfInBounds_toArray, List.set_cons_zero, List.set_cons_succ])
  refine wpHo_callYes hk19 rfl rfl (fun K hK => ?_)
  refine wp_store_mid 46 (.tmp 91) (.tmp 81) rfl C 27 #[.int .i64 z1.win.1, .int .i64 z1.win.2, .int .i64 z1.long, .int .i64 z1.grid, .slice q1.A1 z1.must.length q1.c1, .slice q1.A2 z1.may.length q1.c2, .int .i64 z1.seats, .slice q1.A3 z1.apart.length q1.c3, .slice q1.A4 z1.prefer.length q1.c4] rfl rfl (blk_there HB5.out (by show 27 + 9 ≤ 42; decide)) (by kernel_rfl) (by simp [Value.oneCell']) ?_
  have HXY : Hid (XB (v5.setCells C 27 [.int .i64 z1.win.1, .int .i64 z1.win.2, .int .i64 z1.long, .int .i64 z1.grid, .slice q1.A1 z1.must.length q1.c1, .slice q1.A2 z1.may.length q1.c2, .int .i64 z1.seats, .slice q1.A3 z1.apart.length q1.c3, .slice q1.A4 z1.prefer.length q1.c4])) := HXS.out _ _ _ _ HCne.out HXX.out
  refine hK _ _ HXY.out (fun _ => ?_)
  (try simp only [Act.put, List.setIfInBounds_toArray, List.set_cons_zero, List.set_cons_succ])
  clear hK K
  clear HXX
  have HXX := Lib.hid HXY.out
  clear HXY
  have hset := setCells_blk (b := C) [.int .i64 z1.win.1, .int .i64 z1.win.2, .int .i64 z1.long, .int .i64 z1.grid, .slice q1.A1 z1.must.length q1.c1, .slice q1.A2 z1.may.length q1.c2, .int .i64 z1.seats, .slice q1.A3 z1.apart.length q1.c3, .slice q1.A4 z1.prefer.length q1.c4] 27 _ _ HB5.out
  have hset : (v5.setCells C 27 [.int .i64 z1.win.1, .int .i64 z1.win.2, .int .i64 z1.long, .int .i64 z1.grid, .slice q1.A1 z1.must.length q1.c1, .slice q1.A2 z1.may.length q1.c2, .int .i64 z1.seats, .slice q1.A3 z1.apart.length q1.c3, .slice q1.A4 z1.prefer.length q1.c4]).heap[C]? = some (.cells (aCells { noAk (6, y1, y2) with query := z1, poll := z0 } { noAkP with q := q1 }).toArray 48 (0, 0)) := hset.trans (congrArg (fun z => some (Obj.cells z 48 (0, 0))) (akc_query _ _ _ _))
  have hq := HP5.out.store (C := C) hWC HnX.out 27 [.int .i64 z1.win.1, .int .i64 z1.win.2, .int .i64 z1.long, .int .i64 z1.grid, .slice q1.A1 z1.must.length q1.c1, .slice q1.A2 z1.may.length q1.c2, .int .i64 z1.seats, .slice q1.A3 z1.apart.length q1.c3, .slice q1.A4 z1.prefer.length q1.c4]
  obtain ⟨v6, hw⟩ : ∃ q, v5.setCells C 27 [.int .i64 z1.win.1, .int .i64 z1.win.2, .int .i64 z1.long, .int .i64 z1.grid, .slice q1.A1 z1.must.length q1.c1, .slice q1.A2 z1.may.length q1.c2, .int .i64 z1.seats, .slice q1.A3 z1.apart.length q1.c3, .slice q1.A4 z1.prefer.length q1.c4] = q := ⟨_, rfl⟩
  have hwb : v5.setCells C 27 #[.int .i64 z1.win.1, .int .i64 z1.win.2, .int .i64 z1.long, .int .i64 z1.grid, .slice q1.A1 z1.must.length q1.c1, .slice q1.A2 z1.may.length q1.c2, .int .i64 z1.seats, .slice q1.A3 z1.apart.length q1.c3, .slice q1.A4 z1.prefer.length q1.c4].toList = v6 := hw
  rw [hwb]
  rw [hw] at hset hq HXX
  have HB6 := Lib.hid hset
  have HP6 := Lib.hid hq
  clear hw hwb hset hq HB5 HP5
  refine wpHo_yes (v := ?_) hk20 rfl rfl (fun w' hS => ?_) ?_; rotate_left; (go_simp; with_reducible rfl); (try simp only [Act.put, List.setIfInBounds_toArray, List.set_cons_zero, List.set_cons_succ])
  have g : v6.cell? ⟨C, 37, none⟩ = some (.int .i64 0) := blk_cell HB6.out rfl
  have gz := fun i => blk_free (b := C) HB6.out i
  refine wpHo_callYes hk21 rfl rfl (fun K hK => ?_)
  go_simp
  clear g gz
  have HXY : Hid (XB (v6.setCell ⟨C, 37, none⟩ (.int .i64 z2))) := HXS.out _ C 37 [.int .i64 z2] HCne.out HXX.out
  refine hK _ _ HXY.out (fun _ => ?_)
  (try simp only [Act.put, List.setIfInBounds_toArray, List.set_cons_zero, List.set_cons_succ])
  clear hK K
  clear HXX
  have HXX := Lib.hid HXY.out
  clear HXY
  have hset : (v6.setCell ⟨C, 37, none⟩ (.int .i64 z2)).heap[C]? = some (.cells (aCells { noAk (6, y1, y2) with query := z1, count := z2, poll := z0 } { noAkP with q := q1 }).toArray 48 (0, 0)) := block_setCell HB6.out (i := 37) (.int .i64 z2)
  have hq := HP6.out.set (C := C) hWC HnX.out 37 (.int .i64 z2)
  obtain ⟨v7, hw⟩ : ∃ q, v6.setCell ⟨C, 37, none⟩ (.int .i64 z2) = q := ⟨_, rfl⟩
  rw [hw] at hset hq HXX ⊢
  have HB7 := Lib.hid hset
  have HP7 := Lib.hid hq
  clear hw hset hq HB6 HP6
  refine wpHo_yes (v := ?_) hk22 rfl rfl (fun w' hS => ?_) ?_; rotate_left; (go_simp; with_reducible rfl); (try simp only [Act.put, List.setIfInBounds_toArray, List.set_cons_zero, List.set_cons_succ])
  have g : v7.cell? ⟨C, 41, none⟩ = some (.int .i64 0) := blk_cell HB7.out rfl
  have gz := fun i => blk_free (b := C) HB7.out i
  refine wpHo_callYes hk23 rfl rfl (fun K hK => ?_)
  go_simp
  clear g gz
  have HXY : Hid (XB (v7.setCell ⟨C, 41, none⟩ (.int .i64 z3))) := HXS.out _ C 41 [.int .i64 z3] HCne.out HXX.out
  refine hK _ _ HXY.out (fun _ => ?_)
  (try simp only [Act.put, List.setIfInBounds_toArray, List.set_cons_zero, List.set_cons_succ])
  clear hK K
  clear HXX
  have HXX := Lib.hid HXY.out
  clear HXY
  have hset : (v7.setCell ⟨C, 41, none⟩ (.int .i64 z3)).heap[C]? = some (.cells (aCells { noAk (6, y1, y2) with query := z1, count := z2, poll := z0, until_ := z3 } { noAkP with q := q1 }).toArray 48 (0, 0)) := block_setCell HB7.out (i := 41) (.int .i64 z3)
  have hq := HP7.out.set (C := C) hWC HnX.out 41 (.int .i64 z3)
  obtain ⟨v8, hw⟩ : ∃ q, v7.setCell ⟨C, 41, none⟩ (.int .i64 z3) = q := ⟨_, rfl⟩
  rw [hw] at hset hq HXX ⊢
  have HB8 := Lib.hid hset
  have HP8 := Lib.hid hq
  clear hw hset hq HB7 HP7
  first | show Exit.then _ _ _ _ _ | show Exit.inBlock _ _ _ _ _
  have HRB := Lib.hid (HXR.out _ (HXH.out.step HP8.out.tt).now)
  go_wp2_with (first
   | (refine wpList_load (v := .agg (aCells { noAk (6, y1, y2) with query := z1, count := z2, poll := z0, until_ := z3 } { noAkP with q := q1 }).toArray) rfl rfl (load_blk (vs := (aCells { noAk (6, y1, y2) with query := z1, count := z2, poll := z0, until_ := z3 } { noAkP with q := q1 })) HB8.out (fun j v hj => by simpa using hj) rfl (akc_info2 _ _)) ?_; simp only [Act.put])
   | (refine wpList_store_mid rfl 48 (.tmp 4) (.tmp 138) rfl (w.heap.size + 1) 0 (aCells { noAk (6, y1, y2) with query := z1, count := z2, poll := z0, until_ := z3 } { noAkP with q := q1 }).toArray rfl rfl (blk_there HRB.out (Nat.le_refl _)) (akc_info _ _) (akc_one _ _) ?_))
  have hset := setCells_blk (b := w.heap.size + 1) (aCells { noAk (6, y1, y2) with query := z1, count := z2, poll := z0, until_ := z3 } { noAkP with q := q1 }) 0 _ _ HRB.out
  rw [setAll_all (by rfl)] at hset
  have HTO := Lib.hid (HP8.out.tt.store' HB.out (R := w.heap.size + 1) (by omega) (HP8.out.tt.not HN2.out.1 HN2.out.2) 0 (aCells { noAk (6, y1, y2) with query := z1, count := z2, poll := z0, until_ := z3 } { noAkP with q := q1 }))
  have HOW := Lib.hid ((HP8.out.y.store (R := w.heap.size + 1) (.inl HN2.out.2) 0 (aCells { noAk (6, y1, y2) with query := z1, count := z2, poll := z0, until_ := z3 } { noAkP with q := q1 })).own (s := w.heap.size) fun k hk => .inl (Nat.lt_of_lt_of_le hk HB.out.size))
  have HSE := Lib.hid hset
  clear hset
  refine bodyPost_ret (results_cell_row rfl _ _ (w.heap.size + 1) 48 (aCells { noAk (6, y1, y2) with query := z1, count := z2, poll := z0, until_ := z3 } { noAkP with q := q1 }).toArray (0, 0) _ rfl HSE.out Try.underlying48 rfl (akc_info _ _)) rfl ?_
  exact ⟨mkAk6 (6, y1, y2) (z0, z1, z2, z3), ⟨noStgP, noEvP, q1⟩, _, _, _, rfl, HTO.out, HOW.out.imp (fun V hV => ⟨noStg_at _, noEvt_at _, hV.2⟩), dn_ak HHL.out (dn_ak6 (HD0.out.pair (HD1.out.pair (HD2.out.pair HD3.out))))⟩
 by_cases h7 : y0 = 7
 ·subst h7
  have HZK : Hid (∀ V, XB V → V.cell? ⟨w.heap.size, 38, none⟩ = some (.int .u32 (x.poll : Int)) ∧ V.cell? ⟨w.heap.size, 39, none⟩ = some (.int .i64 x.slot) ∧ V.cell? ⟨w.heap.size, 40, none⟩ = some (.bool x.yes)) := fun V hV => by
   have hV := HXV.out V hV
   exact ⟨blk_cell hV rfl, blk_cell hV rfl, blk_cell hV rfl⟩
  have HC0 := Lib.hid (fun mx bx Fx wx h hr => pid_any P x.poll HXF.out.poll mx bx Fx wx h hr)
  have HC1 := Lib.hid (fun mx bx Fx wx h hr => pplace_any P x.slot HXF.out.slot mx bx Fx wx h hr)
  have HC2 := Lib.hid (fun mx bx Fx wx h hr => pflag_any P x.yes mx bx Fx wx h hr)
  have HR0 : Hid (m2.Room ((cdNum 4294967295).cost x.poll + ((cdInt 40).cost x.slot + (cdFlag.cost x.yes + 0)))) := HR.out.mono (by show 10 + (10 + (10 + 0)) ≤ akTail x; unfold akTail; omega)
  have HM0 := Lib.hid HM.out
  have g0 : w5.cell? ⟨C, 0, none⟩ = some (.int .i64 7) := blk_cell HE5.out rfl
  have HP0 := Lib.hid HQ5.out
  have HB0 := Lib.hid HE5.out
  have Hn0 := Lib.hid HnC.out
  go_upto_region 17 with fail
  clear g0
  refine wp_region_lexO XB (fun k => [3, 7, 11, 13, 15, 17].contains k) [0, 1, 2, 4, 5, 6, 8, 9, 10, 3, 12, 7, 11, 13, 14, 15, 16, 17] rfl (by kernel_rfl) (by kernel_rfl) (by kernel_rfl) (fun _ _ _ _ _ h => h) (by have := HXB.out _ (HXH.out.step HQ5.out.tt).now; exact HXD.out _ this) ?_
  have hd5 := Below.refl w5.heap.size w5 |>.drew
  have hp0 : Sq W1 w5.drew P m2 b2 F F2 C (fun _ => True) := ⟨HP0.out.tt.below hd5, OwnK.const trivial⟩
  have hb0 := blk_below HB0.out hd5
  clear HP0 HB0 hd5
  generalize World.drew w5 = v0 at *
  have HP0 := Lib.hid hp0
  have HB0 := Lib.hid hb0
  clear hp0 hb0
  refine wpHo_name fun OPS hOPS => ?_
  have hk0 := congrArg (fun x => x[0]?) hOPS
  simp only [List.getElem?_toArray, List.getElem?_cons_zero, List.getElem?_cons_succ] at hk0
  have hk1 := congrArg (fun x => x[1]?) hOPS
  simp only [List.getElem?_toArray, List.getElem?_cons_zero, List.getElem?_cons_succ] at hk1
  have hk2 := congrArg (fun x => x[2]?) hOPS
  simp only [List.getElem?_toArray, List.getElem?_cons_zero, List.getElem?_cons_succ] at hk2
  have hk3 := congrArg (fun x => x[3]?) hOPS
  simp only [List.getElem?_toArray, List.getElem?_cons_zero, List.getElem?_cons_succ] at hk3
  have hk4 := congrArg (fun x => x[4]?) hOPS
  simp only [List.getElem?_toArray, List.getElem?_cons_zero, List.getElem?_cons_succ] at hk4
  have hk5 := congrArg (fun x => x[5]?) hOPS
  simp only [List.getElem?_toArray, List.getElem?_cons_zero, List.getElem?_cons_succ] at hk5
  have hk6 := congrArg (fun x => x[6]?) hOPS
  simp only [List.getElem?_toArray, List.getElem?_cons_zero, List.getElem?_cons_succ] at hk6
  have hk7 := congrArg (fun x => x[7]?) hOPS
  simp only [List.getElem?_toArray, List.getElem?_cons_zero, List.getElem?_cons_succ] at hk7
  have hk8 := congrArg (fun x => x[8]?) hOPS
  simp only [List.getElem?_toArray, List.getElem?_cons_zero, List.getElem?_cons_succ] at hk8
  have hk9 := congrArg (fun x => x[9]?) hOPS
  simp only [List.getElem?_toArray, List.getElem?_cons_zero, List.getElem?_cons_succ] at hk9
  have hk10 := congrArg (fun x => x[10]?) hOPS
  simp only [List.getElem?_toArray, List.getElem?_cons_zero, List.getElem?_cons_succ] at hk10
  have hk11 := congrArg (fun x => x[11]?) hOPS
  simp only [List.getElem?_toArray, List.getElem?_cons_zero, List.getElem?_cons_succ] at hk11
  have hk12 := congrArg (fun x => x[12]?) hOPS
  simp only [List.getElem?_toArray, List.getElem?_cons_zero, List.getElem?_cons_succ] at hk12
  have hk13 := congrArg (fun x => x[13]?) hOPS
  simp only [List.getElem?_toArray, List.getElem?_cons_zero, List.getElem?_cons_succ] at hk13
  have hk14 := congrArg (fun x => x[14]?) hOPS
  simp only [List.getElem?_toArray, List.getElem?_cons_zero, List.getElem?_cons_succ] at hk14
  have hk15 := congrArg (fun x => x[15]?) hOPS
  simp only [List.getElem?_toArray, List.getElem?_cons_zero, List.getElem?_cons_succ] at hk15
  have hk16 := congrArg (fun x => x[16]?) hOPS
  simp only [List.getElem?_toArray, List.getElem?_cons_zero, List.getElem?_cons_succ] at hk16
  have hk17 := congrArg (fun x => x[17]?) hOPS
  simp only [List.getElem?_toArray, List.getElem?_cons_zero, List.getElem?_cons_succ] at hk17
  clear hOPS
  refine wpHo_yes (v := ?_) hk0 rfl rfl (fun w' hS => ?_) ?_; rotate_left; (go_simp; with_reducible rfl); (try simp only [Act.put, List.setIfInBounds_toArray, List.set_cons_zero, List.set_cons_succ])
  refine wpHo_yes (v := ?_) hk1 rfl rfl (fun w' hS => ?_) ?_; rotate_left; (go_simp; with_reducible rfl); (try simp only [Act.put, List.setIfInBounds_toArray, List.set_cons_zero, List.set_cons_succ])
  refine wpHo_yes (v := ?_) hk2 rfl rfl (fun w' hS => ?_) ?_; rotate_left; (obtain ⟨f38, f39, f40⟩ := HZK.out w' hS; go_simp; with_reducible rfl); (try simp only [Act.put, List.setIfInBounds_toArray, List.set_cons_zero, List.set_cons_succ])
  refine wpHo_yes (v := ?_) hk4 rfl rfl (fun w' hS => ?_) ?_; rotate_left; (go_simp; with_reducible rfl); (try simp only [Act.put, List.setIfInBounds_toArray, List.set_cons_zero, List.set_cons_succ])
  refine wpHo_yes (v := ?_) hk5 rfl rfl (fun w' hS => ?_) ?_; rotate_left; (go_simp; with_reducible rfl); (try simp only [Act.put, List.setIfInBounds_toArray, List.set_cons_zero, List.set_cons_succ])
  refine wpHo_yes (v := ?_) hk6 rfl rfl (fun w' hS => ?_) ?_; rotate_left; (obtain ⟨f38, f39, f40⟩ := HZK.out w' hS; go_simp; with_reducible rfl); (try simp only [Act.put, List.setIfInBounds_toArray, List.set_cons_zero, List.set_cons_succ])
  refine wpHo_yes (v := ?_) hk8 rfl rfl (fun w' hS => ?_) ?_; rotate_left; (go_simp; with_reducible rfl); (try simp only [Act.put, List.setIfInBounds_toArray, List.set_cons_zero, List.set_cons_succ])
  refine wpHo_yes (v := ?_) hk9 rfl rfl (fun w' hS => ?_) ?_; rotate_left; (go_simp; with_reducible rfl); (try simp only [Act.put, List.setIfInBounds_toArray, List.set_cons_zero, List.set_cons_succ])
  refine wpHo_yes (v := ?_) hk10 rfl rfl (fun w' hS => ?_) ?_; rotate_left; (obtain ⟨f38, f39, f40⟩ := HZK.out w' hS; go_simp; with_reducible rfl); (try simp only [Act.put, List.setIfInBounds_toArray, List.set_cons_zero, List.set_cons_succ])
  refine wpHo_callYes hk3 rfl rfl (fun K hK => ?_)
  go_simp
  go_at_call 22
  refine (HC0.out _ _ _ _ HP0.out.tt.at_ (HR0.out.mono (Nat.le_add_right _ _))).mono ?_
  rintro e v1 ⟨z0, n0, a0, G0, rfl, hT, hD, hy⟩
  have HD0 := Lib.hid hD
  have HR1 := Lib.hid (hD.room HR0.out)
  have HM1 : Hid (n0.Rd → m.Rd) := fun hm => HM0.out (hD.mode.1 hm)
  have HP1 := Lib.hid (HP0.out.tel hT)
  have HB1 := Lib.hid (hT.off.heap HB0.out Hn0.out)
  have Hn1 : Hid (¬ G0 C) := hT.not Hn0.out (heap_lt HB0.out)
  clear hT hD hy HP0 HR0 HC0 HM0 HB0 Hn0
  refine hK _ _ (HXB.out _ (HXH.out.step HP1.out.tt).now) (fun _ => ?_)
  (try simp only [Act.put, List.setIfInBounds_toArray, List.set_cons_zero, List.set_cons_succ])
  clear hK K
  refine wpHo_yes (v := ?_) hk12 rfl rfl (fun w' hS => ?_) ?_; rotate_left; (go_simp; with_reducible rfl); (try simp only [Act.put, List.setIfInBounds_toArray, List.set_cons_zero, List.set_cons_succ])
  refine wpHo_callYes hk7 rfl rfl (fun K hK => ?_)
  go_simp
  go_at_call 30
  refine (HC1.out _ _ _ _ HP1.out.tt.at_ (HR1.out.mono (Nat.le_add_right _ _))).mono ?_
  rintro e v2 ⟨z1, n1, a1, G1, rfl, hT, hD, hy⟩
  have HD1 := Lib.hid hD
  have HR2 := Lib.hid (hD.room HR1.out)
  have HM2 : Hid (n1.Rd → m.Rd) := fun hm => HM1.out (hD.mode.1 hm)
  have HP2 := Lib.hid (HP1.out.tel hT)
  have HB2 := Lib.hid (hT.off.heap HB1.out Hn1.out)
  have Hn2 : Hid (¬ G1 C) := hT.not Hn1.out (heap_lt HB1.out)
  clear hT hD hy HP1 HR1 HC1 HM1 HB1 Hn1
  refine hK _ _ (HXB.out _ (HXH.out.step HP2.out.tt).now) (fun _ => ?_)
  (try simp only [Act.put, List.setIfInBounds_toArray, List.set_cons_zero, List.set_cons_succ])
  clear hK K
  refine wpHo_callYes hk11 rfl rfl (fun K hK => ?_)
  go_simp
  go_at_call 31
  refine (HC2.out _ _ _ _ HP2.out.tt.at_ (HR2.out.mono (Nat.le_add_right _ _))).mono ?_
  rintro e v3 ⟨z2, n2, a2, G2, rfl, hT, hD, hy⟩
  have HD2 := Lib.hid hD
  have HR3 := Lib.hid (hD.room HR2.out)
  have HM3 : Hid (n2.Rd → m.Rd) := fun hm => HM2.out (hD.mode.1 hm)
  have HP3 := Lib.hid (HP2.out.tel hT)
  have HB3 := Lib.hid (hT.off.heap HB2.out Hn2.out)
  have Hn3 : Hid (¬ G2 C) := hT.not Hn2.out (heap_lt HB2.out)
  clear hT hD hy HP2 HR2 HC2 HM2 HB2 Hn2
  refine hK _ _ (HXB.out _ (HXH.out.step HP3.out.tt).now) (fun _ => ?_)
  (try simp only [Act.put, List.setIfInBounds_toArray, List.set_cons_zero, List.set_cons_succ])
  clear hK K
  have HXX : Hid (XB v3) := HXB.out _ (HXH.out.step HP3.out.tt).now
  have HnX := Lib.hid Hn3.out
  have g : v3.cell? ⟨C, 38, none⟩ = some (.int .u32 0) := blk_cell HB3.out rfl
  have gz := fun i => blk_free (b := C) HB3.out i
  refine wpHo_callYes hk13 rfl rfl (fun K hK => ?_)
  go_simp
  clear g gz
  have HXY : Hid (XB (v3.setCell ⟨C, 38, none⟩ (.int .u32 (z0 : Int)))) := HXS.out _ C 38 [.int .u32 (z0 : Int)] HCne.out HXX.out
  refine hK _ _ HXY.out (fun _ => ?_)
  (try simp only [Act.put, List.setIfInBounds_toArray, List.set_cons_zero, List.set_cons_succ])
  clear hK K
  clear HXX
  have HXX := Lib.hid HXY.out
  clear HXY
  have hset : (v3.setCell ⟨C, 38, none⟩ (.int .u32 (z0 : Int))).heap[C]? = some (.cells (aCells { noAk (7, y1, y2) with poll := z0 } noAkP).toArray 48 (0, 0)) := block_setCell HB3.out (i := 38) (.int .u32 (z0 : Int))
  have hq := HP3.out.set (C := C) hWC HnX.out 38 (.int .u32 (z0 : Int))
  obtain ⟨v4, hw⟩ : ∃ q, v3.setCell ⟨C, 38, none⟩ (.int .u32 (z0 : Int)) = q := ⟨_, rfl⟩
  rw [hw] at hset hq HXX ⊢
  have HB4 := Lib.hid hset
  have HP4 := Lib.hid hq
  clear hw hset hq HB3 HP3
  refine wpHo_yes (v := ?_) hk14 rfl rfl (fun w' hS => ?_) ?_; rotate_left; (go_simp; with_reducible rfl); (try simp only [Act.put, List.setIfInBounds_toArray, List.set_cons_zero, List.set_cons_succ])
  have g : v4.cell? ⟨C, 39, none⟩ = some (.int .i64 0) := blk_cell HB4.out rfl
  have gz := fun i => blk_free (b := C) HB4.out i
  refine wpHo_callYes hk15 rfl rfl (fun K hK => ?_)
  go_simp
  clear g gz
  have HXY : Hid (XB (v4.setCell ⟨C, 39, none⟩ (.int .i64 z1))) := HXS.out _ C 39 [.int .i64 z1] HCne.out HXX.out
  refine hK _ _ HXY.out (fun _ => ?_)
  (try simp only [Act.put, List.setIfInBounds_toArray, List.set_cons_zero, List.set_cons_succ])
  clear hK K
  clear HXX
  have HXX := Lib.hid HXY.out
  clear HXY
  have hset : (v4.setCell ⟨C, 39, none⟩ (.int .i64 z1)).heap[C]? = some (.cells (aCells { noAk (7, y1, y2) with poll := z0, slot := z1 } noAkP).toArray 48 (0, 0)) := block_setCell HB4.out (i := 39) (.int .i64 z1)
  have hq := HP4.out.set (C := C) hWC HnX.out 39 (.int .i64 z1)
  obtain ⟨v5, hw⟩ : ∃ q, v4.setCell ⟨C, 39, none⟩ (.int .i64 z1) = q := ⟨_, rfl⟩
  rw [hw] at hset hq HXX ⊢
  have HB5 := Lib.hid hset
  have HP5 := Lib.hid hq
  clear hw hset hq HB4 HP4
  refine wpHo_yes (v := ?_) hk16 rfl rfl (fun w' hS => ?_) ?_; rotate_left; (go_simp; with_reducible rfl); (try simp only [Act.put, List.setIfInBounds_toArray, List.set_cons_zero, List.set_cons_succ])
  have g : v5.cell? ⟨C, 40, none⟩ = some (.bool false) := blk_cell HB5.out rfl
  have gz := fun i => blk_free (b := C) HB5.out i
  refine wpHo_callYes hk17 rfl rfl (fun K hK => ?_)
  go_simp
  clear g gz
  have HXY : Hid (XB (v5.setCell ⟨C, 40, none⟩ (.bool z2))) := HXS.out _ C 40 [.bool z2] HCne.out HXX.out
  refine hK _ _ HXY.out (fun _ => ?_)
  (try simp only [Act.put, List.setIfInBounds_toArray, List.set_cons_zero, List.set_cons_succ])
  clear hK K
  clear HXX
  have HXX := Lib.hid HXY.out
  clear HXY
  have hset : (v5.setCell ⟨C, 40, none⟩ (.bool z2)).heap[C]? = some (.cells (aCells { noAk (7, y1, y2) with poll := z0, slot := z1, yes := z2 } noAkP).toArray 48 (0, 0)) := block_setCell HB5.out (i := 40) (.bool z2)
  have hq := HP5.out.set (C := C) hWC HnX.out 40 (.bool z2)
  obtain ⟨v6, hw⟩ : ∃ q, v5.setCell ⟨C, 40, none⟩ (.bool z2) = q := ⟨_, rfl⟩
  rw [hw] at hset hq HXX ⊢
  have HB6 := Lib.hid hset
  have HP6 := Lib.hid hq
  clear hw hset hq HB5 HP5
  first | show Exit.then _ _ _ _ _ | show Exit.inBlock _ _ _ _ _
  have HRB := Lib.hid (HXR.out _ (HXH.out.step HP6.out.tt).now)
  go_wp2_with (first
   | (refine wpList_load (v := .agg (aCells { noAk (7, y1, y2) with poll := z0, slot := z1, yes := z2 } noAkP).toArray) rfl rfl (load_blk (vs := (aCells { noAk (7, y1, y2) with poll := z0, slot := z1, yes := z2 } noAkP)) HB6.out (fun j v hj => by simpa using hj) rfl (akc_info2 _ _)) ?_; simp only [Act.put])
   | (refine wpList_store_mid rfl 48 (.tmp 4) (.tmp 138) rfl (w.heap.size + 1) 0 (aCells { noAk (7, y1, y2) with poll := z0, slot := z1, yes := z2 } noAkP).toArray rfl rfl (blk_there HRB.out (Nat.le_refl _)) (akc_info _ _) (akc_one _ _) ?_))
  have hset := setCells_blk (b := w.heap.size + 1) (aCells { noAk (7, y1, y2) with poll := z0, slot := z1, yes := z2 } noAkP) 0 _ _ HRB.out
  rw [setAll_all (by rfl)] at hset
  have HTO := Lib.hid (HP6.out.tt.store' HB.out (R := w.heap.size + 1) (by omega) (HP6.out.tt.not HN2.out.1 HN2.out.2) 0 (aCells { noAk (7, y1, y2) with poll := z0, slot := z1, yes := z2 } noAkP))
  have HOW := Lib.hid ((HP6.out.y.store (R := w.heap.size + 1) (.inl HN2.out.2) 0 (aCells { noAk (7, y1, y2) with poll := z0, slot := z1, yes := z2 } noAkP)).own (s := w.heap.size) fun k hk => .inl (Nat.lt_of_lt_of_le hk HB.out.size))
  have HSE := Lib.hid hset
  clear hset
  refine bodyPost_ret (results_cell_row rfl _ _ (w.heap.size + 1) 48 (aCells { noAk (7, y1, y2) with poll := z0, slot := z1, yes := z2 } noAkP).toArray (0, 0) _ rfl HSE.out Try.underlying48 rfl (akc_info _ _)) rfl ?_
  exact ⟨mkAk7 (7, y1, y2) (z0, z1, z2), ⟨noStgP, noEvP, noPlP.q⟩, _, _, _, rfl, HTO.out, HOW.out.imp (fun V hV => ⟨noStg_at _, noEvt_at _, (noPl_at V).q⟩), dn_ak HHL.out (dn_ak7 (HD0.out.pair (HD1.out.pair HD2.out)))⟩
 by_cases h8 : y0 = 8
 ·subst h8
  have HZK : Hid (∀ V, XB V → V.cell? ⟨w.heap.size, 38, none⟩ = some (.int .u32 (x.poll : Int))) := fun V hV => blk_cell (HXV.out V hV) rfl
  have HC0 := Lib.hid (fun mx bx Fx wx h hr => pid_any P x.poll HXF.out.poll mx bx Fx wx h hr)
  have HR0 : Hid (m2.Room ((cdNum 4294967295).cost x.poll + 0)) := HR.out.mono (by show 10 + 0 ≤ akTail x; unfold akTail; omega)
  have HM0 := Lib.hid HM.out
  have g0 : w5.cell? ⟨C, 0, none⟩ = some (.int .i64 8) := blk_cell HE5.out rfl
  have HP0 := Lib.hid HQ5.out
  have HB0 := Lib.hid HE5.out
  have Hn0 := Lib.hid HnC.out
  have f38 := HZK.out w5 (HXB.out _ (HXH.out.step HQ5.out.tt).now)
  go_wp2_with fail
  go_at_call 22
  refine (HC0.out _ _ _ _ HP0.out.tt.at_ (HR0.out.mono (Nat.le_add_right _ _))).mono ?_
  rintro e v1 ⟨z0, n0, a0, G0, rfl, hT, hD, hy⟩
  have HD0 := Lib.hid hD
  have HR1 := Lib.hid (hD.room HR0.out)
  have HM1 : Hid (n0.Rd → m.Rd) := fun hm => HM0.out (hD.mode.1 hm)
  have HP1 := Lib.hid (HP0.out.tel hT)
  have HB1 := Lib.hid (hT.off.heap HB0.out Hn0.out)
  have Hn1 : Hid (¬ G0 C) := hT.not Hn0.out (heap_lt HB0.out)
  clear hT hD hy HP0 HR0 HC0 HM0 HB0 Hn0
  clear f38 g0
  have g : v1.cell? ⟨C, 38, none⟩ = some (.int .u32 0) := blk_cell HB1.out rfl
  have gz := fun i => blk_free (b := C) HB1.out i
  go_upto_region 25 with fail
  clear g gz
  have hset : (v1.setCell ⟨C, 38, none⟩ (.int .u32 (z0 : Int))).heap[C]? = some (.cells (aCells { noAk (8, y1, y2) with poll := z0 } noAkP).toArray 48 (0, 0)) := block_setCell HB1.out (i := 38) (.int .u32 (z0 : Int))
  have hq := HP1.out.set (C := C) hWC Hn1.out 38 (.int .u32 (z0 : Int))
  obtain ⟨v2, hw⟩ : ∃ q, v1.setCell ⟨C, 38, none⟩ (.int .u32 (z0 : Int)) = q := ⟨_, rfl⟩
  rw [hw] at hset hq ⊢
  have HB2 := Lib.hid hset
  have HP2 := Lib.hid hq
  clear hw hset hq HB1 HP1
  have HRB := Lib.hid (HXR.out _ (HXH.out.step HP2.out.tt).now)
  go_wp2_with (first
   | (refine wpList_load (v := .agg (aCells { noAk (8, y1, y2) with poll := z0 } noAkP).toArray) rfl rfl (load_blk (vs := (aCells { noAk (8, y1, y2) with poll := z0 } noAkP)) HB2.out (fun j v hj => by simpa using hj) rfl (akc_info2 _ _)) ?_; simp only [Act.put])
   | (refine wpList_store_mid rfl 48 (.tmp 4) (.tmp 138) rfl (w.heap.size + 1) 0 (aCells { noAk (8, y1, y2) with poll := z0 } noAkP).toArray rfl rfl (blk_there HRB.out (Nat.le_refl _)) (akc_info _ _) (akc_one _ _) ?_))
  have hset := setCells_blk (b := w.heap.size + 1) (aCells { noAk (8, y1, y2) with poll := z0 } noAkP) 0 _ _ HRB.out
  rw [setAll_all (by rfl)] at hset
  have HTO := Lib.hid (HP2.out.tt.store' HB.out (R := w.heap.size + 1) (by omega) (HP2.out.tt.not HN2.out.1 HN2.out.2) 0 (aCells { noAk (8, y1, y2) with poll := z0 } noAkP))
  have HOW := Lib.hid ((HP2.out.y.store (R := w.heap.size + 1) (.inl HN2.out.2) 0 (aCells { noAk (8, y1, y2) with poll := z0 } noAkP)).own (s := w.heap.size) fun k hk => .inl (Nat.lt_of_lt_of_le hk HB.out.size))
  have HSE := Lib.hid hset
  clear hset
  refine bodyPost_ret (results_cell_row rfl _ _ (w.heap.size + 1) 48 (aCells { noAk (8, y1, y2) with poll := z0 } noAkP).toArray (0, 0) _ rfl HSE.out Try.underlying48 rfl (akc_info _ _)) rfl ?_
  exact ⟨mkAk8 (8, y1, y2) z0, ⟨noStgP, noEvP, noPlP.q⟩, _, _, _, rfl, HTO.out, HOW.out.imp (fun V hV => ⟨noStg_at _, noEvt_at _, (noPl_at V).q⟩), dn_ak HHL.out (dn_ak8 HD0.out)⟩
 by_cases h10 : y0 = 10
 ·subst h10
  have HZK : Hid (∀ V, XB V → V.cell? ⟨w.heap.size, 38, none⟩ = some (.int .u32 (x.poll : Int))) := fun V hV => blk_cell (HXV.out V hV) rfl
  have HC0 := Lib.hid (fun mx bx Fx wx h hr => pid_any P x.poll HXF.out.poll mx bx Fx wx h hr)
  have HR0 : Hid (m2.Room ((cdNum 4294967295).cost x.poll + 0)) := HR.out.mono (by show 10 + 0 ≤ akTail x; unfold akTail; omega)
  have HM0 := Lib.hid HM.out
  have g0 : w5.cell? ⟨C, 0, none⟩ = some (.int .i64 10) := blk_cell HE5.out rfl
  have HP0 := Lib.hid HQ5.out
  have HB0 := Lib.hid HE5.out
  have Hn0 := Lib.hid HnC.out
  have f38 := HZK.out w5 (HXB.out _ (HXH.out.step HQ5.out.tt).now)
  go_wp2_with fail
  go_at_call 22
  refine (HC0.out _ _ _ _ HP0.out.tt.at_ (HR0.out.mono (Nat.le_add_right _ _))).mono ?_
  rintro e v1 ⟨z0, n0, a0, G0, rfl, hT, hD, hy⟩
  have HD0 := Lib.hid hD
  have HR1 := Lib.hid (hD.room HR0.out)
  have HM1 : Hid (n0.Rd → m.Rd) := fun hm => HM0.out (hD.mode.1 hm)
  have HP1 := Lib.hid (HP0.out.tel hT)
  have HB1 := Lib.hid (hT.off.heap HB0.out Hn0.out)
  have Hn1 : Hid (¬ G0 C) := hT.not Hn0.out (heap_lt HB0.out)
  clear hT hD hy HP0 HR0 HC0 HM0 HB0 Hn0
  clear f38 g0
  have g : v1.cell? ⟨C, 38, none⟩ = some (.int .u32 0) := blk_cell HB1.out rfl
  have gz := fun i => blk_free (b := C) HB1.out i
  go_upto_region 25 with fail
  clear g gz
  have hset : (v1.setCell ⟨C, 38, none⟩ (.int .u32 (z0 : Int))).heap[C]? = some (.cells (aCells { noAk (10, y1, y2) with poll := z0 } noAkP).toArray 48 (0, 0)) := block_setCell HB1.out (i := 38) (.int .u32 (z0 : Int))
  have hq := HP1.out.set (C := C) hWC Hn1.out 38 (.int .u32 (z0 : Int))
  obtain ⟨v2, hw⟩ : ∃ q, v1.setCell ⟨C, 38, none⟩ (.int .u32 (z0 : Int)) = q := ⟨_, rfl⟩
  rw [hw] at hset hq ⊢
  have HB2 := Lib.hid hset
  have HP2 := Lib.hid hq
  clear hw hset hq HB1 HP1
  have HRB := Lib.hid (HXR.out _ (HXH.out.step HP2.out.tt).now)
  go_wp2_with (first
   | (refine wpList_load (v := .agg (aCells { noAk (10, y1, y2) with poll := z0 } noAkP).toArray) rfl rfl (load_blk (vs := (aCells { noAk (10, y1, y2) with poll := z0 } noAkP)) HB2.out (fun j v hj => by simpa using hj) rfl (akc_info2 _ _)) ?_; simp only [Act.put])
   | (refine wpList_store_mid rfl 48 (.tmp 4) (.tmp 138) rfl (w.heap.size + 1) 0 (aCells { noAk (10, y1, y2) with poll := z0 } noAkP).toArray rfl rfl (blk_there HRB.out (Nat.le_refl _)) (akc_info _ _) (akc_one _ _) ?_))
  have hset := setCells_blk (b := w.heap.size + 1) (aCells { noAk (10, y1, y2) with poll := z0 } noAkP) 0 _ _ HRB.out
  rw [setAll_all (by rfl)] at hset
  have HTO := Lib.hid (HP2.out.tt.store' HB.out (R := w.heap.size + 1) (by omega) (HP2.out.tt.not HN2.out.1 HN2.out.2) 0 (aCells { noAk (10, y1, y2) with poll := z0 } noAkP))
  have HOW := Lib.hid ((HP2.out.y.store (R := w.heap.size + 1) (.inl HN2.out.2) 0 (aCells { noAk (10, y1, y2) with poll := z0 } noAkP)).own (s := w.heap.size) fun k hk => .inl (Nat.lt_of_lt_of_le hk HB.out.size))
  have HSE := Lib.hid hset
  clear hset
  refine bodyPost_ret (results_cell_row rfl _ _ (w.heap.size + 1) 48 (aCells { noAk (10, y1, y2) with poll := z0 } noAkP).toArray (0, 0) _ rfl HSE.out Try.underlying48 rfl (akc_info _ _)) rfl ?_
  exact ⟨mkAk10 (10, y1, y2) z0, ⟨noStgP, noEvP, noPlP.q⟩, _, _, _, rfl, HTO.out, HOW.out.imp (fun V hV => ⟨noStg_at _, noEvt_at _, (noPl_at V).q⟩), dn_ak HHL.out (dn_ak10 HD0.out)⟩
 by_cases h9 : y0 = 9
 ·subst h9
  have HZK : Hid (∀ V, XB V → V.cell? ⟨w.heap.size, 4, none⟩ = some (.int .u32 (x.id : Int)) ∧ V.cell? ⟨w.heap.size, 38, none⟩ = some (.int .u32 (x.poll : Int))) := fun V hV => by
   have hV := HXV.out V hV
   exact ⟨blk_cell hV rfl, blk_cell hV rfl⟩
  have HC0 := Lib.hid (fun mx bx Fx wx h hr => pid_any P x.poll HXF.out.poll mx bx Fx wx h hr)
  have HC1 := Lib.hid (fun mx bx Fx wx h hr => pid_any P x.id HXF.out.id mx bx Fx wx h hr)
  have HR0 : Hid (m2.Room ((cdNum 4294967295).cost x.poll + ((cdNum 4294967295).cost x.id + 0))) := HR.out.mono (by show 10 + (10 + 0) ≤ akTail x; unfold akTail; omega)
  have HM0 := Lib.hid HM.out
  have g0 : w5.cell? ⟨C, 0, none⟩ = some (.int .i64 9) := blk_cell HE5.out rfl
  have HP0 := Lib.hid HQ5.out
  have HB0 := Lib.hid HE5.out
  have Hn0 := Lib.hid HnC.out
  go_upto_region 22 with fail
  clear g0
  refine wp_region_lexO XB (fun k => [3, 7, 9, 11].contains k) [0, 1, 2, 4, 5, 6, 3, 8, 7, 9, 10, 11] rfl (by kernel_rfl) (by kernel_rfl) (by kernel_rfl) (fun _ _ _ _ _ h => h) (by have := HXB.out _ (HXH.out.step HQ5.out.tt).now; exact HXD.out _ this) ?_
  have hd5 := Below.refl w5.heap.size w5 |>.drew
  have hp0 : Sq W1 w5.drew P m2 b2 F F2 C (fun _ => True) := ⟨HP0.out.tt.below hd5, OwnK.const trivial⟩
  have hb0 := blk_below HB0.out hd5
  clear HP0 HB0 hd5
  generalize World.drew w5 = v0 at *
  have HP0 := Lib.hid hp0
  have HB0 := Lib.hid hb0
  clear hp0 hb0
  refine wpHo_name fun OPS hOPS => ?_
  have hk0 := congrArg (fun x => x[0]?) hOPS
  simp only [List.getElem?_toArray, List.getElem?_cons_zero, List.getElem?_cons_succ] at hk0
  have hk1 := congrArg (fun x => x[1]?) hOPS
  simp only [List.getElem?_toArray, List.getElem?_cons_zero, List.getElem?_cons_succ] at hk1
  have hk2 := congrArg (fun x => x[2]?) hOPS
  simp only [List.getElem?_toArray, List.getElem?_cons_zero, List.getElem?_cons_succ] at hk2
  have hk3 := congrArg (fun x => x[3]?) hOPS
  simp only [List.getElem?_toArray, List.getElem?_cons_zero, List.getElem?_cons_succ] at hk3
  have hk4 := congrArg (fun x => x[4]?) hOPS
  simp only [List.getElem?_toArray, List.getElem?_cons_zero, List.getElem?_cons_succ] at hk4
  have hk5 := congrArg (fun x => x[5]?) hOPS
  simp only [List.getElem?_toArray, List.getElem?_cons_zero, List.getElem?_cons_succ] at hk5
  have hk6 := congrArg (fun x => x[6]?) hOPS
  simp only [List.getElem?_toArray, List.getElem?_cons_zero, List.getElem?_cons_succ] at hk6
  have hk7 := congrArg (fun x => x[7]?) hOPS
  simp only [List.getElem?_toArray, List.getElem?_cons_zero, List.getElem?_cons_succ] at hk7
  have hk8 := congrArg (fun x => x[8]?) hOPS
  simp only [List.getElem?_toArray, List.getElem?_cons_zero, List.getElem?_cons_succ] at hk8
  have hk9 := congrArg (fun x => x[9]?) hOPS
  simp only [List.getElem?_toArray, List.getElem?_cons_zero, List.getElem?_cons_succ] at hk9
  have hk10 := congrArg (fun x => x[10]?) hOPS
  simp only [List.getElem?_toArray, List.getElem?_cons_zero, List.getElem?_cons_succ] at hk10
  have hk11 := congrArg (fun x => x[11]?) hOPS
  simp only [List.getElem?_toArray, List.getElem?_cons_zero, List.getElem?_cons_succ] at hk11
  clear hOPS
  refine wpHo_yes (v := ?_) hk0 rfl rfl (fun w' hS => ?_) ?_; rotate_left; (go_simp; with_reducible rfl); (try simp only [Act.put, List.setIfInBounds_toArray, List.set_cons_zero, List.set_cons_succ])
  refine wpHo_yes (v := ?_) hk1 rfl rfl (fun w' hS => ?_) ?_; rotate_left; (go_simp; with_reducible rfl); (try simp only [Act.put, List.setIfInBounds_toArray, List.set_cons_zero, List.set_cons_succ])
  refine wpHo_yes (v := ?_) hk2 rfl rfl (fun w' hS => ?_) ?_; rotate_left; (obtain ⟨f4, f38⟩ := HZK.out w' hS; go_simp; with_reducible rfl); (try simp only [Act.put, List.setIfInBounds_toArray, List.set_cons_zero, List.set_cons_succ])
  refine wpHo_yes (v := ?_) hk4 rfl rfl (fun w' hS => ?_) ?_; rotate_left; (go_simp; with_reducible rfl); (try simp only [Act.put, List.setIfInBounds_toArray, List.set_cons_zero, List.set_cons_succ])
  refine wpHo_yes (v := ?_) hk5 rfl rfl (fun w' hS => ?_) ?_; rotate_left; (go_simp; with_reducible rfl); (try simp only [Act.put, List.setIfInBounds_toArray, List.set_cons_zero, List.set_cons_succ])
  refine wpHo_yes (v := ?_) hk6 rfl rfl (fun w' hS => ?_) ?_; rotate_left; (obtain ⟨f4, f38⟩ := HZK.out w' hS; go_simp; with_reducible rfl); (try simp only [Act.put, List.setIfInBounds_toArray, List.set_cons_zero, List.set_cons_succ])
  refine wpHo_callYes hk3 rfl rfl (fun K hK => ?_)
  go_simp
  go_at_call 22
  refine (HC0.out _ _ _ _ HP0.out.tt.at_ (HR0.out.mono (Nat.le_add_right _ _))).mono ?_
  rintro e v1 ⟨z0, n0, a0, G0, rfl, hT, hD, hy⟩
  have HD0 := Lib.hid hD
  have HR1 := Lib.hid (hD.room HR0.out)
  have HM1 : Hid (n0.Rd → m.Rd) := fun hm => HM0.out (hD.mode.1 hm)
  have HP1 := Lib.hid (HP0.out.tel hT)
  have HB1 := Lib.hid (hT.off.heap HB0.out Hn0.out)
  have Hn1 : Hid (¬ G0 C) := hT.not Hn0.out (heap_lt HB0.out)
  clear hT hD hy HP0 HR0 HC0 HM0 HB0 Hn0
  refine hK _ _ (HXB.out _ (HXH.out.step HP1.out.tt).now) (fun _ => ?_)
  (try simp only [Act.put, List.setIfInBounds_toArray, List.set_cons_zero, List.set_cons_succ])
  clear hK K
  refine wpHo_yes (v := ?_) hk8 rfl rfl (fun w' hS => ?_) ?_; rotate_left; (go_simp; with_reducible rfl); (try simp only [Act.put, List.setIfInBounds_toArray, List.set_cons_zero, List.set_cons_succ])
  refine wpHo_callYes hk7 rfl rfl (fun K hK => ?_)
  go_simp
  go_at_call 22
  refine (HC1.out _ _ _ _ HP1.out.tt.at_ (HR1.out.mono (Nat.le_add_right _ _))).mono ?_
  rintro e v2 ⟨z1, n1, a1, G1, rfl, hT, hD, hy⟩
  have HD1 := Lib.hid hD
  have HR2 := Lib.hid (hD.room HR1.out)
  have HM2 : Hid (n1.Rd → m.Rd) := fun hm => HM1.out (hD.mode.1 hm)
  have HP2 := Lib.hid (HP1.out.tel hT)
  have HB2 := Lib.hid (hT.off.heap HB1.out Hn1.out)
  have Hn2 : Hid (¬ G1 C) := hT.not Hn1.out (heap_lt HB1.out)
  clear hT hD hy HP1 HR1 HC1 HM1 HB1 Hn1
  refine hK _ _ (HXB.out _ (HXH.out.step HP2.out.tt).now) (fun _ => ?_)
  (try simp only [Act.put, List.setIfInBounds_toArray, List.set_cons_zero, List.set_cons_succ])
  clear hK K
  have HXX : Hid (XB v2) := HXB.out _ (HXH.out.step HP2.out.tt).now
  have HnX := Lib.hid Hn2.out
  have g : v2.cell? ⟨C, 38, none⟩ = some (.int .u32 0) := blk_cell HB2.out rfl
  have gz := fun i => blk_free (b := C) HB2.out i
  refine wpHo_callYes hk9 rfl rfl (fun K hK => ?_)
  go_simp
  clear g gz
  have HXY : Hid (XB (v2.setCell ⟨C, 38, none⟩ (.int .u32 (z0 : Int)))) := HXS.out _ C 38 [.int .u32 (z0 : Int)] HCne.out HXX.out
  refine hK _ _ HXY.out (fun _ => ?_)
  (try simp only [Act.put, List.setIfInBounds_toArray, List.set_cons_zero, List.set_cons_succ])
  clear hK K
  clear HXX
  have HXX := Lib.hid HXY.out
  clear HXY
  have hset : (v2.setCell ⟨C, 38, none⟩ (.int .u32 (z0 : Int))).heap[C]? = some (.cells (aCells { noAk (9, y1, y2) with poll := z0 } noAkP).toArray 48 (0, 0)) := block_setCell HB2.out (i := 38) (.int .u32 (z0 : Int))
  have hq := HP2.out.set (C := C) hWC HnX.out 38 (.int .u32 (z0 : Int))
  obtain ⟨v3, hw⟩ : ∃ q, v2.setCell ⟨C, 38, none⟩ (.int .u32 (z0 : Int)) = q := ⟨_, rfl⟩
  rw [hw] at hset hq HXX ⊢
  have HB3 := Lib.hid hset
  have HP3 := Lib.hid hq
  clear hw hset hq HB2 HP2
  refine wpHo_yes (v := ?_) hk10 rfl rfl (fun w' hS => ?_) ?_; rotate_left; (go_simp; with_reducible rfl); (try simp only [Act.put, List.setIfInBounds_toArray, List.set_cons_zero, List.set_cons_succ])
  have g : v3.cell? ⟨C, 4, none⟩ = some (.int .u32 0) := blk_cell HB3.out rfl
  have gz := fun i => blk_free (b := C) HB3.out i
  refine wpHo_callYes hk11 rfl rfl (fun K hK => ?_)
  go_simp
  clear g gz
  have HXY : Hid (XB (v3.setCell ⟨C, 4, none⟩ (.int .u32 (z1 : Int)))) := HXS.out _ C 4 [.int .u32 (z1 : Int)] HCne.out HXX.out
  refine hK _ _ HXY.out (fun _ => ?_)
  (try simp only [Act.put, List.setIfInBounds_toArray, List.set_cons_zero, List.set_cons_succ])
  clear hK K
  clear HXX
  have HXX := Lib.hid HXY.out
  clear HXY
  have hset : (v3.setCell ⟨C, 4, none⟩ (.int .u32 (z1 : Int))).heap[C]? = some (.cells (aCells { noAk (9, y1, y2) with id := z1, poll := z0 } noAkP).toArray 48 (0, 0)) := block_setCell HB3.out (i := 4) (.int .u32 (z1 : Int))
  have hq := HP3.out.set (C := C) hWC HnX.out 4 (.int .u32 (z1 : Int))
  obtain ⟨v4, hw⟩ : ∃ q, v3.setCell ⟨C, 4, none⟩ (.int .u32 (z1 : Int)) = q := ⟨_, rfl⟩
  rw [hw] at hset hq HXX ⊢
  have HB4 := Lib.hid hset
  have HP4 := Lib.hid hq
  clear hw hset hq HB3 HP3
  first | show Exit.then _ _ _ _ _ | show Exit.inBlock _ _ _ _ _
  have HRB := Lib.hid (HXR.out _ (HXH.out.step HP4.out.tt).now)
  go_wp2_with (first
   | (refine wpList_load (v := .agg (aCells { noAk (9, y1, y2) with id := z1, poll := z0 } noAkP).toArray) rfl rfl (load_blk (vs := (aCells { noAk (9, y1, y2) with id := z1, poll := z0 } noAkP)) HB4.out (fun j v hj => by simpa using hj) rfl (akc_info2 _ _)) ?_; simp only [Act.put])
   | (refine wpList_store_mid rfl 48 (.tmp 4) (.tmp 138) rfl (w.heap.size + 1) 0 (aCells { noAk (9, y1, y2) with id := z1, poll := z0 } noAkP).toArray rfl rfl (blk_there HRB.out (Nat.le_refl _)) (akc_info _ _) (akc_one _ _) ?_))
  have hset := setCells_blk (b := w.heap.size + 1) (aCells { noAk (9, y1, y2) with id := z1, poll := z0 } noAkP) 0 _ _ HRB.out
  rw [setAll_all (by rfl)] at hset
  have HTO := Lib.hid (HP4.out.tt.store' HB.out (R := w.heap.size + 1) (by omega) (HP4.out.tt.not HN2.out.1 HN2.out.2) 0 (aCells { noAk (9, y1, y2) with id := z1, poll := z0 } noAkP))
  have HOW := Lib.hid ((HP4.out.y.store (R := w.heap.size + 1) (.inl HN2.out.2) 0 (aCells { noAk (9, y1, y2) with id := z1, poll := z0 } noAkP)).own (s := w.heap.size) fun k hk => .inl (Nat.lt_of_lt_of_le hk HB.out.size))
  have HSE := Lib.hid hset
  clear hset
  refine bodyPost_ret (results_cell_row rfl _ _ (w.heap.size + 1) 48 (aCells { noAk (9, y1, y2) with id := z1, poll := z0 } noAkP).toArray (0, 0) _ rfl HSE.out Try.underlying48 rfl (akc_info _ _)) rfl ?_
  exact ⟨mkAk9 (9, y1, y2) (z0, z1), ⟨noStgP, noEvP, noPlP.q⟩, _, _, _, rfl, HTO.out, HOW.out.imp (fun V hV => ⟨noStg_at _, noEvt_at _, (noPl_at V).q⟩), dn_ak HHL.out (dn_ak9 (HD0.out.pair HD1.out))⟩
 by_cases h11 : y0 = 11
 ·subst h11
  have HZK : Hid (∀ V, XB V → V.cell? ⟨w.heap.size, 41, none⟩ = some (.int .i64 x.until_)) := fun V hV => blk_cell (HXV.out V hV) rfl
  have HC0 := Lib.hid (fun mx bx Fx wx h hr => psigned_any P x.until_ HXF.out.until_ mx bx Fx wx h hr)
  have HR0 : Hid (m2.Room (cdSig.cost x.until_ + 0)) := HR.out.mono (by show 10 + 0 ≤ akTail x; unfold akTail; omega)
  have HM0 := Lib.hid HM.out
  have g0 : w5.cell? ⟨C, 0, none⟩ = some (.int .i64 11) := blk_cell HE5.out rfl
  have HP0 := Lib.hid HQ5.out
  have HB0 := Lib.hid HE5.out
  have Hn0 := Lib.hid HnC.out
  have f41 := HZK.out w5 (HXB.out _ (HXH.out.step HQ5.out.tt).now)
  go_wp2_with fail
  go_at_call 29
  refine (HC0.out _ _ _ _ HP0.out.tt.at_ (HR0.out.mono (Nat.le_add_right _ _))).mono ?_
  rintro e v1 ⟨z0, n0, a0, G0, rfl, hT, hD, hy⟩
  have HD0 := Lib.hid hD
  have HR1 := Lib.hid (hD.room HR0.out)
  have HM1 : Hid (n0.Rd → m.Rd) := fun hm => HM0.out (hD.mode.1 hm)
  have HP1 := Lib.hid (HP0.out.tel hT)
  have HB1 := Lib.hid (hT.off.heap HB0.out Hn0.out)
  have Hn1 : Hid (¬ G0 C) := hT.not Hn0.out (heap_lt HB0.out)
  clear hT hD hy HP0 HR0 HC0 HM0 HB0 Hn0
  clear f41 g0
  have g : v1.cell? ⟨C, 41, none⟩ = some (.int .i64 0) := blk_cell HB1.out rfl
  have gz := fun i => blk_free (b := C) HB1.out i
  go_upto_region 25 with fail
  clear g gz
  have hset : (v1.setCell ⟨C, 41, none⟩ (.int .i64 z0)).heap[C]? = some (.cells (aCells { noAk (11, y1, y2) with until_ := z0 } noAkP).toArray 48 (0, 0)) := block_setCell HB1.out (i := 41) (.int .i64 z0)
  have hq := HP1.out.set (C := C) hWC Hn1.out 41 (.int .i64 z0)
  obtain ⟨v2, hw⟩ : ∃ q, v1.setCell ⟨C, 41, none⟩ (.int .i64 z0) = q := ⟨_, rfl⟩
  rw [hw] at hset hq ⊢
  have HB2 := Lib.hid hset
  have HP2 := Lib.hid hq
  clear hw hset hq HB1 HP1
  have HRB := Lib.hid (HXR.out _ (HXH.out.step HP2.out.tt).now)
  go_wp2_with (first
   | (refine wpList_load (v := .agg (aCells { noAk (11, y1, y2) with until_ := z0 } noAkP).toArray) rfl rfl (load_blk (vs := (aCells { noAk (11, y1, y2) with until_ := z0 } noAkP)) HB2.out (fun j v hj => by simpa using hj) rfl (akc_info2 _ _)) ?_; simp only [Act.put])
   | (refine wpList_store_mid rfl 48 (.tmp 4) (.tmp 138) rfl (w.heap.size + 1) 0 (aCells { noAk (11, y1, y2) with until_ := z0 } noAkP).toArray rfl rfl (blk_there HRB.out (Nat.le_refl _)) (akc_info _ _) (akc_one _ _) ?_))
  have hset := setCells_blk (b := w.heap.size + 1) (aCells { noAk (11, y1, y2) with until_ := z0 } noAkP) 0 _ _ HRB.out
  rw [setAll_all (by rfl)] at hset
  have HTO := Lib.hid (HP2.out.tt.store' HB.out (R := w.heap.size + 1) (by omega) (HP2.out.tt.not HN2.out.1 HN2.out.2) 0 (aCells { noAk (11, y1, y2) with until_ := z0 } noAkP))
  have HOW := Lib.hid ((HP2.out.y.store (R := w.heap.size + 1) (.inl HN2.out.2) 0 (aCells { noAk (11, y1, y2) with until_ := z0 } noAkP)).own (s := w.heap.size) fun k hk => .inl (Nat.lt_of_lt_of_le hk HB.out.size))
  have HSE := Lib.hid hset
  clear hset
  refine bodyPost_ret (results_cell_row rfl _ _ (w.heap.size + 1) 48 (aCells { noAk (11, y1, y2) with until_ := z0 } noAkP).toArray (0, 0) _ rfl HSE.out Try.underlying48 rfl (akc_info _ _)) rfl ?_
  exact ⟨mkAk11 (11, y1, y2) z0, ⟨noStgP, noEvP, noPlP.q⟩, _, _, _, rfl, HTO.out, HOW.out.imp (fun V hV => ⟨noStg_at _, noEvt_at _, (noPl_at V).q⟩), dn_ak HHL.out (dn_ak11 HD0.out)⟩
 have g0 : w5.cell? ⟨C, 0, none⟩ = some (.int .i64 y0) := blk_cell HE5.out rfl
 have hb1 : (y0 == 1) = false := by simpa using h1
 have hb2 : (y0 == 2) = false := by simpa using h2
 have hb3 : (y0 == 3) = false := by simpa using h3
 have hb4 : (y0 == 4) = false := by simpa using h4
 have hb5 : (y0 == 5) = false := by simpa using h5
 have hb6 : (y0 == 6) = false := by simpa using h6
 have hb7 : (y0 == 7) = false := by simpa using h7
 have hb8 : (y0 == 8) = false := by simpa using h8
 have hb9 : (y0 == 9) = false := by simpa using h9
 have hb10 : (y0 == 10) = false := by simpa using h10
 have hb11 : (y0 == 11) = false := by simpa using h11
 obtain ⟨px, py, hpc⟩ := HQ5.out.tt.at_.cells
 have c2 := blk_cell (i := 2) hpc rfl
 have cz := fun i => blk_free (b := P) hpc i
 have hPC : P ≠ C := fun e => by subst e; exact HnC.out HQ5.out.tt.at_.fP
 clear hpc
 go_upto_region 25 with fail
 have hwr := HQ5.out.tt.at_.wrong true
 have HQ6 := Lib.hid (HQ5.out.tel hwr)
 have HE6 := Lib.hid (hwr.off.heap HE5.out HnC.out)
 obtain ⟨w6, hw6⟩ : ∃ q, w5.setCell ⟨P, 2, none⟩ (.bool true) = q := ⟨_, rfl⟩
 rw [hw6] at HQ6 HE6 ⊢
 clear hw6 hwr c2 cz g0
 have HRB := Lib.hid (HXR.out _ (HXH.out.step HQ6.out.tt).now)
 go_wp2_with (first
  | (refine wpList_load (v := .agg (aCells (noAk (y0, y1, y2)) noAkP).toArray) rfl rfl (load_blk (vs := (aCells (noAk (y0, y1, y2)) noAkP)) HE6.out (fun j v hj => by simpa using hj) rfl (akc_info2 _ _)) ?_; simp only [Act.put])
  | (refine wpList_store_mid rfl 48 (.tmp 4) (.tmp 138) rfl (w.heap.size + 1) 0 (aCells (noAk (y0, y1, y2)) noAkP).toArray rfl rfl (blk_there HRB.out (Nat.le_refl _)) (akc_info _ _) (akc_one _ _) ?_))
 have hset := setCells_blk (b := w.heap.size + 1) (aCells (noAk (y0, y1, y2)) noAkP) 0 _ _ HRB.out
 rw [setAll_all (by rfl)] at hset
 have HTO := Lib.hid (HQ6.out.tt.store' HB.out (R := w.heap.size + 1) (by omega) (HQ6.out.tt.not HN2.out.1 HN2.out.2) 0 (aCells (noAk (y0, y1, y2)) noAkP))
 have HOW := Lib.hid ((HQ6.out.y.store (R := w.heap.size + 1) (.inl HN2.out.2) 0 (aCells (noAk (y0, y1, y2)) noAkP)).own (s := w.heap.size) fun k hk => .inl (Nat.lt_of_lt_of_le hk HB.out.size))
 have HSE := Lib.hid hset
 clear hset
 refine bodyPost_ret (results_cell_row rfl _ _ (w.heap.size + 1) 48 (aCells (noAk (y0, y1, y2)) noAkP).toArray (0, 0) _ rfl HSE.out Try.underlying48 rfl (akc_info _ _)) rfl ?_
 exact ⟨noAk (y0, y1, y2), noAkP, _, _, _, rfl, HTO.out, HOW.out.imp (fun V hV => ⟨noStg_at _, noEvt_at _, (noPl_at V).q⟩), dn_ak HHL.out (dn_akN (by omega))⟩
end Go.Proofs.Ytdhinjbkfffpeaa
end
