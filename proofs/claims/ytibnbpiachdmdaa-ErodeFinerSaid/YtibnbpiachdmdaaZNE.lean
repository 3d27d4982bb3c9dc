import Derived.Test.YtibnbpiachdmdaaZND
import Derived.Test.YtibnbpiachdmdaaZQL
import Derived.Deep.RegionHeld3
/- Contracts of the program's streams: what a stream of a row tells of a minute. -/
section
namespace Go.Proofs.Ytibnbpiachdmdaa
open Go.ChangeShapes Go.WideShapes Go.ChangeAt Go.RowKit Go.Joins Sp
/-- A stream was looked at: whether a minute is in, and up to where; what is known is put down later. -/
def LookTo (R : KR) (c : Value) (w w' : World) (b : Nat) (o : Ob) (K : Int → Prop) (m : Int) (n k : Nat) (F C : Nat → Prop) (inn : Bool) (u : Int) : Prop :=
  ∃ (o' : Ob) (n' k' : Nat), w'.heap[b]? = some (.cells o'.cs 54 (0, 0)) ∧ o'.lo = o.lo ∧ o'.hi = o.hi ∧ o'.Ok ∧ Kd R w' b { o' with inn := inn, unt := u } c K m n' F ∧ CtAt w' c k' C ∧ k' + n' ≤ k + n ∧
    Off (fun x => F x ∨ C x) w w' ∧ Int64P u ∧ m < u ∧ ∀ x, m ≤ x → x < u → (inn = true ↔ K x)
def LookRet (R : KR) (c : Value) (w : World) (b : Nat) (o : Ob) (K : Int → Prop) (m : Int) (n k : Nat) (F C : Nat → Prop) (e : Ending) (w' : World) : Prop :=
  ∃ inn u, e = .returned (.tuple #[.bool inn, .int .i64 u]) ∧ LookTo R c w w' b o K m n k F C inn u
section
variable {R : KR} {c : Value} {w w' : World} {b : Nat} {o : Ob} {K : Int → Prop} {m u : Int} {n k : Nat} {F C : Nat → Prop} {inn : Bool}
theorem LookTo.gr (g : KG R) (h : LookTo R c w w' b o K m n k F C inn u) (gr : Gr w') : LookTo R c w gr.val b o K m n k F C inn u := by
  obtain ⟨o', n', k', h1, h2, h3, h4, h5, h6, h7, h8, h9⟩ := h
  have ho : Off (fun _ => False) w' gr.val := .of_below gr.ok
  exact ⟨o', n', k', ho.heap h1 id, h2, h3, h4, h5.off g ho fun _ _ => id, h6.off ho fun _ _ => id, h7, h8.trans ho fun _ h => h.elim, h9⟩
theorem LookTo.ret (h : LookTo R c w w' b o K m n k F C inn u) : LookRet R c w b o K m n k F C (.returned (.tuple #[.bool inn, .int .i64 u])) w' := ⟨inn, u, rfl, h⟩
end
/-- What a stream of a row tells of a minute that lies behind those that it was asked for. -/
theorem row_tells {r : List Spn} (hf : form r) (hi : In64 r) {h1 h2 : Int} {n : Nat} (hd : HeadOk h1 h2 r n) {m : Int} (hm : h2 ≤ m → m = h2 ∧ h1 < h2) (hm2 : m < 9223372036854775807) (hn : -9223372036854775808 ≤ m) :
    (h2 ≤ m → ¬ has r m) ∧ (m < h2 → (m < h1 → ∀ x, m ≤ x → x < h1 → ¬ has r x) ∧ (h1 ≤ m → ∀ x, m ≤ x → x < h2 → has r x)) := by
  rcases hd with ⟨e1, e2, _⟩ | ⟨s, t, rfl, rfl, rfl, _⟩ | ⟨rfl, e1, e2⟩
  · exact ⟨fun h => by have := hm h; omega, fun h => by omega⟩
  · refine ⟨fun h => by rw [(hm h).1]; exact form_touch hf, fun h => ⟨fun _ x hx hx2 hh => ?_, fun h1 x hx hx2 => (form_first hf hx2).2 (by omega)⟩⟩
    have hp := form_pos hf (s := s) (by simp)
    have := (form_first hf (x := x) (by omega)).1 hh
    omega
  · exact ⟨fun h => by have := hm h; omega, fun h => ⟨fun _ x _ _ => has_nil x, fun h' => by omega⟩⟩
set_option maxRecDepth 100000 in
set_option maxHeartbeats 4000000 in
theorem pinRow_any {R : KR} (g : KG R) (c : Value) (b : Nat) (o : Ob) (K : Int → Prop) (r : List Spn) (m : Int) (n k : Nat) (F C : Nat → Prop) (w : World) (h : RwAt w b o r F) (kd : o.kd = 0) (hok : o.Ok) (hct : o.ct = c) (hc : CtAt w c k C) (hFb : F b) (hFC : ∀ x, F x → ¬ C x)
    (hk : ∀ x, m ≤ x → (K x ↔ has r x)) (hd : HeadOk o.h1 o.h2 r n) (hm : Int64P m) (hm2 : m < 9223372036854775807) :
    Calls Try.prog 59 #[.pointer (some ⟨b, 0, none⟩), .int .i64 m] w (LookRet R c w b o K m n k F C) := by
  obtain ⟨m0, m1⟩ := hm
  -- what comes once the head reaches over the minute
  have HEND : Hid (∀ (w2 : World) (x1 x2 : Int) (A : Option Addr) (d : Nat) (r' : List Spn) (n' k' : Nat), RwAt w2 b { o with h1 := x1, h2 := x2, ra := A, rn := r'.length, rc := d } r' F → HeadOk x1 x2 r' n' → CtAt w2 c k' C → k' + n' ≤ k + n → Off (fun x => F x ∨ C x) w w2 → (∀ x, m ≤ x → (K x ↔ has r' x)) → m < x2 →
      Int64P x1 ∧ Int64P x2 ∧ (m < x1 → LookTo R c w w2 b o K m n k F C false x1) ∧ (x1 ≤ m → LookTo R c w w2 b o K m n k F C true x2)) := by
    intro w2 x1 x2 A d r' n' k' hR hd hc hkn ho hk hm3
    have hb : Int64P x1 ∧ Int64P x2 := by
      rcases hd with ⟨rfl, rfl, _⟩ | ⟨s, t, rfl, rfl, rfl, _⟩ | ⟨rfl, rfl, rfl⟩
      · exact ⟨by unfold Int64P; omega, by unfold Int64P; omega⟩
      · have := hR.i64 s (by simp); exact ⟨this.1, this.2⟩
      · exact ⟨by unfold Int64P; omega, by unfold Int64P; omega⟩
    obtain ⟨_, ht⟩ := row_tells hR.f hR.i64 hd (m := m) (fun h => by omega) hm2 m0
    obtain ⟨ht1, ht2⟩ := ht hm3
    have hok' : ({ o with h1 := x1, h2 := x2, ra := A, rn := r'.length, rc := d } : Ob).Ok := ⟨hok.lo, hok.hi, hok.unt, hb.1, hb.2, hok.ah, hok.be, hok.lg, hok.gn⟩
    refine ⟨hb.1, hb.2, fun h => ?_, fun h => ?_⟩
    · refine ⟨_, n', k', hR.blk, rfl, rfl, hok', .row r' kd hct hR.sl rfl hR.f hR.i64 hR.bk hk hd, hc, hkn, ho, hb.1, h, fun x hx hx2 => ⟨fun e => (by cases e), fun e => absurd ((hk x hx).1 e) (ht1 h x hx hx2)⟩⟩
    · refine ⟨_, n', k', hR.blk, rfl, rfl, hok', .row r' kd hct hR.sl rfl hR.f hR.i64 hR.bk hk hd, hc, hkn, ho, hb.2, hm3, fun x hx hx2 => ⟨fun _ => (hk x hx).2 (ht2 h x hx hx2), fun _ => rfl⟩⟩
  have c7 : _ = some (Value.int .i64 o.h1) := blk_cell h.blk (i := 7) rfl
  have c8 : _ = some (Value.int .i64 o.h2) := blk_cell h.blk (i := 8) rfl
  have hw1 : IntKind.i64.wrap (m + 1) = m + 1 := by rw [IntKind.wrap_i64]; omega
  have HNOW : Hid (m < o.h2 → Int64P o.h1 ∧ Int64P o.h2 ∧ (m < o.h1 → LookTo R c w w b o K m n k F C false o.h1) ∧ (o.h1 ≤ m → LookTo R c w w b o K m n k F C true o.h2)) := fun h2 => by
    have e : ({ o with h1 := o.h1, h2 := o.h2, ra := o.ra, rn := r.length, rc := o.rc } : Ob) = o := by rw [← h.rn]
    exact HEND.out w o.h1 o.h2 o.ra o.rc r n k (by rw [e]; exact h) hd hc (Nat.le_refl _) (.refl _ _) hk h2
  have HTOU : Hid (m = o.h2 → o.h1 < o.h2 → LookTo R c w w b o K m n k F C false (m + 1)) := fun h2 h1 => by
    obtain ⟨ht, _⟩ := row_tells h.f h.i64 hd (m := m) (fun _ => ⟨h2, h1⟩) hm2 m0
    refine ⟨o, n, k, h.blk, rfl, rfl, hok, .row r kd hct h.sl h.rn h.f h.i64 h.bk hk hd, hc, Nat.le_refl _, .refl _ _, ⟨by omega, by omega⟩, by omega, fun x hx hx2 => ⟨fun e => (by cases e), fun e => ?_⟩⟩
    obtain rfl : x = m := by omega
    exact absurd ((hk x hx).1 e) (ht (by omega))
  have HASK : Hid (o.h2 ≤ m → ¬ (m = o.h2 ∧ o.h1 < o.h2) → ∀ (gr : Gr w) (w' : World), AskTo gr.val w' b o r m c k C F → ∃ x1 x2, w'.cell? ⟨b, 7, none⟩ = some (.int .i64 x1) ∧ w'.cell? ⟨b, 8, none⟩ = some (.int .i64 x2) ∧ (m < x1 → LookTo R c w w' b o K m n k F C false x1) ∧ (x1 ≤ m → LookTo R c w w' b o K m n k F C true x2)) := by
    intro h2 hn gr w' ⟨x1, x2, A, d, r', k', hk', hc', ho', hR', hx, hh, hl, hl2⟩
    obtain ⟨n', hd', hn', hm3⟩ : ∃ n', HeadOk x1 x2 r' n' ∧ k' + n' ≤ k + n ∧ m < x2 := by
      have hlen : (r'.length + 1 ≤ n) ∨ (r.length + 1 ≤ n + 1 ∧ r'.length + 1 ≤ r.length) := by
        rcases hd with ⟨_, _, h3⟩ | ⟨s, t, rfl, e1, e2, h3⟩ | ⟨_, _, e2⟩
        · exact .inl (by omega)
        · have hp := form_pos h.f (s := s) (by simp)
          have := hl2 s t rfl (by omega)
          exact .inr ⟨by simp at h3 ⊢; omega, by simp; omega⟩
        · omega
      rcases hh with ⟨s, t, rfl, rfl, rfl, h3⟩ | ⟨rfl, rfl, rfl⟩
      · exact ⟨(s :: t).length, .inr (.inl ⟨s, t, rfl, rfl, rfl, Nat.le_refl _⟩), by omega, h3⟩
      · exact ⟨0, .inr (.inr ⟨rfl, rfl, rfl⟩), by simp at hlen; omega, hm2⟩
    have ho2 : Off (fun x => F x ∨ C x) w w' := (Off.of_below (F := fun x => F x ∨ C x) gr.ok).trans' (ho'.mono fun x _ hx => hx.elim (fun e => .inl (e ▸ hFb)) .inr)
    obtain ⟨_, _, l1, l2⟩ := HEND.out w' x1 x2 A d r' n' k' hR' hd' hc' hn' ho2 (fun x hx' => (hk x hx').trans (hx x hx')) hm3
    exact ⟨x1, x2, blk_cell hR'.blk rfl, blk_cell hR'.blk rfl, l1, l2⟩
  have HPA : Hid (∀ gr : Gr w, Calls Try.prog 62 #[.pointer (some ⟨b, 0, none⟩), .int .i64 m] gr.val fun e w' => e = .returned (.tuple #[]) ∧ AskTo gr.val w' b o r m c k C F) := fun gr => pask_any b o r m c k C F gr.val (h.gr gr) hct (hc.off (G := fun _ => False) (.of_below gr.ok) fun _ _ => id) hFb hFC
  have HG := Lib.hid g
  clear h hok hct hc hFC hk hd HEND g
  by_cases h2 : o.h2 ≤ m
  · have hb2 : decide (o.h2 ≤ m) = true := decide_eq_true h2
    by_cases ht : m = o.h2 ∧ o.h1 < o.h2
    · obtain ⟨e2, h12⟩ := ht
      have hbe : decide (m = o.h2) = true := decide_eq_true e2
      have hbq : (m == o.h2) = true := by simpa using e2
      have hb12 : decide (o.h1 < o.h2) = true := decide_eq_true h12
      have HT := Lib.hid (HTOU.out e2 h12)
      clear HASK HPA HNOW HTOU
      generalize o.h2 = y2 at *
      generalize o.h1 = y1 at *
      have E2 := Lib.hid e2
      clear e2
      go_enter Try.func59, Try.ntmps59
      go_wp2_with fail
      go_quiet (fail)
      go_wp2_with fail
      go_ret2
      exact (HT.out.gr HG.out ⟨_, drewN_below _ _⟩).ret
    · have HA := Lib.hid (HASK.out h2 ht)
      have hd2 : (decide (m = o.h2) = false ∧ (m == o.h2) = false) ∨ (decide (m = o.h2) = true ∧ (m == o.h2) = true ∧ decide (o.h1 < o.h2) = false) := by
        by_cases e : m = o.h2
        · exact .inr ⟨decide_eq_true e, by simpa using e, decide_eq_false fun h => ht ⟨e, h⟩⟩
        · exact .inl ⟨decide_eq_false e, by simpa using e⟩
      clear HASK HNOW HTOU
      generalize o.h2 = y2 at c8 hb2 hd2 h2
      generalize o.h1 = y1 at c7 hd2
      clear ht
      rcases hd2 with ⟨hbe, hbq⟩ | ⟨hbe, hbq, hb12⟩
      all_goals
        go_enter Try.func59, Try.ntmps59
        go_wp2_with fail
        go_quiet (fail)
        obtain ⟨g2, hg2⟩ : ∃ g2 : Gr w, w.drewN nq = g2.val := ⟨⟨_, drewN_below _ _⟩, rfl⟩
        rw [hg2]
        clear hg2
        go_wp2_with fail
        go_at_call 62
        refine (HPA.out g2).mono ?_
        rintro e w' ⟨rfl, hA⟩
        obtain ⟨x1, x2, d7, d8, l1, l2⟩ := HA.out g2 w' hA
        have L1 := Lib.hid l1
        have L2 := Lib.hid l2
        clear hA l1 l2
        by_cases hx : m < x1
        · go_wp2_with fail
          go_quiet (fail)
          go_wp2_with fail
          go_ret2
          exact ((L1.out hx).gr HG.out ⟨_, drewN_below _ _⟩).ret
        · go_wp2_with fail
          go_quiet (fail)
          go_wp2_with fail
          go_ret2
          exact ((L2.out (by omega)).gr HG.out ⟨_, drewN_below _ _⟩).ret
  · have hb2 : decide (o.h2 ≤ m) = false := decide_eq_false h2
    obtain ⟨_, _, l1, l2⟩ := HNOW.out (by omega)
    have L1 := Lib.hid l1
    have L2 := Lib.hid l2
    clear HASK HPA HNOW HTOU l1 l2
    generalize o.h2 = y2 at *
    generalize o.h1 = y1 at *
    by_cases hx : m < y1
    all_goals
      go_enter Try.func59, Try.ntmps59
      go_wp2_with fail
      go_quiet (fail)
      go_wp2_with fail
      go_ret2
    · exact ((L1.out hx).gr HG.out ⟨_, drewN_below _ _⟩).ret
    · exact ((L2.out (by omega)).gr HG.out ⟨_, drewN_below _ _⟩).ret
end Go.Proofs.Ytibnbpiachdmdaa
end
/- Contracts of the program's streams: what streams of others tell of a minute: those that are one, and gaps. -/
section
namespace Go.Proofs.Ytibnbpiachdmdaa
open Go.ChangeShapes Go.WideShapes Go.ChangeAt Go.RowKit Go.Joins Sp
/-- A stream was asked for a minute. -/
def AtTo (R : KR) (c : Value) (w w' : World) (p : Value) (D : Int → Prop) (m : Int) (n k : Nat) (F C : Nat → Prop) (inn : Bool) (u : Int) : Prop :=
  ∃ n' k', R w' p D m n' F ∧ CtAt w' c k' C ∧ k' + n' ≤ k + n ∧ Off (fun x => F x ∨ C x) w w' ∧ Int64P u ∧ (m ≤ u ∧ (m < 9223372036854775807 → m < u)) ∧ (inn = true → m < u) ∧ ∀ x, m ≤ x → x < u → (inn = true ↔ D x)
def AtRet (R : KR) (c : Value) (w : World) (p : Value) (D : Int → Prop) (m : Int) (n k : Nat) (F C : Nat → Prop) (e : Ending) (w' : World) : Prop :=
  ∃ inn u, e = .returned (.tuple #[.bool inn, .int .i64 u]) ∧ AtTo R c w w' p D m n k F C inn u
/-- What streams that another one is made of answer. -/
def AtC (R : KR) (c : Value) : Prop := ∀ (w : World) (p : Value) (D : Int → Prop) (q : Int) (n : Nat) (F : Nat → Prop) (k : Nat) (C : Nat → Prop) (m : Int), R w p D q n F → CtAt w c k C → (∀ x, F x → ¬ C x) → q ≤ m → Int64P m →
  Calls Try.prog 38 #[p, .int .i64 m] w (AtRet R c w p D m n k F C)
section
variable {R : KR} {w w' : World} {c p : Value} {b : Nat} {K D : Int → Prop} {q q' : Int} {n : Nat} {F C : Nat → Prop} {ba : Option Addr} {bn bc : Nat} {ps : List Value} {Ds : Nat → Int → Prop}
/-- One of them, and what becomes of all once that one was asked. -/
theorem Kids.at_ (g : KG R) (h : Kids R w b ba bn bc ps Ds q n F) {i : Nat} (hi : ps[i]? = some p) : ∃ ni Fi, R w p (Ds i) q ni Fi ∧ ni ≤ n ∧ (∀ x, Fi x → F x) ∧ ¬ Fi b ∧
    (∀ (w' : World) (q' : Int) (ni' : Nat) (C : Nat → Prop), q ≤ q' → Off (fun x => Fi x ∨ C x) w w' → (∀ x, F x → ¬ C x) → R w' p (Ds i) q' ni' Fi → Kids R w' b ba bn bc ps Ds q' (n - ni + ni') F) := by
  obtain ⟨ns, Fs, hk, hs⟩ := h.kids
  have hil := (List.getElem?_eq_some_iff.1 hi).1
  have hni : ns i ≤ sumTo ns ps.length := by have := sumTo_upd ns i 0 hil; omega
  refine ⟨ns i, Fs i, hk.kid i p hi, by omega, fun x => hk.in_ i x hil, hk.own i hil, fun w' q' ni' C hq ho hC hr => ?_⟩
  refine ⟨sl_off h.sl ho fun a e hx => hx.elim (hk.row i a hil e) (hC _ (h.blk a e).2), h.bn, h.blk, h.bd, fun j => if j = i then ni' else ns j, Fs, ⟨fun j p' hj => ?_, hk.own, hk.row, hk.in_, hk.apart⟩, ?_⟩
  · by_cases e : j = i
    · subst e
      obtain rfl : p = p' := by rw [hi] at hj; exact Option.some.inj hj
      rw [if_pos rfl]; exact hr
    · rw [if_neg e]
      have hjl := (List.getElem?_eq_some_iff.1 hj).1
      exact g.qm (g.off (hk.kid j p' hj) ho fun x hx hx2 => hx2.elim (fun h2 => e (hk.apart j i x hjl hil hx h2)) (hC _ (hk.in_ j x hjl hx))) hq
  · have := sumTo_upd ns i ni' hil; omega
end
/-- What stands in memory while streams are gone through. -/
def JoinIn (R : KR) (c : Value) (w : World) (b : Nat) (o : Ob) (ps : List Value) (Ds : Nat → Int → Prop) (st : Bool) (m : Int) (n k : Nat) (F C : Nat → Prop) (i : Nat) (all : Int) (wr : World) : Prop :=
  ∃ n' k', wr.heap[b]? = some (.cells o.cs 54 (0, 0)) ∧ Kids R wr b o.ba o.bn o.bc ps Ds m n' F ∧ CtAt wr c k' C ∧ k' + n' ≤ k + n ∧ Off (fun x => F x ∨ C x) w wr ∧ ∀ j, j < i → ∀ x, m ≤ x → x < all → (st = false ↔ Ds j x)
set_option maxRecDepth 100000 in
set_option maxHeartbeats 4000000 in
theorem pjoined_any {R : KR} (g : KG R) (c : Value) (HA : AtC R c) (b : Nat) (o : Ob) (K : Int → Prop) (ps : List Value) (Ds : Nat → Int → Prop) (st : Bool) (m : Int) (n k : Nat) (F C : Nat → Prop) (w : World) (hb : w.heap[b]? = some (.cells o.cs 54 (0, 0)))
    (kd : o.kd = if st = true then 1 else 2) (hok : o.Ok) (kids : Kids R w b o.ba o.bn o.bc ps Ds m n F) (k1 : st = true → ∀ x, K x ↔ ∃ i, i < ps.length ∧ Ds i x) (k2 : st = false → ∀ x, K x ↔ ∀ i, i < ps.length → Ds i x)
    (hc : CtAt w c k C) (hFb : F b) (hFC : ∀ x, F x → ¬ C x) (hm : Int64P m) (hm2 : m < 9223372036854775807) :
    Calls Try.prog 55 #[.pointer (some ⟨b, 0, none⟩), .int .i64 m, .bool st] w (LookRet R c w b o K m n k F C) := by
  have c5 : _ = some (Value.slice o.ba o.bn o.bc) := blk_cell hb (i := 5) rfl
  rw [kids.bn] at c5
  have hcap := kids.sl.cap
  have hle := kids.sl.le
  unfold maxLen at hcap
  have hlz : (ps.length : Int) ≤ 9223372036854775807 := by omega
  have HST : Hid (JoinIn R c w b o ps Ds st m n k F C 0 9223372036854775807 w) := ⟨n, k, hb, kids, hc, Nat.le_refl _, .refl _ _, fun j hj => by omega⟩
  have HEND : Hid (∀ (wr : World) (inn : Bool) (u : Int) (n' k' : Nat), wr.heap[b]? = some (.cells o.cs 54 (0, 0)) → Kids R wr b o.ba o.bn o.bc ps Ds m n' F → CtAt wr c k' C → k' + n' ≤ k + n → Off (fun x => F x ∨ C x) w wr → Int64P u → m < u →
      ((inn = st ∧ ∃ i, i < ps.length ∧ ∀ x, m ≤ x → x < u → (inn = true ↔ Ds i x)) ∨ (inn = !st ∧ ∀ j, j < ps.length → ∀ x, m ≤ x → x < u → (st = false ↔ Ds j x))) → LookTo R c w wr b o K m n k F C inn u) := by
    intro wr inn u n' k' h1 h2 h3 h4 h5 h6 h7 h8
    refine ⟨o, n', k', h1, rfl, rfl, hok, .many ps Ds st kd h2 k1 k2, h3, h4, h5, h6, h7, fun x hx hx2 => ?_⟩
    cases st with
    | true =>
      rw [k1 rfl]
      rcases h8 with ⟨rfl, i, hi, h⟩ | ⟨rfl, h⟩
      · exact ⟨fun _ => ⟨i, hi, (h x hx hx2).1 rfl⟩, fun _ => rfl⟩
      · exact ⟨fun e => (by cases e), fun ⟨j, hj, hd⟩ => absurd ((h j hj x hx hx2).2 hd) (by decide)⟩
    | false =>
      rw [k2 rfl]
      rcases h8 with ⟨rfl, i, hi, h⟩ | ⟨rfl, h⟩
      · exact ⟨fun e => (by cases e), fun hd => (h x hx hx2).2 (hd i hi)⟩
      · exact ⟨fun _ j hj => (h j hj x hx hx2).1 rfl, fun _ => rfl⟩
  have HG := Lib.hid g
  have HAC := Lib.hid HA
  have HFC := Lib.hid hFC
  have HFb := Lib.hid hFb
  have HM := Lib.hid hm
  clear hb hok kids k1 k2 hc hFC hFb hm HA g kd hcap hle
  go_enter Try.func55, Try.ntmps55
  go_wp2_with fail
  go_loopw [8, 18] (fun s8 s18 wr => ∃ (i : Nat) (all : Int), i ≤ ps.length ∧ s18 = .int .i64 i ∧ s8 = .int .i64 all ∧ m < all ∧ Hid (Int64P all) ∧ Hid (JoinIn R c w b o ps Ds st m n k F C i all wr)) (fun _ s18 _ => ps.length - (intOf s18).toNat)
  case atStart => exact ⟨0, _, Nat.zero_le _, rfl, rfl, hm2, by show Int64P _; unfold Int64P; omega, HST.out⟩
  case round =>
    obtain ⟨i, all, hi, rfl, rfl, hma, HAL, HJ⟩ := hrel
    have hw1 : i < ps.length → IntKind.i64.wrap ((i : Int) + 1) = i + 1 := fun h => by rw [IntKind.wrap_i64]; omega
    obtain ⟨n', k', j1, j2, j3, j4, j5, j6⟩ := HJ.out
    by_cases hlt : i < ps.length
    · have hiz : (i : Int) < ps.length := by omega
      have hw1 := hw1 hlt
      obtain ⟨p, hp⟩ : ∃ p, ps[i]? = some p := ⟨_, List.getElem?_eq_getElem hlt⟩
      obtain ⟨rb, off, hA, _, q0⟩ := j2.sl.at_ hp
      obtain ⟨ni, Fi, hr, hni, hFi, hFb', hnext⟩ := j2.at_ HG.out hp
      obtain ⟨pa, rfl⟩ := HG.out.ptr hr
      have HC := Lib.hid (HAC.out wr _ (Ds i) m ni Fi k' C m hr j3 (fun x hx => HFC.out x (hFi x hx)) (Int.le_refl _) HM.out)
      have HNX := Lib.hid hnext
      have J1 := Lib.hid j1
      have J4 := Lib.hid j4
      have J5 := Lib.hid j5
      have J6 := Lib.hid j6
      have HFi := Lib.hid hFi
      have HFb2 := Lib.hid hFb'
      have HNI := Lib.hid hni
      rw [hA]
      clear hnext j1 j2 j3 j4 j5 j6 hr hFi hp hFb' hni
      go_wp2_with fail
      go_at_call 38
      refine HC.out.mono ?_
      rintro e w' ⟨inn, u, rfl, n2, k2, a1, a2, a3, a4, a5, a6, a7, a8⟩
      have hmu := a6.2 hm2
      have HKN : Hid (Kids R w' b o.ba o.bn o.bc ps Ds m (n' - ni + n2) F) := HNX.out w' m n2 C (Int.le_refl _) a4 HFC.out a1
      have HB2 : Hid (w'.heap[b]? = some (.cells o.cs 54 (0, 0))) := a4.heap J1.out fun hx => hx.elim HFb2.out (HFC.out b HFb.out)
      have HO2 : Hid (Off (fun x => F x ∨ C x) w w') := J5.out.trans' (a4.mono fun x _ hx => hx.elim (fun h => .inl (HFi.out x h)) .inr)
      have HC2 := Lib.hid a2
      have HS2 : Hid (k2 + (n' - ni + n2) ≤ k + n) := by show _ ≤ _; have := J4.out; have := HNI.out; omega
      have HU := Lib.hid a5
      have A8 := Lib.hid a8
      clear a1 a2 a3 a4 a5 a6 a7 a8
      by_cases hin : inn = st
      · subst hin
        have hbb : (inn == inn) = true := by cases inn <;> rfl
        go_wp2_with fail
        go_ret2
        exact (HEND.out w' inn u _ _ HB2.out HKN.out HC2.out HS2.out HO2.out HU.out hmu (.inl ⟨rfl, i, hlt, A8.out⟩)).ret
      · have hbb : (inn == st) = false := by simpa using hin
        obtain ⟨x, hx, x1, x2, x3, x4⟩ := min_forms all u
        have HXX := Lib.hid hx
        have HIN := Lib.hid hin
        clear hx hin
        go_wp2_with fail
        go_roundw
        case rel =>
          have hx := HXX.out
          refine ⟨i + 1, x, hlt, by go_num, rfl, by omega, ?_, _, _, HB2.out, HKN.out, HC2.out, HS2.out, HO2.out, fun j hj y hy hy2 => ?_⟩
          · have h1 := HAL.out; have h2 := HU.out; show Int64P _; unfold Int64P at *; omega
          · by_cases e : j = i
            · subst e
              rw [← A8.out y hy (by omega)]
              have := HIN.out
              cases inn <;> cases st <;> simp_all
            · exact J6.out j (by omega) y hy (by omega)
        case measure => simp [intOf]; omega
    · have hiz : ¬ (i : Int) < ps.length := by omega
      obtain rfl : i = ps.length := by omega
      have HR := Lib.hid (HEND.out wr (!st) all n' k' j1 j2 j3 j4 j5 HAL.out hma (.inr ⟨rfl, j6⟩))
      clear j1 j2 j3 j4 j5 j6
      go_wp2_with fail
      go_ret2
      exact HR.out.ret
set_option maxRecDepth 100000 in
set_option maxHeartbeats 4000000 in
theorem pinGap_any {R : KR} (g : KG R) (c : Value) (HA : AtC R c) (b : Nat) (o : Ob) (K : Int → Prop) (p : Value) (D : Int → Prop) (m : Int) (n k : Nat) (F C : Nat → Prop) (w : World) (hb : w.heap[b]? = some (.cells o.cs 54 (0, 0)))
    (kd : o.kd = 3) (hok : o.Ok) (kids : Kids R w b o.ba o.bn o.bc [p] (fun _ => D) m n F) (hk : ∀ x, K x ↔ ¬ D x)
    (hc : CtAt w c k C) (hFb : F b) (hFC : ∀ x, F x → ¬ C x) (hm : Int64P m) (hm2 : m < 9223372036854775807) :
    Calls Try.prog 56 #[.pointer (some ⟨b, 0, none⟩), .int .i64 m] w (LookRet R c w b o K m n k F C) := by
  have c5 : _ = some (Value.slice o.ba o.bn o.bc) := blk_cell hb (i := 5) rfl
  obtain ⟨rb, off, hA, _, q0⟩ := kids.sl.at_ (i := 0) (v := p) rfl
  rw [Nat.add_zero] at q0
  rw [kids.bn, hA] at c5
  obtain ⟨ni, Fi, hr, hni, hFi, hFb', hnext⟩ := kids.at_ g (i := 0) (p := p) rfl
  obtain ⟨pa, rfl⟩ := g.ptr hr
  have HC := Lib.hid (HA w _ D m ni Fi k C m hr hc (fun x hx => hFC x (hFi x hx)) (Int.le_refl _) hm)
  have HEND : Hid (∀ w' inn u, AtTo R c w w' (.pointer pa) D m ni k Fi C inn u → LookTo R c w w' b o K m n k F C (!inn) u) := by
    rintro w' inn u ⟨n2, k2, a1, a2, a3, a4, a5, a6, a7, a8⟩
    refine ⟨o, n - ni + n2, k2, a4.heap hb fun hx => hx.elim hFb' (hFC b hFb), rfl, rfl, hok, .gaps _ D kd (hnext w' m n2 C (Int.le_refl _) a4 hFC a1) hk, a2, by omega, a4.mono fun x _ hx => hx.elim (fun h => .inl (hFi x h)) .inr, a5, a6.2 hm2, fun x hx hx2 => ?_⟩
    rw [hk, ← a8 x hx hx2]
    cases inn <;> simp
  clear hnext hr hb kids hc hFC hok hni hFi hFb' hk
  go_enter Try.func56, Try.ntmps56
  go_wp2_with fail
  go_at_call 38
  refine HC.out.mono ?_
  rintro e w' ⟨inn, u, rfl, hT⟩
  have HT := Lib.hid hT
  clear hT
  go_wp2_with fail
  go_ret2
  exact (HEND.out w' inn u HT.out).ret
end Go.Proofs.Ytibnbpiachdmdaa
end
