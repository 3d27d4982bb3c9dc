import Derived.Test.YtdhinjbkfffpeaaGreatYOB
import Derived.Test.YtdhinjbkfffpeaaGreatYOA
import Derived.Test.YtdhinjbkfffpeaaGreatYOJ
import Derived.Test.YtdhinjbkfffpeaaGreatYOD
/- What the document writes of replies, requests and states. -/
section
namespace Go.Proofs.YtdhinjbkfffpeaaGreat
open Go.ChangeShapes Go.WideShapes Go.ChangeAt Go.RowKit Go.Joins Sp Fr Pk
def out16 : Option (List UInt8) → Value
  | some t => .tuple #[.string ⟨t.toArray⟩, .bool true]
  | none => .tuple #[.string ⟨#[]⟩, .bool false]
def noPl : Pl := ⟨0, 0, ⟨(0, 0), 0, 0, [], [], 0, [], []⟩, [], [], 0, 0, 0⟩
def noPlP : PlP := ⟨⟨none, none, none, none, 0, 0, 0, 0⟩, none, none, 0, 0⟩
theorem noPl_at (w : World) : PlAt w noPl noPlP := ⟨⟨Sl.none_ _, Sl.none_ _, Sl.none_ _, Sl.none_ _⟩, Sl.none_ _, Sl.none_ _⟩
def finB (most : Nat) (b : Bb) : Option (List UInt8) := if b.bad = true ∨ most < b.s.length then none else some b.s
def fin16 (b : Bb) : Option (List UInt8) := if b.bad = true ∨ 65536 < b.s.length then none else some b.s
def Bb.RpS (b : Bb) (x : Int × Int × Int) : Bb := ((b.M x.1).N x.2.1 100000).N x.2.2 100
open Classical in
noncomputable def Rp.fin (r : Rp) (b : Bb) : Option (List UInt8) :=
  if r.poll.id = 0 then (if r.poll = noPl then fin16 ((b.T r.cursor 64).F false) else none) else fin16 (((b.T r.cursor 64).F true).Poll r.poll)
noncomputable def Rp.text (r : Rp) : Option (List UInt8) := r.fin (r.slots.foldl Bb.RpS (((Bb.N ⟨[], false⟩ r.err 13).U r.version).N r.slots.length 100))
structure Rp.Fits (r : Rp) : Prop where
  err : I64 r.err
  version : r.version < 18446744073709551616
  slots : okT r.slots
  cursor : r.cursor.length ≤ 4611686018427387904
  poll : r.poll.Fits
  room : r.slots.length * 30 + (r.cursor.length + (r.poll.cost + 60)) ≤ 4611686018427387904
def noStg : Stg := ⟨0, [], [], [], 0, 0⟩
def noEvt : Evt := ⟨0, 0, false, false, zeroR, [], [], []⟩
def noAk (h : Int × Nat × Nat) : Ak := ⟨h.1, h.2.1, h.2.2, h.2.1, 0, noStg, noEvt, noPl.query, [], 0, 0, 0, false, 0⟩
structure Ak.Fits (a : Ak) : Prop where
  kind : I64 a.kind
  caller : U32 a.caller
  number : a.number < 18446744073709551616
  user : U32 a.user
  id : U32 a.id
  settings : a.settings.Fits
  event : a.event.Fits
  query : a.query.Fits
  cursor : a.cursor.length ≤ 4611686018427387904
  count : I64 a.count
  poll : U32 a.poll
  slot : I64 a.slot
  until_ : I64 a.until_
  room : a.settings.cost + a.event.cost + a.query.cost + a.cursor.length + 200 ≤ 4611686018427387904
def Ak.named (a : Ak) : Ak :=
  if a.kind = 1 then { noAk (a.kind, a.caller, a.number) with settings := a.settings } else
  if a.kind = 2 then noAk (a.kind, a.caller, a.number) else
  if a.kind = 3 then { noAk (a.kind, a.caller, a.number) with id := a.id, event := a.event } else
  if a.kind = 4 then { noAk (a.kind, a.caller, a.number) with id := a.id } else
  if a.kind = 5 then { noAk (a.kind, a.caller, a.number) with query := a.query, cursor := a.cursor, count := a.count } else
  if a.kind = 6 then { noAk (a.kind, a.caller, a.number) with poll := a.poll, query := a.query, count := a.count, until_ := a.until_ } else
  if a.kind = 7 then { noAk (a.kind, a.caller, a.number) with poll := a.poll, slot := a.slot, yes := a.yes } else
  if a.kind = 8 then { noAk (a.kind, a.caller, a.number) with poll := a.poll } else
  if a.kind = 10 then { noAk (a.kind, a.caller, a.number) with poll := a.poll } else
  if a.kind = 9 then { noAk (a.kind, a.caller, a.number) with poll := a.poll, id := a.id } else
  if a.kind = 11 then { noAk (a.kind, a.caller, a.number) with until_ := a.until_ } else
  noAk (a.kind, a.caller, a.number)
def Ak.body (a : Ak) (b : Bb) : Bb :=
  if a.kind = 1 then b.Settings a.settings else
  if a.kind = 2 then b else
  if a.kind = 3 then (b.U a.id).Event a.event else
  if a.kind = 4 then b.U a.id else
  if a.kind = 5 then ((b.Query a.query).T a.cursor 64).N a.count 100 else
  if a.kind = 6 then (((b.U a.poll).Query a.query).N a.count 100).M a.until_ else
  if a.kind = 7 then ((b.U a.poll).N a.slot 40).F a.yes else
  if a.kind = 8 then b.U a.poll else
  if a.kind = 10 then b.U a.poll else
  if a.kind = 9 then (b.U a.poll).U a.id else
  if a.kind = 11 then b.M a.until_ else b
def Ak.head (a : Ak) : Bb := ((Bb.N ⟨[], false⟩ a.kind 11).U a.caller).U a.number
open Classical in
noncomputable def Ak.text (a : Ak) : Option (List UInt8) := if (1 ≤ a.kind ∧ a.kind ≤ 11) ∧ a = a.named ∧ plainP a.event then fin16 (a.body a.head) else none
def Bb.UsE (b : Bb) (x : Nat × Evt) : Bb := (b.U x.1).Event x.2
def Bb.User (b : Bb) (u : Us) : Bb := u.events.foldl Bb.UsE ((((b.U u.id).Settings u.settings).U u.version).N u.events.length 64)
def Bb.StaD (b : Bb) (x : Nat × Nat × Nat) : Bb := ((b.U x.1).U x.2.1).U x.2.2
def Sta.b2 (s : Sta) (b : Bb) : Bb := s.done.foldl Bb.StaD (b.N s.done.length 4096)
def Sta.b1 (s : Sta) (b : Bb) : Bb := Sta.b2 s (s.polls.foldl Bb.Poll (b.N s.polls.length 50))
def Sta.bb (s : Sta) : Bb := Sta.b1 s (s.users.foldl Bb.User ((Bb.M ⟨[], false⟩ s.clock).N s.users.length 100))
open Classical in
noncomputable def Sta.text (s : Sta) : Option (List UInt8) := if ∀ u ∈ s.users, ∀ x ∈ u.events, plainP x.2 then finB 1048576 s.bb else none
structure Us.Fits (u : Us) : Prop where
  id : U32 u.id
  settings : u.settings.Fits
  version : u.version < 18446744073709551616
  events : ∀ x ∈ u.events, U32 x.1 ∧ x.2.Fits
structure Sta.Fits (s : Sta) : Prop where
  clock : I64 s.clock
  users : ∀ u ∈ s.users, u.Fits
  polls : ∀ o ∈ s.polls, o.Fits
  done : ∀ x ∈ s.done, U32 x.1 ∧ x.2.1 < 18446744073709551616 ∧ x.2.2 < 18446744073709551616
def noStgP : StgP := ⟨none, none, none, 0, 0, 0⟩
def noEvP : EvP := ⟨none, none, none, none, none, none, none, 0, 0, 0, 0, 0, 0, 0⟩
def noAkP : AkP := ⟨noStgP, noEvP, noPlP.q⟩
theorem noStg_at (w : World) : StgAt w noStg noStgP := ⟨Sl.none_ _, Sl.none_ _, Sl.none_ _⟩
theorem noEvt_at (w : World) : EvAt w noEvt noEvP := ⟨⟨Sl.none_ _, Sl.none_ _, Sl.none_ _, Sl.none_ _⟩, Sl.none_ _, Sl.none_ _, Sl.none_ _⟩
end Go.Proofs.YtdhinjbkfffpeaaGreat
end
section
namespace Go.Proofs.YtdhinjbkfffpeaaGreat
open Sp Fr Pk
section
variable {α β : Type} {t1 t2 : α → List UInt8} {o1 o2 : α → Prop} {r1 : Rd → α × Rd} {u : β → List UInt8} {p : β → Prop} {r2 : Rd → β × Rd}
def rdP (r1 : Rd → α × Rd) (r2 : Rd → β × Rd) : Rd → (α × β) × Rd := rdTwo r1 fun _ => r2
theorem cod_pair (c : Cod t1 o1 r1) (d : Cod u p r2) : Cod (fun x : α × β => t1 x.1 ++ u x.2) (fun x => o1 x.1 ∧ p x.2) (rdP r1 r2) := c.two (fun _ _ => d) fun _ => d.bad
theorem cod_congr (c : Cod t1 o1 r1) (ht : ∀ a, o1 a → t2 a = t1 a) (ho : ∀ a, o2 a ↔ o1 a) : Cod t2 o2 r1 :=
  ⟨fun a s h => by rw [ht a ((ho a).1 h)]; exact c.put a s ((ho a).1 h), fun l s h => by
    obtain ⟨e, o⟩ := c.get l s h
    exact ⟨by rw [ht _ o]; exact e, (ho _).2 o⟩, c.bad⟩
theorem cod_as {f : α → β} {g : β → α} (c : Cod t1 o1 r1) (gf : ∀ a, o1 a → g (f a) = a) : Cod (fun b => t1 (g b)) (fun b => o1 (g b) ∧ f (g b) = b) (fun r => (f (r1 r).1, (r1 r).2)) := by
  refine ⟨fun b s h => ?_, fun l s h => ?_, c.bad⟩
  · rw [c.put _ s h.1]; simp only [h.2]
  · obtain ⟨e, o⟩ := c.get l s h
    simp only [gf _ o]; exact ⟨e, o, trivial⟩
theorem cod_unit : Cod (fun _ : Unit => []) (fun _ => True) (fun r => ((), r)) := ⟨fun _ _ _ => rfl, fun l s h => by cases h; exact ⟨rfl, trivial⟩, rfl⟩
end
def rowT {α : Type} (t : α → List UInt8) (l : List α) : List UInt8 := numT l.length ++ l.flatMap t
def rdRow {α : Type} (most : Nat) (rd : Rd → α × Rd) (r : Rd) : List α × Rd := rdN rd (rdNum most r).1 (rdNum most r).2
def rdI (most : Nat) (r : Rd) : Int × Rd := (((rdNum most r).1 : Int), (rdNum most r).2)
theorem cod_int (most : Nat) (hm : most < 18446744073709551616) : Cod (fun x : Int => numT x.toNat) (fun x => 0 ≤ x ∧ x ≤ most) (rdI most) := by
  refine ⟨fun a s h => ?_, fun l s h => ?_, rfl⟩
  · unfold rdI
    rw [rdNum_put (by omega) (by omega)]
    simp only [Prod.mk.injEq, and_true]
    omega
  · obtain ⟨e, o⟩ := (cod_num most hm).get l s h
    unfold rdI
    simp only
    exact ⟨by rw [Int.toNat_natCast]; exact e, by omega, by omega⟩
def rdZ (least most : Int) : Rd → Int × Rd := rdIf (fun n => decide (least ≤ n) && decide (n ≤ most)) rdSig
theorem cod_z {least most : Int} (h1 : -9223372036854775808 ≤ least) (h2 : most ≤ 9223372036854775807) : Cod (fun n : Int => numT (zig n)) (fun n => least ≤ n ∧ n ≤ most) (rdZ least most) :=
  cod_congr (cod_sig.cut _) (fun _ _ => rfl) fun n => by simp only [Bool.and_eq_true, decide_eq_true_eq]; omega
def zigT (n : Int) : List UInt8 := numT (zig n)
def natT (n : Int) : List UInt8 := numT n.toNat
theorem cod_zigT : Cod zigT I64 rdSig := cod_sig
theorem cod_u32 : Cod numT U32 (rdNum 4294967295) := cod_congr (cod_num 4294967295 (by omega)) (fun _ _ => rfl) fun n => by unfold U32; omega
def U64 (n : Nat) : Prop := n < 18446744073709551616
theorem cod_u64 : Cod numT U64 (rdNum 18446744073709551615) := cod_congr (cod_num 18446744073709551615 (by omega)) (fun _ _ => rfl) fun n => by unfold U64; omega
theorem cod_rowT {α : Type} {txt : α → List UInt8} {ok : α → Prop} {rd : Rd → α × Rd} (c : Cod txt ok rd) (most : Nat) (hm : most < 18446744073709551616) : Cod (rowT txt) (fun l => l.length ≤ most ∧ ∀ x ∈ l, ok x) (rdRow most rd) := cod_row c most hm
def Wr (f : Bb → Bb) (t : List UInt8) (P : Prop) : Prop := ∀ b, ((f b).bad = false ↔ b.bad = false ∧ P) ∧ ((f b).bad = false → (f b).s = b.s ++ t)
section
variable {f g : Bb → Bb} {t u : List UInt8} {P Q : Prop}
theorem Wr.comp (h : Wr f t P) (k : Wr g u Q) : Wr (fun b => g (f b)) (t ++ u) (P ∧ Q) := fun b => by
  refine ⟨by rw [(k (f b)).1, (h b).1, and_assoc], fun hb => ?_⟩
  have hk := ((k (f b)).1.1 hb).1
  rw [(k (f b)).2 hb, (h b).2 hk, List.append_assoc]
theorem Wr.congr (h : Wr f t P) (ht : u = t) (hP : Q ↔ P) : Wr f u Q := fun b => ⟨by rw [(h b).1, hP], fun hb => by rw [(h b).2 hb, ht]⟩
theorem Wr.fold {α : Type} {f : Bb → α → Bb} {t : α → List UInt8} {P : α → Prop} : ∀ (l : List α), (∀ x ∈ l, Wr (fun b => f b x) (t x) (P x)) → Wr (fun b => l.foldl f b) (l.flatMap t) (∀ x ∈ l, P x)
  | [], _ => fun b => ⟨by simp, fun _ => by simp⟩
  | a :: l, h => by
    have h1 := (h a (by simp)).comp (Wr.fold l fun x hx => h x (by simp [hx]))
    exact h1.congr (by simp) (by simp)
end
theorem wr_N (n most : Int) : Wr (fun b => b.N n most) (natT n) (0 ≤ n ∧ n ≤ most) := fun b => by
  show ((b.N n most).bad = false ↔ _) ∧ ((b.N n most).bad = false → (b.N n most).s = _)
  unfold Bb.N
  by_cases h : n < 0 ∨ most < n
  · rw [if_pos h]
    exact ⟨⟨fun h1 => (by simp at h1), fun h1 => by omega⟩, fun h1 => (by simp at h1)⟩
  · rw [if_neg h]
    exact ⟨⟨fun h1 => ⟨h1, by omega⟩, fun h1 => h1.1⟩, fun _ => rfl⟩
theorem wr_Z (n least most : Int) : Wr (fun b => b.Z n least most) (zigT n) (least ≤ n ∧ n ≤ most) := fun b => by
  unfold Bb.Z
  refine ⟨?_, fun _ => rfl⟩
  simp only [Bool.or_eq_false_iff, decide_eq_false_iff_not]
  constructor
  · rintro ⟨⟨h1, h2⟩, h3⟩; exact ⟨h1, by omega, by omega⟩
  · rintro ⟨h1, h2, h3⟩; exact ⟨⟨h1, by omega⟩, by omega⟩
theorem wr_M {n : Int} (h : I64 n) : Wr (fun b => b.M n) (zigT n) (I64 n) := fun _b => ⟨⟨fun h1 => ⟨h1, h⟩, fun h1 => h1.1⟩, fun _ => rfl⟩
theorem wr_U {n : Nat} (h : U32 n) : Wr (fun b => b.U n) (numT n) (U32 n) := fun _b => ⟨⟨fun h1 => ⟨h1, h⟩, fun h1 => h1.1⟩, fun _ => rfl⟩
theorem wr_U64 {n : Nat} (h : U64 n) : Wr (fun b => b.U n) (numT n) (U64 n) := fun _b => ⟨⟨fun h1 => ⟨h1, h⟩, fun h1 => h1.1⟩, fun _ => rfl⟩
theorem wr_F (is : Bool) : Wr (fun b => b.F is) (flagT is) True := fun _b => ⟨⟨fun h1 => ⟨h1, trivial⟩, fun h1 => h1.1⟩, fun _ => rfl⟩
theorem wr_T (x : List UInt8) (most : Nat) : Wr (fun b => b.T x most) (textT x) (x.length ≤ most) := fun b => by
  unfold Bb.T
  refine ⟨?_, fun _ => rfl⟩
  simp only [Bool.or_eq_false_iff, decide_eq_false_iff_not]
  constructor
  · rintro ⟨h1, h2⟩; exact ⟨h1, by omega⟩
  · rintro ⟨h1, h2⟩; exact ⟨h1, by omega⟩
theorem wr_row {α : Type} {f : Bb → α → Bb} {t : α → List UInt8} {P : α → Prop} (l : List α) (most : Nat) (h : ∀ x ∈ l, Wr (fun b => f b x) (t x) (P x)) :
    Wr (fun b => l.foldl f (b.N (l.length : Int) most)) (rowT t l) (l.length ≤ most ∧ ∀ x ∈ l, P x) :=
  ((wr_N (l.length : Int) most).comp (Wr.fold l h)).congr (by simp [rowT, natT]) ⟨fun ⟨h1, h2⟩ => ⟨⟨by omega, by omega⟩, h2⟩, fun ⟨⟨_, h1⟩, h2⟩ => ⟨by omega, h2⟩⟩
-- shifts
def shT (x : Int × Int × Int) : List UInt8 := natT x.1 ++ (natT x.2.1 ++ natT x.2.2)
def shO (x : Int × Int × Int) : Prop := (0 ≤ x.1 ∧ x.1 ≤ 127) ∧ (0 ≤ x.2.1 ∧ x.2.1 ≤ 1440) ∧ (0 ≤ x.2.2 ∧ x.2.2 ≤ 1440)
def rdSh : Rd → (Int × Int × Int) × Rd := rdP (rdI 127) (rdP (rdI 1440) (rdI 1440))
theorem cod_sh : Cod shT shO rdSh := cod_congr (cod_pair (cod_int 127 (by omega)) (cod_pair (cod_int 1440 (by omega)) (cod_int 1440 (by omega)))) (fun _ _ => rfl) fun _ => Iff.rfl
theorem wr_shifts (l : List (Int × Int × Int)) (most : Nat) : Wr (fun b => b.shifts l most) (rowT shT l) (l.length ≤ most ∧ ∀ x ∈ l, shO x) :=
  wr_row l most fun x _ => (((wr_N x.1 127).comp (wr_N x.2.1 1440)).comp (wr_N x.2.2 1440)).congr (by simp [shT, List.append_assoc]) (by unfold shO; simp only [and_assoc])
theorem wr_small (l : List Int) : Wr (fun b => b.small l) (rowT zigT l) (l.length ≤ 400 ∧ ∀ x ∈ l, -400 ≤ x ∧ x ≤ 400) := wr_row l 400 fun x _ => wr_Z x (-400) 400
theorem wr_stamps {l : List Int} (h : okI l) (most : Nat) : Wr (fun b => b.stamps l most) (rowT zigT l) (l.length ≤ most ∧ ∀ x ∈ l, I64 x) := wr_row l most fun x hx => wr_M (h x hx)
-- settings
def tuT (x : Spn) : List UInt8 := zigT x.1 ++ zigT x.2
def tuO (x : Spn) : Prop := I64 x.1 ∧ -900 ≤ x.2 ∧ x.2 ≤ 900
def rdTu : Rd → Spn × Rd := rdP rdSig (rdZ (-900) 900)
theorem cod_tu : Cod tuT tuO rdTu := cod_congr (cod_pair cod_sig (cod_z (by omega) (by omega))) (fun _ _ => rfl) fun _ => Iff.rfl
def Stg.T (s : Stg) : List UInt8 := zigT s.base ++ (rowT tuT s.turns ++ (rowT shT s.shifts ++ (rowT natT s.off ++ (natT s.before ++ natT s.after))))
def Stg.O (s : Stg) : Prop := (-900 ≤ s.base ∧ s.base ≤ 900) ∧ (s.turns.length ≤ 700 ∧ ∀ x ∈ s.turns, tuO x) ∧ (s.shifts.length ≤ 10 ∧ ∀ x ∈ s.shifts, shO x) ∧ (s.off.length ≤ 60 ∧ ∀ x ∈ s.off, 0 ≤ x ∧ x ≤ 109937) ∧ (0 ≤ s.before ∧ s.before ≤ 240) ∧ (0 ≤ s.after ∧ s.after ≤ 240)
def rdStgT : Rd → (Int × List Spn × List (Int × Int × Int) × List Int × Int × Int) × Rd := rdP (rdZ (-900) 900) (rdP (rdRow 700 rdTu) (rdP (rdRow 10 rdSh) (rdP (rdRow 60 (rdI 109937)) (rdP (rdI 240) (rdI 240)))))
def Stg.of (x : Int × List Spn × List (Int × Int × Int) × List Int × Int × Int) : Stg := ⟨x.1, x.2.1, x.2.2.1, x.2.2.2.1, x.2.2.2.2.1, x.2.2.2.2.2⟩
def rdStg (r : Rd) : Stg × Rd := (Stg.of (rdStgT r).1, (rdStgT r).2)
theorem cod_stg : Cod Stg.T Stg.O rdStg :=
  cod_congr ((cod_pair (cod_z (least := -900) (most := 900) (by omega) (by omega)) (cod_pair (cod_rowT cod_tu 700 (by omega)) (cod_pair (cod_rowT cod_sh 10 (by omega)) (cod_pair (cod_rowT (cod_int 109937 (by omega)) 60 (by omega)) (cod_pair (cod_int 240 (by omega)) (cod_int 240 (by omega))))))).as (f := Stg.of) (g := fun s => (s.base, s.turns, s.shifts, s.off, s.before, s.after)) (fun _ => rfl) fun _ _ => rfl) (fun _ _ => rfl) fun _ => Iff.rfl
theorem wr_Settings {s : Stg} (h : s.Fits) : Wr (fun b => b.Settings s) s.T s.O :=
  (((((wr_Z s.base (-900) 900).comp (wr_row s.turns 700 fun x hx => (wr_M (h.turns x hx).1).comp (wr_Z x.2 (-900) 900))).comp (wr_shifts s.shifts 10)).comp (wr_row s.off 60 fun x _ => wr_N x 109937)).comp ((wr_N s.before 240).comp (wr_N s.after 240))).congr
    (by simp only [Stg.T, List.append_assoc]; rfl) (by simp only [Stg.O, and_assoc]; rfl)
-- queries
def wtT (x : Nat × Int) : List UInt8 := numT x.1 ++ natT x.2
def wtO (most : Nat) (x : Nat × Int) : Prop := U32 x.1 ∧ 0 ≤ x.2 ∧ x.2 ≤ most
def rdWt (most : Nat) : Rd → (Nat × Int) × Rd := rdP (rdNum 4294967295) (rdI most)
theorem cod_wt (most : Nat) (hm : most < 18446744073709551616) : Cod wtT (wtO most) (rdWt most) := cod_congr (cod_pair cod_u32 (cod_int most hm)) (fun _ _ => rfl) fun _ => Iff.rfl
def apT (x : Nat × Nat) : List UInt8 := numT x.1 ++ numT x.2
def apO (x : Nat × Nat) : Prop := U32 x.1 ∧ U32 x.2
def rdAp : Rd → (Nat × Nat) × Rd := rdP (rdNum 4294967295) (rdNum 4294967295)
theorem cod_ap : Cod apT apO rdAp := cod_congr (cod_pair cod_u32 cod_u32) (fun _ _ => rfl) fun _ => Iff.rfl
def Qy.T (q : Qy) : List UInt8 := zigT q.win.1 ++ (zigT q.win.2 ++ (natT q.long ++ (natT q.grid ++ (rowT numT q.must ++ (rowT wtT q.may ++ (natT q.seats ++ (rowT apT q.apart ++ rowT shT q.prefer)))))))
def Qy.O (q : Qy) : Prop := I64 q.win.1 ∧ I64 q.win.2 ∧ (0 ≤ q.long ∧ q.long ≤ 10080) ∧ (0 ≤ q.grid ∧ q.grid ≤ 1440) ∧ (q.must.length ≤ 64 ∧ ∀ x ∈ q.must, U32 x) ∧ (q.may.length ≤ 16 ∧ ∀ x ∈ q.may, wtO 1000 x) ∧ (0 ≤ q.seats ∧ q.seats ≤ 100) ∧ (q.apart.length ≤ 32 ∧ ∀ x ∈ q.apart, apO x) ∧ (q.prefer.length ≤ 8 ∧ ∀ x ∈ q.prefer, shO x)
def rdQyT : Rd → (Int × Int × Int × Int × List Nat × List (Nat × Int) × Int × List (Nat × Nat) × List (Int × Int × Int)) × Rd :=
  rdP rdSig (rdP rdSig (rdP (rdI 10080) (rdP (rdI 1440) (rdP (rdRow 64 (rdNum 4294967295)) (rdP (rdRow 16 (rdWt 1000)) (rdP (rdI 100) (rdP (rdRow 32 rdAp) (rdRow 8 rdSh))))))))
def Qy.of (x : Int × Int × Int × Int × List Nat × List (Nat × Int) × Int × List (Nat × Nat) × List (Int × Int × Int)) : Qy := ⟨(x.1, x.2.1), x.2.2.1, x.2.2.2.1, x.2.2.2.2.1, x.2.2.2.2.2.1, x.2.2.2.2.2.2.1, x.2.2.2.2.2.2.2.1, x.2.2.2.2.2.2.2.2⟩
def rdQy (r : Rd) : Qy × Rd := (Qy.of (rdQyT r).1, (rdQyT r).2)
theorem cod_qy : Cod Qy.T Qy.O rdQy :=
  cod_congr ((cod_pair cod_sig (cod_pair cod_sig (cod_pair (cod_int 10080 (by omega)) (cod_pair (cod_int 1440 (by omega)) (cod_pair (cod_rowT cod_u32 64 (by omega)) (cod_pair (cod_rowT (cod_wt 1000 (by omega)) 16 (by omega)) (cod_pair (cod_int 100 (by omega)) (cod_pair (cod_rowT cod_ap 32 (by omega)) (cod_rowT cod_sh 8 (by omega)))))))))).as (f := Qy.of) (g := fun q => (q.win.1, q.win.2, q.long, q.grid, q.must, q.may, q.seats, q.apart, q.prefer)) (fun _ => rfl) fun _ _ => rfl) (fun _ _ => rfl) fun _ => Iff.rfl
theorem wr_Query {q : Qy} (h : q.Fits) : Wr (fun b => b.Query q) q.T q.O :=
  ((((((wr_M h.win.1).comp (wr_M h.win.2)).comp (wr_N q.long 10080)).comp (wr_N q.grid 1440)).comp (wr_row q.must 64 fun x hx => wr_U (h.must x hx))).comp ((wr_row q.may 16 fun x hx => (wr_U (h.may x hx).1).comp (wr_N x.2 1000)).comp
    (((wr_N q.seats 100).comp (wr_row q.apart 32 fun x hx => (wr_U (h.apart x hx).1).comp (wr_U (h.apart x hx).2))).comp (wr_shifts q.prefer 8)))).congr
    (by simp only [Qy.T, List.append_assoc]; rfl) (by simp only [Qy.O, and_assoc]; rfl)
-- polls
def Pl.T (o : Pl) : List UInt8 := numT o.id ++ (numT o.owner ++ (o.query.T ++ (rowT zigT o.slots ++ (rowT wtT o.votes ++ (zigT o.until_ ++ (natT o.state ++ natT o.winner))))))
def Pl.O (o : Pl) : Prop := U32 o.id ∧ U32 o.owner ∧ o.query.O ∧ (o.slots.length ≤ 40 ∧ ∀ x ∈ o.slots, I64 x) ∧ (o.votes.length ≤ 4096 ∧ ∀ x ∈ o.votes, wtO 40 x) ∧ I64 o.until_ ∧ (0 ≤ o.state ∧ o.state ≤ 4) ∧ (0 ≤ o.winner ∧ o.winner ≤ 40)
def rdPlT : Rd → (Nat × Nat × Qy × List Int × List (Nat × Int) × Int × Int × Int) × Rd :=
  rdP (rdNum 4294967295) (rdP (rdNum 4294967295) (rdP rdQy (rdP (rdRow 40 rdSig) (rdP (rdRow 4096 (rdWt 40)) (rdP rdSig (rdP (rdI 4) (rdI 40)))))))
def Pl.of (x : Nat × Nat × Qy × List Int × List (Nat × Int) × Int × Int × Int) : Pl := ⟨x.1, x.2.1, x.2.2.1, x.2.2.2.1, x.2.2.2.2.1, x.2.2.2.2.2.1, x.2.2.2.2.2.2.1, x.2.2.2.2.2.2.2⟩
def rdPl (r : Rd) : Pl × Rd := (Pl.of (rdPlT r).1, (rdPlT r).2)
theorem cod_pl : Cod Pl.T Pl.O rdPl :=
  cod_congr ((cod_pair cod_u32 (cod_pair cod_u32 (cod_pair cod_qy (cod_pair (cod_rowT cod_zigT 40 (by omega)) (cod_pair (cod_rowT (cod_wt 40 (by omega)) 4096 (by omega)) (cod_pair cod_sig (cod_pair (cod_int 4 (by omega)) (cod_int 40 (by omega))))))))).as (f := Pl.of) (g := fun o => (o.id, o.owner, o.query, o.slots, o.votes, o.until_, o.state, o.winner)) (fun _ => rfl) fun _ _ => rfl) (fun _ _ => rfl) fun _ => Iff.rfl
theorem wr_Poll {o : Pl} (h : o.Fits) : Wr (fun b => b.Poll o) o.T o.O :=
  ((((((wr_U h.id).comp (wr_U h.owner)).comp (wr_Query h.query)).comp (wr_stamps h.slots 40)).comp (wr_row o.votes 4096 fun x hx => (wr_U (h.votes x hx).1).comp (wr_N x.2 40))).comp (((wr_M h.until_).comp (wr_N o.state 4)).comp (wr_N o.winner 40))).congr
    (by simp only [Pl.T, List.append_assoc]; rfl) (by simp only [Pl.O, and_assoc]; rfl)
-- events
def byT (x : Spn) : List UInt8 := zigT x.1 ++ natT x.2
def byO (x : Spn) : Prop := (-5 ≤ x.1 ∧ x.1 ≤ 5) ∧ 0 ≤ x.2 ∧ x.2 ≤ 6
def rdBy : Rd → Spn × Rd := rdP (rdZ (-5) 5) (rdI 6)
theorem cod_by : Cod byT byO rdBy := cod_congr (cod_pair (cod_z (by omega) (by omega)) (cod_int 6 (by omega))) (fun _ _ => rfl) fun _ => Iff.rfl
def chT (x : Int × Int × Int) : List UInt8 := zigT x.1 ++ (zigT x.2.1 ++ natT x.2.2)
def chO (x : Int × Int × Int) : Prop := I64 x.1 ∧ I64 x.2.1 ∧ 0 ≤ x.2.2 ∧ x.2.2 ≤ 10080
def rdCh : Rd → (Int × Int × Int) × Rd := rdP rdSig (rdP rdSig (rdI 10080))
theorem cod_ch : Cod chT chO rdCh := cod_congr (cod_pair cod_sig (cod_pair cod_sig (cod_int 10080 (by omega)))) (fun _ _ => rfl) fun _ => Iff.rfl
abbrev EvR := Int × Int × Int × Int × List Int × List Int × List Spn × List Int × Int × List Int × List Int × List (Int × Int × Int)
def EvR.T (x : EvR) : List UInt8 := natT x.1 ++ (natT x.2.1 ++ (natT x.2.2.1 ++ (zigT x.2.2.2.1 ++ (rowT zigT x.2.2.2.2.1 ++ (rowT zigT x.2.2.2.2.2.1 ++ (rowT byT x.2.2.2.2.2.2.1 ++ (rowT zigT x.2.2.2.2.2.2.2.1 ++ (natT x.2.2.2.2.2.2.2.2.1 ++ (rowT zigT x.2.2.2.2.2.2.2.2.2.1 ++ (rowT zigT x.2.2.2.2.2.2.2.2.2.2.1 ++ rowT chT x.2.2.2.2.2.2.2.2.2.2.2))))))))))
def sm (l : List Int) : Prop := l.length ≤ 400 ∧ ∀ x ∈ l, -400 ≤ x ∧ x ≤ 400
def EvR.O (x : EvR) : Prop := (0 ≤ x.1 ∧ x.1 ≤ 4) ∧ (0 ≤ x.2.1 ∧ x.2.1 ≤ 999) ∧ (0 ≤ x.2.2.1 ∧ x.2.2.1 ≤ 5000) ∧ I64 x.2.2.2.1 ∧ sm x.2.2.2.2.1 ∧ sm x.2.2.2.2.2.1 ∧ (x.2.2.2.2.2.2.1.length ≤ 400 ∧ ∀ y ∈ x.2.2.2.2.2.2.1, byO y) ∧ sm x.2.2.2.2.2.2.2.1 ∧ (0 ≤ x.2.2.2.2.2.2.2.2.1 ∧ x.2.2.2.2.2.2.2.2.1 ≤ 6) ∧
  (x.2.2.2.2.2.2.2.2.2.1.length ≤ 50 ∧ ∀ y ∈ x.2.2.2.2.2.2.2.2.2.1, I64 y) ∧ (x.2.2.2.2.2.2.2.2.2.2.1.length ≤ 50 ∧ ∀ y ∈ x.2.2.2.2.2.2.2.2.2.2.1, I64 y) ∧ (x.2.2.2.2.2.2.2.2.2.2.2.length ≤ 50 ∧ ∀ y ∈ x.2.2.2.2.2.2.2.2.2.2.2, chO y)
def rdSm : Rd → List Int × Rd := rdRow 400 (rdZ (-400) 400)
theorem cod_sm : Cod (rowT zigT) sm rdSm := cod_rowT (cod_congr (cod_z (least := -400) (most := 400) (by omega) (by omega)) (fun _ _ => rfl) fun _ => Iff.rfl) 400 (by omega)
def rdEvR : Rd → EvR × Rd := rdP (rdI 4) (rdP (rdI 999) (rdP (rdI 5000) (rdP rdSig (rdP rdSm (rdP rdSm (rdP (rdRow 400 rdBy) (rdP rdSm (rdP (rdI 6) (rdP (rdRow 50 rdSig) (rdP (rdRow 50 rdSig) (rdRow 50 rdCh)))))))))))
theorem cod_evr : Cod EvR.T EvR.O rdEvR :=
  cod_congr (cod_pair (cod_int 4 (by omega)) (cod_pair (cod_int 999 (by omega)) (cod_pair (cod_int 5000 (by omega)) (cod_pair cod_sig (cod_pair cod_sm (cod_pair cod_sm (cod_pair (cod_rowT cod_by 400 (by omega)) (cod_pair cod_sm (cod_pair (cod_int 6 (by omega)) (cod_pair (cod_rowT cod_zigT 50 (by omega)) (cod_pair (cod_rowT cod_zigT 50 (by omega)) (cod_rowT cod_ch 50 (by omega))))))))))))) (fun _ _ => rfl) fun _ => Iff.rfl
def Evt.rest (e : Evt) : EvR := (e.rule.freq, e.rule.iv, e.rule.count, e.rule.until_, e.rule.bm, e.rule.bd, e.rule.bw, e.rule.bs, e.rule.start, e.ex, e.plus, e.ch)
def Evt.ofR (h : Int × Int × Bool) (x : EvR) : Evt := ⟨h.1, h.2.1, false, h.2.2, ⟨x.1, x.2.1, x.2.2.1, x.2.2.2.1, x.2.2.2.2.1, x.2.2.2.2.2.1, x.2.2.2.2.2.2.1, x.2.2.2.2.2.2.2.1, x.2.2.2.2.2.2.2.2.1⟩, x.2.2.2.2.2.2.2.2.2.1, x.2.2.2.2.2.2.2.2.2.2.1, x.2.2.2.2.2.2.2.2.2.2.2⟩
def Evt.ofW (h : Int × Int × Bool) (w : Bool) : Evt := ⟨h.1, h.2.1, w, h.2.2, zeroR, [], [], []⟩
def rdEvH : Rd → (Int × Int × Bool) × Rd := rdP rdSig (rdP (rdI 10080) rdFlag)
theorem cod_evh : Cod (fun x : Int × Int × Bool => zigT x.1 ++ (natT x.2.1 ++ flagT x.2.2)) (fun x => I64 x.1 ∧ (0 ≤ x.2.1 ∧ x.2.1 ≤ 10080) ∧ True) rdEvH := cod_pair cod_sig (cod_pair (cod_int 10080 (by omega)) cod_flag)
def Evt.tail (e : Evt) : List UInt8 := if e.again = true then e.rest.T else flagT e.world
def Evt.T (e : Evt) : List UInt8 := zigT e.start ++ (natT e.long ++ (flagT e.again ++ e.tail))
def Evt.O (e : Evt) : Prop := I64 e.start ∧ (0 ≤ e.long ∧ e.long ≤ 10080) ∧ (e.again = true → e.rest.O)
def rdEvB (h : Int × Int × Bool) (r : Rd) : Evt × Rd := if h.2.2 = true then (Evt.ofR h (rdEvR r).1, (rdEvR r).2) else (Evt.ofW h (rdFlag r).1, (rdFlag r).2)
def rdEvt (r : Rd) : Evt × Rd := ((rdTwo rdEvH rdEvB r).1.2, (rdTwo rdEvH rdEvB r).2)
theorem cod_evb (h : Int × Int × Bool) : Cod Evt.tail (fun e => (e.start, e.long, e.again) = h ∧ (e.again = true → e.rest.O) ∧ plainP e) (rdEvB h) := by
  obtain ⟨h1, h2, h3⟩ := h
  cases h3 with
  | true =>
    have c := cod_as (f := Evt.ofR (h1, h2, true)) (g := Evt.rest) cod_evr (fun _ _ => rfl)
    refine cod_congr (show Cod (fun b => EvR.T b.rest) (fun b => EvR.O b.rest ∧ Evt.ofR (h1, h2, true) b.rest = b) (rdEvB (h1, h2, true)) from c) (fun a ha => ?_) (fun a => ?_)
    · have : a.again = true := by rw [← ha.2]; rfl
      unfold Evt.tail; rw [if_pos this]
    · constructor
      · rintro ⟨q1, q2, q3⟩
        obtain ⟨a1, a2, a3, a4, a5, a6, a7, a8⟩ := a
        simp only [Prod.mk.injEq] at q1
        obtain ⟨rfl, rfl, rfl⟩ := q1
        have := q3.1 rfl
        simp only at this
        subst this
        exact ⟨q2 rfl, rfl⟩
      · rintro ⟨q1, q2⟩
        rw [← q2]
        refine ⟨rfl, fun _ => q1, fun _ => rfl, fun h => ?_⟩
        cases h
  | false =>
    have c := cod_as (f := Evt.ofW (h1, h2, false)) (g := Evt.world) cod_flag (fun _ _ => rfl)
    refine cod_congr (show Cod (fun b : Evt => flagT b.world) (fun b => True ∧ Evt.ofW (h1, h2, false) b.world = b) (rdEvB (h1, h2, false)) from c) (fun a ha => ?_) (fun a => ?_)
    · have : ¬ a.again = true := by rw [← ha.2]; simp [Evt.ofW]
      unfold Evt.tail; rw [if_neg this]
    · constructor
      · rintro ⟨q1, q2, q3⟩
        obtain ⟨a1, a2, a3, a4, a5, a6, a7, a8⟩ := a
        simp only [Prod.mk.injEq] at q1
        obtain ⟨rfl, rfl, rfl⟩ := q1
        obtain ⟨p1, p2, p3, p4⟩ := q3.2 rfl
        simp only at p1 p2 p3 p4
        have p2 := List.length_eq_zero_iff.1 p2
        have p3 := List.length_eq_zero_iff.1 p3
        have p4 := List.length_eq_zero_iff.1 p4
        subst p1 p2 p3 p4
        exact ⟨trivial, rfl⟩
      · rintro ⟨_, q2⟩
        rw [← q2]
        refine ⟨rfl, fun h => ?_, fun h => ?_, fun _ => ⟨rfl, rfl, rfl, rfl⟩⟩ <;> cases h
theorem cod_evt : Cod Evt.T (fun e => e.O ∧ plainP e) rdEvt := by
  have c := cod_evh.two (txu := fun _ => Evt.tail) (oku := fun h e => (e.start, e.long, e.again) = h ∧ (e.again = true → e.rest.O) ∧ plainP e) (re := rdEvB) (fun h _ => cod_evb h) (fun h => (cod_evb h).bad)
  have c2 := c.as (f := fun x => x.2) (g := fun e : Evt => ((e.start, e.long, e.again), e)) (fun _ => rfl) (fun a ha => by obtain ⟨h, e⟩ := a; simp only at ha ⊢; rw [ha.2.1])
  refine cod_congr c2 (fun e _ => by simp only [Evt.T, List.append_assoc]) (fun e => ?_)
  unfold Evt.O
  simp only [true_and, and_true]
  constructor
  · rintro ⟨⟨q1, q2, q3⟩, q4⟩; exact ⟨⟨q1, q2⟩, q3, q4⟩
  · rintro ⟨⟨q1, q2⟩, q3, q4⟩; exact ⟨⟨q1, q2, q3⟩, q4⟩
theorem wr_Event {e : Evt} (h : e.Fits) : Wr (fun b => b.Event e) e.T e.O := by
  have hd := ((wr_M h.start).comp (wr_N e.long 10080)).comp (wr_F e.again)
  by_cases ha : e.again = true
  · have hr := hd.comp ((((((((wr_N e.rule.freq 4).comp (wr_N e.rule.iv 999)).comp (wr_N e.rule.count 5000)).comp (wr_M h.until_)).comp (wr_small e.rule.bm)).comp (wr_small e.rule.bd)).comp (wr_row e.rule.bw 400 fun x _ => (wr_Z x.1 (-5) 5).comp (wr_N x.2 6))).comp
      (((((wr_small e.rule.bs).comp (wr_N e.rule.start 6)).comp (wr_stamps h.ex 50)).comp (wr_stamps h.plus 50)).comp (wr_row e.ch 50 fun x hx => ((wr_M (h.ch x hx).1).comp (wr_M (h.ch x hx).2.1)).comp (wr_N x.2.2 10080))))
    have e1 : (fun b : Bb => b.Event e) = fun b => Bb.Ev1 e (((b.M e.start).N e.long 10080).F e.again) := by funext b; unfold Bb.Event; rw [if_pos ha]
    rw [e1]
    refine hr.congr ?_ ?_
    · simp only [Evt.T, Evt.tail, if_pos ha, EvR.T, Evt.rest, List.append_assoc]; rfl
    · simp only [Evt.O, ha, EvR.O, Evt.rest, sm, chO, byO, and_assoc, true_and, forall_const]
  · have hr := hd.comp (wr_F e.world)
    have e1 : (fun b : Bb => b.Event e) = fun b => (((b.M e.start).N e.long 10080).F e.again).F e.world := by funext b; unfold Bb.Event; rw [if_neg ha]
    rw [e1]
    refine hr.congr ?_ ?_
    · simp only [Evt.T, Evt.tail, if_neg ha, List.append_assoc]
    · simp only [Evt.O, ha, and_assoc, and_true]
      simp
end Go.Proofs.YtdhinjbkfffpeaaGreat
end
section
namespace Go.Proofs.YtdhinjbkfffpeaaGreat
open Sp Fr Pk
theorem finB_wr {f : Bb → Bb} {t : List UInt8} {P : Prop} (h : Wr f t P) (most : Nat) (l : List UInt8) : finB most (f ⟨[], false⟩) = some l ↔ P ∧ l = t ∧ l.length ≤ most := by
  obtain ⟨h1, h2⟩ := h ⟨[], false⟩
  unfold finB
  by_cases hb : (f ⟨[], false⟩).bad = true
  · rw [if_pos (.inl hb)]
    constructor
    · intro h; cases h
    · rintro ⟨hP, _⟩
      have := h1.2 ⟨rfl, hP⟩
      rw [this] at hb; cases hb
  · have hb : (f ⟨[], false⟩).bad = false := by simpa using hb
    have hs : (f ⟨[], false⟩).s = t := by simpa using h2 hb
    have hP := (h1.1 hb).2
    by_cases hl : most < (f ⟨[], false⟩).s.length
    · rw [if_pos (.inr hl)]
      constructor
      · intro h; cases h
      · rintro ⟨_, e, hle⟩
        rw [hs, ← e] at hl; omega
    · rw [if_neg (by rintro (h | h); exact absurd h (by simp [hb]); exact hl h), Option.some.injEq]
      rw [hs] at hl ⊢
      exact ⟨fun e => ⟨hP, e.symm, by rw [← e]; omega⟩, fun e => e.2.1.symm⟩
-- replies
def slT (x : Int × Int × Int) : List UInt8 := zigT x.1 ++ (natT x.2.1 ++ natT x.2.2)
def slO (x : Int × Int × Int) : Prop := I64 x.1 ∧ (0 ≤ x.2.1 ∧ x.2.1 ≤ 100000) ∧ (0 ≤ x.2.2 ∧ x.2.2 ≤ 100)
abbrev RpH := Int × Nat × List (Int × Int × Int) × List UInt8 × Bool
def RpH.T (x : RpH) : List UInt8 := natT x.1 ++ (numT x.2.1 ++ (rowT slT x.2.2.1 ++ (textT x.2.2.2.1 ++ flagT x.2.2.2.2)))
def RpH.O (x : RpH) : Prop := (0 ≤ x.1 ∧ x.1 ≤ 13) ∧ U64 x.2.1 ∧ (x.2.2.1.length ≤ 100 ∧ ∀ y ∈ x.2.2.1, slO y) ∧ x.2.2.2.1.length ≤ 64
def Rp.head (r : Rp) : RpH := (r.err, r.version, r.slots, r.cursor, decide (r.poll.id ≠ 0))
def Rp.tail (r : Rp) : List UInt8 := if r.poll.id ≠ 0 then r.poll.T else []
def Rp.T (r : Rp) : List UInt8 := r.head.T ++ r.tail
def Rp.O (r : Rp) : Prop := r.head.O ∧ (r.poll.id ≠ 0 → r.poll.O) ∧ (r.poll.id = 0 → r.poll = noPl)
-- requests
def Ak.bodyT (a : Ak) : List UInt8 :=
  if a.kind = 1 then Stg.T a.settings else
  if a.kind = 2 then [] else
  if a.kind = 3 then numT a.id ++ Evt.T a.event else
  if a.kind = 4 then numT a.id else
  if a.kind = 5 then Qy.T a.query ++ (textT a.cursor ++ natT a.count) else
  if a.kind = 6 then numT a.poll ++ (Qy.T a.query ++ (natT a.count ++ zigT a.until_)) else
  if a.kind = 7 then numT a.poll ++ (natT a.slot ++ flagT a.yes) else
  if a.kind = 8 then numT a.poll else
  if a.kind = 10 then numT a.poll else
  if a.kind = 9 then numT a.poll ++ numT a.id else
  if a.kind = 11 then zigT a.until_ else
  []
def Ak.bodyO (a : Ak) : Prop :=
  if a.kind = 1 then Stg.O a.settings else
  if a.kind = 2 then True else
  if a.kind = 3 then U32 a.id ∧ (Evt.O a.event ∧ plainP a.event) else
  if a.kind = 4 then U32 a.id else
  if a.kind = 5 then Qy.O a.query ∧ List.length a.cursor ≤ 64 ∧ (0 ≤ a.count ∧ a.count ≤ 100) else
  if a.kind = 6 then U32 a.poll ∧ Qy.O a.query ∧ (0 ≤ a.count ∧ a.count ≤ 100) ∧ I64 a.until_ else
  if a.kind = 7 then U32 a.poll ∧ (0 ≤ a.slot ∧ a.slot ≤ 40) ∧ True else
  if a.kind = 8 then U32 a.poll else
  if a.kind = 10 then U32 a.poll else
  if a.kind = 9 then U32 a.poll ∧ U32 a.id else
  if a.kind = 11 then I64 a.until_ else
  False
def mkAk1 (h : Int × Nat × Nat) (x : Stg) : Ak := { noAk h with settings := x }
def rdAk1 : Rd → (Stg) × Rd := rdStg
def mkAk2 (h : Int × Nat × Nat) (_x : Unit) : Ak := noAk h
def rdAk2 : Rd → (Unit) × Rd := fun r => ((), r)
def mkAk3 (h : Int × Nat × Nat) (x : Nat × Evt) : Ak := { noAk h with id := x.1, event := x.2 }
def rdAk3 : Rd → (Nat × Evt) × Rd := (rdP (rdNum 4294967295) rdEvt)
def mkAk4 (h : Int × Nat × Nat) (x : Nat) : Ak := { noAk h with id := x }
def rdAk4 : Rd → (Nat) × Rd := (rdNum 4294967295)
def mkAk5 (h : Int × Nat × Nat) (x : Qy × List UInt8 × Int) : Ak := { noAk h with query := x.1, cursor := x.2.1, count := x.2.2 }
def rdAk5 : Rd → (Qy × List UInt8 × Int) × Rd := (rdP rdQy (rdP (rdText ((64 : Nat) : Int)) (rdI 100)))
def mkAk6 (h : Int × Nat × Nat) (x : Nat × Qy × Int × Int) : Ak := { noAk h with poll := x.1, query := x.2.1, count := x.2.2.1, until_ := x.2.2.2 }
def rdAk6 : Rd → (Nat × Qy × Int × Int) × Rd := (rdP (rdNum 4294967295) (rdP rdQy (rdP (rdI 100) rdSig)))
def mkAk7 (h : Int × Nat × Nat) (x : Nat × Int × Bool) : Ak := { noAk h with poll := x.1, slot := x.2.1, yes := x.2.2 }
def rdAk7 : Rd → (Nat × Int × Bool) × Rd := (rdP (rdNum 4294967295) (rdP (rdI 40) rdFlag))
def mkAk8 (h : Int × Nat × Nat) (x : Nat) : Ak := { noAk h with poll := x }
def rdAk8 : Rd → (Nat) × Rd := (rdNum 4294967295)
def mkAk10 (h : Int × Nat × Nat) (x : Nat) : Ak := { noAk h with poll := x }
def rdAk10 : Rd → (Nat) × Rd := (rdNum 4294967295)
def mkAk9 (h : Int × Nat × Nat) (x : Nat × Nat) : Ak := { noAk h with poll := x.1, id := x.2 }
def rdAk9 : Rd → (Nat × Nat) × Rd := (rdP (rdNum 4294967295) (rdNum 4294967295))
def mkAk11 (h : Int × Nat × Nat) (x : Int) : Ak := { noAk h with until_ := x }
def rdAk11 : Rd → (Int) × Rd := rdSig
def rdAkB (h : Int × Nat × Nat) (r : Rd) : Ak × Rd :=
  if h.1 = 1 then (mkAk1 h (rdAk1 r).1, (rdAk1 r).2) else
  if h.1 = 2 then (mkAk2 h (rdAk2 r).1, (rdAk2 r).2) else
  if h.1 = 3 then (mkAk3 h (rdAk3 r).1, (rdAk3 r).2) else
  if h.1 = 4 then (mkAk4 h (rdAk4 r).1, (rdAk4 r).2) else
  if h.1 = 5 then (mkAk5 h (rdAk5 r).1, (rdAk5 r).2) else
  if h.1 = 6 then (mkAk6 h (rdAk6 r).1, (rdAk6 r).2) else
  if h.1 = 7 then (mkAk7 h (rdAk7 r).1, (rdAk7 r).2) else
  if h.1 = 8 then (mkAk8 h (rdAk8 r).1, (rdAk8 r).2) else
  if h.1 = 10 then (mkAk10 h (rdAk10 r).1, (rdAk10 r).2) else
  if h.1 = 9 then (mkAk9 h (rdAk9 r).1, (rdAk9 r).2) else
  if h.1 = 11 then (mkAk11 h (rdAk11 r).1, (rdAk11 r).2) else
  (noAk h, none)
theorem cod_akb (h : Int × Nat × Nat) : Cod Ak.bodyT (fun a => (a.kind, a.caller, a.number) = h ∧ (1 ≤ a.kind ∧ a.kind ≤ 11) ∧ a.named = a ∧ a.bodyO) (rdAkB h) := by
  obtain ⟨k, c, n⟩ := h
  by_cases h1 : k = 1
  · subst h1
    have cc := cod_as (f := mkAk1 (1, c, n)) (g := fun a : Ak => a.settings) cod_stg (fun _ _ => rfl)
    refine cod_congr (show Cod _ _ (rdAkB (1, c, n)) from cc) (fun a ha => ?_) (fun a => ⟨fun ha => ?_, fun ha => ?_⟩)
    · rw [← ha.2]; rfl
    · obtain ⟨q1, _, q3, q4⟩ := ha
      obtain ⟨a1, a2, a3, a4, a5, a6, a7, a8, a9, a10, a11, a12, a13, a14⟩ := a
      simp only [Prod.mk.injEq] at q1
      obtain ⟨rfl, rfl, rfl⟩ := q1
      exact ⟨q4, q3⟩
    · rw [← ha.2]
      exact ⟨rfl, ⟨(by show (1 : Int) ≤ 1; decide), (by show (1 : Int) ≤ 11; decide)⟩, rfl, ha.1⟩
  by_cases h2 : k = 2
  · subst h2
    have cc := cod_as (f := mkAk2 (2, c, n)) (g := fun a : Ak => ()) cod_unit (fun _ _ => rfl)
    refine cod_congr (show Cod _ _ (rdAkB (2, c, n)) from cc) (fun a ha => ?_) (fun a => ⟨fun ha => ?_, fun ha => ?_⟩)
    · rw [← ha.2]; rfl
    · obtain ⟨q1, _, q3, q4⟩ := ha
      obtain ⟨a1, a2, a3, a4, a5, a6, a7, a8, a9, a10, a11, a12, a13, a14⟩ := a
      simp only [Prod.mk.injEq] at q1
      obtain ⟨rfl, rfl, rfl⟩ := q1
      exact ⟨q4, q3⟩
    · rw [← ha.2]
      exact ⟨rfl, ⟨(by show (1 : Int) ≤ 2; decide), (by show (2 : Int) ≤ 11; decide)⟩, rfl, ha.1⟩
  by_cases h3 : k = 3
  · subst h3
    have cc := cod_as (f := mkAk3 (3, c, n)) (g := fun a : Ak => (a.id, a.event)) (cod_pair cod_u32 cod_evt) (fun _ _ => rfl)
    refine cod_congr (show Cod _ _ (rdAkB (3, c, n)) from cc) (fun a ha => ?_) (fun a => ⟨fun ha => ?_, fun ha => ?_⟩)
    · rw [← ha.2]; rfl
    · obtain ⟨q1, _, q3, q4⟩ := ha
      obtain ⟨a1, a2, a3, a4, a5, a6, a7, a8, a9, a10, a11, a12, a13, a14⟩ := a
      simp only [Prod.mk.injEq] at q1
      obtain ⟨rfl, rfl, rfl⟩ := q1
      exact ⟨q4, q3⟩
    · rw [← ha.2]
      exact ⟨rfl, ⟨(by show (1 : Int) ≤ 3; decide), (by show (3 : Int) ≤ 11; decide)⟩, rfl, ha.1⟩
  by_cases h4 : k = 4
  · subst h4
    have cc := cod_as (f := mkAk4 (4, c, n)) (g := fun a : Ak => a.id) cod_u32 (fun _ _ => rfl)
    refine cod_congr (show Cod _ _ (rdAkB (4, c, n)) from cc) (fun a ha => ?_) (fun a => ⟨fun ha => ?_, fun ha => ?_⟩)
    · rw [← ha.2]; rfl
    · obtain ⟨q1, _, q3, q4⟩ := ha
      obtain ⟨a1, a2, a3, a4, a5, a6, a7, a8, a9, a10, a11, a12, a13, a14⟩ := a
      simp only [Prod.mk.injEq] at q1
      obtain ⟨rfl, rfl, rfl⟩ := q1
      exact ⟨q4, q3⟩
    · rw [← ha.2]
      exact ⟨rfl, ⟨(by show (1 : Int) ≤ 4; decide), (by show (4 : Int) ≤ 11; decide)⟩, rfl, ha.1⟩
  by_cases h5 : k = 5
  · subst h5
    have cc := cod_as (f := mkAk5 (5, c, n)) (g := fun a : Ak => (a.query, a.cursor, a.count)) (cod_pair cod_qy (cod_pair (cod_text 64 (by omega)) (cod_int 100 (by omega)))) (fun _ _ => rfl)
    refine cod_congr (show Cod _ _ (rdAkB (5, c, n)) from cc) (fun a ha => ?_) (fun a => ⟨fun ha => ?_, fun ha => ?_⟩)
    · rw [← ha.2]; rfl
    · obtain ⟨q1, _, q3, q4⟩ := ha
      obtain ⟨a1, a2, a3, a4, a5, a6, a7, a8, a9, a10, a11, a12, a13, a14⟩ := a
      simp only [Prod.mk.injEq] at q1
      obtain ⟨rfl, rfl, rfl⟩ := q1
      exact ⟨q4, q3⟩
    · rw [← ha.2]
      exact ⟨rfl, ⟨(by show (1 : Int) ≤ 5; decide), (by show (5 : Int) ≤ 11; decide)⟩, rfl, ha.1⟩
  by_cases h6 : k = 6
  · subst h6
    have cc := cod_as (f := mkAk6 (6, c, n)) (g := fun a : Ak => (a.poll, a.query, a.count, a.until_)) (cod_pair cod_u32 (cod_pair cod_qy (cod_pair (cod_int 100 (by omega)) cod_zigT))) (fun _ _ => rfl)
    refine cod_congr (show Cod _ _ (rdAkB (6, c, n)) from cc) (fun a ha => ?_) (fun a => ⟨fun ha => ?_, fun ha => ?_⟩)
    · rw [← ha.2]; rfl
    · obtain ⟨q1, _, q3, q4⟩ := ha
      obtain ⟨a1, a2, a3, a4, a5, a6, a7, a8, a9, a10, a11, a12, a13, a14⟩ := a
      simp only [Prod.mk.injEq] at q1
      obtain ⟨rfl, rfl, rfl⟩ := q1
      exact ⟨q4, q3⟩
    · rw [← ha.2]
      exact ⟨rfl, ⟨(by show (1 : Int) ≤ 6; decide), (by show (6 : Int) ≤ 11; decide)⟩, rfl, ha.1⟩
  by_cases h7 : k = 7
  · subst h7
    have cc := cod_as (f := mkAk7 (7, c, n)) (g := fun a : Ak => (a.poll, a.slot, a.yes)) (cod_pair cod_u32 (cod_pair (cod_int 40 (by omega)) cod_flag)) (fun _ _ => rfl)
    refine cod_congr (show Cod _ _ (rdAkB (7, c, n)) from cc) (fun a ha => ?_) (fun a => ⟨fun ha => ?_, fun ha => ?_⟩)
    · rw [← ha.2]; rfl
    · obtain ⟨q1, _, q3, q4⟩ := ha
      obtain ⟨a1, a2, a3, a4, a5, a6, a7, a8, a9, a10, a11, a12, a13, a14⟩ := a
      simp only [Prod.mk.injEq] at q1
      obtain ⟨rfl, rfl, rfl⟩ := q1
      exact ⟨q4, q3⟩
    · rw [← ha.2]
      exact ⟨rfl, ⟨(by show (1 : Int) ≤ 7; decide), (by show (7 : Int) ≤ 11; decide)⟩, rfl, ha.1⟩
  by_cases h8 : k = 8
  · subst h8
    have cc := cod_as (f := mkAk8 (8, c, n)) (g := fun a : Ak => a.poll) cod_u32 (fun _ _ => rfl)
    refine cod_congr (show Cod _ _ (rdAkB (8, c, n)) from cc) (fun a ha => ?_) (fun a => ⟨fun ha => ?_, fun ha => ?_⟩)
    · rw [← ha.2]; rfl
    · obtain ⟨q1, _, q3, q4⟩ := ha
      obtain ⟨a1, a2, a3, a4, a5, a6, a7, a8, a9, a10, a11, a12, a13, a14⟩ := a
      simp only [Prod.mk.injEq] at q1
      obtain ⟨rfl, rfl, rfl⟩ := q1
      exact ⟨q4, q3⟩
    · rw [← ha.2]
      exact ⟨rfl, ⟨(by show (1 : Int) ≤ 8; decide), (by show (8 : Int) ≤ 11; decide)⟩, rfl, ha.1⟩
  by_cases h10 : k = 10
  · subst h10
    have cc := cod_as (f := mkAk10 (10, c, n)) (g := fun a : Ak => a.poll) cod_u32 (fun _ _ => rfl)
    refine cod_congr (show Cod _ _ (rdAkB (10, c, n)) from cc) (fun a ha => ?_) (fun a => ⟨fun ha => ?_, fun ha => ?_⟩)
    · rw [← ha.2]; rfl
    · obtain ⟨q1, _, q3, q4⟩ := ha
      obtain ⟨a1, a2, a3, a4, a5, a6, a7, a8, a9, a10, a11, a12, a13, a14⟩ := a
      simp only [Prod.mk.injEq] at q1
      obtain ⟨rfl, rfl, rfl⟩ := q1
      exact ⟨q4, q3⟩
    · rw [← ha.2]
      exact ⟨rfl, ⟨(by show (1 : Int) ≤ 10; decide), (by show (10 : Int) ≤ 11; decide)⟩, rfl, ha.1⟩
  by_cases h9 : k = 9
  · subst h9
    have cc := cod_as (f := mkAk9 (9, c, n)) (g := fun a : Ak => (a.poll, a.id)) (cod_pair cod_u32 cod_u32) (fun _ _ => rfl)
    refine cod_congr (show Cod _ _ (rdAkB (9, c, n)) from cc) (fun a ha => ?_) (fun a => ⟨fun ha => ?_, fun ha => ?_⟩)
    · rw [← ha.2]; rfl
    · obtain ⟨q1, _, q3, q4⟩ := ha
      obtain ⟨a1, a2, a3, a4, a5, a6, a7, a8, a9, a10, a11, a12, a13, a14⟩ := a
      simp only [Prod.mk.injEq] at q1
      obtain ⟨rfl, rfl, rfl⟩ := q1
      exact ⟨q4, q3⟩
    · rw [← ha.2]
      exact ⟨rfl, ⟨(by show (1 : Int) ≤ 9; decide), (by show (9 : Int) ≤ 11; decide)⟩, rfl, ha.1⟩
  by_cases h11 : k = 11
  · subst h11
    have cc := cod_as (f := mkAk11 (11, c, n)) (g := fun a : Ak => a.until_) cod_zigT (fun _ _ => rfl)
    refine cod_congr (show Cod _ _ (rdAkB (11, c, n)) from cc) (fun a ha => ?_) (fun a => ⟨fun ha => ?_, fun ha => ?_⟩)
    · rw [← ha.2]; rfl
    · obtain ⟨q1, _, q3, q4⟩ := ha
      obtain ⟨a1, a2, a3, a4, a5, a6, a7, a8, a9, a10, a11, a12, a13, a14⟩ := a
      simp only [Prod.mk.injEq] at q1
      obtain ⟨rfl, rfl, rfl⟩ := q1
      exact ⟨q4, q3⟩
    · rw [← ha.2]
      exact ⟨rfl, ⟨(by show (1 : Int) ≤ 11; decide), (by show (11 : Int) ≤ 11; decide)⟩, rfl, ha.1⟩
  refine cod_congr (t1 := fun _ => []) (o1 := fun _ => False) ⟨fun _ _ h => h.elim, fun l s h => ?_, ?_⟩ (fun _ h => h.elim) (fun a => ⟨fun ha => ?_, False.elim⟩)
  · simp only [rdAkB, if_neg h1, if_neg h2, if_neg h3, if_neg h4, if_neg h5, if_neg h6, if_neg h7, if_neg h8, if_neg h10, if_neg h9, if_neg h11] at h; cases h
  · simp only [rdAkB, if_neg h1, if_neg h2, if_neg h3, if_neg h4, if_neg h5, if_neg h6, if_neg h7, if_neg h8, if_neg h10, if_neg h9, if_neg h11]
  · obtain ⟨q1, q2, _, _⟩ := ha
    simp only [Prod.mk.injEq] at q1
    omega
def rdAkH : Rd → (Int × Nat × Nat) × Rd := rdP (rdI 11) (rdP (rdNum 4294967295) (rdNum 18446744073709551615))
theorem cod_akh : Cod (fun x : Int × Nat × Nat => natT x.1 ++ (numT x.2.1 ++ numT x.2.2)) (fun x => (0 ≤ x.1 ∧ x.1 ≤ 11) ∧ U32 x.2.1 ∧ U64 x.2.2) rdAkH := cod_pair (cod_int 11 (by omega)) (cod_pair cod_u32 cod_u64)
def Ak.T (a : Ak) : List UInt8 := natT a.kind ++ (numT a.caller ++ numT a.number) ++ a.bodyT
def Ak.O (a : Ak) : Prop := (U32 a.caller ∧ U64 a.number) ∧ (1 ≤ a.kind ∧ a.kind ≤ 11) ∧ a.named = a ∧ a.bodyO
def rdAk (r : Rd) : Ak × Rd := ((rdTwo rdAkH rdAkB r).1.2, (rdTwo rdAkH rdAkB r).2)
theorem cod_ak : Cod Ak.T Ak.O rdAk := by
  have c := cod_akh.two (txu := fun _ => Ak.bodyT) (oku := fun h a => (a.kind, a.caller, a.number) = h ∧ (1 ≤ a.kind ∧ a.kind ≤ 11) ∧ a.named = a ∧ a.bodyO) (re := rdAkB) (fun h _ => cod_akb h) (fun h => (cod_akb h).bad)
  have c2 := c.as (f := fun x => x.2) (g := fun a : Ak => ((a.kind, a.caller, a.number), a)) (fun _ => rfl) (fun a ha => by obtain ⟨h, r⟩ := a; simp only at ha ⊢; rw [ha.2.1])
  refine cod_congr c2 (fun r _ => rfl) (fun a => ?_)
  unfold Ak.O
  simp only [true_and]
  exact ⟨fun ⟨q1, q2⟩ => ⟨⟨⟨by omega, by omega⟩, q1⟩, q2⟩, fun ⟨⟨_, q1⟩, q2⟩ => ⟨q1, q2⟩⟩
theorem plain_noEvt : plainP noEvt := ⟨fun h => (by cases h), fun _ => ⟨rfl, rfl, rfl, rfl⟩⟩
theorem wr_body {a : Ak} (h : a.Fits) (hk : 1 ≤ a.kind ∧ a.kind ≤ 11) (hp : plainP a.event) : Wr a.body a.bodyT a.bodyO := by
  by_cases h1 : a.kind = 1
  · have e1 : a.body = fun b => b.Settings a.settings := by funext b; unfold Ak.body; simp only [if_pos h1]
    have e2 : a.bodyT = Stg.T a.settings := by unfold Ak.bodyT; simp only [if_pos h1]
    have e3 : a.bodyO = (Stg.O a.settings) := by unfold Ak.bodyO; simp only [if_pos h1]
    rw [e1, e2, e3]
    exact (wr_Settings h.settings)
  by_cases h2 : a.kind = 2
  · have e1 : a.body = fun b => b := by funext b; unfold Ak.body; simp only [if_neg h1, if_pos h2]
    have e2 : a.bodyT = [] := by unfold Ak.bodyT; simp only [if_neg h1, if_pos h2]
    have e3 : a.bodyO = (True) := by unfold Ak.bodyO; simp only [if_neg h1, if_pos h2]
    rw [e1, e2, e3]
    exact (fun b => ⟨⟨fun h1 => ⟨h1, trivial⟩, fun h1 => h1.1⟩, fun _ => by simp⟩ : Wr (fun b => b) [] True)
  by_cases h3 : a.kind = 3
  · have e1 : a.body = fun b => (b.U a.id).Event a.event := by funext b; unfold Ak.body; simp only [if_neg h1, if_neg h2, if_pos h3]
    have e2 : a.bodyT = numT a.id ++ Evt.T a.event := by unfold Ak.bodyT; simp only [if_neg h1, if_neg h2, if_pos h3]
    have e3 : a.bodyO = (U32 a.id ∧ (Evt.O a.event ∧ plainP a.event)) := by unfold Ak.bodyO; simp only [if_neg h1, if_neg h2, if_pos h3]
    rw [e1, e2, e3]
    exact ((wr_U h.id).comp (wr_Event h.event)).congr rfl ⟨fun ⟨q1, q2, _⟩ => ⟨q1, q2⟩, fun ⟨q1, q2⟩ => ⟨q1, q2, hp⟩⟩
  by_cases h4 : a.kind = 4
  · have e1 : a.body = fun b => b.U a.id := by funext b; unfold Ak.body; simp only [if_neg h1, if_neg h2, if_neg h3, if_pos h4]
    have e2 : a.bodyT = numT a.id := by unfold Ak.bodyT; simp only [if_neg h1, if_neg h2, if_neg h3, if_pos h4]
    have e3 : a.bodyO = (U32 a.id) := by unfold Ak.bodyO; simp only [if_neg h1, if_neg h2, if_neg h3, if_pos h4]
    rw [e1, e2, e3]
    exact (wr_U h.id)
  by_cases h5 : a.kind = 5
  · have e1 : a.body = fun b => ((b.Query a.query).T a.cursor 64).N a.count 100 := by funext b; unfold Ak.body; simp only [if_neg h1, if_neg h2, if_neg h3, if_neg h4, if_pos h5]
    have e2 : a.bodyT = Qy.T a.query ++ (textT a.cursor ++ natT a.count) := by unfold Ak.bodyT; simp only [if_neg h1, if_neg h2, if_neg h3, if_neg h4, if_pos h5]
    have e3 : a.bodyO = (Qy.O a.query ∧ List.length a.cursor ≤ 64 ∧ (0 ≤ a.count ∧ a.count ≤ 100)) := by unfold Ak.bodyO; simp only [if_neg h1, if_neg h2, if_neg h3, if_neg h4, if_pos h5]
    rw [e1, e2, e3]
    exact (((wr_Query h.query).comp (wr_T a.cursor 64)).comp (wr_N a.count 100)).congr (by simp only [List.append_assoc]) (by simp only [and_assoc])
  by_cases h6 : a.kind = 6
  · have e1 : a.body = fun b => (((b.U a.poll).Query a.query).N a.count 100).M a.until_ := by funext b; unfold Ak.body; simp only [if_neg h1, if_neg h2, if_neg h3, if_neg h4, if_neg h5, if_pos h6]
    have e2 : a.bodyT = numT a.poll ++ (Qy.T a.query ++ (natT a.count ++ zigT a.until_)) := by unfold Ak.bodyT; simp only [if_neg h1, if_neg h2, if_neg h3, if_neg h4, if_neg h5, if_pos h6]
    have e3 : a.bodyO = (U32 a.poll ∧ Qy.O a.query ∧ (0 ≤ a.count ∧ a.count ≤ 100) ∧ I64 a.until_) := by unfold Ak.bodyO; simp only [if_neg h1, if_neg h2, if_neg h3, if_neg h4, if_neg h5, if_pos h6]
    rw [e1, e2, e3]
    exact ((((wr_U h.poll).comp (wr_Query h.query)).comp (wr_N a.count 100)).comp (wr_M h.until_)).congr (by simp only [List.append_assoc]) (by simp only [and_assoc])
  by_cases h7 : a.kind = 7
  · have e1 : a.body = fun b => ((b.U a.poll).N a.slot 40).F a.yes := by funext b; unfold Ak.body; simp only [if_neg h1, if_neg h2, if_neg h3, if_neg h4, if_neg h5, if_neg h6, if_pos h7]
    have e2 : a.bodyT = numT a.poll ++ (natT a.slot ++ flagT a.yes) := by unfold Ak.bodyT; simp only [if_neg h1, if_neg h2, if_neg h3, if_neg h4, if_neg h5, if_neg h6, if_pos h7]
    have e3 : a.bodyO = (U32 a.poll ∧ (0 ≤ a.slot ∧ a.slot ≤ 40) ∧ True) := by unfold Ak.bodyO; simp only [if_neg h1, if_neg h2, if_neg h3, if_neg h4, if_neg h5, if_neg h6, if_pos h7]
    rw [e1, e2, e3]
    exact (((wr_U h.poll).comp (wr_N a.slot 40)).comp (wr_F a.yes)).congr (by simp only [List.append_assoc]) (by simp only [and_assoc])
  by_cases h8 : a.kind = 8
  · have e1 : a.body = fun b => b.U a.poll := by funext b; unfold Ak.body; simp only [if_neg h1, if_neg h2, if_neg h3, if_neg h4, if_neg h5, if_neg h6, if_neg h7, if_pos h8]
    have e2 : a.bodyT = numT a.poll := by unfold Ak.bodyT; simp only [if_neg h1, if_neg h2, if_neg h3, if_neg h4, if_neg h5, if_neg h6, if_neg h7, if_pos h8]
    have e3 : a.bodyO = (U32 a.poll) := by unfold Ak.bodyO; simp only [if_neg h1, if_neg h2, if_neg h3, if_neg h4, if_neg h5, if_neg h6, if_neg h7, if_pos h8]
    rw [e1, e2, e3]
    exact (wr_U h.poll)
  by_cases h10 : a.kind = 10
  · have e1 : a.body = fun b => b.U a.poll := by funext b; unfold Ak.body; simp only [if_neg h1, if_neg h2, if_neg h3, if_neg h4, if_neg h5, if_neg h6, if_neg h7, if_neg h8, if_pos h10]
    have e2 : a.bodyT = numT a.poll := by unfold Ak.bodyT; simp only [if_neg h1, if_neg h2, if_neg h3, if_neg h4, if_neg h5, if_neg h6, if_neg h7, if_neg h8, if_pos h10]
    have e3 : a.bodyO = (U32 a.poll) := by unfold Ak.bodyO; simp only [if_neg h1, if_neg h2, if_neg h3, if_neg h4, if_neg h5, if_neg h6, if_neg h7, if_neg h8, if_pos h10]
    rw [e1, e2, e3]
    exact (wr_U h.poll)
  by_cases h9 : a.kind = 9
  · have e1 : a.body = fun b => (b.U a.poll).U a.id := by funext b; unfold Ak.body; simp only [if_neg h1, if_neg h2, if_neg h3, if_neg h4, if_neg h5, if_neg h6, if_neg h7, if_neg h8, if_neg h10, if_pos h9]
    have e2 : a.bodyT = numT a.poll ++ numT a.id := by unfold Ak.bodyT; simp only [if_neg h1, if_neg h2, if_neg h3, if_neg h4, if_neg h5, if_neg h6, if_neg h7, if_neg h8, if_neg h10, if_pos h9]
    have e3 : a.bodyO = (U32 a.poll ∧ U32 a.id) := by unfold Ak.bodyO; simp only [if_neg h1, if_neg h2, if_neg h3, if_neg h4, if_neg h5, if_neg h6, if_neg h7, if_neg h8, if_neg h10, if_pos h9]
    rw [e1, e2, e3]
    exact ((wr_U h.poll).comp (wr_U h.id))
  by_cases h11 : a.kind = 11
  · have e1 : a.body = fun b => b.M a.until_ := by funext b; unfold Ak.body; simp only [if_neg h1, if_neg h2, if_neg h3, if_neg h4, if_neg h5, if_neg h6, if_neg h7, if_neg h8, if_neg h10, if_neg h9, if_pos h11]
    have e2 : a.bodyT = zigT a.until_ := by unfold Ak.bodyT; simp only [if_neg h1, if_neg h2, if_neg h3, if_neg h4, if_neg h5, if_neg h6, if_neg h7, if_neg h8, if_neg h10, if_neg h9, if_pos h11]
    have e3 : a.bodyO = (I64 a.until_) := by unfold Ak.bodyO; simp only [if_neg h1, if_neg h2, if_neg h3, if_neg h4, if_neg h5, if_neg h6, if_neg h7, if_neg h8, if_neg h10, if_neg h9, if_pos h11]
    rw [e1, e2, e3]
    exact (wr_M h.until_)
  omega
theorem plain_of {a : Ak} (hk : 1 ≤ a.kind ∧ a.kind ≤ 11) (hn : a.named = a) (ho : a.bodyO) : plainP a.event := by
  by_cases h1 : a.kind = 1
  · unfold Ak.named at hn; simp only [if_pos h1] at hn; rw [← hn]; exact plain_noEvt
  by_cases h2 : a.kind = 2
  · unfold Ak.named at hn; simp only [if_neg h1, if_pos h2] at hn; rw [← hn]; exact plain_noEvt
  by_cases h3 : a.kind = 3
  · unfold Ak.bodyO at ho; simp only [if_neg h1, if_neg h2, if_pos h3] at ho; exact ho.2.2
  by_cases h4 : a.kind = 4
  · unfold Ak.named at hn; simp only [if_neg h1, if_neg h2, if_neg h3, if_pos h4] at hn; rw [← hn]; exact plain_noEvt
  by_cases h5 : a.kind = 5
  · unfold Ak.named at hn; simp only [if_neg h1, if_neg h2, if_neg h3, if_neg h4, if_pos h5] at hn; rw [← hn]; exact plain_noEvt
  by_cases h6 : a.kind = 6
  · unfold Ak.named at hn; simp only [if_neg h1, if_neg h2, if_neg h3, if_neg h4, if_neg h5, if_pos h6] at hn; rw [← hn]; exact plain_noEvt
  by_cases h7 : a.kind = 7
  · unfold Ak.named at hn; simp only [if_neg h1, if_neg h2, if_neg h3, if_neg h4, if_neg h5, if_neg h6, if_pos h7] at hn; rw [← hn]; exact plain_noEvt
  by_cases h8 : a.kind = 8
  · unfold Ak.named at hn; simp only [if_neg h1, if_neg h2, if_neg h3, if_neg h4, if_neg h5, if_neg h6, if_neg h7, if_pos h8] at hn; rw [← hn]; exact plain_noEvt
  by_cases h10 : a.kind = 10
  · unfold Ak.named at hn; simp only [if_neg h1, if_neg h2, if_neg h3, if_neg h4, if_neg h5, if_neg h6, if_neg h7, if_neg h8, if_pos h10] at hn; rw [← hn]; exact plain_noEvt
  by_cases h9 : a.kind = 9
  · unfold Ak.named at hn; simp only [if_neg h1, if_neg h2, if_neg h3, if_neg h4, if_neg h5, if_neg h6, if_neg h7, if_neg h8, if_neg h10, if_pos h9] at hn; rw [← hn]; exact plain_noEvt
  by_cases h11 : a.kind = 11
  · unfold Ak.named at hn; simp only [if_neg h1, if_neg h2, if_neg h3, if_neg h4, if_neg h5, if_neg h6, if_neg h7, if_neg h8, if_neg h10, if_neg h9, if_pos h11] at hn; rw [← hn]; exact plain_noEvt
  omega
theorem ak_text {a : Ak} (h : a.Fits) (l : List UInt8) : a.text = some l ↔ a.O ∧ l = a.T ∧ l.length ≤ 65536 := by
  unfold Ak.text
  by_cases hk : 1 ≤ a.kind ∧ a.kind ≤ 11
  · by_cases hn : a = a.named
    · by_cases hp : plainP a.event
      · rw [if_pos ⟨hk, hn, hp⟩]
        have hw := ((((wr_N a.kind 11).comp (wr_U h.caller)).comp (wr_U64 h.number)).comp (wr_body h hk hp))
        refine (finB_wr hw 65536 l).trans (and_congr ?_ ?_)
        · unfold Ak.O
          exact ⟨fun ⟨⟨⟨_, q1⟩, q2⟩, q3⟩ => ⟨⟨q1, q2⟩, hk, hn.symm, q3⟩, fun ⟨⟨q1, q2⟩, _, _, q3⟩ => ⟨⟨⟨by omega, q1⟩, q2⟩, q3⟩⟩
        · unfold Ak.T
          rw [← List.append_assoc (natT a.kind)]
      · rw [if_neg fun h => hp h.2.2]
        refine ⟨fun h => (by cases h), fun ⟨q, _⟩ => absurd ?_ hp⟩
        obtain ⟨_, q2, q3, q4⟩ := q
        exact plain_of q2 q3 q4
    · rw [if_neg fun h => hn h.2.1]
      exact ⟨fun h => (by cases h), fun ⟨q, _⟩ => absurd q.2.2.1.symm hn⟩
  · rw [if_neg fun h => hk h.1]
    exact ⟨fun h => (by cases h), fun ⟨q, _⟩ => absurd q.2.1 hk⟩
-- states
def enT (x : Nat × Evt) : List UInt8 := numT x.1 ++ x.2.T
def enO (x : Nat × Evt) : Prop := U32 x.1 ∧ x.2.O ∧ plainP x.2
def rdEn : Rd → (Nat × Evt) × Rd := rdP (rdNum 4294967295) rdEvt
theorem cod_en : Cod enT enO rdEn := cod_congr (cod_pair cod_u32 cod_evt) (fun _ _ => rfl) fun _ => Iff.rfl
def Us.T (u : Us) : List UInt8 := numT u.id ++ (u.settings.T ++ (numT u.version ++ rowT enT u.events))
def Us.O (u : Us) : Prop := U32 u.id ∧ u.settings.O ∧ U64 u.version ∧ (u.events.length ≤ 64 ∧ ∀ x ∈ u.events, enO x)
def rdUsT : Rd → (Nat × Stg × Nat × List (Nat × Evt)) × Rd := rdP (rdNum 4294967295) (rdP rdStg (rdP (rdNum 18446744073709551615) (rdRow 64 rdEn)))
def Us.of (x : Nat × Stg × Nat × List (Nat × Evt)) : Us := ⟨x.1, x.2.1, x.2.2.1, x.2.2.2⟩
def rdUs (r : Rd) : Us × Rd := (Us.of (rdUsT r).1, (rdUsT r).2)
theorem cod_us : Cod Us.T Us.O rdUs :=
  cod_congr ((cod_pair cod_u32 (cod_pair cod_stg (cod_pair cod_u64 (cod_rowT cod_en 64 (by omega))))).as (f := Us.of) (g := fun u => (u.id, u.settings, u.version, u.events)) (fun _ => rfl) fun _ _ => rfl) (fun _ _ => rfl) fun _ => Iff.rfl
def doT (x : Nat × Nat × Nat) : List UInt8 := numT x.1 ++ (numT x.2.1 ++ numT x.2.2)
def doO (x : Nat × Nat × Nat) : Prop := U32 x.1 ∧ U64 x.2.1 ∧ U64 x.2.2
def rdDo : Rd → (Nat × Nat × Nat) × Rd := rdP (rdNum 4294967295) (rdP (rdNum 18446744073709551615) (rdNum 18446744073709551615))
theorem cod_do : Cod doT doO rdDo := cod_congr (cod_pair cod_u32 (cod_pair cod_u64 cod_u64)) (fun _ _ => rfl) fun _ => Iff.rfl
def Sta.T (s : Sta) : List UInt8 := zigT s.clock ++ (rowT Us.T s.users ++ (rowT Pl.T s.polls ++ rowT doT s.done))
def Sta.O (s : Sta) : Prop := I64 s.clock ∧ (s.users.length ≤ 100 ∧ ∀ x ∈ s.users, x.O) ∧ (s.polls.length ≤ 50 ∧ ∀ x ∈ s.polls, x.O) ∧ (s.done.length ≤ 4096 ∧ ∀ x ∈ s.done, doO x)
def rdStaT : Rd → (Int × List Us × List Pl × List (Nat × Nat × Nat)) × Rd := rdP rdSig (rdP (rdRow 100 rdUs) (rdP (rdRow 50 rdPl) (rdRow 4096 rdDo)))
def Sta.of (x : Int × List Us × List Pl × List (Nat × Nat × Nat)) : Sta := ⟨x.1, x.2.1, x.2.2.1, x.2.2.2⟩
def rdSta (r : Rd) : Sta × Rd := (Sta.of (rdStaT r).1, (rdStaT r).2)
theorem cod_sta : Cod Sta.T Sta.O rdSta :=
  cod_congr ((cod_pair cod_sig (cod_pair (cod_rowT cod_us 100 (by omega)) (cod_pair (cod_rowT cod_pl 50 (by omega)) (cod_rowT cod_do 4096 (by omega))))).as (f := Sta.of) (g := fun s => (s.clock, s.users, s.polls, s.done)) (fun _ => rfl) fun _ _ => rfl) (fun _ _ => rfl) fun _ => Iff.rfl
theorem wr_User {u : Us} (h : u.Fits) : Wr (fun b => b.User u) u.T (U32 u.id ∧ u.settings.O ∧ U64 u.version ∧ (u.events.length ≤ 64 ∧ ∀ x ∈ u.events, U32 x.1 ∧ x.2.O)) :=
  ((((wr_U h.id).comp (wr_Settings h.settings)).comp (wr_U64 h.version)).comp (wr_row u.events 64 fun x hx => (wr_U (h.events x hx).1).comp (wr_Event (h.events x hx).2))).congr
    (by simp only [Us.T, List.append_assoc]; rfl) (by simp only [and_assoc])
theorem sta_text {s : Sta} (h : s.Fits) (l : List UInt8) : s.text = some l ↔ s.O ∧ l = s.T ∧ l.length ≤ 1048576 := by
  unfold Sta.text
  by_cases hp : ∀ u ∈ s.users, ∀ x ∈ u.events, plainP x.2
  · rw [if_pos hp]
    have hw := (((wr_M h.clock).comp (wr_row s.users 100 fun u hu => wr_User (h.users u hu))).comp (wr_row s.polls 50 fun o ho => wr_Poll (h.polls o ho))).comp
      (wr_row s.done 4096 fun x hx => ((wr_U (h.done x hx).1).comp (wr_U64 (h.done x hx).2.1)).comp (wr_U64 (h.done x hx).2.2))
    refine (finB_wr hw 1048576 l).trans (and_congr ?_ ?_)
    · unfold Sta.O
      constructor
      · rintro ⟨⟨⟨q1, q2, q3⟩, q4⟩, q5, q6⟩
        exact ⟨q1, ⟨q2, fun u hu => ⟨(q3 u hu).1, (q3 u hu).2.1, (q3 u hu).2.2.1, (q3 u hu).2.2.2.1, fun x hx => ⟨((q3 u hu).2.2.2.2 x hx).1, ((q3 u hu).2.2.2.2 x hx).2, hp u hu x hx⟩⟩⟩, q4, q5, fun x hx => ⟨(q6 x hx).1.1, (q6 x hx).1.2, (q6 x hx).2⟩⟩
      · rintro ⟨q1, ⟨q2, q3⟩, q4, q5, q6⟩
        exact ⟨⟨⟨q1, q2, fun u hu => ⟨(q3 u hu).1, (q3 u hu).2.1, (q3 u hu).2.2.1, (q3 u hu).2.2.2.1, fun x hx => ⟨((q3 u hu).2.2.2.2 x hx).1, ((q3 u hu).2.2.2.2 x hx).2.1⟩⟩⟩, q4⟩, q5, fun x hx => ⟨⟨(q6 x hx).1, (q6 x hx).2.1⟩, (q6 x hx).2.2⟩⟩
    · simp only [Sta.T, List.append_assoc]; exact Iff.rfl
  · rw [if_neg hp]
    exact ⟨fun h => (by cases h), fun ⟨q, _⟩ => absurd (fun u hu x hx => ((q.2.1.2 u hu).2.2.2.2 x hx).2.2) hp⟩
end Go.Proofs.YtdhinjbkfffpeaaGreat
end
