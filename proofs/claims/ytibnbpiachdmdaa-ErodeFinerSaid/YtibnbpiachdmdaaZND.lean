import Derived.Test.YtibnbpiachdmdaaZNA
import Derived.Test.YtibnbpiachdmdaaZCUK
import Derived.Test.YtibnbpiachdmdaaZMB
import Derived.BigQuiet
import Derived.Deep.LoopGhost
import Derived.Deep.Cut
/- The program's streams in memory: what a stream of others, or of a row, is; what is kept of it in a world in which other things turn. -/
section
namespace Go.Proofs.Ytibnbpiachdmdaa
open Go.ChangeShapes Go.WideShapes Go.ChangeAt Go.RowKit Go.Joins Sp
/-- A stream that another one is made of: in a world, at a pointer, of these minutes, asked up to a minute, that may ask so often, with these blocks. -/
abbrev KR := World → Value → (Int → Prop) → Int → Nat → (Nat → Prop) → Prop
/-- What stands in a stream. -/
structure Ob where
  kd : Int
  lo : Int
  hi : Int
  inn : Bool
  unt : Int
  ba : Option Addr
  bn : Nat
  bc : Nat
  ct : Value
  h1 : Int
  h2 : Int
  ra : Option Addr
  rn : Nat
  rc : Nat
  ah : Int
  be : Int
  lg : Int
  gn : Int
def Ob.cs (o : Ob) : Array Value := #[.int .i64 o.kd, .int .i64 o.lo, .int .i64 o.hi, .bool o.inn, .int .i64 o.unt, .slice o.ba o.bn o.bc, o.ct, .int .i64 o.h1, .int .i64 o.h2, .slice o.ra o.rn o.rc, .int .i64 o.ah, .int .i64 o.be, .int .i64 o.lg, .int .i64 o.gn]
structure Ob.Ok (o : Ob) : Prop where
  lo : Int64P o.lo
  hi : Int64P o.hi
  unt : Int64P o.unt
  h1 : Int64P o.h1
  h2 : Int64P o.h2
  ah : Int64P o.ah
  be : Int64P o.be
  lg : Int64P o.lg
  gn : Int64P o.gn
/-- Streams that another one is made of, one by one. -/
structure KidsIn (R : KR) (w : World) (b : Nat) (ba : Option Addr) (ps : List Value) (Ds : Nat → Int → Prop) (q : Int) (ns : Nat → Nat) (Fs : Nat → Nat → Prop) (F : Nat → Prop) : Prop where
  kid : ∀ i p, ps[i]? = some p → R w p (Ds i) q (ns i) (Fs i)
  own : ∀ i, i < ps.length → ¬ Fs i b
  row : ∀ i a, i < ps.length → ba = some a → ¬ Fs i a.block
  in_ : ∀ i k, i < ps.length → Fs i k → F k
  apart : ∀ i j k, i < ps.length → j < ps.length → Fs i k → Fs j k → i = j
structure Kids (R : KR) (w : World) (b : Nat) (ba : Option Addr) (bn bc : Nat) (ps : List Value) (Ds : Nat → Int → Prop) (q : Int) (n : Nat) (F : Nat → Prop) : Prop where
  sl : Sl w ba ps.length bc ps
  bn : bn = ps.length
  blk : ∀ a, ba = some a → a.block ≠ b ∧ F a.block
  bd : ∀ i x, i < ps.length → Ds i x → -9223372036854775808 ≤ x ∧ x < 9223372036854775807
  kids : ∃ (ns : Nat → Nat) (Fs : Nat → Nat → Prop), KidsIn R w b ba ps Ds q ns Fs F ∧ sumTo ns ps.length ≤ n
/-- What was asked of a row last. -/
def HeadOk (h1 h2 : Int) (r : List Spn) (n : Nat) : Prop :=
  (h1 = -9223372036854775808 ∧ h2 = -9223372036854775808 ∧ r.length + 1 ≤ n) ∨ (∃ s t, r = s :: t ∧ h1 = s.1 ∧ h2 = s.2 ∧ r.length ≤ n) ∨ (r = [] ∧ h1 = 9223372036854775807 ∧ h2 = 9223372036854775807)
/-- What a stream is of: the minutes, and up to where they were asked for. -/
inductive Kd (R : KR) (w : World) (b : Nat) (o : Ob) (c : Value) (K : Int → Prop) (Q : Int) (n : Nat) (F : Nat → Prop) : Prop
  | row (r : List Spn) (kd : o.kd = 0) (ct : o.ct = c) (sl : Sl w o.ra r.length o.rc (sv r)) (rn : o.rn = r.length) (f : form r) (i64 : In64 r) (blk : ∀ a, o.ra = some a → a.block ≠ b ∧ F a.block) (k : ∀ x, Q ≤ x → (K x ↔ has r x)) (hd : HeadOk o.h1 o.h2 r n) : Kd R w b o c K Q n F
  | many (ps : List Value) (Ds : Nat → Int → Prop) (st : Bool) (kd : o.kd = if st = true then 1 else 2) (kids : Kids R w b o.ba o.bn o.bc ps Ds Q n F) (k1 : st = true → ∀ x, K x ↔ ∃ i, i < ps.length ∧ Ds i x) (k2 : st = false → ∀ x, K x ↔ ∀ i, i < ps.length → Ds i x) : Kd R w b o c K Q n F
  | gaps (p : Value) (D : Int → Prop) (kd : o.kd = 3) (kids : Kids R w b o.ba o.bn o.bc [p] (fun _ => D) Q n F) (k : ∀ x, K x ↔ ¬ D x) : Kd R w b o c K Q n F
  | grow (p : Value) (D : Int → Prop) (kd : o.kd = 4) (kids : Kids R w b o.ba o.bn o.bc [p] (fun _ => D) o.gn n F) (a0 : 0 ≤ o.ah) (b0 : 0 ≤ o.be) (k : ∀ x, K x ↔ ∃ y, D y ∧ y - o.ah ≤ x ∧ x ≤ y + o.be)
      (j1 : o.gn - o.ah ≤ o.unt) (j2 : o.unt = 9223372036854775807 ∨ ∀ y, D y → y < o.gn → y + o.be < o.unt) : Kd R w b o c K Q n F
  | starts (p : Value) (D : Int → Prop) (kd : o.kd = 5) (kids : Kids R w b o.ba o.bn o.bc [p] (fun _ => D) o.gn n F) (l1 : 1 ≤ o.lg) (k : ∀ x, K x ↔ ∀ y, x ≤ y → y < x + o.lg → D y)
      (j : ∀ y, o.unt ≤ y → y < o.gn → D y) : Kd R w b o c K Q n F
/-- A stream in memory. -/
structure Nd (R : KR) (c : Value) (w : World) (b : Nat) (o : Ob) (K D : Int → Prop) (q : Int) (n : Nat) (F : Nat → Prop) : Prop where
  blk : w.heap[b]? = some (.cells o.cs 54 (0, 0))
  fb : F b
  lt : ∀ k, F k → k < w.heap.size
  ok : o.Ok
  is : ∀ x, D x ↔ o.lo ≤ x ∧ x < o.hi ∧ K x
  known : ∀ x, max q o.lo ≤ x → x < o.unt → (o.inn = true ↔ K x)
  kd : Kd R w b o c K (max q o.lo) n F
/-- A stream, or none. -/
def StN (R : KR) (c : Value) (w : World) (p : Value) (D : Int → Prop) (lo hi q : Int) (n : Nat) (F : Nat → Prop) : Prop :=
  (p = .pointer none ∧ (∀ x, ¬ D x) ∧ lo = 9223372036854775807 ∧ hi = -9223372036854775808 ∧ ∀ k, F k → k < w.heap.size) ∨
  ∃ b o K, p = .pointer (some ⟨b, 0, none⟩) ∧ o.lo = lo ∧ o.hi = hi ∧ Nd R c w b o K D q n F
abbrev SR := World → Value → (Int → Prop) → Int → Int → Int → Nat → (Nat → Prop) → Prop
def Rof (S : SR) : KR := fun w p D q n F => ∃ lo hi, S w p D lo hi q n F
/-- Streams of so many levels. -/
def Lv (c : Value) : Nat → SR
  | 0 => StN (fun _ _ _ _ _ _ => False) c
  | d + 1 => StN (Rof (Lv c d)) c
/-- What is asked of the streams that another one is made of. -/
structure KG (R : KR) : Prop where
  lt : ∀ {w p D q n F}, R w p D q n F → ∀ k, F k → k < w.heap.size
  off : ∀ {w w' p D q n F G}, R w p D q n F → Off G w w' → (∀ k, F k → ¬ G k) → R w' p D q n F
  qm : ∀ {w p D q q' n F}, R w p D q n F → q ≤ q' → R w p D q' n F
  ptr : ∀ {w p D q n F}, R w p D q n F → ∃ a, p = .pointer a
section
variable {R R' : KR} {w w' : World} {c p : Value} {b : Nat} {o : Ob} {K D : Int → Prop} {q q' lo hi Q : Int} {n : Nat} {F F' G : Nat → Prop} {ba : Option Addr} {bn bc : Nat} {ps : List Value} {Ds : Nat → Int → Prop}
theorem KidsIn.off (g : KG R) {ns : Nat → Nat} {Fs : Nat → Nat → Prop} (h : KidsIn R w b ba ps Ds q ns Fs F) (ho : Off G w w') (hG : ∀ k, F k → ¬ G k) : KidsIn R w' b ba ps Ds q ns Fs F :=
  ⟨fun i p hi => g.off (h.kid i p hi) ho fun k hk => hG k (h.in_ i k (List.getElem?_eq_some_iff.1 hi).1 hk), h.own, h.row, h.in_, h.apart⟩
theorem Kids.off (g : KG R) (h : Kids R w b ba bn bc ps Ds q n F) (ho : Off G w w') (hG : ∀ k, F k → ¬ G k) : Kids R w' b ba bn bc ps Ds q n F := by
  obtain ⟨ns, Fs, hk, hs⟩ := h.kids
  refine ⟨⟨h.sl.le, h.sl.cap, h.sl.nil, fun hn => ?_⟩, h.bn, h.blk, h.bd, ns, Fs, hk.off g ho hG, hs⟩
  obtain ⟨b', off, e, hlt, hc⟩ := h.sl.on hn
  exact ⟨b', off, e, Nat.lt_of_lt_of_le hlt ho.size, fun i v hi => ho.cell (hc i v hi) (hG _ (h.blk _ e).2)⟩
theorem Kids.qm (g : KG R) (h : Kids R w b ba bn bc ps Ds q n F) (hq : q ≤ q') : Kids R w b ba bn bc ps Ds q' n F := by
  obtain ⟨ns, Fs, hk, hs⟩ := h.kids
  exact ⟨h.sl, h.bn, h.blk, h.bd, ns, Fs, ⟨fun i p hi => g.qm (hk.kid i p hi) hq, hk.own, hk.row, hk.in_, hk.apart⟩, hs⟩
theorem Kids.wider (h : Kids R w b ba bn bc ps Ds q n F) (hF : ∀ k, F k → F' k) : Kids R w b ba bn bc ps Ds q n F' := by
  obtain ⟨ns, Fs, hk, hs⟩ := h.kids
  exact ⟨h.sl, h.bn, fun a e => ⟨(h.blk a e).1, hF _ (h.blk a e).2⟩, h.bd, ns, Fs, ⟨hk.kid, hk.own, hk.row, fun i k hi hk' => hF _ (hk.in_ i k hi hk'), hk.apart⟩, hs⟩
theorem Kids.mono (h : Kids R w b ba bn bc ps Ds q n F) (hR : ∀ w p D q n F, R w p D q n F → R' w p D q n F) : Kids R' w b ba bn bc ps Ds q n F := by
  obtain ⟨ns, Fs, hk, hs⟩ := h.kids
  exact ⟨h.sl, h.bn, h.blk, h.bd, ns, Fs, ⟨fun i p hi => hR _ _ _ _ _ _ (hk.kid i p hi), hk.own, hk.row, hk.in_, hk.apart⟩, hs⟩
theorem sl_off {A : Option Addr} {m d : Nat} {xs : List Value} (h : Sl w A m d xs) (ho : Off G w w') (hG : ∀ a, A = some a → ¬ G a.block) : Sl w' A m d xs := by
  refine ⟨h.le, h.cap, h.nil, fun hn => ?_⟩
  obtain ⟨b', off, e, hlt, hc⟩ := h.on hn
  exact ⟨b', off, e, Nat.lt_of_lt_of_le hlt ho.size, fun i v hi => ho.cell (hc i v hi) (hG _ e)⟩
theorem Kd.off (g : KG R) (h : Kd R w b o c K Q n F) (ho : Off G w w') (hG : ∀ k, F k → ¬ G k) : Kd R w' b o c K Q n F := by
  cases h with
  | row r kd ct sl rn f i64 blk k hd => exact .row r kd ct (sl_off sl ho fun a e => hG _ (blk a e).2) rn f i64 blk k hd
  | many ps Ds st kd kids k1 k2 => exact .many ps Ds st kd (kids.off g ho hG) k1 k2
  | gaps p D kd kids k => exact .gaps p D kd (kids.off g ho hG) k
  | grow p D kd kids a0 b0 k j1 j2 => exact .grow p D kd (kids.off g ho hG) a0 b0 k j1 j2
  | starts p D kd kids l1 k j => exact .starts p D kd (kids.off g ho hG) l1 k j
theorem Kd.qm (g : KG R) {Q' : Int} (h : Kd R w b o c K Q n F) (hq : Q ≤ Q') : Kd R w b o c K Q' n F := by
  cases h with
  | row r kd ct sl rn f i64 blk k hd => exact .row r kd ct sl rn f i64 blk (fun x hx => k x (by omega)) hd
  | many ps Ds st kd kids k1 k2 => exact .many ps Ds st kd (kids.qm g hq) k1 k2
  | gaps p D kd kids k => exact .gaps p D kd (kids.qm g hq) k
  | grow p D kd kids a0 b0 k j1 j2 => exact .grow p D kd kids a0 b0 k j1 j2
  | starts p D kd kids l1 k j => exact .starts p D kd kids l1 k j
/-- .. where the stream's own block alone has turned. -/
theorem Kids.own (g : KG R) (h : Kids R w b ba bn bc ps Ds q n F) (ho : Off (fun x => x = b) w w') : Kids R w' b ba bn bc ps Ds q n F := by
  obtain ⟨ns, Fs, hk, hs⟩ := h.kids
  refine ⟨⟨h.sl.le, h.sl.cap, h.sl.nil, fun hn => ?_⟩, h.bn, h.blk, h.bd, ns, Fs, ⟨fun i p hi => g.off (hk.kid i p hi) ho fun x hx e => hk.own i (List.getElem?_eq_some_iff.1 hi).1 (e ▸ hx), hk.own, hk.row, hk.in_, hk.apart⟩, hs⟩
  obtain ⟨b', off, e, hlt, hc⟩ := h.sl.on hn
  exact ⟨b', off, e, Nat.lt_of_lt_of_le hlt ho.size, fun i v hi => ho.cell (hc i v hi) (h.blk _ e).1⟩
theorem Kd.own (g : KG R) (h : Kd R w b o c K Q n F) (ho : Off (fun x => x = b) w w') : Kd R w' b o c K Q n F := by
  cases h with
  | row r kd ct sl rn f i64 blk k hd => exact .row r kd ct (sl_off sl ho fun a e => (blk a e).1) rn f i64 blk k hd
  | many ps Ds st kd kids k1 k2 => exact .many ps Ds st kd (kids.own g ho) k1 k2
  | gaps p D kd kids k => exact .gaps p D kd (kids.own g ho) k
  | grow p D kd kids a0 b0 k j1 j2 => exact .grow p D kd (kids.own g ho) a0 b0 k j1 j2
  | starts p D kd kids l1 k j => exact .starts p D kd (kids.own g ho) l1 k j
theorem Kd.wider (h : Kd R w b o c K Q n F) (hF : ∀ k, F k → F' k) : Kd R w b o c K Q n F' := by
  cases h with
  | row r kd ct sl rn f i64 blk k hd => exact .row r kd ct sl rn f i64 (fun a e => ⟨(blk a e).1, hF _ (blk a e).2⟩) k hd
  | many ps Ds st kd kids k1 k2 => exact .many ps Ds st kd (kids.wider hF) k1 k2
  | gaps p D kd kids k => exact .gaps p D kd (kids.wider hF) k
  | grow p D kd kids a0 b0 k j1 j2 => exact .grow p D kd (kids.wider hF) a0 b0 k j1 j2
  | starts p D kd kids l1 k j => exact .starts p D kd (kids.wider hF) l1 k j
theorem Kd.mono (h : Kd R w b o c K Q n F) (hR : ∀ w p D q n F, R w p D q n F → R' w p D q n F) : Kd R' w b o c K Q n F := by
  cases h with
  | row r kd ct sl rn f i64 blk k hd => exact .row r kd ct sl rn f i64 blk k hd
  | many ps Ds st kd kids k1 k2 => exact .many ps Ds st kd (kids.mono hR) k1 k2
  | gaps p D kd kids k => exact .gaps p D kd (kids.mono hR) k
  | grow p D kd kids a0 b0 k j1 j2 => exact .grow p D kd (kids.mono hR) a0 b0 k j1 j2
  | starts p D kd kids l1 k j => exact .starts p D kd (kids.mono hR) l1 k j
theorem Nd.off (g : KG R) (h : Nd R c w b o K D q n F) (ho : Off G w w') (hG : ∀ k, F k → ¬ G k) : Nd R c w' b o K D q n F :=
  ⟨ho.heap h.blk (hG _ h.fb), h.fb, fun k hk => Nat.lt_of_lt_of_le (h.lt k hk) ho.size, h.ok, h.is, h.known, h.kd.off g ho hG⟩
theorem Nd.qm (g : KG R) (h : Nd R c w b o K D q n F) (hq : q ≤ q') : Nd R c w b o K D q' n F :=
  ⟨h.blk, h.fb, h.lt, h.ok, h.is, fun x hx => h.known x (by omega), h.kd.qm g (by omega)⟩
theorem StN.lt (h : StN R c w p D lo hi q n F) : ∀ k, F k → k < w.heap.size := by
  rcases h with ⟨_, _, _, _, h⟩ | ⟨b, o, K, _, _, _, h⟩
  · exact h
  · exact h.lt
theorem StN.off (g : KG R) (h : StN R c w p D lo hi q n F) (ho : Off G w w') (hG : ∀ k, F k → ¬ G k) : StN R c w' p D lo hi q n F := by
  rcases h with ⟨h1, h2, h3, h4, h5⟩ | ⟨b, o, K, h1, h2, h3, h⟩
  · exact .inl ⟨h1, h2, h3, h4, fun k hk => Nat.lt_of_lt_of_le (h5 k hk) ho.size⟩
  · exact .inr ⟨b, o, K, h1, h2, h3, h.off g ho hG⟩
theorem StN.qm (g : KG R) (h : StN R c w p D lo hi q n F) (hq : q ≤ q') : StN R c w p D lo hi q' n F := by
  rcases h with h | ⟨b, o, K, h1, h2, h3, h⟩
  · exact .inl h
  · exact .inr ⟨b, o, K, h1, h2, h3, h.qm g hq⟩
theorem StN.wider (h : StN R c w p D lo hi q n F) (hF : ∀ k, F k → F' k) (hl : ∀ k, F' k → k < w.heap.size) : StN R c w p D lo hi q n F' := by
  rcases h with ⟨h1, h2, h3, h4, _⟩ | ⟨b, o, K, h1, h2, h3, h⟩
  · exact .inl ⟨h1, h2, h3, h4, hl⟩
  · exact .inr ⟨b, o, K, h1, h2, h3, h.blk, hF _ h.fb, hl, h.ok, h.is, h.known, h.kd.wider hF⟩
theorem StN.mono (h : StN R c w p D lo hi q n F) (hR : ∀ w p D q n F, R w p D q n F → R' w p D q n F) : StN R' c w p D lo hi q n F := by
  rcases h with h | ⟨b, o, K, h1, h2, h3, h⟩
  · exact .inl h
  · exact .inr ⟨b, o, K, h1, h2, h3, h.blk, h.fb, h.lt, h.ok, h.is, h.known, h.kd.mono hR⟩
theorem StN.ptr (h : StN R c w p D lo hi q n F) : ∃ a, p = .pointer a := by
  rcases h with ⟨h, _⟩ | ⟨b, _, _, h, _⟩
  · exact ⟨_, h⟩
  · exact ⟨_, h⟩
theorem StN.congr {D' : Int → Prop} (h : StN R c w p D lo hi q n F) (hD : ∀ x, D' x ↔ D x) : StN R c w p D' lo hi q n F := by
  rcases h with ⟨h1, h2, h3, h4, h5⟩ | ⟨b, o, K, h1, h2, h3, h⟩
  · exact .inl ⟨h1, fun x hx => h2 x ((hD x).1 hx), h3, h4, h5⟩
  · exact .inr ⟨b, o, K, h1, h2, h3, h.blk, h.fb, h.lt, h.ok, fun x => (hD x).trans (h.is x), h.known, h.kd⟩
/-- Minutes lie in the room; the room is one of numbers. -/
theorem StN.room (h : StN R c w p D lo hi q n F) : Int64P lo ∧ Int64P hi ∧ ∀ x, D x → lo ≤ x ∧ x < hi := by
  rcases h with ⟨h1, h2, rfl, rfl, h5⟩ | ⟨b, o, K, h1, rfl, rfl, h⟩
  · exact ⟨by unfold Int64P; omega, by unfold Int64P; omega, fun x hx => absurd hx (h2 x)⟩
  · exact ⟨h.ok.lo, h.ok.hi, fun x hx => ⟨((h.is x).1 hx).1, ((h.is x).1 hx).2.1⟩⟩
theorem StN.kg (g : KG R) : KG (Rof (StN R c)) :=
  ⟨fun ⟨_, _, h⟩ => h.lt, fun ⟨lo, hi, h⟩ ho hG => ⟨lo, hi, h.off g ho hG⟩, fun ⟨lo, hi, h⟩ hq => ⟨lo, hi, h.qm g hq⟩, fun ⟨_, _, h⟩ => h.ptr⟩
end
theorem kg_none : KG (fun _ _ _ _ _ _ => False) := ⟨False.elim, False.elim, False.elim, False.elim⟩
theorem Lv.kg (c : Value) : ∀ d, KG (Rof (Lv c d))
  | 0 => StN.kg kg_none
  | d + 1 => StN.kg (Lv.kg c d)
theorem Lv.up1 (c : Value) : ∀ (d : Nat) {w p D lo hi q n F}, Lv c d w p D lo hi q n F → Lv c (d + 1) w p D lo hi q n F
  | 0, _, _, _, _, _, _, _, _, h => StN.mono h fun _ _ _ _ _ _ h => h.elim
  | d + 1, _, _, _, _, _, _, _, _, h => StN.mono h fun _ _ _ _ _ _ ⟨lo, hi, h⟩ => ⟨lo, hi, Lv.up1 c d h⟩
theorem Lv.up (c : Value) {d e : Nat} (hde : d ≤ e) {w p D lo hi q n F} (h : Lv c d w p D lo hi q n F) : Lv c e w p D lo hi q n F := by
  induction hde with
  | refl => exact h
  | step _ ih => exact Lv.up1 c _ ih
/-- So many levels serve all of some streams. -/
theorem levels {P : Nat → Nat → Prop} (hP : ∀ i d e, d ≤ e → P d i → P e i) : ∀ n, (∀ i, i < n → ∃ d, P d i) → ∃ d, ∀ i, i < n → P d i
  | 0, _ => ⟨0, fun i hi => by omega⟩
  | n + 1, h => by
    obtain ⟨d, hd⟩ := levels hP n fun i hi => h i (by omega)
    obtain ⟨e, he⟩ := h n (by omega)
    refine ⟨max d e, fun i hi => ?_⟩
    by_cases hin : i = n
    · subst hin; exact hP _ _ _ (by omega) he
    · exact hP _ _ _ (by omega) (hd i (by omega))
end Go.Proofs.Ytibnbpiachdmdaa
end
/- Contracts of the program's counters, and of the least parts of its streams: minutes so many earlier, or later; where minutes may lie. -/
section
namespace Go.Proofs.Ytibnbpiachdmdaa
open Go.ChangeShapes Go.WideShapes Go.ChangeAt Go.RowKit Go.Joins Sp
theorem max_forms (a b : Int) : ∃ x, max a b = x ∧ (if a < b then b else a) = x ∧ (if a ≤ b then b else a) = x ∧ (if b < a then a else b) = x ∧ (if b ≤ a then a else b) = x :=
  ⟨max a b, rfl, by split <;> omega, by split <;> omega, by split <;> omega, by split <;> omega⟩
theorem min_forms (a b : Int) : ∃ x, min a b = x ∧ (if a < b then a else b) = x ∧ (if a ≤ b then a else b) = x ∧ (if b < a then b else a) = x ∧ (if b ≤ a then b else a) = x :=
  ⟨min a b, rfl, by split <;> omega, by split <;> omega, by split <;> omega, by split <;> omega⟩
/-- A counter in memory. -/
def CtAt : CtP := fun w c k C => (∀ x, C x → x < w.heap.size) ∧ ((c = .pointer none ∧ k = 0) ∨ ∃ b, c = .pointer (some ⟨b, 0, none⟩) ∧ C b ∧ w.heap[b]? = some (.cells #[.int .i64 (IntKind.i64.wrap k)] 96 (0, 0)))
theorem CtAt.off {w w' : World} {c : Value} {k : Nat} {C G : Nat → Prop} (h : CtAt w c k C) (ho : Off G w w') (hG : ∀ b, C b → ¬ G b) : CtAt w' c k C := by
  refine ⟨fun x hx => Nat.lt_of_lt_of_le (h.1 x hx) ho.size, ?_⟩
  rcases h.2 with h | ⟨b, rfl, hb, hc⟩
  · exact .inl h
  · exact .inr ⟨b, rfl, hb, ho.heap hc (hG _ hb)⟩
theorem wrap_next (k : Nat) : IntKind.i64.wrap (IntKind.i64.wrap (k : Int) + 1) = IntKind.i64.wrap ((k + 1 : Nat) : Int) := by
  simp only [IntKind.wrap_i64]; omega
theorem pcount_any (c : Value) (k : Nat) (C : Nat → Prop) (w : World) (h : CtAt w c k C) :
    Calls Try.prog 63 #[c] w fun e w' => e = .returned (.tuple #[]) ∧ ∃ k', k' ≤ k + 1 ∧ CtAt w' c k' C ∧ Off C w w' := by
  rcases h with ⟨hl, ⟨rfl, rfl⟩ | ⟨b, rfl, hb, hc⟩⟩
  · go_enter Try.func63, Try.ntmps63
    go_wp2
    first | go_end0 | refine bodyPost_ret (results_none rfl _ _ _) rfl ?_
    exact ⟨rfl, 0, by omega, ⟨hl, .inl ⟨rfl, rfl⟩⟩, .refl _ _⟩
  · have c0 := blk_cell hc (i := 0) rfl
    have cf := blk_free hc
    have HC := Lib.hid hc
    obtain ⟨x, hx⟩ : ∃ x, IntKind.i64.wrap (k : Int) = x := ⟨_, rfl⟩
    have hw := wrap_next k
    rw [hx] at c0 hw
    obtain ⟨y, hy⟩ : ∃ y, IntKind.i64.wrap ((k + 1 : Nat) : Int) = y := ⟨_, rfl⟩
    rw [hy] at hw
    have HY := Lib.hid hy
    clear hc hx hy
    go_enter Try.func63, Try.ntmps63
    go_wp2
    first | go_end0 | refine bodyPost_ret (results_none rfl _ _ _) rfl ?_
    have o : Off C w (w.setCell ⟨b, 0, none⟩ (.int .i64 y)) := (Off.refl C w).setCell (.inl hb) _
    refine ⟨rfl, k + 1, by omega, ⟨fun x hx => Nat.lt_of_lt_of_le (hl x hx) o.size, .inr ⟨b, rfl, hb, ?_⟩⟩, o⟩
    rw [HY.out]
    exact block_setCell HC.out _
theorem pless_any (m n : Int) (hm : Int64P m) (hn : 0 ≤ n ∧ n ≤ 9223372036854775807) (w : World) :
    Calls Try.prog 24 #[.int .i64 m, .int .i64 n] w fun e w' => e = .returned (.int .i64 (max m (-9223372036854775808 + n) - n)) ∧ w = w' := by
  obtain ⟨m1, m2⟩ := hm
  obtain ⟨x, hx, x1, x2, x3, x4⟩ := max_forms m (-9223372036854775808 + n)
  have HX := Lib.hid hx
  have e1 : IntKind.i64.wrap (-9223372036854775808 + n) = -9223372036854775808 + n := by rw [IntKind.wrap_i64]; omega
  have e2 : IntKind.i64.wrap (x - n) = x - n := by rw [IntKind.wrap_i64]; omega
  rw [hx]
  clear hn m1 m2
  go_enter Try.func24, Try.ntmps24
  go_wp2
  go_ret
  exact ⟨rfl, rfl⟩
theorem pmore_any (m n : Int) (hm : Int64P m) (hn : 0 ≤ n ∧ n ≤ 9223372036854775807) (w : World) :
    Calls Try.prog 61 #[.int .i64 m, .int .i64 n] w fun e w' => e = .returned (.int .i64 (min m (9223372036854775807 - n) + n)) ∧ w = w' := by
  obtain ⟨m1, m2⟩ := hm
  obtain ⟨x, hx, x1, x2, x3, x4⟩ := min_forms m (9223372036854775807 - n)
  have HX := Lib.hid hx
  have e1 : IntKind.i64.wrap (9223372036854775807 - n) = 9223372036854775807 - n := by rw [IntKind.wrap_i64]; omega
  have e2 : IntKind.i64.wrap (x + n) = x + n := by rw [IntKind.wrap_i64]; omega
  rw [hx]
  clear hn m1 m2
  go_enter Try.func61, Try.ntmps61
  go_wp2
  go_ret
  exact ⟨rfl, rfl⟩
theorem pnoRoom_any (w : World) :
    Calls Try.prog 33 #[] w fun e w' => e = .returned (.agg #[.int .i64 9223372036854775807, .int .i64 (-9223372036854775808)]) ∧ Below w.heap.size w w' := by
  have H0 := heap_alloc_new w (.cells #[.int .i64 9223372036854775807, .int .i64 (-9223372036854775808)] 26)
  have z0 : _ = some (Value.int .i64 9223372036854775807) := blk_cell (i := 0) H0 rfl
  have z1 : _ = some (Value.int .i64 (-9223372036854775808)) := blk_cell (i := 1) H0 rfl
  have Z0 := Lib.hid z0
  have Z1 := Lib.hid z1
  clear z0 z1 H0
  go_enter Try.func33, Try.ntmps33
  go_wp2
  have z0 := Z0.out
  have z1 := Z1.out
  exact bodyPost_ret (v := .agg #[.int .i64 9223372036854775807, .int .i64 (-9223372036854775808)]) (by simp [results, Try.results33, go_sem, z0, z1]) rfl ⟨rfl, (Below.refl _ w).alloc (Nat.le_refl _) _⟩
theorem proomOf_any {R : KR} (c p : Value) (D : Int → Prop) (lo hi q : Int) (n : Nat) (F : Nat → Prop) (w : World) (h : StN R c w p D lo hi q n F) :
    Calls Try.prog 23 #[p] w fun e w' => e = .returned (.agg #[.int .i64 lo, .int .i64 hi]) ∧ Below w.heap.size w w' := by
  have HN := Lib.hid (fun w => pnoRoom_any w)
  rcases h with ⟨rfl, _, rfl, rfl, _⟩ | ⟨b, o, K, rfl, rfl, rfl, h⟩
  · go_enter Try.func23, Try.ntmps23
    go_wp2_with fail
    go_at_call 33
    refine (HN.out _).mono ?_
    rintro e w' ⟨rfl, hb⟩
    have hb2 : Below w.heap.size w w' := ((Below.refl _ w).alloc (Nat.le_refl _) (.cells #[.int .i64 0, .int .i64 0] 26)).trans (hb.mono (by simp))
    obtain ⟨g, rfl⟩ := Gr.of hb
    have H0 := blk_below (heap_alloc_new w (.cells #[.int .i64 0, .int .i64 0] 26)) g.ok
    have HB := Lib.hid hb2
    have z0 : _ = some (Value.int .i64 9223372036854775807) := blk_cell (i := 0) (two_set H0 (.int .i64 9223372036854775807) (.int .i64 (-9223372036854775808))) rfl
    have z1 : _ = some (Value.int .i64 (-9223372036854775808)) := blk_cell (i := 1) (two_set H0 (.int .i64 9223372036854775807) (.int .i64 (-9223372036854775808))) rfl
    have Z0 := Lib.hid z0
    have Z1 := Lib.hid z1
    have c0 : _ = some (Value.int .i64 0) := blk_cell (i := 0) H0 rfl
    have c1 : _ = some (Value.int .i64 0) := blk_cell (i := 1) H0 rfl
    have cf := blk_free H0
    clear hb hb2 z0 z1 H0
    go_wp2_with fail
    have z0 := Z0.out
    have z1 := Z1.out
    exact bodyPost_ret (v := .agg #[.int .i64 9223372036854775807, .int .i64 (-9223372036854775808)]) (by simp [results, Try.results23, go_sem, z0, z1]) rfl ⟨rfl, (HB.out.setCell (p := ⟨w.heap.size, 0, none⟩) (Nat.le_refl _) _).setCell (p := ⟨w.heap.size, 1, none⟩) (Nat.le_refl _) _⟩
  · have hb0 := blk_below h.blk ((Below.refl _ w).alloc (Nat.le_refl _) (.cells #[.int .i64 0, .int .i64 0] 26))
    have c1 : _ = some (Value.int .i64 o.lo) := blk_cell hb0 (i := 1) rfl
    have c2 : _ = some (Value.int .i64 o.hi) := blk_cell hb0 (i := 2) rfl
    clear hb0
    have H0 := heap_alloc_new w (.cells #[.int .i64 o.lo, .int .i64 o.hi] 26)
    have z0 : _ = some (Value.int .i64 o.lo) := blk_cell (i := 0) H0 rfl
    have z1 : _ = some (Value.int .i64 o.hi) := blk_cell (i := 1) H0 rfl
    have Z0 := Lib.hid z0
    have Z1 := Lib.hid z1
    clear z0 z1
    clear h HN H0
    go_enter Try.func23, Try.ntmps23
    go_wp2_with fail
    have z0 := Z0.out
    have z1 := Z1.out
    exact bodyPost_ret (v := .agg #[.int .i64 o.lo, .int .i64 o.hi]) (by simp [results, Try.results23, go_sem, z0, z1]) rfl ⟨rfl, (Below.refl _ w).alloc (Nat.le_refl _) _⟩
end Go.Proofs.Ytibnbpiachdmdaa
end
/- Contracts of the program's streams of rows: a row is asked for its next span. -/
section
namespace Go.Proofs.Ytibnbpiachdmdaa
open Go.ChangeShapes Go.WideShapes Go.ChangeAt Go.RowKit Go.Joins Sp
/-- A slice without its first elements, and where it lies. -/
theorem Sl.tail {P : Program} {w : World} {A : Option Addr} {n c s : Nat} {xs : List Value} (h : Sl w A n c xs) {k : Nat} (hk : k ≤ n) (hx : xs.length = n * s) {t : TypeId} (ht : P.underlying t = some (.slice (P.elem t))) (hs : ∀ w' : World, (sizeOf (P.elem t)).run P w' = .ok s w') :
    ∃ A2 : Option Addr, (∀ w' : World, (Instr.sliceAt t (.slice A n c) (some (.int .i64 k)) none none).run P w' = .ok (.slice A2 (n - k) (c - k)) w') ∧ Sl w A2 (n - k) (c - k) (xs.drop (k * s)) ∧ ∀ a, A2 = some a → ∃ a', A = some a' ∧ a'.block = a.block := by
  have hle := h.le
  have hcap := h.cap
  refine ⟨if c = k then A else A.map (·.add (k * s)), fun w' => ?_, ⟨by omega, by omega, ?_, ?_⟩, fun a ha => ?_⟩
  · rw [run_sliceAt_slice w' t _ _ _ _ ht, run_slice_l w' t A n c ht .i64 k (by omega) (by omega), hs]
    simp [Result.andThen, sliced]
  · intro hn
    split at hn
    · omega
    · have := h.nil (by simpa using hn); omega
  · intro hn
    have hk0 : k * s < xs.length := by simp at hn; omega
    obtain ⟨b, off, rfl, hlt, hc⟩ := h.on (by omega)
    have hck : c ≠ k := by
      rintro rfl
      have : n = c := by omega
      subst this
      omega
    refine ⟨b, off + k * s, by rw [if_neg hck]; unfold Addr.add; by_cases h0 : k * s = 0 <;> simp [h0], hlt, fun i u hi => ?_⟩
    rw [Nat.add_assoc]
    exact hc (k * s + i) u (by rw [List.getElem?_drop] at hi; exact hi)
  · split at ha
    · exact ⟨a, ha, rfl⟩
    · cases hA : A with
      | none => rw [hA] at ha; cases ha
      | some a' =>
        rw [hA] at ha
        refine ⟨a', rfl, ?_⟩
        obtain rfl := Option.some.inj ha
        unfold Addr.add
        split <;> rfl
/-- A stream of a row in memory. -/
structure RwAt (w : World) (b : Nat) (o : Ob) (r : List Spn) (F : Nat → Prop) : Prop where
  blk : w.heap[b]? = some (.cells o.cs 54 (0, 0))
  sl : Sl w o.ra r.length o.rc (sv r)
  rn : o.rn = r.length
  f : form r
  i64 : In64 r
  bk : ∀ a, o.ra = some a → a.block ≠ b ∧ F a.block
section
variable {w w' : World} {b : Nat} {o : Ob} {r : List Spn} {F G : Nat → Prop}
theorem RwAt.off (h : RwAt w b o r F) (ho : Off G w w') (hb : ¬ G b) (hG : ∀ k, F k → ¬ G k) : RwAt w' b o r F :=
  ⟨ho.heap h.blk hb, sl_off h.sl ho fun a e => hG _ (h.bk a e).2, h.rn, h.f, h.i64, h.bk⟩
theorem RwAt.gr (h : RwAt w b o r F) (g : Gr w) : RwAt g.val b o r F := h.off (G := fun _ => False) (.of_below g.ok) id fun _ _ => id
/-- What it is with cells of its own turned. -/
theorem RwAt.set (h : RwAt w b o r F) {i : Nat} {v : Value} {o' : Ob} (e : o.cs.setIfInBounds i v = o'.cs) (h1 : o'.ra = o.ra) (h2 : o'.rn = o.rn) (h3 : o'.rc = o.rc) : RwAt (w.setCell ⟨b, i, none⟩ v) b o' r F := by
  have hb := block_setCell h.blk (i := i) v
  rw [e] at hb
  have ho : Off (fun k => k = b) w (w.setCell ⟨b, i, none⟩ v) := (Off.refl (fun k => k = b) w).setCell (b := b) (.inl rfl) _
  exact ⟨hb, by rw [h1, h3]; exact sl_off h.sl ho fun a e => (h.bk a e).1, by rw [h2]; exact h.rn, h.f, h.i64, by rw [h1]; exact h.bk⟩
/-- Its first span is left out. -/
theorem RwAt.drop {P : Program} {s : Spn} {t : List Spn} (h : RwAt w b o (s :: t) F) {ty : TypeId} (ht : P.underlying ty = some (.slice (P.elem ty))) (hs : ∀ w' : World, (sizeOf (P.elem ty)).run P w' = .ok 2 w') :
    ∃ A2 d, (∀ w' : World, (Instr.sliceAt ty (.slice o.ra (t.length + 1) o.rc) (some (.int .i64 1)) none none).run P w' = .ok (.slice A2 t.length d) w') ∧ RwAt (w.setCell ⟨b, 9, none⟩ (.slice A2 t.length d)) b { o with ra := A2, rn := t.length, rc := d } t F := by
  obtain ⟨A2, h1, h2, h3⟩ := h.sl.tail (P := P) (k := 1) (s := 2) (by simp) (sv_len _) ht hs
  have hb := block_setCell h.blk (i := 9) (.slice A2 t.length (o.rc - 1))
  have ho : Off (fun k => k = b) w (w.setCell ⟨b, 9, none⟩ (.slice A2 t.length (o.rc - 1))) := (Off.refl (fun k => k = b) w).setCell (b := b) (.inl rfl) _
  have hk : ∀ a, A2 = some a → a.block ≠ b ∧ F a.block := fun a e => by
    obtain ⟨a', e', hb'⟩ := h3 a e
    rw [← hb']
    exact h.bk a' e'
  refine ⟨A2, o.rc - 1, h1, ⟨hb, ?_, rfl, formFrom_form h.f.2, fun x hx => h.i64 x (by simp [hx]), hk⟩⟩
  exact sl_off (xs := sv t) h2 ho fun a e => (hk a e).1
end
/-- A row was asked: its first span that reaches over a minute is at hand. -/
def AskTo (w w' : World) (b : Nat) (o : Ob) (r : List Spn) (m : Int) (c : Value) (k : Nat) (C F : Nat → Prop) : Prop :=
  ∃ (x1 x2 : Int) (A : Option Addr) (d : Nat) (r' : List Spn) (k' : Nat), k' ≤ k + 1 ∧ CtAt w' c k' C ∧ Off (fun x => x = b ∨ C x) w w' ∧ RwAt w' b { o with h1 := x1, h2 := x2, ra := A, rn := r'.length, rc := d } r' F ∧
    (∀ x, m ≤ x → (has r x ↔ has r' x)) ∧ ((∃ s t, r' = s :: t ∧ x1 = s.1 ∧ x2 = s.2 ∧ m < s.2) ∨ (r' = [] ∧ x1 = 9223372036854775807 ∧ x2 = 9223372036854775807)) ∧ r'.length ≤ r.length ∧ ∀ s t, r = s :: t → s.2 ≤ m → r'.length ≤ t.length
/-- What stands in memory while spans are left out. -/
def AskIn (w : World) (b : Nat) (o : Ob) (r : List Spn) (m : Int) (F : Nat → Prop) (j : Nat) (wr : World) : Prop :=
  ∃ (A : Option Addr) (d : Nat) (r' : List Spn), j = r'.length ∧ RwAt wr b { o with ra := A, rn := r'.length, rc := d } r' F ∧ Off (fun x => x = b) w wr ∧ (∀ x, m ≤ x → (has r x ↔ has r' x)) ∧ (r' = r ∨ r'.length < r.length)
set_option maxRecDepth 100000 in
set_option maxHeartbeats 4000000 in
theorem pask_any (b : Nat) (o : Ob) (r : List Spn) (m : Int) (c : Value) (k : Nat) (C F : Nat → Prop) (w : World) (h : RwAt w b o r F) (hct : o.ct = c) (hc : CtAt w c k C) (hFb : F b) (hFC : ∀ x, F x → ¬ C x) :
    Calls Try.prog 62 #[.pointer (some ⟨b, 0, none⟩), .int .i64 m] w fun e w' => e = .returned (.tuple #[]) ∧ AskTo w w' b o r m c k C F := by
  subst hct
  have HC := Lib.hid (pcount_any o.ct k C w hc)
  have c6 := blk_cell h.blk (i := 6) (v := o.ct) rfl
  have H := Lib.hid h
  have HF := Lib.hid hFC
  have HFb := Lib.hid hFb
  obtain ⟨ptr, hptr⟩ : ∃ a, o.ct = .pointer a := by
    rcases hc.2 with ⟨e, _⟩ | ⟨b', e, _⟩
    · exact ⟨_, e⟩
    · exact ⟨_, e⟩
  have HP := Lib.hid hptr
  rw [hptr] at HC c6
  clear h hc hFC hFb hptr
  go_enter Try.func62, Try.ntmps62
  go_wp2_with fail
  go_at_call 63
  refine HC.out.mono ?_
  rintro e w1 ⟨rfl, k1, hk1, hc1, ho1⟩
  have HK := Lib.hid hk1
  have HC1 := Lib.hid hc1
  have HO1 := Lib.hid ho1
  have HST : Hid (AskIn w1 b o r m F r.length w1) := ⟨o.ra, o.rc, r, rfl, by have := H.out.off ho1 (HF.out b HFb.out) HF.out; have e : o.rn = r.length := this.rn; rw [← e]; exact this, .refl _ _, fun _ _ => Iff.rfl, .inl rfl⟩
  clear hk1 hc1 ho1 HC c6
  go_wp2_with fail
  go_loopg [] r.length (fun j wr => Hid (AskIn w1 b o r m F j wr))
  case atStart => exact HST.out
  case round =>
    obtain ⟨A, d, r', rfl, hR, hO, hx, hl⟩ := hrel.out
    have HR := Lib.hid hR
    have HO := Lib.hid hO
    have HX := Lib.hid hx
    have HL := Lib.hid hl
    have cf := blk_free hR.blk
    cases r' with
    | nil =>
      have c9 : _ = some (Value.slice A 0 d) := blk_cell hR.blk (i := 9) rfl
      have k1 := hR.set (i := 7) (v := .int .i64 9223372036854775807) (o' := { o with h1 := 9223372036854775807, ra := A, rn := 0, rc := d }) rfl rfl rfl rfl
      have k2 := k1.set (i := 8) (v := .int .i64 9223372036854775807) (o' := { o with h1 := 9223372036854775807, h2 := 9223372036854775807, ra := A, rn := 0, rc := d }) rfl rfl rfl rfl
      have d9 : _ = some (Value.slice A 0 d) := blk_cell k2.blk (i := 9) rfl
      have c7 : _ = some (Value.int .i64 o.h1) := blk_cell hR.blk (i := 7) rfl
      have c8 : _ = some (Value.int .i64 o.h2) := blk_cell k1.blk (i := 8) rfl
      have cf1 := blk_free k1.blk
      have cf2 := blk_free k2.blk
      have K2 := Lib.hid k2
      have HO2 : Hid (Off (fun x => x = b) w1 ((wr.setCell ⟨b, 7, none⟩ (.int .i64 9223372036854775807)).setCell ⟨b, 8, none⟩ (.int .i64 9223372036854775807))) := (hO.setCell (b := b) (.inl rfl) _).setCell (b := b) (.inl rfl) _
      clear hR hO hx hl k1 k2 hrel
      go_wp2_with fail
      first | go_end0 | refine bodyPost_ret (results_none rfl _ _ _) rfl ?_
      refine ⟨rfl, _, _, A, d, [], k1, HK.out, by rw [HP.out]; exact HC1.out.off HO2.out fun x hx e => HF.out b HFb.out (e ▸ hx), (HO1.out.mono fun x _ hx => .inr hx).trans (G := fun x => x = b) HO2.out fun x hx => .inl (.inl hx), K2.out, HX.out, .inr ⟨rfl, rfl, rfl⟩, Nat.zero_le _, fun s t e hs => Nat.zero_le _⟩
    | cons s t =>
      obtain ⟨rb, off, rfl, _, q0, q1⟩ := hR.sl.span (i := 0) (s := s) rfl
      rw [show off + 0 * 2 = off by omega] at q0 q1
      obtain ⟨hrb, _⟩ := hR.bk _ rfl
      obtain ⟨A2, d2, hsl, hR2⟩ := hR.drop (P := Try.prog) (ty := 22) (by kernel_rfl) (fun w' => by kernel_rfl)
      simp only at hsl
      have c9 : _ = some (Value.slice (some ⟨rb, off, none⟩) (t.length + 1) d) := blk_cell hR.blk (i := 9) rfl
      obtain ⟨n, hn⟩ : ∃ n, t.length + 1 = n := ⟨_, rfl⟩
      have hnz : (0 : Int) < n := by omega
      have hnn : 0 < n := by omega
      have HN := Lib.hid hn
      rw [hn] at c9 hsl
      have k1 := hR.set (i := 7) (v := .int .i64 9223372036854775807) (o' := { o with h1 := 9223372036854775807, ra := some ⟨rb, off, none⟩, rn := t.length + 1, rc := d }) rfl rfl rfl rfl
      have k2 := k1.set (i := 8) (v := .int .i64 9223372036854775807) (o' := { o with h1 := 9223372036854775807, h2 := 9223372036854775807, ra := some ⟨rb, off, none⟩, rn := t.length + 1, rc := d }) rfl rfl rfl rfl
      have k3 := k2.set (i := 7) (v := .int .i64 s.1) (o' := { o with h1 := s.1, h2 := 9223372036854775807, ra := some ⟨rb, off, none⟩, rn := t.length + 1, rc := d }) rfl rfl rfl rfl
      have k4 := k3.set (i := 8) (v := .int .i64 s.2) (o' := { o with h1 := s.1, h2 := s.2, ra := some ⟨rb, off, none⟩, rn := t.length + 1, rc := d }) rfl rfl rfl rfl
      have HR2 := Lib.hid hR2
      have HSL := Lib.hid hsl
      by_cases hs : s.2 ≤ m
      · clear k1 k2 k3 k4
        have hsb : decide (s.2 ≤ m) = true := decide_eq_true hs
        have HO2 : Hid (Off (fun x => x = b) w1 (wr.setCell ⟨b, 9, none⟩ (.slice A2 t.length d2))) := hO.setCell (b := b) (.inl rfl) _
        have HX2 : Hid (∀ x, m ≤ x → (has r x ↔ has t x)) := fun x hm => (hx x hm).trans (form_cut hs hm)
        have HL2 : Hid (t.length < r.length) := by show _ < _; rcases hl with h | h; · rw [← h]; simp
                                                   · simp at h; omega
        clear hR hR2 hO hx hl hrel hn
        go_wp2_with fail
        go_roundg t.length
        case measure => simp
        case rel => exact ⟨A2, d2, t, rfl, HR2.out, HO2.out, HX2.out, .inr HL2.out⟩
      · have hsb : decide (s.2 ≤ m) = false := decide_eq_false hs
        have c7 : _ = some (Value.int .i64 o.h1) := blk_cell hR.blk (i := 7) rfl
        have c8 : _ = some (Value.int .i64 o.h2) := blk_cell k1.blk (i := 8) rfl
        have e7 : _ = some (Value.int .i64 9223372036854775807) := blk_cell k2.blk (i := 7) rfl
        have e8 : _ = some (Value.int .i64 9223372036854775807) := blk_cell k3.blk (i := 8) rfl
        have d9 : _ = some (Value.slice (some ⟨rb, off, none⟩) (t.length + 1) d) := blk_cell k2.blk (i := 9) rfl
        rw [hn] at d9
        obtain ⟨rb', off', er, _, q2, q3⟩ := k2.sl.span (i := 0) (s := s) rfl
        obtain ⟨rfl, rfl⟩ : rb = rb' ∧ off = off' := by simpa using er
        rw [show off + 0 * 2 = off by omega] at q2 q3
        have cf1 := blk_free k1.blk
        have cf2 := blk_free k2.blk
        have cf3 := blk_free k3.blk
        have K4 := Lib.hid k4
        have HO2 : Hid (Off (fun x => x = b) w1 ((((wr.setCell ⟨b, 7, none⟩ (.int .i64 9223372036854775807)).setCell ⟨b, 8, none⟩ (.int .i64 9223372036854775807)).setCell ⟨b, 7, none⟩ (.int .i64 s.1)).setCell ⟨b, 8, none⟩ (.int .i64 s.2))) := (((hO.setCell (b := b) (.inl rfl) _).setCell (b := b) (.inl rfl) _).setCell (b := b) (.inl rfl) _).setCell (b := b) (.inl rfl) _
        have HS := Lib.hid hs
        clear hR hR2 hO hx hl hrel hn k1 k2 k3 k4 er hsl HSL HR2
        go_wp2_with fail
        first | go_end0 | refine bodyPost_ret (results_none rfl _ _ _) rfl ?_
        refine ⟨rfl, _, _, _, d, s :: t, k1, HK.out, by rw [HP.out]; exact HC1.out.off HO2.out fun x hx e => HF.out b HFb.out (e ▸ hx), (HO1.out.mono fun x _ hx => .inr hx).trans (G := fun x => x = b) HO2.out fun x hx => .inl (.inl hx), K4.out, HX.out, .inl ⟨s, t, rfl, rfl, rfl, by have := HS.out; omega⟩, ?_, fun s' t' e hs' => ?_⟩
        · rcases HL.out with h | h
          · rw [h]; exact Nat.le_refl _
          · exact Nat.le_of_lt h
        · rcases HL.out with h | h
          · rw [← h] at e
            obtain ⟨rfl, rfl⟩ := List.cons.inj e
            exact absurd hs' (by have := HS.out; omega)
          · rw [e] at h; simp at h; simp; omega
end Go.Proofs.Ytibnbpiachdmdaa
end
