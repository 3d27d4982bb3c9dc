import Derived.Test.YtdhinjbkfffpeaaGreatYOG
import Derived.Test.YtdhinjbkfffpeaaGreatYOE
import Derived.Test.YtdhinjbkfffpeaaGreatYOF
import Derived.Test.YtdhinjbkfffpeaaGreatYBlk2
import Derived.Test.YtdhinjbkfffpeaaGreatYMB
import Derived.Test.YtdhinjbkfffpeaaGreatYJRK
/- What a pass through a thing does, whether it writes or reads: steps, one behind the other. No text of the program is read here. -/
section
namespace Go.Proofs.YtdhinjbkfffpeaaGreat
open Sp Fr Pk
inductive Md where
 | wr (l : List UInt8)
 | rd (r : Rd)
def Rho (r : Rd) (b : Bool) : Rd := if b = true then none else r
structure Cd (α : Type) where
 T : α → List UInt8
 O : α → Prop
 rd : Rd → α × Rd
 cost : α → Nat
 bad : (rd none).2 = none
def Dn {α : Type} (c : Cd α) (x : α) : Md → Bool → α → Md → Bool → Prop
 | .wr l, b, y, m', b' => ∃ t, m' = .wr (l ++ t) ∧ t.length ≤ c.cost x ∧ (c.O x → t = c.T x ∧ y = x ∧ b' = b)
 | .rd r, b, y, m', b' => ∃ r', m' = .rd r' ∧ Rho r' b' = (c.rd (Rho r b)).2 ∧ (Rho r' b' ≠ none → y = (c.rd (Rho r b)).1)
def Md.Room : Md → Nat → Prop
 | .wr l, n => l.length + n ≤ 100000000
 | .rd _, _ => True
section
variable {α β γ : Type} {c c1 : Cd α} {c2 : Cd β} {x y x1 y1 : α} {x2 y2 : β} {m m1 m2 m' : Md} {b b1 b2 b' : Bool} {n k : Nat}
theorem Md.Room.mono (h : m.Room n) (hk : k ≤ n) : m.Room k := by
 cases m with
 | wr l => exact Nat.le_trans (Nat.add_le_add_left hk _) h
 | rd r => trivial
theorem Dn.room (h : Dn c x m b y m' b') (hr : m.Room (c.cost x + n)) : m'.Room n := by
 cases m with
 | wr l =>
  obtain ⟨t, rfl, ht, _⟩ := h
  have hr : l.length + (c.cost x + n) ≤ 100000000 := hr
  show (l ++ t).length + n ≤ 100000000
  rw [List.length_append]; omega
 | rd r =>
  obtain ⟨r', rfl, _⟩ := h
  trivial
def Cd.pair (c1 : Cd α) (c2 : Cd β) : Cd (α × β) := ⟨fun x => c1.T x.1 ++ c2.T x.2, fun x => c1.O x.1 ∧ c2.O x.2, rdP c1.rd c2.rd, fun x => c1.cost x.1 + c2.cost x.2, by unfold rdP rdTwo; simp only [c1.bad, c2.bad]⟩
theorem Dn.pair (h1 : Dn c1 x1 m b y1 m1 b1) (h2 : Dn c2 x2 m1 b1 y2 m2 b2) : Dn (c1.pair c2) (x1, x2) m b (y1, y2) m2 b2 := by
 cases m with
 | wr l =>
  obtain ⟨t, rfl, ht, ho⟩ := h1
  obtain ⟨u, rfl, hu, po⟩ := h2
  refine ⟨t ++ u, by rw [List.append_assoc], by show (t ++ u).length ≤ c1.cost x1 + c2.cost x2; rw [List.length_append]; omega, fun ⟨o1, o2⟩ => ?_⟩
  obtain ⟨rfl, rfl, rfl⟩ := ho o1
  obtain ⟨rfl, rfl, rfl⟩ := po o2
  exact ⟨rfl, rfl, rfl⟩
 | rd r =>
  obtain ⟨r1, rfl, e1, v1⟩ := h1
  obtain ⟨r2, rfl, e2, v2⟩ := h2
  refine ⟨r2, rfl, ?_, fun hn => ?_⟩
  ·rw [e2, e1]; rfl
  ·have h1n : Rho r1 b1 ≠ none := fun e => hn (by rw [e2, e]; exact c2.bad)
   rw [v1 h1n, v2 hn, e1]; rfl
theorem Dn.two {d : α → Cd β} {D : Cd γ} {z w : γ} (h1 : Dn c1 x1 m b y1 m1 b1) (h2 : Dn (d y1) x2 m1 b1 y2 m2 b2) (mk : α → β → γ)
  (hc : c1.cost x1 + (d y1).cost x2 ≤ D.cost z) (hO : D.O z → c1.O x1 ∧ (d x1).O x2 ∧ mk x1 x2 = z) (hT : D.O z → D.T z = c1.T x1 ++ (d x1).T x2) (hw : mk y1 y2 = w)
  (hrd : ∀ r, D.rd r = (mk (c1.rd r).1 ((d (c1.rd r).1).rd (c1.rd r).2).1, ((d (c1.rd r).1).rd (c1.rd r).2).2)) : Dn D z m b w m2 b2 := by
 subst hw
 cases m with
 | wr l =>
  obtain ⟨t, rfl, ht, ho⟩ := h1
  obtain ⟨u, rfl, hu, po⟩ := h2
  refine ⟨t ++ u, by rw [List.append_assoc], by rw [List.length_append]; omega, fun o => ?_⟩
  obtain ⟨o1, o2, e⟩ := hO o
  obtain ⟨rfl, rfl, rfl⟩ := ho o1
  obtain ⟨rfl, rfl, rfl⟩ := po o2
  exact ⟨(hT o).symm, e, rfl⟩
 | rd r =>
  obtain ⟨r1, rfl, e1, v1⟩ := h1
  obtain ⟨r2, rfl, e2, v2⟩ := h2
  by_cases hn1 : Rho r1 b1 = none
  ·have en : Rho r2 b2 = none := by rw [e2, hn1]; exact (d y1).bad
   refine ⟨r2, rfl, ?_, fun hn => absurd en hn⟩
   rw [en, hrd]
   show none = _
   rw [← e1, hn1, (d _).bad]
  ·obtain rfl := v1 hn1
   refine ⟨r2, rfl, ?_, fun hn => ?_⟩
   ·rw [e2, hrd, e1]
   ·rw [v2 hn, hrd, e1]
theorem Dn.conv {D : Cd γ} {z w : γ} (h : Dn c x m b y m' b') (f : α → γ) (hc : c.cost x ≤ D.cost z) (hO : D.O z → c.O x ∧ f x = z) (hT : D.O z → D.T z = c.T x) (hw : f y = w) (hrd : ∀ r, D.rd r = (f (c.rd r).1, (c.rd r).2)) : Dn D z m b w m' b' := by
 subst hw
 cases m with
 | wr l =>
  obtain ⟨t, rfl, ht, ho⟩ := h
  refine ⟨t, rfl, Nat.le_trans ht hc, fun o => ?_⟩
  obtain ⟨o1, e⟩ := hO o
  obtain ⟨rfl, rfl, rfl⟩ := ho o1
  exact ⟨(hT o).symm, e, rfl⟩
 | rd r =>
  obtain ⟨r1, rfl, e1, v1⟩ := h
  exact ⟨r1, rfl, by rw [e1, hrd], fun hn => by rw [v1 hn, hrd]⟩
theorem Dn.must {D : Cd α} {t : Bool} (h : Dn c x m b y m' b1) (p : α → Bool) (hp : t = p y) (hb : b' = (b1 || !t)) (hc : c.cost x ≤ D.cost x) (hO : D.O x → c.O x ∧ p x = true) (hT : D.O x → D.T x = c.T x) (hrd : ∀ r, D.rd r = rdIf p c.rd r) : Dn D x m b y m' b' := by
 subst hp
 subst hb
 cases m with
 | wr l =>
  obtain ⟨t, rfl, ht, ho⟩ := h
  refine ⟨t, rfl, Nat.le_trans ht hc, fun o => ?_⟩
  obtain ⟨o1, e⟩ := hO o
  obtain ⟨rfl, rfl, rfl⟩ := ho o1
  exact ⟨(hT o).symm, rfl, by simp [e]⟩
 | rd r =>
  obtain ⟨r1, rfl, e1, v1⟩ := h
  by_cases hn : Rho r1 b1 = none
  ·have e : Rho r1 (b1 || !p y) = none := by
    unfold Rho at hn ⊢
    cases b1 with
    | true => rfl
    | false => cases hq : p y <;> simp at hn ⊢; exact hn
   refine ⟨r1, rfl, ?_, fun h => absurd e h⟩
   rw [e, hrd]
   unfold rdIf
   rw [← e1, hn]
   simp
  ·obtain rfl := v1 hn
   have hb1 : b1 = false := by
    cases b1 with
    | false => rfl
    | true => exact absurd rfl hn
   subst hb1
   refine ⟨r1, rfl, ?_, fun _ => by rw [hrd]; rfl⟩
   rw [hrd]
   unfold rdIf
   rw [← e1]
   cases p (c.rd (Rho r b)).1 <;> simp [Rho]
def Cd.unit : Cd Unit := ⟨fun _ => [], fun _ => True, fun r => ((), r), fun _ => 0, rfl⟩
theorem Dn.unit (m : Md) (b : Bool) : Dn Cd.unit () m b () m b := by
 cases m with
 | wr l => exact ⟨[], by simp, Nat.zero_le _, fun _ => ⟨rfl, rfl, rfl⟩⟩
 | rd r => exact ⟨r, rfl, rfl, fun _ => rfl⟩
end
-- what reads or writes by itself
section
variable {α : Type} {c : Cd α} {x y : α} {l t : List UInt8} {r r' : Rd} {b : Bool}
theorem Dn.wr_leaf (ht : t.length ≤ c.cost x) (h : c.O x → t = c.T x) : Dn c x (.wr l) b x (.wr (l ++ t)) b := ⟨t, rfl, ht, fun o => ⟨h o, rfl, rfl⟩⟩
theorem Dn.rd_leaf (h : b = false → c.rd r = (y, r')) : Dn c x (.rd r) b y (.rd r') b := by
 refine ⟨r', rfl, ?_, fun hn => ?_⟩
 ·cases b with
  | true => show none = _; exact c.bad.symm
  | false => show r' = (c.rd r).2; rw [h rfl]
 ·cases b with
  | true => exact absurd rfl hn
  | false => show y = (c.rd r).1; rw [h rfl]
end
-- numbers, flags, texts
def cdNum (most : Nat) : Cd Nat := ⟨numT, fun n => n ≤ most, rdNum most, fun _ => 10, rfl⟩
def cdInt (most : Nat) : Cd Int := ⟨natT, fun n => 0 ≤ n ∧ n ≤ most, rdI most, fun _ => 10, rfl⟩
def cdSig : Cd Int := ⟨zigT, I64, rdSig, fun _ => 10, rfl⟩
def cdZ (least most : Int) : Cd Int := ⟨zigT, fun n => least ≤ n ∧ n ≤ most, rdZ least most, fun _ => 10, by unfold rdZ rdIf; simp [show (rdSig none).2 = none from rfl]⟩
def cdFlag : Cd Bool := ⟨flagT, fun _ => True, rdFlag, fun _ => 10, rfl⟩
-- rows
def rowCost {α : Type} (f : α → Nat) (l : List α) : Nat := 10 + (l.map f).sum
def cdRow {α : Type} (c : Cd α) (most : Nat) : Cd (List α) := ⟨rowT c.T, fun l => l.length ≤ most ∧ ∀ x ∈ l, c.O x, rdRow most c.rd, rowCost c.cost, by unfold rdRow; rw [rdNum_bad]; exact rdN_bad c.bad _⟩
def Dns {α : Type} (c : Cd α) (l : List α) : Md → Bool → Nat → List α → Md → Bool → Prop
 | .wr s, b, i, g, m', b' => ∃ t, m' = .wr (s ++ t) ∧ (i ≤ l.length → t.length ≤ ((l.take i).map c.cost).sum) ∧ (i ≤ l.length → (∀ x ∈ l.take i, c.O x) → t = (l.take i).flatMap c.T ∧ g = l.take i ∧ b' = b)
 | .rd r, b, i, g, m', b' => ∃ r', m' = .rd r' ∧ Rho r' b' = (rdN c.rd i (Rho r b)).2 ∧ (Rho r' b' ≠ none → g = (rdN c.rd i (Rho r b)).1)
section
variable {α : Type} {c : Cd α} {z y : α} {l g : List α} {i most : Nat} {m m1 m2 : Md} {b b1 b2 : Bool}
theorem Dns.start (c : Cd α) (l : List α) (m : Md) (b : Bool) : Dns c l m b 0 [] m b := by
 cases m with
 | wr s => exact ⟨[], by simp, fun _ => by simp, fun _ _ => by simp⟩
 | rd r => exact ⟨r, rfl, rfl, fun _ => rfl⟩
theorem Dns.step (h : Dns c l m b i g m1 b1) (h2 : Dn c ((l[i]?).getD z) m1 b1 y m2 b2) : Dns c l m b (i + 1) (g ++ [y]) m2 b2 := by
 cases m with
 | wr s =>
  obtain ⟨t, rfl, ht, ho⟩ := h
  obtain ⟨u, rfl, hu, po⟩ := h2
  refine ⟨t ++ u, by rw [List.append_assoc], fun hi => ?_, fun hi hO => ?_⟩
  ·obtain ⟨v, hv⟩ : ∃ v, l[i]? = some v := ⟨_, List.getElem?_eq_getElem (by omega)⟩
   rw [hv] at hu
   have := ht (by omega)
   rw [List.take_add_one, hv]
   simp only [Option.toList, List.map_append, List.map_cons, List.map_nil, List.sum_append, List.sum_cons, List.sum_nil, List.length_append]
   have hu : u.length ≤ c.cost v := hu
   omega
  ·obtain ⟨v, hv⟩ : ∃ v, l[i]? = some v := ⟨_, List.getElem?_eq_getElem (by omega)⟩
   rw [List.take_add_one, hv] at hO ⊢
   rw [hv] at po
   simp only [Option.toList, Option.getD] at hO po ⊢
   obtain ⟨rfl, rfl, rfl⟩ := ho (by omega) fun x hx => hO x (List.mem_append_left _ hx)
   obtain ⟨rfl, rfl, rfl⟩ := po (hO v (by simp))
   exact ⟨by simp, rfl, rfl⟩
 | rd r =>
  obtain ⟨r1, rfl, e1, v1⟩ := h
  obtain ⟨r2, rfl, e2, v2⟩ := h2
  refine ⟨r2, rfl, ?_, fun hn => ?_⟩
  ·rw [e2, e1, rdN_snoc]
  ·have h1n : Rho r1 b1 ≠ none := fun e => hn (by rw [e2, e]; exact c.bad)
   rw [rdN_snoc, v1 h1n, v2 hn, e1]
theorem Dns.room {n : Nat} (h : Dns c l m b i g m1 b1) (hr : m.Room ((l.map c.cost).sum + n)) (hi : (∀ s, m = .wr s → i ≤ l.length)) : m1.Room (((l.drop i).map c.cost).sum + n) := by
 cases m with
 | wr s =>
  obtain ⟨t, rfl, ht, _⟩ := h
  have hi := hi s rfl
  have := ht hi
  have hr : s.length + ((l.map c.cost).sum + n) ≤ 100000000 := hr
  show (s ++ t).length + (((l.drop i).map c.cost).sum + n) ≤ 100000000
  have e : (l.map c.cost).sum = ((l.take i).map c.cost).sum + ((l.drop i).map c.cost).sum := by
   rw [← List.sum_append, ← List.map_append, List.take_append_drop]
  rw [List.length_append]; omega
 | rd r =>
  obtain ⟨r', rfl, _⟩ := h
  trivial
theorem Dns.row {k : Int} (h1 : Dn (cdInt most) (l.length : Int) m b k m1 b1) (hk : ∀ s, m = .wr s → k = l.length) (h2 : Dns c l m1 b1 k.toNat g m2 b2) (hl : l.length ≤ most) : Dn (cdRow c most) l m b g m2 b2 := by
 cases m with
 | wr s =>
  obtain rfl := hk s rfl
  obtain ⟨t, rfl, ht, ho⟩ := h1
  obtain ⟨u, rfl, hu, po⟩ := h2
  have ht : t.length ≤ 10 := ht
  have hu := hu (by omega)
  rw [Int.toNat_natCast, List.take_length] at hu
  refine ⟨t ++ u, by rw [List.append_assoc], ?_, fun o => ?_⟩
  ·show (t ++ u).length ≤ 10 + (l.map c.cost).sum
   rw [List.length_append]; omega
  ·obtain ⟨rfl, _, rfl⟩ := ho ⟨by omega, by omega⟩
   have po := po (by omega)
   rw [Int.toNat_natCast, List.take_length] at po
   obtain ⟨rfl, rfl, rfl⟩ := po o.2
   exact ⟨by simp [cdRow, rowT, cdInt, natT], rfl, rfl⟩
 | rd r =>
  obtain ⟨r1, rfl, e1, v1⟩ := h1
  obtain ⟨r2, rfl, e2, v2⟩ := h2
  have e1 : Rho r1 b1 = (rdNum most (Rho r b)).2 := e1
  by_cases hn1 : Rho r1 b1 = none
  ·have en : Rho r2 b2 = none := by rw [e2, hn1]; exact rdN_bad c.bad _
   refine ⟨r2, rfl, ?_, fun hn => absurd en hn⟩
   rw [en]
   show none = (rdN c.rd _ (rdNum most (Rho r b)).2).2
   rw [← e1, hn1, rdN_bad c.bad]
  ·have e : k = ((rdNum most (Rho r b)).1 : Int) := v1 hn1
   refine ⟨r2, rfl, ?_, fun hn => ?_⟩
   ·rw [e2, e, e1, Int.toNat_natCast]; rfl
   ·rw [v2 hn, e, e1, Int.toNat_natCast]; rfl
theorem Dn.many (hl : ¬ l.length ≤ most) (g : List α) (m : Md) (s : List UInt8) (hm : m = .wr s) (b : Bool) : Dn (cdRow c most) l m b g m true := by
 subst hm
 exact ⟨[], by simp, Nat.zero_le _, fun o => absurd o.1 hl⟩
end
end Go.Proofs.YtdhinjbkfffpeaaGreat
end
section
namespace Go.Proofs.YtdhinjbkfffpeaaGreat
open Go.ChangeShapes Go.WideShapes Go.ChangeAt Go.RowKit Go.Joins Sp Fr Pk
def Held (F : Nat → Prop) (w : World) (p : World → Prop) : Prop := ∀ V, Off F w V → p V
def Own (F : Nat → Prop) (s : Nat) (w : World) (p : World → Prop) : Prop := ∀ V, Off (fun k => F k ∨ k < s) w V → p V
structure PsAt (w : World) (P : Nat) (m : Md) (b : Bool) (F : Nat → Prop) : Prop where
 ok : match m with
  | .wr l => ∃ D G, w.heap[P]? = some (.cells #[.pointer (some ⟨D, 0, none⟩), .pointer none, .bool b] 126 (0, 0)) ∧ WrAt w D l G ∧ ∀ k, G k → F k ∧ k ≠ P
  | .rd r => ∃ D G, w.heap[P]? = some (.cells #[.pointer none, .pointer (some ⟨D, 0, none⟩), .bool b] 126 (0, 0)) ∧ RdAt w D r G ∧ ∀ k, G k → F k ∧ k ≠ P
 fP : F P
 lt : ∀ k, F k → k < w.heap.size
structure PsTo (w w' : World) (P : Nat) (m : Md) (b : Bool) (F F' : Nat → Prop) : Prop where
 at_ : PsAt w' P m b F'
 off : Off F w w'
 new : ∀ k, F' k → F k ∨ w.heap.size ≤ k
section
variable {w w1 w2 w' : World} {P B : Nat} {m m1 m2 : Md} {b b1 b2 : Bool} {F F1 F2 G : Nat → Prop} {p : World → Prop} {l l' : List UInt8} {r r' : Rd}
theorem PsAt.off (h : PsAt w P m b F) (ho : Off G w w') (hG : ∀ k, F k → ¬ G k) : PsAt w' P m b F := by
 refine ⟨?_, h.fP, fun k hk => Nat.lt_of_lt_of_le (h.lt k hk) ho.size⟩
 have hok := h.ok
 cases m with
 | wr l =>
  obtain ⟨D, H, h1, h2, h3⟩ := hok
  exact ⟨D, H, ho.heap h1 (hG _ h.fP), h2.off ho fun k hk => hG _ (h3 k hk).1, h3⟩
 | rd r =>
  obtain ⟨D, H, h1, h2, h3⟩ := hok
  exact ⟨D, H, ho.heap h1 (hG _ h.fP), h2.off ho fun k hk => hG _ (h3 k hk).1, h3⟩
theorem PsAt.below (h : PsAt w P m b F) (hb : Below w.heap.size w w') : PsAt w' P m b F := h.off (Off.of_below (F := fun _ => False) hb) fun _ _ h => h
theorem PsAt.self (h : PsAt w P m b F) : PsTo w w P m b F F := ⟨h, .refl _ _, fun _ hk => .inl hk⟩
theorem PsTo.trans (h : PsTo w w1 P m1 b1 F F1) (k : PsTo w1 w2 P m2 b2 F1 F2) : PsTo w w2 P m2 b2 F F2 :=
 ⟨k.at_, h.off.trans k.off h.new, fun b hb => (k.new b hb).elim (h.new b) fun hs => .inr (Nat.le_trans h.off.size hs)⟩
theorem PsTo.from_ (h : PsTo w1 w2 P m b F F1) (hb : Below w.heap.size w w1) : PsTo w w2 P m b F F1 :=
 ⟨h.at_, (Off.of_below hb).trans' h.off, fun k hk => (h.new k hk).imp id fun hs => Nat.le_trans hb.size hs⟩
theorem PsTo.below (h : PsTo w w1 P m b F F1) (hb : Below w1.heap.size w1 w2) : PsTo w w2 P m b F F1 :=
 ⟨h.at_.below hb, h.off.trans' (Off.of_below hb), h.new⟩
theorem PsTo.toBelow (h : PsTo w w1 P m b F F1) {n : Nat} (hn : n ≤ w.heap.size) (hF : ∀ k, F k → n ≤ k) : Below n w w1 := h.off.toBelow hn hF
theorem Held.now (h : Held F w p) : p w := h w (.refl _ _)
theorem Held.step (h : Held F w p) (k : PsTo w w' P m b F F1) : Held F1 w' p := fun V hV => h V (k.off.trans hV k.new)
theorem Held.off (h : Held F w p) (ho : Off F w w') : Held F w' p := fun V hV => h V (ho.trans' hV)
theorem Held.below (h : Held F w p) (hb : Below w.heap.size w w') : Held F w' p := h.off (Off.of_below hb)
theorem Held.drew (h : Held F w p) : Held F w.drew p := h.below ((Below.refl _ _).drew)
theorem PsAt.drew (h : PsAt w P m b F) : PsAt w.drew P m b F := h.below ((Below.refl _ _).drew)
theorem Held.of_below (hp : ∀ V, Below w.heap.size w V → p V) (hF : ∀ k, F k → False) : Held F w p := fun V hV => hp V (hV.toBelow (Nat.le_refl _) fun b hb => (hF b hb).elim)
theorem Held.blk {o : Obj} (h : w.heap[B]? = some o) (hB : ¬ F B) : Held F w (fun V => V.heap[B]? = some o) := fun _V hV => hV.heap h hB
theorem Held.and {q : World → Prop} (h : Held F w p) (k : Held F w q) : Held F w (fun V => p V ∧ q V) := fun V hV => ⟨h V hV, k V hV⟩
theorem Held.imp {q : World → Prop} (h : Held F w p) (k : ∀ V, p V → q V) : Held F w q := fun V hV => k V (h V hV)
theorem PsAt.not (h : PsAt w P m b F) (hB : w.heap.size ≤ B) : ¬ F B := fun hk => by have := h.lt B hk; omega
theorem PsTo.not (h : PsTo w w' P m b F F1) {R : Nat} (hR : ¬ F R) (hs : R < w.heap.size) : ¬ F1 R := fun hk => (h.new R hk).elim hR fun q => by omega
theorem Own.now {s : Nat} (h : Own F s w p) : p w := h w (.refl _ _)
theorem Own.step {s : Nat} (h : Own F s w p) (k : PsTo w w' P m b F F1) : Own F1 s w' p := fun V hV =>
 h V ⟨hV.os.trans k.off.os, hV.tape.trans k.off.tape, hV.output.trans k.off.output, Nat.le_trans k.off.size hV.size, fun j hj hn =>
  (hV.block j (Nat.lt_of_lt_of_le hj k.off.size) fun hq => hq.elim (fun q => (k.new j q).elim (fun q => hn (.inl q)) fun q => by omega) fun q => hn (.inr q)).trans (k.off.block j hj fun q => hn (.inl q))⟩
theorem Own.off {s : Nat} (h : Own F s w p) (ho : Off (fun k => F k ∨ k < s) w w') : Own F s w' p := fun V hV => h V (ho.trans' hV)
theorem Own.below {s : Nat} (h : Own F s w p) (hb : Below w.heap.size w w') : Own F s w' p := h.off (Off.of_below hb)
theorem Own.mono {s t : Nat} (h : Own F s w p) (hs : t ≤ s) : Own F t w p := fun V hV => h V (hV.mono fun k _ hk => hk.imp id fun q => by omega)
theorem Own.imp {s : Nat} {q : World → Prop} (h : Own F s w p) (k : ∀ V, p V → q V) : Own F s w q := fun V hV => k V (h V hV)
theorem Own.held {s : Nat} (h : Own F s w p) : Held F w p := fun V hV => h V (hV.mono fun _k _ hk => .inl hk)
theorem Own.const {s : Nat} {q : Prop} (h : q) : Own F s w (fun _ => q) := fun _ _ => h
theorem off_setCells {R : Nat} : ∀ (vs : List Value) (o : Nat) (w : World), Off (fun k => k = R) w (w.setCells R o vs)
 | [], _, w => .refl _ w
 | v :: r, o, w => by
  rw [World.setCells]
  exact ((Off.refl (fun k => k = R) w).setCell (b := R) (.inl rfl) v).trans' (off_setCells r (o + 1) _)
theorem PsTo.store {R : Nat} (h : PsTo w w1 P m b F F1) (hR : w.heap.size ≤ R) (hn : ¬ F1 R) (o : Nat) (vs : List Value) : PsTo w (w1.setCells R o vs) P m b F F1 :=
 ⟨h.at_.off (off_setCells vs o w1) (fun k hk e => hn (e ▸ hk)), h.off.trans (off_setCells vs o w1) (fun k hk => .inr (by omega)), h.new⟩
theorem PsTo.store' {W : World} {R : Nat} (h : PsTo W w1 P m b F F1) (hb : Below w.heap.size w W) (hR : w.heap.size ≤ R) (hn : ¬ F1 R) (o : Nat) (vs : List Value) : PsTo w (w1.setCells R o vs) P m b F F1 := (h.from_ hb).store hR hn o vs
theorem PsTo.set {R : Nat} (h : PsTo w w1 P m b F F1) (hR : w.heap.size ≤ R) (hn : ¬ F1 R) (o : Nat) (v : Value) : PsTo w (w1.setCell ⟨R, o, none⟩ v) P m b F F1 := h.store hR hn o [v]
theorem Own.store {s R : Nat} (h : Own F s w p) (hR : R < s) (o : Nat) (vs : List Value) : Own F s (w.setCells R o vs) p := h.off ((off_setCells vs o w).mono fun k _ hk => .inr (by omega))
theorem Own.set {s R : Nat} (h : Own F s w p) (hR : R < s) (o : Nat) (v : Value) : Own F s (w.setCell ⟨R, o, none⟩ v) p := h.store hR o [v]
theorem blk_there {w : World} {B o n : Nat} {cs : Array Value} {t : TypeId} (h : w.heap[B]? = some (.cells cs t (0, 0))) (hn : o + n ≤ cs.size) : w.there B o n := fun j hj => by
 have hv : cs[o + j]? = some (cs[o + j]'(by omega)) := Array.getElem?_eq_getElem (by omega)
 exact ⟨by rw [blk_cell h hv]; rfl, blk_free h _⟩
theorem PsAt.wrote (h : PsAt w P (.wr l) b F) : ∃ D G, w.heap[P]? = some (.cells #[.pointer (some ⟨D, 0, none⟩), .pointer none, .bool b] 126 (0, 0)) ∧ WrAt w D l G ∧ (∀ k, G k → F k ∧ k ≠ P) ∧
  ∀ w' l', WrTo w w' D l' G → ∃ F', PsTo w w' P (.wr l') b F F' := by
 obtain ⟨D, G, h1, h2, h3⟩ := h.ok
 refine ⟨D, G, h1, h2, h3, fun w' l' hT => ?_⟩
 obtain ⟨G', g1, g2, g3⟩ := hT
 have hP := heap_lt h1
 refine ⟨fun k => F k ∨ G' k, ⟨⟨D, G', g2.heap h1 fun hk => (h3 P hk).2 rfl, g1, fun k hk => ⟨.inr hk, fun e => ?_⟩⟩, .inl h.fP, fun k hk => ?_⟩, g2.mono fun k _ hk => (h3 k hk).1, fun k hk => ?_⟩
 ·subst e
  rcases g3 _ hk with q | q
  ·exact (h3 _ q).2 rfl
  ·omega
 ·rcases hk with hk | hk
  ·exact Nat.lt_of_lt_of_le (h.lt k hk) g2.size
  ·exact g1.lt k hk
 ·rcases hk with hk | hk
  ·exact .inl hk
  ·exact (g3 k hk).imp (fun q => (h3 k q).1) id
theorem PsAt.read_ (h : PsAt w P (.rd r) b F) : ∃ D G, w.heap[P]? = some (.cells #[.pointer none, .pointer (some ⟨D, 0, none⟩), .bool b] 126 (0, 0)) ∧ RdAt w D r G ∧ (∀ k, G k → F k ∧ k ≠ P) ∧
  ∀ w' r', RdTo w w' D r' G → PsTo w w' P (.rd r') b F F := by
 obtain ⟨D, G, h1, h2, h3⟩ := h.ok
 refine ⟨D, G, h1, h2, h3, fun w' r' hT => ?_⟩
 obtain ⟨g1, g2⟩ := hT
 have hD := h3 D h2.fD
 exact ⟨⟨⟨D, G, g2.heap h1 fun e => hD.2 e.symm, g1, h3⟩, h.fP, fun k hk => Nat.lt_of_lt_of_le (h.lt k hk) g2.size⟩, g2.mono fun k _ hk => by subst hk; exact hD.1, fun k hk => .inl hk⟩
theorem PsAt.wrong (h : PsAt w P m b F) (b' : Bool) : PsTo w (w.setCell ⟨P, 2, none⟩ (.bool b')) P m b' F F := by
 have o : Off (fun k => k = P) w (w.setCell ⟨P, 2, none⟩ (.bool b')) := (Off.refl (fun k => k = P) w).setCell (b := P) (.inl rfl) _
 refine ⟨⟨?_, h.fP, fun k hk => Nat.lt_of_lt_of_le (h.lt k hk) o.size⟩, o.mono fun k _ hk => by subst hk; exact h.fP, fun k hk => .inl hk⟩
 have hok := h.ok
 cases m with
 | wr l =>
  obtain ⟨D, G, h1, h2, h3⟩ := hok
  exact ⟨D, G, block_setCell h1 _, h2.off o fun k hk => (h3 k hk).2, h3⟩
 | rd r =>
  obtain ⟨D, G, h1, h2, h3⟩ := hok
  exact ⟨D, G, block_setCell h1 _, h2.off o fun k hk => (h3 k hk).2, h3⟩
theorem PsAt.cells (h : PsAt w P m b F) : ∃ x y, w.heap[P]? = some (.cells #[x, y, .bool b] 126 (0, 0)) := by
 have hok := h.ok
 cases m with
 | wr l =>
  obtain ⟨D, G, h1, _⟩ := hok
  exact ⟨_, _, h1⟩
 | rd r =>
  obtain ⟨D, G, h1, _⟩ := hok
  exact ⟨_, _, h1⟩
end
def Told {α π : Type} (val : α → π → Value) (At : World → α → π → Prop) (c : Cd α) (x : α) (P : Nat) (m : Md) (b : Bool) (F : Nat → Prop) (w : World) (e : Ending) (w' : World) : Prop :=
 ∃ y q m' b' F', e = .returned (val y q) ∧ PsTo w w' P m' b' F F' ∧ Own F' w.heap.size w' (fun V => At V y q) ∧ Dn c x m b y m' b'
def Tel {α : Type} (val : α → Value) (c : Cd α) (x : α) (P : Nat) (m : Md) (b : Bool) (F : Nat → Prop) (w : World) (e : Ending) (w' : World) : Prop :=
 ∃ y m' b' F', e = .returned (val y) ∧ PsTo w w' P m' b' F F' ∧ Dn c x m b y m' b' ∧ (∀ s, m = .wr s → y = x)
theorem Told.from_ {α π : Type} {val : α → π → Value} {At : World → α → π → Prop} {c : Cd α} {x : α} {P : Nat} {m : Md} {b : Bool} {F : Nat → Prop} {w w1 : World} {e : Ending} {w' : World} (h : Told val At c x P m b F w1 e w') (hb : Below w.heap.size w w1) : Told val At c x P m b F w e w' := by
 obtain ⟨y, q, m', b', F', h1, h2, h3, h4⟩ := h
 exact ⟨y, q, m', b', F', h1, h2.from_ hb, h3.mono hb.size, h4⟩
theorem Tel.from_ {α : Type} {val : α → Value} {c : Cd α} {x : α} {P : Nat} {m : Md} {b : Bool} {F : Nat → Prop} {w w1 : World} {e : Ending} {w' : World} (h : Tel val c x P m b F w1 e w') (hb : Below w.heap.size w w1) : Tel val c x P m b F w e w' := by
 obtain ⟨y, m', b', F', h1, h2, h3⟩ := h
 exact ⟨y, m', b', F', h1, h2.from_ hb, h3⟩
end Go.Proofs.YtdhinjbkfffpeaaGreat
end
section
namespace Go.Proofs.YtdhinjbkfffpeaaGreat
open Go.ChangeShapes Go.WideShapes Go.ChangeAt Go.RowKit Go.Joins Sp Fr Pk
set_option maxRecDepth 100000 in
set_option maxHeartbeats 1000000 in
theorem ptoldU_wr (P D : Nat) (x : Nat) (hx : x < 18446744073709551616) (l : List UInt8) (b : Bool) (G : Nat → Prop) (rf : Value) (hl : l.length + (10) ≤ 140737488355328) (w : World)
  (hP : w.heap[P]? = some (.cells #[.pointer (some ⟨D, 0, none⟩), .pointer none, .bool b] 126 (0, 0))) (hW : WrAt w D l G) :
  Calls Tryz.prog 110 #[.pointer (some ⟨P, 0, none⟩), .int .u64 (x : Int), .func (.func 111) #[.pointer (some ⟨D, 0, none⟩)] #[], rf] w fun e w' => e = .returned (.int .u64 (x : Int)) ∧ WrTo w w' D (l ++ numT x) G := by
 have HC := Lib.hid (wr_number_any D x hx l G hl w hW)
 have c1 := blk_cell (i := 1) hP rfl
 clear hP hW
 go_enter Tryz.func110, Tryz.ntmps110
 go_wp2_with fail
 go_at_call 111
 refine HC.out.mono ?_
 rintro e w' ⟨rfl, hT⟩
 go_wp2_with fail
 go_ret
 exact ⟨rfl, hT⟩
set_option maxRecDepth 100000 in
set_option maxHeartbeats 1000000 in
theorem ptoldU_rd (P D : Nat) (v wf : Value) (f : Nat) (he : ∀ (v : Array Value) (w : World), (callFunc f v).run Tryz.prog w = .ok (.enter f v) w) (bd cb : Array Value) (b : Bool) (Q : Value → World → Prop) (w : World)
  (hP : w.heap[P]? = some (.cells #[.pointer none, .pointer (some ⟨D, 0, none⟩), .bool b] 126 (0, 0))) (hc : Calls Tryz.prog f (bd ++ cb) w fun e w' => ∃ r, e = .returned r ∧ Q r w') :
  Calls Tryz.prog 110 #[.pointer (some ⟨P, 0, none⟩), v, wf, .func (.func f) bd cb] w fun e w' => ∃ r, e = .returned r ∧ Q r w' := by
 have HC := Lib.hid hc
 have c1 := blk_cell (i := 1) hP rfl
 clear hP hc
 go_enter Tryz.func110, Tryz.ntmps110
 go_wp2_with fail
 refine HC.out.mono ?_
 rintro e w' ⟨r, rfl, hQ⟩
 go_wp2_with fail
 go_ret
 exact ⟨r, rfl, hQ⟩
set_option maxRecDepth 100000 in
set_option maxHeartbeats 1000000 in
theorem ptoldZ_wr (P D : Nat) (x : Int) (hx : I64 x) (l : List UInt8) (b : Bool) (G : Nat → Prop) (rf : Value) (hl : l.length + (10) ≤ 140737488355328) (w : World)
  (hP : w.heap[P]? = some (.cells #[.pointer (some ⟨D, 0, none⟩), .pointer none, .bool b] 126 (0, 0))) (hW : WrAt w D l G) :
  Calls Tryz.prog 128 #[.pointer (some ⟨P, 0, none⟩), .int .i64 x, .func (.func 129) #[.pointer (some ⟨D, 0, none⟩)] #[], rf] w fun e w' => e = .returned (.int .i64 x) ∧ WrTo w w' D (l ++ zigT x) G := by
 have HC := Lib.hid (wr_signed_any D x hx.1 hx.2 l G hl w hW)
 have c1 := blk_cell (i := 1) hP rfl
 clear hP hW
 go_enter Tryz.func128, Tryz.ntmps128
 go_wp2_with fail
 go_at_call 129
 refine HC.out.mono ?_
 rintro e w' ⟨rfl, hT⟩
 go_wp2_with fail
 go_ret
 exact ⟨rfl, hT⟩
set_option maxRecDepth 100000 in
set_option maxHeartbeats 1000000 in
theorem ptoldZ_rd (P D : Nat) (v wf : Value) (f : Nat) (he : ∀ (v : Array Value) (w : World), (callFunc f v).run Tryz.prog w = .ok (.enter f v) w) (bd cb : Array Value) (b : Bool) (Q : Value → World → Prop) (w : World)
  (hP : w.heap[P]? = some (.cells #[.pointer none, .pointer (some ⟨D, 0, none⟩), .bool b] 126 (0, 0))) (hc : Calls Tryz.prog f (bd ++ cb) w fun e w' => ∃ r, e = .returned r ∧ Q r w') :
  Calls Tryz.prog 128 #[.pointer (some ⟨P, 0, none⟩), v, wf, .func (.func f) bd cb] w fun e w' => ∃ r, e = .returned r ∧ Q r w' := by
 have HC := Lib.hid hc
 have c1 := blk_cell (i := 1) hP rfl
 clear hP hc
 go_enter Tryz.func128, Tryz.ntmps128
 go_wp2_with fail
 refine HC.out.mono ?_
 rintro e w' ⟨r, rfl, hQ⟩
 go_wp2_with fail
 go_ret
 exact ⟨r, rfl, hQ⟩
set_option maxRecDepth 100000 in
set_option maxHeartbeats 1000000 in
theorem ptoldF_wr (P D : Nat) (x : Bool) (l : List UInt8) (b : Bool) (G : Nat → Prop) (rf : Value) (hl : l.length + (10) ≤ 140737488355328) (w : World)
  (hP : w.heap[P]? = some (.cells #[.pointer (some ⟨D, 0, none⟩), .pointer none, .bool b] 126 (0, 0))) (hW : WrAt w D l G) :
  Calls Tryz.prog 119 #[.pointer (some ⟨P, 0, none⟩), .bool x, .func (.func 120) #[.pointer (some ⟨D, 0, none⟩)] #[], rf] w fun e w' => e = .returned (.bool x) ∧ WrTo w w' D (l ++ flagT x) G := by
 have HC := Lib.hid (wr_flag_any D x l G hl w hW)
 have c1 := blk_cell (i := 1) hP rfl
 clear hP hW
 go_enter Tryz.func119, Tryz.ntmps119
 go_wp2_with fail
 go_at_call 120
 refine HC.out.mono ?_
 rintro e w' ⟨rfl, hT⟩
 go_wp2_with fail
 go_ret
 exact ⟨rfl, hT⟩
set_option maxRecDepth 100000 in
set_option maxHeartbeats 1000000 in
theorem ptoldF_rd (P D : Nat) (v wf : Value) (f : Nat) (he : ∀ (v : Array Value) (w : World), (callFunc f v).run Tryz.prog w = .ok (.enter f v) w) (bd cb : Array Value) (b : Bool) (Q : Value → World → Prop) (w : World)
  (hP : w.heap[P]? = some (.cells #[.pointer none, .pointer (some ⟨D, 0, none⟩), .bool b] 126 (0, 0))) (hc : Calls Tryz.prog f (bd ++ cb) w fun e w' => ∃ r, e = .returned r ∧ Q r w') :
  Calls Tryz.prog 119 #[.pointer (some ⟨P, 0, none⟩), v, wf, .func (.func f) bd cb] w fun e w' => ∃ r, e = .returned r ∧ Q r w' := by
 have HC := Lib.hid hc
 have c1 := blk_cell (i := 1) hP rfl
 clear hP hc
 go_enter Tryz.func119, Tryz.ntmps119
 go_wp2_with fail
 refine HC.out.mono ?_
 rintro e w' ⟨r, rfl, hQ⟩
 go_wp2_with fail
 go_ret
 exact ⟨r, rfl, hQ⟩
end Go.Proofs.YtdhinjbkfffpeaaGreat
end
