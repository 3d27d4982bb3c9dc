import Derived.Test.YtgmcacmdiiogmaaZNK
import Derived.Test.YtgmcacmdiiogmaaZNA
import Derived.Test.YtgmcacmdiiogmaaZASF
/- Streams in rows of the call's own: the last ones are made one; the last one is made another. -/
section
namespace Go.Proofs.Ytgmcacmdiiogmaa
open Go.ChangeShapes Go.WideShapes Go.ChangeAt Go.RowKit Go.Joins Sp

/-- Where 's[j:]' begins, of one cell an element. -/
def cutA (A : Option Addr) (c j : Nat) : Option Addr := if c = j then A else A.map (·.add (j * 1))
theorem cutA_block {A : Option Addr} {c j : Nat} {a : Addr} (h : cutA A c j = some a) : ∃ a0, A = some a0 ∧ a.block = a0.block := by
  unfold cutA at h
  split at h
  · exact ⟨a, h, rfl⟩
  · cases A with
    | none => cases h
    | some a0 =>
      obtain rfl := Option.some.inj h
      exact ⟨a0, rfl, by obtain ⟨b, o, s⟩ := a0; unfold Addr.add; split <;> simp_all⟩
theorem cutA_run {P : Program} {A : Option Addr} {n c j : Nat} {t : TypeId} (hj : j ≤ n) (ht : P.underlying t = some (.slice (P.elem t))) (hs : ∀ w' : World, (sizeOf (P.elem t)).run P w' = .ok 1 w') (w' : World) :
    (Instr.sliceAt t (.slice A n c) (some (.int .i64 j)) none none).run P w' = .ok (.slice (cutA A c j) (n - j) (c - j)) w' := by
  rw [run_sliceAt_slice w' t _ _ _ _ ht, run_slice_l w' t A n c ht .i64 j (by omega) (by omega), hs]
  simp [Result.andThen, sliced, cutA]
section
variable {w : World} {A : Option Addr} {n c j : Nat} {xs : List Value}
theorem Sl.cutA (h : Sl w A n c xs) (hx : xs.length = n) (hj : j ≤ n) : Sl w (cutA A c j) (n - j) (c - j) (xs.drop j) := by
  have hle := h.le
  have hcap := h.cap
  refine ⟨by omega, by omega, fun hn => ?_, fun hn => ?_⟩
  · unfold Proofs.Ytgmcacmdiiogmaa.cutA at hn
    split at hn
    · omega
    · have := h.nil (by simpa using hn); omega
  · have hk0 : j < xs.length := by simp at hn; omega
    obtain ⟨b, off, rfl, hlt, hc⟩ := h.on (by omega)
    refine ⟨b, off + j, ?_, hlt, fun i u hi => ?_⟩
    · unfold Proofs.Ytgmcacmdiiogmaa.cutA
      rw [if_neg (by omega)]
      by_cases h0 : j = 0 <;> simp [Addr.add, h0]
    · rw [Nat.add_assoc]
      exact hc (j + i) u (by rw [List.getElem?_drop] at hi; exact hi)
theorem Sl.full (h : Sl w A n c xs) (hj : j ≤ n) : Sl w A j j (xs.take j) := by
  have hle := h.le
  have hcap := h.cap
  refine ⟨Nat.le_refl _, by omega, fun hn => by have := h.nil hn; omega, fun hn => ?_⟩
  obtain ⟨b, off, e, hlt, hc⟩ := h.on (by simp at hn; omega)
  refine ⟨b, off, e, hlt, fun i u hi => hc i u ?_⟩
  rw [List.getElem?_take] at hi
  split at hi
  · exact hi
  · cases hi
end
/-- A stream is handed back, the others, and the rows, as they were. -/
def StepS (St : StP) (w0 W : World) (T : Nat → Nat) (c : Value) (m mr cs cr : Nat) (As Ar : Option Addr) (ps xs qs : List Value) (ls' ls : List (List Spn)) (ns' : List Nat) (e : Ending) (w' : World) : Prop :=
  ∃ a T', e = .returned (.pointer a) ∧ Hl St w0 w' T' c m mr cs cr As Ar ps (qs ++ [.pointer a]) xs ls' ls ns' ∧ (∀ b, b < W.heap.size → T b = 0 → T' b = 0) ∧ ∃ G : Nat → Prop, Off G W w' ∧ ∀ b, b < W.heap.size → T b = 0 → ¬ G b
section
variable {St : StP} {Ct : CtP} {w0 W V : World} {T : Nat → Nat} {c : Value} {m mr cs cr j kk : Nat} {As Ar : Option Addr} {ps xs : List Value} {ls : List (List Spn)} {ns : List Nat}
/-- The streams from the j-th on have become one, in a world behind. -/
theorem Hl.step (K : CuK St Ct) (h : Hl St w0 W T c m mr cs cr As Ar ps ps xs ls ls ns) (hj : j ≤ ps.length) {G : Nat → Prop} {w' : World} {p : Value} {L : List Spn} {q : Nat} {F : Nat → Prop}
    (hV : Below W.heap.size W V) (hs : St w' c p L q F) (hG : ∀ b, G b → ∃ i, tg w0 V (upd T W.heap.size 0) (j + i + 3) b) (hF : ∀ b, F b → (∃ i, tg w0 V (upd T W.heap.size 0) (j + i + 3) b) ∨ V.heap.size ≤ b) (ho : Off G V w') :
    StepS St w0 W T c m mr cs cr As Ar ps xs (ps.take j) (ls.take j ++ [L]) ls (ns.take j ++ [q]) (.returned p) w' := by
  obtain ⟨a, rfl⟩ := K.ptr hs
  have h1 := h.up K hV 0
  obtain ⟨T1, hT1⟩ : ∃ T1, upd T W.heap.size 0 = T1 := ⟨_, rfl⟩
  rw [hT1] at h1 hG hF
  have hG3 : ∀ b, G b → w0.heap.size ≤ b ∧ 3 ≤ T1 b := fun b hb => by
    obtain ⟨i, hi⟩ := hG b hb
    exact ⟨hi.1, by have := hi.2.2; omega⟩
  refine ⟨a, fld T1 V.heap.size (j + 3), rfl, ⟨h1.bel.trans (ho.toBelow h1.bel.size fun b hb => (hG3 b hb).1), h1.ss.fold K hj ho hG hs hF, h1.sb.off ho (fun b _ _ q => by have := (hG3 b q).2; omega) (fun b hb q => by rw [fld_low T1 hb (by omega)]; exact q), h1.rb.off ho (fun b _ _ q => by have := (hG3 b q).2; omega) fun b hb q => fld_low T1 hb (by omega)⟩, fun b hb q => ?_, G, ?_, fun b hb q hg => ?_⟩
  · have : T1 b = 0 := by rw [← hT1, upd_old T hb]; exact q
    rw [fld_low T1 (Nat.lt_of_lt_of_le hb hV.size) (by omega)]; exact this
  · exact (Off.of_below hV).trans' ho
  · have : T1 b = 0 := by rw [← hT1, upd_old T hb]; exact q
    have := (hG3 b hg).2
    omega
theorem Hl.drop_st (h : Hl St w0 W T c m mr cs cr As Ar ps ps xs ls ls ns) (i : Nat) (p : Value) (L : List Spn) (n : Nat) (h1 : (ps.drop j)[i]? = some p) (h2 : (ls.drop j)[i]? = some L) (h3 : (ns.drop j)[i]? = some n) : St W c p L n (tg w0 W T (j + i + 3)) := by
  rw [List.getElem?_drop] at h1 h2 h3
  exact h.ss.st _ _ _ _ h1 h2 h3
theorem Hl.arg (h : Hl St w0 W T c m mr cs cr As Ar ps ps xs ls ls ns) : ∀ a, cutA As cs j = some a → ∀ i, ¬ tg w0 W T (j + i + 3) a.block := by
  intro a ha i hi
  obtain ⟨a0, h0, h1⟩ := cutA_block ha
  have := h.sb.tag a0 h0
  have := hi.2.2
  rw [h1] at this
  omega
theorem Hl.union (K : CuK St Ct) (h : Hl St w0 W T c m mr cs cr As Ar ps ps xs ls ls ns) (hj : j + kk = m) (hm : m ≤ 1000) (hV : Below W.heap.size W V) :
    Calls Try.prog 19 #[.slice (cutA As cs j) kk (cs - j)] V (StepS St w0 W T c m mr cs cr As Ar ps xs (ps.take j) (ls.take j ++ [unionL (ls.drop j)]) ls (ns.take j ++ [(ns.drop j).sum])) := by
  have h1 := h.up K hV 0
  have hl := h1.sb.lp
  obtain ⟨A', c', e, hsl⟩ := Sl.of_own h1.sb.own
  simp only [Value.slice.injEq, true_and] at e
  obtain ⟨rfl, rfl⟩ := e
  have hc := hsl.cutA (j := j) hl (by omega)
  rw [show m - j = kk by omega] at hc
  have hdl : (ps.drop j).length = kk := by rw [List.length_drop]; omega
  have := K.union V c (ps.drop j) (ls.drop j) (ns.drop j) (fun i => tg w0 V (upd T W.heap.size 0) (j + i + 3)) (cutA As cs j) (cs - j) (by omega) (by rw [List.length_drop, List.length_drop, h1.ss.ll]) (by rw [List.length_drop, List.length_drop, h1.ss.ln]) (fun i p L n => h1.drop_st i p L n) (fun i i' b q1 q2 => by have := q1.2.2; have := q2.2.2; omega) (fun a ha i _ => h1.arg a ha i) (by rw [hdl]; exact hc)
  rw [hdl] at this
  refine this.mono ?_
  rintro e w' ⟨p, F', rfl, hst, hF, ho⟩
  exact h.step K (by omega) hV hst (fun b hb => hb.elim fun i hi => ⟨i, hi.2⟩) (fun b hb => (hF b hb).imp (fun q => q.elim fun i hi => ⟨i, hi.2⟩) id) ho
theorem Hl.meet (K : CuK St Ct) (h : Hl St w0 W T c m mr cs cr As Ar ps ps xs ls ls ns) (hj : j + kk = m) (hm : m ≤ 1000) (hV : Below W.heap.size W V) :
    Calls Try.prog 21 #[.slice (cutA As cs j) kk (cs - j)] V (StepS St w0 W T c m mr cs cr As Ar ps xs (ps.take j) (ls.take j ++ [meetL (ls.drop j)]) ls (ns.take j ++ [(ns.drop j).sum])) := by
  have h1 := h.up K hV 0
  have hl := h1.sb.lp
  obtain ⟨A', c', e, hsl⟩ := Sl.of_own h1.sb.own
  simp only [Value.slice.injEq, true_and] at e
  obtain ⟨rfl, rfl⟩ := e
  have hc := hsl.cutA (j := j) hl (by omega)
  rw [show m - j = kk by omega] at hc
  have hdl : (ps.drop j).length = kk := by rw [List.length_drop]; omega
  have := K.meet V c (ps.drop j) (ls.drop j) (ns.drop j) (fun i => tg w0 V (upd T W.heap.size 0) (j + i + 3)) (cutA As cs j) (cs - j) (by omega) (by rw [List.length_drop, List.length_drop, h1.ss.ll]) (by rw [List.length_drop, List.length_drop, h1.ss.ln]) (fun i p L n => h1.drop_st i p L n) (fun i i' b q1 q2 => by have := q1.2.2; have := q2.2.2; omega) (fun a ha i _ => h1.arg a ha i) (by rw [hdl]; exact hc)
  rw [hdl] at this
  refine this.mono ?_
  rintro e w' ⟨p, F', rfl, hst, hF, ho⟩
  exact h.step K (by omega) hV hst (fun b hb => hb.elim fun i hi => ⟨i, hi.2⟩) (fun b hb => (hF b hb).imp (fun q => q.elim fun i hi => ⟨i, hi.2⟩) id) ho
theorem Hl.gaps (K : CuK St Ct) (h : Hl St w0 W T c m mr cs cr As Ar ps ps xs ls ls ns) {p : Value} {L : List Spn} {n : Nat} (hp : ps[j]? = some p) (hL : ls[j]? = some L) (hn : ns[j]? = some n) (hV : Below W.heap.size W V) {x1 x2 : Int} (b1 : Int64P x1) (b2 : Int64P x2) :
    Calls Try.prog 20 #[p, .agg #[.int .i64 x1, .int .i64 x2]] V (StepS St w0 W T c m mr cs cr As Ar ps xs (ps.take j) (ls.take j ++ [gapsL L (x1, x2)]) ls (ns.take j ++ [n])) := by
  have h1 := h.up K hV 0
  refine (K.gaps V c p L n _ x1 x2 b1 b2 (h1.ss.st j p L n hp hL hn)).mono ?_
  rintro e w' ⟨p', F', rfl, hst, hF, ho⟩
  exact h.step K (Nat.le_of_lt (List.getElem?_eq_some_iff.1 hp).1) hV hst (fun b hb => ⟨0, hb⟩) (fun b hb => (hF b hb).imp (fun q => ⟨0, q⟩) id) ho
theorem Hl.grow (K : CuK St Ct) (h : Hl St w0 W T c m mr cs cr As Ar ps ps xs ls ls ns) {p : Value} {L : List Spn} {n : Nat} (hp : ps[j]? = some p) (hL : ls[j]? = some L) (hn : ns[j]? = some n) (hV : Below W.heap.size W V) {x1 x2 : Int} (b1 : Int64P x1) (b2 : Int64P x2) :
    Calls Try.prog 25 #[p, .int .i64 x1, .int .i64 x2] V (StepS St w0 W T c m mr cs cr As Ar ps xs (ps.take j) (ls.take j ++ [growL L x1 x2]) ls (ns.take j ++ [n])) := by
  have h1 := h.up K hV 0
  refine (K.grow V c p L n _ x1 x2 b1 b2 (h1.ss.st j p L n hp hL hn)).mono ?_
  rintro e w' ⟨p', F', rfl, hst, hF, ho⟩
  exact h.step K (Nat.le_of_lt (List.getElem?_eq_some_iff.1 hp).1) hV hst (fun b hb => ⟨0, hb⟩) (fun b hb => (hF b hb).imp (fun q => ⟨0, q⟩) id) ho
theorem Hl.starts (K : CuK St Ct) (h : Hl St w0 W T c m mr cs cr As Ar ps ps xs ls ls ns) {p : Value} {L : List Spn} {n : Nat} (hp : ps[j]? = some p) (hL : ls[j]? = some L) (hn : ns[j]? = some n) (hV : Below W.heap.size W V) {x1 : Int} (b1 : Int64P x1) :
    Calls Try.prog 27 #[p, .int .i64 x1] V (StepS St w0 W T c m mr cs cr As Ar ps xs (ps.take j) (ls.take j ++ [startsL L x1]) ls (ns.take j ++ [n])) := by
  have h1 := h.up K hV 0
  refine (K.starts V c p L n _ x1 b1 (h1.ss.st j p L n hp hL hn)).mono ?_
  rintro e w' ⟨p', F', rfl, hst, hF, ho⟩
  exact h.step K (Nat.le_of_lt (List.getElem?_eq_some_iff.1 hp).1) hV hst (fun b hb => ⟨0, hb⟩) (fun b hb => (hF b hb).imp (fun q => ⟨0, q⟩) id) ho
/-- The document's rows from the j-th on, as a slice of rows. -/
theorem RB.ss (h : RB w0 W T mr Ar cr xs ls) (hj : j ≤ mr) : SsAt W (cutA Ar cr j) (ls.drop j) := by
  have hxl : xs.length = mr := by have := h.own.1; omega
  have hll := h.ll
  intro hn
  obtain ⟨A', c', e, hsl⟩ := Sl.of_own h.own
  simp only [Value.slice.injEq, true_and] at e
  obtain ⟨rfl, rfl⟩ := e
  obtain ⟨b, off, e, hlt, hc⟩ := (hsl.cutA (j := j) hxl hj).on (by rw [List.length_drop] at hn ⊢; omega)
  refine ⟨b, off, e, hlt, fun i l hi => ?_⟩
  rw [List.getElem?_drop] at hi
  obtain ⟨A, d, h1, h2, _⟩ := h.at_ (j + i) l hi
  exact ⟨A, d, hc i _ (by rw [List.getElem?_drop]; exact h1), h2⟩
end
end Go.Proofs.Ytgmcacmdiiogmaa
end
