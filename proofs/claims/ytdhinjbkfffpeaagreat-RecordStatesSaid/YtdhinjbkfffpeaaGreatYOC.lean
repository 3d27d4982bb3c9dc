import Derived.Test.YtdhinjbkfffpeaaGreatYOA
import Derived.ChangeArms
import Derived.Deep.SlicePairs
import Derived.Test.YtdhinjbkfffpeaaGreatYOG
/- What a value of any type is that came in, by the parts of its type. -/
section
namespace Go.Proofs.YtdhinjbkfffpeaaGreat
open Go.ChangeShapes Go.WideShapes Go.ChangeAt Go.RowKit Go.Joins Go.Deep
structure Opn (P : Program) (T : TypeId) (n : Nat) {α : Type} (f : α → List Value) (G : World → α → Prop) : Prop where
  len : ∀ a, (f a).length = n
  cells : P.cellsOf T = n
  opn : ∀ {H : Type} {enc : TypeId × Value → H} {w : World} {base : Nat} {spare : Nat → Bool} {held : Bool} {fuel : Nat} {cs : List Value} {x : DataW H × List MemPlace}, DataW.trod enc P w base spare held fuel T cs = some x → ∃ a, cs = f a ∧ G w a
section
variable {P : Program} {T TS : TypeId} {n : Nat} {α β : Type} {f : α → List Value} {G : World → α → Prop}
theorem Opn.as {g : β → List Value} {G' : World → β → Prop} (h : Opn P T n f G) (hlen : ∀ b, (g b).length = n) (to : ∀ w a, G w a → ∃ b, f a = g b ∧ G' w b) : Opn P T n g G' :=
  ⟨hlen, h.cells, fun hx => by
    obtain ⟨a, e, ha⟩ := h.opn hx
    obtain ⟨b, eb, hb⟩ := to _ a ha
    exact ⟨b, e.trans eb, hb⟩⟩
theorem opn_i64 (ht : P.underlying T = some (.int .i64)) (hc : P.cellsOf T = 1) : Opn P T 1 (fun x : Int => [.int .i64 x]) (fun _ x => -9223372036854775808 ≤ x ∧ x ≤ 9223372036854775807) :=
  ⟨fun _ => rfl, hc, fun hx => by
    obtain ⟨n, e, _, hw⟩ := DataW.trod_int ht hx
    exact ⟨n, e, bounds_i64 hw⟩⟩
theorem opn_u32 (ht : P.underlying T = some (.int .u32)) (hc : P.cellsOf T = 1) : Opn P T 1 (fun x : Nat => [.int .u32 (x : Int)]) (fun _ x => x < 4294967296) :=
  ⟨fun _ => rfl, hc, fun hx => by
    obtain ⟨n, e, _, hw⟩ := DataW.trod_int ht hx
    have := bounds_u32 hw
    exact ⟨n.toNat, by rw [e, Int.toNat_of_nonneg (by omega)], by omega⟩⟩
theorem opn_u64 (ht : P.underlying T = some (.int .u64)) (hc : P.cellsOf T = 1) : Opn P T 1 (fun x : Nat => [.int .u64 (x : Int)]) (fun _ x => x < 18446744073709551616) :=
  ⟨fun _ => rfl, hc, fun hx => by
    obtain ⟨n, e, _, hw⟩ := DataW.trod_int ht hx
    have := bounds_u64 hw
    exact ⟨n.toNat, by rw [e, Int.toNat_of_nonneg (by omega)], by omega⟩⟩
theorem opn_bool (ht : P.underlying T = some .bool) (hc : P.cellsOf T = 1) : Opn P T 1 (fun x : Bool => [.bool x]) (fun _ _ => True) :=
  ⟨fun _ => rfl, hc, fun hx => by
    obtain ⟨b, e, _⟩ := DataW.trod_bool ht hx
    exact ⟨b, e, trivial⟩⟩
def f2 (f : α → List Value) (g : β → List Value) (x : α × β) : List Value := f x.1 ++ g x.2
def G2 (G : World → α → Prop) (G' : World → β → Prop) (w : World) (x : α × β) : Prop := G w x.1 ∧ G' w x.2
def fS (y : List α × Option Addr × Nat) : List Value := [.slice y.2.1 y.1.length y.2.2]
def GS (f : α → List Value) (G : World → α → Prop) (w : World) (y : List α × Option Addr × Nat) : Prop := Sl w y.2.1 y.1.length y.2.2 (kv f y.1) ∧ ∀ x ∈ y.1, G w x
theorem opn_slice (h : Opn P T n f G) (hn : 0 < n) (ht : P.underlying TS = some (.slice T)) (hc : P.cellsOf TS = 1) : Opn P TS 1 (fS (α := α)) (GS f G) := by
  refine ⟨fun _ => rfl, hc, fun hx => ?_⟩
  rename_i H enc w base spare held fuel cs x
  rcases open_slice ht hx with ⟨hcs, _⟩ | ⟨a, len, cap, m, k, D, Pl, hcs, _, hl, hm, hmm, _, hx⟩
  · exact ⟨([], none, 0), hcs, Sl.none_ _, fun x hx => (by cases hx)⟩
  · have hlm : len ≤ m := by rw [hmm]; split <;> omega
    have each : ∀ i : Fin len, ∃ o : α, G w o ∧ ∀ j v, (f o)[j]? = some v → w.cell? (a.add (i.1 * n + j)) = some v := by
      intro i
      obtain ⟨cs', hc', ht'⟩ := hx i.1 (by have := i.2; omega)
      rw [h.cells] at hc'
      obtain ⟨_, hcl, hat⟩ := World.cells?_some hc'
      obtain ⟨o, rfl, ho⟩ := h.opn ht'
      refine ⟨o, ho, fun j v hj => ?_⟩
      have hj2 := (List.getElem?_eq_some_iff.1 hj).1
      rw [h.len] at hj2
      have := hat j hj2
      rw [Go.Deep.add_add] at this
      rw [this]; exact hj
    have hch : ∃ F : Fin len → α, ∀ i : Fin len, G w (F i) ∧ ∀ j v, (f (F i))[j]? = some v → w.cell? (a.add (i.1 * n + j)) = some v := ⟨fun i => Classical.choose (each i), fun i => Classical.choose_spec (each i)⟩
    obtain ⟨F, hF⟩ := hch
    have hlen : (List.ofFn F).length = len := List.length_ofFn
    refine ⟨(List.ofFn F, some a, cap), by rw [hcs]; simp [fS, hlen], ⟨by simp only [hlen]; exact hl, hm, (fun h => by cases h), fun hq => ?_⟩, fun x hx => ?_⟩
    · rw [kv_len h.len, hlen] at hq
      have h0 : 0 < len := Nat.pos_of_mul_pos_right hq
      obtain ⟨b, off, spot⟩ := a
      have hfl := h.len (F ⟨0, h0⟩)
      obtain ⟨v0, hv0⟩ : ∃ v, (f (F ⟨0, h0⟩))[0]? = some v := ⟨_, List.getElem?_eq_getElem (by omega)⟩
      have q0 := (hF ⟨0, h0⟩).2 0 v0 hv0
      have hspot : spot = none := by simpa [Addr.add] using World.cell?_spot q0
      subst hspot
      refine ⟨b, off, rfl, by have := World.block_lt_of_cell? _ _ q0; simpa [Addr.add] using this, fun i u hi => ?_⟩
      have hil := (List.getElem?_eq_some_iff.1 hi).1
      rw [kv_len h.len, hlen] at hil
      have hq : i / n < len := (Nat.div_lt_iff_lt_mul hn).2 hil
      have hr : i % n < n := Nat.mod_lt _ hn
      have hdm : i / n * n + i % n = i := by rw [Nat.mul_comm]; exact Nat.div_add_mod i n
      have hg : (List.ofFn F)[i / n]? = some (F ⟨i / n, hq⟩) := by rw [List.getElem?_ofFn]; simp [hq]
      obtain ⟨v, hv⟩ : ∃ v, (f (F ⟨i / n, hq⟩))[i % n]? = some v := ⟨_, List.getElem?_eq_getElem (by rw [h.len]; exact hr)⟩
      have e1 := kv_at h.len hg hv
      rw [hdm, hi] at e1
      have e2 := (hF ⟨i / n, hq⟩).2 _ v hv
      rw [hdm, Addr.add_lit] at e2
      rw [e2, e1]
    · obtain ⟨i, rfl⟩ := List.mem_ofFn.1 hx
      exact (hF i).1
inductive Flds (P : Program) : (o : Nat) → List Field → Nat → {α : Type} → (α → List Value) → (World → α → Prop) → Prop
  | one {o n : Nat} {fd : Field} {α : Type} {f : α → List Value} {G : World → α → Prop} (ho : fd.offset = o) (h : Opn P fd.type n f G) : Flds P o [fd] n f G
  | more {o n m : Nat} {fd : Field} {fs : List Field} {α β : Type} {f : α → List Value} {G : World → α → Prop} {g : β → List Value} {G' : World → β → Prop} (ho : fd.offset = o) (h : Opn P fd.type n f G) (r : Flds P (o + n) fs m g G') : Flds P o (fd :: fs) (n + m) (f2 f g) (G2 G G')
theorem Flds.len {o m : Nat} {fs : List Field} {α : Type} {f : α → List Value} {G : World → α → Prop} (h : Flds P o fs m f G) : ∀ a, (f a).length = m := by
  induction h with
  | one _ h => exact h.len
  | more _ h _ ih => intro a; simp [f2, h.len, ih]
theorem Flds.opn {H : Type} {enc : TypeId × Value → H} {w : World} {base : Nat} {spare : Nat → Bool} {held : Bool} {k o m : Nat} {fs : List Field} {α : Type} {f : α → List Value} {G : World → α → Prop} (h : Flds P o fs m f G) :
    ∀ (cs : List Value) (xs : List (DataW H × List MemPlace)), cs.length = o + m → fs.length ≤ xs.length → (∀ (i : Nat) (fd : Field), fs[i]? = some fd → DataW.trod enc P w base spare held k fd.type ((cs.drop fd.offset).take (P.cellsOf fd.type)) = xs[i]?) → ∃ a, cs.drop o = f a ∧ G w a := by
  induction h with
  | @one o n fd α f G ho h =>
    intro cs xs hl hx hg
    have g0 := hg 0 fd rfl
    obtain ⟨x, hx0⟩ : ∃ x, xs[0]? = some x := ⟨_, List.getElem?_eq_getElem (by simp at hx; omega)⟩
    rw [hx0, ho, h.cells] at g0
    obtain ⟨a, e, ha⟩ := h.opn g0
    refine ⟨a, ?_, ha⟩
    rw [← e, List.take_of_length_le]
    rw [List.length_drop]; omega
  | @more o n m fd fs α β f G g G' ho h r ih =>
    intro cs xs hl hx hg
    have g0 := hg 0 fd rfl
    obtain ⟨x, hx0⟩ : ∃ x, xs[0]? = some x := ⟨_, List.getElem?_eq_getElem (by simp at hx; omega)⟩
    rw [hx0, ho, h.cells] at g0
    obtain ⟨a, e, ha⟩ := h.opn g0
    obtain ⟨b, e2, hb⟩ := ih cs (xs.drop 1) (by omega) (by simp at hx ⊢; omega) (fun i fd' hi => by
      rw [hg (i + 1) fd' (by simpa using hi), List.getElem?_drop]
      congr 1; omega)
    refine ⟨(a, b), ?_, ha, hb⟩
    show cs.drop o = f a ++ g b
    rw [← e, ← e2, ← List.drop_drop, List.take_append_drop]
theorem opn_struct {fs : Array Field} {m : Nat} (ht : P.underlying T = some (.struct fs)) (hc : P.cellsOf T = m) (hf : Flds P 0 fs.toList m f G) : Opn P T m f G := by
  refine ⟨hf.len, hc, fun hx => ?_⟩
  obtain ⟨xs, k, _, _, hl, hlen, hg⟩ := DataW.trod_struct ht hx
  rw [hc] at hl
  obtain ⟨a, e, ha⟩ := hf.opn _ xs (by omega) (by rw [hlen]; simp) (fun i fd hi => hg i fd (by simpa using hi))
  exact ⟨a, by simpa using e, ha⟩
theorem Opn.top {H : Type} {enc : TypeId × Value → H} {w : World} {base b0 : Nat} {spare : Nat → Bool} {held : Bool} {r : Reach} {v : Value} {d : DataW H} {p : List MemPlace} {fs : Array Field} (h : Opn P T n f G) (ht : P.underlying T = some (.struct fs))
    (hv : Value.okWide P w r b0 T v) (hx : DataW.Trod enc P w base spare held T v d p) : ∃ a, v = .agg (f a).toArray ∧ G w a := by
  obtain ⟨cs, rfl, _⟩ := okWide_struct ht hv
  obtain ⟨fuel, hf⟩ := hx
  obtain ⟨a, e, ha⟩ := h.opn hf
  have hcs : (Value.cells (.agg cs)).toList = cs.toList := by simp [Value.cells]
  rw [hcs] at e
  exact ⟨a, by rw [← e], ha⟩
end
end Go.Proofs.YtdhinjbkfffpeaaGreat
end
section
namespace Go.Proofs.YtdhinjbkfffpeaaGreat
open Go.ChangeShapes Go.WideShapes Go.ChangeAt Go.RowKit Go.Joins Sp Qr
def fi (x : Int) : List Value := [.int .i64 x]
def fu (x : Nat) : List Value := [.int .u32 (x : Int)]
def fn (x : Nat) : List Value := [.int .u64 (x : Int)]
def fb (x : Bool) : List Value := [.bool x]
def gi (_ : World) (x : Int) : Prop := I64 x
def gu (_ : World) (x : Nat) : Prop := U32 x
def gn (_ : World) (x : Nat) : Prop := x < 18446744073709551616
def gb (_ : World) (_ : Bool) : Prop := True
theorem kv_iv : ∀ l, kv fi l = iv l
  | [] => rfl
  | x :: r => by rw [kv, kv_iv r]; rfl
theorem kv_sv : ∀ l, kv (f2 fi fi) l = sv l
  | [] => rfl
  | x :: r => by rw [kv, kv_sv r]; rfl
theorem kv_tv : ∀ l, kv (f2 fi (f2 fi fi)) l = tv l
  | [] => rfl
  | x :: r => by rw [kv, kv_tv r]; rfl
theorem o_int : Opn Tryz.prog 3 1 fi gi := opn_i64 Tryz.underlying3 (by kernel_rfl)
theorem o_i64 : Opn Tryz.prog 2 1 fi gi := opn_i64 Tryz.underlying2 (by kernel_rfl)
theorem o_u32 : Opn Tryz.prog 25 1 fu gu := opn_u32 Tryz.underlying25 (by kernel_rfl)
theorem o_u64 : Opn Tryz.prog 23 1 fn gn := opn_u64 Tryz.underlying23 (by kernel_rfl)
theorem o_bool : Opn Tryz.prog 4 1 fb gb := opn_bool Tryz.underlying4 (by kernel_rfl)
theorem o_ints : Opn Tryz.prog 53 1 (fS) (GS fi gi) := opn_slice o_int (by decide) Tryz.underlying53 (by kernel_rfl)
theorem o_longs : Opn Tryz.prog 34 1 (fS) (GS fi gi) := opn_slice o_i64 (by decide) Tryz.underlying34 (by kernel_rfl)
theorem o_uints : Opn Tryz.prog 28 1 (fS) (GS fu gu) := opn_slice o_u32 (by decide) Tryz.underlying28 (by kernel_rfl)
theorem o_shift : Opn Tryz.prog 151 (1 + (1 + 1)) (f2 fi (f2 fi fi)) (G2 gi (G2 gi gi)) := opn_struct Tryz.underlying151 (by kernel_rfl) (.more rfl o_int (.more rfl o_int (.one rfl o_int)))
theorem o_shifts : Opn Tryz.prog 31 1 (fS) (GS (f2 fi (f2 fi fi)) (G2 gi (G2 gi gi))) := opn_slice o_shift (by decide) Tryz.underlying31 (by kernel_rfl)
theorem o_turn : Opn Tryz.prog 148 (1 + 1) (f2 fi fi) (G2 gi gi) := opn_struct Tryz.underlying148 (by kernel_rfl) (.more rfl o_i64 (.one rfl o_int))
theorem o_turns : Opn Tryz.prog 50 1 (fS) (GS (f2 fi fi) (G2 gi gi)) := opn_slice o_turn (by decide) Tryz.underlying50 (by kernel_rfl)
theorem o_zone : Opn Tryz.prog 52 (1 + 1) (f2 fi (fS)) (G2 gi (GS (f2 fi fi) (G2 gi gi))) := opn_struct Tryz.underlying52 (by kernel_rfl) (.more rfl o_int (.one rfl o_turns))
theorem o_hours : Opn Tryz.prog 55 (1 + 1) (f2 (fS) (fS)) (G2 (GS (f2 fi (f2 fi fi)) (G2 gi (G2 gi gi))) (GS fi gi)) := opn_struct Tryz.underlying55 (by kernel_rfl) (.more rfl o_shifts (.one rfl o_ints))
theorem o_settings0 : Opn Tryz.prog 57 ((1 + 1) + ((1 + 1) + (1 + 1))) (f2 (f2 fi (fS)) (f2 (f2 (fS) (fS)) (f2 fi fi))) (G2 (G2 gi (GS (f2 fi fi) (G2 gi gi))) (G2 (G2 (GS (f2 fi (f2 fi fi)) (G2 gi (G2 gi gi))) (GS fi gi)) (G2 gi gi))) := opn_struct Tryz.underlying57 (by kernel_rfl) (.more rfl o_zone (.more rfl o_hours (.more rfl o_int (.one rfl o_int))))
def gS (y : Stg × StgP) : List Value := sCells y.1 y.2
def GSt (w : World) (y : Stg × StgP) : Prop := StgAt w y.1 y.2 ∧ y.1.Fits
theorem o_settings : Opn Tryz.prog 57 6 gS GSt := o_settings0.as (fun _ => rfl) fun w ⟨⟨b, t⟩, ⟨s, o⟩, e, f⟩ h => ⟨(⟨b, t.1, s.1, o.1, e, f⟩, ⟨t.2.1, s.2.1, o.2.1, t.2.2, s.2.2, o.2.2⟩), rfl, by
    obtain ⟨⟨hb, ht, ht2⟩, ⟨⟨hs, hs2⟩, ho, ho2⟩, he, hf⟩ := h
    rw [kv_sv] at ht; rw [kv_tv] at hs; rw [kv_iv] at ho
    exact ⟨⟨ht, hs, ho⟩, ⟨hb, ht2, hs2, ho2, he, hf⟩⟩⟩
theorem o_wanted : Opn Tryz.prog 160 (1 + 1) (f2 fu fi) (G2 gu gi) := opn_struct Tryz.underlying160 (by kernel_rfl) (.more rfl o_u32 (.one rfl o_int))
theorem o_wanteds : Opn Tryz.prog 29 1 (fS) (GS (f2 fu fi) (G2 gu gi)) := opn_slice o_wanted (by decide) Tryz.underlying29 (by kernel_rfl)
theorem o_pair : Opn Tryz.prog 163 (1 + 1) (f2 fu fu) (G2 gu gu) := opn_struct Tryz.underlying163 (by kernel_rfl) (.more rfl o_u32 (.one rfl o_u32))
theorem o_pairs : Opn Tryz.prog 30 1 (fS) (GS (f2 fu fu) (G2 gu gu)) := opn_slice o_pair (by decide) Tryz.underlying30 (by kernel_rfl)
theorem o_span : Opn Tryz.prog 27 (1 + 1) (f2 fi fi) (G2 gi gi) := opn_struct Tryz.underlying27 (by kernel_rfl) (.more rfl o_i64 (.one rfl o_i64))
theorem o_query0 : Opn Tryz.prog 33 ((1 + 1) + (1 + (1 + (1 + (1 + (1 + (1 + 1))))))) (f2 (f2 fi fi) (f2 fi (f2 fi (f2 (fS) (f2 (fS) (f2 fi (f2 (fS) (fS)))))))) (G2 (G2 gi gi) (G2 gi (G2 gi (G2 (GS fu gu) (G2 (GS (f2 fu fi) (G2 gu gi)) (G2 gi (G2 (GS (f2 fu fu) (G2 gu gu)) (GS (f2 fi (f2 fi fi)) (G2 gi (G2 gi gi)))))))))) := opn_struct Tryz.underlying33 (by kernel_rfl) (.more rfl o_span (.more rfl o_int (.more rfl o_int (.more rfl o_uints (.more rfl o_wanteds (.more rfl o_int (.more rfl o_pairs (.one rfl o_shifts))))))))
def gQ (y : Qy × QyP) : List Value := qCells y.1 y.2
def GQ (w : World) (y : Qy × QyP) : Prop := QyAt w y.1 y.2 ∧ y.1.Fits
theorem o_query : Opn Tryz.prog 33 9 gQ GQ := o_query0.as (fun _ => rfl) fun w ⟨s, l, g, m, y, e, a, p⟩ h => ⟨(⟨s, l, g, m.1, y.1, e, a.1, p.1⟩, ⟨m.2.1, y.2.1, a.2.1, p.2.1, m.2.2, y.2.2, a.2.2, p.2.2⟩), rfl, by
    obtain ⟨hs, hl, hg, ⟨hm, hm2⟩, ⟨hy, hy2⟩, he, ⟨ha, ha2⟩, hp, hp2⟩ := h
    rw [kv_tv] at hp
    exact ⟨⟨hm, hy, ha, hp⟩, ⟨hs, hl, hg, hm2, hy2, he, ha2, hp2⟩⟩⟩
theorem o_vote : Opn Tryz.prog 143 (1 + 1) (f2 fu fi) (G2 gu gi) := opn_struct Tryz.underlying143 (by kernel_rfl) (.more rfl o_u32 (.one rfl o_int))
theorem o_votes : Opn Tryz.prog 35 1 (fS) (GS (f2 fu fi) (G2 gu gi)) := opn_slice o_vote (by decide) Tryz.underlying35 (by kernel_rfl)
theorem o_poll0 : Opn Tryz.prog 37 (1 + (1 + (9 + (1 + (1 + (1 + (1 + 1))))))) (f2 fu (f2 fu (f2 gQ (f2 (fS) (f2 (fS) (f2 fi (f2 fi fi))))))) (G2 gu (G2 gu (G2 GQ (G2 (GS fi gi) (G2 (GS (f2 fu fi) (G2 gu gi)) (G2 gi (G2 gi gi))))))) := opn_struct Tryz.underlying37 (by kernel_rfl) (.more rfl o_u32 (.more rfl o_u32 (.more rfl o_query (.more rfl o_longs (.more rfl o_votes (.more rfl o_i64 (.more rfl o_int (.one rfl o_int))))))))
def gP (y : Pl × PlP) : List Value := pCells y.1 y.2
def GP (w : World) (y : Pl × PlP) : Prop := PlAt w y.1 y.2 ∧ y.1.Fits
theorem o_poll : Opn Tryz.prog 37 16 gP GP := o_poll0.as (fun _ => rfl) fun w ⟨i, o, q, s, v, u, t, n⟩ h => ⟨(⟨i, o, q.1, s.1, v.1, u, t, n⟩, ⟨q.2, s.2.1, v.2.1, s.2.2, v.2.2⟩), rfl, by
    obtain ⟨hi, ho, ⟨hq, hq2⟩, ⟨hs, hs2⟩, ⟨hv, hv2⟩, hu, ht, hn⟩ := h
    rw [kv_iv] at hs
    exact ⟨⟨hq, hs, hv⟩, ⟨hi, ho, hq2, hs2, hv2, hu, ht, hn⟩⟩⟩
theorem o_dayn : Opn Tryz.prog 175 (1 + 1) (f2 fi fi) (G2 gi gi) := opn_struct Tryz.underlying175 (by kernel_rfl) (.more rfl o_int (.one rfl o_int))
theorem o_dayns : Opn Tryz.prog 58 1 (fS) (GS (f2 fi fi) (G2 gi gi)) := opn_slice o_dayn (by decide) Tryz.underlying58 (by kernel_rfl)
theorem o_rule : Opn Tryz.prog 60 (1 + (1 + (1 + (1 + (1 + (1 + (1 + (1 + 1)))))))) (f2 fi (f2 fi (f2 fi (f2 fi (f2 (fS) (f2 (fS) (f2 (fS) (f2 (fS) fi)))))))) (G2 gi (G2 gi (G2 gi (G2 gi (G2 (GS fi gi) (G2 (GS fi gi) (G2 (GS (f2 fi fi) (G2 gi gi)) (G2 (GS fi gi) gi)))))))) := opn_struct Tryz.underlying60 (by kernel_rfl) (.more rfl o_int (.more rfl o_int (.more rfl o_int (.more rfl o_i64 (.more rfl o_ints (.more rfl o_ints (.more rfl o_dayns (.more rfl o_ints (.one rfl o_int)))))))))
theorem o_change : Opn Tryz.prog 156 (1 + (1 + 1)) (f2 fi (f2 fi fi)) (G2 gi (G2 gi gi)) := opn_struct Tryz.underlying156 (by kernel_rfl) (.more rfl o_i64 (.more rfl o_i64 (.one rfl o_int)))
theorem o_changes : Opn Tryz.prog 61 1 (fS) (GS (f2 fi (f2 fi fi)) (G2 gi (G2 gi gi))) := opn_slice o_change (by decide) Tryz.underlying61 (by kernel_rfl)
theorem o_event0 : Opn Tryz.prog 63 (1 + (1 + (1 + (1 + ((1 + (1 + (1 + (1 + (1 + (1 + (1 + (1 + 1)))))))) + (1 + (1 + 1))))))) (f2 fi (f2 fi (f2 fb (f2 fb (f2 (f2 fi (f2 fi (f2 fi (f2 fi (f2 (fS) (f2 (fS) (f2 (fS) (f2 (fS) fi)))))))) (f2 (fS) (f2 (fS) (fS)))))))) (G2 gi (G2 gi (G2 gb (G2 gb (G2 (G2 gi (G2 gi (G2 gi (G2 gi (G2 (GS fi gi) (G2 (GS fi gi) (G2 (GS (f2 fi fi) (G2 gi gi)) (G2 (GS fi gi) gi)))))))) (G2 (GS fi gi) (G2 (GS fi gi) (GS (f2 fi (f2 fi fi)) (G2 gi (G2 gi gi)))))))))) := opn_struct Tryz.underlying63 (by kernel_rfl) (.more rfl o_i64 (.more rfl o_int (.more rfl o_bool (.more rfl o_bool (.more rfl o_rule (.more rfl o_longs (.more rfl o_longs (.one rfl o_changes))))))))
def gE (y : Evt × EvP) : List Value := eCells y.1 y.2
def GE (w : World) (y : Evt × EvP) : Prop := EvAt w y.1 y.2 ∧ y.1.Fits
theorem o_event : Opn Tryz.prog 63 16 gE GE := o_event0.as (fun _ => rfl) fun w ⟨s, l, d, a, ⟨r1, r2, r3, r4, r5, r6, r7, r8, r9⟩, x, p, c⟩ h => ⟨(⟨s, l, d, a, ⟨r1, r2, r3, r4, r5.1, r6.1, r7.1, r8.1, r9⟩, x.1, p.1, c.1⟩, ⟨r5.2.1, r6.2.1, r7.2.1, r8.2.1, x.2.1, p.2.1, c.2.1, r5.2.2, r6.2.2, r7.2.2, r8.2.2, x.2.2, p.2.2, c.2.2⟩), rfl, by
    obtain ⟨h1, h2, _, _, ⟨k1, k2, k3, k4, ⟨k5, m5⟩, ⟨k6, m6⟩, ⟨k7, m7⟩, ⟨k8, m8⟩, k9⟩, ⟨h5, n5⟩, ⟨h6, n6⟩, h7, n7⟩ := h
    rw [kv_iv] at k5 k6 k8 h5 h6; rw [kv_sv] at k7; rw [kv_tv, ← cv_tv'] at h7
    exact ⟨⟨⟨k5, k6, k7, k8⟩, h5, h6, h7⟩, ⟨h1, h2, k1, k2, k3, k4, m5, m6, m7, m8, k9, n5, n6, n7⟩⟩⟩
theorem o_entry0 : Opn Tryz.prog 107 (1 + 16) (f2 fu gE) (G2 gu GE) := opn_struct Tryz.underlying107 (by kernel_rfl) (.more rfl o_u32 (.one rfl o_event))
def gN (y : (Nat × Evt) × EvP) : List Value := enC y
def GN (w : World) (y : (Nat × Evt) × EvP) : Prop := EvAt w y.1.2 y.2 ∧ U32 y.1.1 ∧ y.1.2.Fits
theorem o_entry : Opn Tryz.prog 107 17 gN GN := o_entry0.as (fun _ => rfl) fun w ⟨i, e⟩ h => ⟨((i, e.1), e.2), rfl, ⟨h.2.1, h.1, h.2.2⟩⟩
theorem o_entries : Opn Tryz.prog 103 1 (fS) (GS gN GN) := opn_slice o_entry (by decide) Tryz.underlying103 (by kernel_rfl)
theorem rows_of {α π : Type} {f : α × π → List Value} {at_ : World → α → π → Prop} {w : World} {A : Option Addr} {c : Nat} {L : List (α × π)} (hs : Sl w A L.length c (kv f L)) (h : ∀ x ∈ L, at_ w x.1 x.2) : RowsAt f at_ w A c (L.map Prod.fst) (L.map Prod.snd) := by
  have hz : (L.map Prod.fst).zip (L.map Prod.snd) = L := by
    clear hs h
    induction L with
    | nil => rfl
    | cons x r ih => simp [ih]
  refine ⟨by rw [hz, List.length_map]; exact hs, by simp, fun i x p hx hp => ?_⟩
  have hxp : L[i]? = some (x, p) := by
    have e : ((L.map Prod.fst).zip (L.map Prod.snd))[i]? = some (x, p) := by rw [List.getElem?_zip_eq_some]; exact ⟨hx, hp⟩
    rwa [hz] at e
  exact h _ (List.mem_of_getElem? hxp)
theorem o_user0 : Opn Tryz.prog 105 (1 + (6 + (1 + 1))) (f2 fu (f2 gS (f2 fn (fS)))) (G2 gu (G2 GSt (G2 gn (GS gN GN)))) := opn_struct Tryz.underlying105 (by kernel_rfl) (.more rfl o_u32 (.more rfl o_settings (.more rfl o_u64 (.one rfl o_entries))))
def GU (w : World) (y : Us × UsP) : Prop := UsAt w y.1 y.2 ∧ y.1.Fits
theorem o_user : Opn Tryz.prog 105 9 usC GU := o_user0.as (fun _ => rfl) fun w ⟨i, s, v, e⟩ h => ⟨(⟨i, s.1, v, e.1.map Prod.fst⟩, ⟨s.2, e.2.1, e.2.2, e.1.map Prod.snd⟩), by simp [f2, fS, usC, uCells, gS, sCells, fu, fn], by
    obtain ⟨hi, ⟨hs, hs2⟩, hv, he, he2⟩ := h
    refine ⟨⟨hs, rows_of he fun x hx => (he2 x hx).1⟩, ⟨hi, hs2, hv, fun x hx => ?_⟩⟩
    obtain ⟨y, hy, rfl⟩ := List.mem_map.1 hx
    exact (he2 y hy).2⟩
theorem o_users : Opn Tryz.prog 69 1 (fS) (GS usC GU) := opn_slice o_user (by decide) Tryz.underlying69 (by kernel_rfl)
theorem o_pollC : Opn Tryz.prog 37 16 plC GP := o_poll
theorem o_polls : Opn Tryz.prog 70 1 (fS) (GS plC GP) := opn_slice o_pollC (by decide) Tryz.underlying70 (by kernel_rfl)
theorem o_done : Opn Tryz.prog 113 (1 + (1 + 1)) (f2 fu (f2 fn fn)) (G2 gu (G2 gn gn)) := opn_struct Tryz.underlying113 (by kernel_rfl) (.more rfl o_u32 (.more rfl o_u64 (.one rfl o_u64)))
theorem o_dones : Opn Tryz.prog 71 1 (fS) (GS (f2 fu (f2 fn fn)) (G2 gu (G2 gn gn))) := opn_slice o_done (by decide) Tryz.underlying71 (by kernel_rfl)
theorem o_state0 : Opn Tryz.prog 73 (1 + (1 + (1 + 1))) (f2 fi (f2 (fS) (f2 (fS) (fS)))) (G2 gi (G2 (GS usC GU) (G2 (GS plC GP) (GS (f2 fu (f2 fn fn)) (G2 gu (G2 gn gn)))))) := opn_struct Tryz.underlying73 (by kernel_rfl) (.more rfl o_i64 (.more rfl o_users (.more rfl o_polls (.one rfl o_dones))))
def gT (y : Sta × StaP) : List Value := staCells y.1 y.2
def GT (w : World) (y : Sta × StaP) : Prop := StaAt w y.1 y.2 ∧ y.1.Fits
theorem o_state : Opn Tryz.prog 73 4 gT GT := o_state0.as (fun _ => rfl) fun w ⟨k, u, o, d⟩ h => ⟨(⟨k, u.1.map Prod.fst, o.1.map Prod.fst, d.1⟩, ⟨u.2.1, u.2.2, u.1.map Prod.snd, o.2.1, o.2.2, o.1.map Prod.snd, d.2.1, d.2.2⟩), by simp [f2, fS, gT, staCells, fi], by
    obtain ⟨hk, ⟨hu, hu2⟩, ⟨ho, ho2⟩, hd, hd2⟩ := h
    refine ⟨⟨rows_of hu fun x hx => (hu2 x hx).1, rows_of ho fun x hx => (ho2 x hx).1, hd⟩, ⟨hk, fun x hx => ?_, fun x hx => ?_, fun x hx => ⟨(hd2 x hx).1, (hd2 x hx).2.1, (hd2 x hx).2.2⟩⟩⟩
    · obtain ⟨y, hy, rfl⟩ := List.mem_map.1 hx
      exact (hu2 y hy).2
    · obtain ⟨y, hy, rfl⟩ := List.mem_map.1 hx
      exact (ho2 y hy).2⟩
end Go.Proofs.YtdhinjbkfffpeaaGreat
end
