import Derived.Test.YtdhinjbkfffpeaaZOA
import Derived.ChangeArms
import Derived.Deep.SlicePairs
import Derived.Test.YtdhinjbkfffpeaaZOG
/- What a value of any type is that came in, by the parts of its type. -/
section
namespace Go.Proofs.Ytdhinjbkfffpeaa
open Go.ChangeShapes Go.WideShapes Go.ChangeAt Go.RowKit Go.Joins Go.Deep
structure Opn (P : Program) (T : TypeId) (n : Nat) {α : Type} (f : α → List Value) (G : World → α → Prop) : Prop where
  len : ∀ a, (f a).length = n
  cells : P.cellsOf T = n
  opn : ∀ {H : Type} {enc : TypeId × Value → H} {w : World} {base : Nat} {spare : Nat → Bool} {held : Bool} {fuel : Nat} {cs : List Value} {x : DataW H × List MemPlace}, DataW.trod enc P w base spare held fuel T cs = some x → ∃ a, cs = f a ∧ G w a
section
variable {P : Program} {T TS : TypeId} {n : Nat} {α β : Type} {f : α → List Value} {G : World → α → Prop}
theorem Opn.as {g : β → List Value} {G' : World → β → Prop} (h : Opn P T n f G) (hlen : ∀ b, (g b).length = n) (to : ∀ w a, G w a → ∃ b, f a = g b ∧ G' w b) : Opn P T n g G' :=
  ⟨hlen, h.cells, fun hx => by
    obtain ⟨a, e, ha⟩ := h.opn hx
    obtain ⟨b, eb, hb⟩ := to _ a ha
    exact ⟨b, e.trans eb, hb⟩⟩
theorem opn_i64 (ht : P.underlying T = some (.int .i64)) (hc : P.cellsOf T = 1) : Opn P T 1 (fun x : Int => [.int .i64 x]) (fun _ x => -9223372036854775808 ≤ x ∧ x ≤ 9223372036854775807) :=
  ⟨fun _ => rfl, hc, fun hx => by
    obtain ⟨n, e, _, hw⟩ := DataW.trod_int ht hx
    exact ⟨n, e, bounds_i64 hw⟩⟩
theorem opn_u32 (ht : P.underlying T = some (.int .u32)) (hc : P.cellsOf T = 1) : Opn P T 1 (fun x : Nat => [.int .u32 (x : Int)]) (fun _ x => x < 4294967296) :=
  ⟨fun _ => rfl, hc, fun hx => by
    obtain ⟨n, e, _, hw⟩ := DataW.trod_int ht hx
    have := bounds_u32 hw
    exact ⟨n.toNat, by rw [e, Int.toNat_of_nonneg (by omega)], by omega⟩⟩
theorem opn_u64 (ht : P.underlying T = some (.int .u64)) (hc : P.cellsOf T = 1) : Opn P T 1 (fun x : Nat => [.int .u64 (x : Int)]) (fun _ x => x < 18446744073709551616) :=
  ⟨fun _ => rfl, hc, fun hx => by
    obtain ⟨n, e, _, hw⟩ := DataW.trod_int ht hx
    have := bounds_u64 hw
    exact ⟨n.toNat, by rw [e, Int.toNat_of_nonneg (by omega)], by omega⟩⟩
theorem opn_bool (ht : P.underlying T = some .bool) (hc : P.cellsOf T = 1) : Opn P T 1 (fun x : Bool => [.bool x]) (fun _ _ => True) :=
  ⟨fun _ => rfl, hc, fun hx => by
    obtain ⟨b, e, _⟩ := DataW.trod_bool ht hx
    exact ⟨b, e, trivial⟩⟩
theorem opn_str (ht : P.underlying T = some .string) (hc : P.cellsOf T = 1) : Opn P T 1 (fun x : List UInt8 => [.string ⟨x.toArray⟩]) (fun _ x => x.length ≤ maxLen) :=
  ⟨fun _ => rfl, hc, fun hx => by
    obtain ⟨s, e, _, hs⟩ := DataW.trod_string ht hx
    exact ⟨s.data.toList, e, hs⟩⟩
def f2 (f : α → List Value) (g : β → List Value) (x : α × β) : List Value := f x.1 ++ g x.2
def G2 (G : World → α → Prop) (G' : World → β → Prop) (w : World) (x : α × β) : Prop := G w x.1 ∧ G' w x.2
def fS (y : List α × Option Addr × Nat) : List Value := [.slice y.2.1 y.1.length y.2.2]
def GS (f : α → List Value) (G : World → α → Prop) (w : World) (y : List α × Option Addr × Nat) : Prop := Sl w y.2.1 y.1.length y.2.2 (kv f y.1) ∧ ∀ x ∈ y.1, G w x
theorem opn_slice (h : Opn P T n f G) (hn : 0 < n) (ht : P.underlying TS = some (.slice T)) (hc : P.cellsOf TS = 1) : Opn P TS 1 (fS (α := α)) (GS f G) := by
  refine ⟨fun _ => rfl, hc, fun hx => ?_⟩
  rename_i H enc w base spare held fuel cs x
  rcases open_slice ht hx with ⟨hcs, _⟩ | ⟨a, len, cap, m, k, D, Pl, hcs, _, hl, hm, hmm, _, hx⟩
  · exact ⟨([], none, 0), hcs, Sl.none_ _, fun x hx => (by cases hx)⟩
  · have hlm : len ≤ m := by rw [hmm]; split <;> omega
    have each : ∀ i : Fin len, ∃ o : α, G w o ∧ ∀ j v, (f o)[j]? = some v → w.cell? (a.add (i.1 * n + j)) = some v := by
      intro i
      obtain ⟨cs', hc', ht'⟩ := hx i.1 (by have := i.2; omega)
      rw [h.cells] at hc'
      obtain ⟨_, hcl, hat⟩ := World.cells?_some hc'
      obtain ⟨o, rfl, ho⟩ := h.opn ht'
      refine ⟨o, ho, fun j v hj => ?_⟩
      have hj2 := (List.getElem?_eq_some_iff.1 hj).1
      rw [h.len] at hj2
      have := hat j hj2
      rw [Go.Deep.add_add] at this
      rw [this]; exact hj
    have hch : ∃ F : Fin len → α, ∀ i : Fin len, G w (F i) ∧ ∀ j v, (f (F i))[j]? = some v → w.cell? (a.add (i.1 * n + j)) = some v := ⟨fun i => Classical.choose (each i), fun i => Classical.choose_spec (each i)⟩
    obtain ⟨F, hF⟩ := hch
    have hlen : (List.ofFn F).length = len := List.length_ofFn
    refine ⟨(List.ofFn F, some a, cap), by rw [hcs]; simp [fS, hlen], ⟨by simp only [hlen]; exact hl, hm, (fun h => by cases h), fun hq => ?_⟩, fun x hx => ?_⟩
    · rw [kv_len h.len, hlen] at hq
      have h0 : 0 < len := Nat.pos_of_mul_pos_right hq
      obtain ⟨b, off, spot⟩ := a
      have hfl := h.len (F ⟨0, h0⟩)
      obtain ⟨v0, hv0⟩ : ∃ v, (f (F ⟨0, h0⟩))[0]? = some v := ⟨_, List.getElem?_eq_getElem (by omega)⟩
      have q0 := (hF ⟨0, h0⟩).2 0 v0 hv0
      have hspot : spot = none := by simpa [Addr.add] using World.cell?_spot q0
      subst hspot
      refine ⟨b, off, rfl, by have := World.block_lt_of_cell? _ _ q0; simpa [Addr.add] using this, fun i u hi => ?_⟩
      have hil := (List.getElem?_eq_some_iff.1 hi).1
      rw [kv_len h.len, hlen] at hil
      have hq : i / n < len := (Nat.div_lt_iff_lt_mul hn).2 hil
      have hr : i % n < n := Nat.mod_lt _ hn
      have hdm : i / n * n + i % n = i := by rw [Nat.mul_comm]; exact Nat.div_add_mod i n
      have hg : (List.ofFn F)[i / n]? = some (F ⟨i / n, hq⟩) := by rw [List.getElem?_ofFn]; simp [hq]
      obtain ⟨v, hv⟩ : ∃ v, (f (F ⟨i / n, hq⟩))[i % n]? = some v := ⟨_, List.getElem?_eq_getElem (by rw [h.len]; exact hr)⟩
      have e1 := kv_at h.len hg hv
      rw [hdm, hi] at e1
      have e2 := (hF ⟨i / n, hq⟩).2 _ v hv
      rw [hdm, Addr.add_lit] at e2
      rw [e2, e1]
    · obtain ⟨i, rfl⟩ := List.mem_ofFn.1 hx
      exact (hF i).1
inductive Flds (P : Program) : (o : Nat) → List Field → Nat → {α : Type} → (α → List Value) → (World → α → Prop) → Prop
  | one {o n : Nat} {fd : Field} {α : Type} {f : α → List Value} {G : World → α → Prop} (ho : fd.offset = o) (h : Opn P fd.type n f G) : Flds P o [fd] n f G
  | more {o n m : Nat} {fd : Field} {fs : List Field} {α β : Type} {f : α → List Value} {G : World → α → Prop} {g : β → List Value} {G' : World → β → Prop} (ho : fd.offset = o) (h : Opn P fd.type n f G) (r : Flds P (o + n) fs m g G') : Flds P o (fd :: fs) (n + m) (f2 f g) (G2 G G')
theorem Flds.len {o m : Nat} {fs : List Field} {α : Type} {f : α → List Value} {G : World → α → Prop} (h : Flds P o fs m f G) : ∀ a, (f a).length = m := by
  induction h with
  | one _ h => exact h.len
  | more _ h _ ih => intro a; simp [f2, h.len, ih]
theorem Flds.opn {H : Type} {enc : TypeId × Value → H} {w : World} {base : Nat} {spare : Nat → Bool} {held : Bool} {k o m : Nat} {fs : List Field} {α : Type} {f : α → List Value} {G : World → α → Prop} (h : Flds P o fs m f G) :
    ∀ (cs : List Value) (xs : List (DataW H × List MemPlace)), cs.length = o + m → fs.length ≤ xs.length → (∀ (i : Nat) (fd : Field), fs[i]? = some fd → DataW.trod enc P w base spare held k fd.type ((cs.drop fd.offset).take (P.cellsOf fd.type)) = xs[i]?) → ∃ a, cs.drop o = f a ∧ G w a := by
  induction h with
  | @one o n fd α f G ho h =>
    intro cs xs hl hx hg
    have g0 := hg 0 fd rfl
    obtain ⟨x, hx0⟩ : ∃ x, xs[0]? = some x := ⟨_, List.getElem?_eq_getElem (by simp at hx; omega)⟩
    rw [hx0, ho, h.cells] at g0
    obtain ⟨a, e, ha⟩ := h.opn g0
    refine ⟨a, ?_, ha⟩
    rw [← e, List.take_of_length_le]
    rw [List.length_drop]; omega
  | @more o n m fd fs α β f G g G' ho h r ih =>
    intro cs xs hl hx hg
    have g0 := hg 0 fd rfl
    obtain ⟨x, hx0⟩ : ∃ x, xs[0]? = some x := ⟨_, List.getElem?_eq_getElem (by simp at hx; omega)⟩
    rw [hx0, ho, h.cells] at g0
    obtain ⟨a, e, ha⟩ := h.opn g0
    obtain ⟨b, e2, hb⟩ := ih cs (xs.drop 1) (by omega) (by simp at hx ⊢; omega) (fun i fd' hi => by
      rw [hg (i + 1) fd' (by simpa using hi), List.getElem?_drop]
      congr 1; omega)
    refine ⟨(a, b), ?_, ha, hb⟩
    show cs.drop o = f a ++ g b
    rw [← e, ← e2, ← List.drop_drop, List.take_append_drop]
theorem opn_struct {fs : Array Field} {m : Nat} (ht : P.underlying T = some (.struct fs)) (hc : P.cellsOf T = m) (hf : Flds P 0 fs.toList m f G) : Opn P T m f G := by
  refine ⟨hf.len, hc, fun hx => ?_⟩
  obtain ⟨xs, k, _, _, hl, hlen, hg⟩ := DataW.trod_struct ht hx
  rw [hc] at hl
  obtain ⟨a, e, ha⟩ := hf.opn _ xs (by omega) (by rw [hlen]; simp) (fun i fd hi => hg i fd (by simpa using hi))
  exact ⟨a, by simpa using e, ha⟩
theorem Opn.top {H : Type} {enc : TypeId × Value → H} {w : World} {base b0 : Nat} {spare : Nat → Bool} {held : Bool} {r : Reach} {v : Value} {d : DataW H} {p : List MemPlace} {fs : Array Field} (h : Opn P T n f G) (ht : P.underlying T = some (.struct fs))
    (hv : Value.okWide P w r b0 T v) (hx : DataW.Trod enc P w base spare held T v d p) : ∃ a, v = .agg (f a).toArray ∧ G w a := by
  obtain ⟨cs, rfl, _⟩ := okWide_struct ht hv
  obtain ⟨fuel, hf⟩ := hx
  obtain ⟨a, e, ha⟩ := h.opn hf
  have hcs : (Value.cells (.agg cs)).toList = cs.toList := by simp [Value.cells]
  rw [hcs] at e
  exact ⟨a, by rw [← e], ha⟩
end
end Go.Proofs.Ytdhinjbkfffpeaa
end
section
namespace Go.Proofs.Ytdhinjbkfffpeaa
open Go.ChangeShapes Go.WideShapes Go.ChangeAt Go.RowKit Go.Joins Sp Qr
def fi (x : Int) : List Value := [.int .i64 x]
def fu (x : Nat) : List Value := [.int .u32 (x : Int)]
def fn (x : Nat) : List Value := [.int .u64 (x : Int)]
def fb (x : Bool) : List Value := [.bool x]
def ft (x : List UInt8) : List Value := [.string ⟨x.toArray⟩]
def gi (_ : World) (x : Int) : Prop := I64 x
def gu (_ : World) (x : Nat) : Prop := U32 x
def gn (_ : World) (x : Nat) : Prop := x < 18446744073709551616
def gb (_ : World) (_ : Bool) : Prop := True
def gt (_ : World) (x : List UInt8) : Prop := x.length ≤ maxLen
theorem kv_iv : ∀ l, kv fi l = iv l
  | [] => rfl
  | x :: r => by rw [kv, kv_iv r]; rfl
theorem kv_sv : ∀ l, kv (f2 fi fi) l = sv l
  | [] => rfl
  | x :: r => by rw [kv, kv_sv r]; rfl
theorem kv_tv : ∀ l, kv (f2 fi (f2 fi fi)) l = tv l
  | [] => rfl
  | x :: r => by rw [kv, kv_tv r]; rfl
theorem o_int : Opn Try.prog 3 1 fi gi := opn_i64 Try.underlying3 (by kernel_rfl)
theorem o_i64 : Opn Try.prog 2 1 fi gi := opn_i64 Try.underlying2 (by kernel_rfl)
theorem o_u32 : Opn Try.prog 22 1 fu gu := opn_u32 Try.underlying22 (by kernel_rfl)
theorem o_u64 : Opn Try.prog 23 1 fn gn := opn_u64 Try.underlying23 (by kernel_rfl)
theorem o_bool : Opn Try.prog 4 1 fb gb := opn_bool Try.underlying4 (by kernel_rfl)
theorem o_str : Opn Try.prog 9 1 ft gt := opn_str Try.underlying9 (by kernel_rfl)
theorem o_ints : Opn Try.prog 28 1 (fS) (GS fi gi) := opn_slice o_int (by decide) Try.underlying28 (by kernel_rfl)
theorem o_longs : Opn Try.prog 36 1 (fS) (GS fi gi) := opn_slice o_i64 (by decide) Try.underlying36 (by kernel_rfl)
theorem o_uints : Opn Try.prog 42 1 (fS) (GS fu gu) := opn_slice o_u32 (by decide) Try.underlying42 (by kernel_rfl)
theorem o_shift : Opn Try.prog 111 (1 + (1 + 1)) (f2 fi (f2 fi fi)) (G2 gi (G2 gi gi)) := opn_struct Try.underlying111 (by kernel_rfl) (.more rfl o_int (.more rfl o_int (.one rfl o_int)))
theorem o_shifts : Opn Try.prog 27 1 (fS) (GS (f2 fi (f2 fi fi)) (G2 gi (G2 gi gi))) := opn_slice o_shift (by decide) Try.underlying27 (by kernel_rfl)
theorem o_turn : Opn Try.prog 86 (1 + 1) (f2 fi fi) (G2 gi gi) := opn_struct Try.underlying86 (by kernel_rfl) (.more rfl o_i64 (.one rfl o_int))
theorem o_turns : Opn Try.prog 24 1 (fS) (GS (f2 fi fi) (G2 gi gi)) := opn_slice o_turn (by decide) Try.underlying24 (by kernel_rfl)
theorem o_zone : Opn Try.prog 26 (1 + 1) (f2 fi (fS)) (G2 gi (GS (f2 fi fi) (G2 gi gi))) := opn_struct Try.underlying26 (by kernel_rfl) (.more rfl o_int (.one rfl o_turns))
theorem o_hours : Opn Try.prog 30 (1 + 1) (f2 (fS) (fS)) (G2 (GS (f2 fi (f2 fi fi)) (G2 gi (G2 gi gi))) (GS fi gi)) := opn_struct Try.underlying30 (by kernel_rfl) (.more rfl o_shifts (.one rfl o_ints))
theorem o_settings0 : Opn Try.prog 32 ((1 + 1) + ((1 + 1) + (1 + 1))) (f2 (f2 fi (fS)) (f2 (f2 (fS) (fS)) (f2 fi fi))) (G2 (G2 gi (GS (f2 fi fi) (G2 gi gi))) (G2 (G2 (GS (f2 fi (f2 fi fi)) (G2 gi (G2 gi gi))) (GS fi gi)) (G2 gi gi))) := opn_struct Try.underlying32 (by kernel_rfl) (.more rfl o_zone (.more rfl o_hours (.more rfl o_int (.one rfl o_int))))
def gS (y : Stg × StgP) : List Value := sCells y.1 y.2
def GSt (w : World) (y : Stg × StgP) : Prop := StgAt w y.1 y.2 ∧ y.1.Fits
theorem o_settings : Opn Try.prog 32 6 gS GSt := o_settings0.as (fun _ => rfl) fun w ⟨⟨b, t⟩, ⟨s, o⟩, e, f⟩ h => ⟨(⟨b, t.1, s.1, o.1, e, f⟩, ⟨t.2.1, s.2.1, o.2.1, t.2.2, s.2.2, o.2.2⟩), rfl, by
    obtain ⟨⟨hb, ht, ht2⟩, ⟨⟨hs, hs2⟩, ho, ho2⟩, he, hf⟩ := h
    rw [kv_sv] at ht; rw [kv_tv] at hs; rw [kv_iv] at ho
    exact ⟨⟨ht, hs, ho⟩, ⟨hb, ht2, hs2, ho2, he, hf⟩⟩⟩
theorem o_wanted : Opn Try.prog 94 (1 + 1) (f2 fu fi) (G2 gu gi) := opn_struct Try.underlying94 (by kernel_rfl) (.more rfl o_u32 (.one rfl o_int))
theorem o_wanteds : Opn Try.prog 43 1 (fS) (GS (f2 fu fi) (G2 gu gi)) := opn_slice o_wanted (by decide) Try.underlying43 (by kernel_rfl)
theorem o_pair : Opn Try.prog 96 (1 + 1) (f2 fu fu) (G2 gu gu) := opn_struct Try.underlying96 (by kernel_rfl) (.more rfl o_u32 (.one rfl o_u32))
theorem o_pairs : Opn Try.prog 44 1 (fS) (GS (f2 fu fu) (G2 gu gu)) := opn_slice o_pair (by decide) Try.underlying44 (by kernel_rfl)
theorem o_span : Opn Try.prog 41 (1 + 1) (f2 fi fi) (G2 gi gi) := opn_struct Try.underlying41 (by kernel_rfl) (.more rfl o_i64 (.one rfl o_i64))
theorem o_query0 : Opn Try.prog 46 ((1 + 1) + (1 + (1 + (1 + (1 + (1 + (1 + 1))))))) (f2 (f2 fi fi) (f2 fi (f2 fi (f2 (fS) (f2 (fS) (f2 fi (f2 (fS) (fS)))))))) (G2 (G2 gi gi) (G2 gi (G2 gi (G2 (GS fu gu) (G2 (GS (f2 fu fi) (G2 gu gi)) (G2 gi (G2 (GS (f2 fu fu) (G2 gu gu)) (GS (f2 fi (f2 fi fi)) (G2 gi (G2 gi gi)))))))))) := opn_struct Try.underlying46 (by kernel_rfl) (.more rfl o_span (.more rfl o_int (.more rfl o_int (.more rfl o_uints (.more rfl o_wanteds (.more rfl o_int (.more rfl o_pairs (.one rfl o_shifts))))))))
def gQ (y : Qy × QyP) : List Value := qCells y.1 y.2
def GQ (w : World) (y : Qy × QyP) : Prop := QyAt w y.1 y.2 ∧ y.1.Fits
theorem o_query : Opn Try.prog 46 9 gQ GQ := o_query0.as (fun _ => rfl) fun w ⟨s, l, g, m, y, e, a, p⟩ h => ⟨(⟨s, l, g, m.1, y.1, e, a.1, p.1⟩, ⟨m.2.1, y.2.1, a.2.1, p.2.1, m.2.2, y.2.2, a.2.2, p.2.2⟩), rfl, by
    obtain ⟨hs, hl, hg, ⟨hm, hm2⟩, ⟨hy, hy2⟩, he, ⟨ha, ha2⟩, hp, hp2⟩ := h
    rw [kv_tv] at hp
    exact ⟨⟨hm, hy, ha, hp⟩, ⟨hs, hl, hg, hm2, hy2, he, ha2, hp2⟩⟩⟩
theorem o_dayn : Opn Try.prog 138 (1 + 1) (f2 fi fi) (G2 gi gi) := opn_struct Try.underlying138 (by kernel_rfl) (.more rfl o_int (.one rfl o_int))
theorem o_dayns : Opn Try.prog 33 1 (fS) (GS (f2 fi fi) (G2 gi gi)) := opn_slice o_dayn (by decide) Try.underlying33 (by kernel_rfl)
theorem o_rule : Opn Try.prog 35 (1 + (1 + (1 + (1 + (1 + (1 + (1 + (1 + 1)))))))) (f2 fi (f2 fi (f2 fi (f2 fi (f2 (fS) (f2 (fS) (f2 (fS) (f2 (fS) fi)))))))) (G2 gi (G2 gi (G2 gi (G2 gi (G2 (GS fi gi) (G2 (GS fi gi) (G2 (GS (f2 fi fi) (G2 gi gi)) (G2 (GS fi gi) gi)))))))) := opn_struct Try.underlying35 (by kernel_rfl) (.more rfl o_int (.more rfl o_int (.more rfl o_int (.more rfl o_i64 (.more rfl o_ints (.more rfl o_ints (.more rfl o_dayns (.more rfl o_ints (.one rfl o_int)))))))))
theorem o_change : Opn Try.prog 90 (1 + (1 + 1)) (f2 fi (f2 fi fi)) (G2 gi (G2 gi gi)) := opn_struct Try.underlying90 (by kernel_rfl) (.more rfl o_i64 (.more rfl o_i64 (.one rfl o_int)))
theorem o_changes : Opn Try.prog 37 1 (fS) (GS (f2 fi (f2 fi fi)) (G2 gi (G2 gi gi))) := opn_slice o_change (by decide) Try.underlying37 (by kernel_rfl)
theorem o_event0 : Opn Try.prog 39 (1 + (1 + (1 + (1 + ((1 + (1 + (1 + (1 + (1 + (1 + (1 + (1 + 1)))))))) + (1 + (1 + 1))))))) (f2 fi (f2 fi (f2 fb (f2 fb (f2 (f2 fi (f2 fi (f2 fi (f2 fi (f2 (fS) (f2 (fS) (f2 (fS) (f2 (fS) fi)))))))) (f2 (fS) (f2 (fS) (fS)))))))) (G2 gi (G2 gi (G2 gb (G2 gb (G2 (G2 gi (G2 gi (G2 gi (G2 gi (G2 (GS fi gi) (G2 (GS fi gi) (G2 (GS (f2 fi fi) (G2 gi gi)) (G2 (GS fi gi) gi)))))))) (G2 (GS fi gi) (G2 (GS fi gi) (GS (f2 fi (f2 fi fi)) (G2 gi (G2 gi gi)))))))))) := opn_struct Try.underlying39 (by kernel_rfl) (.more rfl o_i64 (.more rfl o_int (.more rfl o_bool (.more rfl o_bool (.more rfl o_rule (.more rfl o_longs (.more rfl o_longs (.one rfl o_changes))))))))
def gE (y : Evt × EvP) : List Value := eCells y.1 y.2
def GE (w : World) (y : Evt × EvP) : Prop := EvAt w y.1 y.2 ∧ y.1.Fits
theorem o_event : Opn Try.prog 39 16 gE GE := o_event0.as (fun _ => rfl) fun w ⟨s, l, d, a, ⟨r1, r2, r3, r4, r5, r6, r7, r8, r9⟩, x, p, c⟩ h => ⟨(⟨s, l, d, a, ⟨r1, r2, r3, r4, r5.1, r6.1, r7.1, r8.1, r9⟩, x.1, p.1, c.1⟩, ⟨r5.2.1, r6.2.1, r7.2.1, r8.2.1, x.2.1, p.2.1, c.2.1, r5.2.2, r6.2.2, r7.2.2, r8.2.2, x.2.2, p.2.2, c.2.2⟩), rfl, by
    obtain ⟨h1, h2, _, _, ⟨k1, k2, k3, k4, ⟨k5, m5⟩, ⟨k6, m6⟩, ⟨k7, m7⟩, ⟨k8, m8⟩, k9⟩, ⟨h5, n5⟩, ⟨h6, n6⟩, h7, n7⟩ := h
    rw [kv_iv] at k5 k6 k8 h5 h6; rw [kv_sv] at k7; rw [kv_tv, ← cv_tv'] at h7
    exact ⟨⟨⟨k5, k6, k7, k8⟩, h5, h6, h7⟩, ⟨h1, h2, k1, k2, k3, k4, m5, m6, m7, m8, k9, n5, n6, n7⟩⟩⟩
structure Rp.Fit0 (r : Rp) : Prop where
  err : I64 r.err
  version : r.version < 18446744073709551616
  slots : okT r.slots
  cursor : r.cursor.length ≤ maxLen
  poll : r.poll.Fits
theorem o_ask0 : Opn Try.prog 48 (1 + (1 + (1 + (1 + (1 + (6 + (16 + (9 + (1 + (1 + (1 + (1 + (1 + 1))))))))))))) (f2 fi (f2 fu (f2 fn (f2 fu (f2 fu (f2 gS (f2 gE (f2 gQ (f2 ft (f2 fi (f2 fu (f2 fi (f2 fb fi))))))))))))) (G2 gi (G2 gu (G2 gn (G2 gu (G2 gu (G2 GSt (G2 GE (G2 GQ (G2 gt (G2 gi (G2 gu (G2 gi (G2 gb gi))))))))))))) := opn_struct Try.underlying48 (by kernel_rfl) (.more rfl o_int (.more rfl o_u32 (.more rfl o_u64 (.more rfl o_u32 (.more rfl o_u32 (.more rfl o_settings (.more rfl o_event (.more rfl o_query (.more rfl o_str (.more rfl o_int (.more rfl o_u32 (.more rfl o_int (.more rfl o_bool (.one rfl o_i64))))))))))))))
def gA (y : Ak × AkP) : List Value := aCells y.1 y.2
structure Ak.Fit0 (a : Ak) : Prop where
  kind : I64 a.kind
  caller : U32 a.caller
  number : a.number < 18446744073709551616
  user : U32 a.user
  id : U32 a.id
  settings : a.settings.Fits
  event : a.event.Fits
  query : a.query.Fits
  cursor : a.cursor.length ≤ maxLen
  count : I64 a.count
  poll : U32 a.poll
  slot : I64 a.slot
  until_ : I64 a.until_
def GA (w : World) (y : Ak × AkP) : Prop := AkAt w y.1 y.2 ∧ y.1.Fit0
theorem o_ask : Opn Try.prog 48 42 gA GA := o_ask0.as (fun _ => rfl) fun w ⟨k, c, n, u, i, s, e, q, x, m, p, t, y, l⟩ h => ⟨(⟨k, c, n, u, i, s.1, e.1, q.1, x, m, p, t, y, l⟩, ⟨s.2, e.2, q.2⟩), rfl, by
    obtain ⟨h1, h2, h3, h4, h5, ⟨h6, k6⟩, ⟨h7, k7⟩, ⟨h8, k8⟩, h9, h10, h11, h12, _, h14⟩ := h
    exact ⟨⟨h6, h7, h8⟩, ⟨h1, h2, h3, h4, h5, k6, k7, k8, h9, h10, h11, h12, h14⟩⟩⟩
end Go.Proofs.Ytdhinjbkfffpeaa
end
