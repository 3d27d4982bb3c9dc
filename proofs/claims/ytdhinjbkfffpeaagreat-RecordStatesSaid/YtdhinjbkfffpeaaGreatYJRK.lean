import Derived.Test.YtdhinjbkfffpeaaGreatYOG
import Derived.Test.YtdhinjbkfffpeaaGreatYOC
import Derived.Test.YtdhinjbkfffpeaaGreatYJS5
import Derived.Test.YtdhinjbkfffpeaaGreatYJS7
import Derived.Test.YtdhinjbkfffpeaaGreatYMB
/- What the statements of layer 16 ask of the program's records: contracts, as structures. -/
section
namespace Go.Proofs.YtdhinjbkfffpeaaGreat
open Go.ChangeShapes Go.WideShapes Go.ChangeAt Go.RowKit Go.Joins Sp Fr Pk
theorem Sl.bat {w : World} {A : Option Addr} {n d : Nat} {l : List UInt8} (h : Sl w A n d (bl l)) : BAt w A l := fun hn => by
  obtain ⟨b, off, e, hlt, hc⟩ := h.on (by rw [bl_len]; exact hn)
  exact ⟨b, off, e, hlt, fun i c hi => hc i _ (bl_at hi)⟩
def PutRet (o : Option (List UInt8)) (w : World) (e : Ending) (w' : World) : Prop :=
  ∃ (A : Option Addr) (d : Nat) (l : List UInt8), e = .returned (.tuple #[.slice A l.length d, .bool o.isSome]) ∧ l = o.getD [] ∧ Sl w' A l.length d (bl l) ∧ (∀ a, A = some a → w.heap.size ≤ a.block) ∧ Below w.heap.size w w'
structure RecS : Prop where
  put : ∀ (w : World) (s : Sta) (p : StaP), s.Fits → ¬ greatSt16 s → StaAt w s p → Calls Tryz.prog 17 #[.agg (staCells s p).toArray] w (PutRet s.text w)
  get : ∀ (w : World) (A : Option Addr) (d : Nat) (l : List UInt8), l.length ≤ 2000000 → Sl w A l.length d (bl l) → Calls Tryz.prog 21 #[.slice A l.length d] w fun e w' =>
    ∃ (ok : Bool) (r : Sta) (p : StaP), e = .returned (.tuple #[.agg (staCells r p).toArray, .bool ok]) ∧ StaAt w' r p ∧ Below w.heap.size w w' ∧ (ok = true → r.O ∧ l = r.T ∧ l.length ≤ 1048576) ∧ (ok = false → ∀ s : Sta, s.O → l = s.T → ¬ l.length ≤ 1048576)
  same : ∀ (w : World) (r s : Sta) (p q : StaP), r.Fits → s.Fits → ¬ greatSt16 r → ¬ greatSt16 s → StaAt w r p → StaAt w s q → Calls Tryz.prog 19 #[.agg (staCells r p).toArray, .agg (staCells s q).toArray] w fun e w' => ∃ b, e = .returned (.bool b) ∧ (b = true ↔ r = s) ∧ Below w.heap.size w w'
theorem great_stg {s : Stg} (h : ¬ greatS16 s) : s.cost ≤ 10000 := by unfold greatS16 at h; unfold Stg.cost; omega
theorem great_evt {e : Evt} (h : ¬ greatE16 e) : e.cost ≤ 100000 := by unfold greatE16 at h; unfold Evt.cost; omega
theorem great_qy {q : Qy} (h : ¬ greatQ16 q) : q.cost ≤ 10000 := by unfold greatQ16 at h; unfold Qy.cost; omega
theorem great_pl {o : Pl} (h : ¬ greatP16 o) : o.cost ≤ 100000 := by
  unfold greatP16 at h
  have := great_qy (q := o.query) fun k => h (.inl k)
  unfold Pl.cost; omega
theorem sta_one {r s : Sta} {l : List UInt8} (hr : r.O) (hs : s.O) (h1 : l = r.T) (h2 : l = s.T) : r = s :=
  (cod_sta.inj hr hs (r := []) (s := []) (by rw [List.append_nil, List.append_nil, ← h1, ← h2])).1
def exAk : Ak := noAk (2, 5, 7)
theorem noStg_fits : noStg.Fits := by
  have h : I64 0 := by unfold I64; omega
  exact ⟨h, fun x h => (by cases h), fun x h => (by cases h), fun x h => (by cases h), h, h⟩
theorem noEvt_fits : noEvt.Fits := by
  have h : I64 0 := by unfold I64; omega
  exact ⟨h, h, h, h, h, h, fun x h => (by cases h), fun x h => (by cases h), fun x h => (by cases h), fun x h => (by cases h), h, fun x h => (by cases h), fun x h => (by cases h), fun x h => (by cases h)⟩
theorem noQy_fits : noPl.query.Fits := by
  have h : I64 0 := by unfold I64; omega
  exact ⟨⟨h, h⟩, h, h, fun x h => (by cases h), fun x h => (by cases h), h, fun x h => (by cases h), fun x h => (by cases h)⟩
theorem exAk_fits : exAk.Fits := by
  have h : I64 0 := by unfold I64; omega
  exact ⟨by unfold I64 exAk noAk; simp, by unfold U32 exAk noAk; simp, by unfold exAk noAk; simp, by unfold U32 exAk noAk; simp, by unfold U32 exAk noAk; simp, noStg_fits, noEvt_fits, noQy_fits, by unfold exAk noAk; simp, h, by unfold U32 exAk noAk; simp, h, h, by unfold exAk noAk; decide⟩
theorem exAk_great : ¬ greatA16 exAk := by unfold greatA16 greatS16 greatE16 greatQ16; decide
theorem exAk_text : exAk.text = some [2, 5, 7] := by
  rw [ak_text exAk_fits]
  refine ⟨⟨⟨by unfold U32 exAk noAk; simp, by unfold U64 exAk noAk; simp⟩, by unfold exAk noAk; simp, rfl, trivial⟩, ?_, by simp⟩
  show [2, 5, 7] = (numT 2 ++ (numT 5 ++ numT 7)) ++ []
  rw [num_small (by decide), num_small (by decide), num_small (by decide)]
  rfl
theorem build_ex (w : World) : (Instr.build 65 #[(0, .int .i64 2), (1, .int .u32 5), (3, .int .u32 5), (2, .int .u64 7)]).run Tryz.prog w = .ok (.agg (aCells exAk noAkP).toArray) w := by kernel_rfl
end Go.Proofs.YtdhinjbkfffpeaaGreat
end
