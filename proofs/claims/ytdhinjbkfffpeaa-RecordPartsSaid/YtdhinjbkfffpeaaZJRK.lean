import Derived.Test.YtdhinjbkfffpeaaZOG
import Derived.Test.YtdhinjbkfffpeaaZOC
import Derived.Test.YtdhinjbkfffpeaaZJS5
import Derived.Test.YtdhinjbkfffpeaaZJS7
import Derived.Test.YtdhinjbkfffpeaaZMB
/- What the statements of layer 16 ask of the program's records: contracts, as structures. -/
section
namespace Go.Proofs.Ytdhinjbkfffpeaa
open Go.ChangeShapes Go.WideShapes Go.ChangeAt Go.RowKit Go.Joins Sp Fr Pk
theorem Sl.bat {w : World} {A : Option Addr} {n d : Nat} {l : List UInt8} (h : Sl w A n d (bl l)) : BAt w A l := fun hn => by
  obtain ⟨b, off, e, hlt, hc⟩ := h.on (by rw [bl_len]; exact hn)
  exact ⟨b, off, e, hlt, fun i c hi => hc i _ (bl_at hi)⟩
def PutRet (o : Option (List UInt8)) (w : World) (e : Ending) (w' : World) : Prop :=
  ∃ (A : Option Addr) (d : Nat) (l : List UInt8), e = .returned (.tuple #[.slice A l.length d, .bool o.isSome]) ∧ l = o.getD [] ∧ Sl w' A l.length d (bl l) ∧ (∀ a, A = some a → w.heap.size ≤ a.block) ∧ Below w.heap.size w w'
structure RecP : Prop where
  put : ∀ (w : World) (a : Ak) (p : AkP), a.Fits → ¬ greatA16 a → AkAt w a p → Calls Try.prog 6 #[.agg (aCells a p).toArray] w (PutRet a.text w)
structure RecG : Prop where
  get : ∀ (w : World) (A : Option Addr) (d : Nat) (l : List UInt8), l.length ≤ 2000000 → Sl w A l.length d (bl l) → Calls Try.prog 8 #[.slice A l.length d] w fun e w' =>
    ∃ (ok : Bool) (r : Ak) (p : AkP), e = .returned (.tuple #[.agg (aCells r p).toArray, .bool ok]) ∧ AkAt w' r p ∧ Below w.heap.size w w' ∧ (ok = true → r.O ∧ l = r.T ∧ l.length ≤ 65536) ∧ (ok = false → ∀ s : Ak, s.O → l = s.T → ¬ l.length ≤ 65536)
theorem great_stg {s : Stg} (h : ¬ greatS16 s) : s.cost ≤ 10000 := by unfold greatS16 at h; unfold Stg.cost; omega
theorem great_evt {e : Evt} (h : ¬ greatE16 e) : e.cost ≤ 100000 := by unfold greatE16 at h; unfold Evt.cost; omega
theorem great_qy {q : Qy} (h : ¬ greatQ16 q) : q.cost ≤ 10000 := by unfold greatQ16 at h; unfold Qy.cost; omega
theorem great_pl {o : Pl} (h : ¬ greatP16 o) : o.cost ≤ 100000 := by
  unfold greatP16 at h
  have := great_qy (q := o.query) fun k => h (.inl k)
  unfold Pl.cost; omega
theorem Rp.Fit0.fits {r : Rp} (h : r.Fit0) (hg : ¬ greatR16 r) : r.Fits := by
  unfold greatR16 at hg
  have := great_pl (o := r.poll) fun k => hg (.inr (.inr k))
  exact ⟨h.err, h.version, h.slots, by omega, h.poll, by omega⟩
theorem Ak.Fit0.fits {a : Ak} (h : a.Fit0) (hg : ¬ greatA16 a) : a.Fits := by
  unfold greatA16 at hg
  have h1 := great_stg (s := a.settings) fun k => hg (.inl k)
  have h2 := great_evt (e := a.event) fun k => hg (.inr (.inl k))
  have h3 := great_qy (q := a.query) fun k => hg (.inr (.inr (.inl k)))
  exact ⟨h.kind, h.caller, h.number, h.user, h.id, h.settings, h.event, h.query, by omega, h.count, h.poll, h.slot, h.until_, by omega⟩
theorem ak_one {r s : Ak} {l : List UInt8} (hr : r.O) (hs : s.O) (h1 : l = r.T) (h2 : l = s.T) : r = s :=
  (cod_ak.inj hr hs (r := []) (s := []) (by rw [List.append_nil, List.append_nil, ← h1, ← h2])).1
def exAk : Ak := noAk (2, 5, 7)
theorem noStg_fits : noStg.Fits := by
  have h : I64 0 := by unfold I64; omega
  exact ⟨h, fun x h => (by cases h), fun x h => (by cases h), fun x h => (by cases h), h, h⟩
theorem noEvt_fits : noEvt.Fits := by
  have h : I64 0 := by unfold I64; omega
  exact ⟨h, h, h, h, h, h, fun x h => (by cases h), fun x h => (by cases h), fun x h => (by cases h), fun x h => (by cases h), h, fun x h => (by cases h), fun x h => (by cases h), fun x h => (by cases h)⟩
theorem noQy_fits : noPl.query.Fits := by
  have h : I64 0 := by unfold I64; omega
  exact ⟨⟨h, h⟩, h, h, fun x h => (by cases h), fun x h => (by cases h), h, fun x h => (by cases h), fun x h => (by cases h)⟩
theorem exAk_fits : exAk.Fits := by
  have h : I64 0 := by unfold I64; omega
  exact ⟨by unfold I64 exAk noAk; simp, by unfold U32 exAk noAk; simp, by unfold exAk noAk; simp, by unfold U32 exAk noAk; simp, by unfold U32 exAk noAk; simp, noStg_fits, noEvt_fits, noQy_fits, by unfold exAk noAk; simp, h, by unfold U32 exAk noAk; simp, h, h, by unfold exAk noAk; decide⟩
theorem exAk_great : ¬ greatA16 exAk := by unfold greatA16 greatS16 greatE16 greatQ16; decide
theorem exAk_text : exAk.text = some [2, 5, 7] := by
  rw [ak_text exAk_fits]
  refine ⟨⟨⟨by unfold U32 exAk noAk; simp, by unfold U64 exAk noAk; simp⟩, by unfold exAk noAk; simp, rfl, trivial⟩, ?_, by simp⟩
  show [2, 5, 7] = (numT 2 ++ (numT 5 ++ numT 7)) ++ []
  rw [num_small (by decide), num_small (by decide), num_small (by decide)]
  rfl
theorem build_ex (w : World) : (Instr.build 48 #[(0, .int .i64 2), (1, .int .u32 5), (3, .int .u32 5), (2, .int .u64 7)]).run Try.prog w = .ok (.agg (aCells exAk noAkP).toArray) w := by kernel_rfl
end Go.Proofs.Ytdhinjbkfffpeaa
end
