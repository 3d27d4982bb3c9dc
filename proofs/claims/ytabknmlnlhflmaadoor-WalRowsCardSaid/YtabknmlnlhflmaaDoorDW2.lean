/- Contracts of the program's disk: its fuse; a copy of bytes; what is laid over. -/
import Derived.Test.YtabknmlnlhflmaaDoorDW1
import Derived.Lib.SmallJoins
namespace Go.Proofs.YtabknmlnlhflmaaDoor
open Go.ChangeShapes Go.WideShapes Go.ChangeAt Go.RowKit Go.Joins Dm

theorem DiskIn.set {w : World} {D L : Nat} {wv wv' : Value} {xs xs' : List Value} {m m' : Dk} {F : Nat → Prop} {w' : World} (h : DiskIn w D L wv xs m F)
    (hok : m'.Ok) (hb : w'.heap[D]? = some (.cells #[.slice (some ⟨L, 0, none⟩) m'.laid.length m'.laid.length, wv', .bool m'.on, .int .i64 m'.falls, .int .i64 m'.fuse, .int .i64 m'.keep] 48 (0, 0)))
    (ho : Off (fun k => k = D) w w') (hl : m'.laid = m.laid) (hw : m'.waits = m.waits) (hv : wv' = wv) (hx : xs' = xs) : DiskIn w' D L wv' xs' m' F := by
  subst hv hx
  refine ⟨hok, hb, by rw [hl]; exact ho.heap h.lblk (fun e => h.ne e.symm), by rw [hw]; exact own_off h.own ho fun k hk e => h.neD (by rw [hk, e]), by rw [hw]; exact h.waits.off ho fun b hb e => hb.2.1 e, h.ne, h.neD, h.neL, h.fD, h.fL, h.fW, fun k hk => Nat.lt_of_lt_of_le (h.lt k hk) ho.size⟩
end Go.Proofs.YtabknmlnlhflmaaDoor
