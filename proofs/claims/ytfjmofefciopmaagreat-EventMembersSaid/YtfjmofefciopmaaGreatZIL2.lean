import Derived.Test.YtfjmofefciopmaaGreatZIL1
import Derived.Test.YtfjmofefciopmaaGreatZMX
import Derived.Test.YtfjmofefciopmaaGreatZEW6
/- Layer 11's law on whether a local time is one of an event's. -/
section
namespace Go.Proofs.YtfjmofefciopmaaGreat
open Go.ChangeShapes Go.WideShapes Go.ChangeAt Go.RowKit Go.Joins Sp Ev Qr
theorem great_len {e : Evt} (h : greatEB e = false) : (e.ex.length ≤ 100 ∧ e.plus.length ≤ 100 ∧ e.ch.length ≤ 100) ∧ e.rule.bm.length ≤ 10000 ∧ e.rule.bd.length ≤ 10000 ∧ e.rule.bw.length ≤ 10000 ∧ e.rule.bs.length ≤ 10000 := by
  unfold greatEB greatB at h
  simp only [Bool.or_eq_false_iff, decide_eq_false_iff_not] at h
  omega
end Go.Proofs.YtfjmofefciopmaaGreat
end
