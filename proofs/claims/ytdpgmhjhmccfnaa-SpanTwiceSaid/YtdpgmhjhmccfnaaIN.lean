/- Rows whose numbers are such of 64 bits. No text of the program is read here. -/
import Derived.Test.YtdpgmhjhmccfnaaSMath
namespace Go.Proofs.Ytdpgmhjhmccfnaa
open Sp
/-- All numbers of a row are such. -/
def In64 (l : List Spn) : Prop := ∀ s ∈ l, (-9223372036854775808 ≤ s.1 ∧ s.1 ≤ 9223372036854775807) ∧ (-9223372036854775808 ≤ s.2 ∧ s.2 ≤ 9223372036854775807)
theorem In64.bd {l : List Spn} (h : In64 l) : ∀ s ∈ l, (-9223372036854775808 : Int) ≤ s.1 ∧ s.2 ≤ -9223372036854775808 + (18446744073709551615 : Nat) := fun s hs => by
  have := h s hs
  omega
end Go.Proofs.Ytdpgmhjhmccfnaa
