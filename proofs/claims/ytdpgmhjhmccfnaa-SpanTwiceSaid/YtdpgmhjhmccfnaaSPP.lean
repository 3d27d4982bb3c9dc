/- The contracts that the statements of layer 13 ask, out of the program. -/
import Derived.Test.YtdpgmhjhmccfnaaSP5
import Derived.Test.YtdpgmhjhmccfnaaSP6
import Derived.Test.YtdpgmhjhmccfnaaSP8
import Derived.Test.YtdpgmhjhmccfnaaSP9
import Derived.Test.YtdpgmhjhmccfnaaSP10
namespace Go.Proofs.Ytdpgmhjhmccfnaa
open Go.ChangeShapes Go.WideShapes Go.ChangeAt Go.RowKit Go.Joins Sp

theorem spK : SpK where
  form l A c w hl _ hs := (pform13_any l A c w (by omega) hs).mono fun _ _ h => h.s
  may l A c w _ _ hs := pmay13_any l A c w hs
  has l m A c w _ _ hs := phas13_any m l A c w hs
  union a b A B c d w ha hb _ _ hs ht := punion13_any a b A B c d w (by omega) (by omega) hs ht
  meet a b A B c d w ha hb _ _ hs ht := pmeet13_any a b A B c d w (by omega) (by omega) hs ht
  minus a b A B c d w ha hb ia ib hs ht := pminus13_any a b A B c d w (by omega) (by omega) ia ib hs ht
  grow l a b A c w hl hi ha hb hs := pgrow13_any l a b A c w (by omega) hi ha hb hs
  cut l x1 x2 A c w hl _ _ _ hs := pcut13_any l x1 x2 A c w (by omega) hs
  minutes l A c w hl hi hs := pminutes13_any l A c w (by omega) hi hs
end Go.Proofs.Ytdpgmhjhmccfnaa
