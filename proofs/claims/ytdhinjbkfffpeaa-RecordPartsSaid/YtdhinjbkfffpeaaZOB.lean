import Derived.Test.YtdhinjbkfffpeaaZPW1
import Derived.Test.YtdhinjbkfffpeaaZQL
import Derived.Deep.Cut
import Derived.Test.YtdhinjbkfffpeaaZOA
import Derived.Test.YtdhinjbkfffpeaaZMB
/- Contracts of the document's records: numbers, texts and flags behind bytes. -/
section
namespace Go.Proofs.Ytdhinjbkfffpeaa
open Go.ChangeShapes Go.WideShapes Go.ChangeAt Go.RowKit Fr Pk
structure Bb where
  s : List UInt8
  bad : Bool
def Bb.ok (b : Bb) (n : Nat) : Prop := b.s.length + n ≤ 4611686018427387904
def Bb.N (b : Bb) (n most : Int) : Bb := if n < 0 ∨ most < n then ⟨b.s, true⟩ else ⟨b.s ++ numT n.toNat, b.bad⟩
def Bb.Z (b : Bb) (n least most : Int) : Bb := ⟨b.s ++ numT (zig n), b.bad || decide (n < least) || decide (most < n)⟩
def Bb.M (b : Bb) (n : Int) : Bb := ⟨b.s ++ numT (zig n), b.bad⟩
def Bb.U (b : Bb) (n : Nat) : Bb := ⟨b.s ++ numT n, b.bad⟩
def Bb.F (b : Bb) (is : Bool) : Bb := ⟨b.s ++ flagT is, b.bad⟩
def Bb.T (b : Bb) (s : List UInt8) (most : Int) : Bb := ⟨b.s ++ textT s, b.bad || decide (most < s.length)⟩
end Go.Proofs.Ytdhinjbkfffpeaa
end
section
namespace Go.Proofs.Ytdhinjbkfffpeaa
open Go.ChangeShapes Go.WideShapes Go.ChangeAt Go.RowKit Fr Pk
def Bb.small (b : Bb) (l : List Int) : Bb := l.foldl (fun b x => b.Z x (-400) 400) (b.N l.length 400)
def okI (l : List Int) : Prop := ∀ x ∈ l, -9223372036854775808 ≤ x ∧ x ≤ 9223372036854775807
def Bb.stampsS (b : Bb) (x : Int) : Bb := b.M x
def Bb.stamps (b : Bb) (l : List (Int)) (most : Int) : Bb := l.foldl Bb.stampsS (b.N l.length most)
def okT (l : List (Int × Int × Int)) : Prop := ∀ x ∈ l, I64 x.1 ∧ I64 x.2.1 ∧ I64 x.2.2
def Bb.shiftsS (b : Bb) (x : Int × Int × Int) : Bb := ((b.N x.1 127).N x.2.1 1440).N x.2.2 1440
def Bb.shifts (b : Bb) (l : List (Int × Int × Int)) (most : Int) : Bb := l.foldl Bb.shiftsS (b.N l.length most)
end Go.Proofs.Ytdhinjbkfffpeaa
end
section
namespace Go.Proofs.Ytdhinjbkfffpeaa
open Go.ChangeShapes Go.WideShapes Go.ChangeAt Go.RowKit Go.Joins Sp Fr Pk
def Bb.SetT (b : Bb) (x : Spn) : Bb := (b.M x.1).Z x.2 (-900) 900
def Bb.SetO (b : Bb) (x : Int) : Bb := b.N x 109937
def Bb.Set3 (s : Stg) (b : Bb) : Bb := (b.N s.before 240).N s.after 240
def Bb.Set2 (s : Stg) (b : Bb) : Bb := Bb.Set3 s (s.off.foldl Bb.SetO ((b.shifts s.shifts 10).N s.off.length 60))
def Bb.Settings (b : Bb) (s : Stg) : Bb := Bb.Set2 s (s.turns.foldl Bb.SetT ((b.Z s.base (-900) 900).N s.turns.length 700))
def Stg.cost (s : Stg) : Nat := s.turns.length * 20 + s.shifts.length * 30 + s.off.length * 10 + 60
def Bb.QyM (b : Bb) (x : Nat) : Bb := b.U x
def Bb.QyW (b : Bb) (x : Nat × Int) : Bb := (b.U x.1).N x.2 1000
def Bb.QyA (b : Bb) (x : Nat × Nat) : Bb := (b.U x.1).U x.2
def Bb.Qy4 (q : Qy) (b : Bb) : Bb := b.shifts q.prefer 8
def Bb.Qy3 (q : Qy) (b : Bb) : Bb := Bb.Qy4 q (q.apart.foldl Bb.QyA ((b.N q.seats 100).N q.apart.length 32))
def Bb.Qy2 (q : Qy) (b : Bb) : Bb := Bb.Qy3 q (q.may.foldl Bb.QyW (b.N q.may.length 16))
def Bb.Query (b : Bb) (q : Qy) : Bb := Bb.Qy2 q (q.must.foldl Bb.QyM (((((b.M q.win.1).M q.win.2).N q.long 10080).N q.grid 1440).N q.must.length 64))
def Qy.cost (q : Qy) : Nat := q.must.length * 10 + q.may.length * 20 + q.apart.length * 20 + q.prefer.length * 30 + 90
def Bb.PlV (b : Bb) (x : Nat × Int) : Bb := (b.U x.1).N x.2 40
def Bb.Pl2 (o : Pl) (b : Bb) : Bb := ((b.M o.until_).N o.state 4).N o.winner 40
def Bb.Poll (b : Bb) (o : Pl) : Bb := Bb.Pl2 o (o.votes.foldl Bb.PlV (((((b.U o.id).U o.owner).Query o.query).stamps o.slots 40).N o.votes.length 4096))
def Pl.cost (o : Pl) : Nat := o.query.cost + o.slots.length * 10 + o.votes.length * 20 + 70
theorem len_le {w : World} {A : Option Addr} {n c : Nat} {xs : List Value} (h : Sl w A n c xs) : (n : Int) ≤ 9223372036854775807 := by have h1 := h.le; have h2 := h.cap; unfold maxLen at h2; omega
end Go.Proofs.Ytdhinjbkfffpeaa
end
section
namespace Go.Proofs.Ytdhinjbkfffpeaa
open Go.ChangeShapes Go.WideShapes Go.ChangeAt Go.RowKit Go.Joins Sp Fr Pk
def Bb.EvD (b : Bb) (x : Spn) : Bb := (b.Z x.1 (-5) 5).N x.2 6
def Bb.EvC (b : Bb) (x : Int × Int × Int) : Bb := ((b.M x.1).M x.2.1).N x.2.2 10080
def Bb.Ev2 (e : Evt) (b : Bb) : Bb := e.ch.foldl Bb.EvC (((((b.small e.rule.bs).N e.rule.start 6).stamps e.ex 50).stamps e.plus 50).N e.ch.length 50)
def Bb.Ev1 (e : Evt) (b : Bb) : Bb := Bb.Ev2 e (e.rule.bw.foldl Bb.EvD (((((((b.N e.rule.freq 4).N e.rule.iv 999).N e.rule.count 5000).M e.rule.until_).small e.rule.bm).small e.rule.bd).N e.rule.bw.length 400))
def Bb.Event (b : Bb) (e : Evt) : Bb := if e.again = true then Bb.Ev1 e (((b.M e.start).N e.long 10080).F e.again) else (((b.M e.start).N e.long 10080).F e.again).F e.world
def Evt.cost (e : Evt) : Nat := (e.rule.bm.length + e.rule.bd.length + e.rule.bs.length + e.ex.length + e.plus.length) * 10 + e.rule.bw.length * 20 + e.ch.length * 30 + 160
end Go.Proofs.Ytdhinjbkfffpeaa
end
