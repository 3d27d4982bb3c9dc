import Derived.Test.YtbclfcghacedfaaGreatDoorZCEnv
import Derived.Test.YtbclfcghacedfaaGreatDoorZGW6
import Derived.LaidLaws
/- What a row of this layer lists, as facts on the world. -/
section
namespace Go.Proofs.YtbclfcghacedfaaGreatDoor
open Go.RowKit Ck Qr

theorem dayAt9 : Tryz.prog.globalNamed "vespers/clock.dayNames" = some 1 := by kernel_rfl
theorem dayType9 : (Tryz.prog.globals[1]?).map (·.type) = some 105 := by kernel_rfl
theorem freqAt9 : Tryz.prog.globalNamed "vespers/rule.freqNames" = some 0 := by kernel_rfl
theorem freqType9 : (Tryz.prog.globals[0]?).map (·.type) = some 37 := by kernel_rfl
theorem synAt9 : Tryz.prog.globalNamed "strconv.ErrSyntax" = some 7 := by kernel_rfl
theorem synType9 : (Tryz.prog.globals[7]?).map (·.type) = some 98 := by kernel_rfl
theorem ranAt9 : Tryz.prog.globalNamed "strconv.ErrRange" = some 8 := by kernel_rfl
theorem ranType9 : (Tryz.prog.globals[8]?).map (·.type) = some 98 := by kernel_rfl

/-- A listed variable of an interface's type, first on the list: its cell. -/
theorem iface_of_head {P : Program} {W : World} {name nm : String} {d : DataW Unit} {rest : List (String × DataW Unit)} {g : Nat} {t : TypeId} {ms : Array (String × TypeId)}
    (hg : P.globalNamed name = some g) (hty : (P.globals[g]?).map (·.type) = some t) (hi : P.underlying t = some (.interface ms))
    (h : laidMet P ((name, .iface nm d) :: rest) W) : ∃ ev, W.cell? ⟨g, 0, none⟩ = some ev ∧ (ev = .nilIface ∨ ∃ te pe, ev = .iface te pe) := by
  obtain ⟨ps, ⟨g', t', cs, fuel, p, q, hg', ht', hvar, hd, _, _⟩, _⟩ := h
  obtain rfl := Option.some.inj (hg.symm.trans hg')
  obtain rfl := Option.some.inj (hty.symm.trans ht')
  obtain ⟨_, u, x, hcs, _, _⟩ := iface_of_trod hi hd
  have hc := World.var?_cell hg hvar 0
  rw [← Array.getElem?_toList, hcs] at hc
  exact ⟨_, hc, .inr ⟨u, x, rfl⟩⟩

theorem env9_of {W : World} (h : laidMet Tryz.prog Rows.ruleReadsRow.laid W) (hsh : W.ShapedOpen Tryz.prog) : Env9 W := by
  refine ⟨env_of h hsh, fun i hi => ?_, fun i hi => ?_, iface_of_head synAt9 synType9 Tryz.underlying98 h.tail.tail.tail.tail.tail, iface_of_head ranAt9 ranType9 Tryz.underlying98 h.tail.tail.tail.tail⟩
  · refine strs_of_head (l := [nm 0, nm 1, nm 2, nm 3, nm 4, nm 5, nm 6]) (e := 9) (n := 7) dayAt9 dayType9 (by kernel_rfl) (by kernel_rfl) (by kernel_rfl) (show laidMet Tryz.prog (("vespers/clock.dayNames", strData [nm 0, nm 1, nm 2, nm 3, nm 4, nm 5, nm 6]) :: _) W from h.tail.tail.tail.tail.tail.tail) i (nm i) hi ?_
    have : i = 0 ∨ i = 1 ∨ i = 2 ∨ i = 3 ∨ i = 4 ∨ i = 5 ∨ i = 6 := by omega
    rcases this with rfl | rfl | rfl | rfl | rfl | rfl | rfl <;> rfl
  · refine strs_of_head (l := [freqName 1, freqName 2, freqName 3, freqName 4]) (e := 9) (n := 4) freqAt9 freqType9 (by kernel_rfl) (by kernel_rfl) (by kernel_rfl) (show laidMet Tryz.prog (("vespers/rule.freqNames", strData [freqName 1, freqName 2, freqName 3, freqName 4]) :: _) W from h.tail.tail.tail.tail.tail.tail.tail) i (freqName (i + 1)) hi ?_
    have : i = 0 ∨ i = 1 ∨ i = 2 ∨ i = 3 := by omega
    rcases this with rfl | rfl | rfl | rfl <;> rfl
end Go.Proofs.YtbclfcghacedfaaGreatDoor
end
