/- Hours in plain numbers. No text of the program is read here. -/
namespace Hr
structure H where
  shifts : List (Int × Int × Int)
  off : List Int
def okS (s : Int × Int × Int) : Prop := 1 ≤ s.1 ∧ s.1 ≤ 127 ∧ 0 ≤ s.2.1 ∧ s.2.1 < s.2.2 ∧ s.2.2 ≤ 1440
instance (s : Int × Int × Int) : Decidable (okS s) := by unfold okS; infer_instance
def okO (l : List Int) (i : Nat) : Prop := 0 ≤ l.getD i 0 ∧ l.getD i 0 ≤ 109937 ∧ (0 < i → l.getD (i - 1) 0 < l.getD i 0)
instance (l : List Int) (i : Nat) : Decidable (okO l i) := by unfold okO; infer_instance
/-- May hours be? -/
def mayH (h : H) : Prop := h.shifts.length ≤ 10 ∧ h.off.length ≤ 60 ∧ (∀ s ∈ h.shifts, okS s) ∧ ∀ i, i < h.off.length → okO h.off i
instance (h : H) : Decidable (mayH h) := by unfold mayH; infer_instance
def mayHB (h : H) : Bool := decide (mayH h)
theorem may_no {h : H} (n : ¬ mayH h) : mayHB h = false := decide_eq_false n
theorem may_yes {h : H} (n : mayH h) : mayHB h = true := decide_eq_true n
/-- Is a number's bit 1? -/
def bitB (n : Int) (k : Nat) : Bool := decide ((n / 2 ^ k) % 2 = 1)
def onB (day minute : Int) (s : Int × Int × Int) : Bool := bitB s.1 ((day + 7) % 7).toNat && decide (s.2.1 ≤ minute) && decide (minute < s.2.2)
/-- Is a minute worked, at a local time so much later? -/
def worksB (h : H) (add : Int → Int) (utc : Int) : Bool :=
  decide (0 ≤ utc) && decide (utc ≤ 158310719) &&
    (!(h.off.any fun d => decide (d = (utc + add utc + 10080) / 1440 - 7)) && h.shifts.any (onB ((utc + add utc + 10080) / 1440 - 7) ((utc + add utc + 10080) % 1440)))
end Hr
