/- Doors, plainly: states, the step of a tick, and how a door ends. No statement of the seat is proved here. -/
import Derived.Test.YthniolaeicmjlaaMem
namespace Go.Proofs.Ythniolaeicmjlaa
open Go.RowKit

/-- A door's state. -/
structure Dr where
  st : Int
  ti : Int
  si : Int
  nu : Bool
  cy : Int
deriving DecidableEq
namespace Dr
def cells (s : Dr) : List Value := [.int .i64 s.st, .int .i64 s.ti, .int .i64 s.si, .bool s.nu, .int .i64 s.cy]
def agg (s : Dr) : Value := .agg #[.int .i64 s.st, .int .i64 s.ti, .int .i64 s.si, .bool s.nu, .int .i64 s.cy]
def zero : Dr := ⟨0, 0, 0, false, 0⟩
def isCount (n : Int) : Bool := decide (0 ≤ n) && decide (n ≤ 1000000)
def same (x y : Dr) : Bool := x.st == y.st && (x.ti == y.ti && (x.si == y.si && (x.nu == y.nu && x.cy == y.cy)))
theorem same_iff (x y : Dr) : same x y = true ↔ x = y := by
  obtain ⟨a, b, c, d, e⟩ := x
  obtain ⟨a', b', c', d', e'⟩ := y
  simp [same]
theorem same_self (x : Dr) : same x x = true := (same_iff x x).2 rfl
def isB (s : Dr) : Bool := if s.st = 0 then same s zero else decide (1 ≤ s.st) && decide (s.st ≤ 3) && isCount s.ti && isCount s.si && isCount s.cy
def more (n : Int) : Int := if n + 1 ≤ 1000000 then n + 1 else 1000000
def next (n : Int) : Int := if n = 0 then 0 else more n
def late (tr : Int) (s : Dr) : Bool := (s.st == 1 || s.st == 3) && decide (tr < s.ti)
/-- The step of a state, and the command. -/
def stepG (dw ho : Int) (s : Dr) (d : Int) (b w : Bool) : Dr × Int :=
  if s.st = 0 then (if w = true then (⟨1, 0, 0, false, 0⟩, 3) else (zero, 0))
  else if s.st = 1 then
    (if d = 1 then (⟨2, 0, (if next s.si ≤ 1 then 1 else next s.si), s.nu, s.cy⟩, 0)
     else if ho < next s.si then (⟨3, 0, next s.si, true, s.cy⟩, 5)
     else (⟨1, more s.ti, next s.si, s.nu, s.cy⟩, 3))
  else if s.st = 2 then
    (if ho < next s.si then (⟨3, 0, next s.si, true, s.cy⟩, 5)
     else if dw ≤ s.ti + 1 ∧ b = false then (⟨3, 0, next s.si, s.nu, s.cy⟩, 4)
     else (⟨2, more s.ti, next s.si, s.nu, s.cy⟩, 0))
  else
    (if d = 2 then (zero, 0)
     else if ho < next s.si then (if s.nu = true then (⟨3, more s.ti, next s.si, true, s.cy⟩, 5) else (⟨3, 0, next s.si, true, s.cy⟩, 5))
     else if b = true then (⟨1, 0, next s.si, s.nu, more s.cy⟩, 3)
     else (⟨3, more s.ti, next s.si, s.nu, s.cy⟩, 4))
def stepF (dw ho : Int) (s : Dr) (d : Int) (b w : Bool) : Dr × Int :=
  if s.isB = true then stepG dw ho s d b w else stepG dw ho zero d b w
def skipF (s : Dr) : Dr := if s.isB = true ∧ s.st ≠ 0 then ⟨s.st, more s.ti, next s.si, s.nu, s.cy⟩ else s

theorem zero_isB : zero.isB = true := by decide
theorem isB_zero {s : Dr} (h : s.isB = true) (h0 : s.st = 0) : s = zero := by
  unfold isB at h
  rw [if_pos h0, same_iff] at h
  exact h
theorem isB_iff {s : Dr} (h0 : s.st ≠ 0) : s.isB = true ↔ (1 ≤ s.st ∧ s.st ≤ 3) ∧ (0 ≤ s.ti ∧ s.ti ≤ 1000000) ∧ (0 ≤ s.si ∧ s.si ≤ 1000000) ∧ (0 ≤ s.cy ∧ s.cy ≤ 1000000) := by
  unfold isB isCount
  rw [if_neg h0]
  simp only [Bool.and_eq_true, decide_eq_true_eq, and_assoc]
theorem more_range {n : Int} (h : 0 ≤ n ∧ n ≤ 1000000) : 0 ≤ more n ∧ more n ≤ 1000000 := by
  unfold more
  split <;> omega
theorem next_range {n : Int} (h : 0 ≤ n ∧ n ≤ 1000000) : 0 ≤ next n ∧ next n ≤ 1000000 := by
  unfold next
  split
  · omega
  · exact more_range h
theorem stepG_isB (dw ho : Int) {s : Dr} (d : Int) (b w : Bool) (h : s.isB = true) : (stepG dw ho s d b w).1.isB = true := by
  by_cases h0 : s.st = 0
  · unfold stepG
    rw [if_pos h0]
    cases w <;> decide
  · obtain ⟨h1, h2, h3, h4⟩ := (isB_iff h0).1 h
    have m2 := more_range h2
    have m3 := next_range h3
    have m4 := more_range h4
    have key : ∀ t : Dr, t.st ≠ 0 → (1 ≤ t.st ∧ t.st ≤ 3) → (0 ≤ t.ti ∧ t.ti ≤ 1000000) → (0 ≤ t.si ∧ t.si ≤ 1000000) → (0 ≤ t.cy ∧ t.cy ≤ 1000000) → t.isB = true := fun t h0 a b c d => (isB_iff h0).2 ⟨a, b, c, d⟩
    unfold stepG
    generalize next s.si = n at *
    generalize more s.ti = m at *
    generalize more s.cy = k at *
    repeat' split
    all_goals first
      | contradiction
      | exact zero_isB
      | (refine key _ ?_ ?_ ?_ ?_ ?_ <;> simp only <;> omega)
theorem stepF_isB (dw ho : Int) (s : Dr) (d : Int) (b w : Bool) : (stepF dw ho s d b w).1.isB = true := by
  unfold stepF
  split
  · exact stepG_isB _ _ _ _ _ ‹_›
  · exact stepG_isB _ _ _ _ _ zero_isB
theorem stepF_of {s : Dr} (h : s.isB = true) (dw ho d : Int) (b w : Bool) : stepF dw ho s d b w = stepG dw ho s d b w := if_pos h
end Dr
end Go.Proofs.Ythniolaeicmjlaa
