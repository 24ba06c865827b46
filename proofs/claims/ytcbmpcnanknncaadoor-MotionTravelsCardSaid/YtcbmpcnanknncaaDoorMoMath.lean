/- Steps between floors, plainly: states, the step of a tick, and the plays of the laws. No statement of the seat is proved here. -/
import Derived.Test.YtcbmpcnanknncaaDoorMem
namespace Go.Proofs.YtcbmpcnanknncaaDoor
open Go.RowKit

/-- A step between floors: the command, its time, the floor where it began. -/
structure Mo where
  c : Int
  t : Int
  f : Int
deriving DecidableEq
namespace Mo
def cells (s : Mo) : List Value := [.int .i64 s.c, .int .i64 s.t, .int .i64 s.f]
def agg (s : Mo) : Value := .agg #[.int .i64 s.c, .int .i64 s.t, .int .i64 s.f]
def ag (s : Mo) : Value := .agg s.cells.toArray
def zero : Mo := ⟨0, 0, 0⟩
def same (x y : Mo) : Bool := x.c == y.c && (x.t == y.t && x.f == y.f)
theorem same_iff (x y : Mo) : same x y = true ↔ x = y := by
  obtain ⟨a, b, c⟩ := x
  obtain ⟨a', b', c'⟩ := y
  simp [same]
theorem same_self (x : Mo) : same x x = true := (same_iff x x).2 rfl
def isF (F n : Int) : Bool := decide (0 ≤ n) && decide (n < F)
def tgt (s : Mo) : Int := if s.c = 1 then s.f + 1 else s.f - 1
def isB (F : Int) (s : Mo) : Bool :=
  (decide (2 ≤ F) && decide (F ≤ 32) && (decide (0 ≤ s.t) && decide (s.t ≤ 1000000))) && (if s.c = 0 then s.f == 0 else if s.c = 1 ∨ s.c = 2 then isF F s.f && isF F s.tgt else false)
def later (s : Mo) : Mo := if 0 ≤ s.t ∧ s.t < 1000000 then ⟨s.c, s.t + 1, s.f⟩ else s
def late (st : Int) (s : Mo) : Bool := decide (st < s.t)
/-- The state, the command, and whether the car has arrived. -/
def stepF (F : Int) (s : Mo) (fl : Int) (lv : Bool) (want : Int) : Mo × Int × Bool :=
  if (s.isB F && isF F fl) = false then (zero, 0, false)
  else if s.c ≠ 0 then (if lv = true ∧ fl = s.tgt then (zero, 0, true) else (s.later, s.c, false))
  else if lv = false then (s.later, 0, false)
  else if want ≠ 0 ∧ isB F ⟨want, 0, fl⟩ = true then (⟨want, 0, fl⟩, want, false) else (zero, 0, false)
def skipF (s : Mo) : Mo := if s.c ≠ 0 ∨ s.t ≠ 0 then s.later else s

theorem isB_up {F f t : Int} (hF : 2 ≤ F ∧ F ≤ 32) (ht : 0 ≤ t ∧ t ≤ 1000000) (hf : 0 ≤ f) (h1 : f + 1 < F) : isB F ⟨1, t, f⟩ = true := by
  unfold isB isF tgt
  simp
  omega
theorem isB_dn {F f t : Int} (hF : 2 ≤ F ∧ F ≤ 32) (ht : 0 ≤ t ∧ t ≤ 1000000) (hf : 1 ≤ f) (h1 : f < F) : isB F ⟨2, t, f⟩ = true := by
  unfold isB isF tgt
  simp
  omega
theorem isB_none {F t : Int} (hF : 2 ≤ F ∧ F ≤ 32) (ht : 0 ≤ t ∧ t ≤ 1000000) : isB F ⟨0, t, 0⟩ = true := by
  unfold isB
  simp
  omega
theorem isF_of {F f : Int} (h0 : 0 ≤ f) (h1 : f < F) : isF F f = true := by
  unfold isF
  simp
  omega
/-- A car that is not level waits. -/
theorem step_wait {F t fl want : Int} (hF : 2 ≤ F ∧ F ≤ 32) (ht : 0 ≤ t ∧ t < 1000000) (h0 : 0 ≤ fl) (h1 : fl < F) : stepF F ⟨0, t, 0⟩ fl false want = (⟨0, t + 1, 0⟩, 0, false) := by
  unfold stepF
  rw [isB_none hF (by omega), isF_of h0 h1]
  simp only [Bool.and_self, Bool.true_eq_false, if_false, ne_eq, not_true_eq_false, if_true]
  unfold later
  rw [if_pos (by simp only; omega)]
/-- A level car without a wish, or at the end of the building, stays. -/
theorem step_none {F t fl : Int} (hF : 2 ≤ F ∧ F ≤ 32) (ht : 0 ≤ t ∧ t ≤ 1000000) (h0 : 0 ≤ fl) (h1 : fl < F) : stepF F ⟨0, t, 0⟩ fl true 0 = (zero, 0, false) := by
  unfold stepF
  rw [isB_none hF ht, isF_of h0 h1]
  simp
/-- A step begins, or there is no floor. -/
theorem step_begin {F fl want : Int} (hF : 2 ≤ F ∧ F ≤ 32) (h0 : 0 ≤ fl) (h1 : fl < F) (hw : want = 1 ∨ want = 2) :
    stepF F zero fl true want = if (want = 1 ∧ fl = F - 1) ∨ (want = 2 ∧ fl = 0) then (zero, 0, false) else (⟨want, 0, fl⟩, want, false) := by
  unfold stepF zero
  rw [isB_none hF (by omega), isF_of h0 h1]
  simp only [Bool.and_self, Bool.true_eq_false, if_false, ne_eq, not_true_eq_false]
  rcases hw with rfl | rfl
  · by_cases h : fl = F - 1
    · rw [if_neg (fun hh => by have := hh.2; unfold isB isF tgt at this; simp at this; omega), if_pos (.inl ⟨rfl, h⟩)]
    · rw [if_pos ⟨by omega, isB_up hF (by omega) h0 (by omega)⟩, if_neg (by omega)]
  · by_cases h : fl = 0
    · rw [if_neg (fun hh => by have := hh.2; unfold isB isF tgt at this; simp at this; omega), if_pos (.inr ⟨rfl, h⟩)]
    · rw [if_pos ⟨by omega, isB_dn hF (by omega) (by omega) h1⟩, if_neg (by omega)]
/-- A step goes on: where the car is level only where the step began. -/
theorem step_ride {F t fl want w2 : Int} (lv : Bool) (hF : 2 ≤ F ∧ F ≤ 32) (ht : 0 ≤ t ∧ t < 1000000) (h0 : 0 ≤ fl) (h1 : fl < F) (hw : (want = 1 ∧ fl + 1 < F) ∨ (want = 2 ∧ 1 ≤ fl)) :
    stepF F ⟨want, t, fl⟩ fl lv w2 = (⟨want, t + 1, fl⟩, want, false) := by
  have hB : isB F ⟨want, t, fl⟩ = true := by
    rcases hw with ⟨rfl, h⟩ | ⟨rfl, h⟩
    · exact isB_up hF (by omega) h0 h
    · exact isB_dn hF (by omega) h h1
  unfold stepF
  rw [hB, isF_of h0 h1]
  simp only [Bool.and_self, Bool.true_eq_false, if_false]
  rw [if_pos (by omega), if_neg (fun h => by have := h.2; unfold tgt at this; simp only at this; split at this <;> omega)]
  unfold later
  rw [if_pos (by simp only; omega)]
/-- A step ends at its floor. -/
theorem step_end {F t fl want w2 : Int} (hF : 2 ≤ F ∧ F ≤ 32) (ht : 0 ≤ t ∧ t ≤ 1000000) (h0 : 0 ≤ fl) (h1 : fl < F) (hw : (want = 1 ∧ fl + 1 < F) ∨ (want = 2 ∧ 1 ≤ fl)) :
    stepF F ⟨want, t, fl⟩ (if want = 2 then fl - 1 else fl + 1) true w2 = (zero, 0, true) := by
  have hB : isB F ⟨want, t, fl⟩ = true := by
    rcases hw with ⟨rfl, h⟩ | ⟨rfl, h⟩
    · exact isB_up hF ht h0 h
    · exact isB_dn hF ht h h1
  have hto : isF F (if want = 2 then fl - 1 else fl + 1) = true := isF_of (by split <;> omega) (by split <;> omega)
  unfold stepF
  rw [hB, hto]
  simp only [Bool.and_self, Bool.true_eq_false, if_false]
  rw [if_pos (by omega), if_pos ⟨trivial, by unfold tgt; simp only; rcases hw with ⟨rfl, h⟩ | ⟨rfl, h⟩ <;> simp⟩]
theorem skip_on {c t f : Int} (hc : c ≠ 0) (ht : 0 ≤ t ∧ t < 1000000) : skipF ⟨c, t, f⟩ = ⟨c, t + 1, f⟩ := by
  unfold skipF later
  rw [if_pos (.inl hc), if_pos (by simp only; omega)]
theorem skip_zero : skipF zero = zero := by decide
end Mo
end Go.Proofs.YtcbmpcnanknncaaDoor
