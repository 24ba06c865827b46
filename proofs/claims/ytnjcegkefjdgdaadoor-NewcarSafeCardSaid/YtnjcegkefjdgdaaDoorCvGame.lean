/- A car that is played: when its calls are shown, plainly. No statement of the seat is proved here. -/
import Derived.Test.YtnjcegkefjdgdaaDoorG0
namespace Go.Proofs.YtnjcegkefjdgdaaDoor
open Go.RowKit

namespace Cv
/-- The nearer direction is one in which there are stops. -/
def Sc.fit (x : Sc) : Bool := (x.nr == 1 && x.ab) || (x.nr == 2 && x.be) || (x.nr == 0 && (!x.ab && !x.be))
theorem look_fit (F o f : Nat) (s : Stp) : (look F o f s).fit = true := by
  unfold look Sc.fit near
  simp only
  cases h1 : upF (live F o f s).bits f <;> cases h2 : dnF (live F o f s).bits f
  · rfl
  · rfl
  · rfl
  · simp only
    split <;> rfl
def inL (c : Ch) (l : List Ch) : Bool := l.any fun x => decide (c = x)
def Q (P : Sc → Nat → Bool) : Bool := [true, false].all fun a => [true, false].all fun b => [true, false].all fun c => [true, false].all fun d => [true, false].all fun e => [0, 1, 2].all fun n => [0, 1, 2].all fun k => !(Sc.fit ⟨a, b, c, d, e, n⟩) || P ⟨a, b, c, d, e, n⟩ k
theorem mem_bool (b : Bool) : b ∈ [true, false] := by cases b <;> simp
theorem Q_out {P : Sc → Nat → Bool} (h : Q P = true) {x : Sc} (hx : x.fit = true) {d : Nat} (hd : d ≤ 2) : P x d = true := by
  obtain ⟨a, b, c, e, f, n⟩ := x
  have hn : n ∈ [0, 1, 2] := by
    simp [Sc.fit] at hx
    simp only [List.mem_cons, List.not_mem_nil, or_false]
    omega
  have hk : d ∈ [0, 1, 2] := by
    simp only [List.mem_cons, List.not_mem_nil, or_false]
    omega
  have h1 := List.all_eq_true.1 h a (mem_bool a)
  have h2 := List.all_eq_true.1 h1 b (mem_bool b)
  have h3 := List.all_eq_true.1 h2 c (mem_bool c)
  have h4 := List.all_eq_true.1 h3 e (mem_bool e)
  have h5 := List.all_eq_true.1 h4 f (mem_bool f)
  have h6 := List.all_eq_true.1 h5 n hn
  have h7 := List.all_eq_true.1 h6 d hk
  rw [hx] at h7
  simpa using h7
theorem inL_iff {c : Ch} {l : List Ch} : inL c l = true ↔ c ∈ l := by
  unfold inL
  rw [List.any_eq_true]
  constructor
  · rintro ⟨x, hx, h⟩
    rw [of_decide_eq_true h]; exact hx
  · intro h
    exact ⟨c, h, decide_eq_true rfl⟩
theorem ch_in (x : Sc) (d : Nat) (hx : x.fit = true) (hd : d ≤ 2) : choose x d ∈ [openC 0, openC 1, openC 2, moveC 0, moveC 1, moveC 2] :=
  inL_iff.1 (Q_out (P := fun x d => inL (choose x d) [openC 0, openC 1, openC 2, moveC 0, moveC 1, moveC 2]) (by decide +kernel) hx hd)
def b2 (b : Bool) : Nat := if b then 1 else 0
/-- What holds while the call up at g has not been shown. -/
structure Inv1 (F g f d o last turns moves opens i : Nat) : Prop where
  ff : f < F
  dd : d ≤ 2
  oo : o ≤ 7
  l : last ≤ 2
  z : last = 0 → turns = 0 ∧ moves = 0
  m : f = g → o.testBit 1 = true → last = 0 ∧ opens ≤ b2 (o.testBit 2)
  n : last ≠ 0 → d ≠ 0
  s : last ≠ 0 → d = 1 → f ≤ g → turns + (if last = 2 then 1 else 0) ≤ 2 ∧ moves + (g - f) ≤ 3 * F
  u : last ≠ 0 → d = 1 → g < f → last = 1 ∧ turns = 0 ∧ moves + (F - 1 - f) + (F - 1) + g ≤ 3 * F
  w : last ≠ 0 → d = 2 → turns + 1 + (if last = 1 then 1 else 0) ≤ 2 ∧ moves + f + g ≤ 3 * F
  b : opens ≤ 1 + b2 (o.testBit 1) + b2 (o.testBit 2)
  ii : i ≤ 4 * moves + opens
structure Inv2 (F g f d o last turns moves opens i : Nat) : Prop where
  ff : f < F
  dd : d ≤ 2
  oo : o ≤ 7
  l : last ≤ 2
  z : last = 0 → turns = 0 ∧ moves = 0
  m : f = g → o.testBit 2 = true → last = 0 ∧ opens ≤ b2 (o.testBit 1)
  n : last ≠ 0 → d ≠ 0
  s : last ≠ 0 → d = 2 → g ≤ f → turns + (if last = 1 then 1 else 0) ≤ 2 ∧ moves + (f - g) ≤ 3 * F
  u : last ≠ 0 → d = 2 → f < g → last = 2 ∧ turns = 0 ∧ moves + f + (F - 1) + (F - 1 - g) ≤ 3 * F
  w : last ≠ 0 → d = 1 → turns + 1 + (if last = 2 then 1 else 0) ≤ 2 ∧ moves + (F - 1 - f) + (F - 1 - g) ≤ 3 * F
  b : opens ≤ 1 + b2 (o.testBit 1) + b2 (o.testBit 2)
  ii : i ≤ 4 * moves + opens
theorem b2_le (b : Bool) : b2 b ≤ 1 := by cases b <;> decide
theorem Inv1.all {F g f d o last turns moves opens i : Nat} (h : Inv1 F g f d o last turns moves opens i) : turns ≤ 2 ∧ moves ≤ 3 * F ∧ opens ≤ 3 := by
  have hb1 := b2_le (o.testBit 1)
  have hb2 := b2_le (o.testBit 2)
  have hb := h.b
  have hS : turns ≤ 2 ∧ moves ≤ 3 * F := by
    by_cases hl : last = 0
    · have := h.z hl; omega
    · have hd := h.dd
      have := h.n hl
      have hd' : d = 1 ∨ d = 2 := by omega
      rcases hd' with rfl | rfl
      · rcases Nat.lt_or_ge g f with h1 | h1
        · have := h.u hl rfl h1; omega
        · have := h.s hl rfl h1; omega
      · have := h.w hl rfl; omega
  exact ⟨hS.1, hS.2, by omega⟩

theorem Inv2.all {F g f d o last turns moves opens i : Nat} (h : Inv2 F g f d o last turns moves opens i) : turns ≤ 2 ∧ moves ≤ 3 * F ∧ opens ≤ 3 := by
  have hb1 := b2_le (o.testBit 1)
  have hb2 := b2_le (o.testBit 2)
  have hb := h.b
  have hS : turns ≤ 2 ∧ moves ≤ 3 * F := by
    by_cases hl : last = 0
    · have := h.z hl; omega
    · have hd := h.dd
      have := h.n hl
      have hd' : d = 2 ∨ d = 1 := by omega
      rcases hd' with rfl | rfl
      · rcases Nat.lt_or_ge f g with h1 | h1
        · have := h.u hl rfl h1; omega
        · have := h.s hl rfl h1; omega
      · have := h.w hl rfl; omega
  exact ⟨hS.1, hS.2, by omega⟩
end Cv
end Go.Proofs.YtnjcegkefjdgdaaDoor
