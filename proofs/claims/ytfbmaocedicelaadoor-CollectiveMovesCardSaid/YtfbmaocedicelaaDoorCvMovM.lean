/- What a choice means, plainly. No statement of the seat is proved here. -/
import Derived.Test.YtfbmaocedicelaaDoorCvStops
namespace Go.Proofs.YtfbmaocedicelaaDoor
open Go.RowKit

theorem atK_eq {F f : Nat} {s : Stp} (hf : f < F) : atK F s f F = Cv.atB F s f := by
  unfold atK
  rw [Bool.eq_iff_iff, List.any_eq_true]
  constructor
  · rintro ⟨j, _, h⟩
    simp only [Bool.and_eq_true, decide_eq_true_eq] at h
    rw [← h.2]; exact h.1
  · intro h
    exact ⟨f, List.mem_range.2 hf, by simp [h]⟩
theorem abK_eq {F o f : Nat} {s : Stp} (hs : s.ok) (hF : F ≤ 32) (hf : f < F) : abK F s f F = (Cv.look F o f s).ab := by
  unfold abK
  rw [Bool.eq_iff_iff, List.any_eq_true, Cv.look_ab hs hF hf]
  constructor
  · rintro ⟨j, _, h⟩
    simp only [Bool.and_eq_true, decide_eq_true_eq] at h
    exact ⟨j, h.2, h.1⟩
  · rintro ⟨k, h1, h2⟩
    exact ⟨k, List.mem_range.2 (Cv.atB_lt h2), by simp [h1, h2]⟩
theorem beK_eq {F o f : Nat} {s : Stp} (hs : s.ok) (hF : F ≤ 32) (hf : f < F) : beK F s f F = (Cv.look F o f s).be := by
  unfold beK
  rw [Bool.eq_iff_iff, List.any_eq_true, Cv.look_be hs hF hf]
  constructor
  · rintro ⟨j, _, h⟩
    simp only [Bool.and_eq_true, decide_eq_true_eq] at h
    exact ⟨j, h.2, h.1⟩
  · rintro ⟨k, h1, h2⟩
    exact ⟨k, List.mem_range.2 (Cv.atB_lt h2), by simp [h1, h2]⟩
/-- What the law asks of an opening. -/
theorem open_ok {F o f d k : Nat} {s : Stp} (hs : s.ok) (hF : F ≤ 32) (hf : f < F) (hd : d ≤ 2) (h : Cv.choose (Cv.look F o f s) d = Cv.openC k) (hk : k ≤ 2) :
    Cv.atB F s f = true ∧ ¬ (k = 1 ∧ f + 1 = F) ∧ ¬ (k = 2 ∧ f = 0) ∧ (((Cv.look F o f s).ab || (Cv.look F o f s).be) && o.testBit k) = false := by
  have hfit := Cv.look_fit F o f s
  obtain ⟨h1, h2, h0⟩ := Cv.ch_open _ d hfit hd
  have hup := Cv.look_up (o := o) hs hF hf
  have hdn := Cv.look_dn (o := o) hs hF hf
  have hcar := Cv.look_car (o := o) hs hF hf
  have hab := Cv.look_ab (o := o) hs hF hf
  have hbe := Cv.look_be (o := o) hs hF hf
  have hcd := Cv.cd_cases (o := o) hs hF hf
  have atU : (Cv.look F o f s).up = true → Cv.atB F s f = true ∧ f + 1 < F ∧ (Cv.cd o f (Cv.cnt F s)).testBit 1 = false := fun hu => by
    rw [hup] at hu
    simp only [Bool.and_eq_true, decide_eq_true_eq, Bool.not_eq_true'] at hu
    refine ⟨?_, hu.1.2, hu.2⟩
    unfold Cv.atB
    simp [hf, hu.1.1, hu.1.2]
  have atD : (Cv.look F o f s).dn = true → Cv.atB F s f = true ∧ 0 < f ∧ (Cv.cd o f (Cv.cnt F s)).testBit 2 = false := fun hu => by
    rw [hdn] at hu
    simp only [Bool.and_eq_true, decide_eq_true_eq, Bool.not_eq_true'] at hu
    refine ⟨?_, hu.1.2, hu.2⟩
    unfold Cv.atB
    simp [hf, hu.1.1, hu.1.2]
  have atC : (Cv.look F o f s).car = true → Cv.atB F s f = true ∧ Cv.cd o f (Cv.cnt F s) = 0 := fun hu => by
    rw [hcar] at hu
    simp only [Bool.and_eq_true, decide_eq_true_eq] at hu
    refine ⟨?_, hu.2⟩
    unfold Cv.atB
    simp [hf, hu.1]
  have upA : (Cv.look F o f s).ab = true → f + 1 < F := fun hu => by
    obtain ⟨j, hj, hb⟩ := hab.1 hu
    have := Cv.atB_lt hb
    omega
  have dnB : (Cv.look F o f s).be = true → 0 < f := fun hu => by
    obtain ⟨j, hj, hb⟩ := hbe.1 hu
    omega
  have last : ∀ j, (Cv.cd o f (Cv.cnt F s)).testBit j = false → (((Cv.look F o f s).ab || (Cv.look F o f s).be) && o.testBit j) = false := fun j hj => by
    rcases hcd with ⟨-, rfl | ⟨hn, -⟩⟩ | ⟨hc, -⟩
    · simp
    · have ha : (Cv.look F o f s).ab = false := by
        cases hz : (Cv.look F o f s).ab
        · rfl
        · obtain ⟨q, h1, h2⟩ := hab.1 hz
          rw [hn q (by omega)] at h2; cases h2
      have hb : (Cv.look F o f s).be = false := by
        cases hz : (Cv.look F o f s).be
        · rfl
        · obtain ⟨q, h1, h2⟩ := hbe.1 hz
          rw [hn q (by omega)] at h2; cases h2
      rw [ha, hb]; rfl
    · rw [hc] at hj
      rw [hj]; simp
  obtain rfl | rfl | rfl : k = 0 ∨ k = 1 ∨ k = 2 := by omega
  · obtain ⟨a, b, c, _, _⟩ := h0 h
    refine ⟨(atC a).1, fun e => by simp at e, fun e => by simp at e, ?_⟩
    rw [b, c]; rfl
  · rcases h1 h with hu | ⟨hc, ha⟩
    · obtain ⟨a, b, c⟩ := atU hu
      exact ⟨a, fun e => by omega, fun e => by simp at e, last 1 c⟩
    · obtain ⟨a, b⟩ := atC hc
      have := upA ha
      exact ⟨a, fun e => by omega, fun e => by simp at e, last 1 (by rw [b]; simp)⟩
  · rcases h2 h with hu | ⟨hc, ha⟩
    · obtain ⟨a, b, c⟩ := atD hu
      exact ⟨a, fun e => by simp at e, fun e => by omega, last 2 c⟩
    · obtain ⟨a, b⟩ := atC hc
      have := dnB ha
      exact ⟨a, fun e => by simp at e, fun e => by omega, last 2 (by rw [b]; simp)⟩
theorem none_ok {F o f d : Nat} {s : Stp} (hs : s.ok) (hF : F ≤ 32) (hf : f < F) (hd : d ≤ 2) (h : Cv.choose (Cv.look F o f s) d = Cv.moveC 0) : Cv.atB F s f = false ∧ (Cv.look F o f s).ab = false ∧ (Cv.look F o f s).be = false := by
  obtain ⟨h1, h2, h3, h4, h5⟩ := Cv.ch_none _ d (Cv.look_fit F o f s) hd h
  exact ⟨Cv.look_none hs hF hf h1 h2 h3 h4 h5 f, h4, h5⟩
end Go.Proofs.YtfbmaocedicelaaDoor
