/- A building turned upside down: mathematics. No statement of the seat is proved here. -/
import Derived.Test.YteniimbcbjbegaaDoorCvMath
namespace Go.Proofs.YteniimbcbjbegaaDoor
open Go.RowKit

namespace Cv
/-- A direction, and a choice, upside down. -/
def back (k : Nat) : Nat := if k = 1 then 2 else if k = 2 then 1 else k
def flipC (c : Ch) : Ch := ⟨back c.d_, back c.dir, back c.sh⟩
/-- The openings upside down. -/
def flipO (o : Nat) : Nat := (if o.testBit 0 then 1 else 0) + (if o.testBit 1 then 4 else 0) + (if o.testBit 2 then 2 else 0)
theorem flipO_facts : ∀ o : Fin 8, (flipO o.val).testBit 1 = o.val.testBit 2 ∧ (flipO o.val).testBit 2 = o.val.testBit 1 ∧ (flipO o.val = 0 ↔ o.val = 0) ∧ flipO o.val < 8 := by decide +kernel
/-- The stops t are the stops s upside down. -/
def Mir (F : Nat) (s t : Stp) : Prop := ∀ k, k < F → t.car.testBit k = s.car.testBit (F - 1 - k) ∧ t.h.up.testBit k = s.h.dn.testBit (F - 1 - k) ∧ t.h.dn.testBit k = s.h.up.testBit (F - 1 - k)
def flipS (x : Sc) (n : Nat) : Sc := ⟨x.dn, x.up, x.car, x.be, x.ab, n⟩
theorem choose_flip (x : Sc) (n : Nat) : choose (flipS x n) 2 = flipC (choose x 1) ∧ choose (flipS x n) 1 = flipC (choose x 2) := by
  obtain ⟨up, dn, car, ab, be, nr⟩ := x
  cases up <;> cases dn <;> cases car <;> cases ab <;> cases be <;> exact ⟨rfl, rfl⟩
theorem atB_mir {F : Nat} {s t : Stp} (h : Mir F s t) {k : Nat} (hk : k < F) : atB F t k = atB F s (F - 1 - k) := by
  obtain ⟨h1, h2, h3⟩ := h k hk
  unfold atB
  rw [h1, h2, h3, decide_eq_true hk, decide_eq_true (show F - 1 - k < F by omega)]
  have e1 : decide (F - 1 - k + 1 < F) = decide (0 < k) := decide_eq_decide.2 (by omega)
  have e2 : decide (0 < F - 1 - k) = decide (k + 1 < F) := decide_eq_decide.2 (by omega)
  rw [e1, e2]
  cases s.car.testBit (F - 1 - k) <;> cases s.h.up.testBit (F - 1 - k) <;> cases s.h.dn.testBit (F - 1 - k) <;> cases decide (0 < k) <;> cases decide (k + 1 < F) <;> rfl
/-- Nothing but what is marked. -/
def Zs (F o f : Nat) (s : Stp) : Prop := o = 0 ∨ (∀ k, k ≠ f → atB F s k = false) ∧ ((s.h.up.testBit f && decide (f + 1 < F)) = true → o.testBit 1 = true) ∧ ((s.h.dn.testBit f && decide (0 < f)) = true → o.testBit 2 = true)
theorem cd_zs {F o f : Nat} {s : Stp} (hs : s.ok) (hF : F ≤ 32) (hf : f < F) : (Zs F o f s ∧ cd o f (cnt F s) = 0) ∨ (¬ Zs F o f s ∧ o ≠ 0 ∧ cd o f (cnt F s) = o) := by
  rcases cd_cases (o := o) hs hF hf with ⟨h, hz⟩ | ⟨hc, ho, h⟩
  · exact .inl ⟨hz, h⟩
  · refine .inr ⟨?_, ho, hc⟩
    rintro (hz | ⟨hn, hu, hd⟩)
    · exact ho hz
    · rcases h with h | h | h | h
      · rw [look_up hs hF hf, hc] at h
        simp only [Bool.and_eq_true, Bool.not_eq_true'] at h
        have := hu (by simpa using h.1)
        rw [h.2] at this; cases this
      · rw [look_dn hs hF hf, hc] at h
        simp only [Bool.and_eq_true, Bool.not_eq_true'] at h
        have := hd (by simpa using h.1)
        rw [h.2] at this; cases this
      · obtain ⟨k, h1, h2⟩ := (look_ab hs hF hf).1 h
        rw [hn k (by omega)] at h2; cases h2
      · obtain ⟨k, h1, h2⟩ := (look_be hs hF hf).1 h
        rw [hn k (by omega)] at h2; cases h2
theorem zs_mir {F o f : Nat} {s t : Stp} (h : Mir F s t) (hf : f < F) (ho : o < 8) (hz : Zs F o f s) : Zs F (flipO o) (F - 1 - f) t := by
  obtain ⟨b1, b2, b0, _⟩ := flipO_facts ⟨o, ho⟩
  obtain ⟨h1, h2, h3⟩ := h (F - 1 - f) (by omega)
  have ef : F - 1 - (F - 1 - f) = f := by omega
  rw [ef] at h1 h2 h3
  rcases hz with hz | ⟨hn, hu, hd⟩
  · exact .inl (b0.2 hz)
  · refine .inr ⟨fun k hk => ?_, ?_, ?_⟩
    · rcases Nat.lt_or_ge k F with hkF | hkF
      · rw [atB_mir h hkF]
        exact hn _ (by omega)
      · unfold atB
        rw [decide_eq_false (by omega)]; rfl
    · rw [h2, b1]
      intro h
      refine hd ?_
      simp only [Bool.and_eq_true, decide_eq_true_eq] at h ⊢
      exact ⟨h.1, by omega⟩
    · rw [h3, b2]
      intro h
      refine hu ?_
      simp only [Bool.and_eq_true, decide_eq_true_eq] at h ⊢
      exact ⟨h.1, by omega⟩
theorem mir_symm {F : Nat} {s t : Stp} (h : Mir F s t) : Mir F t s := fun k hk => by
  obtain ⟨h1, h2, h3⟩ := h (F - 1 - k) (by omega)
  have ek : F - 1 - (F - 1 - k) = k := by omega
  rw [ek] at h1 h2 h3
  exact ⟨h1.symm, h3.symm, h2.symm⟩
theorem flipO_flip {o : Nat} (ho : o < 8) : flipO (flipO o) = o := by
  have := (by decide +kernel : ∀ o : Fin 8, flipO (flipO o.val) = o.val) ⟨o, ho⟩
  exact this
theorem look_mir {F o f : Nat} {s t : Stp} (hs : s.ok) (ht : t.ok) (h : Mir F s t) (hF : F ≤ 32) (hf : f < F) (ho : o < 8) : look F (flipO o) (F - 1 - f) t = flipS (look F o f s) (look F (flipO o) (F - 1 - f) t).nr := by
  obtain ⟨b1, b2, b0, bl⟩ := flipO_facts ⟨o, ho⟩
  have hf' : F - 1 - f < F := by omega
  have hz : Zs F (flipO o) (F - 1 - f) t → Zs F o f s := fun hz => by
    have := zs_mir (mir_symm h) hf' bl hz
    have e : F - 1 - (F - 1 - f) = f := by omega
    rw [flipO_flip ho, e] at this
    exact this
  have hc : (cd (flipO o) (F - 1 - f) (cnt F t)).testBit 1 = (cd o f (cnt F s)).testBit 2 ∧ (cd (flipO o) (F - 1 - f) (cnt F t)).testBit 2 = (cd o f (cnt F s)).testBit 1 ∧ (cd (flipO o) (F - 1 - f) (cnt F t) = 0 ↔ cd o f (cnt F s) = 0) := by
    rcases cd_zs (o := o) hs hF hf with ⟨z, c⟩ | ⟨z, n, c⟩ <;> rcases cd_zs (o := flipO o) ht hF hf' with ⟨z', c'⟩ | ⟨z', n', c'⟩
    · rw [c, c']; simp
    · exact absurd (zs_mir h hf ho z) z'
    · exact absurd (hz z') z
    · rw [c, c']; exact ⟨b1, b2, b0⟩
  obtain ⟨c1, c2, c0⟩ := hc
  obtain ⟨h1, h2, h3⟩ := h (F - 1 - f) hf'
  have ef : F - 1 - (F - 1 - f) = f := by omega
  rw [ef] at h1 h2 h3
  have e1 : decide (F - 1 - f + 1 < F) = decide (0 < f) := decide_eq_decide.2 (by omega)
  have e2 : decide (0 < F - 1 - f) = decide (f + 1 < F) := decide_eq_decide.2 (by omega)
  have eu : (look F (flipO o) (F - 1 - f) t).up = (look F o f s).dn := by
    rw [look_up ht hF hf', look_dn hs hF hf, c1, h2, e1]
  have ed : (look F (flipO o) (F - 1 - f) t).dn = (look F o f s).up := by
    rw [look_dn ht hF hf', look_up hs hF hf, c2, h3, e2]
  have ec : (look F (flipO o) (F - 1 - f) t).car = (look F o f s).car := by
    rw [look_car ht hF hf', look_car hs hF hf, h1, decide_eq_decide.2 c0]
  have ea : (look F (flipO o) (F - 1 - f) t).ab = (look F o f s).be := by
    rw [Bool.eq_iff_iff, look_ab ht hF hf', look_be hs hF hf]
    constructor
    · rintro ⟨k, hk, hb⟩
      have hkF := atB_lt hb
      rw [atB_mir h hkF] at hb
      exact ⟨_, by omega, hb⟩
    · rintro ⟨k, hk, hb⟩
      have hkF := atB_lt hb
      rw [atB_mir (mir_symm h) hkF] at hb
      exact ⟨_, by omega, hb⟩
  have eb : (look F (flipO o) (F - 1 - f) t).be = (look F o f s).ab := by
    rw [Bool.eq_iff_iff, look_be ht hF hf', look_ab hs hF hf]
    constructor
    · rintro ⟨k, hk, hb⟩
      have hkF := atB_lt hb
      rw [atB_mir h hkF] at hb
      exact ⟨_, by omega, hb⟩
    · rintro ⟨k, hk, hb⟩
      have hkF := atB_lt hb
      rw [atB_mir (mir_symm h) hkF] at hb
      exact ⟨_, by omega, hb⟩
  generalize look F (flipO o) (F - 1 - f) t = x at *
  obtain ⟨up, dn, car, ab, be, nr⟩ := x
  simp only at eu ed ec ea eb
  subst eu ed ec ea eb
  rfl
theorem choose_mir {F o f : Nat} {s t : Stp} (hs : s.ok) (ht : t.ok) (h : Mir F s t) (hF : F ≤ 32) (hf : f < F) (ho : o < 8) :
    choose (look F (flipO o) (F - 1 - f) t) 2 = flipC (choose (look F o f s) 1) ∧ choose (look F (flipO o) (F - 1 - f) t) 1 = flipC (choose (look F o f s) 2) := by
  rw [look_mir hs ht h hF hf ho]
  exact choose_flip _ _

/-- A list of bits upside down, made bit by bit. -/
def revU (F : Nat) (a : Nat) : Nat → Nat
  | 0 => 0
  | n + 1 => revU F a n ||| ((a / 2 ^ n) &&& 1) * 2 ^ (F - 1 - n)
theorem and_one_mul_bit (x g k : Nat) : ((x &&& 1) * 2 ^ g).testBit k = (x.testBit 0 && decide (g = k)) := by
  rw [Nat.and_one_is_mod]
  rcases Nat.mod_two_eq_zero_or_one x with h | h
  · rw [h, Nat.testBit_zero, h]; simp
  · rw [h, Nat.testBit_zero, h, Nat.one_mul, Nat.testBit_two_pow]; simp
theorem revU_bit (F a n k : Nat) (hn : n ≤ F) : (revU F a n).testBit k = (a.testBit (F - 1 - k) && (decide (k < F) && decide (F - 1 - k < n))) := by
  induction n with
  | zero => simp [revU]
  | succ n ih =>
    rw [revU, Nat.testBit_or, ih (by omega), and_one_mul_bit, Nat.testBit_div_two_pow]
    by_cases hk : F - 1 - n = k
    · subst hk
      have e : F - 1 - (F - 1 - n) = n := by omega
      rw [e, decide_eq_true (show F - 1 - n < F by omega), decide_eq_false (show ¬ n < n by omega), decide_eq_true (show n < n + 1 by omega)]
      simp
    · rw [decide_eq_false hk, Bool.and_false, Bool.or_false]
      by_cases hkF : k < F
      · have : decide (F - 1 - k < n) = decide (F - 1 - k < n + 1) := decide_eq_decide.2 (by omega)
        rw [this]
      · rw [decide_eq_false hkF]; simp
theorem revU_lt (F a n : Nat) (hF : F ≤ 32) (hn : n ≤ F) : revU F a n < 4294967296 := by
  show revU F a n < 2 ^ 32
  refine Nat.lt_pow_two_of_testBit _ fun i hi => ?_
  rw [revU_bit F a n i hn, decide_eq_false (show ¬ i < F by omega)]; simp
/-- The stops upside down, so far. -/
def revS (F : Nat) (s : Stp) (n : Nat) : Stp := ⟨revU F s.car n, ⟨revU F s.h.dn n, revU F s.h.up n⟩⟩
theorem revS_ok (F : Nat) (s : Stp) (n : Nat) (hF : F ≤ 32) (hn : n ≤ F) : (revS F s n).ok := ⟨revU_lt _ _ _ hF hn, revU_lt _ _ _ hF hn, revU_lt _ _ _ hF hn⟩
theorem revS_mir (F : Nat) (s : Stp) (_hF : F ≤ 32) : Mir F s (revS F s F) := fun k hk => by
  unfold revS
  simp only [revU_bit F _ F k (Nat.le_refl _), decide_eq_true hk, decide_eq_true (show F - 1 - k < F by omega), Bool.and_true, and_self]
end Cv
end Go.Proofs.YteniimbcbjbegaaDoor
