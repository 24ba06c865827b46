/- What the plays share. No statement of the seat is proved here. -/
import Derived.Test.YteniimbcbjbegaaDoorCvSane
import Derived.Test.YteniimbcbjbegaaDoorCvOpen
import Derived.Test.YteniimbcbjbegaaDoorCvCarry
import Derived.Deep.CutRange
import Derived.Deep.CutBlock
namespace Go.Proofs.YteniimbcbjbegaaDoor
open Go.RowKit Ghost Go.ChangeShapes Go.WideShapes Go.ChangeAt

theorem uint_mod (p : Int) (m : Nat) (hm : 0 < m) (h : m ≤ 1000) : ∃ n : Nat, n < m ∧ wrap64 ((IntKind.u64.wrap p).tmod (m : Int)) = (n : Int) := by
  refine ⟨((p % 18446744073709551616) % (m : Int)).toNat, ?_, ?_⟩
  · have h1 := Int.emod_lt_of_pos (p % 18446744073709551616) (show (0 : Int) < (m : Int) by omega)
    have h2 := Int.emod_nonneg (p % 18446744073709551616) (show (m : Int) ≠ 0 by omega)
    omega
  · have h1 := Int.emod_lt_of_pos (p % 18446744073709551616) (show (0 : Int) < (m : Int) by omega)
    have h2 := Int.emod_nonneg (p % 18446744073709551616) (show (m : Int) ≠ 0 by omega)
    rw [IntKind.wrap_u64, Int.tmod_eq_emod_of_nonneg (Int.emod_nonneg _ (by decide))]
    generalize (p % 18446744073709551616) % (m : Int) = z at *
    unfold wrap64
    omega
/-- The rows of the play: the stops, the sweep. -/
theorem play_start {w : World} {A B C D : Obj} : Bx w [(w.heap.size + 3, D), (w.heap.size + 2, C)] ((((w.alloc A).alloc B).alloc C).alloc D) := by
  have h3 := new3 w A B C
  have h4 := heap_alloc_new (((w.alloc A).alloc B).alloc C) D
  have hs : (((w.alloc A).alloc B).alloc C).heap.size = w.heap.size + 3 := by simp
  rw [hs] at h4
  refine ⟨(((((Below.refl w.heap.size w).alloc (Nat.le_refl _) A).alloc (by simp) B).alloc (by simp <;> omega) C).alloc (by simp <;> omega) D), fun p hp => ?_⟩
  simp only [List.mem_cons, List.not_mem_nil, or_false] at hp
  rcases hp with rfl | rfl
  · exact h4
  · exact (Below.heap_alloc (((w.alloc A).alloc B).alloc C) D _ (by simp)).trans h3
theorem or_pow {a g : Nat} (ha : a < 4294967296) (hg : g < 32) : bits .or .u32 (a : Int) ((2 : Int) ^ g % 4294967296) = ((a ||| 2 ^ g : Nat) : Int) := by
  rw [two_mod hg]
  exact u32_or_nat a (2 ^ g) ha (Cs.pow_lt hg)
theorem andNot_pow {a g : Nat} (ha : a < 4294967296) (hg : g < 32) : bits .andNot .u32 (a : Int) ((2 : Int) ^ g % 4294967296) = ((a &&& (4294967295 - 2 ^ g) : Nat) : Int) := by
  rw [two_mod hg]
  exact u32_andNot_nat a (2 ^ g) ha (Cs.pow_lt hg)
theorem or_bit (a g : Nat) : (a ||| 2 ^ g).testBit g = true := by rw [Cs.bit_or, Cs.bit_pow]; simp
theorem opened_open (q k : Nat) : Cv.opened q (Cv.openC k) = q ||| 2 ^ k := rfl
theorem opened_move {q k : Nat} (h : k ≠ 3) : Cv.opened q (Cv.moveC k) = 0 := by unfold Cv.opened Cv.moveC; exact if_neg h
end Go.Proofs.YteniimbcbjbegaaDoor
