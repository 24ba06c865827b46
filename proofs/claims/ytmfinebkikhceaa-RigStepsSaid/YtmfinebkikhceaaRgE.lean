/- Step of the played drive, plainly: what it gives in each case. No statement of the seat is proved here. -/
import Derived.Test.YtmfinebkikhceaaRgM
namespace Go.Proofs.Ytmfinebkikhceaa
open Go.RowKit
namespace Rg
variable (F fl am tk t : Int)
theorem e0_door {dd : Int} : stepF F ⟨fl, fl, 0, dd, 0, 0⟩ 0 t = ⟨fl, fl, 0, dd, 0, 0⟩ := by
  unfold stepF
  rw [if_neg (by show ¬ (0 : Int) < 0; decide), if_neg (fun e => e.2.1 rfl), if_pos (.inl rfl)]
theorem e0_on (h : 1 ≤ am ∧ am ≤ 2) : stepF F ⟨fl, fl, 0, 0, am, tk⟩ 0 t = shut ⟨fl, fl, 0, 0, am, tk - 1⟩ am := by
  unfold stepF
  rw [if_neg (by show ¬ (0 : Int) < 0; decide), if_neg (fun e => e.2.1 rfl), if_neg (by show ¬ (am = 0 ∨ am = 0); omega), if_pos ⟨rfl, rfl⟩]
  rfl
theorem e1_open : stepF F ⟨fl, fl, 0, 1, 0, 0⟩ 1 t = ⟨fl, fl, 0, 1, 0, 0⟩ := by
  unfold stepF
  rw [if_neg (by show ¬ (0 : Int) < 0; decide), if_neg (fun e => by have := e.1; simp at this), if_pos (.inl rfl)]
theorem e1_out (h : ¬ (0 ≤ fl + 1 ∧ fl + 1 ≤ F - 1)) : stepF F ⟨fl, fl, 0, 2, 0, 0⟩ 1 t = ⟨fl, fl, 0, 2, 0, 0⟩ := by
  unfold stepF
  rw [if_neg (by show ¬ (0 : Int) < 0; decide), if_neg (fun e => h e.2.2), if_pos (.inl rfl)]
theorem e1_on (h : 1 ≤ am ∧ am ≤ 2) : stepF F ⟨fl, fl, 0, 0, am, tk⟩ 1 t = shut ⟨fl, fl, 0, 0, am, tk - 1⟩ am := by
  unfold stepF
  rw [if_neg (by show ¬ (0 : Int) < 0; decide), if_neg (fun e => by have := e.1; simp at this), if_neg (by show ¬ (am = 0 ∨ am = 0); omega), if_pos ⟨rfl, rfl⟩]
  rfl
theorem e2_open : stepF F ⟨fl, fl, 0, 1, 0, 0⟩ 2 t = ⟨fl, fl, 0, 1, 0, 0⟩ := by
  unfold stepF
  rw [if_neg (by show ¬ (0 : Int) < 0; decide), if_neg (fun e => by have := e.1; simp at this), if_pos (.inl rfl)]
theorem e2_out (h : ¬ (0 ≤ fl - 1 ∧ fl - 1 ≤ F - 1)) : stepF F ⟨fl, fl, 0, 2, 0, 0⟩ 2 t = ⟨fl, fl, 0, 2, 0, 0⟩ := by
  unfold stepF
  rw [if_neg (by show ¬ (0 : Int) < 0; decide), if_neg (fun e => h e.2.2), if_pos (.inl rfl)]
theorem e2_on (h : 1 ≤ am ∧ am ≤ 2) : stepF F ⟨fl, fl, 0, 0, am, tk⟩ 2 t = shut ⟨fl, fl, 0, 0, am, tk - 1⟩ am := by
  unfold stepF
  rw [if_neg (by show ¬ (0 : Int) < 0; decide), if_neg (fun e => by have := e.1; simp at this), if_neg (by show ¬ (am = 0 ∨ am = 0); omega), if_pos ⟨rfl, rfl⟩]
  rfl
theorem e3_still : stepF F ⟨fl, fl, 0, 1, 0, 0⟩ 3 t = ⟨fl, fl, 0, 1, 0, 0⟩ := by
  unfold stepF
  rw [if_neg (by show ¬ (0 : Int) < 0; decide), if_neg (fun e => e.2.1 rfl), if_pos (.inr rfl)]
theorem e3_on : stepF F ⟨fl, fl, 0, 0, 1, tk⟩ 3 t = shut ⟨fl, fl, 0, 0, 1, tk - 1⟩ 1 := by
  unfold stepF
  rw [if_neg (by show ¬ (0 : Int) < 0; decide), if_neg (fun e => e.2.1 rfl), if_neg (by show ¬ ((1 : Int) = 0 ∨ (1 : Int) = 0); decide), if_pos ⟨rfl, rfl⟩]
  rfl
theorem e3_back : stepF F ⟨fl, fl, 0, 0, 2, tk⟩ 3 t = shut ⟨fl, fl, 0, 0, 1, t - 1⟩ 1 := by
  unfold stepF
  rw [if_neg (by show ¬ (0 : Int) < 0; decide), if_neg (fun e => e.2.1 rfl), if_neg (by show ¬ ((1 : Int) = 0 ∨ (1 : Int) = 0); decide), if_neg (by show ¬ ((0 : Int) = 0 ∧ (1 : Int) = 2); decide)]
  rfl
theorem e3_turn : stepF F ⟨fl, fl, 0, 2, 0, 0⟩ 3 t = shut ⟨fl, fl, 0, 0, 1, t - 1⟩ 1 := by
  unfold stepF
  rw [if_neg (by show ¬ (0 : Int) < 0; decide), if_neg (fun e => e.2.1 rfl), if_neg (by show ¬ ((1 : Int) = 0 ∨ (1 : Int) = 2); decide), if_neg (by show ¬ ((2 : Int) = 0 ∧ (1 : Int) = 0); decide)]
  rfl
theorem e4_still : stepF F ⟨fl, fl, 0, 2, 0, 0⟩ 4 t = ⟨fl, fl, 0, 2, 0, 0⟩ := by
  unfold stepF
  rw [if_neg (by show ¬ (0 : Int) < 0; decide), if_neg (fun e => e.2.1 rfl), if_pos (.inr rfl)]
theorem e4_on : stepF F ⟨fl, fl, 0, 0, 2, tk⟩ 4 t = shut ⟨fl, fl, 0, 0, 2, tk - 1⟩ 2 := by
  unfold stepF
  rw [if_neg (by show ¬ (0 : Int) < 0; decide), if_neg (fun e => e.2.1 rfl), if_neg (by show ¬ ((2 : Int) = 0 ∨ (2 : Int) = 0); decide), if_pos ⟨rfl, rfl⟩]
  rfl
theorem e4_back : stepF F ⟨fl, fl, 0, 0, 1, tk⟩ 4 t = shut ⟨fl, fl, 0, 0, 2, t - 1⟩ 2 := by
  unfold stepF
  rw [if_neg (by show ¬ (0 : Int) < 0; decide), if_neg (fun e => e.2.1 rfl), if_neg (by show ¬ ((2 : Int) = 0 ∨ (2 : Int) = 0); decide), if_neg (by show ¬ ((0 : Int) = 0 ∧ (2 : Int) = 1); decide)]
  rfl
theorem e4_turn : stepF F ⟨fl, fl, 0, 1, 0, 0⟩ 4 t = shut ⟨fl, fl, 0, 0, 2, t - 1⟩ 2 := by
  unfold stepF
  rw [if_neg (by show ¬ (0 : Int) < 0; decide), if_neg (fun e => e.2.1 rfl), if_neg (by show ¬ ((2 : Int) = 0 ∨ (2 : Int) = 1); decide), if_neg (by show ¬ ((1 : Int) = 0 ∧ (2 : Int) = 0); decide)]
  rfl
theorem e5_still : stepF F ⟨fl, fl, 0, 2, 0, 0⟩ 5 t = ⟨fl, fl, 0, 2, 0, 0⟩ := by
  unfold stepF
  rw [if_neg (by show ¬ (0 : Int) < 0; decide), if_neg (fun e => e.2.1 rfl), if_pos (.inr rfl)]
theorem e5_on : stepF F ⟨fl, fl, 0, 0, 2, tk⟩ 5 t = shut ⟨fl, fl, 0, 0, 2, tk - 1⟩ 2 := by
  unfold stepF
  rw [if_neg (by show ¬ (0 : Int) < 0; decide), if_neg (fun e => e.2.1 rfl), if_neg (by show ¬ ((2 : Int) = 0 ∨ (2 : Int) = 0); decide), if_pos ⟨rfl, rfl⟩]
  rfl
theorem e5_back : stepF F ⟨fl, fl, 0, 0, 1, tk⟩ 5 t = shut ⟨fl, fl, 0, 0, 2, t - 1⟩ 2 := by
  unfold stepF
  rw [if_neg (by show ¬ (0 : Int) < 0; decide), if_neg (fun e => e.2.1 rfl), if_neg (by show ¬ ((2 : Int) = 0 ∨ (2 : Int) = 0); decide), if_neg (by show ¬ ((0 : Int) = 0 ∧ (2 : Int) = 1); decide)]
  rfl
theorem e5_turn : stepF F ⟨fl, fl, 0, 1, 0, 0⟩ 5 t = shut ⟨fl, fl, 0, 0, 2, t - 1⟩ 2 := by
  unfold stepF
  rw [if_neg (by show ¬ (0 : Int) < 0; decide), if_neg (fun e => e.2.1 rfl), if_neg (by show ¬ ((2 : Int) = 0 ∨ (2 : Int) = 1); decide), if_neg (by show ¬ ((1 : Int) = 0 ∧ (2 : Int) = 0); decide)]
  rfl
theorem e_other {r : Rg} {m : Int} (h1 : m ≠ 1) (h2 : m ≠ 2) (h3 : m ≠ 3) (h4 : m ≠ 4) (h5 : m ≠ 5) : stepF F r m t = stepF F r 0 t := by
  have hn : r.nxt m = r.nxt 0 := by unfold nxt; rw [if_neg h1, if_neg h2]; rfl
  have ha : r.aim m = r.aim 0 := by unfold aim; rw [if_neg h3, if_neg (by omega)]; rfl
  unfold stepF
  rw [hn, ha]
end Rg
end Go.Proofs.Ytmfinebkikhceaa
