/- A door in which something stands, plainly: what holds at the head of each round. No statement of the seat is proved here. -/
import Derived.Test.YthniolaeicmjlaaDrEndsM
namespace Go.Proofs.Ythniolaeicmjlaa.Dr
open Go.RowKit

structure NInv (i : Int) (s : Dr) : Prop where
  st : s.st = 1 ∨ s.st = 2 ∨ s.st = 3
  bb : 0 ≤ s.ti ∧ s.ti ≤ i
  cc : 0 ≤ s.si ∧ s.si ≤ i
  ee : 0 ≤ s.cy ∧ s.cy ≤ i
  ww : s.st ≠ 1 → 1 ≤ s.si
/-- How long it is open, behind this tick. -/
def sinceI (X : Dr) (n : Int) : Int := if X.st = 2 ∧ n = 0 then 1 else n
structure NGood (H i : Int) (s : Dr) (d : Int) (b : Bool) (X : Dr × Int) (n2 : Int) : Prop where
  cmd : X.2 = 0 ∨ X.2 = 3 ∨ X.2 = 4 ∨ X.2 = 5
  c4 : X.2 = 4 → b = false ∧ n2 ≤ H
  c5 : X.2 = 5 → H < n2
  c3 : X.2 = 3 → n2 ≤ H
  r : s.st = 3 → b = true → d ≠ 2 → n2 ≤ H → X.1.st = 1 ∧ X.1.cy = s.cy + 1
  nx : X.1.st ≠ 0 → NInv (i + 1) X.1 ∧ X.1.si = n2
  n2 : 0 ≤ n2 ∧ n2 ≤ i + 1
theorem nudge_start : NInv 0 ⟨1, 0, 0, false, 0⟩ := ⟨.inl rfl, ⟨by decide, by decide⟩, ⟨by decide, by decide⟩, ⟨by decide, by decide⟩, fun h => absurd rfl h⟩
theorem nudge_step {H dw i d : Int} {s : Dr} (h : NInv i s) (hi : 0 ≤ i ∧ i ≤ 900) (hH : 1 ≤ H) (b : Bool) :
    NGood H i s d b (stepF dw H s d b false) (sinceI (stepF dw H s d b false).1 (next s.si)) := by
  have hB : s.isB = true := (isB_iff (by have := h.st; omega)).2 ⟨by have := h.st; omega, by have := h.bb; omega, by have := h.cc; omega, by have := h.ee; omega⟩
  rw [stepF_of hB]
  obtain ⟨st, bb, cc, ee, ww⟩ := h
  obtain ⟨a, t, c, f, e⟩ := s
  simp only at *
  have hn := next_lt (show c ≤ 1000 by omega)
  have hm := more_lt (show t ≤ 1000 by omega)
  have hme := more_lt (show e ≤ 1000 by omega)
  clear hB
  unfold stepG
  generalize next c = n at *
  generalize more t = m at *
  generalize more e = m2 at *
  simp only
  have hn2 : (c = 0 ∧ n = 0) ∨ (1 ≤ c ∧ n = c + 1) := by
    by_cases h0 : c = 0
    · exact .inl ⟨h0, by rw [hn, if_pos h0]⟩
    · exact .inr ⟨by omega, by rw [hn, if_neg h0]⟩
  clear hn
  rcases st with rfl | rfl | rfl
  · simp only [show ¬ (1 : Int) = 0 by omega, if_false, if_true]
    by_cases hp : d = 1
    · subst hp
      rw [if_pos rfl]
      obtain ⟨v, hv, hv2⟩ : ∃ v, (if n ≤ 1 then 1 else n) = v ∧ ((n ≤ 1 ∧ v = 1) ∨ (1 < n ∧ v = n)) := ⟨_, rfl, by split <;> omega⟩
      rw [hv]
      clear hv
      have hs : sinceI ⟨2, 0, v, f, e⟩ n = v := by
        unfold sinceI
        simp only [true_and]
        split <;> omega
      rw [hs]
      exact ⟨.inl rfl, fun h => absurd h (by simp), fun h => absurd h (by simp), fun h => absurd h (by simp), fun h => absurd h (by simp), fun _ => ⟨⟨.inr (.inl rfl), ⟨by simp, by simp; omega⟩, ⟨by simp; omega, by simp; omega⟩, ⟨by simp; omega, by simp; omega⟩, fun h => by simp at h ⊢ <;> omega⟩, rfl⟩, by omega⟩
    · rw [if_neg hp]
      by_cases hl : H < n
      · rw [if_pos hl]
        rw [show sinceI ⟨3, 0, n, true, e⟩ n = n from if_neg (fun h => absurd h.1 (by simp))]
        exact ⟨.inr (.inr (.inr rfl)), fun h => absurd h (by simp), fun _ => hl, fun h => absurd h (by simp), fun h => absurd h (by simp), fun _ => ⟨⟨.inr (.inr rfl), ⟨by simp, by simp; omega⟩, ⟨by simp; omega, by simp; omega⟩, ⟨by simp; omega, by simp; omega⟩, fun h => by simp at h ⊢ <;> omega⟩, rfl⟩, by omega⟩
      · rw [if_neg hl]
        rw [show sinceI ⟨1, m, n, f, e⟩ n = n from if_neg (fun h => absurd h.1 (by simp))]
        exact ⟨.inr (.inl rfl), fun h => absurd h (by simp), fun h => absurd h (by simp), fun _ => by omega, fun h => absurd h (by simp), fun _ => ⟨⟨.inl rfl, ⟨by simp; omega, by simp; omega⟩, ⟨by simp; omega, by simp; omega⟩, ⟨by simp; omega, by simp; omega⟩, fun h => by simp at h ⊢ <;> omega⟩, rfl⟩, by omega⟩
  · simp only [show ¬ (2 : Int) = 0 by omega, show ¬ (2 : Int) = 1 by omega, if_false, if_true]
    by_cases hl : H < n
    · rw [if_pos hl]
      rw [show sinceI ⟨3, 0, n, true, e⟩ n = n from if_neg (fun h => absurd h.1 (by simp))]
      exact ⟨.inr (.inr (.inr rfl)), fun h => absurd h (by simp), fun _ => hl, fun h => absurd h (by simp), fun h => absurd h (by simp), fun _ => ⟨⟨.inr (.inr rfl), ⟨by simp, by simp; omega⟩, ⟨by simp; omega, by simp; omega⟩, ⟨by simp; omega, by simp; omega⟩, fun h => by simp at h ⊢ <;> omega⟩, rfl⟩, by omega⟩
    · rw [if_neg hl]
      by_cases hk : dw ≤ t + 1 ∧ b = false
      · rw [if_pos hk]
        rw [show sinceI ⟨3, 0, n, f, e⟩ n = n from if_neg (fun h => absurd h.1 (by simp))]
        exact ⟨.inr (.inr (.inl rfl)), fun _ => ⟨hk.2, by omega⟩, fun h => absurd h (by simp), fun h => absurd h (by simp), fun h => absurd h (by simp), fun _ => ⟨⟨.inr (.inr rfl), ⟨by simp, by simp; omega⟩, ⟨by simp; omega, by simp; omega⟩, ⟨by simp; omega, by simp; omega⟩, fun h => by simp at h ⊢ <;> omega⟩, rfl⟩, by omega⟩
      · rw [if_neg hk]
        have hc0 : 1 ≤ c := ww (by omega)
        have hs : ∃ n2, sinceI ⟨2, m, n, f, e⟩ n = n2 ∧ ((n = 0 ∧ n2 = 1) ∨ (1 ≤ n ∧ n2 = n)) := by
          refine ⟨_, rfl, ?_⟩
          unfold sinceI
          simp only [true_and]
          split <;> omega
        obtain ⟨n2, hs, hs2⟩ := hs
        rw [hs]
        refine ⟨.inl rfl, fun h => absurd h (by simp), fun h => absurd h (by simp), fun h => absurd h (by simp), fun h => absurd h (by simp), fun _ => ⟨⟨.inr (.inl rfl), ⟨by simp; omega, by simp; omega⟩, ⟨by simp; omega, by simp; omega⟩, ⟨by simp; omega, by simp; omega⟩, fun h => by simp at h ⊢ <;> omega⟩, ?_⟩, by omega⟩
        simp only
        omega
  · simp only [show ¬ (3 : Int) = 0 by omega, show ¬ (3 : Int) = 1 by omega, show ¬ (3 : Int) = 2 by omega, if_false]
    by_cases hp : d = 2
    · rw [if_pos hp]
      rw [show sinceI zero n = n from if_neg (fun h => absurd h.1 (by simp [zero]))]
      exact ⟨.inl rfl, fun h => absurd h (by simp), fun h => absurd h (by simp), fun h => absurd h (by simp), fun _ _ h => absurd hp h, fun h => absurd rfl h, by omega⟩
    · rw [if_neg hp]
      by_cases hl : H < n
      · rw [if_pos hl]
        cases f
        · rw [if_neg (by simp)]
          rw [show sinceI ⟨3, 0, n, true, e⟩ n = n from if_neg (fun h => absurd h.1 (by simp))]
          exact ⟨.inr (.inr (.inr rfl)), fun h => absurd h (by simp), fun _ => hl, fun h => absurd h (by simp), fun _ _ _ h => by omega, fun _ => ⟨⟨.inr (.inr rfl), ⟨by simp, by simp; omega⟩, ⟨by simp; omega, by simp; omega⟩, ⟨by simp; omega, by simp; omega⟩, fun h => by simp at h ⊢ <;> omega⟩, rfl⟩, by omega⟩
        · rw [if_pos rfl]
          rw [show sinceI ⟨3, m, n, true, e⟩ n = n from if_neg (fun h => absurd h.1 (by simp))]
          exact ⟨.inr (.inr (.inr rfl)), fun h => absurd h (by simp), fun _ => hl, fun h => absurd h (by simp), fun _ _ _ h => by omega, fun _ => ⟨⟨.inr (.inr rfl), ⟨by simp; omega, by simp; omega⟩, ⟨by simp; omega, by simp; omega⟩, ⟨by simp; omega, by simp; omega⟩, fun h => by simp at h ⊢ <;> omega⟩, rfl⟩, by omega⟩
      · rw [if_neg hl]
        cases b
        · rw [if_neg (by simp)]
          rw [show sinceI ⟨3, m, n, f, e⟩ n = n from if_neg (fun h => absurd h.1 (by simp))]
          exact ⟨.inr (.inr (.inl rfl)), fun _ => ⟨rfl, by omega⟩, fun h => absurd h (by simp), fun h => absurd h (by simp), fun _ h => absurd h (by simp), fun _ => ⟨⟨.inr (.inr rfl), ⟨by simp; omega, by simp; omega⟩, ⟨by simp; omega, by simp; omega⟩, ⟨by simp; omega, by simp; omega⟩, fun h => by simp at h ⊢ <;> omega⟩, rfl⟩, by omega⟩
        · rw [if_pos rfl]
          rw [show sinceI ⟨1, 0, n, f, m2⟩ n = n from if_neg (fun h => absurd h.1 (by simp))]
          exact ⟨.inr (.inl rfl), fun h => absurd h (by simp), fun h => absurd h (by simp), fun _ => by omega, fun _ _ _ _ => ⟨rfl, hme⟩, fun _ => ⟨⟨.inl rfl, ⟨by simp, by simp; omega⟩, ⟨by simp; omega, by simp; omega⟩, ⟨by simp; omega, by simp; omega⟩, fun h => by simp at h ⊢ <;> omega⟩, rfl⟩, by omega⟩
end Go.Proofs.Ythniolaeicmjlaa.Dr
