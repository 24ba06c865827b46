/- A door cycle ends, plainly: what holds at the head of each round of the play. No statement of the seat is proved here. -/
import Derived.Test.YthniolaeicmjlaaDrMath
namespace Go.Proofs.Ythniolaeicmjlaa.Dr
open Go.RowKit

def dirI (cmd : Int) : Int := if cmd = 3 then 1 else if cmd = 4 ∨ cmd = 5 then 2 else 0
def rowI (dir last row : Int) : Int := if dir = last then row else 0
def row2I (dir r : Int) : Int := if dir = 0 then r else r + 1
/-- Where the door is behind this tick: q: it may be there at once. -/
def placeI (T dir place r : Int) (q : Bool) : Int := if dir = 0 then place else if place = dir then place else if T ≤ r ∨ q = true then dir else 0
structure DInv (T H i : Int) (s : Dr) (cmd place row last : Int) : Prop where
  ii : 1 ≤ i
  rr : 0 ≤ row ∧ row < i
  pl : place = 0 ∨ place = 1 ∨ place = 2
  ee : 0 ≤ s.cy ∧ s.cy < i
  bb : 0 ≤ s.ti ∧ s.ti < i
  cc : 0 ≤ s.si ∧ s.si < i
  ll : last = 0 ∨ last = 1 ∨ last = 2
  st : s.st = 1 ∨ s.st = 2 ∨ s.st = 3
  s1 : s.st = 1 → cmd = 3 ∧ s.ti = rowI 1 last row ∧ s.ti < T ∧ s.si ≤ H
  s2 : s.st = 2 → cmd = 0 ∧ 1 ≤ s.si ∧ s.si ≤ H + 1
  s3 : s.st = 3 → (cmd = 4 ∨ cmd = 5) ∧ 1 ≤ s.si ∧ s.ti ≤ rowI 2 last row ∧ rowI 2 last row < T ∧ s.si ≤ H + 2 + rowI 2 last row
  z : s.si = 0 → s.st = 1 ∧ s.ti = i - 1 ∧ i ≤ T
  p : 1 ≤ s.si → i ≤ T + s.si
theorem ends_start {T H : Int} (hT : 1 ≤ T) (hH : 1 ≤ H) : DInv T H 1 ⟨1, 0, 0, false, 0⟩ 3 2 0 0 := by
  refine ⟨by omega, by omega, by omega, ?_, ?_, ?_, by omega, .inl rfl, fun _ => ⟨rfl, rfl, ?_, ?_⟩, fun h => ?_, fun h => ?_, fun _ => ⟨rfl, rfl, hT⟩, fun h => ?_⟩ <;> simp only at * <;> omega
theorem ends_le {T H i cmd place row last : Int} {s : Dr} (h : DInv T H i s cmd place row last) (hT : 1 ≤ T) (hH : 1 ≤ H) : i ≤ 2 * T + H + 1 := by
  have hz := h.z
  have hp := h.p
  have hc := h.cc
  by_cases h0 : s.si = 0
  · have := (hz h0).2.2; omega
  · have h1 := hp (by omega)
    rcases h.st with e | e | e
    · have := h.s1 e; omega
    · have := h.s2 e; omega
    · have := h.s3 e; omega
theorem more_lt {n : Int} (h : n ≤ 1000) : more n = n + 1 := if_pos (by omega)
theorem next_lt {n : Int} (h : n ≤ 1000) : next n = if n = 0 then 0 else n + 1 := by
  unfold next
  rw [more_lt h]
theorem cmd_of {T H i cmd place row last : Int} {s : Dr} (h : DInv T H i s cmd place row last) : cmd = 0 ∨ cmd = 3 ∨ cmd = 4 ∨ cmd = 5 := by
  rcases h.st with e | e | e
  · exact .inr (.inl (h.s1 e).1)
  · exact .inl (h.s2 e).1
  · exact .inr (.inr (h.s3 e).1)
/-- What a tick leads to. -/
def Good (T H i : Int) (x : Dr × Int) (pl r2 dir : Int) : Prop :=
  (x.1.st = 0 → x.1 = zero ∧ x.2 = 0) ∧ late T x.1 = false ∧ (x.1.st ≠ 0 → DInv T H (i + 1) x.1 x.2 pl r2 dir)
theorem good_zero {T H i pl r2 dir : Int} : Good T H i (zero, 0) pl r2 dir := ⟨fun _ => ⟨rfl, rfl⟩, rfl, fun h => absurd rfl h⟩
theorem late_of {T a b c e : Int} {d : Bool} (h : (a = 1 ∨ a = 3) → b ≤ T) : late T ⟨a, b, c, d, e⟩ = false := by
  unfold late
  by_cases h1 : a = 1 ∨ a = 3
  · have hb := h h1
    rw [show decide (T < b) = false from decide_eq_false (by omega), Bool.and_false]
  · have e1 : (a == 1) = false := by simp; omega
    have e3 : (a == 3) = false := by simp; omega
    simp only [e1, e3]; rfl
theorem ends_step {T H i dw cmd place row last pl r2 : Int} {s : Dr} (h : DInv T H i s cmd place row last) (hT : 1 ≤ T ∧ T ≤ 6) (hH : 1 ≤ H ∧ H ≤ 40)
    (hr2 : r2 = row2I (dirI cmd) (rowI (dirI cmd) last row)) (hp1 : pl = 0 ∨ pl = 1 ∨ pl = 2) (hp2 : dirI cmd ≠ 0 → pl ≠ dirI cmd → r2 < T) (b : Bool) :
    Good T H i (stepF dw H s pl b false) pl r2 (dirI cmd) := by
  have hle := ends_le h hT.1 hH.1
  have hB : s.isB = true := (isB_iff (by have := h.st; omega)).2 ⟨by have := h.st; omega, by have := h.bb; omega, by have := h.cc; omega, by have := h.ee; omega⟩
  rw [stepF_of hB]
  obtain ⟨ii, rr, -, ee, bb, cc, ll, st, s1, s2, s3, z, p⟩ := h
  obtain ⟨a, t, c, d, e⟩ := s
  simp only at *
  have hn := next_lt (show c ≤ 1000 by omega)
  have hm := more_lt (show t ≤ 1000 by omega)
  have hme := more_lt (show e ≤ 1000 by omega)
  have d3 : dirI 3 = 1 := rfl
  have d4 : dirI 4 = 2 := rfl
  have d5 : dirI 5 = 2 := rfl
  have d0 : dirI 0 = 0 := rfl
  clear hB
  unfold stepG
  generalize hnx : next c = n at *
  generalize more t = m at *
  generalize more e = m2 at *
  simp only
  have hn2 : (c = 0 ∧ n = 0) ∨ (1 ≤ c ∧ n = c + 1) := by
    by_cases h0 : c = 0
    · exact .inl ⟨h0, by rw [hn, if_pos h0]⟩
    · exact .inr ⟨by omega, by rw [hn, if_neg h0]⟩
  clear hn hnx
  rcases st with rfl | rfl | rfl
  · obtain ⟨rfl, h1, h2, h3⟩ := s1 rfl
    rw [d3] at hr2 hp2 ⊢
    unfold row2I at hr2
    rw [if_neg (by omega)] at hr2
    have hz := fun q => (z q).2
    clear s1 s2 s3 z
    generalize rowI 1 last row = r1 at *
    simp only [show ¬ (1 : Int) = 0 by omega, if_false, if_true]
    by_cases hp : pl = 1
    · subst hp
      rw [if_pos rfl]
      obtain ⟨v, hv, hv2⟩ : ∃ v, (if n ≤ 1 then 1 else n) = v ∧ ((n ≤ 1 ∧ v = 1) ∨ (1 < n ∧ v = n)) := ⟨_, rfl, by split <;> omega⟩
      rw [hv]
      clear hv
      refine ⟨fun h => absurd h (by simp), late_of (fun h => absurd h (by simp)), fun _ => ⟨?_, ?_, ?_, ?_, ?_, ?_, by omega, .inr (.inl rfl), fun h => absurd h (by simp), fun _ => ⟨rfl, ?_, ?_⟩, fun h => absurd h (by simp), fun h => ?_, fun h => ?_⟩⟩ <;> simp only at * <;> omega
    · rw [if_neg hp]
      have hr := hp2 (by omega) hp
      by_cases hl : H < n
      · rw [if_pos hl]
        refine ⟨fun h => absurd h (by simp), late_of (fun _ => by omega), fun _ => ⟨?_, ?_, ?_, ?_, ?_, ?_, by omega, .inr (.inr rfl), fun h => absurd h (by simp), fun h => absurd h (by simp), fun _ => ⟨.inr rfl, ?_, ?_, ?_, ?_⟩, fun h => ?_, fun h => ?_⟩⟩ <;> simp only [rowI, show ¬ (2 : Int) = 1 by omega, if_false] at * <;> omega
      · rw [if_neg hl]
        refine ⟨fun h => absurd h (by simp), late_of (fun _ => by omega), fun _ => ⟨?_, ?_, ?_, ?_, ?_, ?_, by omega, .inl rfl, fun _ => ⟨rfl, ?_, ?_, ?_⟩, fun h => absurd h (by simp), fun h => absurd h (by simp), fun h => ⟨rfl, ?_, ?_⟩, fun h => ?_⟩⟩ <;> simp only [rowI, if_true] at * <;> omega
  · obtain ⟨rfl, h1, h2⟩ := s2 rfl
    rw [d0] at hr2 hp2 ⊢
    unfold row2I at hr2
    rw [if_pos rfl] at hr2
    have hr : 0 ≤ r2 ∧ r2 < i := by
      rw [hr2]
      unfold rowI
      split <;> omega
    clear s1 s2 s3 z
    simp only [show ¬ (2 : Int) = 0 by omega, show ¬ (2 : Int) = 1 by omega, if_false, if_true]
    by_cases hl : H < n
    · rw [if_pos hl]
      refine ⟨fun h => absurd h (by simp), late_of (fun _ => by omega), fun _ => ⟨?_, ?_, ?_, ?_, ?_, ?_, by omega, .inr (.inr rfl), fun h => absurd h (by simp), fun h => absurd h (by simp), fun _ => ⟨.inr rfl, ?_, ?_, ?_, ?_⟩, fun h => ?_, fun h => ?_⟩⟩ <;> simp only [rowI, show ¬ (2 : Int) = 0 by omega, if_false] at * <;> omega
    · rw [if_neg hl]
      by_cases hk : dw ≤ t + 1 ∧ b = false
      · rw [if_pos hk]
        refine ⟨fun h => absurd h (by simp), late_of (fun _ => by omega), fun _ => ⟨?_, ?_, ?_, ?_, ?_, ?_, by omega, .inr (.inr rfl), fun h => absurd h (by simp), fun h => absurd h (by simp), fun _ => ⟨.inl rfl, ?_, ?_, ?_, ?_⟩, fun h => ?_, fun h => ?_⟩⟩ <;> simp only [rowI, show ¬ (2 : Int) = 0 by omega, if_false] at * <;> omega
      · rw [if_neg hk]
        refine ⟨fun h => absurd h (by simp), late_of (fun h => absurd h (by simp)), fun _ => ⟨?_, ?_, ?_, ?_, ?_, ?_, by omega, .inr (.inl rfl), fun h => absurd h (by simp), fun _ => ⟨rfl, ?_, ?_⟩, fun h => absurd h (by simp), fun h => ?_, fun h => ?_⟩⟩ <;> simp only at * <;> omega
  · obtain ⟨hcmd, h1, h2, h3, h4⟩ := s3 rfl
    have hdc : dirI cmd = 2 := by rcases hcmd with rfl | rfl <;> rfl
    rw [hdc] at hr2 hp2 ⊢
    unfold row2I at hr2
    rw [if_neg (by omega)] at hr2
    clear s1 s2 s3 z hcmd
    have hr1 : 0 ≤ rowI 2 last row ∧ rowI 2 last row < i := by unfold rowI; split <;> omega
    generalize rowI 2 last row = r1 at *
    simp only [show ¬ (3 : Int) = 0 by omega, show ¬ (3 : Int) = 1 by omega, show ¬ (3 : Int) = 2 by omega, if_false]
    by_cases hp : pl = 2
    · rw [if_pos hp]
      exact good_zero
    · rw [if_neg hp]
      have hr := hp2 (by omega) hp
      by_cases hl : H < n
      · rw [if_pos hl]
        cases d
        · rw [if_neg (by simp)]
          refine ⟨fun h => absurd h (by simp), late_of (fun _ => by omega), fun _ => ⟨?_, ?_, ?_, ?_, ?_, ?_, by omega, .inr (.inr rfl), fun h => absurd h (by simp), fun h => absurd h (by simp), fun _ => ⟨.inr rfl, ?_, ?_, ?_, ?_⟩, fun h => ?_, fun h => ?_⟩⟩ <;> simp only [rowI, if_true] at * <;> omega
        · rw [if_pos rfl]
          refine ⟨fun h => absurd h (by simp), late_of (fun _ => by omega), fun _ => ⟨?_, ?_, ?_, ?_, ?_, ?_, by omega, .inr (.inr rfl), fun h => absurd h (by simp), fun h => absurd h (by simp), fun _ => ⟨.inr rfl, ?_, ?_, ?_, ?_⟩, fun h => ?_, fun h => ?_⟩⟩ <;> simp only [rowI, if_true] at * <;> omega
      · rw [if_neg hl]
        cases b
        · rw [if_neg (by simp)]
          refine ⟨fun h => absurd h (by simp), late_of (fun _ => by omega), fun _ => ⟨?_, ?_, ?_, ?_, ?_, ?_, by omega, .inr (.inr rfl), fun h => absurd h (by simp), fun h => absurd h (by simp), fun _ => ⟨.inl rfl, ?_, ?_, ?_, ?_⟩, fun h => ?_, fun h => ?_⟩⟩ <;> simp only [rowI, if_true] at * <;> omega
        · rw [if_pos rfl]
          refine ⟨fun h => absurd h (by simp), late_of (fun _ => by omega), fun _ => ⟨?_, ?_, ?_, ?_, ?_, ?_, by omega, .inl rfl, fun _ => ⟨rfl, ?_, ?_, ?_⟩, fun h => absurd h (by simp), fun h => absurd h (by simp), fun h => ?_, fun h => ?_⟩⟩ <;> simp only [rowI, show ¬ (1 : Int) = 2 by omega, if_false] at * <;> omega
end Go.Proofs.Ythniolaeicmjlaa.Dr
