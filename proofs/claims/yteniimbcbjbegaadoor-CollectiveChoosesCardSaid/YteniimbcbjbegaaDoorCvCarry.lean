/- A car that is played: when its car calls are served, plainly. No statement of the seat is proved here. -/
import Derived.Test.YteniimbcbjbegaaDoorCvGame
namespace Go.Proofs.YteniimbcbjbegaaDoor
open Go.RowKit

namespace Cv
/-- What one step needs to know of the car call g. -/
structure KnowC (F o f g c : Nat) (x : Sc) : Prop where
  fit : x.fit = true
  ab : f < g → x.ab = true
  be : g < f → x.be = true
  here : f = g → x.car = decide (c = 0)
  cc : c = 0 ∨ c = o
  rs : c ≠ o → f = g
  cm : f = g → c ≠ 0 → (x.up = true ∨ x.dn = true ∨ x.ab = true ∨ x.be = true)
  la : x.ab = true → f + 1 < F
  lb : x.be = true → 0 < f
  nu : x.up = true → c.testBit 1 = false
  nd : x.dn = true → c.testBit 2 = false
  nc : x.car = true → c = 0
theorem knowC {F o f g : Nat} {s : Stp} (hs : s.ok) (hF : F ≤ 32) (hf : f < F) (hg : g < F) (h : s.car.testBit g = true) : KnowC F o f g (cd o f (cnt F s)) (look F o f s) := by
  have hgb : atB F s g = true := by
    unfold atB
    simp [h, hg]
  refine ⟨look_fit F o f s, fun h => (look_ab hs hF hf).2 ⟨g, h, hgb⟩, fun h => (look_be hs hF hf).2 ⟨g, h, hgb⟩, ?_, ?_, ?_, ?_, ?_, ?_, ?_, ?_, ?_⟩
  · rintro rfl
    rw [look_car hs hF hf, h]; simp
  · rcases cd_cases (o := o) hs hF hf with ⟨h, -⟩ | ⟨h, -⟩
    · exact .inl h
    · exact .inr h
  · intro hn
    rcases cd_cases (o := o) hs hF hf with ⟨h, h0 | ⟨h1, h2, h3⟩⟩ | ⟨h, -⟩
    · exact absurd (h.trans h0.symm) hn
    · apply Classical.byContradiction
      intro hne
      rw [h1 g (fun e => hne e.symm)] at hgb
      cases hgb
    · exact absurd h hn
  · rintro rfl hb
    rcases cd_cases (o := o) hs hF hf with ⟨h, -⟩ | ⟨h, h0, h1⟩
    · exact absurd h hb
    · exact h1
  · intro h
    obtain ⟨k, h1, h2⟩ := (look_ab hs hF hf).1 h
    have := atB_lt h2
    omega
  · intro h
    obtain ⟨k, h1, h2⟩ := (look_be hs hF hf).1 h
    omega
  · intro h
    rw [look_up hs hF hf] at h
    simp at h
    exact h.2
  · intro h
    rw [look_dn hs hF hf] at h
    simp at h
    exact h.2
  · intro h
    rw [look_car hs hF hf] at h
    simp at h
    exact h.2
/-- What holds while the car call g has not been served. -/
structure InvC (F g f d o last turns moves opens i : Nat) : Prop where
  ff : f < F
  dd : d ≤ 2
  oo : o ≤ 7
  l : last ≤ 2
  z : last = 0 → turns = 0 ∧ moves = 0
  m : f = g → o ≠ 0 → last = 0
  n : last ≠ 0 → d ≠ 0
  a1 : last ≠ 0 → f < g → d = 1 → turns + (if last = 2 then 1 else 0) ≤ 1 ∧ moves + (g - f) ≤ 3 * F
  a2 : last ≠ 0 → f < g → d = 2 → turns = 0 ∧ last = 2 ∧ moves + f + g ≤ 3 * F
  e1 : last ≠ 0 → g < f → d = 1 → turns = 0 ∧ last = 1 ∧ moves + (F - 1 - f) + (F - 1 - g) ≤ 3 * F
  e2 : last ≠ 0 → g < f → d = 2 → turns + (if last = 1 then 1 else 0) ≤ 1 ∧ moves + (f - g) ≤ 3 * F
  q : last ≠ 0 → f = g → turns ≤ 1 ∧ moves ≤ 3 * F
  b : f ≠ g → opens ≤ b2 (o.testBit 1) + b2 (o.testBit 2)
  p : f = g → opens = 0
  ii : i ≤ 4 * moves + opens
theorem InvC.all {F g f d o last turns moves opens i : Nat} (h : InvC F g f d o last turns moves opens i) (hg : g < F) : turns ≤ 1 ∧ moves ≤ 3 * F ∧ opens ≤ 2 := by
  have hb1 := b2_le (o.testBit 1)
  have hb2 := b2_le (o.testBit 2)
  refine ⟨?_, ?_, ?_⟩
  · by_cases hl : last = 0
    · have := h.z hl; omega
    · have hd := h.dd
      have hn := h.n hl
      have hd' : d = 1 ∨ d = 2 := by omega
      rcases Nat.lt_trichotomy f g with hfg | hfg | hfg
      · rcases hd' with rfl | rfl
        · have := (h.a1 hl hfg rfl).1; omega
        · have := (h.a2 hl hfg rfl).1; omega
      · exact (h.q hl hfg).1
      · rcases hd' with rfl | rfl
        · have := (h.e1 hl hfg rfl).1; omega
        · have := (h.e2 hl hfg rfl).1; omega
  · by_cases hl : last = 0
    · have := h.z hl; omega
    · have hd := h.dd
      have hn := h.n hl
      have hd' : d = 1 ∨ d = 2 := by omega
      rcases Nat.lt_trichotomy f g with hfg | hfg | hfg
      · rcases hd' with rfl | rfl
        · have := (h.a1 hl hfg rfl).2; omega
        · have := (h.a2 hl hfg rfl).2.2; omega
      · exact (h.q hl hfg).2
      · rcases hd' with rfl | rfl
        · have := (h.e1 hl hfg rfl).2.2; omega
        · have := (h.e2 hl hfg rfl).2; omega
  · by_cases hfg : f = g
    · have := h.p hfg; omega
    · have := h.b hfg; omega
set_option maxHeartbeats 4000000 in
theorem stepC_open {F g f d o c last turns moves opens i k : Nat} {x : Sc} (h : InvC F g f d o last turns moves opens i) (K : KnowC F o f g c x) (hc : choose x d = openC k) (hn : f ≠ g) :
    InvC F g f k (c ||| 2 ^ k) last turns moves (opens + 1) (i + 1) ∧ (k = 1 ∨ k = 2) := by
  obtain ⟨hO1, hO2, hO0⟩ := ch_open x d K.fit h.dd
  have hk : k = 1 ∨ k = 2 := by
    have := ch_in x d K.fit h.dd
    rw [hc] at this
    simp [openC, moveC] at this
    rcases this with rfl | rfl | rfl
    · exfalso
      obtain ⟨h1, h2, h3, h4, h5⟩ := hO0 hc
      rcases Nat.lt_or_ge f g with hl | hl
      · rw [K.ab hl] at h2; cases h2
      · rw [K.be (by omega)] at h3; cases h3
    · exact .inl rfl
    · exact .inr rfl
  have hk2 : k ≤ 2 := by omega
  have hco : c = o := by
    by_cases hco : c = o
    · exact hco
    · exact absurd (K.rs hco) hn
  subst hco
  have hnb : c.testBit k = false := by
    rcases hk with rfl | rfl
    · rcases hO1 hc with h1 | h1
      · exact K.nu h1
      · rw [K.nc h1.1]; simp
    · rcases hO2 hc with h1 | h1
      · exact K.nd h1
      · rw [K.nc h1.1]; simp
  obtain ⟨q1, q2⟩ := or_bits h.oo hk2
  refine ⟨⟨h.ff, hk2, or_open h.oo hk2, h.l, h.z, fun h0 => absurd h0 hn, fun _ => by omega, ?_, ?_, ?_, ?_, fun _ h0 => absurd h0 hn, fun _ => ?_, fun h0 => absurd h0 hn, by have := h.ii; omega⟩, hk⟩
  · intro hl hfg hk1
    subst hk1
    have hd := h.dd
    have := h.n hl
    have hd' : d = 1 ∨ d = 2 := by omega
    rcases hd' with rfl | rfl
    · exact h.a1 hl hfg rfl
    · obtain ⟨u1, u2, u3⟩ := h.a2 hl hfg rfl
      subst u1 u2
      simp
      omega
  · intro hl hfg hk1
    subst hk1
    have hd := h.dd
    have := h.n hl
    have hd' : d = 1 ∨ d = 2 := by omega
    rcases hd' with rfl | rfl
    · have := ch_L x K.fit (K.ab hfg)
      rw [hc] at this
      simp [openC, moveC] at this
    · exact h.a2 hl hfg rfl
  · intro hl hfg hk1
    subst hk1
    have hd := h.dd
    have := h.n hl
    have hd' : d = 1 ∨ d = 2 := by omega
    rcases hd' with rfl | rfl
    · exact h.e1 hl hfg rfl
    · have := ch_G x K.fit (K.be hfg)
      rw [hc] at this
      simp [openC, moveC] at this
  · intro hl hfg hk1
    subst hk1
    have hd := h.dd
    have hf := h.ff
    have := h.n hl
    have hd' : d = 1 ∨ d = 2 := by omega
    rcases hd' with rfl | rfl
    · obtain ⟨u1, u2, u3⟩ := h.e1 hl hfg rfl
      subst u1 u2
      simp
      omega
    · exact h.e2 hl hfg rfl
  · have hb := h.b hn
    rw [q1, q2]
    rcases hk with rfl | rfl
    · rw [hnb] at hb ⊢; simp [b2] at hb ⊢; omega
    · rw [hnb] at hb ⊢; simp [b2] at hb ⊢; omega

set_option maxHeartbeats 4000000 in
theorem stepC_mv1 {F g f d o c last turns moves opens i : Nat} {x : Sc} (h : InvC F g f d o last turns moves opens i) (K : KnowC F o f g c x) (hg : g < F) (hc : choose x d = moveC 1) :
    InvC F g (f + 1) 1 0 1 (turns + (if last = 2 then 1 else 0)) (moves + 1) 0 (i + 1) := by
  have hmv := (ch_mv x d K.fit h.dd).1 hc
  have hin := K.la hmv
  have hf := h.ff
  have hall := h.all hg
  have hi : i + 1 ≤ 4 * (moves + 1) + 0 := by
    have := h.ii
    omega
  have hme : f = g → last = 0 := fun hfg => by
    by_cases ho : o = 0
    · exfalso
      have h0 : c = 0 := by rcases K.cc with h0 | h0 <;> omega
      have h1 := K.here hfg
      rw [decide_eq_true h0] at h1
      have := ch_C x d K.fit h.dd h1
      rw [hc] at this
      simp [moveC] at this
    · exact h.m hfg ho
  have hcore : last = 0 ∨ (last ≠ 0 ∧ f < g ∧ d = 1 ∧ turns + (if last = 2 then 1 else 0) ≤ 1 ∧ moves + (g - f) ≤ 3 * F) ∨ (last ≠ 0 ∧ f < g ∧ d = 2 ∧ turns = 0 ∧ last = 2 ∧ moves + f + g ≤ 3 * F) ∨ (last ≠ 0 ∧ g < f ∧ d = 1 ∧ turns = 0 ∧ last = 1 ∧ moves + (F - 1 - f) + (F - 1 - g) ≤ 3 * F) ∨ (last ≠ 0 ∧ g < f ∧ d = 2 ∧ turns + (if last = 1 then 1 else 0) ≤ 1 ∧ moves + (f - g) ≤ 3 * F) := by
    by_cases hl : last = 0
    · exact .inl hl
    · have hd := h.dd
      have hn := h.n hl
      have hd' : d = 1 ∨ d = 2 := by omega
      rcases Nat.lt_trichotomy f g with hfg | hfg | hfg
      · rcases hd' with rfl | rfl
        · exact .inr (.inl ⟨hl, hfg, rfl, h.a1 hl hfg rfl⟩)
        · exact .inr (.inr (.inl ⟨hl, hfg, rfl, h.a2 hl hfg rfl⟩))
      · exact absurd (hme hfg) hl
      · rcases hd' with rfl | rfl
        · exact .inr (.inr (.inr (.inl ⟨hl, hfg, rfl, h.e1 hl hfg rfl⟩)))
        · exact .inr (.inr (.inr (.inr ⟨hl, hfg, rfl, h.e2 hl hfg rfl⟩)))
  have hnot : ¬ (g < f ∧ d = 2) := fun ⟨h1, h2⟩ => by
    subst h2
    have := ch_G x K.fit (K.be h1)
    rw [hc] at this
    simp [openC, moveC] at this
  have hll : last = 0 ∨ last = 1 ∨ last = 2 := by have := h.l; omega
  have hz := h.z
  refine ⟨by omega, by decide, by decide, by decide, fun h0 => absurd h0 (by decide), fun _ h0 => absurd rfl h0, fun _ => by decide, ?_, ?_, ?_, ?_, ?_, fun _ => by simp, fun _ => rfl, hi⟩
  all_goals
    intros
    rcases hll with rfl | rfl | rfl
    all_goals simp at hcore hz ⊢
    all_goals omega

set_option maxHeartbeats 4000000 in
theorem stepC_mv2 {F g f d o c last turns moves opens i : Nat} {x : Sc} (h : InvC F g f d o last turns moves opens i) (K : KnowC F o f g c x) (hg : g < F) (hc : choose x d = moveC 2) :
    InvC F g (f - 1) 2 0 2 (turns + (if last = 1 then 1 else 0)) (moves + 1) 0 (i + 1) ∧ 0 < f := by
  have hmv := (ch_mv x d K.fit h.dd).2 hc
  have hin := K.lb hmv
  have hf := h.ff
  have hall := h.all hg
  have hi : i + 1 ≤ 4 * (moves + 1) + 0 := by
    have := h.ii
    omega
  have hme : f = g → last = 0 := fun hfg => by
    by_cases ho : o = 0
    · exfalso
      have h0 : c = 0 := by rcases K.cc with h0 | h0 <;> omega
      have h1 := K.here hfg
      rw [decide_eq_true h0] at h1
      have := ch_C x d K.fit h.dd h1
      rw [hc] at this
      simp [moveC] at this
    · exact h.m hfg ho
  have hcore : last = 0 ∨ (last ≠ 0 ∧ f < g ∧ d = 1 ∧ turns + (if last = 2 then 1 else 0) ≤ 1 ∧ moves + (g - f) ≤ 3 * F) ∨ (last ≠ 0 ∧ f < g ∧ d = 2 ∧ turns = 0 ∧ last = 2 ∧ moves + f + g ≤ 3 * F) ∨ (last ≠ 0 ∧ g < f ∧ d = 1 ∧ turns = 0 ∧ last = 1 ∧ moves + (F - 1 - f) + (F - 1 - g) ≤ 3 * F) ∨ (last ≠ 0 ∧ g < f ∧ d = 2 ∧ turns + (if last = 1 then 1 else 0) ≤ 1 ∧ moves + (f - g) ≤ 3 * F) := by
    by_cases hl : last = 0
    · exact .inl hl
    · have hd := h.dd
      have hn := h.n hl
      have hd' : d = 1 ∨ d = 2 := by omega
      rcases Nat.lt_trichotomy f g with hfg | hfg | hfg
      · rcases hd' with rfl | rfl
        · exact .inr (.inl ⟨hl, hfg, rfl, h.a1 hl hfg rfl⟩)
        · exact .inr (.inr (.inl ⟨hl, hfg, rfl, h.a2 hl hfg rfl⟩))
      · exact absurd (hme hfg) hl
      · rcases hd' with rfl | rfl
        · exact .inr (.inr (.inr (.inl ⟨hl, hfg, rfl, h.e1 hl hfg rfl⟩)))
        · exact .inr (.inr (.inr (.inr ⟨hl, hfg, rfl, h.e2 hl hfg rfl⟩)))
  have hnot : ¬ (f < g ∧ d = 1) := fun ⟨h1, h2⟩ => by
    subst h2
    have := ch_L x K.fit (K.ab h1)
    rw [hc] at this
    simp [openC, moveC] at this
  have hll : last = 0 ∨ last = 1 ∨ last = 2 := by have := h.l; omega
  have hz := h.z
  refine ⟨⟨by omega, by decide, by decide, by decide, fun h0 => absurd h0 (by decide), fun _ h0 => absurd rfl h0, fun _ => by decide, ?_, ?_, ?_, ?_, ?_, fun _ => by simp, fun _ => rfl, hi⟩, hin⟩
  all_goals
    intros
    rcases hll with rfl | rfl | rfl
    all_goals simp at hcore hz ⊢
    all_goals omega
end Cv
end Go.Proofs.YteniimbcbjbegaaDoor
