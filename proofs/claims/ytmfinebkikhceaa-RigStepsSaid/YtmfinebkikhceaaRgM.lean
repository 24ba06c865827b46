/- The drive of a car for any states, commands and times, plainly. No statement of the seat is proved here. -/
import Derived.Test.YtmfinebkikhceaaRgPre
namespace Go.Proofs.Ytmfinebkikhceaa
open Go.RowKit

theorem Nc.wi_yes {lo hi n : Int} (h : lo ≤ n ∧ n ≤ hi) : Nc.wi lo hi n = true := Nc.wi_iff.2 h
theorem Nc.wi_no {lo hi n : Int} (h : ¬ (lo ≤ n ∧ n ≤ hi)) : Nc.wi lo hi n = false := by
  cases hq : Nc.wi lo hi n
  · rfl
  · exact absurd (Nc.wi_iff.1 hq) h
namespace Rg
/-- The step's part of a state. -/
def stepB (r : Rg) : Bool := if r.tg = r.fl then r.lf == 0 else Nc.wi (r.fl - 1) (r.fl + 1) r.tg && (Nc.wi 1 10000 r.lf && r.dd == 2)
/-- The door's part of a state. -/
def doorB (r : Rg) : Bool := if r.dd = 0 then Nc.wi 1 2 r.am && Nc.wi 1 10000 r.tk else Nc.wi 1 2 r.dd && (r.am == 0 && r.tk == 0)
def isB (F : Int) (r : Rg) : Bool := Nc.wi 2 32 F && (Nc.wi 0 (F - 1) r.fl && (Nc.wi 0 (F - 1) r.tg && (stepB r && doorB r)))
theorem stepB_iff {r : Rg} : stepB r = true ↔ (r.tg = r.fl ∧ r.lf = 0) ∨ (r.tg ≠ r.fl ∧ (r.fl - 1 ≤ r.tg ∧ r.tg ≤ r.fl + 1) ∧ (1 ≤ r.lf ∧ r.lf ≤ 10000) ∧ r.dd = 2) := by
  unfold stepB
  split
  · rename_i h; simp [h]
  · rename_i h; simp [h, Nc.wi_iff]
theorem doorB_iff {r : Rg} : doorB r = true ↔ (r.dd = 0 ∧ (1 ≤ r.am ∧ r.am ≤ 2) ∧ 1 ≤ r.tk ∧ r.tk ≤ 10000) ∨ (r.dd ≠ 0 ∧ (1 ≤ r.dd ∧ r.dd ≤ 2) ∧ r.am = 0 ∧ r.tk = 0) := by
  unfold doorB
  split
  · rename_i h; simp [h, Nc.wi_iff]
  · rename_i h; simp [h, Nc.wi_iff]
theorem isB_iff {F : Int} {r : Rg} : isB F r = true ↔ Ok F r := by
  unfold isB
  simp only [Bool.and_eq_true, Nc.wi_iff, stepB_iff, doorB_iff]
  constructor
  · rintro ⟨h1, h2, h3, h4, h5⟩
    refine ⟨h1, h2, h3, by omega, by omega, ?_, ?_⟩
    · rcases h4 with h | ⟨h, _, h', h''⟩
      · exact .inl h
      · exact .inr ⟨h, h', h''⟩
    · rcases h5 with h | ⟨h, _, h'⟩
      · exact .inl h
      · exact .inr ⟨h, h'⟩
  · rintro ⟨h1, h2, h3, h4, h5, h6, h7⟩
    refine ⟨h1, h2, h3, ?_, ?_⟩
    · rcases h6 with h | ⟨h, h', h''⟩
      · exact .inl h
      · exact .inr ⟨h, by omega, h', h''⟩
    · rcases h7 with h | ⟨h, h'⟩
      · exact .inl h
      · exact .inr ⟨h, by omega, h'⟩
/-- The time, limited. -/
def lim (t : Int) : Int := if t < 1 then 1 else if 10000 < t then 10000 else t
theorem lim_le (t : Int) : 1 ≤ lim t ∧ lim t ≤ 10000 := by unfold lim; split <;> (try split) <;> omega
theorem lim_play (t : Int) : ∃ u, (if 10000 < t then (10000 : Int) else t) = u ∧ (if 1 < u then u else 1) = lim t := by
  refine ⟨_, rfl, ?_⟩
  unfold lim
  split <;> split <;> (try split) <;> omega
theorem lim_rig (t : Int) : ∃ u, (if t < 1 then (1 : Int) else t) = u ∧ (if 10000 < u then (10000 : Int) else u) = lim t := by
  refine ⟨_, rfl, ?_⟩
  unfold lim
  split <;> split <;> (try split) <;> omega
theorem lim_id {t : Int} (h : 1 ≤ t ∧ t ≤ 10000) : lim t = t := by unfold lim; rw [if_neg (by omega), if_neg (by omega)]
/-- Step, for anything. -/
def anyF (F : Int) (r : Rg) (m t : Int) : Rg := if isB F r = true then stepF F r m (lim t) else new 0
theorem anyF_ok {F : Int} {r : Rg} {m t : Int} (h : Ok F r) : anyF F r m t = stepF F r m (lim t) := if_pos (isB_iff.2 h)
theorem anyF_good {F : Int} {r : Rg} {m t : Int} (h : Ok F r) : Ok F (anyF F r m t) := by rw [anyF_ok h]; exact stepF_ok h (lim_le t)
/-- The program's parts. -/
def rideF (r : Rg) (t l : Int) : Rg := {r with tg := t, lf := l, fl := if l = 0 then t else r.fl}
def nextF (F : Int) (r : Rg) (m : Int) : Int := if r.dd = 2 ∧ (0 ≤ r.nxt m ∧ r.nxt m ≤ F - 1) then r.nxt m else r.fl
def turnF (r : Rg) (a t : Int) : Rg :=
  if a = 0 ∨ a = r.dd then r else if a = r.am then shut {r with tk := r.tk - 1} a else shut {r with dd := 0, am := a, tk := t - 1} a
theorem stepF_prog {F : Int} {r : Rg} {m t : Int} (h : Ok F r) :
    stepF F r m t = if r.lf ≠ 0 then rideF r r.tg (r.lf - 1) else if nextF F r m ≠ r.fl then rideF r (nextF F r m) (t - 1) else turnF r (r.aim m) t := by
  obtain ⟨h1, h2, h3, h4, h5, h6, h7⟩ := h
  unfold stepF
  by_cases hl : 0 < r.lf
  · rw [if_pos hl, if_pos (by omega)]
    unfold arr rideF
    simp only
    split <;> rfl
  · have h0 : r.lf = 0 := by omega
    rw [if_neg hl, if_neg (show ¬ r.lf ≠ 0 by omega)]
    by_cases hn : r.dd = 2 ∧ r.nxt m ≠ r.fl ∧ (0 ≤ r.nxt m ∧ r.nxt m ≤ F - 1)
    · have e : nextF F r m = r.nxt m := if_pos ⟨hn.1, hn.2.2⟩
      rw [if_pos hn, e, if_pos hn.2.1]
      unfold arr rideF
      simp only
      split <;> rfl
    · have e : nextF F r m = r.fl := by
        unfold nextF
        split
        · rename_i h
          rcases Decidable.em (r.nxt m = r.fl) with h' | h'
          · exact h'
          · exact absurd ⟨h.1, h', h.2⟩ hn
        · rfl
      rw [if_neg hn, e, if_neg (show ¬ (r.fl ≠ r.fl) from fun x => x rfl)]
      unfold turnF
      by_cases ha : r.aim m = 0 ∨ r.aim m = r.dd
      · rw [if_pos ha, if_pos ha]
      · rw [if_neg ha, if_neg ha]
        by_cases hd : r.dd = 0 ∧ r.aim m = r.am
        · rw [if_pos hd, if_pos hd.2]
        · rw [if_neg hd, if_neg (show ¬ r.aim m = r.am by intro e2; rcases h7 with h7 | h7; exact hd ⟨h7.1, e2⟩; exact ha (.inl (by rw [e2]; exact h7.2.1)))]
def eqB (x y : Rg) : Bool := x.fl == y.fl && (x.tg == y.tg && (x.lf == y.lf && (x.dd == y.dd && (x.am == y.am && x.tk == y.tk))))
theorem eqB_iff (x y : Rg) : eqB x y = true ↔ x = y := by
  obtain ⟨a1, a2, a3, a4, a5, a6⟩ := x
  obtain ⟨b1, b2, b3, b4, b5, b6⟩ := y
  unfold eqB
  simp only [Bool.and_eq_true, beq_iff_eq, Rg.mk.injEq]
theorem eqB_self (x : Rg) : eqB x x = true := (eqB_iff x x).2 rfl
/-- What RigSafe asks of a tick. -/
theorem stepF_near {F : Int} {r : Rg} {m t : Int} (h : Ok F r) :
    ((stepF F r m t).fl - r.fl ≤ 1 ∧ r.fl - (stepF F r m t).fl ≤ 1) ∧ ((stepF F r m t).fl = r.fl ∨ (r.dd = 2 ∧ (stepF F r m t).dd = 2)) := by
  obtain ⟨h1, h2, h3, h4, h5, h6, h7⟩ := h
  have harr : ∀ q : Rg, (arr q).fl = (if q.lf = 0 then q.tg else q.fl) ∧ (arr q).dd = q.dd := by
    intro q; unfold arr; split <;> exact ⟨rfl, rfl⟩
  have hshut : ∀ (q : Rg) a, (shut q a).fl = q.fl := by
    intro q a; unfold shut; split <;> rfl
  unfold stepF
  split
  · rename_i hl
    rw [(harr _).1, (harr _).2]
    simp only
    rcases h6 with h6 | h6
    · omega
    · split <;> refine ⟨by omega, .inr ⟨h6.2.2, h6.2.2⟩⟩
  · rename_i hl
    split
    · rename_i hg
      rw [(harr _).1, (harr _).2]
      simp only
      have hn : r.nxt m - r.fl ≤ 1 ∧ r.fl - r.nxt m ≤ 1 := by
        unfold nxt; split
        · omega
        · split <;> omega
      split <;> refine ⟨by omega, .inr ⟨hg.1, hg.1⟩⟩
    · split
      · exact ⟨by omega, .inl rfl⟩
      · split <;> rw [hshut] <;> exact ⟨by show r.fl - r.fl ≤ 1 ∧ r.fl - r.fl ≤ 1; omega, .inl rfl⟩
/-- A movement: behind i of k ticks. -/
def rideAt (f d k i : Int) : Rg := if i = 0 then new f else if i < k then ⟨f, f + d, k - i, 2, 0, 0⟩ else new (f + d)
def openAt (f k i : Int) : Rg := if i = 0 then new f else if i < k then ⟨f, f, 0, 0, 1, k - i⟩ else ⟨f, f, 0, 1, 0, 0⟩
theorem arr_eq (f g l : Int) : arr ⟨f, g, l, 2, 0, 0⟩ = if l = 0 then ⟨g, g, l, 2, 0, 0⟩ else ⟨f, g, l, 2, 0, 0⟩ := by
  unfold arr; rfl
theorem rideAt_step {F f d m k i : Int} (hm : (m = 1 ∧ d = 1) ∨ (m = 2 ∧ d = -1)) (hf : 0 ≤ f + d ∧ f + d ≤ F - 1) (hi : 0 ≤ i ∧ i < k) : stepF F (rideAt f d k i) m k = rideAt f d k (i + 1) := by
  have hnx : ∀ (x : Rg), x.nxt m = x.fl + d := by
    intro x; unfold nxt; rcases hm with ⟨rfl, rfl⟩ | ⟨rfl, rfl⟩
    · rfl
    · rfl
  unfold rideAt
  rw [if_neg (show ¬ i + 1 = 0 by omega)]
  by_cases h0 : i = 0
  · subst h0
    rw [if_pos rfl]
    unfold stepF
    rw [if_neg (by show ¬ (0 : Int) < 0; omega), hnx, if_pos ⟨rfl, by show f + d ≠ f; omega, hf⟩]
    show arr ⟨f, f + d, k - 1, 2, 0, 0⟩ = _
    rw [arr_eq]
    by_cases h1 : k - 1 = 0
    · rw [if_pos h1, if_neg (by omega), h1]; rfl
    · rw [if_neg h1, if_pos (by omega)]; simp
  · rw [if_neg h0, if_pos hi.2]
    unfold stepF
    rw [if_pos (by show 0 < k - i; omega)]
    show arr ⟨f, f + d, k - i - 1, 2, 0, 0⟩ = _
    rw [arr_eq]
    by_cases h1 : k - i - 1 = 0
    · rw [if_pos h1, if_neg (by omega), h1]; rfl
    · rw [if_neg h1, if_pos (by omega), show k - i - 1 = k - (i + 1) by omega]
theorem shut_eq (f a k g : Int) : shut ⟨f, f, 0, 0, a, k⟩ g = if k = 0 then ⟨f, f, 0, g, 0, k⟩ else ⟨f, f, 0, 0, a, k⟩ := by
  unfold shut; rfl
theorem openAt_step {F f k i : Int} (hi : 0 ≤ i ∧ i < k) : stepF F (openAt f k i) 3 k = openAt f k (i + 1) := by
  unfold openAt
  rw [if_neg (show ¬ i + 1 = 0 by omega)]
  by_cases h0 : i = 0
  · subst h0
    rw [if_pos rfl]
    unfold stepF
    rw [if_neg (by show ¬ (0 : Int) < 0; omega), if_neg (fun e => e.2.1 rfl), if_neg (by show ¬ ((1 : Int) = 0 ∨ (1 : Int) = 2); decide), if_neg (by show ¬ ((2 : Int) = 0 ∧ (1 : Int) = 0); decide)]
    show shut ⟨f, f, 0, 0, 1, k - 1⟩ 1 = _
    rw [shut_eq]
    by_cases h1 : k - 1 = 0
    · rw [if_pos h1, if_neg (by omega), h1]
    · rw [if_neg h1, if_pos (by omega)]; simp
  · rw [if_neg h0, if_pos hi.2]
    unfold stepF
    rw [if_neg (by show ¬ (0 : Int) < 0; omega), if_neg (fun e => e.2.1 rfl), if_neg (by show ¬ ((1 : Int) = 0 ∨ (1 : Int) = 0); decide), if_pos ⟨rfl, rfl⟩]
    show shut ⟨f, f, 0, 0, 1, k - i - 1⟩ 1 = _
    rw [shut_eq]
    by_cases h1 : k - i - 1 = 0
    · rw [if_pos h1, if_neg (by omega), h1]
    · rw [if_neg h1, if_pos (by omega), show k - i - 1 = k - (i + 1) by omega]
/-- A door that is turned round: behind i of k ticks. -/
def backAt (f j k i : Int) : Rg := if i = 0 then ⟨f, f, 0, 0, 1, j⟩ else if i < k then ⟨f, f, 0, 0, 2, k - i⟩ else new f
theorem backAt_step {F f j m k i : Int} (hm : m = 4 ∨ m = 5) (hi : 0 ≤ i ∧ i < k) : stepF F (backAt f j k i) m k = backAt f j k (i + 1) := by
  have hnx : ∀ (x : Rg), x.nxt m = x.fl := by intro x; unfold nxt; rcases hm with rfl | rfl <;> rfl
  have hai : ∀ (x : Rg), x.aim m = 2 := by intro x; unfold aim; rcases hm with rfl | rfl <;> rfl
  unfold backAt
  rw [if_neg (show ¬ i + 1 = 0 by omega)]
  by_cases h0 : i = 0
  · subst h0
    rw [if_pos rfl]
    unfold stepF
    rw [if_neg (by show ¬ (0 : Int) < 0; omega), if_neg (fun e => e.2.1 (hnx _)), hai, if_neg (by show ¬ ((2 : Int) = 0 ∨ (2 : Int) = 0); decide), if_neg (by show ¬ ((0 : Int) = 0 ∧ (2 : Int) = 1); decide)]
    show shut ⟨f, f, 0, 0, 2, k - 1⟩ 2 = _
    rw [shut_eq]
    by_cases h1 : k - 1 = 0
    · rw [if_pos h1, if_neg (by omega), h1]; rfl
    · rw [if_neg h1, if_pos (by omega)]; simp
  · rw [if_neg h0, if_pos hi.2]
    unfold stepF
    rw [if_neg (by show ¬ (0 : Int) < 0; omega), if_neg (fun e => e.2.1 (hnx _)), hai, if_neg (by show ¬ ((2 : Int) = 0 ∨ (2 : Int) = 0); decide), if_pos ⟨rfl, rfl⟩]
    show shut ⟨f, f, 0, 0, 2, k - i - 1⟩ 2 = _
    rw [shut_eq]
    by_cases h1 : k - i - 1 = 0
    · rw [if_pos h1, if_neg (by omega), h1]; rfl
    · rw [if_neg h1, if_pos (by omega), show k - i - 1 = k - (i + 1) by omega]
theorem rideAt_ok {F f d k i : Int} (hF : 2 ≤ F ∧ F ≤ 32) (hd : d = 1 ∨ d = -1) (h1 : 0 ≤ f ∧ f ≤ F - 1) (hf : 0 ≤ f + d ∧ f + d ≤ F - 1) (hi : 0 ≤ i ∧ i ≤ k) (hk : k ≤ 9999) : Ok F (rideAt f d k i) := by
  unfold rideAt
  split
  · exact new_ok hF h1
  · split
    · refine ⟨hF, h1, hf, by show -1 ≤ f + d - f ∧ f + d - f ≤ 1; omega, by show (0 : Int) ≤ 2 ∧ (2 : Int) ≤ 2; omega, .inr ⟨by show f + d ≠ f; omega, by show 1 ≤ k - i ∧ k - i ≤ 10000; omega, rfl⟩, .inr ⟨by show (2 : Int) ≠ 0; decide, rfl, rfl⟩⟩
    · exact new_ok hF hf
theorem openAt_ok {F f k i : Int} (hF : 2 ≤ F ∧ F ≤ 32) (h1 : 0 ≤ f ∧ f ≤ F - 1) (hi : 0 ≤ i ∧ i ≤ k) (hk : k ≤ 9999) : Ok F (openAt f k i) := by
  unfold openAt
  split
  · exact new_ok hF h1
  · split
    · refine ⟨hF, h1, h1, by show -1 ≤ f - f ∧ f - f ≤ 1; omega, by show (0 : Int) ≤ 0 ∧ (0 : Int) ≤ 2; omega, .inl ⟨rfl, rfl⟩, .inl ⟨rfl, by show (1 : Int) ≤ 1 ∧ (1 : Int) ≤ 2; omega, by show 1 ≤ k - i ∧ k - i ≤ 10000; omega⟩⟩
    · exact ⟨hF, h1, h1, by show -1 ≤ f - f ∧ f - f ≤ 1; omega, by show (0 : Int) ≤ 1 ∧ (1 : Int) ≤ 2; omega, .inl ⟨rfl, rfl⟩, .inr ⟨by show (1 : Int) ≠ 0; decide, rfl, rfl⟩⟩
theorem backAt_ok {F f j k i : Int} (hF : 2 ≤ F ∧ F ≤ 32) (h1 : 0 ≤ f ∧ f ≤ F - 1) (hi : 0 ≤ i ∧ i ≤ k) (hk : k ≤ 9999) (hj : 1 ≤ j ∧ j ≤ 10000) : Ok F (backAt f j k i) := by
  unfold backAt
  split
  · exact ⟨hF, h1, h1, by show -1 ≤ f - f ∧ f - f ≤ 1; omega, by show (0 : Int) ≤ 0 ∧ (0 : Int) ≤ 2; omega, .inl ⟨rfl, rfl⟩, .inl ⟨rfl, by show (1 : Int) ≤ 1 ∧ (1 : Int) ≤ 2; omega, hj⟩⟩
  · split
    · refine ⟨hF, h1, h1, by show -1 ≤ f - f ∧ f - f ≤ 1; omega, by show (0 : Int) ≤ 0 ∧ (0 : Int) ≤ 2; omega, .inl ⟨rfl, rfl⟩, .inl ⟨rfl, by show (1 : Int) ≤ 2 ∧ (2 : Int) ≤ 2; omega, by show 1 ≤ k - i ∧ k - i ≤ 10000; omega⟩⟩
    · exact new_ok hF h1
end Rg
end Go.Proofs.Ytmfinebkikhceaa
