/- A car that is played: when its calls are shown, plainly. No statement of the seat is proved here. -/
import Derived.Test.YteniimbcbjbegaaDoorCvMath
namespace Go.Proofs.YteniimbcbjbegaaDoor
open Go.RowKit

namespace Cv
/-- The nearer direction is one in which there are stops. -/
def Sc.fit (x : Sc) : Bool := (x.nr == 1 && x.ab) || (x.nr == 2 && x.be) || (x.nr == 0 && (!x.ab && !x.be))
theorem look_fit (F o f : Nat) (s : Stp) : (look F o f s).fit = true := by
  unfold look Sc.fit near
  simp only
  cases h1 : upF (live F o f s).bits f <;> cases h2 : dnF (live F o f s).bits f
  · rfl
  · rfl
  · rfl
  · simp only
    split <;> rfl
def inL (c : Ch) (l : List Ch) : Bool := l.any fun x => decide (c = x)
def Q (P : Sc → Nat → Bool) : Bool := [true, false].all fun a => [true, false].all fun b => [true, false].all fun c => [true, false].all fun d => [true, false].all fun e => [0, 1, 2].all fun n => [0, 1, 2].all fun k => !(Sc.fit ⟨a, b, c, d, e, n⟩) || P ⟨a, b, c, d, e, n⟩ k
theorem mem_bool (b : Bool) : b ∈ [true, false] := by cases b <;> simp
theorem Q_out {P : Sc → Nat → Bool} (h : Q P = true) {x : Sc} (hx : x.fit = true) {d : Nat} (hd : d ≤ 2) : P x d = true := by
  obtain ⟨a, b, c, e, f, n⟩ := x
  have hn : n ∈ [0, 1, 2] := by
    simp [Sc.fit] at hx
    simp only [List.mem_cons, List.not_mem_nil, or_false]
    omega
  have hk : d ∈ [0, 1, 2] := by
    simp only [List.mem_cons, List.not_mem_nil, or_false]
    omega
  have h1 := List.all_eq_true.1 h a (mem_bool a)
  have h2 := List.all_eq_true.1 h1 b (mem_bool b)
  have h3 := List.all_eq_true.1 h2 c (mem_bool c)
  have h4 := List.all_eq_true.1 h3 e (mem_bool e)
  have h5 := List.all_eq_true.1 h4 f (mem_bool f)
  have h6 := List.all_eq_true.1 h5 n hn
  have h7 := List.all_eq_true.1 h6 d hk
  rw [hx] at h7
  simpa using h7
theorem inL_iff {c : Ch} {l : List Ch} : inL c l = true ↔ c ∈ l := by
  unfold inL
  rw [List.any_eq_true]
  constructor
  · rintro ⟨x, hx, h⟩
    rw [of_decide_eq_true h]; exact hx
  · intro h
    exact ⟨c, h, decide_eq_true rfl⟩
theorem ch_in (x : Sc) (d : Nat) (hx : x.fit = true) (hd : d ≤ 2) : choose x d ∈ [openC 0, openC 1, openC 2, moveC 0, moveC 1, moveC 2] :=
  inL_iff.1 (Q_out (P := fun x d => inL (choose x d) [openC 0, openC 1, openC 2, moveC 0, moveC 1, moveC 2]) (by decide +kernel) hx hd)
theorem ch_mv (x : Sc) (d : Nat) (hx : x.fit = true) (hd : d ≤ 2) : (choose x d = moveC 1 → x.ab = true) ∧ (choose x d = moveC 2 → x.be = true) := by
  have := Q_out (P := fun x d => (!decide (choose x d = moveC 1) || x.ab) && (!decide (choose x d = moveC 2) || x.be)) (by decide +kernel) hx hd
  have h2 : (¬choose x d = moveC 1 ∨ x.ab = true) ∧ (¬choose x d = moveC 2 ∨ x.be = true) := by simpa using this
  exact ⟨fun h => h2.1.resolve_left (fun c => c h), fun h => h2.2.resolve_left (fun c => c h)⟩
theorem ch_none (x : Sc) (d : Nat) (hx : x.fit = true) (hd : d ≤ 2) (h : choose x d = moveC 0) : x.up = false ∧ x.dn = false ∧ x.car = false ∧ x.ab = false ∧ x.be = false := by
  have := Q_out (P := fun x d => !decide (choose x d = moveC 0) || (!x.up && !x.dn && !x.car && !x.ab && !x.be)) (by decide +kernel) hx hd
  simp [h] at this
  obtain ⟨⟨⟨⟨a, b⟩, c⟩, d⟩, e⟩ := this
  exact ⟨a, b, c, d, e⟩
/-- What is shown has not been shown yet. -/
theorem ch_open (x : Sc) (d : Nat) (hx : x.fit = true) (hd : d ≤ 2) : (choose x d = openC 1 → x.up = true ∨ (x.car = true ∧ x.ab = true)) ∧ (choose x d = openC 2 → x.dn = true ∨ (x.car = true ∧ x.be = true)) ∧ (choose x d = openC 0 → x.car = true ∧ x.ab = false ∧ x.be = false ∧ x.up = false ∧ x.dn = false) := by
  have := Q_out (P := fun x d => (!decide (choose x d = openC 1) || (x.up || (x.car && x.ab))) && ((!decide (choose x d = openC 2) || (x.dn || (x.car && x.be))) && (!decide (choose x d = openC 0) || (x.car && (!x.ab && (!x.be && (!x.up && !x.dn))))))) (by decide +kernel) hx hd
  have h2 : (¬choose x d = openC 1 ∨ x.up = true ∨ x.car = true ∧ x.ab = true) ∧ (¬choose x d = openC 2 ∨ x.dn = true ∨ x.car = true ∧ x.be = true) ∧ (¬choose x d = openC 0 ∨ x.car = true ∧ x.ab = false ∧ x.be = false ∧ x.up = false ∧ x.dn = false) := by simpa using this
  exact ⟨fun h => h2.1.resolve_left (fun c => c h), fun h => h2.2.1.resolve_left (fun c => c h), fun h => h2.2.2.resolve_left (fun c => c h)⟩
theorem ch_L (x : Sc) (hx : x.fit = true) (h : x.ab = true) : choose x 1 ∈ [openC 1, moveC 1] := by
  have := Q_out (P := fun x d => !x.ab || inL (choose x 1) [openC 1, moveC 1]) (by decide +kernel) hx (d := 1) (by decide)
  rw [h] at this
  exact inL_iff.1 (by simpa using this)
theorem ch_G (x : Sc) (hx : x.fit = true) (h : x.be = true) : choose x 2 ∈ [openC 2, moveC 2] := by
  have := Q_out (P := fun x d => !x.be || inL (choose x 2) [openC 2, moveC 2]) (by decide +kernel) hx (d := 1) (by decide)
  rw [h] at this
  exact inL_iff.1 (by simpa using this)
theorem ch_A (x : Sc) (d : Nat) (hx : x.fit = true) (hd : d ≤ 2) (h : x.ab = true ∨ x.be = true) : choose x d ∈ [openC 1, openC 2, moveC 1, moveC 2] := by
  have := Q_out (P := fun x d => (!x.ab && !x.be) || inL (choose x d) [openC 1, openC 2, moveC 1, moveC 2]) (by decide +kernel) hx hd
  refine inL_iff.1 ?_
  rcases h with h | h <;> rw [h] at this <;> simpa using this
theorem ch_U (x : Sc) (d : Nat) (hx : x.fit = true) (hd : d ≤ 2) (h : x.up = true) : (d ≠ 2 → choose x d = openC 1) ∧ choose x d ∈ [openC 1, openC 2, moveC 2] := by
  have := Q_out (P := fun x d => !x.up || ((decide (d = 2) || decide (choose x d = openC 1)) && inL (choose x d) [openC 1, openC 2, moveC 2])) (by decide +kernel) hx hd
  rw [h] at this
  simp only [Bool.not_true, Bool.false_or, Bool.and_eq_true, Bool.or_eq_true, decide_eq_true_eq] at this
  exact ⟨fun hn => this.1.resolve_left hn, inL_iff.1 this.2⟩
theorem ch_D (x : Sc) (d : Nat) (hx : x.fit = true) (hd : d ≤ 2) (h : x.dn = true) : (d = 2 → choose x d = openC 2) ∧ (d = 1 → choose x d ∈ [openC 1, openC 2, moveC 1]) ∧ (d = 0 → choose x d ∈ [openC 1, openC 2]) := by
  have := Q_out (P := fun x d => !x.dn || ((!decide (d = 2) || decide (choose x d = openC 2)) && ((!decide (d = 1) || inL (choose x d) [openC 1, openC 2, moveC 1]) && (!decide (d = 0) || inL (choose x d) [openC 1, openC 2])))) (by decide +kernel) hx hd
  rw [h] at this
  simp only [Bool.not_true, Bool.false_or, Bool.and_eq_true, Bool.or_eq_true, decide_eq_true_eq, Bool.not_eq_true', decide_eq_false_iff_not] at this
  exact ⟨fun hn => this.1.resolve_left (fun c => c hn), fun hn => inL_iff.1 (this.2.1.resolve_left (fun c => c hn)), fun hn => inL_iff.1 (this.2.2.resolve_left (fun c => c hn))⟩
theorem ch_M1 (x : Sc) (d : Nat) (hx : x.fit = true) (hd : d ≤ 2) (h1 : x.up = false) (h2 : x.car = false) (h : x.dn = true ∨ x.ab = true ∨ x.be = true) : choose x d ∈ [openC 2, moveC 1, moveC 2] := by
  have := Q_out (P := fun x d => x.up || (x.car || ((!x.dn && (!x.ab && !x.be)) || inL (choose x d) [openC 2, moveC 1, moveC 2]))) (by decide +kernel) hx hd
  refine inL_iff.1 ?_
  rw [h1, h2] at this
  rcases h with h | h | h <;> rw [h] at this <;> simpa using this
theorem ch_M2 (x : Sc) (d : Nat) (hx : x.fit = true) (hd : d ≤ 2) (h1 : x.dn = false) (h2 : x.car = false) (h : x.up = true ∨ x.ab = true ∨ x.be = true) : choose x d ∈ [openC 1, moveC 1, moveC 2] := by
  have := Q_out (P := fun x d => x.dn || (x.car || ((!x.up && (!x.ab && !x.be)) || inL (choose x d) [openC 1, moveC 1, moveC 2]))) (by decide +kernel) hx hd
  refine inL_iff.1 ?_
  rw [h1, h2] at this
  rcases h with h | h | h <;> rw [h] at this <;> simpa using this
theorem ch_C (x : Sc) (d : Nat) (hx : x.fit = true) (hd : d ≤ 2) (h : x.car = true) : (choose x d).d_ = 3 := by
  have := Q_out (P := fun x d => !x.car || decide ((choose x d).d_ = 3)) (by decide +kernel) hx hd
  rw [h] at this
  simpa using this

/-- What one step needs to know of the call (g, e). -/
structure Knows (F o f g e c : Nat) (x : Sc) : Prop where
  fit : x.fit = true
  ab : f < g → x.ab = true
  be : g < f → x.be = true
  here : f = g → (if e = 1 then x.up else x.dn) = !c.testBit e
  cc : c = 0 ∨ c = o
  rs : c ≠ o → f = g ∧ o.testBit e = true
  cm : f = g → c.testBit e = true → x.car = false ∧ (x.up = true ∨ x.dn = true ∨ x.ab = true ∨ x.be = true)
  la : x.ab = true → f + 1 < F
  lb : x.be = true → 0 < f
  nu : x.up = true → c.testBit 1 = false
  nd : x.dn = true → c.testBit 2 = false
  nc : x.car = true → c = 0
theorem knows {F o f g e : Nat} {s : Stp} (hs : s.ok) (hF : F ≤ 32) (hf : f < F) (he : (e = 1 ∧ s.h.up.testBit g = true ∧ g + 1 < F) ∨ (e = 2 ∧ s.h.dn.testBit g = true ∧ 0 < g ∧ g < F)) : Knows F o f g e (cd o f (cnt F s)) (look F o f s) := by
  have hg : atB F s g = true := by
    unfold atB
    rcases he with ⟨-, h1, h2⟩ | ⟨-, h1, h2, h3⟩
    · have : g < F := by omega
      simp [h1, h2, this]
    · simp [h1, h2, h3]
  refine ⟨look_fit F o f s, fun h => (look_ab hs hF hf).2 ⟨g, h, hg⟩, fun h => (look_be hs hF hf).2 ⟨g, h, hg⟩, ?_, ?_, ?_, ?_, ?_, ?_, ?_, ?_, ?_⟩
  · rintro rfl
    rcases he with ⟨rfl, h1, h2⟩ | ⟨rfl, h1, h2, h3⟩
    · rw [if_pos rfl, look_up hs hF hf, h1, decide_eq_true h2]; simp
    · rw [if_neg (by decide), look_dn hs hF hf, h1, decide_eq_true h2]; simp
  · rcases cd_cases (o := o) hs hF hf with ⟨h, -⟩ | ⟨h, -⟩
    · exact .inl h
    · exact .inr h
  · intro hn
    rcases cd_cases (o := o) hs hF hf with ⟨h, h0 | ⟨h1, h2, h3⟩⟩ | ⟨h, -⟩
    · exact absurd (h.trans h0.symm) hn
    · have hfg : f = g := by
        apply Classical.byContradiction
        intro hne
        rw [h1 g (fun e => hne e.symm)] at hg
        cases hg
      subst hfg
      refine ⟨rfl, ?_⟩
      rcases he with ⟨rfl, k1, k2⟩ | ⟨rfl, k1, k2, k3⟩
      · exact h2 (by rw [k1, decide_eq_true k2]; rfl)
      · exact h3 (by rw [k1, decide_eq_true k2]; rfl)
    · exact absurd h hn
  · rintro rfl hb
    rcases cd_cases (o := o) hs hF hf with ⟨h, -⟩ | ⟨h, h0, h1⟩
    · rw [h] at hb; simp at hb
    · refine ⟨?_, h1⟩
      rw [look_car hs hF hf, h]
      simp [h0]
  · intro h
    obtain ⟨k, h1, h2⟩ := (look_ab hs hF hf).1 h
    have := atB_lt h2
    omega
  · intro h
    obtain ⟨k, h1, h2⟩ := (look_be hs hF hf).1 h
    omega
  · intro h
    rw [look_up hs hF hf] at h
    simp at h
    exact h.2
  · intro h
    rw [look_dn hs hF hf] at h
    simp at h
    exact h.2
  · intro h
    rw [look_car hs hF hf] at h
    simp at h
    exact h.2
def b2 (b : Bool) : Nat := if b then 1 else 0
/-- What holds while the call up at g has not been shown. -/
structure Inv1 (F g f d o last turns moves opens i : Nat) : Prop where
  ff : f < F
  dd : d ≤ 2
  oo : o ≤ 7
  l : last ≤ 2
  z : last = 0 → turns = 0 ∧ moves = 0
  m : f = g → o.testBit 1 = true → last = 0 ∧ opens ≤ b2 (o.testBit 2)
  n : last ≠ 0 → d ≠ 0
  s : last ≠ 0 → d = 1 → f ≤ g → turns + (if last = 2 then 1 else 0) ≤ 2 ∧ moves + (g - f) ≤ 3 * F
  u : last ≠ 0 → d = 1 → g < f → last = 1 ∧ turns = 0 ∧ moves + (F - 1 - f) + (F - 1) + g ≤ 3 * F
  w : last ≠ 0 → d = 2 → turns + 1 + (if last = 1 then 1 else 0) ≤ 2 ∧ moves + f + g ≤ 3 * F
  b : opens ≤ 1 + b2 (o.testBit 1) + b2 (o.testBit 2)
  ii : i ≤ 4 * moves + opens
structure Inv2 (F g f d o last turns moves opens i : Nat) : Prop where
  ff : f < F
  dd : d ≤ 2
  oo : o ≤ 7
  l : last ≤ 2
  z : last = 0 → turns = 0 ∧ moves = 0
  m : f = g → o.testBit 2 = true → last = 0 ∧ opens ≤ b2 (o.testBit 1)
  n : last ≠ 0 → d ≠ 0
  s : last ≠ 0 → d = 2 → g ≤ f → turns + (if last = 1 then 1 else 0) ≤ 2 ∧ moves + (f - g) ≤ 3 * F
  u : last ≠ 0 → d = 2 → f < g → last = 2 ∧ turns = 0 ∧ moves + f + (F - 1) + (F - 1 - g) ≤ 3 * F
  w : last ≠ 0 → d = 1 → turns + 1 + (if last = 2 then 1 else 0) ≤ 2 ∧ moves + (F - 1 - f) + (F - 1 - g) ≤ 3 * F
  b : opens ≤ 1 + b2 (o.testBit 1) + b2 (o.testBit 2)
  ii : i ≤ 4 * moves + opens
theorem b2_le (b : Bool) : b2 b ≤ 1 := by cases b <;> decide
theorem or_open {c k : Nat} (hc : c ≤ 7) (hk : k ≤ 2) : c ||| 2 ^ k ≤ 7 := by
  have := (by decide : ∀ (c : Fin 8) (k : Fin 3), c.val ||| 2 ^ k.val ≤ 7) ⟨c, by omega⟩ ⟨k, by omega⟩
  exact this
theorem or_bits {c k : Nat} (hc : c ≤ 7) (hk : k ≤ 2) : (c ||| 2 ^ k).testBit 1 = (c.testBit 1 || decide (k = 1)) ∧ (c ||| 2 ^ k).testBit 2 = (c.testBit 2 || decide (k = 2)) := by
  have := (by decide : ∀ (c : Fin 8) (k : Fin 3), (c.val ||| 2 ^ k.val).testBit 1 = (c.val.testBit 1 || decide (k.val = 1)) ∧ (c.val ||| 2 ^ k.val).testBit 2 = (c.val.testBit 2 || decide (k.val = 2))) ⟨c, by omega⟩ ⟨k, by omega⟩
  exact this

theorem here1 {F o f g c : Nat} {x : Sc} (h : Knows F o f g 1 c x) (hfg : f = g) : x.up = !c.testBit 1 := by
  have := h.here hfg
  simpa using this
theorem c_of1 {F o f g c : Nat} {x : Sc} (h : Knows F o f g 1 c x) {k : Nat} (hb : c.testBit k = true) : c = o := by
  rcases h.cc with h0 | h0
  · rw [h0] at hb; simp at hb
  · exact h0
set_option maxHeartbeats 4000000 in
theorem step1_open {F g f d o c last turns moves opens i k : Nat} {x : Sc} (h : Inv1 F g f d o last turns moves opens i) (K : Knows F o f g 1 c x) (hg : g < F) (hc : choose x d = openC k) (hn : ¬ (f = g ∧ k = 1)) :
    Inv1 F g f k (c ||| 2 ^ k) last turns moves (opens + 1) (i + 1) ∧ opens + 1 ≤ 4 ∧ turns ≤ 2 ∧ moves ≤ 3 * F ∧ (k = 1 ∨ k = 2) := by
  obtain ⟨hO1, hO2, hO0⟩ := ch_open x d K.fit h.dd
  have hk : k = 1 ∨ k = 2 := by
    have := ch_in x d K.fit h.dd
    rw [hc] at this
    simp [openC, moveC] at this
    rcases this with rfl | rfl | rfl
    · exfalso
      obtain ⟨h1, h2, h3, h4, h5⟩ := hO0 hc
      rcases Nat.lt_trichotomy f g with hl | hl | hl
      · rw [K.ab hl] at h2; cases h2
      · have := here1 K hl
        rw [h4] at this
        have h6 : c.testBit 1 = true := by simpa using this.symm
        rw [(K.cm hl h6).1] at h1; cases h1
      · rw [K.be hl] at h3; cases h3
    · exact .inl rfl
    · exact .inr rfl
  have hk2 : k ≤ 2 := by omega
  have hc7 : c ≤ 7 := by
    rcases K.cc with h0 | h0
    · omega
    · rw [h0]; exact h.oo
  have hnb : c.testBit k = false := by
    rcases hk with rfl | rfl
    · rcases hO1 hc with h1 | h1
      · exact K.nu h1
      · rw [K.nc h1.1]; simp
    · rcases hO2 hc with h1 | h1
      · exact K.nd h1
      · rw [K.nc h1.1]; simp
  obtain ⟨q1, q2⟩ := or_bits hc7 hk2
  have hb1 := b2_le (o.testBit 1)
  have hb2 := b2_le (o.testBit 2)
  have hll : last = 0 ∨ last = 1 ∨ last = 2 := by have := h.l; omega
  -- the openings
  have hbb : opens + 1 ≤ 1 + b2 ((c ||| 2 ^ k).testBit 1) + b2 ((c ||| 2 ^ k).testBit 2) := by
    rw [q1, q2]
    by_cases hco : c = o
    · subst hco
      have := h.b
      rcases hk with rfl | rfl
      · rw [hnb] at this ⊢; simp [b2] at this ⊢; omega
      · rw [hnb] at this ⊢; simp [b2] at this ⊢; omega
    · obtain ⟨r1, r2⟩ := K.rs hco
      have h0 : c = 0 := by rcases K.cc with h0 | h0; exact h0; exact absurd h0 hco
      have := (h.m r1 r2).2
      subst h0
      rcases hk with rfl | rfl <;> simp [b2] at this ⊢ <;> simp [b2] at hb1 hb2 <;> (try split at this) <;> omega
  have hopen : opens + 1 ≤ 3 := by
    have := b2_le ((c ||| 2 ^ k).testBit 1)
    have := b2_le ((c ||| 2 ^ k).testBit 2)
    omega
  have hun : last ≠ 0 → f = g → c.testBit 1 = false := fun hl hfg => by
    cases hb : c.testBit 1
    · rfl
    · exfalso
      have := c_of1 K hb
      subst this
      exact hl (h.m hfg hb).1
  have hS : last ≠ 0 → turns ≤ 2 ∧ moves ≤ 3 * F := fun hl => by
    have hd := h.dd
    have := h.n hl
    have hd' : d = 1 ∨ d = 2 := by omega
    rcases hd' with rfl | rfl
    · rcases Nat.lt_or_ge g f with h1 | h1
      · have := h.u hl rfl h1; omega
      · have := h.s hl rfl h1; omega
    · have := h.w hl rfl; omega

  refine ⟨⟨h.ff, hk2, or_open hc7 hk2, h.l, h.z, ?_, fun _ => by omega, ?_, ?_, ?_, hbb, by have := h.ii; omega⟩, by omega, ?_, ?_, hk⟩
  · intro hfg hb
    have hko : k = 2 := by rcases hk with rfl | rfl <;> simp_all
    subst hko
    have hcb : c.testBit 1 = true := by rw [q1] at hb; simpa using hb
    have hco := c_of1 K hcb
    have hm := h.m hfg (hco ▸ hcb)
    refine ⟨hm.1, ?_⟩
    have : o.testBit 2 = false := hco ▸ hnb
    rw [this] at hm
    rw [q2]
    have := hm.2
    simp [b2] at this ⊢
    omega
  · intro hl hk1 hfg
    subst hk1
    have hlt : f < g := by omega
    have hd := h.dd
    have := h.n hl
    have hd' : d = 1 ∨ d = 2 := by omega
    rcases hd' with rfl | rfl
    · exact h.s hl rfl hfg
    · have := h.w hl rfl; rcases hll with rfl | rfl | rfl <;> simp at this ⊢ <;> omega
  · intro hl hk1 hfg
    subst hk1
    have hd := h.dd
    have := h.n hl
    have hd' : d = 1 ∨ d = 2 := by omega
    rcases hd' with rfl | rfl
    · exact h.u hl rfl hfg
    · have := ch_G x K.fit (K.be hfg); rw [hc] at this; simp [openC, moveC] at this
  · intro hl hk1
    subst hk1
    have hd := h.dd
    have := h.n hl
    have hd' : d = 2 ∨ d = 1 := by omega
    rcases hd' with rfl | rfl
    · exact h.w hl rfl
    · rcases Nat.lt_trichotomy f g with hfg | hfg | hfg
      · have := ch_L x K.fit (K.ab hfg); rw [hc] at this; simp [openC, moveC] at this
      · have h6 := here1 K hfg
        rw [hun hl hfg] at h6
        have := (ch_U x 1 K.fit (by decide) (by simpa using h6)).1 (by decide)
        rw [hc] at this
        simp [openC] at this
      · obtain ⟨u1, u2, u3⟩ := h.u hl rfl hfg; have := h.ff; subst u1 u2; simp; omega
  · by_cases hl : last = 0
    · have := h.z hl; omega
    · exact (hS hl).1
  · by_cases hl : last = 0
    · have := h.z hl; omega
    · exact (hS hl).2

set_option maxHeartbeats 4000000 in
theorem step1_mv1 {F g f d o c last turns moves opens i : Nat} {x : Sc} (h : Inv1 F g f d o last turns moves opens i) (K : Knows F o f g 1 c x) (hg : g < F) (hc : choose x d = moveC 1) :
    Inv1 F g (f + 1) 1 0 1 (turns + (if last = 2 then 1 else 0)) (moves + 1) 0 (i + 1) ∧ turns + (if last = 2 then 1 else 0) ≤ 2 ∧ moves + 1 ≤ 3 * F := by
  have hmv := (ch_mv x d K.fit h.dd).1 hc
  have hin := K.la hmv
  have hf := h.ff
  have hll : last = 0 ∨ last = 1 ∨ last = 2 := by have := h.l; omega
  have hun : last ≠ 0 → f = g → c.testBit 1 = false := fun hl hfg => by
    cases hb : c.testBit 1
    · rfl
    · exfalso
      have := c_of1 K hb
      subst this
      exact hl (h.m hfg hb).1
  have hb1 := b2_le (o.testBit 1)
  have hb2 := b2_le (o.testBit 2)
  have hi : i + 1 ≤ 4 * (moves + 1) + 0 := by
    have := h.ii
    have := h.b
    omega
  have hnew : Inv1 F g (f + 1) 1 0 1 (turns + (if last = 2 then 1 else 0)) (moves + 1) 0 (i + 1) := by
    refine ⟨by omega, by decide, by decide, by decide, fun h0 => absurd h0 (by decide), fun _ h0 => absurd h0 (by simp), fun _ => by decide, ?_, ?_, ?_, by omega, hi⟩
    · intro _ _ hfg
      by_cases hl : last = 0
      · obtain ⟨z1, z2⟩ := h.z hl
        subst hl z1 z2
        simp
        omega
      · have hd := h.dd
        have := h.n hl
        have hd' : d = 1 ∨ d = 2 := by omega
        rcases hd' with rfl | rfl
        · have := h.s hl rfl (by omega)
          rcases hll with rfl | rfl | rfl <;> simp at this ⊢ <;> omega
        · have := h.w hl rfl
          rcases hll with rfl | rfl | rfl <;> simp at this ⊢ <;> omega
    · intro _ _ hfg
      by_cases hl : last = 0
      · obtain ⟨z1, z2⟩ := h.z hl
        subst hl z1 z2
        refine ⟨rfl, by simp, ?_⟩
        omega
      · have hd := h.dd
        have := h.n hl
        have hd' : d = 1 ∨ d = 2 := by omega
        by_cases hfe : f = g
        · have h6 := here1 K hfe
          rw [hun hl hfe] at h6
          exfalso
          rcases hd' with rfl | rfl
          · have := (ch_U x 1 K.fit (by decide) (by simpa using h6)).1 (by decide)
            rw [hc] at this
            simp [openC, moveC] at this
          · have := (ch_U x 2 K.fit (by decide) (by simpa using h6)).2
            rw [hc] at this
            simp [openC, moveC] at this
        · rcases hd' with rfl | rfl
          · obtain ⟨u1, u2, u3⟩ := h.u hl rfl (by omega)
            subst u1 u2
            refine ⟨rfl, by simp, ?_⟩
            omega
          · have := ch_G x K.fit (K.be (by omega))
            rw [hc] at this
            simp [openC, moveC] at this
    · intro _ h0
      exact absurd h0 (by decide)
  refine ⟨hnew, ?_, ?_⟩
  · rcases Nat.lt_or_ge g (f + 1) with h1 | h1
    · have := hnew.u (by decide) rfl h1; omega
    · have := hnew.s (by decide) rfl h1; simp at this; omega
  · rcases Nat.lt_or_ge g (f + 1) with h1 | h1
    · have := hnew.u (by decide) rfl h1; omega
    · have := hnew.s (by decide) rfl h1; omega

set_option maxHeartbeats 4000000 in
theorem step1_mv2 {F g f d o c last turns moves opens i : Nat} {x : Sc} (h : Inv1 F g f d o last turns moves opens i) (K : Knows F o f g 1 c x) (hg : g < F) (hc : choose x d = moveC 2) :
    Inv1 F g (f - 1) 2 0 2 (turns + (if last = 1 then 1 else 0)) (moves + 1) 0 (i + 1) ∧ turns + (if last = 1 then 1 else 0) ≤ 2 ∧ moves + 1 ≤ 3 * F ∧ 0 < f := by
  have hmv := (ch_mv x d K.fit h.dd).2 hc
  have hin := K.lb hmv
  have hf := h.ff
  have hll : last = 0 ∨ last = 1 ∨ last = 2 := by have := h.l; omega
  have hun : last ≠ 0 → f = g → c.testBit 1 = false := fun hl hfg => by
    cases hb : c.testBit 1
    · rfl
    · exfalso
      have := c_of1 K hb
      subst this
      exact hl (h.m hfg hb).1
  have hb1 := b2_le (o.testBit 1)
  have hb2 := b2_le (o.testBit 2)
  have hi : i + 1 ≤ 4 * (moves + 1) + 0 := by
    have := h.ii
    have := h.b
    omega
  have hnew : Inv1 F g (f - 1) 2 0 2 (turns + (if last = 1 then 1 else 0)) (moves + 1) 0 (i + 1) := by
    refine ⟨by omega, by decide, by decide, by decide, fun h0 => absurd h0 (by decide), fun _ h0 => absurd h0 (by simp), fun _ => by decide, ?_, ?_, ?_, by omega, hi⟩
    · intro _ h0
      exact absurd h0 (by decide)
    · intro _ h0
      exact absurd h0 (by decide)
    · intro _ _
      by_cases hl : last = 0
      · obtain ⟨z1, z2⟩ := h.z hl
        subst hl z1 z2
        simp
        omega
      · have hd := h.dd
        have := h.n hl
        have hd' : d = 1 ∨ d = 2 := by omega
        rcases hd' with rfl | rfl
        · rcases Nat.lt_trichotomy f g with hfg | hfg | hfg
          · have := ch_L x K.fit (K.ab hfg); rw [hc] at this; simp [openC, moveC] at this
          · have h6 := here1 K hfg
            rw [hun hl hfg] at h6
            have := (ch_U x 1 K.fit (by decide) (by simpa using h6)).1 (by decide)
            rw [hc] at this
            simp [openC, moveC] at this
          · obtain ⟨u1, u2, u3⟩ := h.u hl rfl hfg; subst u1 u2; simp; omega
        · have := h.w hl rfl
          rcases hll with rfl | rfl | rfl <;> simp at this ⊢ <;> omega
  refine ⟨hnew, ?_, ?_, hin⟩
  · have := hnew.w (by decide) rfl; simp at this; omega
  · have := hnew.w (by decide) rfl; omega

theorem here2 {F o f g c : Nat} {x : Sc} (h : Knows F o f g 2 c x) (hfg : f = g) : x.dn = !c.testBit 2 := by
  have := h.here hfg
  simpa using this
theorem c_of2 {F o f g c : Nat} {x : Sc} (h : Knows F o f g 2 c x) {k : Nat} (hb : c.testBit k = true) : c = o := by
  rcases h.cc with h0 | h0
  · rw [h0] at hb; simp at hb
  · exact h0
set_option maxHeartbeats 4000000 in
theorem step2_open {F g f d o c last turns moves opens i k : Nat} {x : Sc} (h : Inv2 F g f d o last turns moves opens i) (K : Knows F o f g 2 c x) (hg : g < F) (hc : choose x d = openC k) (hn : ¬ (f = g ∧ k = 2)) :
    Inv2 F g f k (c ||| 2 ^ k) last turns moves (opens + 1) (i + 1) ∧ opens + 1 ≤ 4 ∧ turns ≤ 2 ∧ moves ≤ 3 * F ∧ (k = 1 ∨ k = 2) := by
  obtain ⟨hO1, hO2, hO0⟩ := ch_open x d K.fit h.dd
  have hk : k = 1 ∨ k = 2 := by
    have := ch_in x d K.fit h.dd
    rw [hc] at this
    simp [openC, moveC] at this
    rcases this with rfl | rfl | rfl
    · exfalso
      obtain ⟨h1, h2, h3, h4, h5⟩ := hO0 hc
      rcases Nat.lt_trichotomy f g with hl | hl | hl
      · rw [K.ab hl] at h2; cases h2
      · have := here2 K hl
        rw [h5] at this
        have h6 : c.testBit 2 = true := by simpa using this.symm
        rw [(K.cm hl h6).1] at h1; cases h1
      · rw [K.be hl] at h3; cases h3
    · exact .inl rfl
    · exact .inr rfl
  have hk2 : k ≤ 2 := by omega
  have hc7 : c ≤ 7 := by
    rcases K.cc with h0 | h0
    · omega
    · rw [h0]; exact h.oo
  have hnb : c.testBit k = false := by
    rcases hk with rfl | rfl
    · rcases hO1 hc with h1 | h1
      · exact K.nu h1
      · rw [K.nc h1.1]; simp
    · rcases hO2 hc with h1 | h1
      · exact K.nd h1
      · rw [K.nc h1.1]; simp
  obtain ⟨q1, q2⟩ := or_bits hc7 hk2
  have hb1 := b2_le (o.testBit 1)
  have hb2 := b2_le (o.testBit 2)
  have hll : last = 0 ∨ last = 1 ∨ last = 2 := by have := h.l; omega
  -- the openings
  have hbb : opens + 1 ≤ 1 + b2 ((c ||| 2 ^ k).testBit 1) + b2 ((c ||| 2 ^ k).testBit 2) := by
    rw [q1, q2]
    by_cases hco : c = o
    · subst hco
      have := h.b
      rcases hk with rfl | rfl
      · rw [hnb] at this ⊢; simp [b2] at this ⊢; omega
      · rw [hnb] at this ⊢; simp [b2] at this ⊢; omega
    · obtain ⟨r1, r2⟩ := K.rs hco
      have h0 : c = 0 := by rcases K.cc with h0 | h0; exact h0; exact absurd h0 hco
      have := (h.m r1 r2).2
      subst h0
      rcases hk with rfl | rfl <;> simp [b2] at this ⊢ <;> simp [b2] at hb1 hb2 <;> (try split at this) <;> omega
  have hopen : opens + 1 ≤ 3 := by
    have := b2_le ((c ||| 2 ^ k).testBit 1)
    have := b2_le ((c ||| 2 ^ k).testBit 2)
    omega
  have hun : last ≠ 0 → f = g → c.testBit 2 = false := fun hl hfg => by
    cases hb : c.testBit 2
    · rfl
    · exfalso
      have := c_of2 K hb
      subst this
      exact hl (h.m hfg hb).1
  have hS : last ≠ 0 → turns ≤ 2 ∧ moves ≤ 3 * F := fun hl => by
    have hd := h.dd
    have := h.n hl
    have hd' : d = 1 ∨ d = 2 := by omega
    rcases hd' with rfl | rfl
    · have := h.w hl rfl; omega

    · rcases Nat.lt_or_ge f g with h1 | h1
      · have := h.u hl rfl h1; omega
      · have := h.s hl rfl h1; omega
  refine ⟨⟨h.ff, hk2, or_open hc7 hk2, h.l, h.z, ?_, fun _ => by omega, ?_, ?_, ?_, hbb, by have := h.ii; omega⟩, by omega, ?_, ?_, hk⟩
  · intro hfg hb
    have hko : k = 1 := by rcases hk with rfl | rfl <;> simp_all
    subst hko
    have hcb : c.testBit 2 = true := by rw [q2] at hb; simpa using hb
    have hco := c_of2 K hcb
    have hm := h.m hfg (hco ▸ hcb)
    refine ⟨hm.1, ?_⟩
    have : o.testBit 1 = false := hco ▸ hnb
    rw [this] at hm
    rw [q1]
    have := hm.2
    simp [b2] at this ⊢
    omega
  · intro hl hk1 hfg
    subst hk1
    have hlt : g < f := by omega
    have hd := h.dd
    have := h.n hl
    have hd' : d = 1 ∨ d = 2 := by omega
    rcases hd' with rfl | rfl
    · have := h.w hl rfl; have := h.ff; rcases hll with rfl | rfl | rfl <;> simp at this ⊢ <;> omega
    · exact h.s hl rfl hfg
  · intro hl hk1 hfg
    subst hk1
    have hd := h.dd
    have := h.n hl
    have hd' : d = 1 ∨ d = 2 := by omega
    rcases hd' with rfl | rfl
    · have := ch_L x K.fit (K.ab hfg); rw [hc] at this; simp [openC, moveC] at this
    · exact h.u hl rfl hfg
  · intro hl hk1
    subst hk1
    have hd := h.dd
    have := h.n hl
    have hd' : d = 1 ∨ d = 2 := by omega
    rcases hd' with rfl | rfl
    · exact h.w hl rfl
    · rcases Nat.lt_trichotomy f g with hfg | hfg | hfg
      · obtain ⟨u1, u2, u3⟩ := h.u hl rfl hfg; have := h.ff; subst u1 u2; simp; omega
      · have h6 := here2 K hfg
        rw [hun hl hfg] at h6
        have := (ch_D x 2 K.fit (by decide) (by simpa using h6)).1 rfl
        rw [hc] at this
        simp [openC] at this
      · have := ch_G x K.fit (K.be hfg); rw [hc] at this; simp [openC, moveC] at this
  · by_cases hl : last = 0
    · have := h.z hl; omega
    · exact (hS hl).1
  · by_cases hl : last = 0
    · have := h.z hl; omega
    · exact (hS hl).2

set_option maxHeartbeats 4000000 in
theorem step2_mv1 {F g f d o c last turns moves opens i : Nat} {x : Sc} (h : Inv2 F g f d o last turns moves opens i) (K : Knows F o f g 2 c x) (hg : g < F) (hc : choose x d = moveC 1) :
    Inv2 F g (f + 1) 1 0 1 (turns + (if last = 2 then 1 else 0)) (moves + 1) 0 (i + 1) ∧ turns + (if last = 2 then 1 else 0) ≤ 2 ∧ moves + 1 ≤ 3 * F := by
  have hmv := (ch_mv x d K.fit h.dd).1 hc
  have hin := K.la hmv
  have hf := h.ff
  have hll : last = 0 ∨ last = 1 ∨ last = 2 := by have := h.l; omega
  have hun : last ≠ 0 → f = g → c.testBit 2 = false := fun hl hfg => by
    cases hb : c.testBit 2
    · rfl
    · exfalso
      have := c_of2 K hb
      subst this
      exact hl (h.m hfg hb).1
  have hb1 := b2_le (o.testBit 1)
  have hb2 := b2_le (o.testBit 2)
  have hi : i + 1 ≤ 4 * (moves + 1) + 0 := by
    have := h.ii
    have := h.b
    omega
  have hnew : Inv2 F g (f + 1) 1 0 1 (turns + (if last = 2 then 1 else 0)) (moves + 1) 0 (i + 1) := by
    refine ⟨by omega, by decide, by decide, by decide, fun h0 => absurd h0 (by decide), fun _ h0 => absurd h0 (by simp), fun _ => by decide, ?_, ?_, ?_, by omega, hi⟩
    · intro _ h0
      exact absurd h0 (by decide)
    · intro _ h0
      exact absurd h0 (by decide)
    · intro _ _
      by_cases hl : last = 0
      · obtain ⟨z1, z2⟩ := h.z hl
        subst hl z1 z2
        simp
        omega
      · have hd := h.dd
        have := h.n hl
        have hd' : d = 2 ∨ d = 1 := by omega
        rcases hd' with rfl | rfl
        · rcases Nat.lt_trichotomy f g with hfg | hfg | hfg
          · obtain ⟨u1, u2, u3⟩ := h.u hl rfl hfg; subst u1 u2; simp; omega
          · have h6 := here2 K hfg
            rw [hun hl hfg] at h6
            have := (ch_D x 2 K.fit (by decide) (by simpa using h6)).1 rfl
            rw [hc] at this
            simp [openC, moveC] at this
          · have := ch_G x K.fit (K.be hfg); rw [hc] at this; simp [openC, moveC] at this
        · have := h.w hl rfl
          rcases hll with rfl | rfl | rfl <;> simp at this ⊢ <;> omega
  refine ⟨hnew, ?_, ?_⟩
  · have := hnew.w (by decide) rfl; simp at this; omega
  · have := hnew.w (by decide) rfl; omega

set_option maxHeartbeats 4000000 in
theorem step2_mv2 {F g f d o c last turns moves opens i : Nat} {x : Sc} (h : Inv2 F g f d o last turns moves opens i) (K : Knows F o f g 2 c x) (hg : g < F) (hc : choose x d = moveC 2) :
    Inv2 F g (f - 1) 2 0 2 (turns + (if last = 1 then 1 else 0)) (moves + 1) 0 (i + 1) ∧ turns + (if last = 1 then 1 else 0) ≤ 2 ∧ moves + 1 ≤ 3 * F ∧ 0 < f := by
  have hmv := (ch_mv x d K.fit h.dd).2 hc
  have hin := K.lb hmv
  have hf := h.ff
  have hll : last = 0 ∨ last = 1 ∨ last = 2 := by have := h.l; omega
  have hun : last ≠ 0 → f = g → c.testBit 2 = false := fun hl hfg => by
    cases hb : c.testBit 2
    · rfl
    · exfalso
      have := c_of2 K hb
      subst this
      exact hl (h.m hfg hb).1
  have hb1 := b2_le (o.testBit 1)
  have hb2 := b2_le (o.testBit 2)
  have hi : i + 1 ≤ 4 * (moves + 1) + 0 := by
    have := h.ii
    have := h.b
    omega
  have hnew : Inv2 F g (f - 1) 2 0 2 (turns + (if last = 1 then 1 else 0)) (moves + 1) 0 (i + 1) := by
    refine ⟨by omega, by decide, by decide, by decide, fun h0 => absurd h0 (by decide), fun _ h0 => absurd h0 (by simp), fun _ => by decide, ?_, ?_, ?_, by omega, hi⟩
    · intro _ _ hfg
      by_cases hl : last = 0
      · obtain ⟨z1, z2⟩ := h.z hl
        subst hl z1 z2
        simp
        omega
      · have hd := h.dd
        have := h.n hl
        have hd' : d = 2 ∨ d = 1 := by omega
        rcases hd' with rfl | rfl
        · have := h.s hl rfl (by omega)
          rcases hll with rfl | rfl | rfl <;> simp at this ⊢ <;> omega
        · have := h.w hl rfl
          rcases hll with rfl | rfl | rfl <;> simp at this ⊢ <;> omega
    · intro _ _ hfg
      by_cases hl : last = 0
      · obtain ⟨z1, z2⟩ := h.z hl
        subst hl z1 z2
        refine ⟨rfl, by simp, ?_⟩
        omega
      · have hd := h.dd
        have := h.n hl
        have hd' : d = 2 ∨ d = 1 := by omega
        by_cases hfe : f = g
        · have h6 := here2 K hfe
          rw [hun hl hfe] at h6
          exfalso
          rcases hd' with rfl | rfl
          · have := (ch_D x 2 K.fit (by decide) (by simpa using h6)).1 rfl
            rw [hc] at this
            simp [openC, moveC] at this
          · have := (ch_D x 1 K.fit (by decide) (by simpa using h6)).2.1 rfl
            rw [hc] at this
            simp [openC, moveC] at this
        · rcases hd' with rfl | rfl
          · obtain ⟨u1, u2, u3⟩ := h.u hl rfl (by omega)
            subst u1 u2
            refine ⟨rfl, by simp, ?_⟩
            omega
          · have := ch_L x K.fit (K.ab (by omega))
            rw [hc] at this
            simp [openC, moveC] at this
    · intro _ h0
      exact absurd h0 (by decide)
  refine ⟨hnew, ?_, ?_, hin⟩
  · rcases Nat.lt_or_ge (f - 1) g with h1 | h1
    · have := hnew.u (by decide) rfl h1; omega
    · have := hnew.s (by decide) rfl h1; simp at this; omega
  · rcases Nat.lt_or_ge (f - 1) g with h1 | h1
    · have := hnew.u (by decide) rfl h1; omega
    · have := hnew.s (by decide) rfl h1; omega

theorem Inv1.all {F g f d o last turns moves opens i : Nat} (h : Inv1 F g f d o last turns moves opens i) : turns ≤ 2 ∧ moves ≤ 3 * F ∧ opens ≤ 3 := by
  have hb1 := b2_le (o.testBit 1)
  have hb2 := b2_le (o.testBit 2)
  have hb := h.b
  have hS : turns ≤ 2 ∧ moves ≤ 3 * F := by
    by_cases hl : last = 0
    · have := h.z hl; omega
    · have hd := h.dd
      have := h.n hl
      have hd' : d = 1 ∨ d = 2 := by omega
      rcases hd' with rfl | rfl
      · rcases Nat.lt_or_ge g f with h1 | h1
        · have := h.u hl rfl h1; omega
        · have := h.s hl rfl h1; omega
      · have := h.w hl rfl; omega
  exact ⟨hS.1, hS.2, by omega⟩

theorem Inv2.all {F g f d o last turns moves opens i : Nat} (h : Inv2 F g f d o last turns moves opens i) : turns ≤ 2 ∧ moves ≤ 3 * F ∧ opens ≤ 3 := by
  have hb1 := b2_le (o.testBit 1)
  have hb2 := b2_le (o.testBit 2)
  have hb := h.b
  have hS : turns ≤ 2 ∧ moves ≤ 3 * F := by
    by_cases hl : last = 0
    · have := h.z hl; omega
    · have hd := h.dd
      have := h.n hl
      have hd' : d = 2 ∨ d = 1 := by omega
      rcases hd' with rfl | rfl
      · rcases Nat.lt_or_ge f g with h1 | h1
        · have := h.u hl rfl h1; omega
        · have := h.s hl rfl h1; omega
      · have := h.w hl rfl; omega
  exact ⟨hS.1, hS.2, by omega⟩
end Cv
end Go.Proofs.YteniimbcbjbegaaDoor
