/- Plain mathematics of observations: the only bit of a set, what contacts stand for, which call is shown. No statement of the seat is proved here. -/
import Derived.Test.YtimaidiabjkgkaaDoorCtMath
import Derived.Test.YtimaidiabjkgkaaDoorRows
import Derived.Lib.BitFns
namespace Go.Proofs.YtimaidiabjkgkaaDoor

/-- An observation. -/
structure Ob where
  f : Int
  d : Int
  g : Int
deriving DecidableEq

namespace Ind
/-- The only bit of a set of 32. -/
def one (x : Nat) : Option Nat := (List.range 32).find? fun k => decide (x = 2 ^ k)
def bit (x : Nat) : Int := match one x with | some k => (k : Int) | none => -1
def okF (n : Int) : Bool := decide (2 ≤ n ∧ n ≤ 32)
def floorI (n : Int) (x : Nat) : Int := if okF n = true ∧ bit x < n then bit x else -1
def two (a b : Bool) : Int := (if a then 1 else 0) + (if b then 2 else 0)
def decode (n : Int) (c : Ct) : Ob := ⟨floorI n c.fl, two c.up c.dn, two c.opn c.cls⟩
def isObs (n : Int) (o : Ob) : Bool := okF n && decide (-1 ≤ o.f ∧ o.f < n ∧ 0 ≤ o.d ∧ o.d ≤ 3 ∧ 0 ≤ o.g ∧ o.g ≤ 3)
/-- The calls, up and down, that an observation shows. -/
def shows (n : Int) (o : Ob) : Nat × Nat :=
  if isObs n o = true ∧ o.g = 1 ∧ 0 ≤ o.f then
    (if o.d = 1 ∧ o.f < n - 1 then (2 ^ o.f.toNat, 0) else if o.d = 2 ∧ 0 < o.f then (0, 2 ^ o.f.toNat) else (0, 0))
  else (0, 0)

theorem one_pow {k : Nat} (h : k < 32) : one (2 ^ k) = some k := by
  have := (by decide +kernel : ∀ k : Fin 32, one (2 ^ k.val) = some k.val) ⟨k, h⟩
  exact this
theorem one_some {x k : Nat} (h : one x = some k) : x = 2 ^ k ∧ k < 32 :=
  ⟨of_decide_eq_true (List.find?_some (p := fun k => decide (x = 2 ^ k)) h), List.mem_range.1 (List.mem_of_find?_eq_some (p := fun k => decide (x = 2 ^ k)) h)⟩
theorem one_none {x : Nat} (h : one x = none) {k : Nat} (hk : k < 32) : x ≠ 2 ^ k := fun e => by
  rw [e, one_pow hk] at h; cases h
theorem bit_pow {k : Nat} (h : k < 32) : bit (2 ^ k) = (k : Int) := by unfold bit; rw [one_pow h]
theorem bit_cases (x : Nat) : (∃ k : Nat, k < 32 ∧ x = 2 ^ k ∧ bit x = (k : Int)) ∨ ((∀ k, k < 32 → x ≠ 2 ^ k) ∧ bit x = -1) := by
  cases h : one x with
  | some k =>
    obtain ⟨e, hk⟩ := one_some h
    exact .inl ⟨k, hk, e, by unfold bit; rw [h]⟩
  | none => exact .inr ⟨fun k hk => one_none h hk, by unfold bit; rw [h]⟩
theorem pow_lt {k : Nat} (h : k < 32) : 2 ^ k < 4294967296 := Ct.bit_lt h
theorem pow_inj {j k : Nat} (h : 2 ^ j = 2 ^ k) : j = k := (Nat.pow_right_inj (by decide)).1 h
theorem okF_iff {n : Int} : okF n = true ↔ 2 ≤ n ∧ n ≤ 32 := by unfold okF; exact decide_eq_true_iff
theorem floorI_cases (n : Int) (x : Nat) : (∃ k : Nat, k < 32 ∧ x = 2 ^ k ∧ okF n = true ∧ (k : Int) < n ∧ floorI n x = (k : Int)) ∨ ((okF n = true → ∀ k : Nat, (k : Int) < n → x ≠ 2 ^ k) ∧ floorI n x = -1) := by
  unfold floorI
  rcases bit_cases x with ⟨k, hk, rfl, e⟩ | ⟨h, e⟩
  · rw [e]
    by_cases ho : okF n = true ∧ (k : Int) < n
    · rw [if_pos ho]; exact .inl ⟨k, hk, rfl, ho.1, ho.2, rfl⟩
    · rw [if_neg ho]
      refine .inr ⟨fun hn j hj hx => ?_, rfl⟩
      obtain rfl := pow_inj hx
      exact ho ⟨hn, hj⟩
  · rw [e]
    refine .inr ⟨fun hn j hj => ?_, by split <;> rfl⟩
    have := okF_iff.1 hn
    exact h j (by omega)
theorem two_range (a b : Bool) : 0 ≤ two a b ∧ two a b ≤ 3 := by cases a <;> cases b <;> decide
theorem decode_obs {n : Int} (hn : okF n = true) (c : Ct) : isObs n (decode n c) = true := by
  have h1 := two_range c.up c.dn
  have h2 := two_range c.opn c.cls
  have h0 := okF_iff.1 hn
  unfold isObs decode
  rw [hn, Bool.true_and]
  refine decide_eq_true ⟨?_, ?_, h1.1, h1.2, h2.1, h2.2⟩
  · rcases floorI_cases n c.fl with ⟨k, _, _, _, _, e⟩ | ⟨_, e⟩ <;> simp only [e] <;> omega
  · rcases floorI_cases n c.fl with ⟨k, _, _, _, h, e⟩ | ⟨_, e⟩ <;> simp only [e] <;> omega

/-- The number of bits, byte by byte. -/
def pop (x : Nat) : Nat := Go.Lib.onesCount (x / 16777216) + Go.Lib.onesCount (x / 65536 % 256) + Go.Lib.onesCount (x / 256 % 256) + Go.Lib.onesCount (x % 256)
theorem ones_zero {b : Nat} (hb : b < 256) : Go.Lib.onesCount b = 0 → b = 0 := by
  have := (by decide +kernel : ∀ b : Fin 256, Go.Lib.onesCount b.val = 0 → b.val = 0) ⟨b, hb⟩
  exact this
theorem ones_one {b : Nat} (hb : b < 256) : Go.Lib.onesCount b = 1 → b = 1 ∨ b = 2 ∨ b = 4 ∨ b = 8 ∨ b = 16 ∨ b = 32 ∨ b = 64 ∨ b = 128 := by
  have := (by decide +kernel : ∀ b : Fin 256, Go.Lib.onesCount b.val = 1 → b.val = 1 ∨ b.val = 2 ∨ b.val = 4 ∨ b.val = 8 ∨ b.val = 16 ∨ b.val = 32 ∨ b.val = 64 ∨ b.val = 128) ⟨b, hb⟩
  exact this
theorem pop_pow {k : Nat} (h : k < 32) : pop (2 ^ k) = 1 := by
  have := (by decide +kernel : ∀ k : Fin 32, pop (2 ^ k.val) = 1) ⟨k, h⟩
  exact this
theorem pop_one {x : Nat} (hx : x < 4294967296) (h : pop x = 1) : ∃ k, k < 32 ∧ x = 2 ^ k := by
  unfold pop at h
  have a := ones_zero (b := x / 16777216) (by omega)
  have b := ones_zero (b := x / 65536 % 256) (by omega)
  have c := ones_zero (b := x / 256 % 256) (by omega)
  have d := ones_zero (b := x % 256) (by omega)
  have a1 := ones_one (b := x / 16777216) (by omega)
  have b1 := ones_one (b := x / 65536 % 256) (by omega)
  have c1 := ones_one (b := x / 256 % 256) (by omega)
  have d1 := ones_one (b := x % 256) (by omega)
  generalize Go.Lib.onesCount (x / 16777216) = p at *
  generalize Go.Lib.onesCount (x / 65536 % 256) = q at *
  generalize Go.Lib.onesCount (x / 256 % 256) = r at *
  generalize Go.Lib.onesCount (x % 256) = s at *
  have key : (∃ k, k < 8 ∧ x = 2 ^ k * 16777216) ∨ (∃ k, k < 8 ∧ x = 2 ^ k * 65536) ∨ (∃ k, k < 8 ∧ x = 2 ^ k * 256) ∨ (∃ k, k < 8 ∧ x = 2 ^ k) := by
    have hc : p = 1 ∧ q = 0 ∧ r = 0 ∧ s = 0 ∨ p = 0 ∧ q = 1 ∧ r = 0 ∧ s = 0 ∨ p = 0 ∧ q = 0 ∧ r = 1 ∧ s = 0 ∨ p = 0 ∧ q = 0 ∧ r = 0 ∧ s = 1 := by omega
    rcases hc with ⟨hp, hq, hr, hs⟩ | ⟨hp, hq, hr, hs⟩ | ⟨hp, hq, hr, hs⟩ | ⟨hp, hq, hr, hs⟩
    · have b0 := b hq; have c0 := c hr; have d0 := d hs
      refine .inl ?_
      rcases a1 hp with e | e | e | e | e | e | e | e
      · exact ⟨0, by omega, by omega⟩
      · exact ⟨1, by omega, by omega⟩
      · exact ⟨2, by omega, by omega⟩
      · exact ⟨3, by omega, by omega⟩
      · exact ⟨4, by omega, by omega⟩
      · exact ⟨5, by omega, by omega⟩
      · exact ⟨6, by omega, by omega⟩
      · exact ⟨7, by omega, by omega⟩
    · have a0 := a hp; have c0 := c hr; have d0 := d hs
      refine .inr (.inl ?_)
      rcases b1 hq with e | e | e | e | e | e | e | e
      · exact ⟨0, by omega, by omega⟩
      · exact ⟨1, by omega, by omega⟩
      · exact ⟨2, by omega, by omega⟩
      · exact ⟨3, by omega, by omega⟩
      · exact ⟨4, by omega, by omega⟩
      · exact ⟨5, by omega, by omega⟩
      · exact ⟨6, by omega, by omega⟩
      · exact ⟨7, by omega, by omega⟩
    · have a0 := a hp; have b0 := b hq; have d0 := d hs
      refine .inr (.inr (.inl ?_))
      rcases c1 hr with e | e | e | e | e | e | e | e
      · exact ⟨0, by omega, by omega⟩
      · exact ⟨1, by omega, by omega⟩
      · exact ⟨2, by omega, by omega⟩
      · exact ⟨3, by omega, by omega⟩
      · exact ⟨4, by omega, by omega⟩
      · exact ⟨5, by omega, by omega⟩
      · exact ⟨6, by omega, by omega⟩
      · exact ⟨7, by omega, by omega⟩
    · have a0 := a hp; have b0 := b hq; have c0 := c hr
      refine .inr (.inr (.inr ?_))
      rcases d1 hs with e | e | e | e | e | e | e | e
      · exact ⟨0, by omega, by omega⟩
      · exact ⟨1, by omega, by omega⟩
      · exact ⟨2, by omega, by omega⟩
      · exact ⟨3, by omega, by omega⟩
      · exact ⟨4, by omega, by omega⟩
      · exact ⟨5, by omega, by omega⟩
      · exact ⟨6, by omega, by omega⟩
      · exact ⟨7, by omega, by omega⟩
  rcases key with ⟨k, hk, e⟩ | ⟨k, hk, e⟩ | ⟨k, hk, e⟩ | ⟨k, hk, e⟩
  · exact ⟨k + 24, by omega, by rw [Nat.pow_add]; exact e⟩
  · exact ⟨k + 16, by omega, by rw [Nat.pow_add]; exact e⟩
  · exact ⟨k + 8, by omega, by rw [Nat.pow_add]; exact e⟩
  · exact ⟨k, by omega, e⟩
theorem pop_le {x : Nat} (hx : x < 4294967296) : Go.Lib.onesCount (x / 16777216) ≤ 8 ∧ Go.Lib.onesCount (x / 65536 % 256) ≤ 8 ∧ Go.Lib.onesCount (x / 256 % 256) ≤ 8 ∧ Go.Lib.onesCount (x % 256) ≤ 8 :=
  ⟨Go.Lib.onesCount_le8 ⟨_, by omega⟩, Go.Lib.onesCount_le8 ⟨_, by omega⟩, Go.Lib.onesCount_le8 ⟨_, by omega⟩, Go.Lib.onesCount_le8 ⟨_, by omega⟩⟩
end Ind

def Ob.agg (o : Ob) : Value := .agg #[.int .i64 o.f, .int .i64 o.d, .int .i64 o.g]
end Go.Proofs.YtimaidiabjkgkaaDoor
