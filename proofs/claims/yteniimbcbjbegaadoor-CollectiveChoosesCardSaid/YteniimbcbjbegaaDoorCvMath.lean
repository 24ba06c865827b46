/- Where a modernised car stops and turns: mathematics. No statement of the seat is proved here. -/
import Derived.Test.YteniimbcbjbegaaDoorCsMath
namespace Go.Proofs.YteniimbcbjbegaaDoor
open Go.RowKit

/-- Stops: the bits of the car calls, and hall calls. -/
structure Stp where
  car : Nat
  h : Cs
namespace Stp
def ok (s : Stp) : Prop := s.car < 4294967296 ∧ s.h.ok
def agg (s : Stp) : Value := .agg #[.int .u32 s.car, .int .u32 s.h.up, .int .u32 s.h.dn]
def eqB (a b : Stp) : Bool := a.car == b.car && (a.h.up == b.h.up && a.h.dn == b.h.dn)
def zero : Stp := ⟨0, Cs.empty⟩
theorem eqB_iff {a b : Stp} : eqB a b = true ↔ a = b := by
  obtain ⟨a1, a2, a3⟩ := a
  obtain ⟨b1, b2, b3⟩ := b
  simp [eqB]
theorem ext {a b : Stp} (ha : a.ok) (hb : b.ok) (h : ∀ k, k < 32 → a.car.testBit k = b.car.testBit k ∧ a.h.up.testBit k = b.h.up.testBit k ∧ a.h.dn.testBit k = b.h.dn.testBit k) : a = b := by
  obtain ⟨a1, a2⟩ := a
  obtain ⟨b1, b2⟩ := b
  have e1 : a1 = b1 := Cs.nat_ext ha.1 hb.1 fun k hk => (h k hk).1
  have e2 : a2 = b2 := Cs.ext32 ha.2 hb.2 fun k hk => (h k hk).2
  rw [e1, e2]
/-- All floors with a stop. -/
def bits (s : Stp) : Nat := s.car ||| s.h.up ||| s.h.dn
end Stp

namespace Cv
def all (F : Nat) : Nat := 2 ^ F - 1
/-- The stops that count in a building of F floors. -/
def cnt (F : Nat) (s : Stp) : Stp := ⟨s.car &&& all F, Cs.both s.h ⟨all F >>> 1, all F &&& 4294967294⟩⟩
/-- The stops at floor f that are marked, with the openings o. -/
def mk (o f : Nat) (s : Stp) : Stp := ⟨if o = 0 then 0 else s.car &&& 2 ^ f, ⟨if o.testBit 1 then s.h.up &&& 2 ^ f else 0, if o.testBit 2 then s.h.dn &&& 2 ^ f else 0⟩⟩
/-- What the openings count as. -/
def cd (o f : Nat) (t : Stp) : Nat := if Stp.eqB (mk o f t) t then 0 else o
def spent (F o f : Nat) (s : Stp) : Stp := mk (cd o f (cnt F s)) f (cnt F s)
def minus (s x : Stp) : Stp := ⟨s.car &&& (4294967295 - x.car), Cs.minus s.h x.h⟩
def live (F o f : Nat) (s : Stp) : Stp := minus (cnt F s) (spent F o f s)
/-- How many floors lie between f and the nearest stop above, and below. -/
def upF (a f : Nat) : Option Nat := (List.range (31 - f)).find? fun i => a.testBit (f + 1 + i)
def dnF (a f : Nat) : Option Nat := (List.range f).find? fun i => a.testBit (f - 1 - i)
def near (a f : Nat) : Nat :=
  match upF a f, dnF a f with
  | some i, some j => if i ≤ j then 1 else 2
  | some _, none => 1
  | none, some _ => 2
  | none, none => 0
/-- What a choice hangs on. -/
structure Sc where
  up : Bool
  dn : Bool
  car : Bool
  ab : Bool
  be : Bool
  nr : Nat
def look (F o f : Nat) (s : Stp) : Sc := let x := live F o f s; ⟨x.h.up.testBit f, x.h.dn.testBit f, x.car.testBit f, (upF x.bits f).isSome, (dnF x.bits f).isSome, near x.bits f⟩
/-- A choice. -/
structure Ch where
  d_ : Nat
  dir : Nat
  sh : Nat
deriving DecidableEq
def Ch.agg (c : Ch) : Value := .agg #[.int .i64 (c.d_ : Int), .int .i64 (c.dir : Int), .int .i64 (c.sh : Int)]
def openC (s : Nat) : Ch := ⟨3, s, s⟩
def moveC (d : Nat) : Ch := ⟨d, d, 0⟩
def asks (x : Sc) (d : Nat) : Bool := if d = 1 then x.up || x.ab else x.dn || x.be
def first (x : Sc) (a b : Nat) : Nat := if asks x a then a else if asks x b then b else 0
def rest (x : Sc) : Ch := if x.up then openC 1 else if x.dn then openC 2 else if x.car then openC x.nr else moveC x.nr
def swDn (x : Sc) : Ch := if x.car || x.dn then openC (first x 2 1) else if x.be then moveC 2 else if x.up then openC 1 else if x.ab then moveC 1 else moveC 0
def swUp (x : Sc) : Ch := if x.car || x.up then openC (first x 1 2) else if x.ab then moveC 1 else swDn x
def choose (x : Sc) (d : Nat) : Ch := if d = 0 then rest x else if d = 1 then swUp x else swDn x
/-- The openings behind a choice. -/
def opened (o : Nat) (c : Ch) : Nat := if c.d_ = 3 then o ||| 2 ^ c.sh else 0

theorem all_lt {F : Nat} (h : F ≤ 32) : all F < 4294967296 := by
  have := Nat.pow_le_pow_right (n := 2) (by decide) h
  have e : (2 : Nat) ^ 32 = 4294967296 := rfl
  unfold all
  have := Nat.two_pow_pos F
  omega
theorem all_bit (F k : Nat) : (all F).testBit k = decide (k < F) := Nat.testBit_two_pow_sub_one F k
theorem cnt_ok {F : Nat} {s : Stp} (h : s.ok) : (cnt F s).ok := ⟨Cs.and_lt h.1, Cs.both_ok h.2⟩
theorem m1_bit {k : Nat} (hk : k < 32) : Nat.testBit 4294967294 k = decide (0 < k) := by
  have := (by decide : ∀ k : Fin 32, Nat.testBit 4294967294 k.val = decide (0 < k.val)) ⟨k, hk⟩
  exact this
theorem cnt_bit (F : Nat) (s : Stp) {k : Nat} (hk : k < 32) : (cnt F s).car.testBit k = (s.car.testBit k && decide (k < F)) ∧ (cnt F s).h.up.testBit k = (s.h.up.testBit k && decide (k + 1 < F)) ∧ (cnt F s).h.dn.testBit k = (s.h.dn.testBit k && (decide (k < F) && decide (0 < k))) := by
  unfold cnt Cs.both
  simp only [Cs.bit_and, Nat.testBit_shiftRight, all_bit, m1_bit hk]
  refine ⟨trivial, ?_, trivial⟩
  rw [Nat.add_comm]
theorem mk_bit (o f : Nat) (s : Stp) (k : Nat) : (mk o f s).car.testBit k = (!decide (o = 0) && (s.car.testBit k && decide (f = k))) ∧ (mk o f s).h.up.testBit k = (o.testBit 1 && (s.h.up.testBit k && decide (f = k))) ∧ (mk o f s).h.dn.testBit k = (o.testBit 2 && (s.h.dn.testBit k && decide (f = k))) := by
  unfold mk
  refine ⟨?_, ?_, ?_⟩ <;> simp only
  · by_cases h : o = 0
    · simp [h]
    · simp [h, Cs.bit_pow]
  · by_cases h : o.testBit 1 = true
    · simp [h, Cs.bit_pow]
    · simp [h]
  · by_cases h : o.testBit 2 = true
    · simp [h, Cs.bit_pow]
    · simp [h]
theorem mk_ok {o f : Nat} {s : Stp} (h : s.ok) : (mk o f s).ok := by
  unfold mk
  refine ⟨?_, ?_, ?_⟩ <;> simp only
  · split
    · decide
    · exact Cs.and_lt h.1
  · split
    · exact Cs.and_lt h.2.1
    · decide
  · split
    · exact Cs.and_lt h.2.2
    · decide
theorem minus_bit {s x : Stp} (hx : x.ok) {k : Nat} (hk : k < 32) : (minus s x).car.testBit k = (s.car.testBit k && !x.car.testBit k) ∧ (minus s x).h.up.testBit k = (s.h.up.testBit k && !x.h.up.testBit k) ∧ (minus s x).h.dn.testBit k = (s.h.dn.testBit k && !x.h.dn.testBit k) :=
  ⟨Cs.bit_minus hx.1 hk, Cs.bit_minus hx.2.1 hk, Cs.bit_minus hx.2.2 hk⟩
theorem minus_ok {s x : Stp} (h : s.ok) : (minus s x).ok := ⟨Cs.and_lt h.1, Cs.minus_ok h.2⟩
/-- Is there a stop at floor k? -/
def atB (F : Nat) (s : Stp) (k : Nat) : Bool := decide (k < F) && (s.car.testBit k || (s.h.up.testBit k && decide (k + 1 < F)) || (s.h.dn.testBit k && decide (0 < k)))
theorem bits_bit (s : Stp) (k : Nat) : s.bits.testBit k = (s.car.testBit k || s.h.up.testBit k || s.h.dn.testBit k) := by
  unfold Stp.bits
  simp only [Cs.bit_or]
theorem atB_cnt (F : Nat) (s : Stp) {k : Nat} (hk : k < 32) : (cnt F s).bits.testBit k = atB F s k := by
  obtain ⟨h1, h2, h3⟩ := cnt_bit F s hk
  rw [bits_bit, h1, h2, h3]
  unfold atB
  by_cases hF : k < F
  · simp [hF]
  · have : ¬ k + 1 < F := by omega
    simp [hF, this]
theorem live_bit {F o f : Nat} {s : Stp} (hs : s.ok) {k : Nat} (hk : k < 32) :
    (live F o f s).car.testBit k = ((s.car.testBit k && decide (k < F)) && !(decide (f = k) && !decide (cd o f (cnt F s) = 0))) ∧
    (live F o f s).h.up.testBit k = ((s.h.up.testBit k && decide (k + 1 < F)) && !(decide (f = k) && (cd o f (cnt F s)).testBit 1)) ∧
    (live F o f s).h.dn.testBit k = ((s.h.dn.testBit k && (decide (k < F) && decide (0 < k))) && !(decide (f = k) && (cd o f (cnt F s)).testBit 2)) := by
  obtain ⟨h1, h2, h3⟩ := cnt_bit F s hk
  obtain ⟨m1, m2, m3⟩ := minus_bit (s := cnt F s) (x := spent F o f s) (mk_ok (cnt_ok hs)) hk
  obtain ⟨k1, k2, k3⟩ := mk_bit (cd o f (cnt F s)) f (cnt F s) k
  unfold live
  rw [m1, m2, m3]
  unfold spent
  rw [k1, k2, k3, h1, h2, h3]
  generalize s.car.testBit k = a
  generalize s.h.up.testBit k = b
  generalize s.h.dn.testBit k = c
  generalize decide (k < F) = d
  generalize decide (k + 1 < F) = e
  generalize decide (f = k) = g
  generalize decide (cd o f (cnt F s) = 0) = h
  generalize (cd o f (cnt F s)).testBit 1 = i
  generalize (cd o f (cnt F s)).testBit 2 = j
  generalize decide (0 < k) = l
  refine ⟨?_, ?_, ?_⟩
  · cases a <;> cases d <;> cases g <;> cases h <;> rfl
  · cases b <;> cases e <;> cases g <;> cases i <;> rfl
  · cases c <;> cases d <;> cases l <;> cases g <;> cases j <;> rfl
theorem live_other {F o f : Nat} {s : Stp} (hs : s.ok) {k : Nat} (hk : k < 32) (hf : f ≠ k) : (live F o f s).bits.testBit k = atB F s k := by
  obtain ⟨h1, h2, h3⟩ := live_bit (F := F) (o := o) (f := f) hs hk
  obtain ⟨c1, c2, c3⟩ := cnt_bit F s hk
  rw [← atB_cnt F s hk, bits_bit, bits_bit, h1, h2, h3, c1, c2, c3]
  simp [hf]
theorem upF_some {a f : Nat} : (upF a f).isSome = true ↔ ∃ k, f < k ∧ k < 32 ∧ a.testBit k = true := by
  unfold upF
  rw [List.find?_isSome]
  constructor
  · rintro ⟨i, hi, h⟩
    have := List.mem_range.1 hi
    exact ⟨f + 1 + i, by omega, by omega, h⟩
  · rintro ⟨k, h1, h2, h⟩
    exact ⟨k - f - 1, List.mem_range.2 (by omega), by rw [show f + 1 + (k - f - 1) = k by omega]; exact h⟩
theorem dnF_some {a f : Nat} : (dnF a f).isSome = true ↔ ∃ k, k < f ∧ a.testBit k = true := by
  unfold dnF
  rw [List.find?_isSome]
  constructor
  · rintro ⟨i, hi, h⟩
    have := List.mem_range.1 hi
    exact ⟨f - 1 - i, by omega, h⟩
  · rintro ⟨k, h1, h⟩
    exact ⟨f - 1 - k, List.mem_range.2 (by omega), by rw [show f - 1 - (f - 1 - k) = k by omega]; exact h⟩
theorem atB_lt {F k : Nat} {s : Stp} (h : atB F s k = true) : k < F := by
  unfold atB at h
  by_cases hk : k < F
  · exact hk
  · simp [hk] at h
section
variable {F o f : Nat} {s : Stp} (hs : s.ok) (hF : F ≤ 32) (hf : f < F)
include hs hF hf
theorem look_ab : (look F o f s).ab = true ↔ ∃ k, f < k ∧ atB F s k = true := by
  have _ := hf
  show (upF (live F o f s).bits f).isSome = true ↔ _
  rw [upF_some]
  constructor
  · rintro ⟨k, h1, h2, h⟩
    exact ⟨k, h1, (live_other hs h2 (by omega)).symm.trans h⟩
  · rintro ⟨k, h1, h⟩
    have := atB_lt h
    exact ⟨k, h1, by omega, (live_other hs (by omega) (by omega)).trans h⟩
theorem look_be : (look F o f s).be = true ↔ ∃ k, k < f ∧ atB F s k = true := by
  show (dnF (live F o f s).bits f).isSome = true ↔ _
  rw [dnF_some]
  constructor
  · rintro ⟨k, h1, h⟩
    exact ⟨k, h1, (live_other hs (by omega) (by omega)).symm.trans h⟩
  · rintro ⟨k, h1, h⟩
    have := atB_lt h
    exact ⟨k, h1, (live_other hs (by omega) (by omega)).trans h⟩
theorem look_car : (look F o f s).car = (s.car.testBit f && decide (cd o f (cnt F s) = 0)) := by
  show (live F o f s).car.testBit f = _
  rw [(live_bit hs (by omega)).1]
  simp [hf]
theorem look_up : (look F o f s).up = ((s.h.up.testBit f && decide (f + 1 < F)) && !(cd o f (cnt F s)).testBit 1) := by
  show (live F o f s).h.up.testBit f = _
  rw [(live_bit hs (by omega)).2.1]
  simp
theorem look_dn : (look F o f s).dn = ((s.h.dn.testBit f && decide (0 < f)) && !(cd o f (cnt F s)).testBit 2) := by
  show (live F o f s).h.dn.testBit f = _
  rw [(live_bit hs (by omega)).2.2]
  simp [hf]
/-- Where the openings count, there is a stop that is not marked. -/
theorem cd_cases : cd o f (cnt F s) = 0 ∧ (o = 0 ∨ (∀ k, k ≠ f → atB F s k = false) ∧ ((s.h.up.testBit f && decide (f + 1 < F)) = true → o.testBit 1 = true) ∧ ((s.h.dn.testBit f && decide (0 < f)) = true → o.testBit 2 = true)) ∨ cd o f (cnt F s) = o ∧ o ≠ 0 ∧ ((look F o f s).up = true ∨ (look F o f s).dn = true ∨ (look F o f s).ab = true ∨ (look F o f s).be = true) := by
  by_cases h0 : o = 0
  · left
    refine ⟨?_, .inl h0⟩
    unfold cd
    rw [h0]
    split <;> rfl
  by_cases h : Stp.eqB (mk o f (cnt F s)) (cnt F s) = true
  · left
    have hc : cd o f (cnt F s) = 0 := by unfold cd; rw [if_pos h]
    have e := Stp.eqB_iff.1 h
    refine ⟨hc, .inr ⟨fun k hk => ?_, fun hu => ?_, fun hd => ?_⟩⟩
    · by_cases hk2 : k < 32
      · rw [← atB_cnt F s hk2, ← e, bits_bit]
        obtain ⟨k1, k2, k3⟩ := mk_bit o f (cnt F s) k
        rw [k1, k2, k3]
        simp [Ne.symm hk]
      · cases hb : atB F s k
        · rfl
        · exact absurd (atB_lt hb) (by omega)
    · have h2 := (mk_bit o f (cnt F s) f).2.1
      rw [e, (cnt_bit F s (by omega)).2.1, hu] at h2
      simp at h2
      exact h2
    · have h2 := (mk_bit o f (cnt F s) f).2.2
      rw [e, (cnt_bit F s (by omega)).2.2] at h2
      simp only [hf, decide_true, Bool.true_and] at h2
      rw [hd] at h2
      simp at h2
      exact h2
  · right
    have hc : cd o f (cnt F s) = o := by unfold cd; rw [if_neg h]
    refine ⟨hc, h0, ?_⟩
    by_cases hu : (look F o f s).up = true
    · exact .inl hu
    by_cases hd : (look F o f s).dn = true
    · exact .inr (.inl hd)
    by_cases ha : (look F o f s).ab = true
    · exact .inr (.inr (.inl ha))
    by_cases hb : (look F o f s).be = true
    · exact .inr (.inr (.inr hb))
    exfalso
    apply h
    rw [Stp.eqB_iff]
    rw [look_ab hs hF hf] at ha
    rw [look_be hs hF hf] at hb
    rw [look_up hs hF hf, hc] at hu
    rw [look_dn hs hF hf, hc] at hd
    refine Stp.ext (mk_ok (cnt_ok hs)) (cnt_ok hs) fun k hk => ?_
    obtain ⟨k1, k2, k3⟩ := mk_bit o f (cnt F s) k
    rw [k1, k2, k3]
    by_cases hfk : f = k
    · subst hfk
      obtain ⟨c1, c2, c3⟩ := cnt_bit F s hk
      rw [c1, c2, c3]
      simp only [h0, hf, decide_false, Bool.not_false, Bool.true_and, decide_true, Bool.and_true] at hu hd ⊢
      refine ⟨trivial, ?_, ?_⟩
      · cases h1 : (s.h.up.testBit f && decide (f + 1 < F))
        · simp
        · rw [h1] at hu; simp at hu; simp [hu]
      · cases h1 : (s.h.dn.testBit f && decide (0 < f))
        · simp
        · rw [h1] at hd; simp at hd; simp [hd]
    · have hz : atB F s k = false := by
        cases hz : atB F s k
        · rfl
        · exfalso
          rcases Nat.lt_or_ge f k with h1 | h1
          · exact ha ⟨k, h1, hz⟩
          · exact hb ⟨k, by omega, hz⟩
      rw [← atB_cnt F s hk, bits_bit] at hz
      simp only [Bool.or_eq_false_iff] at hz
      rw [hz.1.1, hz.1.2, hz.2]
      simp
/-- Nothing is left to do only where there are no stops. -/
theorem look_none (hu : (look F o f s).up = false) (hd : (look F o f s).dn = false) (hc : (look F o f s).car = false) (ha : (look F o f s).ab = false) (hb : (look F o f s).be = false) : ∀ k, atB F s k = false := by
  intro k
  have h0 : cd o f (cnt F s) = 0 := by
    rcases cd_cases (o := o) hs hF hf with ⟨h, -⟩ | ⟨-, -, h⟩
    · exact h
    · rw [hu, hd, ha, hb] at h; simp at h
  cases hz : atB F s k
  · rfl
  exfalso
  rcases Nat.lt_trichotomy k f with h1 | h1 | h1
  · rw [(look_be hs hF hf).2 ⟨k, h1, hz⟩] at hb; cases hb
  · subst h1
    rw [look_up hs hF hf, h0] at hu
    rw [look_dn hs hF hf, h0] at hd
    rw [look_car hs hF hf, h0] at hc
    unfold atB at hz
    simp only [Nat.zero_testBit, Bool.not_false, Bool.and_true, decide_true] at hu hd hc
    rw [hu, hd, hc] at hz
    simp at hz
  · rw [(look_ab hs hF hf).2 ⟨k, h1, hz⟩] at ha; cases ha
end
end Cv
end Go.Proofs.YteniimbcbjbegaaDoor
