/- Sets of hall calls: mathematics. No statement of the seat is proved here. -/
import Derived.Test.YteniimbcbjbegaaDoorMem
import Derived.Lib.BitFns
namespace Go.Proofs.YteniimbcbjbegaaDoor
open Go.RowKit

/-- A set of calls: the bits of its calls up and down. -/
structure Cs where
  up : Nat
  dn : Nat
/-- An entry. -/
structure En where
  f : Int
  d : Int
  car : Int
  mv : Int
  md : Bool
def En.cells (e : En) : List Value := [.int .i64 e.f, .int .i64 e.d, .int .i64 e.car, .int .i64 e.mv, .bool e.md]
namespace Cs
def empty : Cs := ⟨0, 0⟩
def ok (c : Cs) : Prop := c.up < 4294967296 ∧ c.dn < 4294967296
def agg (c : Cs) : Value := .agg #[.int .u32 c.up, .int .u32 c.dn]
def union (a b : Cs) : Cs := ⟨a.up ||| b.up, a.dn ||| b.dn⟩
def both (a b : Cs) : Cs := ⟨a.up &&& b.up, a.dn &&& b.dn⟩
def minus (a b : Cs) : Cs := ⟨a.up &&& (4294967295 - b.up), a.dn &&& (4294967295 - b.dn)⟩
def bitAt (f : Int) : Nat := if 0 ≤ f ∧ f < 32 then 2 ^ f.toNat else 0
def low (f : Int) : Nat := 2 ^ (min (max f 0) 32).toNat - 1
def one (f d : Int) : Cs := if d = 1 then ⟨bitAt f, 0⟩ else if d = 2 then ⟨0, bitAt f⟩ else empty
def eqB (a b : Cs) : Bool := a.up == b.up && a.dn == b.dn
def has (c : Cs) (f d : Int) : Bool := !(eqB (both c (one f d)) empty)
def above (c : Cs) (f : Int) : Cs := minus c ⟨bitAt f ||| low f, bitAt f ||| low f⟩
def below (c : Cs) (f : Int) : Cs := both c ⟨low f, low f⟩

theorem eqB_iff {a b : Cs} : eqB a b = true ↔ a = b := by
  obtain ⟨a1, a2⟩ := a
  obtain ⟨b1, b2⟩ := b
  simp [eqB]
theorem eqB_self (a : Cs) : eqB a a = true := eqB_iff.2 rfl
theorem nat_ext {x y : Nat} (hx : x < 4294967296) (hy : y < 4294967296) (h : ∀ k, k < 32 → x.testBit k = y.testBit k) : x = y := by
  apply Nat.eq_of_testBit_eq
  intro k
  by_cases hk : k < 32
  · exact h k hk
  · have hp : 4294967296 ≤ 2 ^ k := by
      have := Nat.pow_le_pow_right (n := 2) (by decide) (show 32 ≤ k by omega)
      exact this
    rw [Nat.testBit_lt_two_pow (by omega), Nat.testBit_lt_two_pow (by omega)]
theorem ext32 {a b : Cs} (ha : a.ok) (hb : b.ok) (h : ∀ k, k < 32 → a.up.testBit k = b.up.testBit k ∧ a.dn.testBit k = b.dn.testBit k) : a = b := by
  obtain ⟨a1, a2⟩ := a
  obtain ⟨b1, b2⟩ := b
  have e1 : a1 = b1 := nat_ext ha.1 hb.1 fun k hk => (h k hk).1
  have e2 : a2 = b2 := nat_ext ha.2 hb.2 fun k hk => (h k hk).2
  rw [e1, e2]
theorem pow_lt {k : Nat} (h : k < 32) : 2 ^ k < 4294967296 := Nat.pow_lt_pow_right (by decide) (show k < 32 from h)
theorem or_lt {x y : Nat} (hx : x < 4294967296) (hy : y < 4294967296) : x ||| y < 4294967296 := Nat.or_lt_two_pow (n := 32) hx hy
theorem and_lt {x y : Nat} (hx : x < 4294967296) : x &&& y < 4294967296 := Nat.lt_of_le_of_lt Nat.and_le_left hx
theorem empty_ok : empty.ok := by constructor <;> show (0 : Nat) < 4294967296 <;> decide
theorem union_ok {a b : Cs} (ha : a.ok) (hb : b.ok) : (union a b).ok := ⟨or_lt ha.1 hb.1, or_lt ha.2 hb.2⟩
theorem both_ok {a b : Cs} (ha : a.ok) : (both a b).ok := ⟨and_lt ha.1, and_lt ha.2⟩
theorem minus_ok {a b : Cs} (ha : a.ok) : (minus a b).ok := ⟨and_lt ha.1, and_lt ha.2⟩
theorem bitAt_lt (f : Int) : bitAt f < 4294967296 := by
  unfold bitAt
  split
  · exact pow_lt (by omega)
  · decide
theorem low_lt (f : Int) : low f < 4294967296 := by
  unfold low
  have h : (min (max f 0) 32).toNat ≤ 32 := by omega
  have := Nat.pow_le_pow_right (n := 2) (by decide) h
  have e : (2 : Nat) ^ 32 = 4294967296 := rfl
  rw [e] at this
  omega
theorem one_ok (f d : Int) : (one f d).ok := by
  unfold one
  split
  · exact ⟨bitAt_lt f, by show (0 : Nat) < 4294967296; decide⟩
  · split
    · exact ⟨by show (0 : Nat) < 4294967296; decide, bitAt_lt f⟩
    · exact empty_ok
theorem above_ok {c : Cs} (h : c.ok) (f : Int) : (above c f).ok := minus_ok h
theorem below_ok {c : Cs} (h : c.ok) (f : Int) : (below c f).ok := both_ok h

theorem bit_or (x y k : Nat) : (x ||| y).testBit k = (x.testBit k || y.testBit k) := Nat.testBit_or x y k
theorem bit_and (x y k : Nat) : (x &&& y).testBit k = (x.testBit k && y.testBit k) := Nat.testBit_and x y k
theorem bit_not {y k : Nat} (hy : y < 4294967296) (hk : k < 32) : (4294967295 - y).testBit k = !y.testBit k := by
  have h := Nat.testBit_two_pow_sub_succ (n := 32) (x := y) hy k
  rw [show 2 ^ 32 - (y + 1) = 4294967295 - y from by omega] at h
  rw [h, decide_eq_true hk, Bool.true_and]
theorem bit_pow (j k : Nat) : (2 ^ j).testBit k = decide (j = k) := Nat.testBit_two_pow
theorem bit_bitAt (f : Int) {k : Nat} (hk : k < 32) : (bitAt f).testBit k = decide (f = (k : Int)) := by
  unfold bitAt
  split
  · rw [bit_pow]; exact decide_eq_decide.2 (by omega)
  · rw [Nat.zero_testBit]; symm; exact decide_eq_false (by omega)
theorem bit_low (f : Int) {k : Nat} (hk : k < 32) : (low f).testBit k = decide ((k : Int) < f) := by
  unfold low
  rw [Nat.testBit_two_pow_sub_one]
  exact decide_eq_decide.2 (by omega)
theorem bit_minus {x y k : Nat} (hy : y < 4294967296) (hk : k < 32) : (x &&& (4294967295 - y)).testBit k = (x.testBit k && !y.testBit k) := by rw [bit_and, bit_not hy hk]
theorem mask_lt (f : Int) : bitAt f ||| low f < 4294967296 := or_lt (bitAt_lt f) (low_lt f)
theorem bit_mask (f : Int) {k : Nat} (hk : k < 32) : (bitAt f ||| low f).testBit k = decide ((k : Int) ≤ f) := by
  rw [bit_or, bit_bitAt f hk, bit_low f hk, ← Bool.decide_or]
  exact decide_eq_decide.2 (by omega)

/-- The calls at the floors below n that p picks. -/
def sel (c : Cs) (p : Nat → Bool) : Nat → Cs
  | 0 => empty
  | k + 1 => if p k then union (sel c p k) (both c ⟨2 ^ k, 2 ^ k⟩) else sel c p k
theorem sel_ok {c : Cs} (h : c.ok) (p : Nat → Bool) : ∀ n, (sel c p n).ok
  | 0 => empty_ok
  | n + 1 => by
    unfold sel
    split
    · exact union_ok (sel_ok h p n) (both_ok h)
    · exact sel_ok h p n
theorem sel_bit (c : Cs) (p : Nat → Bool) (j : Nat) : ∀ n, (sel c p n).up.testBit j = (decide (j < n) && p j && c.up.testBit j) ∧ (sel c p n).dn.testBit j = (decide (j < n) && p j && c.dn.testBit j)
  | 0 => by constructor <;> (show (0 : Nat).testBit j = _; simp)
  | n + 1 => by
    have ih := sel_bit c p j n
    unfold sel
    by_cases hp : p n = true
    · rw [if_pos hp]
      unfold union both
      simp only [bit_or, bit_and, bit_pow]
      rw [ih.1, ih.2]
      by_cases hj : n = j
      · subst hj; simp [hp]
      · have : decide (j < n + 1) = decide (j < n) := decide_eq_decide.2 (by omega)
        simp [hj, this]
    · rw [if_neg hp, ih.1, ih.2]
      by_cases hj : n = j
      · subst hj; simp [hp]
      · have : decide (j < n + 1) = decide (j < n) := decide_eq_decide.2 (by omega)
        rw [this]; exact ⟨rfl, rfl⟩
theorem above_sel {c : Cs} (h : c.ok) (f : Int) : sel c (fun k => decide (f < (k : Int))) 32 = above c f := by
  refine ext32 (sel_ok h _ _) (above_ok h f) fun k hk => ?_
  have hs := sel_bit c (fun k => decide (f < (k : Int))) k 32
  rw [hs.1, hs.2]
  unfold above minus
  simp only [bit_minus (mask_lt f) hk, bit_mask f hk, decide_eq_true hk, Bool.true_and]
  have : decide (f < (k : Int)) = !decide ((k : Int) ≤ f) := by rw [← decide_not]; exact decide_eq_decide.2 (by omega)
  rw [this, Bool.and_comm, Bool.and_comm (!_) (c.dn.testBit k)]
  exact ⟨rfl, rfl⟩
theorem below_sel {c : Cs} (h : c.ok) (f : Int) : sel c (fun k => decide ((k : Int) < f)) 32 = below c f := by
  refine ext32 (sel_ok h _ _) (below_ok h f) fun k hk => ?_
  have hs := sel_bit c (fun k => decide ((k : Int) < f)) k 32
  rw [hs.1, hs.2]
  unfold below both
  simp only [bit_and, bit_low f hk, decide_eq_true hk, Bool.true_and]
  rw [Bool.and_comm, Bool.and_comm _ (c.dn.testBit k)]
  exact ⟨rfl, rfl⟩

theorem has_one {x k : Nat} (hx : x < 4294967296) : (x &&& 2 ^ k == 0) = !x.testBit k := by
  rw [Bool.eq_iff_iff, beq_iff_eq, Bool.not_eq_true']
  constructor
  · intro h
    have := congrArg (fun z => Nat.testBit z k) h
    simpa [bit_and, bit_pow] using this
  · intro h
    refine nat_ext (and_lt hx) (by decide) fun j _ => ?_
    rw [bit_and, bit_pow, Nat.zero_testBit]
    by_cases hj : k = j
    · subst hj; rw [h]; rfl
    · rw [decide_eq_false hj, Bool.and_false]
theorem bitAt_nat {k : Nat} (hk : k < 32) : bitAt (k : Int) = 2 ^ k := by unfold bitAt; rw [if_pos (by omega), Int.toNat_natCast]
theorem has_up {c : Cs} (h : c.ok) {k : Nat} (hk : k < 32) : has c k 1 = c.up.testBit k := by
  unfold has one both eqB empty
  rw [if_pos rfl, bitAt_nat hk]
  show (!((c.up &&& 2 ^ k == 0) && (c.dn &&& 0 == 0))) = _
  rw [has_one h.1, Nat.and_zero]
  simp
theorem has_dn {c : Cs} (h : c.ok) {k : Nat} (hk : k < 32) : has c k 2 = c.dn.testBit k := by
  unfold has one both eqB empty
  rw [if_neg (by decide), if_pos rfl, bitAt_nat hk]
  show (!((c.up &&& 0 == 0) && (c.dn &&& 2 ^ k == 0))) = _
  rw [has_one h.2, Nat.and_zero]
  simp
theorem has_floor (c : Cs) {f : Int} (hf : ¬ (0 ≤ f ∧ f < 32)) (d : Int) : has c f d = false := by
  have : one f d = empty := by
    unfold one bitAt
    rw [if_neg hf]
    split
    · rfl
    · split <;> rfl
  unfold has
  rw [this]
  unfold both eqB empty
  simp
theorem has_dir (c : Cs) (f : Int) {d : Int} (h1 : d ≠ 1) (h2 : d ≠ 2) : has c f d = false := by
  unfold has one
  rw [if_neg h1, if_neg h2]
  unfold both eqB empty
  simp

/-- How many of the first n are true. -/
def cnt (p : Nat → Bool) : Nat → Nat
  | 0 => 0
  | n + 1 => cnt p n + (p n).toNat
theorem cnt_le (p : Nat → Bool) : ∀ n, cnt p n ≤ n
  | 0 => Nat.le_refl _
  | n + 1 => by
    have := cnt_le p n
    have h2 : (p n).toNat ≤ 1 := Bool.toNat_le _
    show cnt p n + _ ≤ _
    omega
theorem cnt3 {p q r s : Nat → Bool} : ∀ n, (∀ k, k < n → (p k).toNat + (q k).toNat + (r k).toNat = (s k).toNat) → cnt p n + cnt q n + cnt r n = cnt s n
  | 0, _ => rfl
  | n + 1, h => by
    have ih := cnt3 n (fun k hk => h k (by omega))
    have hn := h n (by omega)
    show cnt p n + _ + (cnt q n + _) + (cnt r n + _) = cnt s n + _
    omega
theorem cnt4 {p q r s : Nat → Bool} : ∀ n, (∀ k, k < n → (p k).toNat + (q k).toNat = (r k).toNat + (s k).toNat) → cnt p n + cnt q n = cnt r n + cnt s n
  | 0, _ => rfl
  | n + 1, h => by
    have ih := cnt4 n (fun k hk => h k (by omega))
    have hn := h n (by omega)
    show cnt p n + _ + (cnt q n + _) = cnt r n + _ + (cnt s n + _)
    omega
theorem ones_cnt : ∀ b : Fin 256, Go.Lib.onesCount b.val = cnt b.val.testBit 8 := by decide +kernel
def pop (x : Nat) : Nat := Go.Lib.onesCount (x / 16777216) + Go.Lib.onesCount (x / 65536 % 256) + Go.Lib.onesCount (x / 256 % 256) + Go.Lib.onesCount (x % 256)
theorem pop_le {x : Nat} (hx : x < 4294967296) : Go.Lib.onesCount (x / 16777216) ≤ 8 ∧ Go.Lib.onesCount (x / 65536 % 256) ≤ 8 ∧ Go.Lib.onesCount (x / 256 % 256) ≤ 8 ∧ Go.Lib.onesCount (x % 256) ≤ 8 := by
  have h := fun b hb => (ones_cnt ⟨b, hb⟩).symm ▸ cnt_le (Nat.testBit b) 8
  exact ⟨h _ (by omega), h _ (by omega), h _ (by omega), h _ (by omega)⟩
theorem pop_cnt {x : Nat} (hx : x < 4294967296) : pop x = cnt x.testBit 32 := by
  have e1 : ∀ j, (x / 16777216).testBit j = x.testBit (24 + j) := fun j => by
    have h : (x / 2 ^ 24).testBit j = x.testBit (j + 24) := Nat.testBit_div_two_pow x j
    rw [Nat.add_comm]; exact h
  have e2 : ∀ j, j < 8 → (x / 65536 % 256).testBit j = x.testBit (16 + j) := fun j hj => by
    have := Nat.testBit_mod_two_pow (x / 65536) 8 j
    rw [show (2 : Nat) ^ 8 = 256 from rfl] at this
    rw [this, decide_eq_true hj, Bool.true_and]
    have h : (x / 2 ^ 16).testBit j = x.testBit (j + 16) := Nat.testBit_div_two_pow x j
    rw [Nat.add_comm]; exact h
  have e3 : ∀ j, j < 8 → (x / 256 % 256).testBit j = x.testBit (8 + j) := fun j hj => by
    have := Nat.testBit_mod_two_pow (x / 256) 8 j
    rw [show (2 : Nat) ^ 8 = 256 from rfl] at this
    rw [this, decide_eq_true hj, Bool.true_and]
    have h : (x / 2 ^ 8).testBit j = x.testBit (j + 8) := Nat.testBit_div_two_pow x j
    rw [Nat.add_comm]; exact h
  have e4 : ∀ j, j < 8 → (x % 256).testBit j = x.testBit j := fun j hj => by
    have := Nat.testBit_mod_two_pow x 8 j
    rw [show (2 : Nat) ^ 8 = 256 from rfl] at this
    rw [this, decide_eq_true hj, Bool.true_and]
  have o1 := ones_cnt ⟨x / 16777216, by omega⟩
  have o2 := ones_cnt ⟨x / 65536 % 256, by omega⟩
  have o3 := ones_cnt ⟨x / 256 % 256, by omega⟩
  have o4 := ones_cnt ⟨x % 256, by omega⟩
  simp only at o1 o2 o3 o4
  unfold pop
  rw [o1, o2, o3, o4]
  have sh : ∀ (p q : Nat → Bool) (o : Nat), (∀ j, j < 8 → p j = q (o + j)) → cnt q (o + 8) = cnt q o + cnt p 8 := by
    intro p q o h
    have : ∀ n, n ≤ 8 → cnt q (o + n) = cnt q o + cnt p n := by
      intro n
      induction n with
      | zero => intro _; rfl
      | succ n ih =>
        intro hn
        show cnt q (o + n) + (q (o + n)).toNat = cnt q o + (cnt p n + (p n).toNat)
        rw [ih (by omega), h n (by omega), Nat.add_assoc]
    exact this 8 (Nat.le_refl _)
  have s1 := sh _ _ 24 (fun j _ => e1 j)
  have s2 := sh _ _ 16 e2
  have s3 := sh _ _ 8 e3
  have s4 := sh _ _ 0 (fun j hj => (e4 j hj).trans (by rw [Nat.zero_add]))
  have z : cnt x.testBit 0 = 0 := rfl
  simp only [Nat.reduceAdd] at s1 s2 s3 s4
  omega
def count (c : Cs) : Nat := pop c.up + pop c.dn

/-- The calls of a set at the floors below n, in order. -/
def prs (c : Cs) : Nat → List (Nat × Nat)
  | 0 => []
  | k + 1 => prs c k ++ ((if c.up.testBit k then [(k, 1)] else []) ++ (if c.dn.testBit k then [(k, 2)] else []))
def en (x : Nat × Nat) : En := ⟨x.1, x.2, -1, 0, false⟩
def ents (c : Cs) : List En := (prs c 32).map en
theorem prs_len (c : Cs) : ∀ n, (prs c n).length = cnt c.up.testBit n + cnt c.dn.testBit n
  | 0 => rfl
  | n + 1 => by
    have ih := prs_len c n
    show (prs c n ++ _).length = cnt _ n + _ + (cnt _ n + _)
    rw [List.length_append, List.length_append, ih]
    cases c.up.testBit n <;> cases c.dn.testBit n <;> simp <;> omega
theorem ents_len {c : Cs} (h : c.ok) : (ents c).length = count c := by
  unfold ents count
  rw [List.length_map, prs_len, pop_cnt h.1, pop_cnt h.2]
theorem count_le {c : Cs} (h : c.ok) : count c ≤ 64 := by
  unfold count
  rw [pop_cnt h.1, pop_cnt h.2]
  have h1 := cnt_le c.up.testBit 32
  have h2 := cnt_le c.dn.testBit 32
  omega
theorem mem_prs (c : Cs) (x : Nat × Nat) : ∀ n, x ∈ prs c n ↔ x.1 < n ∧ (x.2 = 1 ∧ c.up.testBit x.1 = true ∨ x.2 = 2 ∧ c.dn.testBit x.1 = true)
  | 0 => by simp [prs]
  | n + 1 => by
    have ih := mem_prs c x n
    obtain ⟨k, d⟩ := x
    unfold prs
    rw [List.mem_append, ih, List.mem_append]
    simp only
    constructor
    · rintro (⟨h1, h2⟩ | h | h)
      · exact ⟨by omega, h2⟩
      · split at h
        · simp only [List.mem_singleton, Prod.mk.injEq] at h
          obtain ⟨rfl, rfl⟩ := h
          exact ⟨by omega, .inl ⟨rfl, by assumption⟩⟩
        · simp at h
      · split at h
        · simp only [List.mem_singleton, Prod.mk.injEq] at h
          obtain ⟨rfl, rfl⟩ := h
          exact ⟨by omega, .inr ⟨rfl, by assumption⟩⟩
        · simp at h
    · rintro ⟨h1, h2⟩
      rcases Nat.lt_or_ge k n with h3 | h3
      · exact .inl ⟨h3, h2⟩
      · obtain rfl : k = n := by omega
        rcases h2 with ⟨rfl, h4⟩ | ⟨rfl, h4⟩
        · exact .inr (.inl (by rw [if_pos h4]; simp))
        · exact .inr (.inr (by rw [if_pos h4]; simp))
theorem nodup_prs (c : Cs) : ∀ n, (prs c n).Nodup
  | 0 => List.nodup_nil
  | n + 1 => by
    unfold prs
    rw [List.nodup_append]
    refine ⟨nodup_prs c n, ?_, ?_⟩
    · cases c.up.testBit n <;> cases c.dn.testBit n <;> simp
    · intro a ha b hb e
      subst e
      have h1 := ((mem_prs c a n).1 ha).1
      have h2 : a.1 = n := by
        rw [List.mem_append] at hb
        rcases hb with hb | hb <;> (split at hb <;> simp at hb) <;> rw [hb]
      omega

def of (l : List En) : Cs := l.foldl (fun c e => union c (one e.f e.d)) empty
theorem of_snoc (l : List En) (e : En) : of (l ++ [e]) = union (of l) (one e.f e.d) := by unfold of; rw [List.foldl_append]; rfl
theorem of_ok (l : List En) : (of l).ok := by
  have : ∀ (l : List En) (c : Cs), c.ok → (l.foldl (fun c e => union c (one e.f e.d)) c).ok := by
    intro l
    induction l with
    | nil => intro c h; exact h
    | cons e l ih => intro c h; exact ih _ (union_ok h (one_ok _ _))
  exact this l empty empty_ok
theorem bit_one (x : Nat × Nat) {k : Nat} (hk : k < 32) : (one (x.1 : Int) (x.2 : Int)).up.testBit k = decide (x = (k, 1)) ∧ (one (x.1 : Int) (x.2 : Int)).dn.testBit k = decide (x = (k, 2)) := by
  obtain ⟨f, d⟩ := x
  unfold one
  simp only
  by_cases h1 : (d : Int) = 1
  · rw [if_pos h1]
    have hd : d = 1 := by omega
    subst hd
    simp only [bit_bitAt _ hk, Nat.zero_testBit]
    constructor
    · exact decide_eq_decide.2 (by simp; omega)
    · symm; exact decide_eq_false (by simp)
  · rw [if_neg h1]
    by_cases h2 : (d : Int) = 2
    · rw [if_pos h2]
      have hd : d = 2 := by omega
      subst hd
      simp only [bit_bitAt _ hk, Nat.zero_testBit]
      constructor
      · symm; exact decide_eq_false (by simp)
      · exact decide_eq_decide.2 (by simp; omega)
    · rw [if_neg h2]
      unfold empty
      simp only [Nat.zero_testBit]
      constructor <;> (symm; refine decide_eq_false ?_; simp; omega)
theorem of_bit {k : Nat} (hk : k < 32) (l : List (Nat × Nat)) : (of (l.map en)).up.testBit k = decide ((k, 1) ∈ l) ∧ (of (l.map en)).dn.testBit k = decide ((k, 2) ∈ l) := by
  have key : ∀ (l : List (Nat × Nat)) (c : Cs), ((l.map en).foldl (fun c e => union c (one e.f e.d)) c).up.testBit k = (c.up.testBit k || decide ((k, 1) ∈ l)) ∧ ((l.map en).foldl (fun c e => union c (one e.f e.d)) c).dn.testBit k = (c.dn.testBit k || decide ((k, 2) ∈ l)) := by
    intro l
    induction l with
    | nil => intro c; simp
    | cons x l ih =>
      intro c
      have := ih (union c (one x.1 x.2))
      have hb := bit_one x hk
      rw [List.map_cons, List.foldl_cons]
      change _ = (_ || _) ∧ _ = (_ || _)
      rw [show union c (one (en x).f (en x).d) = union c (one x.1 x.2) from rfl, this.1, this.2]
      unfold union
      simp only [bit_or, hb.1, hb.2, Bool.or_assoc, ← Bool.decide_or, List.mem_cons]
      constructor
      · congr 1; exact decide_eq_decide.2 (by constructor <;> (rintro (h | h); exact .inl h.symm; exact .inr h))
      · congr 1; exact decide_eq_decide.2 (by constructor <;> (rintro (h | h); exact .inl h.symm; exact .inr h))
  have := key l empty
  unfold of
  rw [this.1, this.2]
  unfold empty
  simp
theorem of_ents {c : Cs} (h : c.ok) : of (ents c) = c := by
  refine ext32 (of_ok _) h fun k hk => ?_
  unfold ents
  have := of_bit hk (prs c 32)
  rw [this.1, this.2]
  have m1 := mem_prs c (k, 1) 32
  have m2 := mem_prs c (k, 2) 32
  constructor
  · rw [Bool.eq_iff_iff, decide_eq_true_iff, m1]; simp [hk]
  · rw [Bool.eq_iff_iff, decide_eq_true_iff, m2]; simp [hk]
/-- The calls ahead of one in a set's list do not have it, and the set has it. -/
theorem ents_at {c : Cs} (h : c.ok) {i : Nat} (hi : i < (ents c).length) : both (of ((ents c).take i)) (one ((ents c)[i]).f ((ents c)[i]).d) = empty ∧ has c ((ents c)[i]).f ((ents c)[i]).d = true := by
  unfold ents at hi ⊢
  rw [List.length_map] at hi
  have hm : (prs c 32)[i] ∈ prs c 32 := List.getElem_mem hi
  have hx := (mem_prs c _ 32).1 hm
  have hnot : (prs c 32)[i] ∉ (prs c 32).take i := by
    intro hmem
    obtain ⟨j, hj, e⟩ := List.mem_iff_getElem.1 hmem
    rw [List.length_take] at hj
    rw [List.getElem_take] at e
    have := (List.getElem_inj (nodup_prs c 32)).1 e
    omega
  rw [List.getElem_map, ← List.map_take]
  show both _ (one (((prs c 32)[i]).1 : Int) (((prs c 32)[i]).2 : Int)) = empty ∧ has c (((prs c 32)[i]).1 : Int) (((prs c 32)[i]).2 : Int) = true
  generalize (prs c 32)[i] = x at *
  refine ⟨ext32 (both_ok (of_ok _)) empty_ok fun k hk => ?_, ?_⟩
  · have hb := bit_one x hk
    have ho := of_bit hk ((prs c 32).take i)
    unfold both empty
    simp only [bit_and, hb.1, hb.2, ho.1, ho.2, Nat.zero_testBit]
    constructor
    · rw [Bool.and_eq_false_iff, decide_eq_false_iff_not, decide_eq_false_iff_not]
      by_cases e : x = (k, 1)
      · left; rw [← e]; exact hnot
      · right; exact e
    · rw [Bool.and_eq_false_iff, decide_eq_false_iff_not, decide_eq_false_iff_not]
      by_cases e : x = (k, 2)
      · left; rw [← e]; exact hnot
      · right; exact e
  · obtain ⟨h1, ⟨h2, h3⟩ | ⟨h2, h3⟩⟩ := hx
    · rw [h2]; exact (has_up h h1).trans h3
    · rw [h2]; exact (has_dn h h1).trans h3

/-- The laws. -/
def atF (c : Cs) (f : Int) : Cs := both c (union (one f 1) (one f 2))
theorem bit_atF (c : Cs) (f : Int) {k : Nat} (hk : k < 32) : (atF c f).up.testBit k = (c.up.testBit k && decide (f = (k : Int))) ∧ (atF c f).dn.testBit k = (c.dn.testBit k && decide (f = (k : Int))) := by
  unfold atF both union one
  rw [if_pos rfl, if_neg (by decide), if_pos rfl]
  simp only [bit_and, bit_or, Nat.zero_testBit, bit_bitAt f hk, Bool.or_false, Bool.false_or]
  exact ⟨trivial, trivial⟩
theorem bit_above (c : Cs) (f : Int) {k : Nat} (hk : k < 32) : (above c f).up.testBit k = (c.up.testBit k && !decide ((k : Int) ≤ f)) ∧ (above c f).dn.testBit k = (c.dn.testBit k && !decide ((k : Int) ≤ f)) := by
  unfold above minus
  simp only [bit_minus (mask_lt f) hk, bit_mask f hk]
  exact ⟨trivial, trivial⟩
theorem bit_below (c : Cs) (f : Int) {k : Nat} (hk : k < 32) : (below c f).up.testBit k = (c.up.testBit k && decide ((k : Int) < f)) ∧ (below c f).dn.testBit k = (c.dn.testBit k && decide ((k : Int) < f)) := by
  unfold below both
  simp only [bit_and, bit_low f hk]
  exact ⟨trivial, trivial⟩
theorem tri (b : Bool) (k f : Int) : ((b && !decide (k ≤ f)) || (b && decide (k < f)) || (b && decide (f = k))) = b ∧ (b && !decide (k ≤ f)).toNat + (b && decide (k < f)).toNat + (b && decide (f = k)).toNat = b.toNat := by
  rcases Int.lt_trichotomy k f with h | h | h
  · rw [decide_eq_true (show k ≤ f by omega), decide_eq_true h, decide_eq_false (show ¬ f = k by omega)]; cases b <;> decide
  · rw [decide_eq_true (show k ≤ f by omega), decide_eq_false (show ¬ k < f by omega), decide_eq_true (show f = k by omega)]; cases b <;> decide
  · rw [decide_eq_false (show ¬ k ≤ f by omega), decide_eq_false (show ¬ k < f by omega), decide_eq_false (show ¬ f = k by omega)]; cases b <;> decide
theorem law_parts {a : Cs} (h : a.ok) (f : Int) : union (union (above a f) (below a f)) (atF a f) = a := by
  refine ext32 (union_ok (union_ok (above_ok h f) (below_ok h f)) (both_ok h)) h fun k hk => ?_
  unfold union
  simp only [bit_or, (bit_atF a f hk).1, (bit_atF a f hk).2, (bit_above a f hk).1, (bit_above a f hk).2, (bit_below a f hk).1, (bit_below a f hk).2]
  exact ⟨(tri _ _ _).1, (tri _ _ _).1⟩
theorem law_count {a : Cs} (h : a.ok) (f : Int) : count (above a f) + count (below a f) + count (atF a f) = count a := by
  unfold count
  rw [pop_cnt (above_ok h f).1, pop_cnt (above_ok h f).2, pop_cnt (below_ok h f).1, pop_cnt (below_ok h f).2, pop_cnt (show (atF a f).up < _ from (both_ok h).1), pop_cnt (show (atF a f).dn < _ from (both_ok h).2), pop_cnt h.1, pop_cnt h.2]
  have h1 := cnt3 (p := (above a f).up.testBit) (q := (below a f).up.testBit) (r := (atF a f).up.testBit) (s := a.up.testBit) 32 fun k hk => by
    rw [(bit_atF a f hk).1, (bit_above a f hk).1, (bit_below a f hk).1]; exact (tri _ _ _).2
  have h2 := cnt3 (p := (above a f).dn.testBit) (q := (below a f).dn.testBit) (r := (atF a f).dn.testBit) (s := a.dn.testBit) 32 fun k hk => by
    rw [(bit_atF a f hk).2, (bit_above a f hk).2, (bit_below a f hk).2]; exact (tri _ _ _).2
  omega
theorem law_minus {a b : Cs} (ha : a.ok) (hb : b.ok) : union (minus a b) (both a b) = a := by
  refine ext32 (union_ok (minus_ok ha) (both_ok ha)) ha fun k hk => ?_
  unfold union minus both
  simp only [bit_or, bit_minus hb.1 hk, bit_minus hb.2 hk, bit_and]
  constructor
  · cases a.up.testBit k <;> cases b.up.testBit k <;> rfl
  · cases a.dn.testBit k <;> cases b.dn.testBit k <;> rfl
theorem law_union {a b : Cs} (ha : a.ok) (hb : b.ok) : count (union a b) + count (both a b) = count a + count b := by
  unfold count
  rw [pop_cnt (union_ok ha hb).1, pop_cnt (union_ok ha hb).2, pop_cnt (both_ok ha).1, pop_cnt (both_ok ha).2, pop_cnt ha.1, pop_cnt ha.2, pop_cnt hb.1, pop_cnt hb.2]
  have h1 := cnt4 (p := (union a b).up.testBit) (q := (both a b).up.testBit) (r := a.up.testBit) (s := b.up.testBit) 32 fun k hk => by
    unfold union both
    simp only [bit_or, bit_and]
    cases a.up.testBit k <;> cases b.up.testBit k <;> rfl
  have h2 := cnt4 (p := (union a b).dn.testBit) (q := (both a b).dn.testBit) (r := a.dn.testBit) (s := b.dn.testBit) 32 fun k hk => by
    unfold union both
    simp only [bit_or, bit_and]
    cases a.dn.testBit k <;> cases b.dn.testBit k <;> rfl
  omega
end Cs
end Go.Proofs.YteniimbcbjbegaaDoor
