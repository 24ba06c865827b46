/- What the texts behind this one rest on: several texts in one. No statement of the seat is proved here. -/
import Derived.Test.YtmonbldmgmmnbaaRows
import Derived.WalkKit
import Derived.ProofKit
import Derived.OpenShut
import Derived.Lib.Hide
import Derived.Handy
import Derived.BigQuiet
import Derived.Deep.QuietTactic
import Derived.StillTail
import Derived.Test.YtmonbldmgmmnbaaLM00
import Derived.Lib.BitFns
namespace Go.Proofs.Ytmonbldmgmmnbaa
section
namespace Crc

theorem xor_swap (a b c : Nat) : a ^^^ (b ^^^ c) = b ^^^ (a ^^^ c) := by rw [← Nat.xor_assoc, Nat.xor_comm a, Nat.xor_assoc]
theorem xor_zero_eq {a b : Nat} (h : a ^^^ b = 0) : a = b := by
  have : a ^^^ b ^^^ b = b := by rw [h, Nat.zero_xor]
  rwa [Nat.xor_assoc, Nat.xor_self, Nat.xor_zero] at this
theorem xor_cancel (a b : Nat) : a ^^^ (a ^^^ b) = b := by rw [← Nat.xor_assoc, Nat.xor_self, Nat.zero_xor]

/-- One shift of a register of b bits. -/
def sh (b d r : Nat) : Nat := (2 * r % 2 ^ b) ^^^ (if 2 ^ (b - 1) ≤ r then d else 0)

/-- j shifts. -/
def shN (b d : Nat) : Nat → Nat → Nat
  | 0, r => r
  | j + 1, r => shN b d j (sh b d r)

theorem shN_succ (b d j r : Nat) : shN b d (j + 1) r = sh b d (shN b d j r) := by
  induction j generalizing r with
  | zero => rfl
  | succ j ih => exact ih (sh b d r)
theorem shN_add (b d i j r : Nat) : shN b d (i + j) r = shN b d i (shN b d j r) := by
  induction j generalizing r with
  | zero => rfl
  | succ j ih => exact ih (sh b d r)

theorem ge_iff_testBit {n r : Nat} (h : r < 2 ^ (n + 1)) : 2 ^ n ≤ r ↔ r.testBit n = true := by
  constructor
  · intro h1; exact Nat.testBit_of_two_pow_le_and_two_pow_add_one_gt h1 h
  · intro h1; exact Nat.ge_two_pow_of_testBit h1

theorem sh_xor {n d x y : Nat} (hx : x < 2 ^ (n + 1)) (hy : y < 2 ^ (n + 1)) : sh (n + 1) d (x ^^^ y) = sh (n + 1) d x ^^^ sh (n + 1) d y := by
  have hxy : x ^^^ y < 2 ^ (n + 1) := Nat.xor_lt_two_pow hx hy
  unfold sh
  simp only [Nat.add_sub_cancel]
  have e : 2 * (x ^^^ y) % 2 ^ (n + 1) = (2 * x % 2 ^ (n + 1)) ^^^ (2 * y % 2 ^ (n + 1)) := by
    rw [← Nat.xor_mod_two_pow]
    congr 1
    rw [Nat.mul_comm 2, Nat.mul_comm 2, Nat.mul_comm 2]
    have := Nat.shiftLeft_xor_distrib (a := x) (b := y) (i := 1)
    simpa [Nat.shiftLeft_eq] using this
  rw [e]
  simp only [ge_iff_testBit hx, ge_iff_testBit hy, ge_iff_testBit hxy, Nat.testBit_xor]
  generalize 2 * x % 2 ^ (n + 1) = p
  generalize 2 * y % 2 ^ (n + 1) = q
  cases x.testBit n <;> cases y.testBit n <;> simp
  · rw [Nat.xor_assoc]
  · rw [Nat.xor_assoc, Nat.xor_comm q d, ← Nat.xor_assoc]
  · rw [Nat.xor_assoc, xor_swap d q d, Nat.xor_self, Nat.xor_zero]

theorem sh_lt {n d x : Nat} (hd : d < 2 ^ (n + 1)) : sh (n + 1) d x < 2 ^ (n + 1) := by
  unfold sh
  refine Nat.xor_lt_two_pow (Nat.mod_lt _ (Nat.two_pow_pos _)) ?_
  split
  · exact hd
  · exact Nat.two_pow_pos _
theorem shN_lt {n d : Nat} (hd : d < 2 ^ (n + 1)) (j : Nat) {x : Nat} (hx : x < 2 ^ (n + 1)) : shN (n + 1) d j x < 2 ^ (n + 1) := by
  induction j generalizing x with
  | zero => exact hx
  | succ j ih => exact ih (sh_lt hd)
theorem shN_xor {n d : Nat} (hd : d < 2 ^ (n + 1)) (j : Nat) {x y : Nat} (hx : x < 2 ^ (n + 1)) (hy : y < 2 ^ (n + 1)) : shN (n + 1) d j (x ^^^ y) = shN (n + 1) d j x ^^^ shN (n + 1) d j y := by
  induction j generalizing x y with
  | zero => rfl
  | succ j ih => simp only [shN]; rw [sh_xor hx hy]; exact ih (sh_lt hd) (sh_lt hd)
theorem sh_zero (n d : Nat) : sh (n + 1) d 0 = 0 := by
  unfold sh
  have := Nat.two_pow_pos n
  simp
theorem shN_zero (n d j : Nat) : shN (n + 1) d j 0 = 0 := by
  induction j with
  | zero => rfl
  | succ j ih => simp only [shN]; rw [sh_zero]; exact ih
/-- The divisor's lowest bit is 1: nothing but 0 becomes 0. -/
theorem sh_ne_zero {n d x : Nat} (hd : d % 2 = 1) (h : sh (n + 1) d x = 0) : x = 0 := by
  unfold sh at h
  simp only [Nat.add_sub_cancel] at h
  have h2 := xor_zero_eq h
  have hev : (2 * x % 2 ^ (n + 1)) % 2 = 0 := by
    rw [Nat.pow_succ, Nat.mul_comm (2 ^ n) 2, Nat.mul_mod_mul_left]; omega
  split at h2
  · omega
  · rename_i hlt
    rw [Nat.pow_succ, Nat.mul_comm (2 ^ n) 2, Nat.mul_mod_mul_left, Nat.mod_eq_of_lt (by omega)] at h2
    omega
theorem shN_ne_zero {n d : Nat} (hd2 : d < 2 ^ (n + 1)) (hd : d % 2 = 1) (j : Nat) {x : Nat} (hx : x < 2 ^ (n + 1)) (h : shN (n + 1) d j x = 0) : x = 0 := by
  induction j generalizing x with
  | zero => exact h
  | succ j ih => exact sh_ne_zero hd (ih (sh_lt hd2) h)
theorem shN_inj {n d : Nat} (hd2 : d < 2 ^ (n + 1)) (hd : d % 2 = 1) (j : Nat) {x y : Nat} (hx : x < 2 ^ (n + 1)) (hy : y < 2 ^ (n + 1)) (h : shN (n + 1) d j x = shN (n + 1) d j y) : x = y :=
  xor_zero_eq (shN_ne_zero hd2 hd j (Nat.xor_lt_two_pow hx hy) (by rw [shN_xor hd2 j hx hy, h, Nat.xor_self]))

/-- A register of m + 8 bits takes in a byte at its top, and shifts eight times. -/
def step (m d r x : Nat) : Nat := shN (m + 7 + 1) d 8 (r ^^^ (x * 2 ^ m))
def reg (m d : Nat) (r : Nat) (l : List UInt8) : Nat := l.foldl (fun r x => step m d r x.toNat) r

theorem reg_append (m d r : Nat) (l k : List UInt8) : reg m d r (l ++ k) = reg m d (reg m d r l) k := List.foldl_append
theorem reg_cons (m d r : Nat) (x : UInt8) (l : List UInt8) : reg m d r (x :: l) = reg m d (step m d r x.toNat) l := rfl
theorem reg_nil (m d r : Nat) : reg m d r [] = r := rfl
theorem two_mul_pow (m : Nat) : 256 * 2 ^ m = 2 ^ (m + 7 + 1) := by rw [show m + 7 + 1 = m + 8 from rfl, Nat.pow_add]; omega
theorem mul_top (m : Nat) {x : Nat} (hx : x < 256) : x * 2 ^ m < 2 ^ (m + 7 + 1) := by
  rw [← two_mul_pow]; exact Nat.mul_lt_mul_of_pos_right hx (Nat.two_pow_pos m)
theorem mul_xor (m x y : Nat) : (x ^^^ y) * 2 ^ m = x * 2 ^ m ^^^ y * 2 ^ m := by
  have := Nat.shiftLeft_xor_distrib (a := x) (b := y) (i := m)
  simpa [Nat.shiftLeft_eq] using this
theorem xor_byte (x y : UInt8) : x.toNat ^^^ y.toNat < 256 := Nat.xor_lt_two_pow (n := 8) x.toNat_lt y.toNat_lt

section
variable {m d : Nat} (hd2 : d < 2 ^ (m + 7 + 1))
include hd2
theorem step_lt {r : Nat} (hr : r < 2 ^ (m + 7 + 1)) {x : Nat} (hx : x < 256) : step m d r x < 2 ^ (m + 7 + 1) :=
  shN_lt hd2 8 (Nat.xor_lt_two_pow hr (mul_top m hx))
theorem reg_lt {r : Nat} (hr : r < 2 ^ (m + 7 + 1)) (l : List UInt8) : reg m d r l < 2 ^ (m + 7 + 1) := by
  induction l generalizing r with
  | nil => exact hr
  | cons x l ih => exact ih (step_lt hd2 hr x.toNat_lt)
/-- Another beginning and another byte. -/
theorem step_xor {r e x y : Nat} (hr : r < 2 ^ (m + 7 + 1)) (he : e < 2 ^ (m + 7 + 1)) (hx : x < 256) (hy : y < 256) :
    step m d (r ^^^ e) (x ^^^ y) = step m d r x ^^^ step m d e y := by
  unfold step
  rw [← shN_xor hd2 8 (Nat.xor_lt_two_pow hr (mul_top m hx)) (Nat.xor_lt_two_pow he (mul_top m hy)), mul_xor]
  congr 1
  rw [Nat.xor_assoc, Nat.xor_assoc, xor_swap e]
/-- Another beginning, by e, is another end, by e shifted on. -/
theorem reg_xor {r e : Nat} (hr : r < 2 ^ (m + 7 + 1)) (he : e < 2 ^ (m + 7 + 1)) (l : List UInt8) : reg m d (r ^^^ e) l = reg m d r l ^^^ shN (m + 7 + 1) d (8 * l.length) e := by
  induction l generalizing r e with
  | nil => rfl
  | cons x l ih =>
    rw [reg_cons, reg_cons]
    have h1 := step_xor hd2 hr he x.toNat_lt (show (0 : Nat) < 256 by omega)
    have h2 : step m d e 0 = shN (m + 7 + 1) d 8 e := by unfold step; rw [Nat.zero_mul, Nat.xor_zero]
    rw [Nat.xor_zero, h2] at h1
    rw [h1, ih (step_lt hd2 hr x.toNat_lt) (shN_lt hd2 8 he), List.length_cons, show 8 * (l.length + 1) = 8 * l.length + 8 from by omega, shN_add]
/-- One byte is another. -/
theorem reg_set {r : Nat} (hr : r < 2 ^ (m + 7 + 1)) (l : List UInt8) (k : Nat) (hk : k < l.length) (v : UInt8) :
    reg m d r (l.set k v) = reg m d r l ^^^ shN (m + 7 + 1) d (8 * (l.length - k)) ((l[k].toNat ^^^ v.toNat) * 2 ^ m) := by
  have e1 : l = l.take k ++ l[k] :: l.drop (k + 1) := by simp
  have e2 : l.set k v = l.take k ++ v :: l.drop (k + 1) := by rw [List.set_eq_take_append_cons_drop, if_pos hk]
  rw [e2]
  conv => rhs; arg 1; rw [e1]
  rw [reg_append, reg_append, reg_cons, reg_cons]
  have hq := reg_lt hd2 hr (l.take k)
  generalize reg m d r (l.take k) = q at *
  have hm := mul_top m (xor_byte l[k] v)
  have hs : step m d q v.toNat = step m d q l[k].toNat ^^^ shN (m + 7 + 1) d 8 ((l[k].toNat ^^^ v.toNat) * 2 ^ m) := by
    have h1 := step_xor hd2 hq (Nat.two_pow_pos _) l[k].toNat_lt (xor_byte l[k] v)
    rw [Nat.xor_zero, xor_cancel] at h1
    rw [h1]
    congr 1
    unfold step
    rw [Nat.zero_xor]
  rw [hs, reg_xor hd2 (step_lt hd2 hq l[k].toNat_lt) (shN_lt hd2 8 hm)]
  congr 1
  rw [← shN_add, List.length_drop]
  congr 1
  omega

omit hd2 in
/-- What does not leave the register is doubled. -/
theorem shN_small (j : Nat) {x : Nat} (hx : x * 2 ^ j < 2 ^ (m + 7 + 1)) : shN (m + 7 + 1) d j x = x * 2 ^ j := by
  induction j generalizing x with
  | zero => simp [shN]
  | succ j ih =>
    have e : x * 2 ^ (j + 1) = 2 * x * 2 ^ j := by rw [Nat.pow_succ, Nat.mul_comm 2 x, Nat.mul_assoc, Nat.mul_comm (2 ^ j) 2]
    have hp : 1 ≤ 2 ^ j := Nat.two_pow_pos j
    have h2 : 2 * x < 2 ^ (m + 7 + 1) := Nat.lt_of_le_of_lt (Nat.le_mul_of_pos_right _ hp) (e ▸ hx)
    have hs : sh (m + 7 + 1) d x = 2 * x := by
      unfold sh
      have hh : 2 ^ (m + 7 + 1) = 2 * 2 ^ (m + 7 + 1 - 1) := by rw [Nat.add_sub_cancel, Nat.pow_succ]; omega
      rw [Nat.mod_eq_of_lt h2, if_neg (by omega), Nat.xor_zero]
    rw [shN, hs, ih (e ▸ hx), e]
omit hd2 in
/-- The highest bit, shifted: what a bit at another place becomes. -/
theorem shN_bit {i L : Nat} (hi : i ≤ m + 7) (hL : i ≤ L) : shN (m + 7 + 1) d L (2 ^ (m + 7 - i)) = shN (m + 7 + 1) d (L - i) (2 ^ (m + 7)) := by
  have h1 : shN (m + 7 + 1) d i (2 ^ (m + 7 - i)) = 2 ^ (m + 7) := by
    have e : 2 ^ (m + 7 - i) * 2 ^ i = 2 ^ (m + 7) := by rw [← Nat.pow_add]; congr 1; omega
    rw [shN_small i (by rw [e]; exact Nat.pow_lt_pow_right (by omega) (by omega)), e]
  conv => lhs; rw [show L = (L - i) + i from by omega]
  rw [shN_add, h1]
end

/-- A string of bytes with one other bit: bit 0 is the highest one of the first byte. -/
def flip1 (l : List UInt8) (k : Nat) : List UInt8 := l.set (k / 8) (l.getD (k / 8) 0 ^^^ UInt8.ofNat (2 ^ (7 - k % 8)))
theorem flip1_length (l : List UInt8) (k : Nat) : (flip1 l k).length = l.length := by simp [flip1]
theorem bit_byte (k : Nat) : (UInt8.ofNat (2 ^ (7 - k % 8))).toNat = 2 ^ (7 - k % 8) := by
  have : 2 ^ (7 - k % 8) < 256 := Nat.lt_of_le_of_lt (Nat.pow_le_pow_right (by omega) (show 7 - k % 8 ≤ 7 by omega)) (by omega)
  simp; omega
theorem reg_flip1 {m d : Nat} (hd2 : d < 2 ^ (m + 7 + 1)) {r : Nat} (hr : r < 2 ^ (m + 7 + 1)) (l : List UInt8) (k : Nat) (hk : k < 8 * l.length) :
    reg m d r (flip1 l k) = reg m d r l ^^^ shN (m + 7 + 1) d (8 * l.length - k) (2 ^ (m + 7)) := by
  unfold flip1
  have hk8 : k / 8 < l.length := by omega
  rw [reg_set hd2 hr l (k / 8) hk8]
  have e1 : l.getD (k / 8) 0 = l[k / 8] := by simp [List.getD, hk8]
  rw [e1, UInt8.toNat_xor, xor_cancel, bit_byte, ← Nat.pow_add]
  congr 1
  have := shN_bit (m := m) (d := d) (i := k % 8) (L := 8 * (l.length - k / 8)) (by omega) (by omega)
  rw [show 7 - k % 8 + m = m + 7 - k % 8 from by omega, this]
  congr 1
  omega

/-- Some of 16 neighbouring bits are others. -/
def flips (at_ mask : Nat) : Nat → List UInt8 → List UInt8
  | 0, l => l
  | i + 1, l => let l' := flips at_ mask i l; if mask.testBit i = true ∧ at_ + i < 8 * l.length then flip1 l' (at_ + i) else l'
theorem flips_length (at_ mask i : Nat) (l : List UInt8) : (flips at_ mask i l).length = l.length := by
  induction i with
  | zero => rfl
  | succ i ih => simp only [flips]; split <;> simp [flip1_length, ih]
/-- The bits that are others, as a number: the first one is the highest. -/
def pat (at_ mask N : Nat) : Nat → Nat
  | 0 => 0
  | i + 1 => pat at_ mask N i ^^^ (if mask.testBit i = true ∧ at_ + i < N then 2 ^ (15 - i) else 0)
theorem pat_lt (at_ mask N i : Nat) : pat at_ mask N i < 2 ^ 16 := by
  induction i with
  | zero => simp [pat]
  | succ i ih =>
    simp only [pat]
    refine Nat.xor_lt_two_pow ih ?_
    split
    · exact Nat.pow_lt_pow_right (by omega) (by omega)
    · omega
theorem reg_flips {r : Nat} (hr : r < 65536) (l : List UInt8) (at_ mask : Nat) (i : Nat) (hi : i ≤ 16) :
    reg 8 0x1021 r (flips at_ mask i l) = reg 8 0x1021 r l ^^^ shN 16 0x1021 (8 * l.length - at_) (pat at_ mask (8 * l.length) i) := by
  induction i with
  | zero => simp only [flips, pat]; rw [show (16 : Nat) = 15 + 1 from rfl, shN_zero, Nat.xor_zero]
  | succ i ih =>
    simp only [flips, pat]
    have hd : (0x1021 : Nat) < 2 ^ (8 + 7 + 1) := by decide
    split
    · rename_i h
      rw [reg_flip1 hd hr _ _ (by rw [flips_length]; exact h.2), ih (by omega), flips_length]
      have h1 := shN_xor (n := 15) (d := 0x1021) hd (8 * l.length - at_) (pat_lt at_ mask (8 * l.length) i) (show 2 ^ (15 - i) < 2 ^ 16 from Nat.pow_lt_pow_right (by omega) (by omega))
      have h2 := shN_bit (m := 8) (d := 0x1021) (i := i) (L := 8 * l.length - at_) (by omega) (by omega)
      rw [h1, Nat.xor_assoc]
      congr 2
      rw [show 8 * l.length - (at_ + i) = 8 * l.length - at_ - i from by omega]
      exact h2.symm
    · rw [ih (by omega), Nat.xor_zero]
theorem pat_bit (at_ mask N : Nat) (i : Nat) (hi : i ≤ 16) : ∀ j, j < 16 → (pat at_ mask N i).testBit (15 - j) = decide (j < i ∧ mask.testBit j = true ∧ at_ + j < N) := by
  induction i with
  | zero => intro j hj; simp [pat]
  | succ i ih =>
    intro j hj
    simp only [pat, Nat.testBit_xor, ih (by omega) j hj]
    by_cases hji : j = i
    · subst hji
      by_cases hc : mask.testBit j = true ∧ at_ + j < N
      · rw [if_pos hc]; simp [hc]
      · rw [if_neg hc]; simp [hc]
    · have e : (if mask.testBit i = true ∧ at_ + i < N then 2 ^ (15 - i) else 0).testBit (15 - j) = false := by
        split
        · rw [Nat.testBit_two_pow]; simp; omega
        · simp
      rw [e, Bool.xor_false]
      congr 1
      apply propext
      constructor
      · rintro ⟨a, b⟩; exact ⟨by omega, b⟩
      · rintro ⟨a, b⟩; exact ⟨by omega, b⟩
theorem flips_same (at_ mask : Nat) (l : List UInt8) (i : Nat) (h : ∀ j, j < i → ¬ (mask.testBit j = true ∧ at_ + j < 8 * l.length)) : flips at_ mask i l = l := by
  induction i with
  | zero => rfl
  | succ i ih => simp only [flips]; rw [if_neg (h i (by omega)), ih (fun j hj => h j (by omega))]
/-- THE BURST: a sealed string with changes within 16 neighbouring bits has another sum. -/
theorem burst {l : List UInt8} {r at_ mask : Nat} (hr : r < 65536) (hne : flips at_ mask 16 l ≠ l) : reg 8 0x1021 r (flips at_ mask 16 l) ≠ reg 8 0x1021 r l := by
  intro h
  rw [reg_flips hr l at_ mask 16 (by omega)] at h
  have hd : (0x1021 : Nat) < 2 ^ (15 + 1) := by decide
  have h0 : shN 16 0x1021 (8 * l.length - at_) (pat at_ mask (8 * l.length) 16) = 0 := by
    have := congrArg (fun x => reg 8 0x1021 r l ^^^ x) h
    simpa [xor_cancel] using this
  have hp := shN_ne_zero (n := 15) hd (by decide) _ (pat_lt at_ mask (8 * l.length) 16) h0
  refine hne (flips_same _ _ _ _ fun j hj hc => ?_)
  have := pat_bit at_ mask (8 * l.length) 16 (by omega) j hj
  rw [hp] at this
  simp [hc, hj] at this

/-- One other bit makes another sum. -/
theorem flip1_reg_ne {m d : Nat} (hd2 : d < 2 ^ (m + 7 + 1)) (hd : d % 2 = 1) {r : Nat} (hr : r < 2 ^ (m + 7 + 1)) (l : List UInt8) (k : Nat) (hk : k < 8 * l.length) :
    reg m d r (flip1 l k) ≠ reg m d r l := by
  intro h
  rw [reg_flip1 hd2 hr l k hk] at h
  have h0 : shN (m + 7 + 1) d (8 * l.length - k) (2 ^ (m + 7)) = 0 := by
    have := congrArg (fun x => reg m d r l ^^^ x) h
    simpa [xor_cancel] using this
  have := shN_ne_zero hd2 hd _ (Nat.pow_lt_pow_right (by omega) (by omega)) h0
  have := Nat.two_pow_pos (m + 7)
  omega

def never : Nat → Nat → Bool
  | 0, _ => true
  | k + 1, r => (sh 16 0x1021 r != 0x8000) && never k (sh 16 0x1021 r)
theorem never_spec : ∀ (k r : Nat), never k r = true → ∀ j, j < k → shN 16 0x1021 (j + 1) r ≠ 0x8000
  | 0, _, _, j, hj => by omega
  | k + 1, r, h, j, hj => by
    simp only [never, Bool.and_eq_true, bne_iff_ne, ne_eq] at h
    cases j with
    | zero => exact h.1
    | succ j => exact never_spec k _ h.2 j (by omega)
theorem never_8016 : never 8016 0x8000 = true := by decide +kernel
/-- Two other bits make another sum. -/
theorem pair_ne {l : List UInt8} {r x y : Nat} (hr : r < 65536) (hl : l.length ≤ 1002) (hx : x < 8 * l.length) (hy : y < 8 * l.length) (hxy : x ≠ y) :
    reg 8 0x1021 r (flip1 (flip1 l x) y) ≠ reg 8 0x1021 r l := by
  have hd : (0x1021 : Nat) < 2 ^ (8 + 7 + 1) := by decide
  intro h
  rw [reg_flip1 hd hr _ _ (by rw [flip1_length]; exact hy), reg_flip1 hd hr l x hx, flip1_length, Nat.xor_assoc] at h
  have h0 := congrArg (fun x => reg 8 0x1021 r l ^^^ x) h
  simp only [xor_cancel, Nat.xor_self] at h0
  have h1 := xor_zero_eq h0
  have key : ∀ a b, a < b → b ≤ 8016 → shN (8 + 7 + 1) 0x1021 a (2 ^ (8 + 7)) ≠ shN (8 + 7 + 1) 0x1021 b (2 ^ (8 + 7)) := by
    intro a b hab hb he
    rw [show b = a + (b - a) from by omega, shN_add] at he
    have := shN_inj (n := 15) hd (by decide) a (by decide) (shN_lt hd _ (by decide)) he
    exact never_spec 8016 0x8000 never_8016 (b - a - 1) (by omega) (by rw [show b - a - 1 + 1 = b - a from by omega]; exact this.symm)
  rcases Nat.lt_or_gt_of_ne (show 8 * l.length - x ≠ 8 * l.length - y by omega) with hlt | hlt
  · exact key _ _ hlt (by omega) h1
  · exact key _ _ hlt (by omega) h1.symm

/-- Two neighbouring bytes in the other order make another sum. -/
theorem swap_ne {l : List UInt8} {r k : Nat} (hr : r < 65536) (hk : k + 1 < l.length) (hne : l[k] ≠ l[k + 1]) :
    reg 8 0x1021 r ((l.set k l[k + 1]).set (k + 1) l[k]) ≠ reg 8 0x1021 r l := by
  have hd : (0x1021 : Nat) < 2 ^ (8 + 7 + 1) := by decide
  intro h
  rw [reg_set hd hr _ (k + 1) (by simpa using hk), reg_set hd hr l k (by omega), Nat.xor_assoc] at h
  have h0 := congrArg (fun x => reg 8 0x1021 r l ^^^ x) h
  simp only [xor_cancel, Nat.xor_self] at h0
  have h1 := xor_zero_eq h0
  have e : (l.set k l[k + 1])[k + 1]'(by simpa using hk) = l[k + 1] := by rw [List.getElem_set_ne (by omega)]
  rw [e, List.length_set, Nat.xor_comm l[k + 1].toNat] at h1
  have hb := xor_byte l[k] l[k + 1]
  generalize hz : l[k].toNat ^^^ l[k + 1].toNat = z at *
  have hz0 : z ≠ 0 := by
    intro h; rw [h] at hz
    exact hne (UInt8.toNat_inj.1 (xor_zero_eq hz))
  have h2 : shN (8 + 7 + 1) 0x1021 8 z = z * 2 ^ 8 := shN_small 8 (by omega)
  rw [← h2, show 8 * (l.length - k) = 8 * (l.length - (k + 1)) + 8 from by omega, shN_add] at h1
  have h3 := shN_inj (n := 15) hd (by decide) _ (shN_lt hd 8 (shN_lt hd 8 (by omega))) (shN_lt hd 8 (by omega)) h1
  have h4 := shN_inj (n := 15) hd (by decide) _ (shN_lt hd 8 (by omega)) (show z < 2 ^ (15 + 1) by omega) h3
  rw [h2] at h4
  omega

/-- The register is linear. -/
theorem reg_linear {m d : Nat} (hd2 : d < 2 ^ (m + 7 + 1)) : ∀ (s u : List UInt8) (r e : Nat), s.length = u.length → r < 2 ^ (m + 7 + 1) → e < 2 ^ (m + 7 + 1) →
    reg m d (r ^^^ e) (List.zipWith (· ^^^ ·) s u) = reg m d r s ^^^ reg m d e u
  | [], [], _, _, _, _, _ => rfl
  | x :: s, y :: u, r, e, h, hr, he => by
    rw [List.zipWith_cons_cons, reg_cons, reg_cons, reg_cons, UInt8.toNat_xor, step_xor hd2 hr he x.toNat_lt y.toNat_lt]
    exact reg_linear hd2 s u _ _ (by simpa using h) (step_lt hd2 hr x.toNat_lt) (step_lt hd2 he y.toNat_lt)
  | [], _ :: _, _, _, h, _, _ => by simp at h
  | _ :: _, [], _, _, h, _, _ => by simp at h

/-- The two bytes of a sum take the register back to 0. -/
theorem reg_end {r : Nat} (hr : r < 65536) : reg 8 0x1021 r [UInt8.ofNat (r / 256), UInt8.ofNat (r % 256)] = 0 := by
  have hd : (0x1021 : Nat) < 2 ^ (8 + 7 + 1) := by decide
  rw [reg_cons, reg_cons, reg_nil]
  have e1 : (UInt8.ofNat (r / 256)).toNat = r / 256 := by simp; omega
  have e2 : (UInt8.ofNat (r % 256)).toNat = r % 256 := by simp
  rw [e1, e2]
  unfold step
  have h1 : r ^^^ r / 256 * 2 ^ 8 = r % 256 := by
    apply Nat.eq_of_testBit_eq
    intro i
    have e3 : r / 256 = r >>> 8 := by rw [Nat.shiftRight_eq_div_pow]
    rw [Nat.testBit_xor, ← Nat.shiftLeft_eq, Nat.testBit_shiftLeft, e3, Nat.testBit_shiftRight, show (256 : Nat) = 2 ^ 8 from rfl, Nat.testBit_mod_two_pow]
    by_cases h : i < 8
    · simp [h, show ¬ 8 ≤ i from by omega]
    · simp [h, show 8 ≤ i from by omega, show 8 + (i - 8) = i from by omega]
  have h2 : shN (8 + 7 + 1) 0x1021 8 (r % 256) = r % 256 * 2 ^ 8 := shN_small 8 (by omega)
  rw [h1, h2, Nat.xor_self]
  exact shN_zero 15 _ 8
end Crc
end

section
open Go.RowKit

theorem ret_u16 {a b : Int} (h : a = b) : Ending.returned (.int .u16 a) = .returned (.int .u16 b) := by rw [h]
theorem ret_u8 {a b : Int} (h : a = b) : Ending.returned (.int .u8 a) = .returned (.int .u8 b) := by rw [h]

theorem sh16_hi {r : Nat} (h : 32768 ≤ r) : Crc.sh 16 4129 r = (2 * r % 65536) ^^^ 4129 := by
  unfold Crc.sh; rw [if_pos (by omega)]
theorem sh16_lo {r : Nat} (h : r < 32768) : Crc.sh 16 4129 r = 2 * r % 65536 := by
  unfold Crc.sh; rw [if_neg (by omega)]; simp
theorem sh8_hi {r : Nat} (h : 128 ≤ r) : Crc.sh 8 7 r = (2 * r % 256) ^^^ 7 := by
  unfold Crc.sh; rw [if_pos (by omega)]
theorem sh8_lo {r : Nat} (h : r < 128) : Crc.sh 8 7 r = 2 * r % 256 := by
  unfold Crc.sh; rw [if_neg (by omega)]; simp

theorem wrap16 (r : Nat) : IntKind.u16.wrap ((r : Int) * 2) = ((2 * r % 65536 : Nat) : Int) := by rw [IntKind.wrap_u16]; omega

set_option maxHeartbeats 400000 in
theorem shift8_any (r : Nat) (w : World) (hr : r < 256) :
    Calls Try.prog 111 #[.int .u8 r] w fun e w' => e = .returned (.int .u8 (Crc.sh 8 7 r : Nat)) ∧ w = w' := by
  by_cases h : 128 ≤ r
  · have hd : (((r : Int) / 128) == 1) = true := beq_iff_eq.2 (by omega)
    go_enter Try.func111, Try.ntmps111
    go_wp2
    go_ret
    refine ⟨ret_u8 ?_, rfl⟩
    rw [sh8_hi h, show (r : Int) * 2 % 256 = ((2 * r % 256 : Nat) : Int) from by omega]
    exact u8_xor_nat _ 7 (by omega) (by omega)
  · have hd : (((r : Int) / 128) == 1) = false := beq_eq_false_iff_ne.2 (by omega)
    go_enter Try.func111, Try.ntmps111
    go_wp2
    go_ret
    refine ⟨ret_u8 ?_, rfl⟩
    rw [sh8_lo (by omega)]
    omega
end

section
open Go.RowKit

/-- The bytes of a string. -/
abbrev bl (s : ByteArray) : List UInt8 := s.data.toList
theorem take_bl (s : ByteArray) (k : Nat) (h : k < s.size) : (bl s).take (k + 1) = (bl s).take k ++ [s[k]] := by
  rw [List.take_succ_eq_append_getElem (by simpa using h)]; rfl
def sum16 (l : List UInt8) : Nat := Crc.reg 8 4129 65535 l
def sum8 (l : List UInt8) : Nat := Crc.reg 0 7 0 l
theorem sum16_lt (l : List UInt8) : sum16 l < 65536 := Crc.reg_lt (m := 8) (d := 4129) (by decide) (by decide) l
theorem sum8_lt (l : List UInt8) : sum8 l < 256 := Crc.reg_lt (m := 0) (d := 7) (by decide) (by decide) l
theorem sum16_snoc (s : ByteArray) (k : Nat) (h : k < s.size) : sum16 ((bl s).take (k + 1)) = Crc.shN 16 4129 8 (sum16 ((bl s).take k) ^^^ s[k].toNat * 256) := by
  rw [take_bl s k h]; unfold sum16; rw [Crc.reg_append]; rfl
theorem sum8_snoc (s : ByteArray) (k : Nat) (h : k < s.size) : sum8 ((bl s).take (k + 1)) = Crc.shN 8 7 8 (sum8 ((bl s).take k) ^^^ s[k].toNat) := by
  rw [take_bl s k h]; unfold sum8; rw [Crc.reg_append]
  show Crc.step 0 7 _ _ = _
  unfold Crc.step
  rw [Nat.pow_zero, Nat.mul_one]
theorem shN16_lt (j : Nat) {x : Nat} (hx : x < 65536) : Crc.shN 16 4129 j x < 65536 := Crc.shN_lt (n := 15) (d := 4129) (by decide) j hx
theorem shN8_lt (j : Nat) {x : Nat} (hx : x < 256) : Crc.shN 8 7 j x < 256 := Crc.shN_lt (n := 7) (d := 7) (by decide) j hx

theorem byte_in16 (r : Nat) (hr : r < 65536) (c : UInt8) : bits .xor .u16 (r : Int) (IntKind.u16.wrap (IntKind.u16.wrap (c.toNat : Int) * 256)) = ((r ^^^ c.toNat * 256 : Nat) : Int) := by
  have hc := c.toNat_lt
  rw [IntKind.wrap_u16, IntKind.wrap_u16, show (((c.toNat : Int) % 65536 * 256) % 65536) = ((c.toNat * 256 : Nat) : Int) from by omega]
  exact u16_xor_nat _ _ hr (by omega)
theorem byte_in16_lt (r : Nat) (hr : r < 65536) (c : UInt8) : r ^^^ c.toNat * 256 < 65536 := Nat.xor_lt_two_pow (n := 16) hr (by have := c.toNat_lt; omega)
theorem byte_in8 (r : Nat) (hr : r < 256) (c : UInt8) : bits .xor .u8 (r : Int) (c.toNat : Int) = ((r ^^^ c.toNat : Nat) : Int) := u8_xor_nat _ _ hr c.toNat_lt
theorem byte_in8_lt (r : Nat) (hr : r < 256) (c : UInt8) : r ^^^ c.toNat < 256 := Nat.xor_lt_two_pow (n := 8) hr c.toNat_lt

set_option maxHeartbeats 400000 in
theorem sum8_any (s : ByteArray) (w : World) (hs : s.size ≤ maxLen) :
    Calls Try.prog 100 #[.string s] w fun e w' => e = .returned (.int .u8 (sum8 (bl s) : Nat)) ∧ w = w' := by
  unfold maxLen at hs
  go_enter Try.func100, Try.ntmps100
  go_wp2
  go_loop [3, 7] (fun r i => ∃ k : Nat, k ≤ s.size ∧ i = .int .i64 k ∧ r = .int .u8 (sum8 ((bl s).take k) : Nat)) (fun _ i => s.size - (intOf i).toNat)
  case atStart => exact ⟨0, Nat.zero_le _, rfl, rfl⟩
  case round =>
    obtain ⟨k, hk, rfl, rfl⟩ := hrel
    have hb := sum8_lt ((bl s).take k)
    by_cases hlt : k < s.size
    · have HS : Hid (sum8 ((bl s).take (k + 1)) = Crc.shN 8 7 8 (sum8 ((bl s).take k) ^^^ s[k].toNat)) := sum8_snoc s k hlt
      go_wp2
      rw [byte_in8 _ hb]
      have hx := byte_in8_lt _ hb s[k]
      generalize sum8 ((bl s).take k) ^^^ s[k].toNat = x at *
      go_loop [3, 15] (fun r i => ∃ j : Nat, j ≤ 8 ∧ i = .int .i64 j ∧ r = .int .u8 (Crc.shN 8 7 j x : Nat)) (fun _ i => 8 - (intOf i).toNat)
      case atStart => exact ⟨0, Nat.zero_le _, rfl, rfl⟩
      case round =>
        obtain ⟨j, hj, rfl, rfl⟩ := hrel
        have hy := shN8_lt j hx
        by_cases hj8 : j < 8
        · have HJ : Hid (Crc.shN 8 7 (j + 1) x = Crc.sh 8 7 (Crc.shN 8 7 j x)) := Crc.shN_succ _ _ _ _
          go_wp2_with (go_at_call 111; refine (shift8_any _ _ hy).mono ?_; rintro e w' ⟨rfl, rfl⟩)
          go_round
          case rel => exact ⟨j + 1, by omega, by go_num, by rw [HJ.out]⟩
          case measure => simp [intOf]; omega
        · obtain rfl : j = 8 := by omega
          go_wp2
          go_round
          case rel => exact ⟨k + 1, by omega, by go_num, by rw [HS.out]⟩
          case measure => simp [intOf]; omega
    · go_wp2
      go_ret
      exact ⟨ret_u8 (by rw [List.take_of_length_le (by simp; omega)]), rfl⟩
end

section
open Go.RowKit

theorem i64_xor_nat (a b : Nat) (ha : a < 65536) (hb : b < 65536) : bits .xor .i64 (a : Int) (b : Int) = ((a ^^^ b : Nat) : Int) := by
  have hx : a ^^^ b < 2 ^ 16 := Nat.xor_lt_two_pow ha hb
  show IntKind.i64.wrap ((BitVec.ofInt 64 (a : Int) ^^^ BitVec.ofInt 64 (b : Int)).toNat : Int) = _
  have e : ∀ c : Nat, c < 65536 → (BitVec.ofInt 64 (c : Int)).toNat = c := by
    intro c hc; rw [BitVec.ofInt_natCast, BitVec.toNat_ofNat]; exact Nat.mod_eq_of_lt (by omega)
  rw [BitVec.toNat_xor, e a ha, e b hb, IntKind.wrap_i64]
  omega

theorem byte_in64 (r : Nat) (hr : r < 65536) (c : UInt8) : bits .xor .i64 (r : Int) (wrap64 (wrap64 (c.toNat : Int) * 256)) = ((r ^^^ c.toNat * 256 : Nat) : Int) := by
  have hc := c.toNat_lt
  rw [show wrap64 (wrap64 (c.toNat : Int) * 256) = ((c.toNat * 256 : Nat) : Int) from by unfold wrap64; omega]
  exact i64_xor_nat _ _ hr (by omega)
theorem byte_in64' (r : Nat) (hr : r < 256) (c : UInt8) : bits .xor .i64 (r : Int) (wrap64 (c.toNat : Int)) = ((r ^^^ c.toNat : Nat) : Int) := by
  have hc := c.toNat_lt
  rw [show wrap64 (c.toNat : Int) = (c.toNat : Int) from by unfold wrap64; omega]
  exact i64_xor_nat _ _ (by omega) (by omega)

set_option maxRecDepth 100000 in
set_option maxHeartbeats 400000 in
theorem refSum8_any (s : ByteArray) (w : World) (hs : s.size ≤ maxLen) :
    Calls Try.prog 79 #[.string s] w fun e w' => e = .returned (.int .u8 (sum8 (bl s) : Nat)) ∧ w = w' := by
  unfold maxLen at hs
  go_enter Try.func79, Try.ntmps79
  go_wp2
  go_loop [3, 4] (fun r i => ∃ k : Nat, k ≤ s.size ∧ i = .int .i64 k ∧ r = .int .i64 (sum8 ((bl s).take k) : Nat)) (fun _ i => s.size - (intOf i).toNat)
  case atStart => exact ⟨0, Nat.zero_le _, rfl, rfl⟩
  case round =>
    obtain ⟨k, hk, rfl, rfl⟩ := hrel
    have hb := sum8_lt ((bl s).take k)
    by_cases hlt : k < s.size
    · have HS : Hid (sum8 ((bl s).take (k + 1)) = Crc.shN 8 7 8 (sum8 ((bl s).take k) ^^^ s[k].toNat)) := sum8_snoc s k hlt
      go_wp2
      have hx := byte_in8_lt _ hb s[k]
      rw [byte_in64' _ hb]
      generalize sum8 ((bl s).take k) ^^^ s[k].toNat = x at *
      go_loop [3, 5] (fun r i => ∃ j : Nat, j ≤ 8 ∧ i = .int .i64 j ∧ r = .int .i64 (Crc.shN 8 7 j x : Nat)) (fun _ i => 8 - (intOf i).toNat)
      case atStart => exact ⟨0, Nat.zero_le _, rfl, rfl⟩
      case round =>
        obtain ⟨j, hj, rfl, rfl⟩ := hrel
        have hy := shN8_lt j hx
        by_cases hj8 : j < 8
        · have HJ : Hid (Crc.shN 8 7 (j + 1) x = Crc.sh 8 7 (Crc.shN 8 7 j x)) := Crc.shN_succ _ _ _ _
          generalize Crc.shN 8 7 j x = y at *
          obtain ⟨z, hz⟩ : ∃ z : Int, z = (y : Int) := ⟨_, rfl⟩
          have HZ := Lib.hid hz
          have hz0 : 0 ≤ z := by omega
          have hz1 : z < 256 := by omega
          rw [← hz]
          clear hz hy
          by_cases h : 128 ≤ z
          · go_wp2
            go_round
            case rel =>
              refine ⟨j + 1, by omega, by go_num, ?_⟩
              have hz := HZ.out
              rw [HJ.out, sh8_hi (by omega), show z * 2 % 256 = ((2 * y % 256 : Nat) : Int) from by omega]
              exact congrArg _ (i64_xor_nat _ 7 (by omega) (by omega))
            case measure => simp [intOf]; omega
          · go_wp2
            go_round
            case rel =>
              refine ⟨j + 1, by omega, by go_num, ?_⟩
              have hz := HZ.out
              rw [HJ.out, sh8_lo (by omega), show z * 2 % 256 = ((2 * y % 256 : Nat) : Int) from by omega]
            case measure => simp [intOf]; omega
        · obtain rfl : j = 8 := by omega
          go_wp2
          go_round
          case rel => exact ⟨k + 1, by omega, by go_num, by rw [HS.out]⟩
          case measure => simp [intOf]; omega
    · go_wp2
      go_ret
      exact ⟨ret_u8 (by rw [List.take_of_length_le (by simp; omega)]), rfl⟩
end

section
namespace Bag
open Go

section
variable {P : Program} {ops : Array Oper} {I : World → Prop}

def NoEnd : Exit → Act → World → Prop := fun _ _ _ => False

/-- One operation from act a to act a1, in every world that meets I. -/
def Step (P : Program) (ops : Array Oper) (I : World → Prop) (o : Oper) (a a1 : Act) : Prop :=
  (Region.wanted o (yielded ops a.tmps) = false ∧ a1 = a.put o.dst undef) ∨
  (Region.wanted o (yielded ops a.tmps) = true ∧ a1.defers = a.defers ∧ ∀ wx, I wx → o.wp P a wx (fun a' w' => a' = a1 ∧ I w') NoEnd)

def walk (P : Program) (ops : Array Oper) (I : World → Prop) (Q : Act → Prop) : List Oper → Act → Prop
  | [], a => Q a
  | o :: rest, a => ∃ a1, Step P ops I o a a1 ∧ walk P ops I Q rest a1

def ok (ops : Array Oper) : Bool :=
  Region.noSelect ops && (List.range ops.size).all fun i => match ops[i]? with
    | none => true
    | some oi => (oi.after.all fun e => !(Region.binds .any e) || decide (e.on < i)) && (List.range ops.size).all fun j => match ops[j]? with
      | none => true
      | some oj => match oj.dst with
        | none => true
        | some d => (i == j || oi.dst != some d) && (!(oi.looksAt ops).contains d || (i != j && (if j < i then Region.waitsFor .any ops i j else Region.waitsFor .any ops j i)))

structure Ok (ops : Array Oper) : Prop where
  sel : ∀ (j : Nat) (o : Oper) cs b, ops[j]? = some o → o.op ≠ .select cs b
  back : ∀ (i : Nat) (oi : Oper), ops[i]? = some oi → ∀ e ∈ oi.after, Region.binds .any e = true → e.on < i
  one : ∀ (i : Nat) (oi : Oper) (j : Nat) (oj : Oper) (d : Tmp), ops[i]? = some oi → ops[j]? = some oj → oi.dst = some d → oj.dst = some d → i = j
  reads : ∀ (i : Nat) (oi : Oper) (j : Nat) (oj : Oper) (d : Tmp), ops[i]? = some oi → ops[j]? = some oj → oj.dst = some d → d ∈ oi.looksAt ops → (j < i ∧ Region.waitsFor .any ops i j = true) ∨ (i < j ∧ Region.waitsFor .any ops j i = true)

theorem ok_spec (h : ok ops = true) : Ok ops := by
  unfold ok at h
  rw [Bool.and_eq_true, List.all_eq_true] at h
  obtain ⟨hs, h⟩ := h
  have H : ∀ i oi, ops[i]? = some oi → (∀ e ∈ oi.after, Region.binds .any e = true → e.on < i) ∧ ∀ j oj d, ops[j]? = some oj → oj.dst = some d →
      (i = j ∨ oi.dst ≠ some d) ∧ (d ∈ oi.looksAt ops → i ≠ j ∧ (if j < i then Region.waitsFor .any ops i j else Region.waitsFor .any ops j i) = true) := by
    intro i oi hi
    have hlt := (Array.getElem?_eq_some_iff.1 hi).1
    have h1 := h i (List.mem_range.2 hlt)
    simp only [hi, Bool.and_eq_true, List.all_eq_true] at h1
    refine ⟨fun e he hb => ?_, fun j oj d hj hd => ?_⟩
    · have := Array.all_eq_true_iff_forall_mem.1 h1.1 e he
      simpa [hb] using this
    · have h2 := h1.2 j (List.mem_range.2 (Array.getElem?_eq_some_iff.1 hj).1)
      simp only [hj, hd, Bool.and_eq_true, Bool.or_eq_true, beq_iff_eq, bne_iff_ne, ne_eq, Bool.not_eq_true', List.contains_eq_mem, decide_eq_false_iff_not] at h2
      exact ⟨h2.1, fun hm => h2.2.resolve_left (fun hn => hn hm)⟩
  refine ⟨fun j o cs b hj => Region.noSelect_spec hs j o cs b hj, fun i oi hi => (H i oi hi).1, fun i oi j oj d hi hj hdi hdj => ?_, fun i oi j oj d hi hj hdj hm => ?_⟩
  · rcases ((H i oi hi).2 j oj d hj hdj).1 with h | h
    · exact h
    · exact absurd hdi h
  · obtain ⟨hne, hif⟩ := ((H i oi hi).2 j oj d hj hdj).2 hm
    split at hif
    · rename_i hlt; exact .inl ⟨hlt, hif⟩
    · rename_i hge; exact .inr ⟨by omega, hif⟩

theorem put_get (a : Act) (d s : Tmp) (v : Value) : (a.put (some d) v).tmps[s]? = if d = s then (if s < a.tmps.size then some v else none) else a.tmps[s]? := by
  simp only [Act.put, Array.getElem?_setIfInBounds]
  split
  · rename_i h; subst h; rfl
  · rfl
theorem put_size (a : Act) (d : Option Tmp) (v : Value) : (a.put d v).tmps.size = a.tmps.size := by cases d <;> simp [Act.put]
theorem put_defers' (a : Act) (d : Option Tmp) (v : Value) : (a.put d v).defers = a.defers := by cases d <;> rfl

/-- A step puts one value. -/
theorem Step.put {o : Oper} {a a1 : Act} {w0 : World} (h : Step P ops I o a a1) (h0 : I w0) : ∃ v, a1 = a.put o.dst v := by
  rcases h with ⟨_, h⟩ | ⟨_, hd, h⟩
  · exact ⟨_, h⟩
  · have hw := h w0 h0
    unfold Oper.wp at hw
    cases hr : (execOp a.eval o).run P w0 with
    | ok n w' =>
      rw [hr] at hw
      cases n with
      | value v => exact ⟨v, hw.1.symm⟩
      | skip => exact ⟨undef, hw.1.symm⟩
      | defer d =>
        have := hw.1
        rw [← this] at hd
        rw [put_defers'] at hd
        exact absurd (congrArg List.length hd) (by simp)
      | enter f args =>
        obtain ⟨e, w'', fr, r, _⟩ := (hw : Calls P f args w' _) []
        cases e with
        | returned v => exact ⟨v, r.1.symm⟩
        | panicked c => exact r.elim
        | outgrown => obtain ⟨_, _, h⟩ := r; exact h.elim
      | row row args =>
        obtain ⟨v, w'', r, _⟩ := (hw : Rows P row args w' _) default []
        exact ⟨v, r.1.symm⟩
      | _ => exact hw.elim
    | halt x w' =>
      rw [hr] at hw
      cases x <;> exact hw.elim

/-- The acts of a walk, one behind the other. -/
theorem walk_acts {Q : Act → Prop} : ∀ (l : List Oper) (a : Act), walk P ops I Q l a → ∃ acts : Nat → Act, acts 0 = a ∧ (∀ i o, l[i]? = some o → Step P ops I o (acts i) (acts (i + 1))) ∧ Q (acts l.length)
  | [], a, h => ⟨fun _ => a, rfl, fun i o hi => by simp at hi, h⟩
  | o :: rest, a, ⟨a1, hs, h⟩ => by
    obtain ⟨acts, h0, hst, hQ⟩ := walk_acts rest a1 h
    refine ⟨fun n => match n with | 0 => a | n + 1 => acts n, rfl, fun i oi hi => ?_, hQ⟩
    cases i with
    | zero =>
      simp only [List.getElem?_cons_zero, Option.some.injEq] at hi
      subst hi
      show Step P ops I o a (acts 0)
      rw [h0]; exact hs
    | succ i => exact hst i oi (by simpa using hi)

structure Seq (P : Program) (ops : Array Oper) (I : World → Prop) (acts : Nat → Act) : Prop where
  step : ∀ i o, ops[i]? = some o → Step P ops I o (acts i) (acts (i + 1))
  put : ∀ i o, ops[i]? = some o → ∃ v, acts (i + 1) = (acts i).put o.dst v

variable {acts : Nat → Act}

theorem Seq.size (h : Seq P ops I acts) : ∀ k, k ≤ ops.size → (acts k).tmps.size = (acts 0).tmps.size ∧ (acts k).defers = (acts 0).defers
  | 0, _ => ⟨rfl, rfl⟩
  | k + 1, hk => by
    obtain ⟨v, hv⟩ := h.put k _ (Array.getElem?_eq_getElem (by omega : k < ops.size))
    have ih := h.size k (by omega)
    rw [hv, put_size, put_defers']
    exact ih

/-- A slot that none of the operations from k to m writes holds what it held. -/
theorem Seq.keeps (h : Seq P ops I acts) {s : Tmp} (k : Nat) : ∀ m, k ≤ m → m ≤ ops.size → (∀ j oj, k ≤ j → j < m → ops[j]? = some oj → oj.dst ≠ some s) → (acts m).tmps[s]? = (acts k).tmps[s]?
  | 0, hm, _, _ => by have : k = 0 := by omega
                      subst this; rfl
  | m + 1, hm, hs, hw => by
    rcases Nat.lt_or_ge m k with hlt | hge
    · have : k = m + 1 := by omega
      subst this; rfl
    · have hmm : m < ops.size := by omega
      have hom := Array.getElem?_eq_getElem hmm
      obtain ⟨v, hv⟩ := h.put m _ hom
      have ih := h.keeps k m hge (by omega) (fun j oj h1 h2 h3 => hw j oj h1 (by omega) h3)
      rw [hv, ← ih]
      have hne := hw m _ hge (by omega) hom
      cases hd : ops[m].dst with
      | none => rfl
      | some d =>
        rw [put_get, if_neg (fun e => hne (by rw [hd, e]))]

structure Inv (ops : Array Oper) (acts : Nat → Act) (listed : Array Bool) (a : Act) : Prop where
  size : listed.size = ops.size
  closed : ∀ j oj, ops[j]? = some oj → listed.getD j false = true → ∀ e ∈ oj.after, Region.binds .any e = true → listed.getD e.on false = true
  tsize : a.tmps.size = (acts 0).tmps.size
  defers : a.defers = (acts 0).defers
  done : ∀ j oj s, ops[j]? = some oj → oj.dst = some s → listed.getD j false = true → a.tmps[s]? = (acts (j + 1)).tmps[s]?
  rest : ∀ s, (∀ j oj, ops[j]? = some oj → listed.getD j false = true → oj.dst ≠ some s) → a.tmps[s]? = (acts 0).tmps[s]?

theorem waits_spec {i j : Nat} {oi : Oper} (hi : ops[i]? = some oi) (h : Region.waitsFor .any ops i j = true) : ∃ e ∈ oi.after, Region.binds .any e = true ∧ e.on = j := by
  obtain ⟨o', ho', e, he, hb, hon⟩ := Region.waitsFor_spec h
  rw [hi] at ho'
  obtain rfl := Option.some.inj ho'
  exact ⟨e, he, hb, hon⟩

/-- What an operation that is ready looks at is as it was in the text's order. -/
theorem agree (hok : Ok ops) (hseq : Seq P ops I acts) {listed : Array Bool} {a : Act} (inv : Inv ops acts listed a) {i : Nat} {oi : Oper} (hi : ops[i]? = some oi) (hun : listed.getD i false = false)
    (hrd : ∀ e ∈ oi.after, Region.binds .any e = true → listed.getD e.on false = true) {s : Tmp} (hs : s ∈ oi.looksAt ops) : a.tmps[s]? = (acts i).tmps[s]? := by
  have hil := (Array.getElem?_eq_some_iff.1 hi).1
  by_cases hw : ∃ (j : Nat) (oj : Oper), ops[j]? = some oj ∧ oj.dst = some s
  · obtain ⟨j, oj, hj, hd⟩ := hw
    have hjl := (Array.getElem?_eq_some_iff.1 hj).1
    rcases hok.reads i oi j oj s hi hj hd hs with ⟨hlt, hwt⟩ | ⟨hlt, hwt⟩
    · obtain ⟨e, he, hb, hon⟩ := waits_spec hi hwt
      have hl := hrd e he hb
      rw [hon] at hl
      rw [inv.done j oj s hj hd hl]
      exact (hseq.keeps (j + 1) i (by omega) (by omega) (fun k ok h1 h2 hk hdk => by have := hok.one k ok j oj s hk hj hdk hd; omega)).symm
    · have hjun : listed.getD j false = false := by
        cases hc : listed.getD j false with
        | false => rfl
        | true =>
          obtain ⟨e, he, hb, hon⟩ := waits_spec hj hwt
          have := inv.closed j oj hj hc e he hb
          rw [hon, hun] at this
          cases this
      rw [inv.rest s (fun k ok hk hl hdk => by
        have := hok.one k ok j oj s hk hj hdk hd
        subst this
        rw [hjun] at hl
        cases hl)]
      exact (hseq.keeps 0 i (by omega) (by omega) (fun k ok h1 h2 hk hdk => by have := hok.one k ok j oj s hk hj hdk hd; omega)).symm
  · have hno : ∀ (j : Nat) (oj : Oper), ops[j]? = some oj → oj.dst ≠ some s := fun j oj hj hd => hw ⟨j, oj, hj, hd⟩
    rw [inv.rest s (fun j oj hj _ => hno j oj hj)]
    exact (hseq.keeps 0 i (by omega) (by omega) (fun k ok _ _ hk => hno k ok hk)).symm

theorem inv_next (hok : Ok ops) (hseq : Seq P ops I acts) {listed : Array Bool} {a : Act} (inv : Inv ops acts listed a) {i : Nat} {oi : Oper} (hi : ops[i]? = some oi)
    (hrd : ∀ e ∈ oi.after, Region.binds .any e = true → listed.getD e.on false = true) {v : Value} (hv : acts (i + 1) = (acts i).put oi.dst v) : Inv ops acts (listed.setIfInBounds i true) (a.put oi.dst v) := by
  have hil := (Array.getElem?_eq_some_iff.1 hi).1
  have hset : (listed.setIfInBounds i true).getD i false = true := by simp [inv.size, hil]
  have hsz := hseq.size i (by omega)
  refine ⟨by simp [inv.size], fun j oj hj hl e he hb => ?_, by rw [put_size]; exact inv.tsize, by rw [put_defers']; exact inv.defers, fun j oj s hj hd hl => ?_, fun s hs => ?_⟩
  · by_cases hij : i = j
    · subst hij
      rw [hi] at hj
      obtain rfl := Option.some.inj hj
      exact getD_set_true (hrd e he hb)
    · rw [getD_set_ne false hij] at hl
      exact getD_set_true (inv.closed j oj hj hl e he hb)
  · by_cases hij : i = j
    · subst hij
      rw [hi] at hj
      obtain rfl := Option.some.inj hj
      rw [hv, hd, put_get, put_get, if_pos rfl, if_pos rfl, hsz.1, inv.tsize]
    · rw [getD_set_ne false hij] at hl
      rw [← inv.done j oj s hj hd hl]
      cases hdi : oi.dst with
      | none => rfl
      | some d =>
        rw [put_get, if_neg]
        intro e
        subst e
        exact hij (hok.one i oi j oj d hi hj hdi hd)
  · have hne : oi.dst ≠ some s := hs i oi hi hset
    have h2 : a.tmps[s]? = (acts 0).tmps[s]? := inv.rest s (fun j oj hj hl => hs j oj hj (getD_set_true hl))
    rw [← h2]
    cases hdi : oi.dst with
    | none => rfl
    | some d => rw [put_get, if_neg (fun e => hne (by rw [hdi, e]))]

theorem eval_of_agree {oi : Oper} {a b : Act} (hs : ∀ cs x, oi.op ≠ .select cs x) (h : ∀ s, s ∈ oi.looksAt ops → a.tmps[s]? = b.tmps[s]?) :
    execOp a.eval oi = execOp b.eval oi ∧ Region.wanted oi (yielded ops a.tmps) = Region.wanted oi (yielded ops b.tmps) := by
  refine ⟨execOp_congr oi hs fun x hx => ?_, ?_⟩
  · cases x with
    | tmp t =>
      have := h t (List.mem_append_left _ (List.mem_filterMap.2 ⟨.tmp t, by simpa using hx, rfl⟩))
      simp only [Act.eval, Array.getD_eq_getD_getElem?, this]
    | _ => rfl
  · unfold Region.wanted
    cases hg : oi.guard with
    | none => rfl
    | some g =>
      obtain ⟨j, want⟩ := g
      have hy : yielded ops a.tmps j = yielded ops b.tmps j := by
        unfold yielded
        cases hd : (ops[j]?).bind (·.dst) with
        | none => rfl
        | some d =>
          have := h d (List.mem_append_right _ (by rw [hg]; simp [hd]))
          simp only [Option.bind_some, this]
      simp only [hy]

/-- One operation, whichever comes up. -/
theorem wpOp_of (hok : Ok ops) (hseq : Seq P ops I acts) {listed : Array Bool} {a : Act} {w : World} (inv : Inv ops acts listed a) (hI : I w) {Q : Exit → Act → World → Prop} {i : Nat} (hr : i ∈ Region.ready .any ops listed)
    {K : Act → World → Prop} (hK : ∀ a' w', Inv ops acts (listed.setIfInBounds i true) a' → I w' → K a' w') : wpOp P ops Q i K a w := by
  obtain ⟨hun, oi, hi, hrd⟩ := mem_ready.1 hr
  have hun' := getD_both hun
  obtain ⟨he, hwd⟩ := eval_of_agree (hok.sel i oi · · hi) (fun s hs => agree hok hseq inv hi hun' hrd hs)
  unfold Go.wpOp
  simp only [hi]
  have next : ∀ v w', (acts i).put oi.dst v = acts (i + 1) → I w' → K (a.put oi.dst v) w' := fun v w' hv hI' => hK _ _ (inv_next hok hseq inv hi hrd hv.symm) hI'
  rw [hwd]
  rcases hseq.step i oi hi with ⟨hnw, hput⟩ | ⟨hw, hdf, hst⟩
  · rw [if_neg (by rw [hnw]; simp)]
    exact next _ _ hput.symm hI
  · rw [if_pos hw]
    refine .inl ?_
    have h := hst w hI
    unfold Oper.wp at h ⊢
    rw [he]
    generalize (execOp (acts i).eval oi).run P w = r at h
    cases r with
    | ok n w' =>
      cases n with
      | value v => exact next v w' h.1 h.2
      | skip => exact next undef w' h.1 h.2
      | defer d =>
        exfalso
        have := h.1
        rw [← this, put_defers'] at hdf
        exact absurd (congrArg List.length hdf) (by simp)
      | enter f args =>
        refine Calls.mono h fun e w'' r => ?_
        cases e with
        | returned v => exact next v w'' r.1 r.2
        | panicked c => exact r.elim
        | outgrown => obtain ⟨_, _, h⟩ := r; exact h.elim
      | row row args => exact Rows.mono h fun v w'' r => next v w'' r.1 r.2
      | _ => exact h.elim
    | halt x w' => cases x <;> exact h.elim

theorem all_listed (hok : Ok ops) {listed : Array Bool} (hr : Region.ready .any ops listed = []) (hsz : listed.size = ops.size) : ∀ n i, i < n → i < ops.size → listed.getD i false = true
  | 0, i, h, _ => absurd h (by omega)
  | n + 1, i, h, hi => by
    rcases Nat.lt_or_ge i n with hlt | hge
    · exact all_listed hok hr hsz n i hlt hi
    · cases hc : listed.getD i false with
      | true => rfl
      | false =>
        exfalso
        have hoi := Array.getElem?_eq_getElem hi
        have hmem : i ∈ Region.ready .any ops listed := mem_ready.2 ⟨getD_in (by omega) hc, _, hoi, fun e he hb => by
          have := hok.back i _ hoi e he hb
          exact all_listed hok hr hsz n e.on (by omega) (by omega)⟩
        rw [hr] at hmem
        cases hmem

theorem final (hok : Ok ops) (hseq : Seq P ops I acts) {listed : Array Bool} {a : Act} (inv : Inv ops acts listed a) (hr : Region.ready .any ops listed = []) : a = acts ops.size := by
  have hall := fun i hi => all_listed hok hr inv.size ops.size i hi hi
  have ht : a.tmps = (acts ops.size).tmps := by
    apply Array.ext_getElem?
    intro s
    by_cases hw : ∃ (j : Nat) (oj : Oper), ops[j]? = some oj ∧ oj.dst = some s
    · obtain ⟨j, oj, hj, hd⟩ := hw
      have hjl := (Array.getElem?_eq_some_iff.1 hj).1
      rw [inv.done j oj s hj hd (hall j hjl)]
      exact (hseq.keeps (j + 1) ops.size (by omega) (Nat.le_refl _) (fun k ok h1 h2 hk hdk => by have := hok.one k ok j oj s hk hj hdk hd; omega)).symm
    · have hno : ∀ (j : Nat) (oj : Oper), ops[j]? = some oj → oj.dst ≠ some s := fun j oj hj hd => hw ⟨j, oj, hj, hd⟩
      rw [inv.rest s (fun j oj hj _ => hno j oj hj)]
      exact (hseq.keeps 0 ops.size (by omega) (Nat.le_refl _) (fun k ok _ _ hk => hno k ok hk)).symm
  have hd : a.defers = (acts ops.size).defers := by rw [inv.defers, (hseq.size ops.size (Nat.le_refl _)).2]
  cases a
  cases h : acts ops.size
  rw [h] at ht hd
  simp only at ht hd
  subst ht hd
  rfl

theorem range_split (n i : Nat) (h : i < n) : List.range n = List.range i ++ i :: (List.range' (i + 1) (n - (i + 1))) := by
  obtain ⟨m, rfl⟩ : ∃ m, n = i + (m + 1) := ⟨n - (i + 1), by omega⟩
  rw [show i + (m + 1) - (i + 1) = m from by omega, List.range_eq_range', List.range_eq_range', ← List.range'_append_1, List.range'_succ]
  simp

theorem wpAny_of (hok : Ok ops) (hseq : Seq P ops I acts) {Q : Exit → Act → World → Prop} (hQ : ∀ w, I w → Q .normal (acts ops.size) w) :
    ∀ (fuel : Nat) (listed : Array Bool) (a : Act) (w : World), Inv ops acts listed a → I w → (ops.size ≤ fuel + ((List.range ops.size).filter fun i => listed.getD i false).length) → wpAny P .any ops Q fuel listed a w
  | 0, listed, a, w, inv, hI, hf => by
    have hall : Region.ready .any ops listed = [] := by
      rw [List.eq_nil_iff_forall_not_mem]
      intro i hi
      obtain ⟨hun, oi, ho, _⟩ := mem_ready.1 hi
      have hil := (Array.getElem?_eq_some_iff.1 ho).1
      have hlen : ((List.range ops.size).filter fun i => listed.getD i false).length = (List.range ops.size).length := by
        have := List.length_filter_le (fun i => listed.getD i false) (List.range ops.size)
        rw [List.length_range] at this ⊢
        omega
      have := List.length_filter_eq_length_iff.1 hlen i (List.mem_range.2 hil)
      rw [getD_both hun] at this
      cases this
    exact ⟨hall, by rw [final hok hseq inv hall]; exact hQ w hI⟩
  | fuel + 1, listed, a, w, inv, hI, hf => by
    refine ⟨fun hr => by rw [final hok hseq inv hr]; exact hQ w hI, fun i hi => wpOp_of hok hseq inv hI hi fun a' w' inv' hI' => wpAny_of hok hseq hQ fuel _ a' w' inv' hI' ?_⟩
    obtain ⟨hun, oi, ho, _⟩ := mem_ready.1 hi
    have hil := (Array.getElem?_eq_some_iff.1 ho).1
    have hlt : ((List.range ops.size).filter fun i => listed.getD i false).length < ((List.range ops.size).filter fun j => (listed.setIfInBounds i true).getD j false).length := by
      rw [← List.countP_eq_length_filter, ← List.countP_eq_length_filter]
      have hsplit := range_split ops.size i hil
      rw [hsplit, List.countP_append, List.countP_append, List.countP_cons, List.countP_cons]
      have h1 : List.countP (fun i => listed.getD i false) (List.range i) ≤ List.countP (fun j => (listed.setIfInBounds i true).getD j false) (List.range i) := List.countP_mono_left fun j _ h => getD_set_true h
      have h2 : List.countP (fun i => listed.getD i false) (List.range' (i + 1) (ops.size - (i + 1))) ≤ List.countP (fun j => (listed.setIfInBounds i true).getD j false) (List.range' (i + 1) (ops.size - (i + 1))) := List.countP_mono_left fun j _ h => getD_set_true h
      have h3 : (listed.setIfInBounds i true).getD i false = true := by simp [inv.size, hil]
      rw [h3, getD_both hun]
      simp
      simp at h1 h2
      omega
    omega

/-- THE LAW: the region is walked once, in the order of its text. -/
theorem region {id : Nat} {l : List Oper} {a : Act} {w : World} {Q : Exit → Act → World → Prop} (I : World → Prop) (hm : P.follows .mixedOrders = true) (hok : ok l.toArray = true)
    (hI : I { w with drawn := w.drawn + 1 }) (h : walk P l.toArray I (fun a' => ∀ w', I w' → Q .normal a' w') l a) : (Code.region id l.toArray true).wp P Q a w := by
  obtain ⟨acts, h0, hst, hQ⟩ := walk_acts l a h
  have hseq : Seq P l.toArray I acts := ⟨fun i o hi => hst i o (by simpa using hi), fun i o hi => (hst i o (by simpa using hi)).put hI⟩
  have hsz : l.toArray.size = l.length := by simp
  refine wp_region_any hm (wpAny_of (ok_spec hok) hseq (by rw [hsz]; exact hQ) _ _ a _ ⟨by simp, fun j oj _ hl => (by rw [getD_replicate_false] at hl; cases hl), by rw [h0], by rw [h0], fun j oj s _ _ hl => (by rw [getD_replicate_false] at hl; cases hl), fun s _ => by rw [h0]⟩ hI (by omega))

theorem walk_nil {Q : Act → Prop} {a : Act} (h : Q a) : walk P ops I Q [] a := h
theorem walk_no {Q : Act → Prop} {a : Act} {o : Oper} {rest : List Oper} (hw : Region.wanted o (yielded ops a.tmps) = false) (h : walk P ops I Q rest (a.put o.dst undef)) : walk P ops I Q (o :: rest) a :=
  ⟨_, .inl ⟨hw, rfl⟩, h⟩
theorem walk_yes {Q : Act → Prop} {a a1 : Act} {o : Oper} {rest : List Oper} (hw : Region.wanted o (yielded ops a.tmps) = true)
    (hs : ∀ wx, I wx → ∀ K : Act → World → Prop, (∀ w', I w' → K a1 w') → o.wp P a wx K NoEnd) (hd : a1.defers = a.defers) (h : walk P ops I Q rest a1) : walk P ops I Q (o :: rest) a :=
  ⟨a1, .inr ⟨hw, hd, fun wx hI => hs wx hI _ (fun _ h' => ⟨rfl, h'⟩)⟩, h⟩
end
end Bag
end

section
open Go.RowKit

/-- The two bytes of a sum. -/
def two (n : Nat) : List UInt8 := [UInt8.ofNat (n / 256), UInt8.ofNat (n % 256)]
def endL (l : List UInt8) : List UInt8 := two (sum16 l)

theorem app_bl (s : ByteArray) (l : List UInt8) : s ++ (⟨l.toArray⟩ : ByteArray) = ⟨(bl s ++ l).toArray⟩ := by
  obtain ⟨⟨d⟩⟩ := s
  rw [ByteArray.mk_append_mk]
theorem two_len (n : Nat) : (two n).length = 2 := rfl
theorem bytes_u (l : List UInt8) : bl ⟨l.toArray⟩ = l := rfl

theorem conv2 (w : World) (n : Nat) (hn : n < 65536) :
    (convert 22 9 (.slice (some ⟨w.heap.size, 0, none⟩) 2 2)).run Try.prog (w.alloc (.cells #[.int .u8 ((n : Int) / 256), .int .u8 ((n : Int) % 256)] 5)) =
      .ok (.string ⟨(two n).toArray⟩) (w.alloc (.cells #[.int .u8 ((n : Int) / 256), .int .u8 ((n : Int) % 256)] 5)) := by
  refine run_convert_bytes_back _ _ _ 5 _ 2 (two n) (by kernel_rfl) (by kernel_rfl) (by kernel_rfl) ?_
  intro j hj
  have hj' : j < 2 := hj
  have ha : (Addr.add ⟨w.heap.size, 0, none⟩ j) = ⟨w.heap.size, j, none⟩ := by unfold Addr.add; split <;> simp_all
  rw [ha, cell_of_row _ _ _ _ _ (0, 0) (heap_alloc_new w _)]
  have e0 : ((two n)[0]'(by rw [two_len]; omega)).toNat = n / 256 := by simp [two]; omega
  have e1 : ((two n)[1]'(by rw [two_len]; omega)).toNat = n % 256 := by simp [two]
  have h01 : j = 0 ∨ j = 1 := by omega
  rcases h01 with rfl | rfl
  · rw [e0]; exact congrArg some (congrArg (Value.int .u8) (by omega))
  · rw [e1]; exact congrArg some (congrArg (Value.int .u8) (by omega))

/-- A sealed string. -/
def sealL (l : List UInt8) : List UInt8 := l ++ endL l
theorem sealL_length (l : List UInt8) : (sealL l).length = l.length + 2 := by simp [sealL, endL, two_len]

/-- What Open gives: the string and the error's number. -/
def openOk (l : List UInt8) : Bool := decide (2 ≤ l.length ∧ l.drop (l.length - 2) = endL (l.take (l.length - 2)))
def openS (l : List UInt8) : List UInt8 := if openOk l then l.take (l.length - 2) else []
def openE (l : List UInt8) : Int := if l.length < 2 then 4 else if openOk l then 0 else 5

theorem openOk_at {l : List UInt8} (h : 2 ≤ l.length) : openOk l = (l.drop (l.length - 2) == endL (l.take (l.length - 2))) := by
  unfold openOk
  rw [Bool.eq_iff_iff]
  simp [h]
theorem openOk_small {l : List UInt8} (h : l.length < 2) : openOk l = false := by unfold openOk; simp; omega

theorem bl_take (s : ByteArray) (c : Nat) : bl (s.extract 0 c) = (bl s).take c := by
  show (s.extract 0 c).data.toList = s.data.toList.take c
  rw [ByteArray.data_extract, Array.toList_extract, List.extract_eq_take_drop]
  rfl
theorem bl_drop (s : ByteArray) (c : Nat) : (s.extract c s.size).toList = (bl s).drop c := by
  rw [ByteArray.toList_eq]
  show (s.extract c s.size).data.toList = s.data.toList.drop c
  rw [ByteArray.data_extract, Array.toList_extract, List.extract_eq_take_drop]
  exact List.take_of_length_le (by rw [List.length_drop]; exact Nat.le_refl _)
theorem bl_len (s : ByteArray) : (bl s).length = s.size := Array.length_toList
theorem bl_mk (s : ByteArray) : (⟨(bl s).toArray⟩ : ByteArray) = s := by obtain ⟨⟨d⟩⟩ := s; rfl
theorem ret_open {a a' : ByteArray} {b b' : Int} (h : a = a') (k : b = b') : Ending.returned (.tuple #[.string a, .int .i64 b]) = .returned (.tuple #[.string a', .int .i64 b']) := by rw [h, k]

end

section
open Go.RowKit

theorem ba_ext {a b : ByteArray} (h : a.data.toList = b.data.toList) : a = b := by
  obtain ⟨⟨x⟩⟩ := a
  obtain ⟨⟨y⟩⟩ := b
  simp only at h
  rw [h]
theorem ba_app (a b : ByteArray) : (a ++ b).data.toList = a.data.toList ++ b.data.toList := by
  rw [ByteArray.data_append, Array.toList_append]
theorem ba_cut (a : ByteArray) (i j : Nat) : (a.extract i j).data.toList = (a.data.toList.drop i).take (j - i) := by
  rw [ByteArray.data_extract, Array.toList_extract, List.extract_eq_take_drop]
theorem ba_len (a : ByteArray) : a.data.toList.length = a.size := Array.length_toList
theorem ba_size (a b : ByteArray) : (a ++ b).size = a.size + b.size := by
  rw [← ba_len, ba_app, List.length_append, ba_len, ba_len]
theorem ba_csize (a : ByteArray) (i j : Nat) : (a.extract i j).size = min (j - i) (a.size - i) := by
  rw [← ba_len, ba_cut, List.length_take, List.length_drop, ba_len]
theorem ba_take_len (a : ByteArray) {n : Nat} (h : n ≤ a.size) : (a.extract 0 n).size = n := by rw [ba_csize]; omega
theorem ba_all (a : ByteArray) : a.extract 0 a.size = a := by
  apply ba_ext
  rw [ba_cut, List.drop_zero, List.take_of_length_le]
  rw [ba_len]; omega
theorem ba_none (a : ByteArray) (b : ByteArray) : a ++ b.extract 0 0 = a := by
  apply ba_ext
  rw [ba_app, ba_cut]
  simp
theorem ba_nil (a : ByteArray) : a ++ (⟨#[]⟩ : ByteArray) = a := by
  apply ba_ext
  rw [ba_app]
  simp
theorem ba_step (a d : ByteArray) (i : Nat) : (a ++ d.extract 0 i) ++ d.extract i (i + 1) = a ++ d.extract 0 (i + 1) := by
  apply ba_ext
  rw [ba_app, ba_app, ba_app, ba_cut, ba_cut, ba_cut, List.append_assoc]
  simp only [List.drop_zero, Nat.sub_zero, Nat.add_sub_cancel_left]
  rw [List.take_add]
theorem ba_split (a d : ByteArray) {k n : Nat} (h : k ≤ n) : (a ++ d.extract 0 k) ++ d.extract k n = a ++ d.extract 0 n := by
  apply ba_ext
  rw [ba_app, ba_app, ba_app, ba_cut, ba_cut, ba_cut, List.append_assoc]
  simp only [List.drop_zero, Nat.sub_zero]
  obtain ⟨m, rfl⟩ : ∃ m, n = k + m := ⟨n - k, by omega⟩
  rw [List.take_add, Nat.add_sub_cancel_left]
theorem ba_cut_cut (d : ByteArray) (i j k : Nat) (h : i + k ≤ j) : (d.extract i j).extract 0 k = d.extract i (i + k) := by
  apply ba_ext
  rw [ba_cut, ba_cut, ba_cut]
  simp only [List.drop_zero, Nat.sub_zero, Nat.add_sub_cancel_left]
  rw [List.take_take]
  congr 1
  omega

/-- A store: its halves and the number of the one that counts. -/
structure St where
  a : ByteArray
  b : ByteArray
  sel : Int
namespace St
def zero : St := ⟨⟨#[]⟩, ⟨#[]⟩, 0⟩
def agg (s : St) : Value := .agg #[.string s.a, .string s.b, .int .i64 s.sel]
def row (s : St) : Array Value := #[.string s.a, .string s.b, .int .i64 s.sel]
/-- A half: 1 is the second, all else the first. -/
def get (s : St) (h : Int) : ByteArray := if h = 1 then s.b else s.a
def put (s : St) (h : Int) (x : ByteArray) : St := if h = 1 then ⟨s.a, x, s.sel⟩ else ⟨x, s.b, s.sel⟩
def cur (s : St) : ByteArray := if s.sel = 1 then s.b else s.a
def isB (room : Int) (s : St) : Bool := decide (1 ≤ room ∧ room ≤ 65536 ∧ (s.a.size : Int) ≤ room ∧ (s.b.size : Int) ≤ room ∧ (s.sel = 0 ∨ s.sel = 1))
/-- The first of the common errors. -/
def chk (room : Int) (s : St) (h bud : Int) : Int := if isB room s = false then 1 else if ¬ (h = 0 ∨ h = 1) ∨ bud < 0 then 2 else 0
/-- What a call hands back. -/
def writeF (room : Int) (s : St) (h : Int) (d : ByteArray) (bud : Int) : St × Int × Int :=
  if chk room s h bud = 0 then
    if room < (s.get h).size + d.size then (zero, 0, 7)
    else if bud < d.size then (s.put h (s.get h ++ d.extract 0 bud.toNat), 0, 8)
    else (s.put h (s.get h ++ d), bud - d.size, 0)
  else (zero, 0, chk room s h bud)
def eraseF (room : Int) (s : St) (h : Int) (bud : Int) : St × Int × Int :=
  if chk room s h bud = 0 then if bud = 0 then (s, 0, 8) else (s.put h ⟨#[]⟩, bud - 1, 0) else (zero, 0, chk room s h bud)
def chooseF (room : Int) (s : St) (h : Int) (bud : Int) : St × Int × Int :=
  if chk room s h bud = 0 then if bud = 0 then (s, 0, 8) else (⟨s.a, s.b, h⟩, bud - 1, 0) else (zero, 0, chk room s h bud)
/-- The three results. -/
def ans (x : St × Int × Int) : Value := .tuple #[x.1.agg, .int .i64 x.2.1, .int .i64 x.2.2]

theorem chk_zero {room : Int} {s : St} {h bud : Int} (e : chk room s h bud = 0) : isB room s = true ∧ (h = 0 ∨ h = 1) ∧ 0 ≤ bud := by
  unfold chk at e
  split at e
  · omega
  · rename_i hb
    split at e
    · omega
    · rename_i hc
      refine ⟨by simpa using hb, ?_, ?_⟩ <;> omega
theorem isB_of {room : Int} {s : St} (e : isB room s = true) : 1 ≤ room ∧ room ≤ 65536 ∧ (s.a.size : Int) ≤ room ∧ (s.b.size : Int) ≤ room ∧ (s.sel = 0 ∨ s.sel = 1) := by
  simpa [isB] using e
theorem get_size {room : Int} {s : St} (e : isB room s = true) (h : Int) : ((s.get h).size : Int) ≤ room := by
  have := isB_of e
  unfold get
  split <;> omega
end St
theorem ret_st {x y : St × Int × Int} (h : x = y) : Ending.returned (St.ans x) = .returned (St.ans y) := by rw [h]
theorem ret_b {a b : ByteArray} (h : a = b) : Ending.returned (.string a) = .returned (.string b) := by rw [h]
theorem ret_i {a b : Int} (h : a = b) : Ending.returned (.int .i64 a) = .returned (.int .i64 b) := by rw [h]
end

section
open Go.RowKit

/-- A set of calls: the bits of its calls up and down. -/
structure Cs where
  up : Nat
  dn : Nat
/-- An entry. -/
structure En where
  f : Int
  d : Int
  car : Int
  mv : Int
  md : Bool
def En.cells (e : En) : List Value := [.int .i64 e.f, .int .i64 e.d, .int .i64 e.car, .int .i64 e.mv, .bool e.md]
namespace Cs
def empty : Cs := ⟨0, 0⟩
def ok (c : Cs) : Prop := c.up < 4294967296 ∧ c.dn < 4294967296
def agg (c : Cs) : Value := .agg #[.int .u32 c.up, .int .u32 c.dn]
def union (a b : Cs) : Cs := ⟨a.up ||| b.up, a.dn ||| b.dn⟩
def both (a b : Cs) : Cs := ⟨a.up &&& b.up, a.dn &&& b.dn⟩
def minus (a b : Cs) : Cs := ⟨a.up &&& (4294967295 - b.up), a.dn &&& (4294967295 - b.dn)⟩
def bitAt (f : Int) : Nat := if 0 ≤ f ∧ f < 32 then 2 ^ f.toNat else 0
def low (f : Int) : Nat := 2 ^ (min (max f 0) 32).toNat - 1
def one (f d : Int) : Cs := if d = 1 then ⟨bitAt f, 0⟩ else if d = 2 then ⟨0, bitAt f⟩ else empty
def eqB (a b : Cs) : Bool := a.up == b.up && a.dn == b.dn
def has (c : Cs) (f d : Int) : Bool := !(eqB (both c (one f d)) empty)
def above (c : Cs) (f : Int) : Cs := minus c ⟨bitAt f ||| low f, bitAt f ||| low f⟩
def below (c : Cs) (f : Int) : Cs := both c ⟨low f, low f⟩

theorem eqB_iff {a b : Cs} : eqB a b = true ↔ a = b := by
  obtain ⟨a1, a2⟩ := a
  obtain ⟨b1, b2⟩ := b
  simp [eqB]
theorem eqB_self (a : Cs) : eqB a a = true := eqB_iff.2 rfl
theorem nat_ext {x y : Nat} (hx : x < 4294967296) (hy : y < 4294967296) (h : ∀ k, k < 32 → x.testBit k = y.testBit k) : x = y := by
  apply Nat.eq_of_testBit_eq
  intro k
  by_cases hk : k < 32
  · exact h k hk
  · have hp : 4294967296 ≤ 2 ^ k := by
      have := Nat.pow_le_pow_right (n := 2) (by decide) (show 32 ≤ k by omega)
      exact this
    rw [Nat.testBit_lt_two_pow (by omega), Nat.testBit_lt_two_pow (by omega)]
theorem ext32 {a b : Cs} (ha : a.ok) (hb : b.ok) (h : ∀ k, k < 32 → a.up.testBit k = b.up.testBit k ∧ a.dn.testBit k = b.dn.testBit k) : a = b := by
  obtain ⟨a1, a2⟩ := a
  obtain ⟨b1, b2⟩ := b
  have e1 : a1 = b1 := nat_ext ha.1 hb.1 fun k hk => (h k hk).1
  have e2 : a2 = b2 := nat_ext ha.2 hb.2 fun k hk => (h k hk).2
  rw [e1, e2]
theorem pow_lt {k : Nat} (h : k < 32) : 2 ^ k < 4294967296 := Nat.pow_lt_pow_right (by decide) (show k < 32 from h)
theorem or_lt {x y : Nat} (hx : x < 4294967296) (hy : y < 4294967296) : x ||| y < 4294967296 := Nat.or_lt_two_pow (n := 32) hx hy
theorem and_lt {x y : Nat} (hx : x < 4294967296) : x &&& y < 4294967296 := Nat.lt_of_le_of_lt Nat.and_le_left hx
theorem empty_ok : empty.ok := by constructor <;> show (0 : Nat) < 4294967296 <;> decide
theorem union_ok {a b : Cs} (ha : a.ok) (hb : b.ok) : (union a b).ok := ⟨or_lt ha.1 hb.1, or_lt ha.2 hb.2⟩
theorem both_ok {a b : Cs} (ha : a.ok) : (both a b).ok := ⟨and_lt ha.1, and_lt ha.2⟩
theorem minus_ok {a b : Cs} (ha : a.ok) : (minus a b).ok := ⟨and_lt ha.1, and_lt ha.2⟩
theorem bitAt_lt (f : Int) : bitAt f < 4294967296 := by
  unfold bitAt
  split
  · exact pow_lt (by omega)
  · decide
theorem low_lt (f : Int) : low f < 4294967296 := by
  unfold low
  have h : (min (max f 0) 32).toNat ≤ 32 := by omega
  have := Nat.pow_le_pow_right (n := 2) (by decide) h
  have e : (2 : Nat) ^ 32 = 4294967296 := rfl
  rw [e] at this
  omega
theorem one_ok (f d : Int) : (one f d).ok := by
  unfold one
  split
  · exact ⟨bitAt_lt f, by show (0 : Nat) < 4294967296; decide⟩
  · split
    · exact ⟨by show (0 : Nat) < 4294967296; decide, bitAt_lt f⟩
    · exact empty_ok
theorem above_ok {c : Cs} (h : c.ok) (f : Int) : (above c f).ok := minus_ok h
theorem below_ok {c : Cs} (h : c.ok) (f : Int) : (below c f).ok := both_ok h

theorem bit_or (x y k : Nat) : (x ||| y).testBit k = (x.testBit k || y.testBit k) := Nat.testBit_or x y k
theorem bit_and (x y k : Nat) : (x &&& y).testBit k = (x.testBit k && y.testBit k) := Nat.testBit_and x y k
theorem bit_not {y k : Nat} (hy : y < 4294967296) (hk : k < 32) : (4294967295 - y).testBit k = !y.testBit k := by
  have h := Nat.testBit_two_pow_sub_succ (n := 32) (x := y) hy k
  rw [show 2 ^ 32 - (y + 1) = 4294967295 - y from by omega] at h
  rw [h, decide_eq_true hk, Bool.true_and]
theorem bit_pow (j k : Nat) : (2 ^ j).testBit k = decide (j = k) := Nat.testBit_two_pow
theorem bit_bitAt (f : Int) {k : Nat} (hk : k < 32) : (bitAt f).testBit k = decide (f = (k : Int)) := by
  unfold bitAt
  split
  · rw [bit_pow]; exact decide_eq_decide.2 (by omega)
  · rw [Nat.zero_testBit]; symm; exact decide_eq_false (by omega)
theorem bit_low (f : Int) {k : Nat} (hk : k < 32) : (low f).testBit k = decide ((k : Int) < f) := by
  unfold low
  rw [Nat.testBit_two_pow_sub_one]
  exact decide_eq_decide.2 (by omega)
theorem bit_minus {x y k : Nat} (hy : y < 4294967296) (hk : k < 32) : (x &&& (4294967295 - y)).testBit k = (x.testBit k && !y.testBit k) := by rw [bit_and, bit_not hy hk]
theorem mask_lt (f : Int) : bitAt f ||| low f < 4294967296 := or_lt (bitAt_lt f) (low_lt f)
theorem bit_mask (f : Int) {k : Nat} (hk : k < 32) : (bitAt f ||| low f).testBit k = decide ((k : Int) ≤ f) := by
  rw [bit_or, bit_bitAt f hk, bit_low f hk, ← Bool.decide_or]
  exact decide_eq_decide.2 (by omega)

/-- The calls at the floors below n that p picks. -/
def sel (c : Cs) (p : Nat → Bool) : Nat → Cs
  | 0 => empty
  | k + 1 => if p k then union (sel c p k) (both c ⟨2 ^ k, 2 ^ k⟩) else sel c p k
theorem sel_ok {c : Cs} (h : c.ok) (p : Nat → Bool) : ∀ n, (sel c p n).ok
  | 0 => empty_ok
  | n + 1 => by
    unfold sel
    split
    · exact union_ok (sel_ok h p n) (both_ok h)
    · exact sel_ok h p n
theorem sel_bit (c : Cs) (p : Nat → Bool) (j : Nat) : ∀ n, (sel c p n).up.testBit j = (decide (j < n) && p j && c.up.testBit j) ∧ (sel c p n).dn.testBit j = (decide (j < n) && p j && c.dn.testBit j)
  | 0 => by constructor <;> (show (0 : Nat).testBit j = _; simp)
  | n + 1 => by
    have ih := sel_bit c p j n
    unfold sel
    by_cases hp : p n = true
    · rw [if_pos hp]
      unfold union both
      simp only [bit_or, bit_and, bit_pow]
      rw [ih.1, ih.2]
      by_cases hj : n = j
      · subst hj; simp [hp]
      · have : decide (j < n + 1) = decide (j < n) := decide_eq_decide.2 (by omega)
        simp [hj, this]
    · rw [if_neg hp, ih.1, ih.2]
      by_cases hj : n = j
      · subst hj; simp [hp]
      · have : decide (j < n + 1) = decide (j < n) := decide_eq_decide.2 (by omega)
        rw [this]; exact ⟨rfl, rfl⟩
theorem above_sel {c : Cs} (h : c.ok) (f : Int) : sel c (fun k => decide (f < (k : Int))) 32 = above c f := by
  refine ext32 (sel_ok h _ _) (above_ok h f) fun k hk => ?_
  have hs := sel_bit c (fun k => decide (f < (k : Int))) k 32
  rw [hs.1, hs.2]
  unfold above minus
  simp only [bit_minus (mask_lt f) hk, bit_mask f hk, decide_eq_true hk, Bool.true_and]
  have : decide (f < (k : Int)) = !decide ((k : Int) ≤ f) := by rw [← decide_not]; exact decide_eq_decide.2 (by omega)
  rw [this, Bool.and_comm, Bool.and_comm (!_) (c.dn.testBit k)]
  exact ⟨rfl, rfl⟩
theorem below_sel {c : Cs} (h : c.ok) (f : Int) : sel c (fun k => decide ((k : Int) < f)) 32 = below c f := by
  refine ext32 (sel_ok h _ _) (below_ok h f) fun k hk => ?_
  have hs := sel_bit c (fun k => decide ((k : Int) < f)) k 32
  rw [hs.1, hs.2]
  unfold below both
  simp only [bit_and, bit_low f hk, decide_eq_true hk, Bool.true_and]
  rw [Bool.and_comm, Bool.and_comm _ (c.dn.testBit k)]
  exact ⟨rfl, rfl⟩

theorem has_one {x k : Nat} (hx : x < 4294967296) : (x &&& 2 ^ k == 0) = !x.testBit k := by
  rw [Bool.eq_iff_iff, beq_iff_eq, Bool.not_eq_true']
  constructor
  · intro h
    have := congrArg (fun z => Nat.testBit z k) h
    simpa [bit_and, bit_pow] using this
  · intro h
    refine nat_ext (and_lt hx) (by decide) fun j _ => ?_
    rw [bit_and, bit_pow, Nat.zero_testBit]
    by_cases hj : k = j
    · subst hj; rw [h]; rfl
    · rw [decide_eq_false hj, Bool.and_false]
theorem bitAt_nat {k : Nat} (hk : k < 32) : bitAt (k : Int) = 2 ^ k := by unfold bitAt; rw [if_pos (by omega), Int.toNat_natCast]
theorem has_up {c : Cs} (h : c.ok) {k : Nat} (hk : k < 32) : has c k 1 = c.up.testBit k := by
  unfold has one both eqB empty
  rw [if_pos rfl, bitAt_nat hk]
  show (!((c.up &&& 2 ^ k == 0) && (c.dn &&& 0 == 0))) = _
  rw [has_one h.1, Nat.and_zero]
  simp
theorem has_dn {c : Cs} (h : c.ok) {k : Nat} (hk : k < 32) : has c k 2 = c.dn.testBit k := by
  unfold has one both eqB empty
  rw [if_neg (by decide), if_pos rfl, bitAt_nat hk]
  show (!((c.up &&& 0 == 0) && (c.dn &&& 2 ^ k == 0))) = _
  rw [has_one h.2, Nat.and_zero]
  simp
theorem has_floor (c : Cs) {f : Int} (hf : ¬ (0 ≤ f ∧ f < 32)) (d : Int) : has c f d = false := by
  have : one f d = empty := by
    unfold one bitAt
    rw [if_neg hf]
    split
    · rfl
    · split <;> rfl
  unfold has
  rw [this]
  unfold both eqB empty
  simp
theorem has_dir (c : Cs) (f : Int) {d : Int} (h1 : d ≠ 1) (h2 : d ≠ 2) : has c f d = false := by
  unfold has one
  rw [if_neg h1, if_neg h2]
  unfold both eqB empty
  simp

/-- How many of the first n are true. -/
def cnt (p : Nat → Bool) : Nat → Nat
  | 0 => 0
  | n + 1 => cnt p n + (p n).toNat
theorem cnt_le (p : Nat → Bool) : ∀ n, cnt p n ≤ n
  | 0 => Nat.le_refl _
  | n + 1 => by
    have := cnt_le p n
    have h2 : (p n).toNat ≤ 1 := Bool.toNat_le _
    show cnt p n + _ ≤ _
    omega
theorem cnt3 {p q r s : Nat → Bool} : ∀ n, (∀ k, k < n → (p k).toNat + (q k).toNat + (r k).toNat = (s k).toNat) → cnt p n + cnt q n + cnt r n = cnt s n
  | 0, _ => rfl
  | n + 1, h => by
    have ih := cnt3 n (fun k hk => h k (by omega))
    have hn := h n (by omega)
    show cnt p n + _ + (cnt q n + _) + (cnt r n + _) = cnt s n + _
    omega
theorem cnt4 {p q r s : Nat → Bool} : ∀ n, (∀ k, k < n → (p k).toNat + (q k).toNat = (r k).toNat + (s k).toNat) → cnt p n + cnt q n = cnt r n + cnt s n
  | 0, _ => rfl
  | n + 1, h => by
    have ih := cnt4 n (fun k hk => h k (by omega))
    have hn := h n (by omega)
    show cnt p n + _ + (cnt q n + _) = cnt r n + _ + (cnt s n + _)
    omega
theorem ones_cnt : ∀ b : Fin 256, Go.Lib.onesCount b.val = cnt b.val.testBit 8 := by decide +kernel
def pop (x : Nat) : Nat := Go.Lib.onesCount (x / 16777216) + Go.Lib.onesCount (x / 65536 % 256) + Go.Lib.onesCount (x / 256 % 256) + Go.Lib.onesCount (x % 256)
theorem pop_le {x : Nat} (hx : x < 4294967296) : Go.Lib.onesCount (x / 16777216) ≤ 8 ∧ Go.Lib.onesCount (x / 65536 % 256) ≤ 8 ∧ Go.Lib.onesCount (x / 256 % 256) ≤ 8 ∧ Go.Lib.onesCount (x % 256) ≤ 8 := by
  have h := fun b hb => (ones_cnt ⟨b, hb⟩).symm ▸ cnt_le (Nat.testBit b) 8
  exact ⟨h _ (by omega), h _ (by omega), h _ (by omega), h _ (by omega)⟩
theorem pop_cnt {x : Nat} (hx : x < 4294967296) : pop x = cnt x.testBit 32 := by
  have e1 : ∀ j, (x / 16777216).testBit j = x.testBit (24 + j) := fun j => by
    have h : (x / 2 ^ 24).testBit j = x.testBit (j + 24) := Nat.testBit_div_two_pow x j
    rw [Nat.add_comm]; exact h
  have e2 : ∀ j, j < 8 → (x / 65536 % 256).testBit j = x.testBit (16 + j) := fun j hj => by
    have := Nat.testBit_mod_two_pow (x / 65536) 8 j
    rw [show (2 : Nat) ^ 8 = 256 from rfl] at this
    rw [this, decide_eq_true hj, Bool.true_and]
    have h : (x / 2 ^ 16).testBit j = x.testBit (j + 16) := Nat.testBit_div_two_pow x j
    rw [Nat.add_comm]; exact h
  have e3 : ∀ j, j < 8 → (x / 256 % 256).testBit j = x.testBit (8 + j) := fun j hj => by
    have := Nat.testBit_mod_two_pow (x / 256) 8 j
    rw [show (2 : Nat) ^ 8 = 256 from rfl] at this
    rw [this, decide_eq_true hj, Bool.true_and]
    have h : (x / 2 ^ 8).testBit j = x.testBit (j + 8) := Nat.testBit_div_two_pow x j
    rw [Nat.add_comm]; exact h
  have e4 : ∀ j, j < 8 → (x % 256).testBit j = x.testBit j := fun j hj => by
    have := Nat.testBit_mod_two_pow x 8 j
    rw [show (2 : Nat) ^ 8 = 256 from rfl] at this
    rw [this, decide_eq_true hj, Bool.true_and]
  have o1 := ones_cnt ⟨x / 16777216, by omega⟩
  have o2 := ones_cnt ⟨x / 65536 % 256, by omega⟩
  have o3 := ones_cnt ⟨x / 256 % 256, by omega⟩
  have o4 := ones_cnt ⟨x % 256, by omega⟩
  simp only at o1 o2 o3 o4
  unfold pop
  rw [o1, o2, o3, o4]
  have sh : ∀ (p q : Nat → Bool) (o : Nat), (∀ j, j < 8 → p j = q (o + j)) → cnt q (o + 8) = cnt q o + cnt p 8 := by
    intro p q o h
    have : ∀ n, n ≤ 8 → cnt q (o + n) = cnt q o + cnt p n := by
      intro n
      induction n with
      | zero => intro _; rfl
      | succ n ih =>
        intro hn
        show cnt q (o + n) + (q (o + n)).toNat = cnt q o + (cnt p n + (p n).toNat)
        rw [ih (by omega), h n (by omega), Nat.add_assoc]
    exact this 8 (Nat.le_refl _)
  have s1 := sh _ _ 24 (fun j _ => e1 j)
  have s2 := sh _ _ 16 e2
  have s3 := sh _ _ 8 e3
  have s4 := sh _ _ 0 (fun j hj => (e4 j hj).trans (by rw [Nat.zero_add]))
  have z : cnt x.testBit 0 = 0 := rfl
  simp only [Nat.reduceAdd] at s1 s2 s3 s4
  omega
def count (c : Cs) : Nat := pop c.up + pop c.dn

/-- The calls of a set at the floors below n, in order. -/
def prs (c : Cs) : Nat → List (Nat × Nat)
  | 0 => []
  | k + 1 => prs c k ++ ((if c.up.testBit k then [(k, 1)] else []) ++ (if c.dn.testBit k then [(k, 2)] else []))
def en (x : Nat × Nat) : En := ⟨x.1, x.2, -1, 0, false⟩
def ents (c : Cs) : List En := (prs c 32).map en
theorem prs_len (c : Cs) : ∀ n, (prs c n).length = cnt c.up.testBit n + cnt c.dn.testBit n
  | 0 => rfl
  | n + 1 => by
    have ih := prs_len c n
    show (prs c n ++ _).length = cnt _ n + _ + (cnt _ n + _)
    rw [List.length_append, List.length_append, ih]
    cases c.up.testBit n <;> cases c.dn.testBit n <;> simp <;> omega
theorem ents_len {c : Cs} (h : c.ok) : (ents c).length = count c := by
  unfold ents count
  rw [List.length_map, prs_len, pop_cnt h.1, pop_cnt h.2]
theorem count_le {c : Cs} (h : c.ok) : count c ≤ 64 := by
  unfold count
  rw [pop_cnt h.1, pop_cnt h.2]
  have h1 := cnt_le c.up.testBit 32
  have h2 := cnt_le c.dn.testBit 32
  omega
theorem mem_prs (c : Cs) (x : Nat × Nat) : ∀ n, x ∈ prs c n ↔ x.1 < n ∧ (x.2 = 1 ∧ c.up.testBit x.1 = true ∨ x.2 = 2 ∧ c.dn.testBit x.1 = true)
  | 0 => by simp [prs]
  | n + 1 => by
    have ih := mem_prs c x n
    obtain ⟨k, d⟩ := x
    unfold prs
    rw [List.mem_append, ih, List.mem_append]
    simp only
    constructor
    · rintro (⟨h1, h2⟩ | h | h)
      · exact ⟨by omega, h2⟩
      · split at h
        · simp only [List.mem_singleton, Prod.mk.injEq] at h
          obtain ⟨rfl, rfl⟩ := h
          exact ⟨by omega, .inl ⟨rfl, by assumption⟩⟩
        · simp at h
      · split at h
        · simp only [List.mem_singleton, Prod.mk.injEq] at h
          obtain ⟨rfl, rfl⟩ := h
          exact ⟨by omega, .inr ⟨rfl, by assumption⟩⟩
        · simp at h
    · rintro ⟨h1, h2⟩
      rcases Nat.lt_or_ge k n with h3 | h3
      · exact .inl ⟨h3, h2⟩
      · obtain rfl : k = n := by omega
        rcases h2 with ⟨rfl, h4⟩ | ⟨rfl, h4⟩
        · exact .inr (.inl (by rw [if_pos h4]; simp))
        · exact .inr (.inr (by rw [if_pos h4]; simp))
theorem nodup_prs (c : Cs) : ∀ n, (prs c n).Nodup
  | 0 => List.nodup_nil
  | n + 1 => by
    unfold prs
    rw [List.nodup_append]
    refine ⟨nodup_prs c n, ?_, ?_⟩
    · cases c.up.testBit n <;> cases c.dn.testBit n <;> simp
    · intro a ha b hb e
      subst e
      have h1 := ((mem_prs c a n).1 ha).1
      have h2 : a.1 = n := by
        rw [List.mem_append] at hb
        rcases hb with hb | hb <;> (split at hb <;> simp at hb) <;> rw [hb]
      omega

def of (l : List En) : Cs := l.foldl (fun c e => union c (one e.f e.d)) empty
theorem of_snoc (l : List En) (e : En) : of (l ++ [e]) = union (of l) (one e.f e.d) := by unfold of; rw [List.foldl_append]; rfl
theorem of_ok (l : List En) : (of l).ok := by
  have : ∀ (l : List En) (c : Cs), c.ok → (l.foldl (fun c e => union c (one e.f e.d)) c).ok := by
    intro l
    induction l with
    | nil => intro c h; exact h
    | cons e l ih => intro c h; exact ih _ (union_ok h (one_ok _ _))
  exact this l empty empty_ok
theorem bit_one (x : Nat × Nat) {k : Nat} (hk : k < 32) : (one (x.1 : Int) (x.2 : Int)).up.testBit k = decide (x = (k, 1)) ∧ (one (x.1 : Int) (x.2 : Int)).dn.testBit k = decide (x = (k, 2)) := by
  obtain ⟨f, d⟩ := x
  unfold one
  simp only
  by_cases h1 : (d : Int) = 1
  · rw [if_pos h1]
    have hd : d = 1 := by omega
    subst hd
    simp only [bit_bitAt _ hk, Nat.zero_testBit]
    constructor
    · exact decide_eq_decide.2 (by simp; omega)
    · symm; exact decide_eq_false (by simp)
  · rw [if_neg h1]
    by_cases h2 : (d : Int) = 2
    · rw [if_pos h2]
      have hd : d = 2 := by omega
      subst hd
      simp only [bit_bitAt _ hk, Nat.zero_testBit]
      constructor
      · symm; exact decide_eq_false (by simp)
      · exact decide_eq_decide.2 (by simp; omega)
    · rw [if_neg h2]
      unfold empty
      simp only [Nat.zero_testBit]
      constructor <;> (symm; refine decide_eq_false ?_; simp; omega)
theorem of_bit {k : Nat} (hk : k < 32) (l : List (Nat × Nat)) : (of (l.map en)).up.testBit k = decide ((k, 1) ∈ l) ∧ (of (l.map en)).dn.testBit k = decide ((k, 2) ∈ l) := by
  have key : ∀ (l : List (Nat × Nat)) (c : Cs), ((l.map en).foldl (fun c e => union c (one e.f e.d)) c).up.testBit k = (c.up.testBit k || decide ((k, 1) ∈ l)) ∧ ((l.map en).foldl (fun c e => union c (one e.f e.d)) c).dn.testBit k = (c.dn.testBit k || decide ((k, 2) ∈ l)) := by
    intro l
    induction l with
    | nil => intro c; simp
    | cons x l ih =>
      intro c
      have := ih (union c (one x.1 x.2))
      have hb := bit_one x hk
      rw [List.map_cons, List.foldl_cons]
      change _ = (_ || _) ∧ _ = (_ || _)
      rw [show union c (one (en x).f (en x).d) = union c (one x.1 x.2) from rfl, this.1, this.2]
      unfold union
      simp only [bit_or, hb.1, hb.2, Bool.or_assoc, ← Bool.decide_or, List.mem_cons]
      constructor
      · congr 1; exact decide_eq_decide.2 (by constructor <;> (rintro (h | h); exact .inl h.symm; exact .inr h))
      · congr 1; exact decide_eq_decide.2 (by constructor <;> (rintro (h | h); exact .inl h.symm; exact .inr h))
  have := key l empty
  unfold of
  rw [this.1, this.2]
  unfold empty
  simp
theorem of_ents {c : Cs} (h : c.ok) : of (ents c) = c := by
  refine ext32 (of_ok _) h fun k hk => ?_
  unfold ents
  have := of_bit hk (prs c 32)
  rw [this.1, this.2]
  have m1 := mem_prs c (k, 1) 32
  have m2 := mem_prs c (k, 2) 32
  constructor
  · rw [Bool.eq_iff_iff, decide_eq_true_iff, m1]; simp [hk]
  · rw [Bool.eq_iff_iff, decide_eq_true_iff, m2]; simp [hk]
/-- The calls ahead of one in a set's list do not have it, and the set has it. -/
theorem ents_at {c : Cs} (h : c.ok) {i : Nat} (hi : i < (ents c).length) : both (of ((ents c).take i)) (one ((ents c)[i]).f ((ents c)[i]).d) = empty ∧ has c ((ents c)[i]).f ((ents c)[i]).d = true := by
  unfold ents at hi ⊢
  rw [List.length_map] at hi
  have hm : (prs c 32)[i] ∈ prs c 32 := List.getElem_mem hi
  have hx := (mem_prs c _ 32).1 hm
  have hnot : (prs c 32)[i] ∉ (prs c 32).take i := by
    intro hmem
    obtain ⟨j, hj, e⟩ := List.mem_iff_getElem.1 hmem
    rw [List.length_take] at hj
    rw [List.getElem_take] at e
    have := (List.getElem_inj (nodup_prs c 32)).1 e
    omega
  rw [List.getElem_map, ← List.map_take]
  show both _ (one (((prs c 32)[i]).1 : Int) (((prs c 32)[i]).2 : Int)) = empty ∧ has c (((prs c 32)[i]).1 : Int) (((prs c 32)[i]).2 : Int) = true
  generalize (prs c 32)[i] = x at *
  refine ⟨ext32 (both_ok (of_ok _)) empty_ok fun k hk => ?_, ?_⟩
  · have hb := bit_one x hk
    have ho := of_bit hk ((prs c 32).take i)
    unfold both empty
    simp only [bit_and, hb.1, hb.2, ho.1, ho.2, Nat.zero_testBit]
    constructor
    · rw [Bool.and_eq_false_iff, decide_eq_false_iff_not, decide_eq_false_iff_not]
      by_cases e : x = (k, 1)
      · left; rw [← e]; exact hnot
      · right; exact e
    · rw [Bool.and_eq_false_iff, decide_eq_false_iff_not, decide_eq_false_iff_not]
      by_cases e : x = (k, 2)
      · left; rw [← e]; exact hnot
      · right; exact e
  · obtain ⟨h1, ⟨h2, h3⟩ | ⟨h2, h3⟩⟩ := hx
    · rw [h2]; exact (has_up h h1).trans h3
    · rw [h2]; exact (has_dn h h1).trans h3

/-- The laws. -/
def atF (c : Cs) (f : Int) : Cs := both c (union (one f 1) (one f 2))
theorem bit_atF (c : Cs) (f : Int) {k : Nat} (hk : k < 32) : (atF c f).up.testBit k = (c.up.testBit k && decide (f = (k : Int))) ∧ (atF c f).dn.testBit k = (c.dn.testBit k && decide (f = (k : Int))) := by
  unfold atF both union one
  rw [if_pos rfl, if_neg (by decide), if_pos rfl]
  simp only [bit_and, bit_or, Nat.zero_testBit, bit_bitAt f hk, Bool.or_false, Bool.false_or]
  exact ⟨trivial, trivial⟩
theorem bit_above (c : Cs) (f : Int) {k : Nat} (hk : k < 32) : (above c f).up.testBit k = (c.up.testBit k && !decide ((k : Int) ≤ f)) ∧ (above c f).dn.testBit k = (c.dn.testBit k && !decide ((k : Int) ≤ f)) := by
  unfold above minus
  simp only [bit_minus (mask_lt f) hk, bit_mask f hk]
  exact ⟨trivial, trivial⟩
theorem bit_below (c : Cs) (f : Int) {k : Nat} (hk : k < 32) : (below c f).up.testBit k = (c.up.testBit k && decide ((k : Int) < f)) ∧ (below c f).dn.testBit k = (c.dn.testBit k && decide ((k : Int) < f)) := by
  unfold below both
  simp only [bit_and, bit_low f hk]
  exact ⟨trivial, trivial⟩
theorem tri (b : Bool) (k f : Int) : ((b && !decide (k ≤ f)) || (b && decide (k < f)) || (b && decide (f = k))) = b ∧ (b && !decide (k ≤ f)).toNat + (b && decide (k < f)).toNat + (b && decide (f = k)).toNat = b.toNat := by
  rcases Int.lt_trichotomy k f with h | h | h
  · rw [decide_eq_true (show k ≤ f by omega), decide_eq_true h, decide_eq_false (show ¬ f = k by omega)]; cases b <;> decide
  · rw [decide_eq_true (show k ≤ f by omega), decide_eq_false (show ¬ k < f by omega), decide_eq_true (show f = k by omega)]; cases b <;> decide
  · rw [decide_eq_false (show ¬ k ≤ f by omega), decide_eq_false (show ¬ k < f by omega), decide_eq_false (show ¬ f = k by omega)]; cases b <;> decide
theorem law_parts {a : Cs} (h : a.ok) (f : Int) : union (union (above a f) (below a f)) (atF a f) = a := by
  refine ext32 (union_ok (union_ok (above_ok h f) (below_ok h f)) (both_ok h)) h fun k hk => ?_
  unfold union
  simp only [bit_or, (bit_atF a f hk).1, (bit_atF a f hk).2, (bit_above a f hk).1, (bit_above a f hk).2, (bit_below a f hk).1, (bit_below a f hk).2]
  exact ⟨(tri _ _ _).1, (tri _ _ _).1⟩
theorem law_count {a : Cs} (h : a.ok) (f : Int) : count (above a f) + count (below a f) + count (atF a f) = count a := by
  unfold count
  rw [pop_cnt (above_ok h f).1, pop_cnt (above_ok h f).2, pop_cnt (below_ok h f).1, pop_cnt (below_ok h f).2, pop_cnt (show (atF a f).up < _ from (both_ok h).1), pop_cnt (show (atF a f).dn < _ from (both_ok h).2), pop_cnt h.1, pop_cnt h.2]
  have h1 := cnt3 (p := (above a f).up.testBit) (q := (below a f).up.testBit) (r := (atF a f).up.testBit) (s := a.up.testBit) 32 fun k hk => by
    rw [(bit_atF a f hk).1, (bit_above a f hk).1, (bit_below a f hk).1]; exact (tri _ _ _).2
  have h2 := cnt3 (p := (above a f).dn.testBit) (q := (below a f).dn.testBit) (r := (atF a f).dn.testBit) (s := a.dn.testBit) 32 fun k hk => by
    rw [(bit_atF a f hk).2, (bit_above a f hk).2, (bit_below a f hk).2]; exact (tri _ _ _).2
  omega
theorem law_minus {a b : Cs} (ha : a.ok) (hb : b.ok) : union (minus a b) (both a b) = a := by
  refine ext32 (union_ok (minus_ok ha) (both_ok ha)) ha fun k hk => ?_
  unfold union minus both
  simp only [bit_or, bit_minus hb.1 hk, bit_minus hb.2 hk, bit_and]
  constructor
  · cases a.up.testBit k <;> cases b.up.testBit k <;> rfl
  · cases a.dn.testBit k <;> cases b.dn.testBit k <;> rfl
theorem law_union {a b : Cs} (ha : a.ok) (hb : b.ok) : count (union a b) + count (both a b) = count a + count b := by
  unfold count
  rw [pop_cnt (union_ok ha hb).1, pop_cnt (union_ok ha hb).2, pop_cnt (both_ok ha).1, pop_cnt (both_ok ha).2, pop_cnt ha.1, pop_cnt ha.2, pop_cnt hb.1, pop_cnt hb.2]
  have h1 := cnt4 (p := (union a b).up.testBit) (q := (both a b).up.testBit) (r := a.up.testBit) (s := b.up.testBit) 32 fun k hk => by
    unfold union both
    simp only [bit_or, bit_and]
    cases a.up.testBit k <;> cases b.up.testBit k <;> rfl
  have h2 := cnt4 (p := (union a b).dn.testBit) (q := (both a b).dn.testBit) (r := a.dn.testBit) (s := b.dn.testBit) 32 fun k hk => by
    unfold union both
    simp only [bit_or, bit_and]
    cases a.dn.testBit k <;> cases b.dn.testBit k <;> rfl
  omega
end Cs
end
end Go.Proofs.Ytmonbldmgmmnbaa
