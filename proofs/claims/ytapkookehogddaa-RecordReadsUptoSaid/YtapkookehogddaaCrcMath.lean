/- Plain mathematics of a shift register with a divisor: it is linear, and its shift is one to one. No statement of the seat is proved here. -/
namespace Go.Proofs.Ytapkookehogddaa.Crc

theorem xor_swap (a b c : Nat) : a ^^^ (b ^^^ c) = b ^^^ (a ^^^ c) := by rw [← Nat.xor_assoc, Nat.xor_comm a, Nat.xor_assoc]
theorem xor_zero_eq {a b : Nat} (h : a ^^^ b = 0) : a = b := by
  have : a ^^^ b ^^^ b = b := by rw [h, Nat.zero_xor]
  rwa [Nat.xor_assoc, Nat.xor_self, Nat.xor_zero] at this
theorem xor_cancel (a b : Nat) : a ^^^ (a ^^^ b) = b := by rw [← Nat.xor_assoc, Nat.xor_self, Nat.zero_xor]

/-- One shift of a register of b bits. -/
def sh (b d r : Nat) : Nat := (2 * r % 2 ^ b) ^^^ (if 2 ^ (b - 1) ≤ r then d else 0)

/-- j shifts. -/
def shN (b d : Nat) : Nat → Nat → Nat
  | 0, r => r
  | j + 1, r => shN b d j (sh b d r)

theorem shN_succ (b d j r : Nat) : shN b d (j + 1) r = sh b d (shN b d j r) := by
  induction j generalizing r with
  | zero => rfl
  | succ j ih => exact ih (sh b d r)
theorem shN_add (b d i j r : Nat) : shN b d (i + j) r = shN b d i (shN b d j r) := by
  induction j generalizing r with
  | zero => rfl
  | succ j ih => exact ih (sh b d r)

theorem ge_iff_testBit {n r : Nat} (h : r < 2 ^ (n + 1)) : 2 ^ n ≤ r ↔ r.testBit n = true := by
  constructor
  · intro h1; exact Nat.testBit_of_two_pow_le_and_two_pow_add_one_gt h1 h
  · intro h1; exact Nat.ge_two_pow_of_testBit h1

theorem sh_xor {n d x y : Nat} (hx : x < 2 ^ (n + 1)) (hy : y < 2 ^ (n + 1)) : sh (n + 1) d (x ^^^ y) = sh (n + 1) d x ^^^ sh (n + 1) d y := by
  have hxy : x ^^^ y < 2 ^ (n + 1) := Nat.xor_lt_two_pow hx hy
  unfold sh
  simp only [Nat.add_sub_cancel]
  have e : 2 * (x ^^^ y) % 2 ^ (n + 1) = (2 * x % 2 ^ (n + 1)) ^^^ (2 * y % 2 ^ (n + 1)) := by
    rw [← Nat.xor_mod_two_pow]
    congr 1
    rw [Nat.mul_comm 2, Nat.mul_comm 2, Nat.mul_comm 2]
    have := Nat.shiftLeft_xor_distrib (a := x) (b := y) (i := 1)
    simpa [Nat.shiftLeft_eq] using this
  rw [e]
  simp only [ge_iff_testBit hx, ge_iff_testBit hy, ge_iff_testBit hxy, Nat.testBit_xor]
  generalize 2 * x % 2 ^ (n + 1) = p
  generalize 2 * y % 2 ^ (n + 1) = q
  cases x.testBit n <;> cases y.testBit n <;> simp
  · rw [Nat.xor_assoc]
  · rw [Nat.xor_assoc, Nat.xor_comm q d, ← Nat.xor_assoc]
  · rw [Nat.xor_assoc, xor_swap d q d, Nat.xor_self, Nat.xor_zero]

theorem sh_lt {n d x : Nat} (hd : d < 2 ^ (n + 1)) : sh (n + 1) d x < 2 ^ (n + 1) := by
  unfold sh
  refine Nat.xor_lt_two_pow (Nat.mod_lt _ (Nat.two_pow_pos _)) ?_
  split
  · exact hd
  · exact Nat.two_pow_pos _
theorem shN_lt {n d : Nat} (hd : d < 2 ^ (n + 1)) (j : Nat) {x : Nat} (hx : x < 2 ^ (n + 1)) : shN (n + 1) d j x < 2 ^ (n + 1) := by
  induction j generalizing x with
  | zero => exact hx
  | succ j ih => exact ih (sh_lt hd)
theorem shN_xor {n d : Nat} (hd : d < 2 ^ (n + 1)) (j : Nat) {x y : Nat} (hx : x < 2 ^ (n + 1)) (hy : y < 2 ^ (n + 1)) : shN (n + 1) d j (x ^^^ y) = shN (n + 1) d j x ^^^ shN (n + 1) d j y := by
  induction j generalizing x y with
  | zero => rfl
  | succ j ih => simp only [shN]; rw [sh_xor hx hy]; exact ih (sh_lt hd) (sh_lt hd)
theorem sh_zero (n d : Nat) : sh (n + 1) d 0 = 0 := by
  unfold sh
  have := Nat.two_pow_pos n
  simp
theorem shN_zero (n d j : Nat) : shN (n + 1) d j 0 = 0 := by
  induction j with
  | zero => rfl
  | succ j ih => simp only [shN]; rw [sh_zero]; exact ih
/-- The divisor's lowest bit is 1: nothing but 0 becomes 0. -/
theorem sh_ne_zero {n d x : Nat} (hd : d % 2 = 1) (h : sh (n + 1) d x = 0) : x = 0 := by
  unfold sh at h
  simp only [Nat.add_sub_cancel] at h
  have h2 := xor_zero_eq h
  have hev : (2 * x % 2 ^ (n + 1)) % 2 = 0 := by
    rw [Nat.pow_succ, Nat.mul_comm (2 ^ n) 2, Nat.mul_mod_mul_left]; omega
  split at h2
  · omega
  · rename_i hlt
    rw [Nat.pow_succ, Nat.mul_comm (2 ^ n) 2, Nat.mul_mod_mul_left, Nat.mod_eq_of_lt (by omega)] at h2
    omega
theorem shN_ne_zero {n d : Nat} (hd2 : d < 2 ^ (n + 1)) (hd : d % 2 = 1) (j : Nat) {x : Nat} (hx : x < 2 ^ (n + 1)) (h : shN (n + 1) d j x = 0) : x = 0 := by
  induction j generalizing x with
  | zero => exact h
  | succ j ih => exact sh_ne_zero hd (ih (sh_lt hd2) h)
theorem shN_inj {n d : Nat} (hd2 : d < 2 ^ (n + 1)) (hd : d % 2 = 1) (j : Nat) {x y : Nat} (hx : x < 2 ^ (n + 1)) (hy : y < 2 ^ (n + 1)) (h : shN (n + 1) d j x = shN (n + 1) d j y) : x = y :=
  xor_zero_eq (shN_ne_zero hd2 hd j (Nat.xor_lt_two_pow hx hy) (by rw [shN_xor hd2 j hx hy, h, Nat.xor_self]))

/-- A register of m + 8 bits takes in a byte at its top, and shifts eight times. -/
def step (m d r x : Nat) : Nat := shN (m + 7 + 1) d 8 (r ^^^ (x * 2 ^ m))
def reg (m d : Nat) (r : Nat) (l : List UInt8) : Nat := l.foldl (fun r x => step m d r x.toNat) r

theorem reg_append (m d r : Nat) (l k : List UInt8) : reg m d r (l ++ k) = reg m d (reg m d r l) k := List.foldl_append
theorem reg_cons (m d r : Nat) (x : UInt8) (l : List UInt8) : reg m d r (x :: l) = reg m d (step m d r x.toNat) l := rfl
theorem reg_nil (m d r : Nat) : reg m d r [] = r := rfl
theorem two_mul_pow (m : Nat) : 256 * 2 ^ m = 2 ^ (m + 7 + 1) := by rw [show m + 7 + 1 = m + 8 from rfl, Nat.pow_add]; omega
theorem mul_top (m : Nat) {x : Nat} (hx : x < 256) : x * 2 ^ m < 2 ^ (m + 7 + 1) := by
  rw [← two_mul_pow]; exact Nat.mul_lt_mul_of_pos_right hx (Nat.two_pow_pos m)
theorem mul_xor (m x y : Nat) : (x ^^^ y) * 2 ^ m = x * 2 ^ m ^^^ y * 2 ^ m := by
  have := Nat.shiftLeft_xor_distrib (a := x) (b := y) (i := m)
  simpa [Nat.shiftLeft_eq] using this
theorem xor_byte (x y : UInt8) : x.toNat ^^^ y.toNat < 256 := Nat.xor_lt_two_pow (n := 8) x.toNat_lt y.toNat_lt

section
variable {m d : Nat} (hd2 : d < 2 ^ (m + 7 + 1))
include hd2
theorem step_lt {r : Nat} (hr : r < 2 ^ (m + 7 + 1)) {x : Nat} (hx : x < 256) : step m d r x < 2 ^ (m + 7 + 1) :=
  shN_lt hd2 8 (Nat.xor_lt_two_pow hr (mul_top m hx))
theorem reg_lt {r : Nat} (hr : r < 2 ^ (m + 7 + 1)) (l : List UInt8) : reg m d r l < 2 ^ (m + 7 + 1) := by
  induction l generalizing r with
  | nil => exact hr
  | cons x l ih => exact ih (step_lt hd2 hr x.toNat_lt)
/-- Another beginning and another byte. -/
theorem step_xor {r e x y : Nat} (hr : r < 2 ^ (m + 7 + 1)) (he : e < 2 ^ (m + 7 + 1)) (hx : x < 256) (hy : y < 256) :
    step m d (r ^^^ e) (x ^^^ y) = step m d r x ^^^ step m d e y := by
  unfold step
  rw [← shN_xor hd2 8 (Nat.xor_lt_two_pow hr (mul_top m hx)) (Nat.xor_lt_two_pow he (mul_top m hy)), mul_xor]
  congr 1
  rw [Nat.xor_assoc, Nat.xor_assoc, xor_swap e]
/-- Another beginning, by e, is another end, by e shifted on. -/
theorem reg_xor {r e : Nat} (hr : r < 2 ^ (m + 7 + 1)) (he : e < 2 ^ (m + 7 + 1)) (l : List UInt8) : reg m d (r ^^^ e) l = reg m d r l ^^^ shN (m + 7 + 1) d (8 * l.length) e := by
  induction l generalizing r e with
  | nil => rfl
  | cons x l ih =>
    rw [reg_cons, reg_cons]
    have h1 := step_xor hd2 hr he x.toNat_lt (show (0 : Nat) < 256 by omega)
    have h2 : step m d e 0 = shN (m + 7 + 1) d 8 e := by unfold step; rw [Nat.zero_mul, Nat.xor_zero]
    rw [Nat.xor_zero, h2] at h1
    rw [h1, ih (step_lt hd2 hr x.toNat_lt) (shN_lt hd2 8 he), List.length_cons, show 8 * (l.length + 1) = 8 * l.length + 8 from by omega, shN_add]
/-- One byte is another. -/
theorem reg_set {r : Nat} (hr : r < 2 ^ (m + 7 + 1)) (l : List UInt8) (k : Nat) (hk : k < l.length) (v : UInt8) :
    reg m d r (l.set k v) = reg m d r l ^^^ shN (m + 7 + 1) d (8 * (l.length - k)) ((l[k].toNat ^^^ v.toNat) * 2 ^ m) := by
  have e1 : l = l.take k ++ l[k] :: l.drop (k + 1) := by simp
  have e2 : l.set k v = l.take k ++ v :: l.drop (k + 1) := by rw [List.set_eq_take_append_cons_drop, if_pos hk]
  rw [e2]
  conv => rhs; arg 1; rw [e1]
  rw [reg_append, reg_append, reg_cons, reg_cons]
  have hq := reg_lt hd2 hr (l.take k)
  generalize reg m d r (l.take k) = q at *
  have hm := mul_top m (xor_byte l[k] v)
  have hs : step m d q v.toNat = step m d q l[k].toNat ^^^ shN (m + 7 + 1) d 8 ((l[k].toNat ^^^ v.toNat) * 2 ^ m) := by
    have h1 := step_xor hd2 hq (Nat.two_pow_pos _) l[k].toNat_lt (xor_byte l[k] v)
    rw [Nat.xor_zero, xor_cancel] at h1
    rw [h1]
    congr 1
    unfold step
    rw [Nat.zero_xor]
  rw [hs, reg_xor hd2 (step_lt hd2 hq l[k].toNat_lt) (shN_lt hd2 8 hm)]
  congr 1
  rw [← shN_add, List.length_drop]
  congr 1
  omega

omit hd2 in
/-- What does not leave the register is doubled. -/
theorem shN_small (j : Nat) {x : Nat} (hx : x * 2 ^ j < 2 ^ (m + 7 + 1)) : shN (m + 7 + 1) d j x = x * 2 ^ j := by
  induction j generalizing x with
  | zero => simp [shN]
  | succ j ih =>
    have e : x * 2 ^ (j + 1) = 2 * x * 2 ^ j := by rw [Nat.pow_succ, Nat.mul_comm 2 x, Nat.mul_assoc, Nat.mul_comm (2 ^ j) 2]
    have hp : 1 ≤ 2 ^ j := Nat.two_pow_pos j
    have h2 : 2 * x < 2 ^ (m + 7 + 1) := Nat.lt_of_le_of_lt (Nat.le_mul_of_pos_right _ hp) (e ▸ hx)
    have hs : sh (m + 7 + 1) d x = 2 * x := by
      unfold sh
      have hh : 2 ^ (m + 7 + 1) = 2 * 2 ^ (m + 7 + 1 - 1) := by rw [Nat.add_sub_cancel, Nat.pow_succ]; omega
      rw [Nat.mod_eq_of_lt h2, if_neg (by omega), Nat.xor_zero]
    rw [shN, hs, ih (e ▸ hx), e]
omit hd2 in
/-- The highest bit, shifted: what a bit at another place becomes. -/
theorem shN_bit {i L : Nat} (hi : i ≤ m + 7) (hL : i ≤ L) : shN (m + 7 + 1) d L (2 ^ (m + 7 - i)) = shN (m + 7 + 1) d (L - i) (2 ^ (m + 7)) := by
  have h1 : shN (m + 7 + 1) d i (2 ^ (m + 7 - i)) = 2 ^ (m + 7) := by
    have e : 2 ^ (m + 7 - i) * 2 ^ i = 2 ^ (m + 7) := by rw [← Nat.pow_add]; congr 1; omega
    rw [shN_small i (by rw [e]; exact Nat.pow_lt_pow_right (by omega) (by omega)), e]
  conv => lhs; rw [show L = (L - i) + i from by omega]
  rw [shN_add, h1]
end

/-- A string of bytes with one other bit: bit 0 is the highest one of the first byte. -/
def flip1 (l : List UInt8) (k : Nat) : List UInt8 := l.set (k / 8) (l.getD (k / 8) 0 ^^^ UInt8.ofNat (2 ^ (7 - k % 8)))
theorem flip1_length (l : List UInt8) (k : Nat) : (flip1 l k).length = l.length := by simp [flip1]
theorem bit_byte (k : Nat) : (UInt8.ofNat (2 ^ (7 - k % 8))).toNat = 2 ^ (7 - k % 8) := by
  have : 2 ^ (7 - k % 8) < 256 := Nat.lt_of_le_of_lt (Nat.pow_le_pow_right (by omega) (show 7 - k % 8 ≤ 7 by omega)) (by omega)
  simp; omega
theorem reg_flip1 {m d : Nat} (hd2 : d < 2 ^ (m + 7 + 1)) {r : Nat} (hr : r < 2 ^ (m + 7 + 1)) (l : List UInt8) (k : Nat) (hk : k < 8 * l.length) :
    reg m d r (flip1 l k) = reg m d r l ^^^ shN (m + 7 + 1) d (8 * l.length - k) (2 ^ (m + 7)) := by
  unfold flip1
  have hk8 : k / 8 < l.length := by omega
  rw [reg_set hd2 hr l (k / 8) hk8]
  have e1 : l.getD (k / 8) 0 = l[k / 8] := by simp [List.getD, hk8]
  rw [e1, UInt8.toNat_xor, xor_cancel, bit_byte, ← Nat.pow_add]
  congr 1
  have := shN_bit (m := m) (d := d) (i := k % 8) (L := 8 * (l.length - k / 8)) (by omega) (by omega)
  rw [show 7 - k % 8 + m = m + 7 - k % 8 from by omega, this]
  congr 1
  omega

/-- Some of 16 neighbouring bits are others. -/
def flips (at_ mask : Nat) : Nat → List UInt8 → List UInt8
  | 0, l => l
  | i + 1, l => let l' := flips at_ mask i l; if mask.testBit i = true ∧ at_ + i < 8 * l.length then flip1 l' (at_ + i) else l'
theorem flips_length (at_ mask i : Nat) (l : List UInt8) : (flips at_ mask i l).length = l.length := by
  induction i with
  | zero => rfl
  | succ i ih => simp only [flips]; split <;> simp [flip1_length, ih]
/-- The bits that are others, as a number: the first one is the highest. -/
def pat (at_ mask N : Nat) : Nat → Nat
  | 0 => 0
  | i + 1 => pat at_ mask N i ^^^ (if mask.testBit i = true ∧ at_ + i < N then 2 ^ (15 - i) else 0)
theorem pat_lt (at_ mask N i : Nat) : pat at_ mask N i < 2 ^ 16 := by
  induction i with
  | zero => simp [pat]
  | succ i ih =>
    simp only [pat]
    refine Nat.xor_lt_two_pow ih ?_
    split
    · exact Nat.pow_lt_pow_right (by omega) (by omega)
    · omega
theorem reg_flips {r : Nat} (hr : r < 65536) (l : List UInt8) (at_ mask : Nat) (i : Nat) (hi : i ≤ 16) :
    reg 8 0x1021 r (flips at_ mask i l) = reg 8 0x1021 r l ^^^ shN 16 0x1021 (8 * l.length - at_) (pat at_ mask (8 * l.length) i) := by
  induction i with
  | zero => simp only [flips, pat]; rw [show (16 : Nat) = 15 + 1 from rfl, shN_zero, Nat.xor_zero]
  | succ i ih =>
    simp only [flips, pat]
    have hd : (0x1021 : Nat) < 2 ^ (8 + 7 + 1) := by decide
    split
    · rename_i h
      rw [reg_flip1 hd hr _ _ (by rw [flips_length]; exact h.2), ih (by omega), flips_length]
      have h1 := shN_xor (n := 15) (d := 0x1021) hd (8 * l.length - at_) (pat_lt at_ mask (8 * l.length) i) (show 2 ^ (15 - i) < 2 ^ 16 from Nat.pow_lt_pow_right (by omega) (by omega))
      have h2 := shN_bit (m := 8) (d := 0x1021) (i := i) (L := 8 * l.length - at_) (by omega) (by omega)
      rw [h1, Nat.xor_assoc]
      congr 2
      rw [show 8 * l.length - (at_ + i) = 8 * l.length - at_ - i from by omega]
      exact h2.symm
    · rw [ih (by omega), Nat.xor_zero]
theorem pat_bit (at_ mask N : Nat) (i : Nat) (hi : i ≤ 16) : ∀ j, j < 16 → (pat at_ mask N i).testBit (15 - j) = decide (j < i ∧ mask.testBit j = true ∧ at_ + j < N) := by
  induction i with
  | zero => intro j hj; simp [pat]
  | succ i ih =>
    intro j hj
    simp only [pat, Nat.testBit_xor, ih (by omega) j hj]
    by_cases hji : j = i
    · subst hji
      by_cases hc : mask.testBit j = true ∧ at_ + j < N
      · rw [if_pos hc]; simp [hc]
      · rw [if_neg hc]; simp [hc]
    · have e : (if mask.testBit i = true ∧ at_ + i < N then 2 ^ (15 - i) else 0).testBit (15 - j) = false := by
        split
        · rw [Nat.testBit_two_pow]; simp; omega
        · simp
      rw [e, Bool.xor_false]
      congr 1
      apply propext
      constructor
      · rintro ⟨a, b⟩; exact ⟨by omega, b⟩
      · rintro ⟨a, b⟩; exact ⟨by omega, b⟩
theorem flips_same (at_ mask : Nat) (l : List UInt8) (i : Nat) (h : ∀ j, j < i → ¬ (mask.testBit j = true ∧ at_ + j < 8 * l.length)) : flips at_ mask i l = l := by
  induction i with
  | zero => rfl
  | succ i ih => simp only [flips]; rw [if_neg (h i (by omega)), ih (fun j hj => h j (by omega))]
/-- THE BURST: a sealed string with changes within 16 neighbouring bits has another sum. -/
theorem burst {l : List UInt8} {r at_ mask : Nat} (hr : r < 65536) (hne : flips at_ mask 16 l ≠ l) : reg 8 0x1021 r (flips at_ mask 16 l) ≠ reg 8 0x1021 r l := by
  intro h
  rw [reg_flips hr l at_ mask 16 (by omega)] at h
  have hd : (0x1021 : Nat) < 2 ^ (15 + 1) := by decide
  have h0 : shN 16 0x1021 (8 * l.length - at_) (pat at_ mask (8 * l.length) 16) = 0 := by
    have := congrArg (fun x => reg 8 0x1021 r l ^^^ x) h
    simpa [xor_cancel] using this
  have hp := shN_ne_zero (n := 15) hd (by decide) _ (pat_lt at_ mask (8 * l.length) 16) h0
  refine hne (flips_same _ _ _ _ fun j hj hc => ?_)
  have := pat_bit at_ mask (8 * l.length) 16 (by omega) j hj
  rw [hp] at this
  simp [hc, hj] at this

/-- One other bit makes another sum. -/
theorem flip1_reg_ne {m d : Nat} (hd2 : d < 2 ^ (m + 7 + 1)) (hd : d % 2 = 1) {r : Nat} (hr : r < 2 ^ (m + 7 + 1)) (l : List UInt8) (k : Nat) (hk : k < 8 * l.length) :
    reg m d r (flip1 l k) ≠ reg m d r l := by
  intro h
  rw [reg_flip1 hd2 hr l k hk] at h
  have h0 : shN (m + 7 + 1) d (8 * l.length - k) (2 ^ (m + 7)) = 0 := by
    have := congrArg (fun x => reg m d r l ^^^ x) h
    simpa [xor_cancel] using this
  have := shN_ne_zero hd2 hd _ (Nat.pow_lt_pow_right (by omega) (by omega)) h0
  have := Nat.two_pow_pos (m + 7)
  omega

def never : Nat → Nat → Bool
  | 0, _ => true
  | k + 1, r => (sh 16 0x1021 r != 0x8000) && never k (sh 16 0x1021 r)
theorem never_spec : ∀ (k r : Nat), never k r = true → ∀ j, j < k → shN 16 0x1021 (j + 1) r ≠ 0x8000
  | 0, _, _, j, hj => by omega
  | k + 1, r, h, j, hj => by
    simp only [never, Bool.and_eq_true, bne_iff_ne, ne_eq] at h
    cases j with
    | zero => exact h.1
    | succ j => exact never_spec k _ h.2 j (by omega)
theorem never_8016 : never 8016 0x8000 = true := by decide +kernel
/-- Two other bits make another sum. -/
theorem pair_ne {l : List UInt8} {r x y : Nat} (hr : r < 65536) (hl : l.length ≤ 1002) (hx : x < 8 * l.length) (hy : y < 8 * l.length) (hxy : x ≠ y) :
    reg 8 0x1021 r (flip1 (flip1 l x) y) ≠ reg 8 0x1021 r l := by
  have hd : (0x1021 : Nat) < 2 ^ (8 + 7 + 1) := by decide
  intro h
  rw [reg_flip1 hd hr _ _ (by rw [flip1_length]; exact hy), reg_flip1 hd hr l x hx, flip1_length, Nat.xor_assoc] at h
  have h0 := congrArg (fun x => reg 8 0x1021 r l ^^^ x) h
  simp only [xor_cancel, Nat.xor_self] at h0
  have h1 := xor_zero_eq h0
  have key : ∀ a b, a < b → b ≤ 8016 → shN (8 + 7 + 1) 0x1021 a (2 ^ (8 + 7)) ≠ shN (8 + 7 + 1) 0x1021 b (2 ^ (8 + 7)) := by
    intro a b hab hb he
    rw [show b = a + (b - a) from by omega, shN_add] at he
    have := shN_inj (n := 15) hd (by decide) a (by decide) (shN_lt hd _ (by decide)) he
    exact never_spec 8016 0x8000 never_8016 (b - a - 1) (by omega) (by rw [show b - a - 1 + 1 = b - a from by omega]; exact this.symm)
  rcases Nat.lt_or_gt_of_ne (show 8 * l.length - x ≠ 8 * l.length - y by omega) with hlt | hlt
  · exact key _ _ hlt (by omega) h1
  · exact key _ _ hlt (by omega) h1.symm

/-- Two neighbouring bytes in the other order make another sum. -/
theorem swap_ne {l : List UInt8} {r k : Nat} (hr : r < 65536) (hk : k + 1 < l.length) (hne : l[k] ≠ l[k + 1]) :
    reg 8 0x1021 r ((l.set k l[k + 1]).set (k + 1) l[k]) ≠ reg 8 0x1021 r l := by
  have hd : (0x1021 : Nat) < 2 ^ (8 + 7 + 1) := by decide
  intro h
  rw [reg_set hd hr _ (k + 1) (by simpa using hk), reg_set hd hr l k (by omega), Nat.xor_assoc] at h
  have h0 := congrArg (fun x => reg 8 0x1021 r l ^^^ x) h
  simp only [xor_cancel, Nat.xor_self] at h0
  have h1 := xor_zero_eq h0
  have e : (l.set k l[k + 1])[k + 1]'(by simpa using hk) = l[k + 1] := by rw [List.getElem_set_ne (by omega)]
  rw [e, List.length_set, Nat.xor_comm l[k + 1].toNat] at h1
  have hb := xor_byte l[k] l[k + 1]
  generalize hz : l[k].toNat ^^^ l[k + 1].toNat = z at *
  have hz0 : z ≠ 0 := by
    intro h; rw [h] at hz
    exact hne (UInt8.toNat_inj.1 (xor_zero_eq hz))
  have h2 : shN (8 + 7 + 1) 0x1021 8 z = z * 2 ^ 8 := shN_small 8 (by omega)
  rw [← h2, show 8 * (l.length - k) = 8 * (l.length - (k + 1)) + 8 from by omega, shN_add] at h1
  have h3 := shN_inj (n := 15) hd (by decide) _ (shN_lt hd 8 (shN_lt hd 8 (by omega))) (shN_lt hd 8 (by omega)) h1
  have h4 := shN_inj (n := 15) hd (by decide) _ (shN_lt hd 8 (by omega)) (show z < 2 ^ (15 + 1) by omega) h3
  rw [h2] at h4
  omega

/-- The register is linear. -/
theorem reg_linear {m d : Nat} (hd2 : d < 2 ^ (m + 7 + 1)) : ∀ (s u : List UInt8) (r e : Nat), s.length = u.length → r < 2 ^ (m + 7 + 1) → e < 2 ^ (m + 7 + 1) →
    reg m d (r ^^^ e) (List.zipWith (· ^^^ ·) s u) = reg m d r s ^^^ reg m d e u
  | [], [], _, _, _, _, _ => rfl
  | x :: s, y :: u, r, e, h, hr, he => by
    rw [List.zipWith_cons_cons, reg_cons, reg_cons, reg_cons, UInt8.toNat_xor, step_xor hd2 hr he x.toNat_lt y.toNat_lt]
    exact reg_linear hd2 s u _ _ (by simpa using h) (step_lt hd2 hr x.toNat_lt) (step_lt hd2 he y.toNat_lt)
  | [], _ :: _, _, _, h, _, _ => by simp at h
  | _ :: _, [], _, _, h, _, _ => by simp at h

/-- The two bytes of a sum take the register back to 0. -/
theorem reg_end {r : Nat} (hr : r < 65536) : reg 8 0x1021 r [UInt8.ofNat (r / 256), UInt8.ofNat (r % 256)] = 0 := by
  have hd : (0x1021 : Nat) < 2 ^ (8 + 7 + 1) := by decide
  rw [reg_cons, reg_cons, reg_nil]
  have e1 : (UInt8.ofNat (r / 256)).toNat = r / 256 := by simp; omega
  have e2 : (UInt8.ofNat (r % 256)).toNat = r % 256 := by simp
  rw [e1, e2]
  unfold step
  have h1 : r ^^^ r / 256 * 2 ^ 8 = r % 256 := by
    apply Nat.eq_of_testBit_eq
    intro i
    have e3 : r / 256 = r >>> 8 := by rw [Nat.shiftRight_eq_div_pow]
    rw [Nat.testBit_xor, ← Nat.shiftLeft_eq, Nat.testBit_shiftLeft, e3, Nat.testBit_shiftRight, show (256 : Nat) = 2 ^ 8 from rfl, Nat.testBit_mod_two_pow]
    by_cases h : i < 8
    · simp [h, show ¬ 8 ≤ i from by omega]
    · simp [h, show 8 ≤ i from by omega, show 8 + (i - 8) = i from by omega]
  have h2 : shN (8 + 7 + 1) 0x1021 8 (r % 256) = r % 256 * 2 ^ 8 := shN_small 8 (by omega)
  rw [h1, h2, Nat.xor_self]
  exact shN_zero 15 _ 8
end Go.Proofs.Ytapkookehogddaa.Crc
