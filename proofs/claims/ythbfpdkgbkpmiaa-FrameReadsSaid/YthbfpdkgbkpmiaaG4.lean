/- What the texts behind this one rest on: several texts in one. No statement of the seat is proved here. -/
import Derived.Test.YthbfpdkgbkpmiaaG3
import Derived.Test.YthbfpdkgbkpmiaaRows
import Derived.WalkKit
import Derived.ProofKit
import Derived.OpenShut
import Derived.Lib.Hide
import Derived.Handy
import Derived.BigQuiet
import Derived.Deep.QuietTactic
namespace Go.Proofs.Ythbfpdkgbkpmiaa
section
open Go.RowKit

/-- The value of a set of calls. -/
def callsV (u d : Nat) : Value := .agg #[.int .u32 u, .int .u32 d]
def hallUp (b : BldD) : Nat := if validE b = 0 then 2 ^ (b.floors.toNat - 1) - 1 else 0
def hallDown (b : BldD) : Nat := if validE b = 0 then 2 ^ b.floors.toNat - 2 else 0

theorem hall_num : ∀ F, 2 ≤ F → F ≤ 32 → ((2 : Int) ^ F - 1) % 4294967296 / 2 = ((2 ^ (F - 1) - 1 : Nat) : Int) ∧ bits .andNot .u32 (((2 : Int) ^ F - 1) % 4294967296) 1 = ((2 ^ F - 2 : Nat) : Int) := by
  intro F h1 h2
  have h : ∀ G : Fin 33, 2 ≤ G.val → ((2 : Int) ^ G.val - 1) % 4294967296 / 2 = ((2 ^ (G.val - 1) - 1 : Nat) : Int) ∧ bits .andNot .u32 (((2 : Int) ^ G.val - 1) % 4294967296) 1 = ((2 ^ G.val - 2 : Nat) : Int) := by decide +kernel
  exact h ⟨F, by omega⟩ h1

theorem ret_calls {u d u' d' : Int} (hu : u = u') (hd : d = d') : Ending.returned (.agg #[.int .u32 u, .int .u32 d]) = .returned (.agg #[.int .u32 u', .int .u32 d']) := by rw [hu, hd]

set_option maxHeartbeats 1000000 in
theorem hall_any (b : BldD) (A : Option Addr) (cap : Nat) (w : World) (hn : b.cars.length ≤ 140737488355328) (hc : CarsAt w w.heap.size A b.cars) :
    Calls Try.prog 74 #[b.agg A cap] w fun e w' => e = .returned (callsV (hallUp b) (hallDown b)) ∧ Below w.heap.size w w' := by
  have HC := Lib.hid hc
  clear hc
  by_cases hv : validE b = 0
  · have hF := fine_of hv
    have H1 : Hid (hallUp b = 2 ^ (b.floors.toNat - 1) - 1) := if_pos hv
    have H2 : Hid (hallDown b = 2 ^ b.floors.toNat - 2) := if_pos hv
    obtain ⟨f, d, r, p, e1, e2, e3, cs⟩ := b
    obtain ⟨⟨hf1, hf2⟩, -, -⟩ := hF
    simp only at hf1 hf2 hn HC
    simp only [BldD.agg]
    obtain ⟨F, rfl⟩ := Int.eq_ofNat_of_zero_le (by omega : 0 ≤ f)
    go_enter Try.func74, Try.ntmps74
    go_wp2_with fail
    refine (valid_any ⟨F, d, r, p, e1, e2, e3, cs⟩ A cap _ hn ((HC.out.below (by go_grown)).more (by simp; omega))).mono ?_
    rintro e w' ⟨rfl, hb1⟩
    obtain ⟨hc1, hf1'⟩ := bcell hb1
    have hz := hb1.size
    have hbel := Below.trans (by go_grown : Below w.heap.size w _) (hb1.mono (by simp; omega))
    have c0 : w'.cell? ⟨w.heap.size + 1, 0, none⟩ = some (.int .u32 0) := by rw [hc1 _ _ (by simp), World.cell?_alloc_at _ _ _ _ (by simp)]; rfl
    have c1 : w'.cell? ⟨w.heap.size + 1, 1, none⟩ = some (.int .u32 0) := by rw [hc1 _ _ (by simp), World.cell?_alloc_at _ _ _ _ (by simp)]; rfl
    go_wp2_with fail
    have hnum := hall_num F (by omega) (by omega)
    refine bodyPost_ret (v := .agg #[.int .u32 (((2 : Int) ^ F - 1) % 4294967296 / 2), .int .u32 (bits .andNot .u32 (((2 : Int) ^ F - 1) % 4294967296) 1)]) (by simp [results, Try.results74, go_sem, c0, c1]) rfl ?_
    refine ⟨ret_calls ?_ ?_, (hbel.setCell (by show w.heap.size ≤ w.heap.size + 1; omega) _).setCell (by show w.heap.size ≤ w.heap.size + 1; omega) _⟩
    · rw [hnum.1, H1.out]; rfl
    · rw [hnum.2, H2.out]; rfl
  · have H1 : Hid (hallUp b = 0) := if_neg hv
    have H2 : Hid (hallDown b = 0) := if_neg hv
    obtain ⟨f, d, r, p, e1, e2, e3, cs⟩ := b
    simp only at hn HC
    simp only [BldD.agg]
    obtain ⟨v, hw⟩ : ∃ v, v = validE ⟨f, d, r, p, e1, e2, e3, cs⟩ := ⟨_, rfl⟩
    rw [← hw] at hv
    have HW := Lib.hid hw
    clear hw
    go_enter Try.func74, Try.ntmps74
    go_wp2_with fail
    refine (valid_any ⟨f, d, r, p, e1, e2, e3, cs⟩ A cap _ hn ((HC.out.below (by go_grown)).more (by simp; omega))).mono ?_
    rw [← HW.out]
    rintro e w' ⟨rfl, hb1⟩
    obtain ⟨hc1, hf1'⟩ := bcell hb1
    have hbel := Below.trans (by go_grown : Below w.heap.size w _) (hb1.mono (by simp; omega))
    have c0 : w'.cell? ⟨w.heap.size + 1, 0, none⟩ = some (.int .u32 0) := by rw [hc1 _ _ (by simp), World.cell?_alloc_at _ _ _ _ (by simp)]; rfl
    have c1 : w'.cell? ⟨w.heap.size + 1, 1, none⟩ = some (.int .u32 0) := by rw [hc1 _ _ (by simp), World.cell?_alloc_at _ _ _ _ (by simp)]; rfl
    go_wp2_with fail
    refine bodyPost_ret (v := .agg #[.int .u32 0, .int .u32 0]) (by simp [results, Try.results74, go_sem, c0, c1]) rfl ?_
    refine ⟨ret_calls ?_ ?_, (hbel.setCell (by show w.heap.size ≤ w.heap.size + 1; omega) _).setCell (by show w.heap.size ≤ w.heap.size + 1; omega) _⟩
    · rw [H1.out]; rfl
    · rw [H2.out]; rfl
end

section
namespace Crc

/-- One shift of a register of b bits. -/
def sh (b d r : Nat) : Nat := (2 * r % 2 ^ b) ^^^ (if 2 ^ (b - 1) ≤ r then d else 0)

/-- j shifts. -/
def shN (b d : Nat) : Nat → Nat → Nat
  | 0, r => r
  | j + 1, r => shN b d j (sh b d r)

theorem shN_succ (b d j r : Nat) : shN b d (j + 1) r = sh b d (shN b d j r) := by
  induction j generalizing r with
  | zero => rfl
  | succ j ih => exact ih (sh b d r)
theorem sh_lt {n d x : Nat} (hd : d < 2 ^ (n + 1)) : sh (n + 1) d x < 2 ^ (n + 1) := by
  unfold sh
  refine Nat.xor_lt_two_pow (Nat.mod_lt _ (Nat.two_pow_pos _)) ?_
  split
  · exact hd
  · exact Nat.two_pow_pos _
theorem shN_lt {n d : Nat} (hd : d < 2 ^ (n + 1)) (j : Nat) {x : Nat} (hx : x < 2 ^ (n + 1)) : shN (n + 1) d j x < 2 ^ (n + 1) := by
  induction j generalizing x with
  | zero => exact hx
  | succ j ih => exact ih (sh_lt hd)
/-- A register of m + 8 bits takes in a byte at its top, and shifts eight times. -/
def step (m d r x : Nat) : Nat := shN (m + 7 + 1) d 8 (r ^^^ (x * 2 ^ m))
def reg (m d : Nat) (r : Nat) (l : List UInt8) : Nat := l.foldl (fun r x => step m d r x.toNat) r

theorem reg_append (m d r : Nat) (l k : List UInt8) : reg m d r (l ++ k) = reg m d (reg m d r l) k := List.foldl_append
theorem two_mul_pow (m : Nat) : 256 * 2 ^ m = 2 ^ (m + 7 + 1) := by rw [show m + 7 + 1 = m + 8 from rfl, Nat.pow_add]; omega
theorem mul_top (m : Nat) {x : Nat} (hx : x < 256) : x * 2 ^ m < 2 ^ (m + 7 + 1) := by
  rw [← two_mul_pow]; exact Nat.mul_lt_mul_of_pos_right hx (Nat.two_pow_pos m)
section
variable {m d : Nat} (hd2 : d < 2 ^ (m + 7 + 1))
include hd2
theorem step_lt {r : Nat} (hr : r < 2 ^ (m + 7 + 1)) {x : Nat} (hx : x < 256) : step m d r x < 2 ^ (m + 7 + 1) :=
  shN_lt hd2 8 (Nat.xor_lt_two_pow hr (mul_top m hx))
theorem reg_lt {r : Nat} (hr : r < 2 ^ (m + 7 + 1)) (l : List UInt8) : reg m d r l < 2 ^ (m + 7 + 1) := by
  induction l generalizing r with
  | nil => exact hr
  | cons x l ih => exact ih (step_lt hd2 hr x.toNat_lt)
omit hd2 in
omit hd2 in
end
end Crc
end

section
open Go.RowKit

theorem ret_u16 {a b : Int} (h : a = b) : Ending.returned (.int .u16 a) = .returned (.int .u16 b) := by rw [h]
theorem sh16_hi {r : Nat} (h : 32768 ≤ r) : Crc.sh 16 4129 r = (2 * r % 65536) ^^^ 4129 := by
  unfold Crc.sh; rw [if_pos (by omega)]
theorem sh16_lo {r : Nat} (h : r < 32768) : Crc.sh 16 4129 r = 2 * r % 65536 := by
  unfold Crc.sh; rw [if_neg (by omega)]; simp
theorem wrap16 (r : Nat) : IntKind.u16.wrap ((r : Int) * 2) = ((2 * r % 65536 : Nat) : Int) := by rw [IntKind.wrap_u16]; omega

set_option maxHeartbeats 400000 in
theorem shift16_any (r : Nat) (w : World) (hr : r < 65536) :
    Calls Try.prog 85 #[.int .u16 r] w fun e w' => e = .returned (.int .u16 (Crc.sh 16 4129 r : Nat)) ∧ w = w' := by
  by_cases h : 32768 ≤ r
  · have hd : (((r : Int) / 32768) == 1) = true := beq_iff_eq.2 (by omega)
    go_enter Try.func85, Try.ntmps85
    go_wp2
    go_ret
    refine ⟨ret_u16 ?_, rfl⟩
    rw [sh16_hi h, wrap16]
    exact u16_xor_nat _ 4129 (by omega) (by omega)
  · have hd : (((r : Int) / 32768) == 1) = false := beq_eq_false_iff_ne.2 (by omega)
    go_enter Try.func85, Try.ntmps85
    go_wp2
    go_ret
    refine ⟨ret_u16 ?_, rfl⟩
    rw [sh16_lo (by omega)]
    omega
end

section
open Go.RowKit

/-- The bytes of a string. -/
abbrev bl (s : ByteArray) : List UInt8 := s.data.toList
theorem take_bl (s : ByteArray) (k : Nat) (h : k < s.size) : (bl s).take (k + 1) = (bl s).take k ++ [s[k]] := by
  rw [List.take_succ_eq_append_getElem (by simpa using h)]; rfl
def sum16 (l : List UInt8) : Nat := Crc.reg 8 4129 65535 l
theorem sum16_lt (l : List UInt8) : sum16 l < 65536 := Crc.reg_lt (m := 8) (d := 4129) (by decide) (by decide) l
theorem sum16_snoc (s : ByteArray) (k : Nat) (h : k < s.size) : sum16 ((bl s).take (k + 1)) = Crc.shN 16 4129 8 (sum16 ((bl s).take k) ^^^ s[k].toNat * 256) := by
  rw [take_bl s k h]; unfold sum16; rw [Crc.reg_append]; rfl
theorem shN16_lt (j : Nat) {x : Nat} (hx : x < 65536) : Crc.shN 16 4129 j x < 65536 := Crc.shN_lt (n := 15) (d := 4129) (by decide) j hx
theorem byte_in16 (r : Nat) (hr : r < 65536) (c : UInt8) : bits .xor .u16 (r : Int) (IntKind.u16.wrap (IntKind.u16.wrap (c.toNat : Int) * 256)) = ((r ^^^ c.toNat * 256 : Nat) : Int) := by
  have hc := c.toNat_lt
  rw [IntKind.wrap_u16, IntKind.wrap_u16, show (((c.toNat : Int) % 65536 * 256) % 65536) = ((c.toNat * 256 : Nat) : Int) from by omega]
  exact u16_xor_nat _ _ hr (by omega)
theorem byte_in16_lt (r : Nat) (hr : r < 65536) (c : UInt8) : r ^^^ c.toNat * 256 < 65536 := Nat.xor_lt_two_pow (n := 16) hr (by have := c.toNat_lt; omega)
set_option maxHeartbeats 400000 in
theorem sum16_any (s : ByteArray) (w : World) (hs : s.size ≤ maxLen) :
    Calls Try.prog 83 #[.string s] w fun e w' => e = .returned (.int .u16 (sum16 (bl s) : Nat)) ∧ w = w' := by
  unfold maxLen at hs
  go_enter Try.func83, Try.ntmps83
  go_wp2
  go_loop [3, 7] (fun r i => ∃ k : Nat, k ≤ s.size ∧ i = .int .i64 k ∧ r = .int .u16 (sum16 ((bl s).take k) : Nat)) (fun _ i => s.size - (intOf i).toNat)
  case atStart => exact ⟨0, Nat.zero_le _, rfl, rfl⟩
  case round =>
    obtain ⟨k, hk, rfl, rfl⟩ := hrel
    have hb := sum16_lt ((bl s).take k)
    by_cases hlt : k < s.size
    · have HS : Hid (sum16 ((bl s).take (k + 1)) = Crc.shN 16 4129 8 (sum16 ((bl s).take k) ^^^ s[k].toNat * 256)) := sum16_snoc s k hlt
      go_wp2
      rw [byte_in16 _ hb]
      have hx := byte_in16_lt _ hb s[k]
      generalize sum16 ((bl s).take k) ^^^ s[k].toNat * 256 = x at *
      go_loop [3, 17] (fun r i => ∃ j : Nat, j ≤ 8 ∧ i = .int .i64 j ∧ r = .int .u16 (Crc.shN 16 4129 j x : Nat)) (fun _ i => 8 - (intOf i).toNat)
      case atStart => exact ⟨0, Nat.zero_le _, rfl, rfl⟩
      case round =>
        obtain ⟨j, hj, rfl, rfl⟩ := hrel
        have hy := shN16_lt j hx
        by_cases hj8 : j < 8
        · have HJ : Hid (Crc.shN 16 4129 (j + 1) x = Crc.sh 16 4129 (Crc.shN 16 4129 j x)) := Crc.shN_succ _ _ _ _
          go_wp2_with (go_at_call 85; refine (shift16_any _ _ hy).mono ?_; rintro e w' ⟨rfl, rfl⟩)
          go_round
          case rel => exact ⟨j + 1, by omega, by go_num, by rw [HJ.out]⟩
          case measure => simp [intOf]; omega
        · obtain rfl : j = 8 := by omega
          go_wp2
          go_round
          case rel => exact ⟨k + 1, by omega, by go_num, by rw [HS.out]⟩
          case measure => simp [intOf]; omega
    · go_wp2
      go_ret
      exact ⟨ret_u16 (by rw [List.take_of_length_le (by simp; omega)]), rfl⟩
end
end Go.Proofs.Ythbfpdkgbkpmiaa
