/- What the texts behind this one rest on: several texts in one. No statement of the seat is proved here. -/
import Derived.Test.YthbfpdkgbkpmiaaG0
import Derived.Test.YthbfpdkgbkpmiaaG1
namespace Go.Proofs.Ythbfpdkgbkpmiaa
section
open Go.RowKit

def ascTo (zs : List Nat) (k : Nat) : Prop := ∀ i, i < k → fltB (zs.getD i 0) (zs.getD (i + 1) 0) = true
def ascB (zs : List Nat) : Bool := decide (∀ i, i < zs.length - 1 → fltB (zs.getD i 0) (zs.getD (i + 1) 0) = true)

theorem ascending_any (b off cap : Nat) (zs : List Nat) (w : World) (h0 : 0 < zs.length) (hn : zs.length ≤ 1000) (hb : b < w.heap.size) (hc : FloatsAt w b off zs) :
    Calls Try.prog 69 #[.slice (some ⟨b, off, none⟩) zs.length cap] w fun e w' => e = .returned (.bool (ascB zs)) ∧ Below w.heap.size w w' := by
  have HC := Lib.hid hc
  clear hc
  go_enter Try.func69, Try.ntmps69
  go_wp2
  go_loopw [3] (fun v wr => ∃ k : Nat, k + 1 ≤ zs.length ∧ v = .int .i64 ((k : Int) + 1) ∧ Hid (ascTo zs k) ∧ Below w.heap.size w wr) (fun v _ => zs.length - (intOf v).toNat)
  case atStart => exact ⟨0, h0, rfl, fun i hi => absurd hi (by omega), Below.refl _ _⟩
  case round =>
    obtain ⟨k, hk, rfl, hall, hbel⟩ := hrel
    by_cases hlt : k + 1 < zs.length
    · obtain ⟨x, hx⟩ : ∃ x, x = zs.getD k 0 := ⟨_, rfl⟩
      obtain ⟨y, hy⟩ : ∃ y, y = zs.getD (k + 1) 0 := ⟨_, rfl⟩
      have g0 : wr.cell? ⟨b, off + k, none⟩ = some (.float .f64 x) := by rw [hx]; exact (hbel.cell (p := ⟨b, off + k, none⟩) hb).trans (HC.out k (by omega))
      have g1 : wr.cell? ⟨b, off + (k + 1), none⟩ = some (.float .f64 y) := by rw [hy]; exact (hbel.cell (p := ⟨b, off + (k + 1), none⟩) hb).trans (HC.out (k + 1) (by omega))
      have HX := Lib.hid hx
      have HY := Lib.hid hy
      clear hx hy
      rcases Bool.eq_false_or_eq_true (FloatKind.f64.format.order x y == some .lt) with hf | hf
      · go_wp2_with fail
        go_quiet (fail)
        go_wp2
        go_roundw
        case rel =>
          refine ⟨k + 1, by omega, by go_num, fun i hi => ?_, ?_⟩
          · rcases Nat.lt_or_ge i k with h | h
            · exact hall.out i h
            · obtain rfl : i = k := by omega
              rw [← HX.out, ← HY.out]
              exact hf
          · exact ⟨hbel.os, hbel.tape, hbel.output, hbel.size, hbel.block⟩
        case measure => simp [intOf]; omega
      · go_wp2_with fail
        go_quiet (fail)
        go_wp2
        go_ret
        refine ⟨ret_bool ?_, hbel.os, hbel.tape, hbel.output, hbel.size, hbel.block⟩
        unfold ascB
        symm
        rw [decide_eq_false_iff_not]
        intro h
        have := h k (by omega)
        rw [← HX.out, ← HY.out] at this
        unfold fltB at this
        rw [hf] at this
        cases this
    · go_wp2
      go_ret
      refine ⟨ret_bool ?_, hbel⟩
      unfold ascB
      symm
      rw [decide_eq_true_iff]
      intro i hi
      exact hall.out i (by omega)

theorem ascending_new (w : World) (cs : Array Value) (t : TypeId) (b n cap : Nat) (zs : List Nat) (hb : b = w.heap.size) (hn : cs.size = n) (h0 : 0 < n) (hle : n ≤ 1000) (hz : IsFloats cs.toList zs) :
    Calls Try.prog 69 #[.slice (some ⟨b, 0, none⟩) n cap] (w.alloc (.cells cs t)) fun e w' => e = .returned (.bool (ascB zs)) ∧ Below (w.alloc (.cells cs t)).heap.size (w.alloc (.cells cs t)) w' := by
  have hl : zs.length = n := by have := congrArg List.length hz.eq; rw [List.length_map, Array.length_toList] at this; omega
  subst hl
  exact ascending_any b 0 cap zs _ h0 hle (by subst hb; simp) (floatsAt_new hb hz.eq)
end

section
open Go.RowKit

theorem frombits_run (n : Int) (w : World) : (callFunc 50 #[.int .u64 n]).run Try.prog w = .ok (.value (.float .f64 n.toNat)) w := by
  rw [run_callFunc_extern (e := Extern.MathFloatBits.float64frombits) Try.func50 (by kernel_rfl) (by kernel_rfl) (by kernel_rfl) (by kernel_rfl)]
  rfl

theorem inf_any (s : Int) (hs : 0 ≤ s) (w : World) : Calls Try.prog 26 #[.int .i64 s] w fun e w' => e = .returned (.float .f64 9218868437227405312) ∧ w = w' := by
  have hr := frombits_run 9218868437227405312
  go_enter Try.func26, Try.ntmps26
  go_wp2
  go_ret
  exact ⟨rfl, rfl⟩
end

section
open Go.RowKit

def loadsB (b : BldD) : Bool := ascB [0, b.empty, b.full, b.over, 9218868437227405312]
def roomB (b : BldD) : Bool := inAll (18 * b.cars.length + 24) 65536 [b.room]

/-- The number of the first error, or 0. -/
def validE (b : BldD) : Int :=
  if inAll 2 32 [b.floors] = false then 10 else if inAll 1 8 [(b.cars.length : Int)] = false then 11 else if timesFitB b = false then 12 else if loadsB b = false then 13 else if roomB b = false then 14 else 0

theorem inAll_one {lo hi v : Int} (h : inAll lo hi [v] = true) : lo ≤ v ∧ v ≤ hi := by simpa [inAll] using h

set_option maxRecDepth 100000 in
theorem valid_any (b : BldD) (A : Option Addr) (cap : Nat) (w : World) (hn : b.cars.length ≤ 140737488355328) (hc : CarsAt w w.heap.size A b.cars) :
    Calls Try.prog 43 #[b.agg A cap] w fun e w' => e = .returned (.int .i64 (validE b)) ∧ Below w.heap.size w w' := by
  obtain ⟨f, d, r, p, e1, e2, e3, cs⟩ := b
  simp only at hn hc
  have HC := Lib.hid hc
  clear hc
  have E0 : ∀ q : BldD, validE q = if inAll 2 32 [q.floors] = false then 10 else if inAll 1 8 [(q.cars.length : Int)] = false then 11 else if timesFitB q = false then 12 else if loadsB q = false then 13 else if roomB q = false then 14 else 0 := fun _ => rfl
  have E1 := Lib.hid (E0 ⟨f, d, r, p, e1, e2, e3, cs⟩)
  clear E0
  simp only [BldD.agg]
  rcases Bool.eq_false_or_eq_true (inAll 2 32 [f]) with h1 | h1
  · rcases Bool.eq_false_or_eq_true (inAll 1 8 [(cs.length : Int)]) with h2 | h2
    · have hf := inAll_one h1
      have hl := inAll_one h2
      obtain ⟨hf1, hf2⟩ := hf
      obtain ⟨hl1, hl2⟩ := hl
      rcases Bool.eq_false_or_eq_true (timesFitB ⟨f, d, r, p, e1, e2, e3, cs⟩) with h3 | h3
      · go_enter Try.func43, Try.ntmps43
        go_wp2_with (first
          | (go_at_call 67; refine (within_new _ _ _ _ _ _ _ _ _ (by simp) (by rfl) (by omega) (by repeat constructor)).mono ?_; rintro e w' ⟨rfl, rfl⟩)
          | (go_at_call 68; refine (timesFit_any ⟨f, d, r, p, e1, e2, e3, cs⟩ A cap _ (by simp only; omega) (by simp only; omega) (by simp only; omega) ((HC.out.below (by go_grown)).more (by simp; omega))).mono ?_; rintro e w' ⟨rfl, hb1⟩))
        have hbel : Below (w.heap.size + 1) (w.alloc (.cells #[.int .i64 f, .int .i64 d, .int .i64 r, .int .i64 p, .float .f64 e1, .float .f64 e2, .float .f64 e3, .slice A cs.length cap] 25)) w' :=
          Below.trans (by go_grown) (hb1.mono (by simp))
        clear hb1
        have g2 : w'.cell? ⟨w.heap.size, 2, none⟩ = some (.int .i64 r) := cell_new_below hbel 2
        have g4 : w'.cell? ⟨w.heap.size, 4, none⟩ = some (.float .f64 e1) := cell_new_below hbel 4
        have g5 : w'.cell? ⟨w.heap.size, 5, none⟩ = some (.float .f64 e2) := cell_new_below hbel 5
        have g6 : w'.cell? ⟨w.heap.size, 6, none⟩ = some (.float .f64 e3) := cell_new_below hbel 6
        have g7 : w'.cell? ⟨w.heap.size, 7, none⟩ = some (.slice A cs.length cap) := cell_new_below hbel 7
        go_still_tail 7, (by kernel_rfl)
        still_call ((inf_any 1 (by omega) _).mono fun _ _ h => ⟨h.1, h.2.symm⟩)
        refine wpStill_nil ?_
        have hbd : Below (w.heap.size + 1) (w.alloc (.cells #[.int .i64 f, .int .i64 d, .int .i64 r, .int .i64 p, .float .f64 e1, .float .f64 e2, .float .f64 e3, .slice A cs.length cap] 25)) w'.drew := hbel.drew
        change wpList _ _ _ _ _ w'.drew
        clear g2 g4 g5 g6 g7 hbel
        generalize w'.drew = w2 at *
        have g2 : w2.cell? ⟨w.heap.size, 2, none⟩ = some (.int .i64 r) := cell_new_below hbd 2
        have g7 : w2.cell? ⟨w.heap.size, 7, none⟩ = some (.slice A cs.length cap) := cell_new_below hbd 7
        have hz : w.heap.size < w2.heap.size := by have := hbd.size; simp at this; omega
        go_wp2_with fail
        refine (ascending_new _ _ _ _ _ _ _ (by simp) (by rfl) (by omega) (by omega) (by repeat constructor)).mono ?_
        rintro e w3 ⟨rfl, hb2⟩
        have hbe := hbd.trans (((Below.refl _ _).alloc (by omega) _).trans (hb2.mono (by simp; omega)))
        clear g2 g7 hb2 hbd hz
        have g2 : w3.cell? ⟨w.heap.size, 2, none⟩ = some (.int .i64 r) := cell_new_below hbe 2
        have g7 : w3.cell? ⟨w.heap.size, 7, none⟩ = some (.slice A cs.length cap) := cell_new_below hbe 7
        have hz : w.heap.size < w3.heap.size := by have := hbe.size; simp at this; omega
        have hcs : ((cs.length : Nat) : Int) ≤ 8 := by omega
        rcases Bool.eq_false_or_eq_true (ascB [0, e1, e2, e3, 9218868437227405312]) with h4 | h4
        · rcases Bool.eq_false_or_eq_true (inAll (18 * (cs.length : Int) + 24) 65536 [r]) with h5 | h5
          · go_wp2_with (go_at_call 67; refine (within_new _ _ _ _ _ _ _ _ _ (by simp) (by rfl) (by omega) (by repeat constructor)).mono ?_; rintro e w' ⟨rfl, rfl⟩)
            go_ret
            refine ⟨ret_int ?_, (below_of_new hbe).alloc (by omega) _⟩
            have h4' : loadsB ⟨f, d, r, p, e1, e2, e3, cs⟩ = true := h4
            have h5' : roomB ⟨f, d, r, p, e1, e2, e3, cs⟩ = true := h5
            rw [E1.out, h1, h2, h3, h4', h5']
            rfl
          · go_wp2_with (go_at_call 67; refine (within_new _ _ _ _ _ _ _ _ _ (by simp) (by rfl) (by omega) (by repeat constructor)).mono ?_; rintro e w' ⟨rfl, rfl⟩)
            go_ret
            refine ⟨ret_int ?_, (below_of_new hbe).alloc (by omega) _⟩
            have h4' : loadsB ⟨f, d, r, p, e1, e2, e3, cs⟩ = true := h4
            have h5' : roomB ⟨f, d, r, p, e1, e2, e3, cs⟩ = false := h5
            rw [E1.out, h1, h2, h3, h4', h5']
            rfl
        · go_wp2
          go_ret
          refine ⟨ret_int ?_, below_of_new hbe⟩
          have h4' : loadsB ⟨f, d, r, p, e1, e2, e3, cs⟩ = false := h4
          rw [E1.out, h1, h2, h3, h4']
          rfl
      · go_enter Try.func43, Try.ntmps43
        go_wp2_with (first
          | (go_at_call 67; refine (within_new _ _ _ _ _ _ _ _ _ (by simp) (by rfl) (by omega) (by repeat constructor)).mono ?_; rintro e w' ⟨rfl, rfl⟩)
          | (go_at_call 68; refine (timesFit_any ⟨f, d, r, p, e1, e2, e3, cs⟩ A cap _ (by simp only; omega) (by simp only; omega) (by simp only; omega) ((HC.out.below (by go_grown)).more (by simp; omega))).mono ?_; rintro e w' ⟨rfl, hb1⟩))
        go_ret
        refine ⟨ret_int ?_, Below.trans (by go_grown) (hb1.mono (by simp; omega))⟩
        rw [E1.out, h1, h2, h3]
        rfl
    · go_enter Try.func43, Try.ntmps43
      go_wp2_with (go_at_call 67; refine (within_new _ _ _ _ _ _ _ _ _ (by simp) (by rfl) (by omega) (by repeat constructor)).mono ?_; rintro e w' ⟨rfl, rfl⟩)
      go_ret
      refine ⟨ret_int ?_, by go_grown⟩
      rw [E1.out, h1, h2]
      rfl
  · go_enter Try.func43, Try.ntmps43
    go_wp2_with (go_at_call 67; refine (within_new _ _ _ _ _ _ _ _ _ (by simp) (by rfl) (by omega) (by repeat constructor)).mono ?_; rintro e w' ⟨rfl, rfl⟩)
    go_ret
    refine ⟨ret_int ?_, by go_grown⟩
    rw [E1.out, h1]
    rfl
end

section

theorem read_max : FloatKind.f64.format.read 9218868437227405311 = .number false 9007199254740991 971 := by decide +kernel
theorem read_inf : FloatKind.f64.format.read 9218868437227405312 = .infinity false := by decide +kernel

theorem read_form (x : Nat) : (∃ n m i, FloatKind.f64.format.read x = .number n m i ∧ m ≤ 9007199254740991 ∧ i ≤ 971) ∨ (∃ n, FloatKind.f64.format.read x = .infinity n) ∨ (∃ n t, FloatKind.f64.format.read x = .nan n t) := by
  have hb : FloatKind.f64.format.binade = 4503599627370496 := by decide +kernel
  have hi : FloatKind.f64.format.infRung = 9218868437227405312 := by decide +kernel
  have hl : FloatKind.f64.format.leastPlace = -1074 := by decide +kernel
  unfold Ieee.Format.read
  rw [hb, hi, hl]
  dsimp only
  split
  · exact .inl ⟨_, _, _, rfl, by omega, by omega⟩
  · split
    · exact .inl ⟨_, _, _, rfl, by omega, by omega⟩
    · split
      · exact .inr (.inl ⟨_, rfl⟩)
      · exact .inr (.inr ⟨_, _, rfl⟩)

/-- Go's 'x <= y' on float64, by their bits. -/
def fleB (x y : Nat) : Bool := FloatKind.f64.format.order x y == some .lt || FloatKind.f64.format.order x y == some .eq

theorem fle_max (x : Nat) : fleB x 9218868437227405311 = fltB x 9218868437227405312 := by
  unfold fleB fltB Ieee.Format.order
  rw [read_max, read_inf]
  rcases read_form x with ⟨n, m, i, h, hm, hi⟩ | ⟨n, h⟩ | ⟨n, t, h⟩
  · rw [h]
    have hle : Ieee.signed n m (i - min i 971).toNat ≤ Ieee.signed false 9007199254740991 (971 - min i 971).toNat := by
      have h0 : (i - min i 971).toNat = 0 := by omega
      rw [h0]
      have hp : 1 ≤ 2 ^ (971 - min i 971).toNat := Nat.one_le_two_pow
      have hq : m * 1 ≤ 9007199254740991 * 2 ^ (971 - min i 971).toNat := Nat.mul_le_mul hm hp
      unfold Ieee.signed
      rw [Nat.shiftLeft_eq, Nat.shiftLeft_eq]
      generalize 2 ^ (971 - min i 971).toNat = q at hp hq ⊢
      cases n <;> simp <;> omega
    simp only [Ieee.Datum.order]
    rcases Int.lt_or_eq_of_le hle with hlt | heq
    · have hc : compare (Ieee.signed n m (i - min i 971).toNat) (Ieee.signed false 9007199254740991 (971 - min i 971).toNat) = .lt := by
        show compareOfLessAndEq _ _ = _
        unfold compareOfLessAndEq
        rw [if_pos hlt]
      rw [hc]; rfl
    · rw [heq]
      have hc : ∀ z : Int, compare z z = .eq := fun z => by
        show compareOfLessAndEq _ _ = _
        unfold compareOfLessAndEq
        rw [if_neg (by omega), if_pos rfl]
      rw [hc]; rfl
  · rw [h]; cases n <;> rfl
  · rw [h]; rfl
end
end Go.Proofs.Ythbfpdkgbkpmiaa
