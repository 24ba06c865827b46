/- The law BuildingCalls: the hall calls of every building, and the set of all of them, are the reference's. No condition. -/
import Derived.Test.YtlfihfkiihdkfaaSane
import Derived.Test.YtlfihfkiihdkfaaRefHall
import Derived.Test.YtlfihfkiihdkfaaSmall
import Derived.Test.YtlfihfkiihdkfaaBox
import Derived.Test.YtlfihfkiihdkfaaBag
import Derived.Test.YtlfihfkiihdkfaaOpen
namespace Go.Proofs.Ytlfihfkiihdkfaa
open Go.RowKit Go.ChangeShapes Go.WideShapes Go.ChangeAt

/-- A building's eight cells in memory. -/
def boxAt (w : World) (k : Nat) (f d r p : Int) (e1 e2 e3 : Nat) (A : Option Addr) (n cap : Nat) : Prop :=
  w.cell? ⟨k, 0, none⟩ = some (.int .i64 f) ∧ w.cell? ⟨k, 1, none⟩ = some (.int .i64 d) ∧ w.cell? ⟨k, 2, none⟩ = some (.int .i64 r) ∧ w.cell? ⟨k, 3, none⟩ = some (.int .i64 p) ∧ w.cell? ⟨k, 4, none⟩ = some (.float .f64 e1) ∧ w.cell? ⟨k, 5, none⟩ = some (.float .f64 e2) ∧ w.cell? ⟨k, 6, none⟩ = some (.float .f64 e3) ∧ w.cell? ⟨k, 7, none⟩ = some (.slice A n cap)

theorem boxAt.below {w w' : World} {B k : Nat} {f d r p : Int} {e1 e2 e3 : Nat} {A : Option Addr} {n cap : Nat} (h : boxAt w k f d r p e1 e2 e3 A n cap) (hb : Below B w w') (hk : k < B) : boxAt w' k f d r p e1 e2 e3 A n cap := by
  obtain ⟨h0, h1, h2, h3, h4, h5, h6, h7⟩ := h
  exact ⟨(hb.cell (p := ⟨k, _, none⟩) hk).trans h0, (hb.cell (p := ⟨k, _, none⟩) hk).trans h1, (hb.cell (p := ⟨k, _, none⟩) hk).trans h2, (hb.cell (p := ⟨k, _, none⟩) hk).trans h3, (hb.cell (p := ⟨k, _, none⟩) hk).trans h4, (hb.cell (p := ⟨k, _, none⟩) hk).trans h5, (hb.cell (p := ⟨k, _, none⟩) hk).trans h6, (hb.cell (p := ⟨k, _, none⟩) hk).trans h7⟩

theorem isCall_bit {b : BldD} {k : Nat} : (isCallF b k 1 = true → hallUp b / 2 ^ k % 2 = 1) ∧ (isCallF b k 2 = true → hallDown b / 2 ^ k % 2 = 1) := by
  have h1 : ∀ F k : Fin 33, k.val + 1 < F.val → (2 ^ (F.val - 1) - 1) / 2 ^ k.val % 2 = 1 := by decide +kernel
  have h2 : ∀ F k : Fin 33, 1 ≤ k.val → k.val < F.val → (2 ^ F.val - 2) / 2 ^ k.val % 2 = 1 := by decide +kernel
  by_cases hv : validE b = 0
  · have hF := fine_of hv
    obtain ⟨⟨hf1, hf2⟩, -, -⟩ := hF
    constructor
    · intro h
      simp [isCallF, hv, inAll] at h
      simp only [hallUp, hv, if_true]
      exact h1 ⟨b.floors.toNat, by omega⟩ ⟨k, by omega⟩ (by show k + 1 < b.floors.toNat; omega)
    · intro h
      simp [isCallF, hv, inAll] at h
      simp only [hallDown, hv, if_true]
      exact h2 ⟨b.floors.toNat, by omega⟩ ⟨k, by omega⟩ (by show 1 ≤ k; omega) (by show k < b.floors.toNat; omega)
  · constructor <;> intro h <;> simp [isCallF, hv] at h

set_option maxHeartbeats 2000000 in
theorem lawCalls_no (b : BldD) (A : Option Addr) (cap : Nat) (floor dir : Int) (w : World) (hc : CarsAt w w.heap.size A b.cars) (hlen : b.cars.length ≤ 9223372036854775807) (hs : smallB b = false) :
    Calls Try.prog 5 #[b.agg A cap, .int .i64 floor, .int .i64 dir] w fun e w' => e = .returned (.bool true) ∧ Below w.heap.size w w' := by
  obtain ⟨f, d, r, p, e1, e2, e3, cs⟩ := b
  simp only at hc hlen
  have HC := Lib.hid hc
  clear hc
  simp only [BldD.agg]
  go_enter Try.func5, Try.ntmps5
  go_wp2_with fail
  refine (small_any ⟨f, d, r, p, e1, e2, e3, cs⟩ A cap _ ((HC.out.below (by go_grown)).more (by simp)) hlen).mono ?_
  rw [hs]
  rintro e w' ⟨rfl, hb1⟩
  go_wp2_with fail
  refine (sane_any _).mono ?_
  rintro e w2 ⟨rfl, hb2⟩
  go_wp2
  go_ret
  have hx : Below w.heap.size w w' := Below.trans (by go_grown) (hb1.mono (by simp))
  exact ⟨rfl, hx.trans (hb2.mono hx.size)⟩

theorem hall_lt {b : BldD} : hallUp b < 4294967296 ∧ hallDown b < 4294967296 := by
  have h : ∀ F : Fin 33, 2 ^ (F.val - 1) - 1 < 4294967296 ∧ 2 ^ F.val - 2 < 4294967296 := by decide +kernel
  by_cases hv : validE b = 0
  · have hF := fine_of hv
    obtain ⟨⟨hf1, hf2⟩, -, -⟩ := hF
    simp only [hallUp, hallDown, hv, if_true]
    exact h ⟨b.floors.toNat, by omega⟩
  · simp [hallUp, hallDown, hv]

theorem bit_of {U k : Nat} (h : U / 2 ^ k % 2 = 1) (hU : U / 2 ^ k < 4294967296) : bits .and .u32 ((U : Int) / 2 ^ k) 1 = 1 := by
  have e : ((U : Int) / 2 ^ k) = ((U / 2 ^ k : Nat) : Int) := by simp
  rw [e]
  generalize U / 2 ^ k = n at h hU
  have h1 := bits_mask .u32 32 (by decide) (fun n h0 h1 => by rw [IntKind.wrap_u32]; omega) 1 (by decide) (n : Int) (by omega) (by omega)
  have h2 : bits .and .u32 (n : Int) 1 = (n : Int) % 2 := h1
  rw [h2]; omega

theorem isCallF_true {b : BldD} {z y : Int} (h : isCallF b z y = true) : ∃ k : Nat, z = k ∧ k < 32 ∧ (y = 1 ∨ y = 2) := by
  by_cases hv : validE b = 0
  · have hF := fine_of hv
    obtain ⟨⟨hf1, hf2⟩, -, -⟩ := hF
    simp [isCallF, hv, inAll] at h
    exact ⟨z.toNat, by omega, by omega, by omega⟩
  · simp [isCallF, hv] at h

theorem floor_ok (floor : Int) : ∃ F : Int, wrap64 (2 + wrap64 ((IntKind.u64.wrap floor).tmod 31)) = F ∧ 2 ≤ F ∧ F ≤ 32 := by
  refine ⟨_, rfl, ?_⟩
  have h0 : 0 ≤ IntKind.u64.wrap floor := by
    show 0 ≤ floor % 18446744073709551616
    omega
  generalize IntKind.u64.wrap floor = x at h0
  rw [Int.tmod_eq_emod_of_nonneg h0, IntWalk.wrap64_in (x % 31) (by omega), IntWalk.wrap64_in _ (by omega)]
  omega

set_option maxRecDepth 100000 in
set_option maxHeartbeats 20000000 in
theorem lawCalls_yes (f d r p : Int) (e1 e2 e3 : Nat) (cs : List CarD) (A : Option Addr) (cap : Nat) (floor dir : Int) (w : World) (hc : CarsAt w w.heap.size A cs) (hn : cs.length ≤ 140737488355328) (hsm : smallB ⟨f, d, r, p, e1, e2, e3, cs⟩ = true) :
    Calls Try.prog 5 #[.agg #[.int .i64 f, .int .i64 d, .int .i64 r, .int .i64 p, .float .f64 e1, .float .f64 e2, .float .f64 e3, .slice A cs.length cap], .int .i64 floor, .int .i64 dir] w fun e w' => e = .returned (.bool true) ∧ Below w.heap.size w w' := by
  have HC := Lib.hid hc
  clear hc
  have hn' : cs.length ≤ 9223372036854775807 := by omega
  go_enter Try.func5, Try.ntmps5
  go_wp2_with fail
  refine (small_any ⟨f, d, r, p, e1, e2, e3, cs⟩ A cap _ ((HC.out.below (by go_grown)).more (by simp)) hn').mono ?_
  rw [hsm]
  rintro e w' ⟨rfl, hb1⟩
  have hx : Below (w.heap.size + 1) (w.alloc (.cells #[.int .i64 f, .int .i64 d, .int .i64 r, .int .i64 p, .float .f64 e1, .float .f64 e2, .float .f64 e3, .slice A cs.length cap] 25)) w' := hb1.mono (by simp)
  clear hb1
  go_wp2_with fail
  obtain ⟨F, hF, hF1, hF2⟩ := floor_ok floor
  rw [hF]
  clear hF
  refine (sample_any F 1 _ hF1 (by omega) (by omega)).mono ?_
  rintro e w1 ⟨A2, cap2, rfl, hcars, hb1, hA⟩
  have hcars2 : CarsAt w1 w1.heap.size A2 (sampleD F 1).cars := hcars
  have hn2 : (sampleD F 1).cars.length ≤ 140737488355328 := by
    show (sampleCars F 1).length ≤ _
    rw [sampleCars_length]
    omega
  clear hcars hA
  generalize sampleD F 1 = S at hcars2 hn2
  obtain ⟨f2, d2, r2, p2, e4, e5, e6, cs2⟩ := S
  simp only at hcars2 hn2
  have HC2 := Lib.hid hcars2
  clear hcars2
  have hx1 := hx.trans (hb1.mono (box_size hx))
  clear hb1 hx
  have hz1 := box_size hx1
  have HB := Lib.hid (fun k : Nat => isCall_bit (b := ⟨f2, d2, r2, p2, e4, e5, e6, cs2⟩) (k := k))
  obtain ⟨U, hU⟩ : ∃ U, U = hallUp ⟨f2, d2, r2, p2, e4, e5, e6, cs2⟩ := ⟨_, rfl⟩
  obtain ⟨D, hD⟩ : ∃ D, D = hallDown ⟨f2, d2, r2, p2, e4, e5, e6, cs2⟩ := ⟨_, rfl⟩
  rw [← hU, ← hD] at HB
  have HUB : Hid (∀ k : Nat, U / 2 ^ k < 4294967296) := Lib.hid fun k => Nat.lt_of_le_of_lt (Nat.div_le_self _ _) (hU ▸ hall_lt.1)
  have HDB : Hid (∀ k : Nat, D / 2 ^ k < 4294967296) := Lib.hid fun k => Nat.lt_of_le_of_lt (Nat.div_le_self _ _) (hD ▸ hall_lt.2)
  have HU := Lib.hid hU
  have HD := Lib.hid hD
  clear hU hD
  simp only [BldD.agg]
  go_wp2_with fail
  refine (hall_any ⟨f2, d2, r2, p2, e4, e5, e6, cs2⟩ A2 cap2 _ hn2 ((HC2.out.below (by go_grown)).more (by simp))).mono ?_
  rw [← HU.out, ← HD.out]
  rintro e w2 ⟨rfl, hb2⟩
  simp only [callsV]
  go_wp2_with fail
  have hy : Below (w1.heap.size + 1) (w1.alloc (.cells #[.int .i64 f2, .int .i64 d2, .int .i64 r2, .int .i64 p2, .float .f64 e4, .float .f64 e5, .float .f64 e6, .slice A2 cs2.length cap2] 25)) w2 := hb2.mono (by simp)
  clear hb2
  have hxy := hx1.trans ((below_of_new hy).mono hz1)
  obtain ⟨-, a0, a1, a2, a3, a4, a5, a6, a7⟩ := boxS hxy
  obtain ⟨-, b0, b1, b2, b3, b4, b5, b6, b7⟩ := boxS hy
  have hz2 := box_size hy
  obtain ⟨W, hW⟩ : ∃ W, W = w2.alloc (.cells #[.int .u32 U, .int .u32 D] 41) := ⟨_, rfl⟩
  have hbW : Below w2.heap.size w2 W := by rw [hW]; go_grown
  have hzW : W.heap.size = w2.heap.size + 1 := by rw [hW]; simp
  have CB : Hid (boxAt W w.heap.size f d r p e1 e2 e3 A cs.length cap ∧ boxAt W w1.heap.size f2 d2 r2 p2 e4 e5 e6 A2 cs2.length cap2 ∧ W.cell? ⟨w2.heap.size, 0, none⟩ = some (.int .u32 U) ∧ W.cell? ⟨w2.heap.size, 1, none⟩ = some (.int .u32 D) ∧ CarsAt W w.heap.size A cs ∧ CarsAt W w1.heap.size A2 cs2 ∧ Below w.heap.size w W) := by
    refine ⟨boxAt.below ⟨a0, a1, a2, a3, a4, a5, a6, a7⟩ hbW (by omega), boxAt.below ⟨b0, b1, b2, b3, b4, b5, b6, b7⟩ hbW (by omega), ?_, ?_, ?_, ?_, ?_⟩
    · rw [hW]; simp [go_sem]
    · rw [hW]; simp [go_sem]
    · exact HC.out.below ((below_of_new hxy).trans (hbW.mono (by omega)))
    · exact HC2.out.below ((below_of_new hy).trans (hbW.mono (by omega)))
    · exact (below_of_new hxy).trans (hbW.mono (by omega))
  rw [← hW]
  clear hW hbW a0 a1 a2 a3 a4 a5 a6 a7 b0 b1 b2 b3 b4 b5 b6 b7 hxy hy hx1 HC HC2
  go_loopw [9] (fun v9 wr => ∃ z : Int, -1 ≤ z ∧ z ≤ 33 ∧ v9 = .int .i64 z ∧ Below W.heap.size W wr) (fun v9 _ => (33 - intOf v9).toNat)
  case atStart => exact ⟨-1, by omega, by omega, rfl, Below.refl _ _⟩
  case round =>
    obtain ⟨z, hz3, hz4, rfl, hb⟩ := hrel
    by_cases hz5 : z < 33
    · go_wp2_with fail
      have HBz := Lib.hid hb
      clear hb
      go_loopw [10] (fun v10 wx => ∃ y : Int, -1 ≤ y ∧ y ≤ 5 ∧ v10 = .int .i64 y ∧ Below W.heap.size W wx) (fun v10 _ => (5 - intOf v10).toNat)
      case atStart => exact ⟨-1, by omega, by omega, rfl, HBz.out⟩
      case round =>
        clear HBz
        obtain ⟨y, hy1, hy2, rfl, hb⟩ := hrel
        by_cases hy3 : y < 5
        · obtain ⟨I, hI⟩ : ∃ I, I = isCallF ⟨f2, d2, r2, p2, e4, e5, e6, cs2⟩ z y := ⟨_, rfl⟩
          have HI := Lib.hid hI
          clear hI
          obtain ⟨b0, b1, b2, b3, b4, b5, b6, b7⟩ := CB.out.2.1.below hb (by omega)
          go_wp2_with fail
          refine (isCall_any ⟨f2, d2, r2, p2, e4, e5, e6, cs2⟩ A2 cap2 z y _ hn2 ((CB.out.2.2.2.2.2.1.below (hb.mono (by omega))).more (by have := hb.size; omega))).mono ?_
          rw [← HI.out]
          rintro e w3 ⟨rfl, hb3⟩
          replace hb := hb.trans (hb3.mono hb.size)
          clear hb3 b0 b1 b2 b3 b4 b5 b6 b7
          obtain ⟨b0, b1, b2, b3, b4, b5, b6, b7⟩ := CB.out.2.1.below hb (by omega)
          go_wp2_with fail
          refine (refIsCall_any ⟨f2, d2, r2, p2, e4, e5, e6, cs2⟩ A2 cap2 z y _ hn2 ((CB.out.2.2.2.2.2.1.below (hb.mono (by omega))).more (by have := hb.size; omega))).mono ?_
          rw [← HI.out]
          rintro e w4 ⟨rfl, hb3⟩
          replace hb := hb.trans (hb3.mono hb.size)
          clear hb3 b0 b1 b2 b3 b4 b5 b6 b7
          obtain ⟨q0, q1⟩ : w4.cell? ⟨w2.heap.size, 0, none⟩ = some (.int .u32 U) ∧ w4.cell? ⟨w2.heap.size, 1, none⟩ = some (.int .u32 D) :=
            ⟨(hb.cell (p := ⟨w2.heap.size, 0, none⟩) (by show w2.heap.size < _; omega)).trans CB.out.2.2.1, (hb.cell (p := ⟨w2.heap.size, 1, none⟩) (by show w2.heap.size < _; omega)).trans CB.out.2.2.2.1⟩
          rcases Bool.eq_false_or_eq_true I with hI | hI
          · have hI2 := HI.out.symm.trans hI
            obtain ⟨k, rfl, hk, hy⟩ := isCallF_true hI2
            rcases hy with rfl | rfl
            · have hbit := bit_of ((HB.out k).1 hI2) (HUB.out k)
              clear hI2
              subst hI
              go_wp2_with fail
              go_roundw
              case rel => exact ⟨2, by omega, by omega, rfl, hb⟩
              case measure => simp [intOf]
            · have hbit := bit_of ((HB.out k).2 hI2) (HDB.out k)
              clear hI2
              subst hI
              go_wp2_with fail
              go_roundw
              case rel => exact ⟨3, by omega, by omega, rfl, hb⟩
              case measure => simp [intOf]
          · subst hI
            go_wp2_with fail
            go_roundw
            case rel => exact ⟨y + 1, by omega, by omega, by go_num, hb⟩
            case measure => simp [intOf]; omega
        · obtain rfl : y = 5 := by omega
          go_wp2_with fail
          go_roundw
          case rel => exact ⟨z + 1, by omega, by omega, by go_num, hb⟩
          case measure => simp [intOf]; omega
    · obtain rfl : z = 33 := by omega
      go_wp2_with fail
      obtain ⟨I1, h1⟩ : ∃ I, I = isCallF ⟨f, d, r, p, e1, e2, e3, cs⟩ floor dir := ⟨_, rfl⟩
      obtain ⟨I2, h2⟩ : ∃ I, I = isCallF ⟨f2, d2, r2, p2, e4, e5, e6, cs2⟩ floor dir := ⟨_, rfl⟩
      obtain ⟨U1, h3⟩ : ∃ I, I = hallUp ⟨f, d, r, p, e1, e2, e3, cs⟩ := ⟨_, rfl⟩
      obtain ⟨D1, h4⟩ : ∃ I, I = hallDown ⟨f, d, r, p, e1, e2, e3, cs⟩ := ⟨_, rfl⟩
      have H1 := Lib.hid h1
      have H2 := Lib.hid h2
      have H3 := Lib.hid h3
      have H4 := Lib.hid h4
      clear h1 h2 h3 h4 HB HU HD
      have F1 := Lib.hid (fun (wx : World) (hx : Below W.heap.size W wx) => isCall_any ⟨f, d, r, p, e1, e2, e3, cs⟩ A cap floor dir wx hn ((CB.out.2.2.2.2.1.below (hx.mono (by omega))).more (by have := hx.size; omega)))
      simp only [BldD.agg, ← H1.out] at F1
      have F2 := Lib.hid (fun (wx : World) (hx : Below W.heap.size W wx) => isCall_any ⟨f2, d2, r2, p2, e4, e5, e6, cs2⟩ A2 cap2 floor dir wx hn2 ((CB.out.2.2.2.2.2.1.below (hx.mono (by omega))).more (by have := hx.size; omega)))
      simp only [BldD.agg, ← H2.out] at F2
      have F3 := Lib.hid (fun (wx : World) (hx : Below W.heap.size W wx) => refIsCall_any ⟨f, d, r, p, e1, e2, e3, cs⟩ A cap floor dir wx hn ((CB.out.2.2.2.2.1.below (hx.mono (by omega))).more (by have := hx.size; omega)))
      simp only [BldD.agg, ← H1.out] at F3
      have F4 := Lib.hid (fun (wx : World) (hx : Below W.heap.size W wx) => refIsCall_any ⟨f2, d2, r2, p2, e4, e5, e6, cs2⟩ A2 cap2 floor dir wx hn2 ((CB.out.2.2.2.2.2.1.below (hx.mono (by omega))).more (by have := hx.size; omega)))
      simp only [BldD.agg, ← H2.out] at F4
      have F5 := Lib.hid (fun (wx : World) (hx : Below W.heap.size W wx) => hall_any ⟨f, d, r, p, e1, e2, e3, cs⟩ A cap wx hn ((CB.out.2.2.2.2.1.below (hx.mono (by omega))).more (by have := hx.size; omega)))
      simp only [BldD.agg, callsV, ← H3.out, ← H4.out] at F5
      have F6 := Lib.hid (fun (wx : World) (hx : Below W.heap.size W wx) => refHall_any ⟨f, d, r, p, e1, e2, e3, cs⟩ A cap wx hn ((CB.out.2.2.2.2.1.below (hx.mono (by omega))).more (by have := hx.size; omega)))
      simp only [BldD.agg, callsV, ← H3.out, ← H4.out] at F6
      refine Bag.region (fun wx => Below W.heap.size W wx) (by kernel_rfl) (by kernel_rfl) hb.drew ?_
      clear hb
      iterate 31 (first
        | (apply Bag.walk_yes (by rfl)
           (intro wx hx K hK
            obtain ⟨a0, a1, a2, a3, a4, a5, a6, a7⟩ := CB.out.1.below hx (by omega)
            obtain ⟨b0, b1, b2, b3, b4, b5, b6, b7⟩ := CB.out.2.1.below hx (by omega)
            go_simp
            first
              | (go_at_call 20; (with_reducible refine (F1.out _ hx).mono ?_); rintro e x1 ⟨rfl, hy⟩; exact hK _ (hx.trans (hy.mono hx.size)))
              | (go_at_call 20; (with_reducible refine (F2.out _ hx).mono ?_); rintro e x1 ⟨rfl, hy⟩; exact hK _ (hx.trans (hy.mono hx.size)))
              | (go_at_call 21; (with_reducible refine (F3.out _ hx).mono ?_); rintro e x1 ⟨rfl, hy⟩; exact hK _ (hx.trans (hy.mono hx.size)))
              | (go_at_call 21; (with_reducible refine (F4.out _ hx).mono ?_); rintro e x1 ⟨rfl, hy⟩; exact hK _ (hx.trans (hy.mono hx.size)))
              | (go_at_call 15; (with_reducible refine (F5.out _ hx).mono ?_); rintro e x1 ⟨rfl, hy⟩; exact hK _ (hx.trans (hy.mono hx.size)))
              | (go_at_call 16; (with_reducible refine (F6.out _ hx).mono ?_); rintro e x1 ⟨rfl, hy⟩; exact hK _ (hx.trans (hy.mono hx.size)))
              | (go_at_call 10; refine (sane_any _).mono ?_; rintro e x1 ⟨rfl, hy⟩; exact hK _ (hx.trans (hy.mono hx.size)))
              | (go_at_K; exact hK _ hx))
           rfl)
        | (refine Bag.walk_no (by rfl) ?_; simp only [Act.put, List.setIfInBounds_toArray, List.set_cons_succ, List.set_cons_zero]))
      refine Bag.walk_nil (fun w4 hx => ?_)
      go_wp2_with fail
      go_ret
      exact ⟨rfl, CB.out.2.2.2.2.2.2.trans (hx.mono (by omega))⟩

theorem lawCalls_walk (b : BldD) (A : Option Addr) (cap : Nat) (floor dir : Int) (w : World) (hc : CarsAt w w.heap.size A b.cars) (hlen : b.cars.length ≤ 9223372036854775807) :
    Calls Try.prog 5 #[b.agg A cap, .int .i64 floor, .int .i64 dir] w fun e w' => e = .returned (.bool true) ∧ Below w.heap.size w w' := by
  rcases Bool.eq_false_or_eq_true (smallB b) with hs | hs
  · obtain ⟨f, d, r, p, e1, e2, e3, cs⟩ := b
    exact lawCalls_yes f d r p e1 e2 e3 cs A cap floor dir w hc (by have := (smallB_at hs).1; simp only at this; omega) hs
  · exact lawCalls_no b A cap floor dir w hc hlen hs

set_option maxRecDepth 100000 in
theorem lawCalls_lifted (os : Os) (started : os.Started) (H : Type) (enc : TypeId × Value → H) :
    ReturnsInHanded {} Try.checked os 5 .any (Rows.buildingCallsSpec.pre6 enc Try.prog Try.f5 Rows.buildingCallsRow.domain false) (Rows.buildingCallsSpec.post enc Try.prog Try.f5 false true false false) := by
  refine returnsInHanded_of_change (C := Try.checked) own started (by kernel_rfl) Try.func5
    (ChangeSpec.witness6 (enc := enc) (C := Try.checked) false ⟨#[], #[.agg #[.int .i64 0, .int .i64 0, .int .i64 0, .int .i64 0, .float .f64 0, .float .f64 0, .float .f64 0, .slice none 0 0], .int .i64 0, .int .i64 0], []⟩ 8 (by kernel_rfl) (by kernel_rfl) (by kernel_rfl) (by kernel_rfl)) ?_
  intro W base args ds gs before hval0 hW hcnd _
  have hval : ∀ (j : Nat) t v, Try.f5.params[j]? = some t → args[j]? = some v → Value.okWide Try.prog W .any base t v := hval0
  have hW' := hW
  obtain ⟨p, q, hA0, hV, rfl, hfz, hnd⟩ := hW
  have hA : DataW.TrodAll enc Try.prog W 0 (fun _ => true) true Try.f5.params.toList args.toList ds p := hA0
  rw [Try.params5] at hA hval
  obtain ⟨v0, vs0, d0, ds0, p0, q0, hargs, rfl, rfl, h0, r0⟩ := trodAll_cons hA
  obtain ⟨v1, vs1, d1, ds1, p1, q1, rfl, rfl, rfl, h1, r1⟩ := trodAll_cons r0
  obtain ⟨v2, vs2, d2, ds2, p2, q2, rfl, rfl, rfl, h2, r2⟩ := trodAll_cons r1
  obtain ⟨rfl, rfl, rfl⟩ := trodAll_nil r2
  obtain rfl : args = #[v0, v1, v2] := by cases args; simp_all
  obtain ⟨rfl, rfl⟩ := trodVars_none hV
  have k0 := h0
  have lt0 : ∀ x ∈ p0, x.block < W.heap.size := by obtain ⟨m, hm⟩ := k0; exact DataW.trod_lt m _ _ _ hm
  obtain ⟨b, A, cap, rfl, hcars, hlen⟩ := open_building (hval 0 25 v0 rfl rfl) h0
  obtain ⟨floor, rfl, rfl, rfl, w1⟩ := open_int Try.underlying3 (hval 1 3 v1 rfl rfl) h1
  obtain ⟨dir, rfl, rfl, rfl, w2⟩ := open_int Try.underlying3 (hval 2 3 v2 rfl rfl) h2
  clear hA0 hval0
  refine (lawCalls_walk b A cap floor dir W hcars hlen).mono fun e W' ⟨he, bel⟩ => ?_
  subst he
  exact ⟨_, rfl, _, _, _, [], _, [], hW', trodAll_mk1 (shut_bool Try.underlying4 _), (trodAll_cons_mk (Below.trod laidOut (by kernel_rfl) (of_decide_eq_true (by kernel_rfl)) k0 bel lt0) (trodAll_cons_mk (shut_int Try.underlying3 w1) (trodAll_cons_mk (shut_int Try.underlying3 w2) trodAll_mk0))), rfl, bel.frame _, fun h => by cases h⟩

theorem lawCalls_over : Rows.buildingCallsRow.holds Try.pinned (OpenSpec.ofChange Rows.buildingCallsSpec) :=
  OpenClaim.holds_of_wide 5 Try.f5 rfl rfl rfl rfl rfl rfl rfl ⟨rfl, rfl, rfl, rfl, rfl⟩ rfl rfl rfl rfl rfl (by kernel_rfl) Try.func5 (by kernel_rfl)
    (of_decide_eq_true (by kernel_rfl)) (by unfold Func.isWrapper; first | (rw [if_pos (by decide +kernel)]; kernel_rfl) | (rw [if_neg (by decide +kernel)]; exact ⟨rfl, rfl⟩))
    (fun os started H enc _ => lawCalls_lifted os started H enc)

theorem buildingCalls_holds : Rows.BuildingCallsSaid := lawCalls_over
#print axioms buildingCalls_holds
end Go.Proofs.Ytlfihfkiihdkfaa
