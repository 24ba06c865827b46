/- What the texts behind this one rest on: several texts in one. No statement of the seat is proved here. -/
import Derived.Test.YthbfpdkgbkpmiaaG5
import Derived.Test.YthbfpdkgbkpmiaaG4
import Derived.Test.YthbfpdkgbkpmiaaG3
import Derived.Test.YthbfpdkgbkpmiaaG27
namespace Go.Proofs.Ythbfpdkgbkpmiaa
section
open Go.RowKit

def hallUpTo (b : BldD) (k : Nat) : Nat := if validE b = 0 then 2 ^ (min k (b.floors.toNat - 1)) - 1 else 0
def hallDownTo (b : BldD) (k : Nat) : Nat := if validE b = 0 then 2 ^ (min k b.floors.toNat) - 2 else 0

theorem hallUpTo_zero (b : BldD) : hallUpTo b 0 = 0 := by simp [hallUpTo]
theorem hallDownTo_zero (b : BldD) : hallDownTo b 0 = 0 := by simp [hallDownTo]

theorem hallUpTo_end {b : BldD} : hallUpTo b 32 = hallUp b := by
  by_cases hv : validE b = 0
  · have hF := fine_of hv
    obtain ⟨⟨h1, h2⟩, -, -⟩ := hF
    have : min 32 (b.floors.toNat - 1) = b.floors.toNat - 1 := by omega
    simp [hallUpTo, hallUp, hv, this]
  · simp [hallUpTo, hallUp, hv]

theorem hallDownTo_end {b : BldD} : hallDownTo b 32 = hallDown b := by
  by_cases hv : validE b = 0
  · have hF := fine_of hv
    obtain ⟨⟨h1, h2⟩, -, -⟩ := hF
    have : min 32 b.floors.toNat = b.floors.toNat := by omega
    simp [hallDownTo, hallDown, hv, this]
  · simp [hallDownTo, hallDown, hv]

theorem hallUpTo_no {b : BldD} {k : Nat} (h : isCallF b k 1 = false) : hallUpTo b (k + 1) = hallUpTo b k := by
  by_cases hv : validE b = 0
  · have hF := fine_of hv
    obtain ⟨⟨h1, h2⟩, -, -⟩ := hF
    simp [isCallF, hv, inAll] at h
    have : min (k + 1) (b.floors.toNat - 1) = min k (b.floors.toNat - 1) := by omega
    simp [hallUpTo, hv, this]
  · simp [hallUpTo, hv]

theorem hallDownTo_no {b : BldD} {k : Nat} (h : isCallF b k 2 = false) : hallDownTo b (k + 1) = hallDownTo b k := by
  by_cases hv : validE b = 0
  · have hF := fine_of hv
    obtain ⟨⟨h1, h2⟩, -, -⟩ := hF
    simp [isCallF, hv, inAll] at h
    by_cases h0 : k = 0
    · subst h0
      have : min 1 b.floors.toNat = 1 := by omega
      simp [hallDownTo, hv, this]
    · have : min (k + 1) b.floors.toNat = min k b.floors.toNat := by omega
      simp [hallDownTo, hv, this]
  · simp [hallDownTo, hv]

theorem hallUpTo_yes {b : BldD} {k : Nat} (h : isCallF b k 1 = true) : k < 32 ∧ hallUpTo b k = 2 ^ k - 1 ∧ hallUpTo b (k + 1) = 2 ^ (k + 1) - 1 := by
  by_cases hv : validE b = 0
  · have hF := fine_of hv
    obtain ⟨⟨h1, h2⟩, -, -⟩ := hF
    simp [isCallF, hv, inAll] at h
    have e1 : min (k + 1) (b.floors.toNat - 1) = k + 1 := by omega
    have e2 : min k (b.floors.toNat - 1) = k := by omega
    simp [hallUpTo, hv, e1, e2]; omega
  · simp [isCallF, hv] at h

theorem hallDownTo_yes {b : BldD} {k : Nat} (h : isCallF b k 2 = true) : k < 32 ∧ 1 ≤ k ∧ hallDownTo b k = 2 ^ k - 2 ∧ hallDownTo b (k + 1) = 2 ^ (k + 1) - 2 := by
  by_cases hv : validE b = 0
  · have hF := fine_of hv
    obtain ⟨⟨h1, h2⟩, -, -⟩ := hF
    simp [isCallF, hv, inAll] at h
    have e1 : min (k + 1) b.floors.toNat = k + 1 := by omega
    have e2 : min k b.floors.toNat = k := by omega
    simp [hallDownTo, hv, e1, e2]; omega
  · simp [isCallF, hv] at h

theorem up_or {k : Nat} (h : k < 32) : bits .or .u32 ((2 ^ k - 1 : Nat) : Int) (2 ^ k % 4294967296) = ((2 ^ (k + 1) - 1 : Nat) : Int) := by
  have h' : ∀ G : Fin 32, bits .or .u32 ((2 ^ G.val - 1 : Nat) : Int) (2 ^ G.val % 4294967296) = ((2 ^ (G.val + 1) - 1 : Nat) : Int) := by decide +kernel
  exact h' ⟨k, h⟩
theorem down_or {k : Nat} (h : k < 32) (HK : 1 ≤ k) : bits .or .u32 ((2 ^ k - 2 : Nat) : Int) (2 ^ k % 4294967296) = ((2 ^ (k + 1) - 2 : Nat) : Int) := by
  have h' : ∀ G : Fin 32, 1 ≤ G.val → bits .or .u32 ((2 ^ G.val - 2 : Nat) : Int) (2 ^ G.val % 4294967296) = ((2 ^ (G.val + 1) - 2 : Nat) : Int) := by decide +kernel
  exact h' ⟨k, h⟩ HK
/-- A set of calls in memory. -/
def twoAt (w : World) (b : Nat) (u d : Nat) : Prop :=
  w.cell? ⟨b, 0, none⟩ = some (.int .u32 u) ∧ w.cell? ⟨b, 1, none⟩ = some (.int .u32 d) ∧ w.frozen? ⟨b, 0, none⟩ = false ∧ w.frozen? ⟨b, 1, none⟩ = false

set_option maxHeartbeats 2000000 in
theorem refHall_any (b : BldD) (A : Option Addr) (cap : Nat) (w : World) (hn : b.cars.length ≤ 140737488355328) (hc : CarsAt w w.heap.size A b.cars) :
    Calls Try.prog 80 #[b.agg A cap] w fun e w' => e = .returned (callsV (hallUp b) (hallDown b)) ∧ Below w.heap.size w w' := by
  have HC := Lib.hid hc
  clear hc
  have HU0 := Lib.hid (hallUpTo_zero b)
  have HD0 := Lib.hid (hallDownTo_zero b)
  have HUE := Lib.hid (hallUpTo_end (b := b))
  have HDE := Lib.hid (hallDownTo_end (b := b))
  obtain ⟨f, d, r, p, e1, e2, e3, cs⟩ := b
  simp only at hn HC
  simp only [BldD.agg]
  go_enter Try.func80, Try.ntmps80
  go_wp2_with fail
  go_loopw [4] (fun v4 wr => ∃ k : Nat, k ≤ 32 ∧ v4 = .int .i64 k ∧ Below (w.heap.size + 1) (w.alloc (.cells #[.int .i64 f, .int .i64 d, .int .i64 r, .int .i64 p, .float .f64 e1, .float .f64 e2, .float .f64 e3, .slice A cs.length cap] 25)) wr ∧ w.heap.size + 3 ≤ wr.heap.size ∧ twoAt wr (w.heap.size + 1) 0 0 ∧ twoAt wr (w.heap.size + 2) (hallUpTo ⟨f, d, r, p, e1, e2, e3, cs⟩ k) (hallDownTo ⟨f, d, r, p, e1, e2, e3, cs⟩ k)) (fun v4 _ => 32 - (intOf v4).toNat)
  case atStart =>
    refine ⟨0, by omega, rfl, ?_, by simp, ?_, ?_⟩
    · go_grown
    · refine ⟨?_, ?_, ?_, ?_⟩ <;> simp [go_sem]
    · rw [HU0.out, HD0.out]
      refine ⟨?_, ?_, ?_, ?_⟩ <;> simp [go_sem]
  case round =>
    obtain ⟨k, hk, rfl, hbel, hz, ⟨q0, q1, q2, q3⟩, ⟨u0, u1, u2, u3⟩⟩ := hrel
    by_cases hlt : k < 32
    · obtain ⟨-, g0, g1, g2, g3, g4, g5, g6, g7⟩ := boxS hbel
      rcases Bool.eq_false_or_eq_true (isCallF ⟨f, d, r, p, e1, e2, e3, cs⟩ k 1) with c1 | c1
      · obtain ⟨-, eU, eV⟩ := hallUpTo_yes c1
        rw [eU] at u0
        have C1 := Lib.hid c1
        clear c1 eU
        have NM : Hid (_ = _) := Lib.hid ((up_or hlt).trans (congrArg (Nat.cast (R := Int)) eV.symm))
        clear eV
        go_wp2_with fail
        refine (refIsCall_any ⟨f, d, r, p, e1, e2, e3, cs⟩ A cap k 1 _ hn ((HC.out.below (below_of_new hbel)).more (by omega))).mono ?_
        rw [C1.out]
        rintro e w1 ⟨rfl, hb1⟩
        obtain ⟨hc1, hf1⟩ := bcell hb1
        have hbel1 := hbel.trans (hb1.mono (by omega))
        have hzw1 := hb1.size
        obtain ⟨q0, q1, q2, q3, u0, u1, u2, u3⟩ : (w1.cell? ⟨w.heap.size + 1, 0, none⟩ = some (.int .u32 0) ∧ w1.cell? ⟨w.heap.size + 1, 1, none⟩ = some (.int .u32 0) ∧ w1.frozen? ⟨w.heap.size + 1, 0, none⟩ = false ∧ w1.frozen? ⟨w.heap.size + 1, 1, none⟩ = false ∧ w1.cell? ⟨w.heap.size + 2, 0, none⟩ = some (.int .u32 (2 ^ k - 1 : Nat)) ∧ w1.cell? ⟨w.heap.size + 2, 1, none⟩ = some (.int .u32 (hallDownTo ⟨f, d, r, p, e1, e2, e3, cs⟩ k : Nat)) ∧ w1.frozen? ⟨w.heap.size + 2, 0, none⟩ = false ∧ w1.frozen? ⟨w.heap.size + 2, 1, none⟩ = false) :=
          ⟨(hc1 _ _ (by omega)).trans q0, (hc1 _ _ (by omega)).trans q1, (hf1 _ _ (by omega)).trans q2, (hf1 _ _ (by omega)).trans q3, (hc1 _ _ (by omega)).trans u0, (hc1 _ _ (by omega)).trans u1, (hf1 _ _ (by omega)).trans u2, (hf1 _ _ (by omega)).trans u3⟩
        clear hc1 hf1 hb1 g0 g1 g2 g3 g4 g5 g6 g7
        obtain ⟨-, g0, g1, g2, g3, g4, g5, g6, g7⟩ := boxS hbel1
        go_wp2_with fail
        rw [NM.out]
        obtain ⟨w2, hW⟩ : ∃ X, X = w1.setCell ⟨w.heap.size + 1 + 1, 0, none⟩ (.int .u32 (hallUpTo ⟨f, d, r, p, e1, e2, e3, cs⟩ (k + 1) : Nat)) := ⟨_, rfl⟩
        have hzw2 : w2.heap.size = w1.heap.size := by rw [hW]; simp
        have hbel2 : Below (w.heap.size + 1) _ w2 := hW ▸ hbel1.setCell (by show w.heap.size + 1 ≤ w.heap.size + 1 + 1; omega) _
        obtain ⟨q0, q1, q2, q3, u0, u1, u2, u3⟩ : (w2.cell? ⟨w.heap.size + 1, 0, none⟩ = some (.int .u32 0) ∧ w2.cell? ⟨w.heap.size + 1, 1, none⟩ = some (.int .u32 0) ∧ w2.frozen? ⟨w.heap.size + 1, 0, none⟩ = false ∧ w2.frozen? ⟨w.heap.size + 1, 1, none⟩ = false ∧ w2.cell? ⟨w.heap.size + 2, 0, none⟩ = some (.int .u32 (hallUpTo ⟨f, d, r, p, e1, e2, e3, cs⟩ (k + 1) : Nat)) ∧ w2.cell? ⟨w.heap.size + 2, 1, none⟩ = some (.int .u32 (hallDownTo ⟨f, d, r, p, e1, e2, e3, cs⟩ k : Nat)) ∧ w2.frozen? ⟨w.heap.size + 2, 0, none⟩ = false ∧ w2.frozen? ⟨w.heap.size + 2, 1, none⟩ = false) := by
          subst hW
          refine ⟨?_, ?_, ?_, ?_, ?_, ?_, ?_, ?_⟩ <;> simp [go_sem, q0, q1, q2, q3, u0, u1, u2, u3]
        rw [← hW]
        clear hW g0 g1 g2 g3 g4 g5 g6 g7
        obtain ⟨-, g0, g1, g2, g3, g4, g5, g6, g7⟩ := boxS hbel2
        clear NM
        rcases Bool.eq_false_or_eq_true (isCallF ⟨f, d, r, p, e1, e2, e3, cs⟩ k 2) with c2 | c2
        · obtain ⟨-, h1k, eU, eV⟩ := hallDownTo_yes c2
          rw [eU] at u1
          have C2 := Lib.hid c2
          clear c2 eU
          have NM : Hid (_ = _) := Lib.hid ((down_or hlt h1k).trans (congrArg (Nat.cast (R := Int)) eV.symm))
          clear eV
          go_wp2_with fail
          refine (refIsCall_any ⟨f, d, r, p, e1, e2, e3, cs⟩ A cap k 2 _ hn ((HC.out.below (below_of_new hbel2)).more (by omega))).mono ?_
          rw [C2.out]
          rintro e w3 ⟨rfl, hb1⟩
          obtain ⟨hc1, hf1⟩ := bcell hb1
          have hbel3 := hbel2.trans (hb1.mono (by omega))
          have hzw3 := hb1.size
          obtain ⟨q0, q1, q2, q3, u0, u1, u2, u3⟩ : (w3.cell? ⟨w.heap.size + 1, 0, none⟩ = some (.int .u32 0) ∧ w3.cell? ⟨w.heap.size + 1, 1, none⟩ = some (.int .u32 0) ∧ w3.frozen? ⟨w.heap.size + 1, 0, none⟩ = false ∧ w3.frozen? ⟨w.heap.size + 1, 1, none⟩ = false ∧ w3.cell? ⟨w.heap.size + 2, 0, none⟩ = some (.int .u32 (hallUpTo ⟨f, d, r, p, e1, e2, e3, cs⟩ (k + 1) : Nat)) ∧ w3.cell? ⟨w.heap.size + 2, 1, none⟩ = some (.int .u32 (2 ^ k - 2 : Nat)) ∧ w3.frozen? ⟨w.heap.size + 2, 0, none⟩ = false ∧ w3.frozen? ⟨w.heap.size + 2, 1, none⟩ = false) :=
            ⟨(hc1 _ _ (by omega)).trans q0, (hc1 _ _ (by omega)).trans q1, (hf1 _ _ (by omega)).trans q2, (hf1 _ _ (by omega)).trans q3, (hc1 _ _ (by omega)).trans u0, (hc1 _ _ (by omega)).trans u1, (hf1 _ _ (by omega)).trans u2, (hf1 _ _ (by omega)).trans u3⟩
          clear hc1 hf1 hb1 g0 g1 g2 g3 g4 g5 g6 g7
          obtain ⟨-, g0, g1, g2, g3, g4, g5, g6, g7⟩ := boxS hbel3
          go_wp2_with fail
          rw [NM.out]
          obtain ⟨w4, hW⟩ : ∃ X, X = w3.setCell ⟨w.heap.size + 1 + 1, 1, none⟩ (.int .u32 (hallDownTo ⟨f, d, r, p, e1, e2, e3, cs⟩ (k + 1) : Nat)) := ⟨_, rfl⟩
          have hzw4 : w4.heap.size = w3.heap.size := by rw [hW]; simp
          have hbel4 : Below (w.heap.size + 1) _ w4 := hW ▸ hbel3.setCell (by show w.heap.size + 1 ≤ w.heap.size + 1 + 1; omega) _
          obtain ⟨q0, q1, q2, q3, u0, u1, u2, u3⟩ : (w4.cell? ⟨w.heap.size + 1, 0, none⟩ = some (.int .u32 0) ∧ w4.cell? ⟨w.heap.size + 1, 1, none⟩ = some (.int .u32 0) ∧ w4.frozen? ⟨w.heap.size + 1, 0, none⟩ = false ∧ w4.frozen? ⟨w.heap.size + 1, 1, none⟩ = false ∧ w4.cell? ⟨w.heap.size + 2, 0, none⟩ = some (.int .u32 (hallUpTo ⟨f, d, r, p, e1, e2, e3, cs⟩ (k + 1) : Nat)) ∧ w4.cell? ⟨w.heap.size + 2, 1, none⟩ = some (.int .u32 (hallDownTo ⟨f, d, r, p, e1, e2, e3, cs⟩ (k + 1) : Nat)) ∧ w4.frozen? ⟨w.heap.size + 2, 0, none⟩ = false ∧ w4.frozen? ⟨w.heap.size + 2, 1, none⟩ = false) := by
            subst hW
            refine ⟨?_, ?_, ?_, ?_, ?_, ?_, ?_, ?_⟩ <;> simp [go_sem, q0, q1, q2, q3, u0, u1, u2, u3]
          rw [← hW]
          clear hW g0 g1 g2 g3 g4 g5 g6 g7
          obtain ⟨-, g0, g1, g2, g3, g4, g5, g6, g7⟩ := boxS hbel4
          go_wp2_with fail
          go_roundw
          case rel => exact ⟨k + 1, by omega, by go_num, hbel4, by omega, ⟨q0, q1, q2, q3⟩, ⟨u0, u1, u2, u3⟩⟩
          case measure => simp [intOf]; omega
        · rw [← hallDownTo_no c2] at u1
          have C2 := Lib.hid c2
          clear c2
          go_wp2_with fail
          refine (refIsCall_any ⟨f, d, r, p, e1, e2, e3, cs⟩ A cap k 2 _ hn ((HC.out.below (below_of_new hbel2)).more (by omega))).mono ?_
          rw [C2.out]
          rintro e w3 ⟨rfl, hb1⟩
          obtain ⟨hc1, hf1⟩ := bcell hb1
          have hbel3 := hbel2.trans (hb1.mono (by omega))
          have hzw3 := hb1.size
          obtain ⟨q0, q1, q2, q3, u0, u1, u2, u3⟩ : (w3.cell? ⟨w.heap.size + 1, 0, none⟩ = some (.int .u32 0) ∧ w3.cell? ⟨w.heap.size + 1, 1, none⟩ = some (.int .u32 0) ∧ w3.frozen? ⟨w.heap.size + 1, 0, none⟩ = false ∧ w3.frozen? ⟨w.heap.size + 1, 1, none⟩ = false ∧ w3.cell? ⟨w.heap.size + 2, 0, none⟩ = some (.int .u32 (hallUpTo ⟨f, d, r, p, e1, e2, e3, cs⟩ (k + 1) : Nat)) ∧ w3.cell? ⟨w.heap.size + 2, 1, none⟩ = some (.int .u32 (hallDownTo ⟨f, d, r, p, e1, e2, e3, cs⟩ (k + 1) : Nat)) ∧ w3.frozen? ⟨w.heap.size + 2, 0, none⟩ = false ∧ w3.frozen? ⟨w.heap.size + 2, 1, none⟩ = false) :=
            ⟨(hc1 _ _ (by omega)).trans q0, (hc1 _ _ (by omega)).trans q1, (hf1 _ _ (by omega)).trans q2, (hf1 _ _ (by omega)).trans q3, (hc1 _ _ (by omega)).trans u0, (hc1 _ _ (by omega)).trans u1, (hf1 _ _ (by omega)).trans u2, (hf1 _ _ (by omega)).trans u3⟩
          clear hc1 hf1 hb1 g0 g1 g2 g3 g4 g5 g6 g7
          obtain ⟨-, g0, g1, g2, g3, g4, g5, g6, g7⟩ := boxS hbel3
          go_wp2_with fail
          go_wp2_with fail
          go_roundw
          case rel => exact ⟨k + 1, by omega, by go_num, hbel3, by omega, ⟨q0, q1, q2, q3⟩, ⟨u0, u1, u2, u3⟩⟩
          case measure => simp [intOf]; omega
      · rw [← hallUpTo_no c1] at u0
        have C1 := Lib.hid c1
        clear c1
        go_wp2_with fail
        refine (refIsCall_any ⟨f, d, r, p, e1, e2, e3, cs⟩ A cap k 1 _ hn ((HC.out.below (below_of_new hbel)).more (by omega))).mono ?_
        rw [C1.out]
        rintro e w1 ⟨rfl, hb1⟩
        obtain ⟨hc1, hf1⟩ := bcell hb1
        have hbel1 := hbel.trans (hb1.mono (by omega))
        have hzw1 := hb1.size
        obtain ⟨q0, q1, q2, q3, u0, u1, u2, u3⟩ : (w1.cell? ⟨w.heap.size + 1, 0, none⟩ = some (.int .u32 0) ∧ w1.cell? ⟨w.heap.size + 1, 1, none⟩ = some (.int .u32 0) ∧ w1.frozen? ⟨w.heap.size + 1, 0, none⟩ = false ∧ w1.frozen? ⟨w.heap.size + 1, 1, none⟩ = false ∧ w1.cell? ⟨w.heap.size + 2, 0, none⟩ = some (.int .u32 (hallUpTo ⟨f, d, r, p, e1, e2, e3, cs⟩ (k + 1) : Nat)) ∧ w1.cell? ⟨w.heap.size + 2, 1, none⟩ = some (.int .u32 (hallDownTo ⟨f, d, r, p, e1, e2, e3, cs⟩ k : Nat)) ∧ w1.frozen? ⟨w.heap.size + 2, 0, none⟩ = false ∧ w1.frozen? ⟨w.heap.size + 2, 1, none⟩ = false) :=
          ⟨(hc1 _ _ (by omega)).trans q0, (hc1 _ _ (by omega)).trans q1, (hf1 _ _ (by omega)).trans q2, (hf1 _ _ (by omega)).trans q3, (hc1 _ _ (by omega)).trans u0, (hc1 _ _ (by omega)).trans u1, (hf1 _ _ (by omega)).trans u2, (hf1 _ _ (by omega)).trans u3⟩
        clear hc1 hf1 hb1 g0 g1 g2 g3 g4 g5 g6 g7
        obtain ⟨-, g0, g1, g2, g3, g4, g5, g6, g7⟩ := boxS hbel1
        go_wp2_with fail
        rcases Bool.eq_false_or_eq_true (isCallF ⟨f, d, r, p, e1, e2, e3, cs⟩ k 2) with c2 | c2
        · obtain ⟨-, h1k, eU, eV⟩ := hallDownTo_yes c2
          rw [eU] at u1
          have C2 := Lib.hid c2
          clear c2 eU
          have NM : Hid (_ = _) := Lib.hid ((down_or hlt h1k).trans (congrArg (Nat.cast (R := Int)) eV.symm))
          clear eV
          go_wp2_with fail
          refine (refIsCall_any ⟨f, d, r, p, e1, e2, e3, cs⟩ A cap k 2 _ hn ((HC.out.below (below_of_new hbel1)).more (by omega))).mono ?_
          rw [C2.out]
          rintro e w3 ⟨rfl, hb1⟩
          obtain ⟨hc1, hf1⟩ := bcell hb1
          have hbel3 := hbel1.trans (hb1.mono (by omega))
          have hzw3 := hb1.size
          obtain ⟨q0, q1, q2, q3, u0, u1, u2, u3⟩ : (w3.cell? ⟨w.heap.size + 1, 0, none⟩ = some (.int .u32 0) ∧ w3.cell? ⟨w.heap.size + 1, 1, none⟩ = some (.int .u32 0) ∧ w3.frozen? ⟨w.heap.size + 1, 0, none⟩ = false ∧ w3.frozen? ⟨w.heap.size + 1, 1, none⟩ = false ∧ w3.cell? ⟨w.heap.size + 2, 0, none⟩ = some (.int .u32 (hallUpTo ⟨f, d, r, p, e1, e2, e3, cs⟩ (k + 1) : Nat)) ∧ w3.cell? ⟨w.heap.size + 2, 1, none⟩ = some (.int .u32 (2 ^ k - 2 : Nat)) ∧ w3.frozen? ⟨w.heap.size + 2, 0, none⟩ = false ∧ w3.frozen? ⟨w.heap.size + 2, 1, none⟩ = false) :=
            ⟨(hc1 _ _ (by omega)).trans q0, (hc1 _ _ (by omega)).trans q1, (hf1 _ _ (by omega)).trans q2, (hf1 _ _ (by omega)).trans q3, (hc1 _ _ (by omega)).trans u0, (hc1 _ _ (by omega)).trans u1, (hf1 _ _ (by omega)).trans u2, (hf1 _ _ (by omega)).trans u3⟩
          clear hc1 hf1 hb1 g0 g1 g2 g3 g4 g5 g6 g7
          obtain ⟨-, g0, g1, g2, g3, g4, g5, g6, g7⟩ := boxS hbel3
          go_wp2_with fail
          rw [NM.out]
          obtain ⟨w4, hW⟩ : ∃ X, X = w3.setCell ⟨w.heap.size + 1 + 1, 1, none⟩ (.int .u32 (hallDownTo ⟨f, d, r, p, e1, e2, e3, cs⟩ (k + 1) : Nat)) := ⟨_, rfl⟩
          have hzw4 : w4.heap.size = w3.heap.size := by rw [hW]; simp
          have hbel4 : Below (w.heap.size + 1) _ w4 := hW ▸ hbel3.setCell (by show w.heap.size + 1 ≤ w.heap.size + 1 + 1; omega) _
          obtain ⟨q0, q1, q2, q3, u0, u1, u2, u3⟩ : (w4.cell? ⟨w.heap.size + 1, 0, none⟩ = some (.int .u32 0) ∧ w4.cell? ⟨w.heap.size + 1, 1, none⟩ = some (.int .u32 0) ∧ w4.frozen? ⟨w.heap.size + 1, 0, none⟩ = false ∧ w4.frozen? ⟨w.heap.size + 1, 1, none⟩ = false ∧ w4.cell? ⟨w.heap.size + 2, 0, none⟩ = some (.int .u32 (hallUpTo ⟨f, d, r, p, e1, e2, e3, cs⟩ (k + 1) : Nat)) ∧ w4.cell? ⟨w.heap.size + 2, 1, none⟩ = some (.int .u32 (hallDownTo ⟨f, d, r, p, e1, e2, e3, cs⟩ (k + 1) : Nat)) ∧ w4.frozen? ⟨w.heap.size + 2, 0, none⟩ = false ∧ w4.frozen? ⟨w.heap.size + 2, 1, none⟩ = false) := by
            subst hW
            refine ⟨?_, ?_, ?_, ?_, ?_, ?_, ?_, ?_⟩ <;> simp [go_sem, q0, q1, q2, q3, u0, u1, u2, u3]
          rw [← hW]
          clear hW g0 g1 g2 g3 g4 g5 g6 g7
          obtain ⟨-, g0, g1, g2, g3, g4, g5, g6, g7⟩ := boxS hbel4
          go_wp2_with fail
          go_roundw
          case rel => exact ⟨k + 1, by omega, by go_num, hbel4, by omega, ⟨q0, q1, q2, q3⟩, ⟨u0, u1, u2, u3⟩⟩
          case measure => simp [intOf]; omega
        · rw [← hallDownTo_no c2] at u1
          have C2 := Lib.hid c2
          clear c2
          go_wp2_with fail
          refine (refIsCall_any ⟨f, d, r, p, e1, e2, e3, cs⟩ A cap k 2 _ hn ((HC.out.below (below_of_new hbel1)).more (by omega))).mono ?_
          rw [C2.out]
          rintro e w3 ⟨rfl, hb1⟩
          obtain ⟨hc1, hf1⟩ := bcell hb1
          have hbel3 := hbel1.trans (hb1.mono (by omega))
          have hzw3 := hb1.size
          obtain ⟨q0, q1, q2, q3, u0, u1, u2, u3⟩ : (w3.cell? ⟨w.heap.size + 1, 0, none⟩ = some (.int .u32 0) ∧ w3.cell? ⟨w.heap.size + 1, 1, none⟩ = some (.int .u32 0) ∧ w3.frozen? ⟨w.heap.size + 1, 0, none⟩ = false ∧ w3.frozen? ⟨w.heap.size + 1, 1, none⟩ = false ∧ w3.cell? ⟨w.heap.size + 2, 0, none⟩ = some (.int .u32 (hallUpTo ⟨f, d, r, p, e1, e2, e3, cs⟩ (k + 1) : Nat)) ∧ w3.cell? ⟨w.heap.size + 2, 1, none⟩ = some (.int .u32 (hallDownTo ⟨f, d, r, p, e1, e2, e3, cs⟩ (k + 1) : Nat)) ∧ w3.frozen? ⟨w.heap.size + 2, 0, none⟩ = false ∧ w3.frozen? ⟨w.heap.size + 2, 1, none⟩ = false) :=
            ⟨(hc1 _ _ (by omega)).trans q0, (hc1 _ _ (by omega)).trans q1, (hf1 _ _ (by omega)).trans q2, (hf1 _ _ (by omega)).trans q3, (hc1 _ _ (by omega)).trans u0, (hc1 _ _ (by omega)).trans u1, (hf1 _ _ (by omega)).trans u2, (hf1 _ _ (by omega)).trans u3⟩
          clear hc1 hf1 hb1 g0 g1 g2 g3 g4 g5 g6 g7
          obtain ⟨-, g0, g1, g2, g3, g4, g5, g6, g7⟩ := boxS hbel3
          go_wp2_with fail
          go_wp2_with fail
          go_roundw
          case rel => exact ⟨k + 1, by omega, by go_num, hbel3, by omega, ⟨q0, q1, q2, q3⟩, ⟨u0, u1, u2, u3⟩⟩
          case measure => simp [intOf]; omega
    · obtain rfl : k = 32 := by omega
      go_wp2_with fail
      refine bodyPost_ret (v := .agg #[.int .u32 (hallUpTo ⟨f, d, r, p, e1, e2, e3, cs⟩ 32), .int .u32 (hallDownTo ⟨f, d, r, p, e1, e2, e3, cs⟩ 32)]) (by simp [results, Try.results80, go_sem, q0, q1]) rfl ?_
      exact ⟨ret_calls (by rw [HUE.out]) (by rw [HDE.out]), ((below_of_new hbel).setCell (by show w.heap.size ≤ w.heap.size + 1; omega) _).setCell (by show w.heap.size ≤ w.heap.size + 1; omega) _⟩
end

section
open Go.RowKit Frm

/-- Some floors of F. -/
def floorsB (F : Int) (n : Nat) : Bool := n / 2 ^ F.toNat == 0

theorem refBetween_any (n lo hi : Int) (w : World) : Calls Try.prog 60 #[.int .i64 n, .int .i64 lo, .int .i64 hi] w fun e w' => e = .returned (.bool (inB lo hi n)) ∧ w' = w := by
  by_cases h1 : lo ≤ n
  · have d1 : decide (n ≥ lo) = true := decide_eq_true h1
    have d1' : decide (lo ≤ n) = true := decide_eq_true h1
    by_cases h2 : n ≤ hi
    · have d2 : decide (n ≤ hi) = true := decide_eq_true h2
      have hr : inB lo hi n = true := by simp [inB, h1, h2]
      rw [hr]
      go_enter Try.func60, Try.ntmps60
      go_wp2
      go_ret
      exact ⟨rfl, rfl⟩
    · have d2 : decide (n ≤ hi) = false := decide_eq_false h2
      have hr : inB lo hi n = false := by simp [inB, h1, h2]
      rw [hr]
      go_enter Try.func60, Try.ntmps60
      go_wp2
      go_ret
      exact ⟨rfl, rfl⟩
  · have d1 : decide (n ≥ lo) = false := decide_eq_false h1
    have d1' : decide (lo ≤ n) = false := decide_eq_false h1
    have hr : inB lo hi n = false := by simp [inB, h1]
    rw [hr]
    go_enter Try.func60, Try.ntmps60
    go_wp2
    go_ret
    exact ⟨rfl, rfl⟩

theorem refFloors_any (b : BldD) (A : Option Addr) (cap n : Nat) (w : World) (hn : n < 4294967296) (hF : 0 ≤ b.floors ∧ b.floors ≤ 32) :
    Calls Try.prog 61 #[b.agg A cap, .int .u32 n] w fun e w' => e = .returned (.bool (floorsB b.floors n)) ∧ Below w.heap.size w w' := by
  obtain ⟨f, d, r, p, e1, e2, e3, cs⟩ := b
  simp only [BldD.agg] at *
  obtain ⟨h1, h2⟩ := hF
  have hw : IntKind.u64.wrap (n : Int) = (n : Int) := by rw [IntKind.wrap_u64]; omega
  have hwf : IntKind.u64.wrap f = f := by rw [IntKind.wrap_u64]; omega
  have hr : ((n : Int) / 2 ^ f.toNat == 0) = floorsB f n := by
    unfold floorsB
    rw [show ((2 : Int) ^ f.toNat) = ((2 ^ f.toNat : Nat) : Int) from by rw [Int.natCast_pow]; rfl, ← Int.natCast_ediv]
    cases hq : (n / 2 ^ f.toNat == 0) with
    | true => rw [beq_iff_eq] at hq ⊢; omega
    | false => rw [beq_eq_false_iff_ne] at hq ⊢; omega
  generalize floorsB f n = q at *
  go_enter Try.func61, Try.ntmps61
  go_wp2
  go_ret
  exact ⟨rfl, (Below.refl _ _).alloc (Nat.le_refl _) _⟩

theorem refWithin_any (b : BldD) (A : Option Addr) (cap u d : Nat) (w : World) (hn : b.cars.length ≤ 140737488355328) (hc : CarsAt w w.heap.size A b.cars) (hu : u < 4294967296) (hd : d < 4294967296) :
    Calls Try.prog 59 #[b.agg A cap, callsV u d] w fun e w' => e = .returned (.bool (setB u (hallUp b) && setB d (hallDown b))) ∧ Below w.heap.size w w' := by
  have F := Lib.hid (fun wx (h : Below w.heap.size w wx) => refHall_any b A cap wx hn ((hc.below h).more h.size))
  have hu1 := hallUp_lt b
  have hd1 := hallDown_lt b
  have q1 := u32_andNot u (hallUp b) hu hu1
  have q2 := u32_andNot d (hallDown b) hd hd1
  clear hc hu1 hd1
  generalize hallUp b = U at *
  generalize hallDown b = D at *
  generalize setB u U = s1 at *
  generalize setB d D = s2 at *
  obtain ⟨f, dd, r, p, e1, e2, e3, cs⟩ := b
  simp only [BldD.agg, callsV] at *
  go_enter Try.func59, Try.ntmps59
  go_wp2_with fail
  refine (F.out _ (by go_grown)).mono ?_
  rintro e w2 ⟨rfl, hb2⟩
  have hz2 : w.heap.size + 1 < w2.heap.size := by have := hb2.size; simp at this; omega
  have hbw : Below w.heap.size w w2 := Below.trans (by go_grown : Below w.heap.size w _) (hb2.mono (by simp; omega))
  have c0 : ∀ o, (w2.alloc o).cell? ⟨w.heap.size + 1, 0, none⟩ = some (.int .u32 u) := fun o => (World.cell?_of_block (w := w2) (Below.heap_alloc w2 o _ hz2)).trans ((hb2.cell (p := ⟨w.heap.size + 1, 0, none⟩) (by simp)).trans (by rw [World.cell?_alloc_at _ _ _ _ (by simp)]; rfl))
  have c1 : ∀ o, (w2.alloc o).cell? ⟨w.heap.size + 1, 1, none⟩ = some (.int .u32 d) := fun o => (World.cell?_of_block (w := w2) (Below.heap_alloc w2 o _ hz2)).trans ((hb2.cell (p := ⟨w.heap.size + 1, 1, none⟩) (by simp)).trans (by rw [World.cell?_alloc_at _ _ _ _ (by simp)]; rfl))
  clear hb2 hz2
  have HBW := Lib.hid hbw
  clear hbw
  cases s1
  all_goals
    cases s2
    all_goals
      go_wp2_with fail
      go_ret
      exact ⟨rfl, HBW.out.alloc (HBW.out.size) _⟩
end
end Go.Proofs.Ythbfpdkgbkpmiaa
