/- The law IndicatorOne, case 5. No statement of the seat is proved here. -/
import Derived.Test.YtimaidiabjkgkaaDoorIndOneM
namespace Go.Proofs.YtimaidiabjkgkaaDoor
open Go Go.RowKit Go.ChangeShapes Go.WideShapes Go.ChangeAt

set_option linter.unusedVariables false
set_option linter.unusedSimpArgs false
set_option linter.unnecessarySimpa false
set_option maxRecDepth 100000 in
set_option maxHeartbeats 8000000 in
theorem one_c5 (n r : Nat) (hn : n < 256) (hr31 : r < 31) (hm1 : (n : Int).tmod 31 = (r : Int)) (hm2 : (n : Int) % 31 = (r : Int)) (m : Int) (hm : 2 + (r : Int) = m) (m2 : 2 ≤ m) (m32 : m ≤ 32) (hw1 : IntKind.i64.wrap (m - 1) = m - 1) (w : World)
    (HT : Hid (∀ w1 : World, Below w.heap.size w w1 → Tabs w1)) (HS : Hid (∀ w, Tabs w → Calls Tryd.prog 10 #[] w fun e w' => e = .returned (.bool true) ∧ Below w.heap.size w w')) (fl : Nat) (D G A B : Int) (j : Nat)
    (F : Hid (∀ w, Tabs w → Calls Tryd.prog 11 #[.int .i64 m, .agg #[.int .u32 fl, .bool true, .bool true, .bool true, .bool false]] w fun e w' => e = .returned (.agg #[.int .i64 (j : Int), .int .i64 D, .int .i64 G]) ∧ Below w.heap.size w w'))
    (S : Hid (∀ w, Calls Tryd.prog 14 #[.int .i64 m, .agg #[.int .i64 (j : Int), .int .i64 D, .int .i64 G]] w fun e w' => e = .returned (.agg #[.int .u32 A, .int .u32 B]) ∧ Below w.heap.size w w'))
    (hA : Hid (∀ k : Nat, (bits .and .u32 (A / 2 ^ k) 1 == 1) = false)) (hB : Hid (∀ k : Nat, (bits .and .u32 (B / 2 ^ k) 1 == 1) = false)) :
    Calls Tryd.prog 6 #[.int .u8 n, .agg #[.int .u32 fl, .bool true, .bool true, .bool true, .bool false]] w fun e w' => e = .returned (.bool true) ∧ Below w.heap.size w w' := by
  go_enter Tryd.func6, Tryd.ntmps6
  go_wp2_with fail
  refine (F.out _ (HT.out _ ((Below.refl _ _).alloc (Nat.le_refl _) _))).mono ?_
  rintro e w1 ⟨rfl, hb1⟩
  have L1 := (Lit.one w _).next hb1
  clear hb1
  go_wp2_with fail
  refine (S.out _).mono ?_
  rintro e w2 ⟨rfl, hb2⟩
  have K1 := (L1.alloc _).next hb2
  have K2 := (Lit.one w1 _).next hb2
  have hlt1 := L1.lt
  have hlt2 := K2.lt
  clear L1 hb2
  have HK := Lib.hid (And.intro (K1.alloc (.cells #[.int .u32 A, .int .u32 B] 36)) (And.intro (K2.alloc (.cells #[.int .u32 A, .int .u32 B] 36)) (Lit.one w2 (.cells #[.int .u32 A, .int .u32 B] 36))))
  clear K1 K2
  go_wp2_with fail
  go_loopw [8, 9] (fun q v wr => ∃ k : Nat, k ≤ 32 ∧ v = .int .i64 k ∧ q = .int .i64 (0) ∧ Lit w.heap.size w w.heap.size (.cells #[.int .u32 fl, .bool true, .bool true, .bool true, .bool false] 28) wr ∧ Lit w1.heap.size w1 w1.heap.size (.cells #[.int .i64 (j : Int), .int .i64 D, .int .i64 G] 31) wr ∧ Lit w2.heap.size w2 w2.heap.size (.cells #[.int .u32 A, .int .u32 B] 36) wr) (fun _ v _ => 32 - (intOf v).toNat)
  case atStart => exact ⟨0, Nat.zero_le _, rfl, by simp, HK.out⟩
  case round =>
    clear HK
    obtain ⟨k, hk, rfl, rfl, K1, K2, K3⟩ := hrel
    have K1c0 := K1.cell 0
    have K1c1 := K1.cell 1
    have K1c2 := K1.cell 2
    have K1c3 := K1.cell 3
    have K1c4 := K1.cell 4
    have K2c0 := K2.cell 0
    have K2c1 := K2.cell 1
    have K2c2 := K2.cell 2
    have K3c0 := K3.cell 0
    have K3c1 := K3.cell 1
    simp only [List.getElem?_toArray, List.getElem?_cons_zero, List.getElem?_cons_succ] at K1c0 K1c1 K1c2 K1c3 K1c4 K2c0 K2c1 K2c2 K3c0 K3c1
    have HK := Lib.hid (And.intro K1 (And.intro K2 K3))
    clear K1 K2 K3
    by_cases hlt : k < 32
    · skip
      have z := hA.out k
      have y := hB.out k
      go_wp2_with fail
      have hsh1 : IntKind.u64.wrap (k : Int) = (k : Int) := by rw [IntKind.wrap_u64]; omega
      have hsh2 : min k 32 = k := by omega
      have hsh3 : min (IntKind.u64.wrap (k : Int)).toNat 32 = k := by rw [hsh1]; omega
      clear hm1 hm2 hm hn hr31
      clear K1c0 K1c1 K1c2 K1c3 K1c4 K2c0 K2c1 K2c2 K3c0 K3c1
      refine Bag.region (fun wx => Lit w.heap.size w w.heap.size (.cells #[.int .u32 fl, .bool true, .bool true, .bool true, .bool false] 28) wx ∧ Lit w1.heap.size w1 w1.heap.size (.cells #[.int .i64 (j : Int), .int .i64 D, .int .i64 G] 31) wx ∧ Lit w2.heap.size w2 w2.heap.size (.cells #[.int .u32 A, .int .u32 B] 36) wx) (by kernel_rfl) (by kernel_rfl) ⟨HK.out.1.next (Below.refl _ _).drew, HK.out.2.1.next (Below.refl _ _).drew, HK.out.2.2.next (Below.refl _ _).drew⟩ ?_
      iterate 16 (first
          | (apply Bag.walk_yes (by rfl)
             (intro wx hx K hK
              have e0 := hx.2.2.cell 0
              have e1 := hx.2.2.cell 1
              simp only [List.getElem?_toArray, List.getElem?_cons_zero, List.getElem?_cons_succ] at e0 e1
              first
                | (go_simp
                   first
                    | (go_at_K; exact hK _ hx)))
             rfl)
          | (refine Bag.walk_no (by rfl) ?_; simp only [Act.put, List.setIfInBounds_toArray, List.set_cons_succ, List.set_cons_zero]))
      refine Bag.walk_nil (fun wx hK3 => ?_)
      clear HK
      obtain ⟨K1, K2, K3⟩ := hK3
      have K1c0 := K1.cell 0
      have K1c1 := K1.cell 1
      have K1c2 := K1.cell 2
      have K1c3 := K1.cell 3
      have K1c4 := K1.cell 4
      have K2c0 := K2.cell 0
      have K2c1 := K2.cell 1
      have K2c2 := K2.cell 2
      simp only [List.getElem?_toArray, List.getElem?_cons_zero, List.getElem?_cons_succ] at K1c0 K1c1 K1c2 K1c3 K1c4 K2c0 K2c1 K2c2
      have HK := Lib.hid (And.intro K1 (And.intro K2 K3))
      clear K1 K2 K3
      go_wp2_with fail
      go_roundw
      case rel => exact ⟨k + 1, by omega, by go_num, by simp, HK.out⟩
      case measure => simp [intOf]; omega
    · obtain rfl : k = 32 := by omega
      go_wp2_with fail
      refine (HS.out _ (HT.out _ HK.out.1.below)).mono ?_
      rintro e w3 ⟨rfl, hb3⟩
      have HB := Lib.hid (HK.out.1.next hb3).below
      clear hb3
      go_wp2
      go_ret
      exact ⟨rfl, HB.out⟩
end Go.Proofs.YtimaidiabjkgkaaDoor
