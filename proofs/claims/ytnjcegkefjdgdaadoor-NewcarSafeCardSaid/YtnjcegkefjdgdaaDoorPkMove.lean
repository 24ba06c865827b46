/- Move of park, of both sides. No statement of the seat is proved here. -/
import Derived.Test.YtnjcegkefjdgdaaDoorG19
namespace Go.Proofs.YtnjcegkefjdgdaaDoor
open Go.RowKit

theorem isOne_yes (n k : Int) (w : World) (h : 0 ≤ k ∧ k < n) : Calls Tryd.prog 82 #[.int .i64 n, .int .i64 k] w fun e w' => e = .returned (.bool true) ∧ w' = w := by
  obtain ⟨h1, h2⟩ := h
  go_enter Tryd.func82, Tryd.ntmps82
  go_wp2
  go_ret
  exact ⟨rfl, rfl⟩
theorem isOne_no (n k : Int) (w : World) (h : ¬ (0 ≤ k ∧ k < n)) : Calls Tryd.prog 82 #[.int .i64 n, .int .i64 k] w fun e w' => e = .returned (.bool false) ∧ w' = w := by
  have h2 : k < 0 ∨ (0 ≤ k ∧ n ≤ k) := by omega
  clear h
  rcases h2 with h1 | ⟨h1, h2⟩
  all_goals
    first | (have hd : decide (k < n) = false := by simp; omega) | skip
    go_enter Tryd.func82, Tryd.ntmps82
    go_wp2
    go_ret
    exact ⟨rfl, rfl⟩
theorem towards_any (h f : Int) (w : World) : Calls Tryd.prog 83 #[.int .i64 h, .int .i64 f] w fun e w' => e = .returned (.int .i64 (towardF h f)) ∧ w' = w := by
  rcases Int.lt_trichotomy f h with h1 | h1 | h1
  · rw [towardF_up h1]
    go_enter Tryd.func83, Tryd.ntmps83
    go_wp2
    go_ret
    exact ⟨rfl, rfl⟩
  · subst h1
    rw [towardF_same]
    go_enter Tryd.func83, Tryd.ntmps83
    go_wp2
    go_ret
    exact ⟨rfl, rfl⟩
  · rw [towardF_down h1]
    go_enter Tryd.func83, Tryd.ntmps83
    go_wp2
    go_ret
    exact ⟨rfl, rfl⟩

set_option maxHeartbeats 4000000 in
theorem move_any (b : BldD) (A : Option Addr) (cap : Nat) (c i fl : Int) (w : World) (hn : b.cars.length ≤ 140737488355328) (hc : CarsAt w w.heap.size A b.cars) :
    Calls Tryd.prog 70 #[b.agg A cap, .int .i64 c, .int .i64 i, .int .i64 fl] w fun e w' => e = .returned (.int .i64 (moveF b c i fl)) ∧ Below w.heap.size w w' := by
  have FV := Lib.hid (fun wx (h : Below w.heap.size w wx) => valid_any b A cap wx hn ((hc.below h).more h.size))
  have HC := Lib.hid hc
  clear hc
  by_cases hv : validE b = 0
  · have hF := fineP_of hv
    rw [hv] at FV
    by_cases h1 : 0 ≤ c ∧ c < b.cars.length
    · by_cases h2 : 0 ≤ fl ∧ fl < b.floors
      · by_cases h3 : b.park ≤ i
        · obtain ⟨k, rfl⟩ := Int.eq_ofNat_of_zero_le h1.1
          have hk : k < b.cars.length := by omega
          have HS := Lib.hid (moveF_good hv hk h2 h3)
          obtain ⟨f, d, r, p, e1, e2, e3, cs⟩ := b
          simp only at hn HC h1 h2 h3 hk
          simp only [BldD.agg] at FV ⊢
          clear hv hF
          have F1 := Lib.hid (fun wx => isOne_yes (cs.length : Int) (k : Int) wx h1)
          have F2 := Lib.hid (fun wx => isOne_yes f fl wx h2)
          obtain ⟨h10, h11⟩ := h1
          obtain ⟨h20, h21⟩ := h2
          go_enter Tryd.func70, Tryd.ntmps70
          go_wp2_with fail
          refine (FV.out _ (by go_grown)).mono ?_
          rintro e w1 ⟨rfl, hb1⟩
          have hx1 : Below (w.heap.size + 1) (w.alloc (.cells #[.int .i64 f, .int .i64 d, .int .i64 r, .int .i64 p, .float .f64 e1, .float .f64 e2, .float .f64 e3, .slice A cs.length cap] 27)) w1 := hb1.mono (by simp)
          obtain ⟨B, off, c1, c2, c3, c4, c5, c6, c7, c8, c9, rfl, hB, hcar, -, -, -, -, -, -, -, -, m8⟩ := (HC.out.below (below_of_new hx1)).at_ hk
          obtain ⟨-, g0, -, -, g3, -, -, -, g7⟩ := boxS hx1
          have hd3 : decide (i < p) = false := by simp; omega
          have HB := Lib.hid (below_of_new hx1)
          clear hb1 hx1 FV
          have HCAR := Lib.hid hcar.out
          clear hcar
          go_wp2_with (go_at_call 82; (first | (with_reducible refine (F1.out _).mono ?_) | (with_reducible refine (F2.out _).mono ?_)); rintro e w2 ⟨rfl, rfl⟩)
          first
            | (refine (towards_any c9 fl _).mono ?_
               rintro e w3 ⟨rfl, rfl⟩
               go_wp2_with fail)
            | skip
          go_ret
          exact ⟨ret_int (by rw [HS.out, HCAR.out]), HB.out⟩
        · have HS := Lib.hid (moveF_bad (b := b) (c := c) (i := i) (f := fl) (fun h => h3 h.2.2.2))
          obtain ⟨f, d, r, p, e1, e2, e3, cs⟩ := b
          simp only at hn HC h1 h2 h3
          simp only [BldD.agg] at FV ⊢
          clear hv hF
          have F1 := Lib.hid (fun wx => isOne_yes (cs.length : Int) c wx h1)
          have F2 := Lib.hid (fun wx => isOne_yes f fl wx h2)
          obtain ⟨h10, h11⟩ := h1
          obtain ⟨h20, h21⟩ := h2
          go_enter Tryd.func70, Tryd.ntmps70
          go_wp2_with fail
          refine (FV.out _ (by go_grown)).mono ?_
          rintro e w1 ⟨rfl, hb1⟩
          have hx1 : Below (w.heap.size + 1) (w.alloc (.cells #[.int .i64 f, .int .i64 d, .int .i64 r, .int .i64 p, .float .f64 e1, .float .f64 e2, .float .f64 e3, .slice A cs.length cap] 27)) w1 := hb1.mono (by simp)
          obtain ⟨-, g0, -, -, g3, -, -, -, g7⟩ := boxS hx1
          have HB := Lib.hid (below_of_new hx1)
          clear hb1 hx1 FV
          have hd3 : decide (i < p) = true := by simp; omega
          go_wp2_with (go_at_call 82; (first | (with_reducible refine (F1.out _).mono ?_) | (with_reducible refine (F2.out _).mono ?_)); rintro e w2 ⟨rfl, rfl⟩)
          go_ret
          exact ⟨ret_int HS.out.symm, HB.out⟩
      · have HS := Lib.hid (moveF_bad (b := b) (c := c) (i := i) (f := fl) (fun h => h2 h.2.2.1))
        obtain ⟨f, d, r, p, e1, e2, e3, cs⟩ := b
        simp only at hn HC h1 h2
        simp only [BldD.agg] at FV ⊢
        clear hv hF
        have F1 := Lib.hid (fun wx => isOne_yes (cs.length : Int) c wx h1)
        have F2 := Lib.hid (fun wx => isOne_no f fl wx h2)
        obtain ⟨h10, h11⟩ := h1
        go_enter Tryd.func70, Tryd.ntmps70
        go_wp2_with fail
        refine (FV.out _ (by go_grown)).mono ?_
        rintro e w1 ⟨rfl, hb1⟩
        have hx1 : Below (w.heap.size + 1) (w.alloc (.cells #[.int .i64 f, .int .i64 d, .int .i64 r, .int .i64 p, .float .f64 e1, .float .f64 e2, .float .f64 e3, .slice A cs.length cap] 27)) w1 := hb1.mono (by simp)
        obtain ⟨-, g0, -, -, g3, -, -, -, g7⟩ := boxS hx1
        have HB := Lib.hid (below_of_new hx1)
        clear hb1 hx1 FV
        go_wp2_with (go_at_call 82; (first | (with_reducible refine (F1.out _).mono ?_) | (with_reducible refine (F2.out _).mono ?_)); rintro e w2 ⟨rfl, rfl⟩)
        go_ret
        exact ⟨ret_int HS.out.symm, HB.out⟩
    · have HS := Lib.hid (moveF_bad (b := b) (c := c) (i := i) (f := fl) (fun h => h1 h.2.1))
      obtain ⟨f, d, r, p, e1, e2, e3, cs⟩ := b
      simp only at hn HC h1
      simp only [BldD.agg] at FV ⊢
      clear hv hF
      have F1 := Lib.hid (fun wx => isOne_no (cs.length : Int) c wx h1)
      go_enter Tryd.func70, Tryd.ntmps70
      go_wp2_with fail
      refine (FV.out _ (by go_grown)).mono ?_
      rintro e w1 ⟨rfl, hb1⟩
      have hx1 : Below (w.heap.size + 1) (w.alloc (.cells #[.int .i64 f, .int .i64 d, .int .i64 r, .int .i64 p, .float .f64 e1, .float .f64 e2, .float .f64 e3, .slice A cs.length cap] 27)) w1 := hb1.mono (by simp)
      obtain ⟨-, g0, -, -, g3, -, -, -, g7⟩ := boxS hx1
      have HB := Lib.hid (below_of_new hx1)
      clear hb1 hx1 FV
      go_wp2_with (go_at_call 82; (with_reducible refine (F1.out _).mono ?_); rintro e w2 ⟨rfl, rfl⟩)
      go_ret
      exact ⟨ret_int HS.out.symm, HB.out⟩
  · have HS := Lib.hid (moveF_bad (b := b) (c := c) (i := i) (f := fl) (fun h => hv h.1))
    have hne : (validE b != 0) = true := bne_iff_ne.2 hv
    generalize validE b = V at *
    obtain ⟨f, d, r, p, e1, e2, e3, cs⟩ := b
    simp only at hn HC
    simp only [BldD.agg] at FV ⊢
    go_enter Tryd.func70, Tryd.ntmps70
    go_wp2_with fail
    refine (FV.out _ (by go_grown)).mono ?_
    rintro e w1 ⟨rfl, hb1⟩
    have hx1 : Below (w.heap.size + 1) (w.alloc (.cells #[.int .i64 f, .int .i64 d, .int .i64 r, .int .i64 p, .float .f64 e1, .float .f64 e2, .float .f64 e3, .slice A cs.length cap] 27)) w1 := hb1.mono (by simp)
    obtain ⟨-, g0, -, -, g3, -, -, -, g7⟩ := boxS hx1
    have HB := Lib.hid (below_of_new hx1)
    clear hb1 hx1 FV
    go_wp2_with fail
    go_ret
    exact ⟨ret_int HS.out.symm, HB.out⟩

end Go.Proofs.YtnjcegkefjdgdaaDoor
