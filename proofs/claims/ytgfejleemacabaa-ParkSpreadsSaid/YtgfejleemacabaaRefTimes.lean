/- The reference's in and times: the same answers as carFits. -/
import Derived.Test.YtgfejleemacabaaCarFits
namespace Go.Proofs.Ytgfejleemacabaa
open Go.RowKit

theorem inAll_single (lo hi n : Int) : inAll lo hi [n] = decide (lo ≤ n ∧ n ≤ hi) := by simp [inAll]

theorem refIn_any (n lo hi : Int) (w : World) :
    Calls Try.prog 21 #[.int .i64 n, .int .i64 lo, .int .i64 hi] w fun e w' => e = .returned (.bool (inAll lo hi [n])) ∧ w = w' := by
  rw [inAll_single]
  by_cases h1 : lo ≤ n
  · go_enter Try.func21, Try.ntmps21
    go_wp2
    go_ret
    exact ⟨ret_bool (by simp [h1]), rfl⟩
  · go_enter Try.func21, Try.ntmps21
    go_wp2
    go_ret
    exact ⟨ret_bool (by simp; omega), rfl⟩

theorem refTimes_any (b : BldD) (A : Option Addr) (cap : Nat) (c : CarD) (w : World) (hf1 : 0 ≤ b.floors) (hf2 : b.floors ≤ 100) :
    Calls Try.prog 22 #[b.agg A cap, c.agg] w fun e w' => e = .returned (.bool (carFitsB b.floors c)) ∧ Below w.heap.size w w' := by
  obtain ⟨f, d, r, p, e1, e2, e3, cs⟩ := b
  obtain ⟨c1, c2, c3, c4, c5, c6, c7, c8, c9⟩ := c
  simp only at hf1 hf2
  have E0 : ∀ b1 b2 b3 b4 : Bool, inAll 1 10000 [c1, c2, c3, c5, c6, c7, c8] = b1 → inAll 0 10000 [c4] = b2 → decide (c7 ≤ c8) = b3 → inAll 0 (f - 1) [c9] = b4 → carFitsB f ⟨c1, c2, c3, c4, c5, c6, c7, c8, c9⟩ = (b1 && (b2 && (b3 && b4))) := by
    rintro _ _ _ _ rfl rfl rfl rfl; rfl
  have E1 := Lib.hid E0
  clear E0
  simp only [BldD.agg, CarD.agg]
  by_cases h0 : c4 < 0
  · go_enter Try.func22, Try.ntmps22
    go_wp2
    go_ret
    refine ⟨ret_bool ?_, by go_grown⟩
    rw [E1.out _ false _ _ rfl (by rw [inAll_single]; simp; omega) rfl rfl]
    simp
  · by_cases h1 : 10000 < c4
    · go_enter Try.func22, Try.ntmps22
      go_wp2
      go_ret
      refine ⟨ret_bool ?_, by go_grown⟩
      rw [E1.out _ false _ _ rfl (by rw [inAll_single]; simp; omega) rfl rfl]
      simp
    · have hs : inAll 0 10000 [c4] = true := by rw [inAll_single]; simp; omega
      have Hs := Lib.hid hs
      clear hs
      go_enter Try.func22, Try.ntmps22
      go_wp2
      have HI := Lib.hid (intsAt_new (w := (w.alloc (.cells #[.int .i64 f, .int .i64 d, .int .i64 r, .int .i64 p, .float .f64 e1, .float .f64 e2, .float .f64 e3, .slice A cs.length cap] 25)).alloc (.cells #[.int .i64 c1, .int .i64 c2, .int .i64 c3, .int .i64 c4, .int .i64 c5, .int .i64 c6, .int .i64 c7, .int .i64 c8, .int .i64 c9] 33)) (b := w.heap.size + 1 + 1) (cs := #[.int .i64 c1, .int .i64 c2, .int .i64 c3, .int .i64 c5, .int .i64 c6, .int .i64 c7, .int .i64 c8, .int .i64 (c4 + 1)]) (zs := [c1, c2, c3, c5, c6, c7, c8, c4 + 1]) (e := 3) (by simp) rfl)
      go_loop [6] (fun v => ∃ k : Nat, k ≤ 7 ∧ v = .int .i64 k ∧ Hid (inAll 1 10000 ([c1, c2, c3, c5, c6, c7, c8].take k) = true)) (fun v => 7 - (intOf v).toNat)
      case atStart => exact ⟨0, Nat.zero_le _, rfl, rfl⟩
      case round =>
        obtain ⟨k, hk, rfl, hin⟩ := hrel
        by_cases hlt : k < 7
        · obtain ⟨z, hz⟩ : ∃ z, z = [c1, c2, c3, c5, c6, c7, c8].getD k 0 := ⟨_, rfl⟩
          have hcell : (((w.alloc (.cells #[.int .i64 f, .int .i64 d, .int .i64 r, .int .i64 p, .float .f64 e1, .float .f64 e2, .float .f64 e3, .slice A cs.length cap] 25)).alloc (.cells #[.int .i64 c1, .int .i64 c2, .int .i64 c3, .int .i64 c4, .int .i64 c5, .int .i64 c6, .int .i64 c7, .int .i64 c8, .int .i64 c9] 33)).alloc (.cells #[.int .i64 c1, .int .i64 c2, .int .i64 c3, .int .i64 c5, .int .i64 c6, .int .i64 c7, .int .i64 c8, .int .i64 (c4 + 1)] 3)).cell? ⟨w.heap.size + 1 + 1, k, none⟩ = some (.int .i64 z) := by
            have := HI.out k (by simp; omega)
            rw [Nat.zero_add] at this
            rw [this, hz]
            have hg : [c1, c2, c3, c5, c6, c7, c8, c4 + 1].getD k 0 = [c1, c2, c3, c5, c6, c7, c8].getD k 0 := by
              rcases k with _ | _ | _ | _ | _ | _ | _ | k <;> first | rfl | omega
            rw [hg]
          have HZ := Lib.hid hz
          clear hz
          rcases Bool.eq_false_or_eq_true (inAll 1 10000 [z]) with hg | hg
          · go_wp2_with (go_at_call 21; refine (refIn_any _ _ _ _).mono ?_; rintro e w' ⟨rfl, rfl⟩)
            go_round
            case rel =>
              refine ⟨k + 1, by omega, by go_num, ?_⟩
              show _ = _
              rw [inAll_take_succ _ _ _ k (by simp; omega), hin.out, ← HZ.out, ← inAll_single, hg]
              rfl
            case measure => simp [intOf]; omega
          · go_wp2_with (go_at_call 21; refine (refIn_any _ _ _ _).mono ?_; rintro e w' ⟨rfl, rfl⟩)
            go_ret
            refine ⟨ret_bool ?_, by go_grown⟩
            rw [E1.out false true _ _ ?_ Hs.out rfl rfl]
            · rfl
            · refine inAll_false _ _ _ k (by simp; omega) ?_
              rw [← HZ.out]
              rw [inAll_single, decide_eq_false_iff_not] at hg
              exact hg
        · obtain rfl : k = 7 := by omega
          have ha : inAll 1 10000 [c1, c2, c3, c5, c6, c7, c8] = true := hin.out
          have Ha := Lib.hid ha
          clear ha hin
          by_cases h5 : c7 ≤ c8
          · go_wp2_with (go_at_call 21; refine (refIn_any _ _ _ _).mono ?_; rintro e w' ⟨rfl, rfl⟩)
            go_ret
            refine ⟨ret_bool ?_, by go_grown⟩
            rw [E1.out true true true _ Ha.out Hs.out (by simpa using h5) rfl]
            simp
          · go_wp2_with (go_at_call 21; refine (refIn_any _ _ _ _).mono ?_; rintro e w' ⟨rfl, rfl⟩)
            go_ret
            refine ⟨ret_bool ?_, by go_grown⟩
            rw [E1.out true true false _ Ha.out Hs.out (by simpa using h5) rfl]
            rfl
end Go.Proofs.Ytgfejleemacabaa
