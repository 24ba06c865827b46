/- What the texts behind this one rest on: one text. No statement of the seat is proved here. -/
import Derived.Test.YtifbkoaggjikpaaLM09
namespace Go.Proofs.Ytifbkoaggjikpaa
section
open Go.RowKit

def in9B (n lo hi : Int) : Bool := decide (lo ≤ n) && decide (n ≤ hi)
theorem in9B_zero (n : Int) : in9B n 0 0 = (n == 0) := by unfold in9B; rw [Bool.eq_iff_iff]; simp; omega
theorem fit_in (x : Rc) (lo hi v : Int) : Rc.fitB x lo hi v = (in9B x.car lo hi && in9B x.value 0 v) := by unfold Rc.fitB in9B; rw [Bool.eq_iff_iff]; simp; omega
theorem in9_any' (n lo hi : Int) (w : World) :
    Calls Try.prog 75 #[.int .i64 n, .int .i64 lo, .int .i64 hi] w fun e w' => e = .returned (.bool (in9B n lo hi)) ∧ w = w' := in9_any n lo hi w
set_option maxHeartbeats 8000000 in
theorem refValid9_any (b : BldD) (A : Option Addr) (cap : Nat) (x : Rc) (w : World) (hn : b.cars.length ≤ 140737488355328) (hc : CarsAt w w.heap.size A b.cars) :
    Calls Try.prog 44 #[b.agg A cap, x.agg] w fun e w' => e = .returned (.bool (Rc.okB b x)) ∧ Below w.heap.size w w' := by
  have FV := Lib.hid (fun wx (h : Below w.heap.size w wx) => refValid_any b A cap wx hn ((hc.below h).more h.size))
  have FC := Lib.hid (fun wx (h : Below w.heap.size w wx) => refIsCall_any b A cap x.floor x.dir wx hn ((hc.below h).more h.size))
  have HBad := Lib.hid (fun h => Rc.ok_bad (b := b) (r := x) h)
  have HO := Lib.hid (fun hv : validE b = 0 => show Rc.okB b x = (if x.kind = 1 ∨ x.kind = 2 then isCallF b x.floor x.dir && ((x.car == 0) && (x.value == 0)) else if x.kind = 3 then isCallF b x.floor x.dir && (in9B x.car (-2) (b.cars.length - 1) && (x.value == 0)) else if x.kind = 4 then ((x.floor == 0) && (x.dir == 0)) && (in9B x.car 0 (b.cars.length - 1) && in9B x.value 0 4) else if x.kind = 5 ∨ x.kind = 6 then ((x.floor == 0) && (x.dir == 0)) && (in9B x.car 0 (b.cars.length - 1) && in9B x.value 0 1) else if x.kind = 7 then isCallF b x.floor x.dir && (in9B x.car 0 1 && in9B x.value 0 255) else false) by
    have hcar : Rc.carB b x = ((x.floor == 0) && (x.dir == 0)) := by unfold Rc.carB; rw [hv, Bool.eq_iff_iff]; simp
    rw [← hcar, ← in9B_zero x.value, ← in9B_zero x.car]
    simp only [← fit_in]
    rfl)
  clear hc
  generalize Rc.okB b x = R at *
  obtain ⟨f, d, r, p, e1, e2, e3, cs⟩ := b
  generalize isCallF _ _ _ = CB at *
  generalize validE _ = V at *
  obtain ⟨k, fl, di, ca, va⟩ := x
  simp only [BldD.agg, Rc.agg] at FC FV hn HO ⊢
  by_cases hV : V = 0
  case neg =>
    have hne : (V != 0) = true := by simp [hV]
    have hR := HBad.out hV
    go_enter Try.func44, Try.ntmps44
    go_wp2_with fail
    refine (FV.out _ (by go_grown)).mono ?_
    rintro e w1 ⟨rfl, hb1⟩
    have HB := Lib.hid (below2 ((start2 w _ _).trans (hb1.mono (by simp))))
    clear hb1
    go_wp2_with fail
    go_ret
    exact ⟨ret_bool (by rw [hR]), HB.out⟩
  subst hV
  have HO := Lib.hid (HO.out rfl)
  clear HBad
  have hcn : (cs.length : Int) ≤ 140737488355328 := by omega
  have hk : k = 1 ∨ k = 2 ∨ k = 3 ∨ k = 4 ∨ k = 5 ∨ k = 6 ∨ k = 7 ∨ (k ≠ 1 ∧ k ≠ 2 ∧ k ≠ 3 ∧ k ≠ 4 ∧ k ≠ 5 ∧ k ≠ 6 ∧ k ≠ 7) := by omega
  have hcar : (in9B ca 0 (cs.length - 1) = false) ∨ (in9B ca 0 (cs.length - 1) = true ∧ (fl == 0) = false) ∨ (in9B ca 0 (cs.length - 1) = true ∧ (fl == 0) = true ∧ (di == 0) = false) ∨ (in9B ca 0 (cs.length - 1) = true ∧ (fl == 0) = true ∧ (di == 0) = true) := by
    cases in9B ca 0 (cs.length - 1) <;> cases (fl == 0) <;> cases (di == 0) <;> simp
  rcases hcar with q1 | ⟨q1, q2⟩ | ⟨q1, q2, q3⟩ | ⟨q1, q2, q3⟩ <;>
  rcases hk with rfl | rfl | rfl | rfl | rfl | rfl | rfl | ⟨h1, h2, h3, h4, h5, h6, h7⟩
  · have hR : R = (_ && _) := HO.out
    clear HO
    rcases Bool.eq_false_or_eq_true CB with z1 | z1 <;> rcases Bool.eq_false_or_eq_true (ca == 0) with z2 | z2 <;> subst z1
    all_goals
      go_enter Try.func44, Try.ntmps44
      go_wp2_with fail
      refine (FV.out _ (by go_grown)).mono ?_
      rintro e w1 ⟨rfl, hb1⟩
      have hbel := (start2 w _ _).trans (hb1.mono (by simp))
      obtain ⟨c0, c1, c2, c3, c4, c5, c6, c7⟩ := boxRow (rows2 hbel).1
      obtain ⟨k0, k1, k2, k3, k4⟩ := recRow (rows2 hbel).2
      have HB := Lib.hid hbel
      clear hb1 hbel
      go_wp2_with fail
      refine (FC.out _ (below2 HB.out)).mono ?_
      rintro e w2 ⟨rfl, hb1⟩
      clear c0 c1 c2 c3 c4 c5 c6 c7 k0 k1 k2 k3 k4
      have hbel := HB.out.trans (hb1.mono (by have := HB.out.size; simpa using this))
      obtain ⟨c0, c1, c2, c3, c4, c5, c6, c7⟩ := boxRow (rows2 hbel).1
      obtain ⟨k0, k1, k2, k3, k4⟩ := recRow (rows2 hbel).2
      have HB2 := Lib.hid (below2 hbel)
      clear hb1 hbel
      go_wp2_with (go_at_call 75; refine (in9_any' _ _ _ _).mono ?_; rintro e w3 ⟨rfl, rfl⟩)
      go_ret
      refine ⟨ret_bool ?_, HB2.out⟩
      rw [hR]
      simp [*]
  · have hR : R = (_ && _) := HO.out
    clear HO
    rcases Bool.eq_false_or_eq_true CB with z1 | z1 <;> rcases Bool.eq_false_or_eq_true (ca == 0) with z2 | z2 <;> subst z1
    all_goals
      go_enter Try.func44, Try.ntmps44
      go_wp2_with fail
      refine (FV.out _ (by go_grown)).mono ?_
      rintro e w1 ⟨rfl, hb1⟩
      have hbel := (start2 w _ _).trans (hb1.mono (by simp))
      obtain ⟨c0, c1, c2, c3, c4, c5, c6, c7⟩ := boxRow (rows2 hbel).1
      obtain ⟨k0, k1, k2, k3, k4⟩ := recRow (rows2 hbel).2
      have HB := Lib.hid hbel
      clear hb1 hbel
      go_wp2_with fail
      refine (FC.out _ (below2 HB.out)).mono ?_
      rintro e w2 ⟨rfl, hb1⟩
      clear c0 c1 c2 c3 c4 c5 c6 c7 k0 k1 k2 k3 k4
      have hbel := HB.out.trans (hb1.mono (by have := HB.out.size; simpa using this))
      obtain ⟨c0, c1, c2, c3, c4, c5, c6, c7⟩ := boxRow (rows2 hbel).1
      obtain ⟨k0, k1, k2, k3, k4⟩ := recRow (rows2 hbel).2
      have HB2 := Lib.hid (below2 hbel)
      clear hb1 hbel
      go_wp2_with (go_at_call 75; refine (in9_any' _ _ _ _).mono ?_; rintro e w3 ⟨rfl, rfl⟩)
      go_ret
      refine ⟨ret_bool ?_, HB2.out⟩
      rw [hR]
      simp [*]
  · have hR : R = (_ && _) := HO.out
    clear HO
    rcases Bool.eq_false_or_eq_true CB with z1 | z1 <;> rcases Bool.eq_false_or_eq_true (in9B ca (-2) (cs.length - 1)) with z2 | z2 <;> subst z1
    all_goals
      go_enter Try.func44, Try.ntmps44
      go_wp2_with fail
      refine (FV.out _ (by go_grown)).mono ?_
      rintro e w1 ⟨rfl, hb1⟩
      have hbel := (start2 w _ _).trans (hb1.mono (by simp))
      obtain ⟨c0, c1, c2, c3, c4, c5, c6, c7⟩ := boxRow (rows2 hbel).1
      obtain ⟨k0, k1, k2, k3, k4⟩ := recRow (rows2 hbel).2
      have HB := Lib.hid hbel
      clear hb1 hbel
      go_wp2_with fail
      refine (FC.out _ (below2 HB.out)).mono ?_
      rintro e w2 ⟨rfl, hb1⟩
      clear c0 c1 c2 c3 c4 c5 c6 c7 k0 k1 k2 k3 k4
      have hbel := HB.out.trans (hb1.mono (by have := HB.out.size; simpa using this))
      obtain ⟨c0, c1, c2, c3, c4, c5, c6, c7⟩ := boxRow (rows2 hbel).1
      obtain ⟨k0, k1, k2, k3, k4⟩ := recRow (rows2 hbel).2
      have HB2 := Lib.hid (below2 hbel)
      clear hb1 hbel
      go_wp2_with (go_at_call 75; refine (in9_any' _ _ _ _).mono ?_; rintro e w3 ⟨rfl, rfl⟩)
      go_ret
      refine ⟨ret_bool ?_, HB2.out⟩
      rw [hR]
      simp [*]
  · have hR : R = (_ && _) := HO.out
    clear HO
    go_enter Try.func44, Try.ntmps44
    go_wp2_with fail
    refine (FV.out _ (by go_grown)).mono ?_
    rintro e w1 ⟨rfl, hb1⟩
    have hbel := (start2 w _ _).trans (hb1.mono (by simp))
    obtain ⟨c0, c1, c2, c3, c4, c5, c6, c7⟩ := boxRow (rows2 hbel).1
    obtain ⟨k0, k1, k2, k3, k4⟩ := recRow (rows2 hbel).2
    have HB := Lib.hid hbel
    clear hb1 hbel
    go_wp2_with fail
    refine (FC.out _ (below2 HB.out)).mono ?_
    rintro e w2 ⟨rfl, hb1⟩
    clear c0 c1 c2 c3 c4 c5 c6 c7 k0 k1 k2 k3 k4
    have hbel := HB.out.trans (hb1.mono (by have := HB.out.size; simpa using this))
    obtain ⟨c0, c1, c2, c3, c4, c5, c6, c7⟩ := boxRow (rows2 hbel).1
    obtain ⟨k0, k1, k2, k3, k4⟩ := recRow (rows2 hbel).2
    have HB2 := Lib.hid (below2 hbel)
    clear hb1 hbel
    go_wp2_with (go_at_call 75; refine (in9_any' _ _ _ _).mono ?_; rintro e w3 ⟨rfl, rfl⟩)
    go_ret
    refine ⟨ret_bool ?_, HB2.out⟩
    rw [hR]
    simp [*]
  · have hR : R = (_ && _) := HO.out
    clear HO
    go_enter Try.func44, Try.ntmps44
    go_wp2_with fail
    refine (FV.out _ (by go_grown)).mono ?_
    rintro e w1 ⟨rfl, hb1⟩
    have hbel := (start2 w _ _).trans (hb1.mono (by simp))
    obtain ⟨c0, c1, c2, c3, c4, c5, c6, c7⟩ := boxRow (rows2 hbel).1
    obtain ⟨k0, k1, k2, k3, k4⟩ := recRow (rows2 hbel).2
    have HB := Lib.hid hbel
    clear hb1 hbel
    go_wp2_with fail
    refine (FC.out _ (below2 HB.out)).mono ?_
    rintro e w2 ⟨rfl, hb1⟩
    clear c0 c1 c2 c3 c4 c5 c6 c7 k0 k1 k2 k3 k4
    have hbel := HB.out.trans (hb1.mono (by have := HB.out.size; simpa using this))
    obtain ⟨c0, c1, c2, c3, c4, c5, c6, c7⟩ := boxRow (rows2 hbel).1
    obtain ⟨k0, k1, k2, k3, k4⟩ := recRow (rows2 hbel).2
    have HB2 := Lib.hid (below2 hbel)
    clear hb1 hbel
    go_wp2_with (go_at_call 75; refine (in9_any' _ _ _ _).mono ?_; rintro e w3 ⟨rfl, rfl⟩)
    go_ret
    refine ⟨ret_bool ?_, HB2.out⟩
    rw [hR]
    simp [*]
  · have hR : R = (_ && _) := HO.out
    clear HO
    go_enter Try.func44, Try.ntmps44
    go_wp2_with fail
    refine (FV.out _ (by go_grown)).mono ?_
    rintro e w1 ⟨rfl, hb1⟩
    have hbel := (start2 w _ _).trans (hb1.mono (by simp))
    obtain ⟨c0, c1, c2, c3, c4, c5, c6, c7⟩ := boxRow (rows2 hbel).1
    obtain ⟨k0, k1, k2, k3, k4⟩ := recRow (rows2 hbel).2
    have HB := Lib.hid hbel
    clear hb1 hbel
    go_wp2_with fail
    refine (FC.out _ (below2 HB.out)).mono ?_
    rintro e w2 ⟨rfl, hb1⟩
    clear c0 c1 c2 c3 c4 c5 c6 c7 k0 k1 k2 k3 k4
    have hbel := HB.out.trans (hb1.mono (by have := HB.out.size; simpa using this))
    obtain ⟨c0, c1, c2, c3, c4, c5, c6, c7⟩ := boxRow (rows2 hbel).1
    obtain ⟨k0, k1, k2, k3, k4⟩ := recRow (rows2 hbel).2
    have HB2 := Lib.hid (below2 hbel)
    clear hb1 hbel
    go_wp2_with (go_at_call 75; refine (in9_any' _ _ _ _).mono ?_; rintro e w3 ⟨rfl, rfl⟩)
    go_ret
    refine ⟨ret_bool ?_, HB2.out⟩
    rw [hR]
    simp [*]
  · have hR : R = (_ && _) := HO.out
    clear HO
    rcases Bool.eq_false_or_eq_true CB with z1 | z1 <;> rcases Bool.eq_false_or_eq_true (in9B ca 0 1) with z2 | z2 <;> subst z1
    all_goals
      go_enter Try.func44, Try.ntmps44
      go_wp2_with fail
      refine (FV.out _ (by go_grown)).mono ?_
      rintro e w1 ⟨rfl, hb1⟩
      have hbel := (start2 w _ _).trans (hb1.mono (by simp))
      obtain ⟨c0, c1, c2, c3, c4, c5, c6, c7⟩ := boxRow (rows2 hbel).1
      obtain ⟨k0, k1, k2, k3, k4⟩ := recRow (rows2 hbel).2
      have HB := Lib.hid hbel
      clear hb1 hbel
      go_wp2_with fail
      refine (FC.out _ (below2 HB.out)).mono ?_
      rintro e w2 ⟨rfl, hb1⟩
      clear c0 c1 c2 c3 c4 c5 c6 c7 k0 k1 k2 k3 k4
      have hbel := HB.out.trans (hb1.mono (by have := HB.out.size; simpa using this))
      obtain ⟨c0, c1, c2, c3, c4, c5, c6, c7⟩ := boxRow (rows2 hbel).1
      obtain ⟨k0, k1, k2, k3, k4⟩ := recRow (rows2 hbel).2
      have HB2 := Lib.hid (below2 hbel)
      clear hb1 hbel
      go_wp2_with (go_at_call 75; refine (in9_any' _ _ _ _).mono ?_; rintro e w3 ⟨rfl, rfl⟩)
      go_ret
      refine ⟨ret_bool ?_, HB2.out⟩
      rw [hR]
      simp [*]
  · have hR : R = false := by rw [HO.out]; simp [h1, h2, h3, h4, h5, h6, h7]
    clear HO
    go_enter Try.func44, Try.ntmps44
    go_wp2_with fail
    refine (FV.out _ (by go_grown)).mono ?_
    rintro e w1 ⟨rfl, hb1⟩
    have hbel := (start2 w _ _).trans (hb1.mono (by simp))
    obtain ⟨c0, c1, c2, c3, c4, c5, c6, c7⟩ := boxRow (rows2 hbel).1
    obtain ⟨k0, k1, k2, k3, k4⟩ := recRow (rows2 hbel).2
    have HB := Lib.hid hbel
    clear hb1 hbel
    go_wp2_with fail
    refine (FC.out _ (below2 HB.out)).mono ?_
    rintro e w2 ⟨rfl, hb1⟩
    clear c0 c1 c2 c3 c4 c5 c6 c7 k0 k1 k2 k3 k4
    have hbel := HB.out.trans (hb1.mono (by have := HB.out.size; simpa using this))
    obtain ⟨c0, c1, c2, c3, c4, c5, c6, c7⟩ := boxRow (rows2 hbel).1
    obtain ⟨k0, k1, k2, k3, k4⟩ := recRow (rows2 hbel).2
    have HB2 := Lib.hid (below2 hbel)
    clear hb1 hbel
    go_wp2_with (go_at_call 75; refine (in9_any' _ _ _ _).mono ?_; rintro e w3 ⟨rfl, rfl⟩)
    go_ret
    refine ⟨ret_bool ?_, HB2.out⟩
    rw [hR]
  · have hR : R = (_ && _) := HO.out
    clear HO
    rcases Bool.eq_false_or_eq_true CB with z1 | z1 <;> rcases Bool.eq_false_or_eq_true (ca == 0) with z2 | z2 <;> subst z1
    all_goals
      go_enter Try.func44, Try.ntmps44
      go_wp2_with fail
      refine (FV.out _ (by go_grown)).mono ?_
      rintro e w1 ⟨rfl, hb1⟩
      have hbel := (start2 w _ _).trans (hb1.mono (by simp))
      obtain ⟨c0, c1, c2, c3, c4, c5, c6, c7⟩ := boxRow (rows2 hbel).1
      obtain ⟨k0, k1, k2, k3, k4⟩ := recRow (rows2 hbel).2
      have HB := Lib.hid hbel
      clear hb1 hbel
      go_wp2_with fail
      refine (FC.out _ (below2 HB.out)).mono ?_
      rintro e w2 ⟨rfl, hb1⟩
      clear c0 c1 c2 c3 c4 c5 c6 c7 k0 k1 k2 k3 k4
      have hbel := HB.out.trans (hb1.mono (by have := HB.out.size; simpa using this))
      obtain ⟨c0, c1, c2, c3, c4, c5, c6, c7⟩ := boxRow (rows2 hbel).1
      obtain ⟨k0, k1, k2, k3, k4⟩ := recRow (rows2 hbel).2
      have HB2 := Lib.hid (below2 hbel)
      clear hb1 hbel
      go_wp2_with (go_at_call 75; refine (in9_any' _ _ _ _).mono ?_; rintro e w3 ⟨rfl, rfl⟩)
      go_ret
      refine ⟨ret_bool ?_, HB2.out⟩
      rw [hR]
      simp [*]
  · have hR : R = (_ && _) := HO.out
    clear HO
    rcases Bool.eq_false_or_eq_true CB with z1 | z1 <;> rcases Bool.eq_false_or_eq_true (ca == 0) with z2 | z2 <;> subst z1
    all_goals
      go_enter Try.func44, Try.ntmps44
      go_wp2_with fail
      refine (FV.out _ (by go_grown)).mono ?_
      rintro e w1 ⟨rfl, hb1⟩
      have hbel := (start2 w _ _).trans (hb1.mono (by simp))
      obtain ⟨c0, c1, c2, c3, c4, c5, c6, c7⟩ := boxRow (rows2 hbel).1
      obtain ⟨k0, k1, k2, k3, k4⟩ := recRow (rows2 hbel).2
      have HB := Lib.hid hbel
      clear hb1 hbel
      go_wp2_with fail
      refine (FC.out _ (below2 HB.out)).mono ?_
      rintro e w2 ⟨rfl, hb1⟩
      clear c0 c1 c2 c3 c4 c5 c6 c7 k0 k1 k2 k3 k4
      have hbel := HB.out.trans (hb1.mono (by have := HB.out.size; simpa using this))
      obtain ⟨c0, c1, c2, c3, c4, c5, c6, c7⟩ := boxRow (rows2 hbel).1
      obtain ⟨k0, k1, k2, k3, k4⟩ := recRow (rows2 hbel).2
      have HB2 := Lib.hid (below2 hbel)
      clear hb1 hbel
      go_wp2_with (go_at_call 75; refine (in9_any' _ _ _ _).mono ?_; rintro e w3 ⟨rfl, rfl⟩)
      go_ret
      refine ⟨ret_bool ?_, HB2.out⟩
      rw [hR]
      simp [*]
  · have hR : R = (_ && _) := HO.out
    clear HO
    rcases Bool.eq_false_or_eq_true CB with z1 | z1 <;> rcases Bool.eq_false_or_eq_true (in9B ca (-2) (cs.length - 1)) with z2 | z2 <;> subst z1
    all_goals
      go_enter Try.func44, Try.ntmps44
      go_wp2_with fail
      refine (FV.out _ (by go_grown)).mono ?_
      rintro e w1 ⟨rfl, hb1⟩
      have hbel := (start2 w _ _).trans (hb1.mono (by simp))
      obtain ⟨c0, c1, c2, c3, c4, c5, c6, c7⟩ := boxRow (rows2 hbel).1
      obtain ⟨k0, k1, k2, k3, k4⟩ := recRow (rows2 hbel).2
      have HB := Lib.hid hbel
      clear hb1 hbel
      go_wp2_with fail
      refine (FC.out _ (below2 HB.out)).mono ?_
      rintro e w2 ⟨rfl, hb1⟩
      clear c0 c1 c2 c3 c4 c5 c6 c7 k0 k1 k2 k3 k4
      have hbel := HB.out.trans (hb1.mono (by have := HB.out.size; simpa using this))
      obtain ⟨c0, c1, c2, c3, c4, c5, c6, c7⟩ := boxRow (rows2 hbel).1
      obtain ⟨k0, k1, k2, k3, k4⟩ := recRow (rows2 hbel).2
      have HB2 := Lib.hid (below2 hbel)
      clear hb1 hbel
      go_wp2_with (go_at_call 75; refine (in9_any' _ _ _ _).mono ?_; rintro e w3 ⟨rfl, rfl⟩)
      go_ret
      refine ⟨ret_bool ?_, HB2.out⟩
      rw [hR]
      simp [*]
  · have hR : R = (_ && _) := HO.out
    clear HO
    go_enter Try.func44, Try.ntmps44
    go_wp2_with fail
    refine (FV.out _ (by go_grown)).mono ?_
    rintro e w1 ⟨rfl, hb1⟩
    have hbel := (start2 w _ _).trans (hb1.mono (by simp))
    obtain ⟨c0, c1, c2, c3, c4, c5, c6, c7⟩ := boxRow (rows2 hbel).1
    obtain ⟨k0, k1, k2, k3, k4⟩ := recRow (rows2 hbel).2
    have HB := Lib.hid hbel
    clear hb1 hbel
    go_wp2_with fail
    refine (FC.out _ (below2 HB.out)).mono ?_
    rintro e w2 ⟨rfl, hb1⟩
    clear c0 c1 c2 c3 c4 c5 c6 c7 k0 k1 k2 k3 k4
    have hbel := HB.out.trans (hb1.mono (by have := HB.out.size; simpa using this))
    obtain ⟨c0, c1, c2, c3, c4, c5, c6, c7⟩ := boxRow (rows2 hbel).1
    obtain ⟨k0, k1, k2, k3, k4⟩ := recRow (rows2 hbel).2
    have HB2 := Lib.hid (below2 hbel)
    clear hb1 hbel
    go_wp2_with (go_at_call 75; refine (in9_any' _ _ _ _).mono ?_; rintro e w3 ⟨rfl, rfl⟩)
    go_ret
    refine ⟨ret_bool ?_, HB2.out⟩
    rw [hR]
    simp [*]
  · have hR : R = (_ && _) := HO.out
    clear HO
    go_enter Try.func44, Try.ntmps44
    go_wp2_with fail
    refine (FV.out _ (by go_grown)).mono ?_
    rintro e w1 ⟨rfl, hb1⟩
    have hbel := (start2 w _ _).trans (hb1.mono (by simp))
    obtain ⟨c0, c1, c2, c3, c4, c5, c6, c7⟩ := boxRow (rows2 hbel).1
    obtain ⟨k0, k1, k2, k3, k4⟩ := recRow (rows2 hbel).2
    have HB := Lib.hid hbel
    clear hb1 hbel
    go_wp2_with fail
    refine (FC.out _ (below2 HB.out)).mono ?_
    rintro e w2 ⟨rfl, hb1⟩
    clear c0 c1 c2 c3 c4 c5 c6 c7 k0 k1 k2 k3 k4
    have hbel := HB.out.trans (hb1.mono (by have := HB.out.size; simpa using this))
    obtain ⟨c0, c1, c2, c3, c4, c5, c6, c7⟩ := boxRow (rows2 hbel).1
    obtain ⟨k0, k1, k2, k3, k4⟩ := recRow (rows2 hbel).2
    have HB2 := Lib.hid (below2 hbel)
    clear hb1 hbel
    go_wp2_with (go_at_call 75; refine (in9_any' _ _ _ _).mono ?_; rintro e w3 ⟨rfl, rfl⟩)
    go_ret
    refine ⟨ret_bool ?_, HB2.out⟩
    rw [hR]
    simp [*]
  · have hR : R = (_ && _) := HO.out
    clear HO
    go_enter Try.func44, Try.ntmps44
    go_wp2_with fail
    refine (FV.out _ (by go_grown)).mono ?_
    rintro e w1 ⟨rfl, hb1⟩
    have hbel := (start2 w _ _).trans (hb1.mono (by simp))
    obtain ⟨c0, c1, c2, c3, c4, c5, c6, c7⟩ := boxRow (rows2 hbel).1
    obtain ⟨k0, k1, k2, k3, k4⟩ := recRow (rows2 hbel).2
    have HB := Lib.hid hbel
    clear hb1 hbel
    go_wp2_with fail
    refine (FC.out _ (below2 HB.out)).mono ?_
    rintro e w2 ⟨rfl, hb1⟩
    clear c0 c1 c2 c3 c4 c5 c6 c7 k0 k1 k2 k3 k4
    have hbel := HB.out.trans (hb1.mono (by have := HB.out.size; simpa using this))
    obtain ⟨c0, c1, c2, c3, c4, c5, c6, c7⟩ := boxRow (rows2 hbel).1
    obtain ⟨k0, k1, k2, k3, k4⟩ := recRow (rows2 hbel).2
    have HB2 := Lib.hid (below2 hbel)
    clear hb1 hbel
    go_wp2_with (go_at_call 75; refine (in9_any' _ _ _ _).mono ?_; rintro e w3 ⟨rfl, rfl⟩)
    go_ret
    refine ⟨ret_bool ?_, HB2.out⟩
    rw [hR]
    simp [*]
  · have hR : R = (_ && _) := HO.out
    clear HO
    rcases Bool.eq_false_or_eq_true CB with z1 | z1 <;> rcases Bool.eq_false_or_eq_true (in9B ca 0 1) with z2 | z2 <;> subst z1
    all_goals
      go_enter Try.func44, Try.ntmps44
      go_wp2_with fail
      refine (FV.out _ (by go_grown)).mono ?_
      rintro e w1 ⟨rfl, hb1⟩
      have hbel := (start2 w _ _).trans (hb1.mono (by simp))
      obtain ⟨c0, c1, c2, c3, c4, c5, c6, c7⟩ := boxRow (rows2 hbel).1
      obtain ⟨k0, k1, k2, k3, k4⟩ := recRow (rows2 hbel).2
      have HB := Lib.hid hbel
      clear hb1 hbel
      go_wp2_with fail
      refine (FC.out _ (below2 HB.out)).mono ?_
      rintro e w2 ⟨rfl, hb1⟩
      clear c0 c1 c2 c3 c4 c5 c6 c7 k0 k1 k2 k3 k4
      have hbel := HB.out.trans (hb1.mono (by have := HB.out.size; simpa using this))
      obtain ⟨c0, c1, c2, c3, c4, c5, c6, c7⟩ := boxRow (rows2 hbel).1
      obtain ⟨k0, k1, k2, k3, k4⟩ := recRow (rows2 hbel).2
      have HB2 := Lib.hid (below2 hbel)
      clear hb1 hbel
      go_wp2_with (go_at_call 75; refine (in9_any' _ _ _ _).mono ?_; rintro e w3 ⟨rfl, rfl⟩)
      go_ret
      refine ⟨ret_bool ?_, HB2.out⟩
      rw [hR]
      simp [*]
  · have hR : R = false := by rw [HO.out]; simp [h1, h2, h3, h4, h5, h6, h7]
    clear HO
    go_enter Try.func44, Try.ntmps44
    go_wp2_with fail
    refine (FV.out _ (by go_grown)).mono ?_
    rintro e w1 ⟨rfl, hb1⟩
    have hbel := (start2 w _ _).trans (hb1.mono (by simp))
    obtain ⟨c0, c1, c2, c3, c4, c5, c6, c7⟩ := boxRow (rows2 hbel).1
    obtain ⟨k0, k1, k2, k3, k4⟩ := recRow (rows2 hbel).2
    have HB := Lib.hid hbel
    clear hb1 hbel
    go_wp2_with fail
    refine (FC.out _ (below2 HB.out)).mono ?_
    rintro e w2 ⟨rfl, hb1⟩
    clear c0 c1 c2 c3 c4 c5 c6 c7 k0 k1 k2 k3 k4
    have hbel := HB.out.trans (hb1.mono (by have := HB.out.size; simpa using this))
    obtain ⟨c0, c1, c2, c3, c4, c5, c6, c7⟩ := boxRow (rows2 hbel).1
    obtain ⟨k0, k1, k2, k3, k4⟩ := recRow (rows2 hbel).2
    have HB2 := Lib.hid (below2 hbel)
    clear hb1 hbel
    go_wp2_with (go_at_call 75; refine (in9_any' _ _ _ _).mono ?_; rintro e w3 ⟨rfl, rfl⟩)
    go_ret
    refine ⟨ret_bool ?_, HB2.out⟩
    rw [hR]
  · have hR : R = (_ && _) := HO.out
    clear HO
    rcases Bool.eq_false_or_eq_true CB with z1 | z1 <;> rcases Bool.eq_false_or_eq_true (ca == 0) with z2 | z2 <;> subst z1
    all_goals
      go_enter Try.func44, Try.ntmps44
      go_wp2_with fail
      refine (FV.out _ (by go_grown)).mono ?_
      rintro e w1 ⟨rfl, hb1⟩
      have hbel := (start2 w _ _).trans (hb1.mono (by simp))
      obtain ⟨c0, c1, c2, c3, c4, c5, c6, c7⟩ := boxRow (rows2 hbel).1
      obtain ⟨k0, k1, k2, k3, k4⟩ := recRow (rows2 hbel).2
      have HB := Lib.hid hbel
      clear hb1 hbel
      go_wp2_with fail
      refine (FC.out _ (below2 HB.out)).mono ?_
      rintro e w2 ⟨rfl, hb1⟩
      clear c0 c1 c2 c3 c4 c5 c6 c7 k0 k1 k2 k3 k4
      have hbel := HB.out.trans (hb1.mono (by have := HB.out.size; simpa using this))
      obtain ⟨c0, c1, c2, c3, c4, c5, c6, c7⟩ := boxRow (rows2 hbel).1
      obtain ⟨k0, k1, k2, k3, k4⟩ := recRow (rows2 hbel).2
      have HB2 := Lib.hid (below2 hbel)
      clear hb1 hbel
      go_wp2_with (go_at_call 75; refine (in9_any' _ _ _ _).mono ?_; rintro e w3 ⟨rfl, rfl⟩)
      go_ret
      refine ⟨ret_bool ?_, HB2.out⟩
      rw [hR]
      simp [*]
  · have hR : R = (_ && _) := HO.out
    clear HO
    rcases Bool.eq_false_or_eq_true CB with z1 | z1 <;> rcases Bool.eq_false_or_eq_true (ca == 0) with z2 | z2 <;> subst z1
    all_goals
      go_enter Try.func44, Try.ntmps44
      go_wp2_with fail
      refine (FV.out _ (by go_grown)).mono ?_
      rintro e w1 ⟨rfl, hb1⟩
      have hbel := (start2 w _ _).trans (hb1.mono (by simp))
      obtain ⟨c0, c1, c2, c3, c4, c5, c6, c7⟩ := boxRow (rows2 hbel).1
      obtain ⟨k0, k1, k2, k3, k4⟩ := recRow (rows2 hbel).2
      have HB := Lib.hid hbel
      clear hb1 hbel
      go_wp2_with fail
      refine (FC.out _ (below2 HB.out)).mono ?_
      rintro e w2 ⟨rfl, hb1⟩
      clear c0 c1 c2 c3 c4 c5 c6 c7 k0 k1 k2 k3 k4
      have hbel := HB.out.trans (hb1.mono (by have := HB.out.size; simpa using this))
      obtain ⟨c0, c1, c2, c3, c4, c5, c6, c7⟩ := boxRow (rows2 hbel).1
      obtain ⟨k0, k1, k2, k3, k4⟩ := recRow (rows2 hbel).2
      have HB2 := Lib.hid (below2 hbel)
      clear hb1 hbel
      go_wp2_with (go_at_call 75; refine (in9_any' _ _ _ _).mono ?_; rintro e w3 ⟨rfl, rfl⟩)
      go_ret
      refine ⟨ret_bool ?_, HB2.out⟩
      rw [hR]
      simp [*]
  · have hR : R = (_ && _) := HO.out
    clear HO
    rcases Bool.eq_false_or_eq_true CB with z1 | z1 <;> rcases Bool.eq_false_or_eq_true (in9B ca (-2) (cs.length - 1)) with z2 | z2 <;> subst z1
    all_goals
      go_enter Try.func44, Try.ntmps44
      go_wp2_with fail
      refine (FV.out _ (by go_grown)).mono ?_
      rintro e w1 ⟨rfl, hb1⟩
      have hbel := (start2 w _ _).trans (hb1.mono (by simp))
      obtain ⟨c0, c1, c2, c3, c4, c5, c6, c7⟩ := boxRow (rows2 hbel).1
      obtain ⟨k0, k1, k2, k3, k4⟩ := recRow (rows2 hbel).2
      have HB := Lib.hid hbel
      clear hb1 hbel
      go_wp2_with fail
      refine (FC.out _ (below2 HB.out)).mono ?_
      rintro e w2 ⟨rfl, hb1⟩
      clear c0 c1 c2 c3 c4 c5 c6 c7 k0 k1 k2 k3 k4
      have hbel := HB.out.trans (hb1.mono (by have := HB.out.size; simpa using this))
      obtain ⟨c0, c1, c2, c3, c4, c5, c6, c7⟩ := boxRow (rows2 hbel).1
      obtain ⟨k0, k1, k2, k3, k4⟩ := recRow (rows2 hbel).2
      have HB2 := Lib.hid (below2 hbel)
      clear hb1 hbel
      go_wp2_with (go_at_call 75; refine (in9_any' _ _ _ _).mono ?_; rintro e w3 ⟨rfl, rfl⟩)
      go_ret
      refine ⟨ret_bool ?_, HB2.out⟩
      rw [hR]
      simp [*]
  · have hR : R = (_ && _) := HO.out
    clear HO
    go_enter Try.func44, Try.ntmps44
    go_wp2_with fail
    refine (FV.out _ (by go_grown)).mono ?_
    rintro e w1 ⟨rfl, hb1⟩
    have hbel := (start2 w _ _).trans (hb1.mono (by simp))
    obtain ⟨c0, c1, c2, c3, c4, c5, c6, c7⟩ := boxRow (rows2 hbel).1
    obtain ⟨k0, k1, k2, k3, k4⟩ := recRow (rows2 hbel).2
    have HB := Lib.hid hbel
    clear hb1 hbel
    go_wp2_with fail
    refine (FC.out _ (below2 HB.out)).mono ?_
    rintro e w2 ⟨rfl, hb1⟩
    clear c0 c1 c2 c3 c4 c5 c6 c7 k0 k1 k2 k3 k4
    have hbel := HB.out.trans (hb1.mono (by have := HB.out.size; simpa using this))
    obtain ⟨c0, c1, c2, c3, c4, c5, c6, c7⟩ := boxRow (rows2 hbel).1
    obtain ⟨k0, k1, k2, k3, k4⟩ := recRow (rows2 hbel).2
    have HB2 := Lib.hid (below2 hbel)
    clear hb1 hbel
    go_wp2_with (go_at_call 75; refine (in9_any' _ _ _ _).mono ?_; rintro e w3 ⟨rfl, rfl⟩)
    go_ret
    refine ⟨ret_bool ?_, HB2.out⟩
    rw [hR]
    simp [*]
  · have hR : R = (_ && _) := HO.out
    clear HO
    go_enter Try.func44, Try.ntmps44
    go_wp2_with fail
    refine (FV.out _ (by go_grown)).mono ?_
    rintro e w1 ⟨rfl, hb1⟩
    have hbel := (start2 w _ _).trans (hb1.mono (by simp))
    obtain ⟨c0, c1, c2, c3, c4, c5, c6, c7⟩ := boxRow (rows2 hbel).1
    obtain ⟨k0, k1, k2, k3, k4⟩ := recRow (rows2 hbel).2
    have HB := Lib.hid hbel
    clear hb1 hbel
    go_wp2_with fail
    refine (FC.out _ (below2 HB.out)).mono ?_
    rintro e w2 ⟨rfl, hb1⟩
    clear c0 c1 c2 c3 c4 c5 c6 c7 k0 k1 k2 k3 k4
    have hbel := HB.out.trans (hb1.mono (by have := HB.out.size; simpa using this))
    obtain ⟨c0, c1, c2, c3, c4, c5, c6, c7⟩ := boxRow (rows2 hbel).1
    obtain ⟨k0, k1, k2, k3, k4⟩ := recRow (rows2 hbel).2
    have HB2 := Lib.hid (below2 hbel)
    clear hb1 hbel
    go_wp2_with (go_at_call 75; refine (in9_any' _ _ _ _).mono ?_; rintro e w3 ⟨rfl, rfl⟩)
    go_ret
    refine ⟨ret_bool ?_, HB2.out⟩
    rw [hR]
    simp [*]
  · have hR : R = (_ && _) := HO.out
    clear HO
    go_enter Try.func44, Try.ntmps44
    go_wp2_with fail
    refine (FV.out _ (by go_grown)).mono ?_
    rintro e w1 ⟨rfl, hb1⟩
    have hbel := (start2 w _ _).trans (hb1.mono (by simp))
    obtain ⟨c0, c1, c2, c3, c4, c5, c6, c7⟩ := boxRow (rows2 hbel).1
    obtain ⟨k0, k1, k2, k3, k4⟩ := recRow (rows2 hbel).2
    have HB := Lib.hid hbel
    clear hb1 hbel
    go_wp2_with fail
    refine (FC.out _ (below2 HB.out)).mono ?_
    rintro e w2 ⟨rfl, hb1⟩
    clear c0 c1 c2 c3 c4 c5 c6 c7 k0 k1 k2 k3 k4
    have hbel := HB.out.trans (hb1.mono (by have := HB.out.size; simpa using this))
    obtain ⟨c0, c1, c2, c3, c4, c5, c6, c7⟩ := boxRow (rows2 hbel).1
    obtain ⟨k0, k1, k2, k3, k4⟩ := recRow (rows2 hbel).2
    have HB2 := Lib.hid (below2 hbel)
    clear hb1 hbel
    go_wp2_with (go_at_call 75; refine (in9_any' _ _ _ _).mono ?_; rintro e w3 ⟨rfl, rfl⟩)
    go_ret
    refine ⟨ret_bool ?_, HB2.out⟩
    rw [hR]
    simp [*]
  · have hR : R = (_ && _) := HO.out
    clear HO
    rcases Bool.eq_false_or_eq_true CB with z1 | z1 <;> rcases Bool.eq_false_or_eq_true (in9B ca 0 1) with z2 | z2 <;> subst z1
    all_goals
      go_enter Try.func44, Try.ntmps44
      go_wp2_with fail
      refine (FV.out _ (by go_grown)).mono ?_
      rintro e w1 ⟨rfl, hb1⟩
      have hbel := (start2 w _ _).trans (hb1.mono (by simp))
      obtain ⟨c0, c1, c2, c3, c4, c5, c6, c7⟩ := boxRow (rows2 hbel).1
      obtain ⟨k0, k1, k2, k3, k4⟩ := recRow (rows2 hbel).2
      have HB := Lib.hid hbel
      clear hb1 hbel
      go_wp2_with fail
      refine (FC.out _ (below2 HB.out)).mono ?_
      rintro e w2 ⟨rfl, hb1⟩
      clear c0 c1 c2 c3 c4 c5 c6 c7 k0 k1 k2 k3 k4
      have hbel := HB.out.trans (hb1.mono (by have := HB.out.size; simpa using this))
      obtain ⟨c0, c1, c2, c3, c4, c5, c6, c7⟩ := boxRow (rows2 hbel).1
      obtain ⟨k0, k1, k2, k3, k4⟩ := recRow (rows2 hbel).2
      have HB2 := Lib.hid (below2 hbel)
      clear hb1 hbel
      go_wp2_with (go_at_call 75; refine (in9_any' _ _ _ _).mono ?_; rintro e w3 ⟨rfl, rfl⟩)
      go_ret
      refine ⟨ret_bool ?_, HB2.out⟩
      rw [hR]
      simp [*]
  · have hR : R = false := by rw [HO.out]; simp [h1, h2, h3, h4, h5, h6, h7]
    clear HO
    go_enter Try.func44, Try.ntmps44
    go_wp2_with fail
    refine (FV.out _ (by go_grown)).mono ?_
    rintro e w1 ⟨rfl, hb1⟩
    have hbel := (start2 w _ _).trans (hb1.mono (by simp))
    obtain ⟨c0, c1, c2, c3, c4, c5, c6, c7⟩ := boxRow (rows2 hbel).1
    obtain ⟨k0, k1, k2, k3, k4⟩ := recRow (rows2 hbel).2
    have HB := Lib.hid hbel
    clear hb1 hbel
    go_wp2_with fail
    refine (FC.out _ (below2 HB.out)).mono ?_
    rintro e w2 ⟨rfl, hb1⟩
    clear c0 c1 c2 c3 c4 c5 c6 c7 k0 k1 k2 k3 k4
    have hbel := HB.out.trans (hb1.mono (by have := HB.out.size; simpa using this))
    obtain ⟨c0, c1, c2, c3, c4, c5, c6, c7⟩ := boxRow (rows2 hbel).1
    obtain ⟨k0, k1, k2, k3, k4⟩ := recRow (rows2 hbel).2
    have HB2 := Lib.hid (below2 hbel)
    clear hb1 hbel
    go_wp2_with (go_at_call 75; refine (in9_any' _ _ _ _).mono ?_; rintro e w3 ⟨rfl, rfl⟩)
    go_ret
    refine ⟨ret_bool ?_, HB2.out⟩
    rw [hR]
  · have hR : R = (_ && _) := HO.out
    clear HO
    rcases Bool.eq_false_or_eq_true CB with z1 | z1 <;> rcases Bool.eq_false_or_eq_true (ca == 0) with z2 | z2 <;> subst z1
    all_goals
      go_enter Try.func44, Try.ntmps44
      go_wp2_with fail
      refine (FV.out _ (by go_grown)).mono ?_
      rintro e w1 ⟨rfl, hb1⟩
      have hbel := (start2 w _ _).trans (hb1.mono (by simp))
      obtain ⟨c0, c1, c2, c3, c4, c5, c6, c7⟩ := boxRow (rows2 hbel).1
      obtain ⟨k0, k1, k2, k3, k4⟩ := recRow (rows2 hbel).2
      have HB := Lib.hid hbel
      clear hb1 hbel
      go_wp2_with fail
      refine (FC.out _ (below2 HB.out)).mono ?_
      rintro e w2 ⟨rfl, hb1⟩
      clear c0 c1 c2 c3 c4 c5 c6 c7 k0 k1 k2 k3 k4
      have hbel := HB.out.trans (hb1.mono (by have := HB.out.size; simpa using this))
      obtain ⟨c0, c1, c2, c3, c4, c5, c6, c7⟩ := boxRow (rows2 hbel).1
      obtain ⟨k0, k1, k2, k3, k4⟩ := recRow (rows2 hbel).2
      have HB2 := Lib.hid (below2 hbel)
      clear hb1 hbel
      go_wp2_with (go_at_call 75; refine (in9_any' _ _ _ _).mono ?_; rintro e w3 ⟨rfl, rfl⟩)
      go_ret
      refine ⟨ret_bool ?_, HB2.out⟩
      rw [hR]
      simp [*]
  · have hR : R = (_ && _) := HO.out
    clear HO
    rcases Bool.eq_false_or_eq_true CB with z1 | z1 <;> rcases Bool.eq_false_or_eq_true (ca == 0) with z2 | z2 <;> subst z1
    all_goals
      go_enter Try.func44, Try.ntmps44
      go_wp2_with fail
      refine (FV.out _ (by go_grown)).mono ?_
      rintro e w1 ⟨rfl, hb1⟩
      have hbel := (start2 w _ _).trans (hb1.mono (by simp))
      obtain ⟨c0, c1, c2, c3, c4, c5, c6, c7⟩ := boxRow (rows2 hbel).1
      obtain ⟨k0, k1, k2, k3, k4⟩ := recRow (rows2 hbel).2
      have HB := Lib.hid hbel
      clear hb1 hbel
      go_wp2_with fail
      refine (FC.out _ (below2 HB.out)).mono ?_
      rintro e w2 ⟨rfl, hb1⟩
      clear c0 c1 c2 c3 c4 c5 c6 c7 k0 k1 k2 k3 k4
      have hbel := HB.out.trans (hb1.mono (by have := HB.out.size; simpa using this))
      obtain ⟨c0, c1, c2, c3, c4, c5, c6, c7⟩ := boxRow (rows2 hbel).1
      obtain ⟨k0, k1, k2, k3, k4⟩ := recRow (rows2 hbel).2
      have HB2 := Lib.hid (below2 hbel)
      clear hb1 hbel
      go_wp2_with (go_at_call 75; refine (in9_any' _ _ _ _).mono ?_; rintro e w3 ⟨rfl, rfl⟩)
      go_ret
      refine ⟨ret_bool ?_, HB2.out⟩
      rw [hR]
      simp [*]
  · have hR : R = (_ && _) := HO.out
    clear HO
    rcases Bool.eq_false_or_eq_true CB with z1 | z1 <;> rcases Bool.eq_false_or_eq_true (in9B ca (-2) (cs.length - 1)) with z2 | z2 <;> subst z1
    all_goals
      go_enter Try.func44, Try.ntmps44
      go_wp2_with fail
      refine (FV.out _ (by go_grown)).mono ?_
      rintro e w1 ⟨rfl, hb1⟩
      have hbel := (start2 w _ _).trans (hb1.mono (by simp))
      obtain ⟨c0, c1, c2, c3, c4, c5, c6, c7⟩ := boxRow (rows2 hbel).1
      obtain ⟨k0, k1, k2, k3, k4⟩ := recRow (rows2 hbel).2
      have HB := Lib.hid hbel
      clear hb1 hbel
      go_wp2_with fail
      refine (FC.out _ (below2 HB.out)).mono ?_
      rintro e w2 ⟨rfl, hb1⟩
      clear c0 c1 c2 c3 c4 c5 c6 c7 k0 k1 k2 k3 k4
      have hbel := HB.out.trans (hb1.mono (by have := HB.out.size; simpa using this))
      obtain ⟨c0, c1, c2, c3, c4, c5, c6, c7⟩ := boxRow (rows2 hbel).1
      obtain ⟨k0, k1, k2, k3, k4⟩ := recRow (rows2 hbel).2
      have HB2 := Lib.hid (below2 hbel)
      clear hb1 hbel
      go_wp2_with (go_at_call 75; refine (in9_any' _ _ _ _).mono ?_; rintro e w3 ⟨rfl, rfl⟩)
      go_ret
      refine ⟨ret_bool ?_, HB2.out⟩
      rw [hR]
      simp [*]
  · have hR : R = (_ && _) := HO.out
    clear HO
    go_enter Try.func44, Try.ntmps44
    go_wp2_with fail
    refine (FV.out _ (by go_grown)).mono ?_
    rintro e w1 ⟨rfl, hb1⟩
    have hbel := (start2 w _ _).trans (hb1.mono (by simp))
    obtain ⟨c0, c1, c2, c3, c4, c5, c6, c7⟩ := boxRow (rows2 hbel).1
    obtain ⟨k0, k1, k2, k3, k4⟩ := recRow (rows2 hbel).2
    have HB := Lib.hid hbel
    clear hb1 hbel
    go_wp2_with fail
    refine (FC.out _ (below2 HB.out)).mono ?_
    rintro e w2 ⟨rfl, hb1⟩
    clear c0 c1 c2 c3 c4 c5 c6 c7 k0 k1 k2 k3 k4
    have hbel := HB.out.trans (hb1.mono (by have := HB.out.size; simpa using this))
    obtain ⟨c0, c1, c2, c3, c4, c5, c6, c7⟩ := boxRow (rows2 hbel).1
    obtain ⟨k0, k1, k2, k3, k4⟩ := recRow (rows2 hbel).2
    have HB2 := Lib.hid (below2 hbel)
    clear hb1 hbel
    go_wp2_with (go_at_call 75; refine (in9_any' _ _ _ _).mono ?_; rintro e w3 ⟨rfl, rfl⟩)
    go_ret
    refine ⟨ret_bool ?_, HB2.out⟩
    rw [hR]
    simp [*]
  · have hR : R = (_ && _) := HO.out
    clear HO
    go_enter Try.func44, Try.ntmps44
    go_wp2_with fail
    refine (FV.out _ (by go_grown)).mono ?_
    rintro e w1 ⟨rfl, hb1⟩
    have hbel := (start2 w _ _).trans (hb1.mono (by simp))
    obtain ⟨c0, c1, c2, c3, c4, c5, c6, c7⟩ := boxRow (rows2 hbel).1
    obtain ⟨k0, k1, k2, k3, k4⟩ := recRow (rows2 hbel).2
    have HB := Lib.hid hbel
    clear hb1 hbel
    go_wp2_with fail
    refine (FC.out _ (below2 HB.out)).mono ?_
    rintro e w2 ⟨rfl, hb1⟩
    clear c0 c1 c2 c3 c4 c5 c6 c7 k0 k1 k2 k3 k4
    have hbel := HB.out.trans (hb1.mono (by have := HB.out.size; simpa using this))
    obtain ⟨c0, c1, c2, c3, c4, c5, c6, c7⟩ := boxRow (rows2 hbel).1
    obtain ⟨k0, k1, k2, k3, k4⟩ := recRow (rows2 hbel).2
    have HB2 := Lib.hid (below2 hbel)
    clear hb1 hbel
    go_wp2_with (go_at_call 75; refine (in9_any' _ _ _ _).mono ?_; rintro e w3 ⟨rfl, rfl⟩)
    go_ret
    refine ⟨ret_bool ?_, HB2.out⟩
    rw [hR]
    simp [*]
  · have hR : R = (_ && _) := HO.out
    clear HO
    go_enter Try.func44, Try.ntmps44
    go_wp2_with fail
    refine (FV.out _ (by go_grown)).mono ?_
    rintro e w1 ⟨rfl, hb1⟩
    have hbel := (start2 w _ _).trans (hb1.mono (by simp))
    obtain ⟨c0, c1, c2, c3, c4, c5, c6, c7⟩ := boxRow (rows2 hbel).1
    obtain ⟨k0, k1, k2, k3, k4⟩ := recRow (rows2 hbel).2
    have HB := Lib.hid hbel
    clear hb1 hbel
    go_wp2_with fail
    refine (FC.out _ (below2 HB.out)).mono ?_
    rintro e w2 ⟨rfl, hb1⟩
    clear c0 c1 c2 c3 c4 c5 c6 c7 k0 k1 k2 k3 k4
    have hbel := HB.out.trans (hb1.mono (by have := HB.out.size; simpa using this))
    obtain ⟨c0, c1, c2, c3, c4, c5, c6, c7⟩ := boxRow (rows2 hbel).1
    obtain ⟨k0, k1, k2, k3, k4⟩ := recRow (rows2 hbel).2
    have HB2 := Lib.hid (below2 hbel)
    clear hb1 hbel
    go_wp2_with (go_at_call 75; refine (in9_any' _ _ _ _).mono ?_; rintro e w3 ⟨rfl, rfl⟩)
    go_ret
    refine ⟨ret_bool ?_, HB2.out⟩
    rw [hR]
    simp [*]
  · have hR : R = (_ && _) := HO.out
    clear HO
    rcases Bool.eq_false_or_eq_true CB with z1 | z1 <;> rcases Bool.eq_false_or_eq_true (in9B ca 0 1) with z2 | z2 <;> subst z1
    all_goals
      go_enter Try.func44, Try.ntmps44
      go_wp2_with fail
      refine (FV.out _ (by go_grown)).mono ?_
      rintro e w1 ⟨rfl, hb1⟩
      have hbel := (start2 w _ _).trans (hb1.mono (by simp))
      obtain ⟨c0, c1, c2, c3, c4, c5, c6, c7⟩ := boxRow (rows2 hbel).1
      obtain ⟨k0, k1, k2, k3, k4⟩ := recRow (rows2 hbel).2
      have HB := Lib.hid hbel
      clear hb1 hbel
      go_wp2_with fail
      refine (FC.out _ (below2 HB.out)).mono ?_
      rintro e w2 ⟨rfl, hb1⟩
      clear c0 c1 c2 c3 c4 c5 c6 c7 k0 k1 k2 k3 k4
      have hbel := HB.out.trans (hb1.mono (by have := HB.out.size; simpa using this))
      obtain ⟨c0, c1, c2, c3, c4, c5, c6, c7⟩ := boxRow (rows2 hbel).1
      obtain ⟨k0, k1, k2, k3, k4⟩ := recRow (rows2 hbel).2
      have HB2 := Lib.hid (below2 hbel)
      clear hb1 hbel
      go_wp2_with (go_at_call 75; refine (in9_any' _ _ _ _).mono ?_; rintro e w3 ⟨rfl, rfl⟩)
      go_ret
      refine ⟨ret_bool ?_, HB2.out⟩
      rw [hR]
      simp [*]
  · have hR : R = false := by rw [HO.out]; simp [h1, h2, h3, h4, h5, h6, h7]
    clear HO
    go_enter Try.func44, Try.ntmps44
    go_wp2_with fail
    refine (FV.out _ (by go_grown)).mono ?_
    rintro e w1 ⟨rfl, hb1⟩
    have hbel := (start2 w _ _).trans (hb1.mono (by simp))
    obtain ⟨c0, c1, c2, c3, c4, c5, c6, c7⟩ := boxRow (rows2 hbel).1
    obtain ⟨k0, k1, k2, k3, k4⟩ := recRow (rows2 hbel).2
    have HB := Lib.hid hbel
    clear hb1 hbel
    go_wp2_with fail
    refine (FC.out _ (below2 HB.out)).mono ?_
    rintro e w2 ⟨rfl, hb1⟩
    clear c0 c1 c2 c3 c4 c5 c6 c7 k0 k1 k2 k3 k4
    have hbel := HB.out.trans (hb1.mono (by have := HB.out.size; simpa using this))
    obtain ⟨c0, c1, c2, c3, c4, c5, c6, c7⟩ := boxRow (rows2 hbel).1
    obtain ⟨k0, k1, k2, k3, k4⟩ := recRow (rows2 hbel).2
    have HB2 := Lib.hid (below2 hbel)
    clear hb1 hbel
    go_wp2_with (go_at_call 75; refine (in9_any' _ _ _ _).mono ?_; rintro e w3 ⟨rfl, rfl⟩)
    go_ret
    refine ⟨ret_bool ?_, HB2.out⟩
    rw [hR]
end
end Go.Proofs.Ytifbkoaggjikpaa
