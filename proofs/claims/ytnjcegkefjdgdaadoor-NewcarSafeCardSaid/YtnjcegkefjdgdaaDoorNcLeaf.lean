/- The control of a modernised car: the tick as a value, what it needs, and the program's small functions. No statement of the seat is proved here. -/
import Derived.Test.YtnjcegkefjdgdaaDoorG19
import Derived.Test.YtnjcegkefjdgdaaDoorCvTop
import Derived.Test.YtnjcegkefjdgdaaDoorMoStep
import Derived.Test.YtnjcegkefjdgdaaDoorDrStep
import Derived.Test.YtnjcegkefjdgdaaDoorPkMove
import Derived.Test.YtnjcegkefjdgdaaDoorG8
import Derived.Test.YtnjcegkefjdgdaaDoorG13
import Derived.Test.YtnjcegkefjdgdaaDoorIndShows
namespace Go.Proofs.YtnjcegkefjdgdaaDoor
open Go.RowKit
set_option maxRecDepth 4000
set_option linter.unusedSimpArgs false

/-- What the control is told in a tick, as a value. -/
def tickV (b : BldD) (A : Option Addr) (cap : Nat) (k : Int) (x : Fb) (h : Cs) : Value :=
  .agg #[.int .i64 b.floors, .int .i64 b.debounce, .int .i64 b.room, .int .i64 b.park, .float .f64 b.empty, .float .f64 b.full, .float .f64 b.over, .slice A b.cars.length cap, .int .i64 k, .int .i64 x.fl, .bool x.lv, .int .i64 x.dd, .bool x.bl, .int .u32 h.up, .int .u32 h.dn]
/-- The building's cars and the tables lie in memory. -/
structure NcW (b : BldD) (A : Option Addr) (w : World) : Prop where
  cars : CarsAt w w.heap.size A b.cars
  tabs : Tabs w
theorem NcW.below {b : BldD} {A : Option Addr} {w wx : World} (h : NcW b A w) (hb : Below w.heap.size w wx) : NcW b A wx := ⟨(h.cars.below hb).more hb.size, h.tabs.below hb⟩
/-- The building is valid, it has the car, and the feedback is allowed. -/
structure NcG (b : BldD) (k : Int) (x : Fb) (h : Cs) : Prop where
  valid : validE b = 0
  car : 0 ≤ k ∧ k < b.cars.length
  fb : (0 ≤ x.fl ∧ x.fl ≤ b.floors - 1) ∧ 0 ≤ x.dd ∧ x.dd ≤ 2
  hall : h.ok
theorem NcG.floors {b : BldD} {k : Int} {x : Fb} {h : Cs} (g : NcG b k x h) : 2 ≤ b.floors ∧ b.floors ≤ 32 := (fineP_of g.valid).floors
theorem NcG.few {b : BldD} {k : Int} {x : Fb} {h : Cs} (g : NcG b k x h) : b.cars.length ≤ 140737488355328 := by have := (fineP_of g.valid).cars; omega
theorem u32_shl {k : Nat} (h : k < 32) : (2 : Int) ^ k % 4294967296 = ((2 ^ k : Nat) : Int) := by
  have := (by decide +kernel : ∀ k : Fin 32, (2 : Int) ^ k.val % 4294967296 = ((2 ^ k.val : Nat) : Int)) ⟨k, h⟩
  exact this
theorem or_one {q : Nat} (h : q ≤ 7) : bits .or .i64 (q : Int) 1 = ((q ||| 1 : Nat) : Int) := by
  have := (by decide +kernel : ∀ q : Fin 8, bits .or .i64 ((q.val : Nat) : Int) 1 = ((q.val ||| 1 : Nat) : Int)) ⟨q, by omega⟩
  exact this
theorem Nc.bit_lt {x : Fb} (h : x.fl < 32) : Nc.bit x < 4294967296 := by
  unfold Nc.bit
  have := Nat.pow_lt_pow_right (a := 2) (by decide) (show x.fl.toNat < 32 by omega)
  omega

set_option maxHeartbeats 4000000 in
theorem ncWithin_any (lo hi n : Int) (w : World) :
    Calls Tryd.prog 34 #[.int .i64 lo, .int .i64 hi, .int .i64 n] w fun ee w' => ee = .returned (.bool (Nc.wi lo hi n)) ∧ Below w.heap.size w w' := by
  unfold Nc.wi
  by_cases h1 : lo ≤ n
  all_goals
    by_cases h2 : n ≤ hi
    all_goals
      first
        | rw [decide_eq_true h1]
        | rw [decide_eq_false h1]
      first
        | rw [decide_eq_true h2]
        | rw [decide_eq_false h2]
      go_enter Tryd.func34, Tryd.ntmps34
      go_wp2
      go_ret
      exact ⟨rfl, by go_grown⟩
set_option maxHeartbeats 4000000 in
theorem faulty_any  (w : World) :
    Calls Tryd.prog 27 #[] w fun ee w' => ee = .returned (Nc.faulty.agg) ∧ Below w.heap.size w w' := by
  have HB0 := Lib.hid (bxs1 w (.cells #[.int .i64 0, .int .i64 0, .int .i64 0, .int .i64 0, .int .i64 0, .bool false, .int .i64 0, .int .i64 0, .int .i64 0, .int .i64 0, .int .u32 0, .int .i64 0, .int .i64 0, .bool false] 38))
  go_enter Tryd.func27, Tryd.ntmps27
  go_wp2_with (with_reducible show wpList _ _ _ (Oper.mk _ (.store 38 _ _) _ _ _ _ :: _) _ _; refine Hid.out ?_)
  refine Lib.hid ?_
  refine wpList_put rfl 38 _ _ rfl (w.heap.size) #[.int .i64 0, .int .i64 0, .int .i64 0, .int .i64 0, .int .i64 0, .bool false, .int .i64 0, .int .i64 0, .int .i64 0, .int .i64 0, .int .u32 0, .int .i64 0, .int .i64 0, .bool true] _ 38 rfl rfl HB0.out.r0 (by kernel_rfl) rfl (by kernel_rfl) ?_
  intro w1 hr1 hg1
  have HB1 : Hid (Bx w [(w.heap.size, .cells #[.int .i64 0, .int .i64 0, .int .i64 0, .int .i64 0, .int .i64 0, .bool false, .int .i64 0, .int .i64 0, .int .i64 0, .int .i64 0, .int .u32 0, .int .i64 0, .int .i64 0, .bool true] 38 (0, 0))] w1) := Lib.hid (HB0.out.put (by omega) hg1.out hr1.out (by simp only [List.mem_cons, List.not_mem_nil, or_false]; rintro p rfl <;> simp <;> omega))
  clear hr1 hg1 HB0
  go_wp2_with fail
  exact bodyPost_ret (results_cell_row Tryd.results27 _ _ _ _ _ (0, 0) _ rfl (HB1.out.r0) Tryd.underlying38 rfl (by kernel_rfl)) rfl (⟨rfl, HB1.out.below⟩)
set_option maxHeartbeats 4000000 in
theorem doorRests_any (s : Nc) (w : World) :
    Calls Tryd.prog 31 #[s.agg] w fun ee w' => ee = .returned (.bool (Nc.drB s)) ∧ Below w.heap.size w w' := by
  obtain ⟨sd, so, ⟨d1, d2, d3, d4, d5⟩, ⟨m1, m2, m3⟩, ca, sh, il, fa⟩ := s
  rw [show Nc.drB ⟨sd, so, ⟨d1, d2, d3, d4, d5⟩, ⟨m1, m2, m3⟩, ca, sh, il, fa⟩ = Dr.same ⟨d1, d2, d3, d4, d5⟩ ⟨0, 0, 0, false, 0⟩ from rfl]
  simp only [Nc.agg]
  have q := eqlDr d1 d2 d3 d4 d5 0 0 0 false 0
  generalize Dr.same ⟨d1, d2, d3, d4, d5⟩ ⟨0, 0, 0, false, 0⟩ = Q at *
  go_enter Tryd.func31, Tryd.ntmps31
  go_wp2_with fail
  go_ret
  exact ⟨rfl, by go_grown⟩
set_option maxHeartbeats 4000000 in
theorem motionRests_any (s : Nc) (w : World) :
    Calls Tryd.prog 32 #[s.agg] w fun ee w' => ee = .returned (.bool (Nc.moB s)) ∧ Below w.heap.size w w' := by
  obtain ⟨sd, so, ⟨d1, d2, d3, d4, d5⟩, ⟨m1, m2, m3⟩, ca, sh, il, fa⟩ := s
  rw [show Nc.moB ⟨sd, so, ⟨d1, d2, d3, d4, d5⟩, ⟨m1, m2, m3⟩, ca, sh, il, fa⟩ = Mo.same ⟨m1, m2, m3⟩ ⟨0, 0, 0⟩ from rfl]
  simp only [Nc.agg]
  have q := eqlMo m1 m2 m3 0 0 0
  generalize Mo.same ⟨m1, m2, m3⟩ ⟨0, 0, 0⟩ = Q at *
  go_enter Tryd.func32, Tryd.ntmps32
  go_wp2_with fail
  go_ret
  exact ⟨rfl, by go_grown⟩
set_option maxHeartbeats 4000000 in
theorem atFloors_any (b : BldD) (A : Option Addr) (cap : Nat) (q : Nat) (w : World) (hF : 2 ≤ b.floors ∧ b.floors ≤ 32) (hq : q < 4294967296) :
    Calls Tryd.prog 33 #[b.agg A cap, .int .u32 (q : Int)] w fun ee w' => ee = .returned (.int .u32 (Nc.fits b.floors q : Nat)) ∧ Below w.heap.size w w' := by
  obtain ⟨f, d, r, pk, e1, e2, e3, cs⟩ := b
  simp only at hF
  obtain ⟨F, rfl⟩ := Int.eq_ofNat_of_zero_le (show 0 ≤ f by omega)
  have hF2 : F ≤ 32 := by omega
  have hF32 : decide ((F : Int) < 0) = false := decide_eq_false (by omega)
  have hm : min (IntKind.u64.wrap (F : Int)).toNat 32 = F := by rw [IntKind.wrap_u64]; omega
  have ha := all_int hF2
  have hlt := Cv.all_lt hF2
  have hand := u32_and_nat q (Cv.all F) hq hlt
  rw [show Nc.fits ((F : Nat) : Int) q = q &&& Cv.all F from rfl]
  generalize Cv.all F = al at *
  simp only [BldD.agg]
  clear hF hlt hF2 hq
  go_enter Tryd.func33, Tryd.ntmps33
  go_wp2_with fail
  go_ret
  exact ⟨ret_u32 (by first | rfl | exact hand), by go_grown⟩
set_option maxHeartbeats 4000000 in
theorem here_any (b : BldD) (A : Option Addr) (cap : Nat) (k : Int) (x : Fb) (h : Cs) (w : World) (hx : 0 ≤ x.fl ∧ x.fl < 32) :
    Calls Tryd.prog 35 #[tickV b A cap k x h] w fun ee w' => ee = .returned (.int .u32 (Nc.bit x : Nat)) ∧ Below w.heap.size w w' := by
  obtain ⟨f, d, r, pk, e1, e2, e3, cs⟩ := b
  obtain ⟨fl, lv, dd, bl⟩ := x
  obtain ⟨hu, hd⟩ := h
  simp only at hx
  obtain ⟨F, rfl⟩ := Int.eq_ofNat_of_zero_le hx.1
  have hF2 : F < 32 := by omega
  have hF32 : decide ((F : Int) < 0) = false := decide_eq_false (by omega)
  have hm : min (IntKind.u64.wrap (F : Int)).toNat 32 = F := by rw [IntKind.wrap_u64]; omega
  have ha := u32_shl hF2
  rw [show Nc.bit ⟨((F : Nat) : Int), lv, dd, bl⟩ = 2 ^ F from rfl]
  clear hx hF2
  simp only [tickV]
  go_enter Tryd.func35, Tryd.ntmps35
  go_wp2_with fail
  go_ret
  exact ⟨ret_u32 (by first | rfl | exact ha), by go_grown⟩
set_option maxHeartbeats 4000000 in
theorem heard_any (b : BldD) (A : Option Addr) (cap : Nat) (k : Int) (x : Fb) (h : Cs) (s : Nc) (q : Nat) (w : World) (hg : NcG b k x h) (hq : q < 4294967296) :
    Calls Tryd.prog 17 #[tickV b A cap k x h, s.agg, .int .u32 (q : Int)] w fun ee w' => ee = .returned (.int .u32 (Nc.heard b.floors x s q : Nat)) ∧ Below w.heap.size w w' := by
  have FA := Lib.hid (fun wx => atFloors_any b A cap q wx hg.floors hq)
  have FD := Lib.hid (fun wx => doorRests_any s wx)
  have FH := Lib.hid (fun wx => here_any b A cap k x h wx ⟨hg.fb.1.1, by have := hg.fb.1.2; have := hg.floors; omega⟩)
  have hbl := Nc.bit_lt (x := x) (by have := hg.fb.1.2; have := hg.floors; omega)
  have hal : Nc.fits b.floors q < 4294967296 := Cs.and_lt hq
  have hnn := u32_andNot_nat (Nc.fits b.floors q) (Nc.bit x) hal hbl
  unfold Nc.heard
  unfold Nc.minus
  clear hg hq hbl hal
  generalize Nc.fits b.floors q = a at *
  generalize Nc.bit x = y at *
  generalize Nc.drB s = z at *
  obtain ⟨f, d, r, pk, e1, e2, e3, cs⟩ := b
  obtain ⟨fl, lv, dd, bl⟩ := x
  obtain ⟨hu, hd⟩ := h
  obtain ⟨sd, so, ⟨d1, d2, d3, d4, d5⟩, ⟨m1, m2, m3⟩, ca, sh, il, fa⟩ := s
  simp only [tickV, Nc.agg, BldD.agg, Fb.agg, Dr.agg, Mo.agg, Cs.agg] at *
  cases z
  · rw [if_neg (by decide)]
    have HB0 := Lib.hid (bxs2 w (.cells #[.int .i64 f, .int .i64 d, .int .i64 r, .int .i64 pk, .float .f64 e1, .float .f64 e2, .float .f64 e3, .slice A cs.length cap, .int .i64 k, .int .i64 fl, .bool lv, .int .i64 dd, .bool bl, .int .u32 hu, .int .u32 hd] 67) (.cells #[.int .i64 sd, .int .i64 so, .int .i64 d1, .int .i64 d2, .int .i64 d3, .bool d4, .int .i64 d5, .int .i64 m1, .int .i64 m2, .int .i64 m3, .int .u32 ca, .int .i64 sh, .int .i64 il, .bool fa] 38))
    go_enter Tryd.func17, Tryd.ntmps17
    go_wp2_with fail
    refine (FA.out _).mono ?_
    rintro e w1 ⟨rfl, hb1⟩
    have HB1 := Lib.hid (HB0.out.next hb1)
    clear hb1 HB0
    obtain ⟨c0_0, c0_1, c0_2, c0_3, c0_4, c0_5, c0_6, c0_7, c0_8, c0_9, c0_10, c0_11, c0_12, c0_13, c0_14⟩ := row15 (b := w.heap.size) HB1.out.r0
    obtain ⟨c1_0, c1_1, c1_2, c1_3, c1_4, c1_5, c1_6, c1_7, c1_8, c1_9, c1_10, c1_11, c1_12, c1_13⟩ := row14 (b := w.heap.size + 1) HB1.out.r1
    go_wp2_with fail
    refine (FD.out _).mono ?_
    rintro e w2 ⟨rfl, hb2⟩
    have HB2 := Lib.hid (HB1.out.next hb2)
    clear c0_0 c0_1 c0_2 c0_3 c0_4 c0_5 c0_6 c0_7 c0_8 c0_9 c0_10 c0_11 c0_12 c0_13 c0_14 c1_0 c1_1 c1_2 c1_3 c1_4 c1_5 c1_6 c1_7 c1_8 c1_9 c1_10 c1_11 c1_12 c1_13 hb2 HB1
    obtain ⟨c0_0, c0_1, c0_2, c0_3, c0_4, c0_5, c0_6, c0_7, c0_8, c0_9, c0_10, c0_11, c0_12, c0_13, c0_14⟩ := row15 (b := w.heap.size) HB2.out.r0
    obtain ⟨c1_0, c1_1, c1_2, c1_3, c1_4, c1_5, c1_6, c1_7, c1_8, c1_9, c1_10, c1_11, c1_12, c1_13⟩ := row14 (b := w.heap.size + 1) HB2.out.r1
    go_wp2_with fail
    refine (FH.out _).mono ?_
    rintro e w3 ⟨rfl, hb3⟩
    have HB3 := Lib.hid (HB2.out.next hb3)
    clear c0_0 c0_1 c0_2 c0_3 c0_4 c0_5 c0_6 c0_7 c0_8 c0_9 c0_10 c0_11 c0_12 c0_13 c0_14 c1_0 c1_1 c1_2 c1_3 c1_4 c1_5 c1_6 c1_7 c1_8 c1_9 c1_10 c1_11 c1_12 c1_13 hb3 HB2
    obtain ⟨c0_0, c0_1, c0_2, c0_3, c0_4, c0_5, c0_6, c0_7, c0_8, c0_9, c0_10, c0_11, c0_12, c0_13, c0_14⟩ := row15 (b := w.heap.size) HB3.out.r0
    obtain ⟨c1_0, c1_1, c1_2, c1_3, c1_4, c1_5, c1_6, c1_7, c1_8, c1_9, c1_10, c1_11, c1_12, c1_13⟩ := row14 (b := w.heap.size + 1) HB3.out.r1
    go_wp2_with fail
    go_ret
    exact ⟨rfl, HB3.out.below⟩
  · rw [if_pos rfl]
    have HB0 := Lib.hid (bxs2 w (.cells #[.int .i64 f, .int .i64 d, .int .i64 r, .int .i64 pk, .float .f64 e1, .float .f64 e2, .float .f64 e3, .slice A cs.length cap, .int .i64 k, .int .i64 fl, .bool lv, .int .i64 dd, .bool bl, .int .u32 hu, .int .u32 hd] 67) (.cells #[.int .i64 sd, .int .i64 so, .int .i64 d1, .int .i64 d2, .int .i64 d3, .bool d4, .int .i64 d5, .int .i64 m1, .int .i64 m2, .int .i64 m3, .int .u32 ca, .int .i64 sh, .int .i64 il, .bool fa] 38))
    go_enter Tryd.func17, Tryd.ntmps17
    go_wp2_with fail
    refine (FA.out _).mono ?_
    rintro e w1 ⟨rfl, hb1⟩
    have HB1 := Lib.hid (HB0.out.next hb1)
    clear hb1 HB0
    obtain ⟨c0_0, c0_1, c0_2, c0_3, c0_4, c0_5, c0_6, c0_7, c0_8, c0_9, c0_10, c0_11, c0_12, c0_13, c0_14⟩ := row15 (b := w.heap.size) HB1.out.r0
    obtain ⟨c1_0, c1_1, c1_2, c1_3, c1_4, c1_5, c1_6, c1_7, c1_8, c1_9, c1_10, c1_11, c1_12, c1_13⟩ := row14 (b := w.heap.size + 1) HB1.out.r1
    go_wp2_with fail
    refine (FD.out _).mono ?_
    rintro e w2 ⟨rfl, hb2⟩
    have HB2 := Lib.hid (HB1.out.next hb2)
    clear c0_0 c0_1 c0_2 c0_3 c0_4 c0_5 c0_6 c0_7 c0_8 c0_9 c0_10 c0_11 c0_12 c0_13 c0_14 c1_0 c1_1 c1_2 c1_3 c1_4 c1_5 c1_6 c1_7 c1_8 c1_9 c1_10 c1_11 c1_12 c1_13 hb2 HB1
    obtain ⟨c0_0, c0_1, c0_2, c0_3, c0_4, c0_5, c0_6, c0_7, c0_8, c0_9, c0_10, c0_11, c0_12, c0_13, c0_14⟩ := row15 (b := w.heap.size) HB2.out.r0
    obtain ⟨c1_0, c1_1, c1_2, c1_3, c1_4, c1_5, c1_6, c1_7, c1_8, c1_9, c1_10, c1_11, c1_12, c1_13⟩ := row14 (b := w.heap.size + 1) HB2.out.r1
    go_wp2_with fail
    go_ret
    exact ⟨rfl, HB2.out.below⟩
set_option maxHeartbeats 4000000 in
theorem underway_any (s : Nc) (w : World) :
    Calls Tryd.prog 38 #[s.agg] w fun ee w' => ee = .returned ((Nc.underway s).agg) ∧ Below w.heap.size w w' := by
  obtain ⟨sd, so, ⟨d1, d2, d3, d4, d5⟩, ⟨m1, m2, m3⟩, ca, sh, il, fa⟩ := s
  by_cases h1 : m1 = 0
  · subst h1
    rw [show Nc.underway ⟨sd, so, ⟨d1, d2, d3, d4, d5⟩, ⟨0, m2, m3⟩, ca, sh, il, fa⟩ = ⟨sd, so, ⟨d1, d2, d3, d4, d5⟩, ⟨0, m2, m3⟩, ca, sh, 0, fa⟩ from if_neg (fun h => h.1 rfl)]
    simp only [Nc.agg]
    have HB0 := Lib.hid (bxs2 w (.cells #[.int .i64 sd, .int .i64 so, .int .i64 d1, .int .i64 d2, .int .i64 d3, .bool d4, .int .i64 d5, .int .i64 0, .int .i64 m2, .int .i64 m3, .int .u32 ca, .int .i64 sh, .int .i64 il, .bool fa] 38) (.cells #[.int .i64 0, .int .i64 0, .int .i64 0, .int .i64 0, .int .i64 0, .bool false, .int .i64 0, .int .i64 0, .int .i64 0, .int .i64 0, .int .u32 0, .int .i64 0, .int .i64 0, .bool false] 38))
    go_enter Tryd.func38, Tryd.ntmps38
    go_wp2_with (with_reducible show wpList _ _ _ (Oper.mk _ (.store 3 _ _) _ _ _ _ :: _) _ _; refine Hid.out ?_)
    refine Lib.hid ?_
    refine wpList_putCell rfl 3 _ _ rfl (w.heap.size) 12 (.int .i64 0) _ _ 38 rfl rfl HB0.out.r0 (by kernel_rfl) (by simp) rfl rfl rfl ?_
    intro w1 hr1 hg1
    have HB1 : Hid (Bx w [(w.heap.size, .cells #[.int .i64 sd, .int .i64 so, .int .i64 d1, .int .i64 d2, .int .i64 d3, .bool d4, .int .i64 d5, .int .i64 0, .int .i64 m2, .int .i64 m3, .int .u32 ca, .int .i64 sh, .int .i64 0, .bool fa] 38 (0, 0)), (w.heap.size + 1, .cells #[.int .i64 0, .int .i64 0, .int .i64 0, .int .i64 0, .int .i64 0, .bool false, .int .i64 0, .int .i64 0, .int .i64 0, .int .i64 0, .int .u32 0, .int .i64 0, .int .i64 0, .bool false] 38 (0, 0))] w1) := Lib.hid (HB0.out.put (by omega) hg1.out hr1.out (by simp only [List.mem_cons, List.not_mem_nil, or_false]; rintro p (rfl | rfl) <;> simp <;> omega))
    clear hr1 hg1 HB0
    obtain ⟨c0_0, c0_1, c0_2, c0_3, c0_4, c0_5, c0_6, c0_7, c0_8, c0_9, c0_10, c0_11, c0_12, c0_13⟩ := row14 (b := w.heap.size) HB1.out.r0
    obtain ⟨c1_0, c1_1, c1_2, c1_3, c1_4, c1_5, c1_6, c1_7, c1_8, c1_9, c1_10, c1_11, c1_12, c1_13⟩ := row14 (b := w.heap.size + 1) HB1.out.r1
    go_wp2_with (with_reducible show wpList _ _ _ (Oper.mk _ (.store 38 _ _) _ _ _ _ :: _) _ _; refine Hid.out ?_)
    refine Lib.hid ?_
    refine wpList_put rfl 38 _ _ rfl (w.heap.size + 1) #[.int .i64 sd, .int .i64 so, .int .i64 d1, .int .i64 d2, .int .i64 d3, .bool d4, .int .i64 d5, .int .i64 0, .int .i64 m2, .int .i64 m3, .int .u32 ca, .int .i64 sh, .int .i64 0, .bool fa] _ 38 rfl rfl HB1.out.r1 (by kernel_rfl) rfl (by kernel_rfl) ?_
    intro w2 hr2 hg2
    have HB2 : Hid (Bx w [(w.heap.size, .cells #[.int .i64 sd, .int .i64 so, .int .i64 d1, .int .i64 d2, .int .i64 d3, .bool d4, .int .i64 d5, .int .i64 0, .int .i64 m2, .int .i64 m3, .int .u32 ca, .int .i64 sh, .int .i64 0, .bool fa] 38 (0, 0)), (w.heap.size + 1, .cells #[.int .i64 sd, .int .i64 so, .int .i64 d1, .int .i64 d2, .int .i64 d3, .bool d4, .int .i64 d5, .int .i64 0, .int .i64 m2, .int .i64 m3, .int .u32 ca, .int .i64 sh, .int .i64 0, .bool fa] 38 (0, 0))] w2) := Lib.hid (HB1.out.put (by omega) hg2.out hr2.out (by simp only [List.mem_cons, List.not_mem_nil, or_false]; rintro p (rfl | rfl) <;> simp <;> omega))
    clear c0_0 c0_1 c0_2 c0_3 c0_4 c0_5 c0_6 c0_7 c0_8 c0_9 c0_10 c0_11 c0_12 c0_13 c1_0 c1_1 c1_2 c1_3 c1_4 c1_5 c1_6 c1_7 c1_8 c1_9 c1_10 c1_11 c1_12 c1_13 hr2 hg2 HB1
    go_wp2_with fail
    exact bodyPost_ret (results_cell_row Tryd.results38 _ _ _ _ _ (0, 0) _ rfl (HB2.out.r1) Tryd.underlying38 rfl (by kernel_rfl)) rfl (⟨rfl, HB2.out.below⟩)
  · have hB : (m1 != 0) = true := by simpa using h1
    by_cases h2 : sd = 0
    · subst h2
      rw [show Nc.underway ⟨0, so, ⟨d1, d2, d3, d4, d5⟩, ⟨m1, m2, m3⟩, ca, sh, il, fa⟩ = ⟨0, so, ⟨d1, d2, d3, d4, d5⟩, ⟨m1, m2, m3⟩, ca, sh, il, fa⟩ from if_pos ⟨h1, rfl⟩]
      simp only [Nc.agg]
      have HB0 := Lib.hid (bxs2 w (.cells #[.int .i64 0, .int .i64 so, .int .i64 d1, .int .i64 d2, .int .i64 d3, .bool d4, .int .i64 d5, .int .i64 m1, .int .i64 m2, .int .i64 m3, .int .u32 ca, .int .i64 sh, .int .i64 il, .bool fa] 38) (.cells #[.int .i64 0, .int .i64 0, .int .i64 0, .int .i64 0, .int .i64 0, .bool false, .int .i64 0, .int .i64 0, .int .i64 0, .int .i64 0, .int .u32 0, .int .i64 0, .int .i64 0, .bool false] 38))
      go_enter Tryd.func38, Tryd.ntmps38
      go_wp2_with (with_reducible show wpList _ _ _ (Oper.mk _ (.store 38 _ _) _ _ _ _ :: _) _ _; refine Hid.out ?_)
      refine Lib.hid ?_
      refine wpList_put rfl 38 _ _ rfl (w.heap.size + 1) #[.int .i64 0, .int .i64 so, .int .i64 d1, .int .i64 d2, .int .i64 d3, .bool d4, .int .i64 d5, .int .i64 m1, .int .i64 m2, .int .i64 m3, .int .u32 ca, .int .i64 sh, .int .i64 il, .bool fa] _ 38 rfl rfl HB0.out.r1 (by kernel_rfl) rfl (by kernel_rfl) ?_
      intro w1 hr1 hg1
      have HB1 : Hid (Bx w [(w.heap.size, .cells #[.int .i64 0, .int .i64 so, .int .i64 d1, .int .i64 d2, .int .i64 d3, .bool d4, .int .i64 d5, .int .i64 m1, .int .i64 m2, .int .i64 m3, .int .u32 ca, .int .i64 sh, .int .i64 il, .bool fa] 38 (0, 0)), (w.heap.size + 1, .cells #[.int .i64 0, .int .i64 so, .int .i64 d1, .int .i64 d2, .int .i64 d3, .bool d4, .int .i64 d5, .int .i64 m1, .int .i64 m2, .int .i64 m3, .int .u32 ca, .int .i64 sh, .int .i64 il, .bool fa] 38 (0, 0))] w1) := Lib.hid (HB0.out.put (by omega) hg1.out hr1.out (by simp only [List.mem_cons, List.not_mem_nil, or_false]; rintro p (rfl | rfl) <;> simp <;> omega))
      clear hr1 hg1 HB0
      go_wp2_with fail
      exact bodyPost_ret (results_cell_row Tryd.results38 _ _ _ _ _ (0, 0) _ rfl (HB1.out.r1) Tryd.underlying38 rfl (by kernel_rfl)) rfl (⟨rfl, HB1.out.below⟩)
    · rw [show Nc.underway ⟨sd, so, ⟨d1, d2, d3, d4, d5⟩, ⟨m1, m2, m3⟩, ca, sh, il, fa⟩ = ⟨sd, so, ⟨d1, d2, d3, d4, d5⟩, ⟨m1, m2, m3⟩, ca, sh, 0, fa⟩ from if_neg (fun h => h2 h.2)]
      have hC : (sd == 0) = false := by simpa using h2
      simp only [Nc.agg]
      have HB0 := Lib.hid (bxs2 w (.cells #[.int .i64 sd, .int .i64 so, .int .i64 d1, .int .i64 d2, .int .i64 d3, .bool d4, .int .i64 d5, .int .i64 m1, .int .i64 m2, .int .i64 m3, .int .u32 ca, .int .i64 sh, .int .i64 il, .bool fa] 38) (.cells #[.int .i64 0, .int .i64 0, .int .i64 0, .int .i64 0, .int .i64 0, .bool false, .int .i64 0, .int .i64 0, .int .i64 0, .int .i64 0, .int .u32 0, .int .i64 0, .int .i64 0, .bool false] 38))
      go_enter Tryd.func38, Tryd.ntmps38
      go_wp2_with (with_reducible show wpList _ _ _ (Oper.mk _ (.store 3 _ _) _ _ _ _ :: _) _ _; refine Hid.out ?_)
      refine Lib.hid ?_
      refine wpList_putCell rfl 3 _ _ rfl (w.heap.size) 12 (.int .i64 0) _ _ 38 rfl rfl HB0.out.r0 (by kernel_rfl) (by simp) rfl rfl rfl ?_
      intro w1 hr1 hg1
      have HB1 : Hid (Bx w [(w.heap.size, .cells #[.int .i64 sd, .int .i64 so, .int .i64 d1, .int .i64 d2, .int .i64 d3, .bool d4, .int .i64 d5, .int .i64 m1, .int .i64 m2, .int .i64 m3, .int .u32 ca, .int .i64 sh, .int .i64 0, .bool fa] 38 (0, 0)), (w.heap.size + 1, .cells #[.int .i64 0, .int .i64 0, .int .i64 0, .int .i64 0, .int .i64 0, .bool false, .int .i64 0, .int .i64 0, .int .i64 0, .int .i64 0, .int .u32 0, .int .i64 0, .int .i64 0, .bool false] 38 (0, 0))] w1) := Lib.hid (HB0.out.put (by omega) hg1.out hr1.out (by simp only [List.mem_cons, List.not_mem_nil, or_false]; rintro p (rfl | rfl) <;> simp <;> omega))
      clear hr1 hg1 HB0
      obtain ⟨c0_0, c0_1, c0_2, c0_3, c0_4, c0_5, c0_6, c0_7, c0_8, c0_9, c0_10, c0_11, c0_12, c0_13⟩ := row14 (b := w.heap.size) HB1.out.r0
      obtain ⟨c1_0, c1_1, c1_2, c1_3, c1_4, c1_5, c1_6, c1_7, c1_8, c1_9, c1_10, c1_11, c1_12, c1_13⟩ := row14 (b := w.heap.size + 1) HB1.out.r1
      go_wp2_with (with_reducible show wpList _ _ _ (Oper.mk _ (.store 38 _ _) _ _ _ _ :: _) _ _; refine Hid.out ?_)
      refine Lib.hid ?_
      refine wpList_put rfl 38 _ _ rfl (w.heap.size + 1) #[.int .i64 sd, .int .i64 so, .int .i64 d1, .int .i64 d2, .int .i64 d3, .bool d4, .int .i64 d5, .int .i64 m1, .int .i64 m2, .int .i64 m3, .int .u32 ca, .int .i64 sh, .int .i64 0, .bool fa] _ 38 rfl rfl HB1.out.r1 (by kernel_rfl) rfl (by kernel_rfl) ?_
      intro w2 hr2 hg2
      have HB2 : Hid (Bx w [(w.heap.size, .cells #[.int .i64 sd, .int .i64 so, .int .i64 d1, .int .i64 d2, .int .i64 d3, .bool d4, .int .i64 d5, .int .i64 m1, .int .i64 m2, .int .i64 m3, .int .u32 ca, .int .i64 sh, .int .i64 0, .bool fa] 38 (0, 0)), (w.heap.size + 1, .cells #[.int .i64 sd, .int .i64 so, .int .i64 d1, .int .i64 d2, .int .i64 d3, .bool d4, .int .i64 d5, .int .i64 m1, .int .i64 m2, .int .i64 m3, .int .u32 ca, .int .i64 sh, .int .i64 0, .bool fa] 38 (0, 0))] w2) := Lib.hid (HB1.out.put (by omega) hg2.out hr2.out (by simp only [List.mem_cons, List.not_mem_nil, or_false]; rintro p (rfl | rfl) <;> simp <;> omega))
      clear c0_0 c0_1 c0_2 c0_3 c0_4 c0_5 c0_6 c0_7 c0_8 c0_9 c0_10 c0_11 c0_12 c0_13 c1_0 c1_1 c1_2 c1_3 c1_4 c1_5 c1_6 c1_7 c1_8 c1_9 c1_10 c1_11 c1_12 c1_13 hr2 hg2 HB1
      go_wp2_with fail
      exact bodyPost_ret (results_cell_row Tryd.results38 _ _ _ _ _ (0, 0) _ rfl (HB2.out.r1) Tryd.underlying38 rfl (by kernel_rfl)) rfl (⟨rfl, HB2.out.below⟩)
set_option maxHeartbeats 4000000 in
theorem foundOpen_any (s : Nc) (w : World) (hs : 0 ≤ s.so ∧ s.so ≤ 7) :
    Calls Tryd.prog 39 #[s.agg] w fun ee w' => ee = .returned ((Nc.foundOpen s).agg) ∧ Below w.heap.size w w' := by
  obtain ⟨sd, so, ⟨d1, d2, d3, d4, d5⟩, ⟨m1, m2, m3⟩, ca, sh, il, fa⟩ := s
  simp only at hs
  obtain ⟨o, rfl⟩ := Int.eq_ofNat_of_zero_le hs.1
  have hor := or_one (q := o) (by omega)
  rw [show Nc.foundOpen ⟨sd, ((o : Nat) : Int), ⟨d1, d2, d3, d4, d5⟩, ⟨m1, m2, m3⟩, ca, sh, il, fa⟩ = ⟨sd, ((o ||| 1 : Nat) : Int), ⟨1, 0, 0, false, 0⟩, ⟨m1, m2, m3⟩, ca, 0, il, fa⟩ from rfl]
  simp only [Nc.agg]
  generalize ((o ||| 1 : Nat) : Int) = o1 at *
  clear hs
  have HB0 := Lib.hid (bxs2 w (.cells #[.int .i64 sd, .int .i64 (o : Int), .int .i64 d1, .int .i64 d2, .int .i64 d3, .bool d4, .int .i64 d5, .int .i64 m1, .int .i64 m2, .int .i64 m3, .int .u32 ca, .int .i64 sh, .int .i64 il, .bool fa] 38) (.cells #[.int .i64 0, .int .i64 0, .int .i64 0, .int .i64 0, .int .i64 0, .bool false, .int .i64 0, .int .i64 0, .int .i64 0, .int .i64 0, .int .u32 0, .int .i64 0, .int .i64 0, .bool false] 38))
  go_enter Tryd.func39, Tryd.ntmps39
  go_wp2_with (with_reducible show wpList _ _ _ (Oper.mk _ (.store 33 _ _) _ _ _ _ :: _) _ _; refine Hid.out ?_)
  refine Lib.hid ?_
  refine wpList_putPart rfl 33 _ _ rfl (w.heap.size) 2 #[.int .i64 1, .int .i64 0, .int .i64 0, .bool false, .int .i64 0] _ #[.int .i64 sd, .int .i64 (o : Int), .int .i64 1, .int .i64 0, .int .i64 0, .bool false, .int .i64 0, .int .i64 m1, .int .i64 m2, .int .i64 m3, .int .u32 ca, .int .i64 sh, .int .i64 il, .bool fa] 38 rfl rfl HB0.out.r0 (by kernel_rfl) (by simp) (by kernel_rfl) rfl ?_
  intro w1 hr1 hg1
  have HB1 : Hid (Bx w [(w.heap.size, .cells #[.int .i64 sd, .int .i64 (o : Int), .int .i64 1, .int .i64 0, .int .i64 0, .bool false, .int .i64 0, .int .i64 m1, .int .i64 m2, .int .i64 m3, .int .u32 ca, .int .i64 sh, .int .i64 il, .bool fa] 38 (0, 0)), (w.heap.size + 1, .cells #[.int .i64 0, .int .i64 0, .int .i64 0, .int .i64 0, .int .i64 0, .bool false, .int .i64 0, .int .i64 0, .int .i64 0, .int .i64 0, .int .u32 0, .int .i64 0, .int .i64 0, .bool false] 38 (0, 0))] w1) := Lib.hid (HB0.out.put (by omega) hg1.out hr1.out (by simp only [List.mem_cons, List.not_mem_nil, or_false]; rintro p (rfl | rfl) <;> simp <;> omega))
  clear hr1 hg1 HB0
  obtain ⟨c0_0, c0_1, c0_2, c0_3, c0_4, c0_5, c0_6, c0_7, c0_8, c0_9, c0_10, c0_11, c0_12, c0_13⟩ := row14 (b := w.heap.size) HB1.out.r0
  go_wp2_with (with_reducible show wpList _ _ _ (Oper.mk _ (.store 3 _ _) _ _ _ _ :: _) _ _; refine Hid.out ?_)
  refine Lib.hid ?_
  refine wpList_putCell rfl 3 _ _ rfl (w.heap.size) 11 (.int .i64 0) _ _ 38 rfl rfl HB1.out.r0 (by kernel_rfl) (by simp) rfl rfl rfl ?_
  intro w2 hr2 hg2
  have HB2 : Hid (Bx w [(w.heap.size, .cells #[.int .i64 sd, .int .i64 (o : Int), .int .i64 1, .int .i64 0, .int .i64 0, .bool false, .int .i64 0, .int .i64 m1, .int .i64 m2, .int .i64 m3, .int .u32 ca, .int .i64 0, .int .i64 il, .bool fa] 38 (0, 0)), (w.heap.size + 1, .cells #[.int .i64 0, .int .i64 0, .int .i64 0, .int .i64 0, .int .i64 0, .bool false, .int .i64 0, .int .i64 0, .int .i64 0, .int .i64 0, .int .u32 0, .int .i64 0, .int .i64 0, .bool false] 38 (0, 0))] w2) := Lib.hid (HB1.out.put (by omega) hg2.out hr2.out (by simp only [List.mem_cons, List.not_mem_nil, or_false]; rintro p (rfl | rfl) <;> simp <;> omega))
  clear c0_0 c0_1 c0_2 c0_3 c0_4 c0_5 c0_6 c0_7 c0_8 c0_9 c0_10 c0_11 c0_12 c0_13 hr2 hg2 HB1
  obtain ⟨c0_0, c0_1, c0_2, c0_3, c0_4, c0_5, c0_6, c0_7, c0_8, c0_9, c0_10, c0_11, c0_12, c0_13⟩ := row14 (b := w.heap.size) HB2.out.r0
  go_wp2_with (with_reducible show wpList _ _ _ (Oper.mk _ (.store 3 _ _) _ _ _ _ :: _) _ _; refine Hid.out ?_)
  refine Lib.hid ?_
  refine wpList_putCell rfl 3 _ _ rfl (w.heap.size) 1 (.int .i64 o1) _ _ 38 rfl rfl HB2.out.r0 (by kernel_rfl) (by simp) rfl rfl rfl ?_
  intro w3 hr3 hg3
  have HB3 : Hid (Bx w [(w.heap.size, .cells #[.int .i64 sd, .int .i64 o1, .int .i64 1, .int .i64 0, .int .i64 0, .bool false, .int .i64 0, .int .i64 m1, .int .i64 m2, .int .i64 m3, .int .u32 ca, .int .i64 0, .int .i64 il, .bool fa] 38 (0, 0)), (w.heap.size + 1, .cells #[.int .i64 0, .int .i64 0, .int .i64 0, .int .i64 0, .int .i64 0, .bool false, .int .i64 0, .int .i64 0, .int .i64 0, .int .i64 0, .int .u32 0, .int .i64 0, .int .i64 0, .bool false] 38 (0, 0))] w3) := Lib.hid (HB2.out.put (by omega) hg3.out hr3.out (by simp only [List.mem_cons, List.not_mem_nil, or_false]; rintro p (rfl | rfl) <;> simp <;> omega))
  clear c0_0 c0_1 c0_2 c0_3 c0_4 c0_5 c0_6 c0_7 c0_8 c0_9 c0_10 c0_11 c0_12 c0_13 hr3 hg3 HB2
  obtain ⟨c0_0, c0_1, c0_2, c0_3, c0_4, c0_5, c0_6, c0_7, c0_8, c0_9, c0_10, c0_11, c0_12, c0_13⟩ := row14 (b := w.heap.size) HB3.out.r0
  go_wp2_with (with_reducible show wpList _ _ _ (Oper.mk _ (.store 38 _ _) _ _ _ _ :: _) _ _; refine Hid.out ?_)
  refine Lib.hid ?_
  refine wpList_put rfl 38 _ _ rfl (w.heap.size + 1) #[.int .i64 sd, .int .i64 o1, .int .i64 1, .int .i64 0, .int .i64 0, .bool false, .int .i64 0, .int .i64 m1, .int .i64 m2, .int .i64 m3, .int .u32 ca, .int .i64 0, .int .i64 il, .bool fa] _ 38 rfl rfl HB3.out.r1 (by kernel_rfl) rfl (by kernel_rfl) ?_
  intro w4 hr4 hg4
  have HB4 : Hid (Bx w [(w.heap.size, .cells #[.int .i64 sd, .int .i64 o1, .int .i64 1, .int .i64 0, .int .i64 0, .bool false, .int .i64 0, .int .i64 m1, .int .i64 m2, .int .i64 m3, .int .u32 ca, .int .i64 0, .int .i64 il, .bool fa] 38 (0, 0)), (w.heap.size + 1, .cells #[.int .i64 sd, .int .i64 o1, .int .i64 1, .int .i64 0, .int .i64 0, .bool false, .int .i64 0, .int .i64 m1, .int .i64 m2, .int .i64 m3, .int .u32 ca, .int .i64 0, .int .i64 il, .bool fa] 38 (0, 0))] w4) := Lib.hid (HB3.out.put (by omega) hg4.out hr4.out (by simp only [List.mem_cons, List.not_mem_nil, or_false]; rintro p (rfl | rfl) <;> simp <;> omega))
  clear c0_0 c0_1 c0_2 c0_3 c0_4 c0_5 c0_6 c0_7 c0_8 c0_9 c0_10 c0_11 c0_12 c0_13 hr4 hg4 HB3
  go_wp2_with fail
  exact bodyPost_ret (results_cell_row Tryd.results39 _ _ _ _ _ (0, 0) _ rfl (HB4.out.r1) Tryd.underlying38 rfl (by kernel_rfl)) rfl (⟨rfl, HB4.out.below⟩)
end Go.Proofs.YtnjcegkefjdgdaaDoor
