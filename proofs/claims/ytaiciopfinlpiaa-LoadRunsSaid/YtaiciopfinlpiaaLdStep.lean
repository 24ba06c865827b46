/- The reference's Class; stays; Step of load, and the reference's. No statement of the seat is proved here. -/
import Derived.Test.YtaiciopfinlpiaaLdClass
import Derived.Test.YtaiciopfinlpiaaLit
namespace Go.Proofs.Ytaiciopfinlpiaa
open Go.RowKit

set_option maxRecDepth 100000 in
theorem refClass_any (b : BldD) (A : Option Addr) (cap x : Nat) (w : World) (hn : b.cars.length ≤ 140737488355328) (hc : CarsAt w w.heap.size A b.cars) :
    Calls Try.prog 12 #[b.agg A cap, .float .f64 x] w fun e w' => e = .returned (.int .i64 (classF b x)) ∧ Below w.heap.size w w' := by
  have FV := Lib.hid (fun wx (h : Below w.heap.size w wx) => refValid_any b A cap wx hn ((hc.below h).more h.size))
  have hcl : classF b x = if validE b = 0 then if geB x 0 = false then 0 else if fltB x b.empty = true then 1 else if fltB x b.full = true then 2 else if fltB x b.over = true then 3 else 4 else 0 := rfl
  clear hc
  obtain ⟨f, d, r, p, e1, e2, e3, cs⟩ := b
  generalize classF _ x = R at *
  generalize validE _ = V at *
  simp only [BldD.agg] at FV ⊢
  simp only at hn hcl
  have HR := Lib.hid hcl
  clear hcl
  by_cases hv : V = 0
  · subst hv
    have hne := ne_self x
    rcases Bool.eq_false_or_eq_true (nanB x) with hN | hN
    · rw [hN] at hne
      have hg := Lib.hid (ge_nan (y := 0) hN)
      clear hN
      go_enter Try.func12, Try.ntmps12
      go_wp2_with fail
      refine (FV.out _ (by go_grown)).mono ?_
      rintro e w1 ⟨rfl, hb⟩
      go_wp2_with fail
      go_ret
      refine ⟨ret_int ?_, below_of_new (hb.mono (by simp))⟩
      rw [HR.out, hg.out]
      rfl
    · rw [hN] at hne
      have hg := ge_not hN nan_zero
      unfold fltB at hg HR
      have HG := Lib.hid hg
      clear hN hg
      rcases Bool.eq_false_or_eq_true (FloatKind.f64.format.order x 0 == some .lt) with h0 | h0
      · go_enter Try.func12, Try.ntmps12
        go_wp2_with fail
        refine (FV.out _ (by go_grown)).mono ?_
        rintro e w1 ⟨rfl, hb⟩
        go_wp2_with fail
        go_ret
        refine ⟨ret_int ?_, below_of_new (hb.mono (by simp))⟩
        rw [HR.out, HG.out, h0]
        rfl
      · rcases Bool.eq_false_or_eq_true (FloatKind.f64.format.order x e1 == some .lt) with h1 | h1 <;>
        rcases Bool.eq_false_or_eq_true (FloatKind.f64.format.order x e2 == some .lt) with h2 | h2 <;>
        rcases Bool.eq_false_or_eq_true (FloatKind.f64.format.order x e3 == some .lt) with h3 | h3
        all_goals
          go_enter Try.func12, Try.ntmps12
          go_wp2_with fail
          refine (FV.out _ (by go_grown)).mono ?_
          rintro e w1 ⟨rfl, hb⟩
          have hbx : Below (w.heap.size + 1) (w.alloc (.cells #[.int .i64 f, .int .i64 d, .int .i64 r, .int .i64 p, .float .f64 e1, .float .f64 e2, .float .f64 e3, .slice A cs.length cap] 25)) w1 := hb.mono (by simp)
          obtain ⟨-, c0, c1, c2, c3, c4, c5, c6, c7⟩ := boxS hbx
          go_wp2_with fail
          go_ret
          refine ⟨ret_int ?_, below_of_new hbx⟩
          rw [HR.out, HG.out, h0, h1, h2, h3]
          rfl
  · go_enter Try.func12, Try.ntmps12
    go_wp2_with fail
    refine (FV.out _ (by go_grown)).mono ?_
    rintro e w1 ⟨rfl, hb⟩
    go_wp2_with fail
    go_ret
    refine ⟨ret_int ?_, below_of_new (hb.mono (by simp))⟩
    rw [HR.out, if_neg hv]

theorem sub_run {P : Program} {x : Nat} (hx : nanB x = false) (t : TypeId) (w : World) : (binOp .sub t (.float .f64 x) (.float .f64 4589168020290535424)).run P w = .ok (.float .f64 (lessB x)) w :=
  run_float_arith w .sub t .f64 x sixteenth (lessB x) (less_ok hx).1

theorem stays_any (b : BldD) (A : Option Addr) (cap x : Nat) (c : Int) (w : World) (hv : validE b = 0) :
    Calls Try.prog 25 #[b.agg A cap, .int .i64 c, .float .f64 x] w fun e w' => e = .returned (.bool (stayB b c x)) ∧ Below w.heap.size w w' := by
  obtain ⟨-, n1, n2⟩ := loads_num hv
  have o1 := fun t w => sub_run (P := Try.prog) n1 t w
  have o2 := fun t w => sub_run (P := Try.prog) n2 t w
  have hcl : stayB b c x = if c = 3 then geB x (lessB b.full) else if c = 4 then geB x (lessB b.over) else false := rfl
  unfold geB at hcl
  clear n1 n2 hv
  obtain ⟨f, d, r, p, e1, e2, e3, cs⟩ := b
  generalize stayB _ c x = R at *
  simp only [BldD.agg] at o1 o2 hcl ⊢
  generalize lessB e2 = s1 at *
  generalize lessB e3 = s2 at *
  have HR := Lib.hid hcl
  clear hcl
  by_cases h3 : c = 3
  · subst h3
    go_enter Try.func25, Try.ntmps25
    go_wp2_with fail
    go_ret
    refine ⟨ret_bool ?_, by go_grown⟩
    rw [HR.out]
    rfl
  · by_cases h4 : c = 4
    · subst h4
      go_enter Try.func25, Try.ntmps25
      go_wp2_with fail
      go_ret
      refine ⟨ret_bool ?_, by go_grown⟩
      rw [HR.out]
      rfl
    · go_enter Try.func25, Try.ntmps25
      go_wp2_with fail
      go_ret
      refine ⟨ret_bool ?_, by go_grown⟩
      rw [HR.out, if_neg h3, if_neg h4]
end Go.Proofs.Ytaiciopfinlpiaa
