/- Class and Step of load, and the reference's. No statement of the seat is proved here. -/
import Derived.Test.YtaiciopfinlpiaaLdMath
import Derived.Test.YtaiciopfinlpiaaBox
namespace Go.Proofs.Ytaiciopfinlpiaa
open Go.RowKit

set_option maxRecDepth 100000 in
theorem class_any (b : BldD) (A : Option Addr) (cap x : Nat) (w : World) (hn : b.cars.length ≤ 140737488355328) (hc : CarsAt w w.heap.size A b.cars) :
    Calls Try.prog 11 #[b.agg A cap, .float .f64 x] w fun e w' => e = .returned (.int .i64 (classF b x)) ∧ Below w.heap.size w w' := by
  have FV := Lib.hid (fun wx (h : Below w.heap.size w wx) => valid_any b A cap wx hn ((hc.below h).more h.size))
  have hcl : classF b x = if validE b = 0 then if geB x 0 = false then 0 else if fltB x b.empty = true then 1 else if fltB x b.full = true then 2 else if fltB x b.over = true then 3 else 4 else 0 := rfl
  clear hc
  obtain ⟨f, d, r, p, e1, e2, e3, cs⟩ := b
  generalize classF _ x = R at *
  generalize validE _ = V at *
  simp only [BldD.agg] at FV ⊢
  unfold geB fltB at hcl
  simp only at hn hcl
  have HR := Lib.hid hcl
  clear hcl
  by_cases hv : V = 0
  · subst hv
    rcases Bool.eq_false_or_eq_true (FloatKind.f64.format.order x 0 == some .gt || FloatKind.f64.format.order x 0 == some .eq) with h0 | h0
    · rcases Bool.eq_false_or_eq_true (FloatKind.f64.format.order x e1 == some .lt) with h1 | h1 <;>
      rcases Bool.eq_false_or_eq_true (FloatKind.f64.format.order x e2 == some .lt) with h2 | h2 <;>
      rcases Bool.eq_false_or_eq_true (FloatKind.f64.format.order x e3 == some .lt) with h3 | h3
      all_goals
        go_enter Try.func11, Try.ntmps11
        go_wp2_with fail
        refine (FV.out _ (by go_grown)).mono ?_
        rintro e w1 ⟨rfl, hb⟩
        have hbx : Below (w.heap.size + 1) (w.alloc (.cells #[.int .i64 f, .int .i64 d, .int .i64 r, .int .i64 p, .float .f64 e1, .float .f64 e2, .float .f64 e3, .slice A cs.length cap] 25)) w1 := hb.mono (by simp)
        obtain ⟨-, c0, c1, c2, c3, c4, c5, c6, c7⟩ := boxS hbx
        go_wp2_with fail
        go_ret
        refine ⟨ret_int ?_, below_of_new hbx⟩
        rw [HR.out, h0, h1, h2, h3]
        rfl
    · go_enter Try.func11, Try.ntmps11
      go_wp2_with fail
      refine (FV.out _ (by go_grown)).mono ?_
      rintro e w1 ⟨rfl, hb⟩
      go_wp2_with fail
      go_ret
      refine ⟨ret_int ?_, below_of_new (hb.mono (by simp))⟩
      rw [HR.out, h0]
      rfl
  · go_enter Try.func11, Try.ntmps11
    go_wp2_with fail
    refine (FV.out _ (by go_grown)).mono ?_
    rintro e w1 ⟨rfl, hb⟩
    go_wp2_with fail
    go_ret
    refine ⟨ret_int ?_, below_of_new (hb.mono (by simp))⟩
    rw [HR.out, if_neg hv]
end Go.Proofs.Ytaiciopfinlpiaa
