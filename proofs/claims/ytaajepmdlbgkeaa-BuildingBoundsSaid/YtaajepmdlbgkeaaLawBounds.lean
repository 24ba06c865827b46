/- The law BuildingBounds: the bounds of every building are the reference's, and Bound is above every Deadline and every Service time of a valid one. No condition. -/
import Derived.Test.YtaajepmdlbgkeaaBoundsLoop
import Derived.Test.YtaajepmdlbgkeaaOpen
namespace Go.Proofs.Ytaajepmdlbgkeaa
open Go.RowKit Go.ChangeShapes Go.WideShapes Go.ChangeAt

set_option maxHeartbeats 2000000 in
theorem lawBounds_walk (b : BldD) (A : Option Addr) (cap : Nat) (car : Int) (w : World) (hc : CarsAt w w.heap.size A b.cars) (hlen : b.cars.length ≤ 9223372036854775807) :
    Calls Try.prog 6 #[b.agg A cap, .int .i64 car] w fun e w' => e = .returned (.bool true) ∧ Below w.heap.size w w' := by
  obtain ⟨f, d, r, p, e1, e2, e3, cs⟩ := b
  simp only at hc hlen
  rcases Bool.eq_false_or_eq_true (smallB ⟨f, d, r, p, e1, e2, e3, cs⟩) with hs | hs
  · exact lawBounds_loop f d r p e1 e2 e3 cs A cap car w hc (by have := (smallB_at hs).1; simp only at this; omega) hs
  · have HC := Lib.hid hc
    clear hc
    simp only [BldD.agg]
    go_enter Try.func6, Try.ntmps6
    go_wp2_with fail
    refine (small_any ⟨f, d, r, p, e1, e2, e3, cs⟩ A cap _ ((HC.out.below (by go_grown)).more (by simp)) hlen).mono ?_
    rw [hs]
    rintro e w' ⟨rfl, hb1⟩
    go_wp2_with fail
    refine (sane_any _).mono ?_
    rintro e w2 ⟨rfl, hb2⟩
    go_wp2
    go_ret
    have hx : Below w.heap.size w w' := Below.trans (by go_grown) (hb1.mono (by simp))
    exact ⟨rfl, hx.trans (hb2.mono hx.size)⟩

set_option maxRecDepth 100000 in
theorem lawBounds_lifted (os : Os) (started : os.Started) (H : Type) (enc : TypeId × Value → H) :
    ReturnsInHanded {} Try.checked os 6 .any (Rows.buildingBoundsSpec.pre6 enc Try.prog Try.f6 Rows.buildingBoundsRow.domain false) (Rows.buildingBoundsSpec.post enc Try.prog Try.f6 false true false false) := by
  refine returnsInHanded_of_change (C := Try.checked) own started (by kernel_rfl) Try.func6
    (ChangeSpec.witness6 (enc := enc) (C := Try.checked) false ⟨#[], #[.agg #[.int .i64 0, .int .i64 0, .int .i64 0, .int .i64 0, .float .f64 0, .float .f64 0, .float .f64 0, .slice none 0 0], .int .i64 0], []⟩ 8 (by kernel_rfl) (by kernel_rfl) (by kernel_rfl) (by kernel_rfl)) ?_
  intro W base args ds gs before hval0 hW hcnd _
  have hval : ∀ (j : Nat) t v, Try.f6.params[j]? = some t → args[j]? = some v → Value.okWide Try.prog W .any base t v := hval0
  have hW' := hW
  obtain ⟨p, q, hA0, hV, rfl, hfz, hnd⟩ := hW
  have hA : DataW.TrodAll enc Try.prog W 0 (fun _ => true) true Try.f6.params.toList args.toList ds p := hA0
  rw [Try.params6] at hA hval
  obtain ⟨v0, vs0, d0, ds0, p0, q0, hargs, rfl, rfl, h0, r0⟩ := trodAll_cons hA
  obtain ⟨v1, vs1, d1, ds1, p1, q1, rfl, rfl, rfl, h1, r1⟩ := trodAll_cons r0
  obtain ⟨rfl, rfl, rfl⟩ := trodAll_nil r1
  obtain rfl : args = #[v0, v1] := by cases args; simp_all
  obtain ⟨rfl, rfl⟩ := trodVars_none hV
  have k0 := h0
  have lt0 : ∀ x ∈ p0, x.block < W.heap.size := by obtain ⟨m, hm⟩ := k0; exact DataW.trod_lt m _ _ _ hm
  obtain ⟨b, A, cap, rfl, hcars, hlen⟩ := open_building (hval 0 25 v0 rfl rfl) h0
  obtain ⟨car, rfl, rfl, rfl, w1⟩ := open_int Try.underlying3 (hval 1 3 v1 rfl rfl) h1
  clear hA0 hval0
  refine (lawBounds_walk b A cap car W hcars hlen).mono fun e W' ⟨he, bel⟩ => ?_
  subst he
  exact ⟨_, rfl, _, _, _, [], _, [], hW', trodAll_mk1 (shut_bool Try.underlying4 _), (trodAll_cons_mk (Below.trod laidOut (by kernel_rfl) (of_decide_eq_true (by kernel_rfl)) k0 bel lt0) (trodAll_cons_mk (shut_int Try.underlying3 w1) trodAll_mk0)), rfl, bel.frame _, fun h => by cases h⟩

theorem lawBounds_over : Rows.buildingBoundsRow.holds Try.pinned (OpenSpec.ofChange Rows.buildingBoundsSpec) :=
  OpenClaim.holds_of_wide 6 Try.f6 rfl rfl rfl rfl rfl rfl rfl ⟨rfl, rfl, rfl, rfl, rfl⟩ rfl rfl rfl rfl rfl (by kernel_rfl) Try.func6 (by kernel_rfl)
    (of_decide_eq_true (by kernel_rfl)) (by unfold Func.isWrapper; first | (rw [if_pos (by decide +kernel)]; kernel_rfl) | (rw [if_neg (by decide +kernel)]; exact ⟨rfl, rfl⟩))
    (fun os started H enc _ => lawBounds_lifted os started H enc)

theorem buildingBounds_holds : Rows.BuildingBoundsSaid := lawBounds_over
#print axioms buildingBounds_holds
end Go.Proofs.Ytaajepmdlbgkeaa
