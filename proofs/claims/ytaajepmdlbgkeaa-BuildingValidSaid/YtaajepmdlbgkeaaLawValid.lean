/- The law BuildingValid: building.Valid and the reference give the same number for every building. No condition. -/
import Derived.Test.YtaajepmdlbgkeaaSane
import Derived.Test.YtaajepmdlbgkeaaRefValid
import Derived.Test.YtaajepmdlbgkeaaOpen
import Derived.Test.YtaajepmdlbgkeaaBox
namespace Go.Proofs.Ytaajepmdlbgkeaa
open Go.RowKit Go.ChangeShapes Go.WideShapes Go.ChangeAt

set_option maxHeartbeats 2000000 in
theorem lawValid_walk (b : BldD) (A : Option Addr) (cap : Nat) (w : World) (hc : CarsAt w w.heap.size A b.cars) :
    Calls Try.prog 3 #[b.agg A cap] w fun e w' => e = .returned (.bool true) ∧ Below w.heap.size w w' := by
  have HC := Lib.hid hc
  clear hc
  obtain ⟨f, d, r, p, e1, e2, e3, cs⟩ := b
  simp only at HC
  simp only [BldD.agg]
  by_cases hlen : 100 < cs.length
  · go_enter Try.func3, Try.ntmps3
    go_wp2_with fail
    have hl : (100 : Int) < (cs.length : Int) := by omega
    have hd : decide ((100 : Int) < (cs.length : Int)) = true := decide_eq_true hl
    go_quiet (fail)
    go_wp2
    go_ret
    exact ⟨rfl, (below_of_new (Below.refl _ _)).trans ⟨rfl, rfl, rfl, Nat.le_refl _, fun _ _ => rfl⟩⟩
  · have hn : cs.length ≤ 140737488355328 := by omega
    obtain ⟨v, hw⟩ : ∃ v, v = validE ⟨f, d, r, p, e1, e2, e3, cs⟩ := ⟨_, rfl⟩
    have HW := Lib.hid hw
    clear hw
    go_enter Try.func3, Try.ntmps3
    go_wp2_with fail
    have hl : ¬ (100 : Int) < (cs.length : Int) := by omega
    have hd : decide ((100 : Int) < (cs.length : Int)) = false := decide_eq_false hl
    have hx : Below (w.heap.size + 1) (w.alloc (.cells #[.int .i64 f, .int .i64 d, .int .i64 r, .int .i64 p, .float .f64 e1, .float .f64 e2, .float .f64 e3, .slice A cs.length cap] 25)) ((w.alloc (.cells #[.int .i64 f, .int .i64 d, .int .i64 r, .int .i64 p, .float .f64 e1, .float .f64 e2, .float .f64 e3, .slice A cs.length cap] 25)).drew) := (Below.refl _ _).drew
    go_region_held3 (fun wx => Below (w.heap.size + 1) (w.alloc (.cells #[.int .i64 f, .int .i64 d, .int .i64 r, .int .i64 p, .float .f64 e1, .float .f64 e2, .float .f64 e3, .slice A cs.length cap] 25)) wx ∧ wx.cell? ⟨w.heap.size, 0, none⟩ = some (.int .i64 f) ∧ wx.cell? ⟨w.heap.size, 1, none⟩ = some (.int .i64 d) ∧ wx.cell? ⟨w.heap.size, 2, none⟩ = some (.int .i64 r) ∧ wx.cell? ⟨w.heap.size, 3, none⟩ = some (.int .i64 p) ∧ wx.cell? ⟨w.heap.size, 4, none⟩ = some (.float .f64 e1) ∧ wx.cell? ⟨w.heap.size, 5, none⟩ = some (.float .f64 e2) ∧ wx.cell? ⟨w.heap.size, 6, none⟩ = some (.float .f64 e3) ∧ wx.cell? ⟨w.heap.size, 7, none⟩ = some (.slice A cs.length cap))
      (first | exact boxS hx | exact boxS hx.drew)
      (first
        | (go_at_call 8; refine (valid_any ⟨f, d, r, p, e1, e2, e3, cs⟩ A cap _ hn ((HC.out.below (below_of_new hx)).more (Nat.le_of_succ_le (box_size hx)))).mono ?_; rw [← HW.out]; rintro e w3 ⟨rfl, hb3⟩; replace hx := hx.trans (hb3.mono (box_size hx)))
        | (go_at_call 9; refine (refValid_any ⟨f, d, r, p, e1, e2, e3, cs⟩ A cap _ hn ((HC.out.below (below_of_new hx)).more (Nat.le_of_succ_le (box_size hx)))).mono ?_; rw [← HW.out]; rintro e w4 ⟨rfl, hb4⟩; replace hx := hx.trans (hb4.mono (box_size hx)))
        | (go_at_call 10; refine (sane_any _).mono ?_; rintro e w5 ⟨rfl, hb5⟩; replace hx := hx.trans (hb5.mono (box_size hx))))
    go_wp2
    go_ret
    exact ⟨rfl, below_of_new hx⟩

set_option maxRecDepth 100000 in
theorem lawValid_lifted (os : Os) (started : os.Started) (H : Type) (enc : TypeId × Value → H) :
    ReturnsInHanded {} Try.checked os 3 .any (Rows.buildingValidSpec.pre6 enc Try.prog Try.f3 Rows.buildingValidRow.domain false) (Rows.buildingValidSpec.post enc Try.prog Try.f3 false true false false) := by
  refine returnsInHanded_of_change (C := Try.checked) own started (by kernel_rfl) Try.func3
    (ChangeSpec.witness6 (enc := enc) (C := Try.checked) false ⟨#[], #[.agg #[.int .i64 0, .int .i64 0, .int .i64 0, .int .i64 0, .float .f64 0, .float .f64 0, .float .f64 0, .slice none 0 0]], []⟩ 8 (by kernel_rfl) (by kernel_rfl) (by kernel_rfl) (by kernel_rfl)) ?_
  intro W base args ds gs before hval0 hW hcnd _
  have hval : ∀ (j : Nat) t v, Try.f3.params[j]? = some t → args[j]? = some v → Value.okWide Try.prog W .any base t v := hval0
  have hW' := hW
  obtain ⟨p, q, hA0, hV, rfl, hfz, hnd⟩ := hW
  have hA : DataW.TrodAll enc Try.prog W 0 (fun _ => true) true Try.f3.params.toList args.toList ds p := hA0
  rw [Try.params3] at hA hval
  obtain ⟨v0, vs0, d0, ds0, p0, q0, hargs, rfl, rfl, h0, r0⟩ := trodAll_cons hA
  obtain ⟨rfl, rfl, rfl⟩ := trodAll_nil r0
  obtain rfl : args = #[v0] := by cases args; simp_all
  obtain ⟨rfl, rfl⟩ := trodVars_none hV
  have k0 := h0
  have lt0 : ∀ x ∈ p0, x.block < W.heap.size := by obtain ⟨m, hm⟩ := k0; exact DataW.trod_lt m _ _ _ hm
  obtain ⟨b, A, cap, rfl, hcars, _⟩ := open_building (hval 0 25 v0 rfl rfl) h0
  clear hA0 hval0
  refine (lawValid_walk b A cap W hcars).mono fun e W' ⟨he, bel⟩ => ?_
  subst he
  exact ⟨_, rfl, _, _, _, [], _, [], hW', trodAll_mk1 (shut_bool Try.underlying4 _), (trodAll_cons_mk (Below.trod laidOut (by kernel_rfl) (of_decide_eq_true (by kernel_rfl)) k0 bel lt0) trodAll_mk0), rfl, bel.frame _, fun h => by cases h⟩

theorem lawValid_over : Rows.buildingValidRow.holds Try.pinned (OpenSpec.ofChange Rows.buildingValidSpec) :=
  OpenClaim.holds_of_wide 3 Try.f3 rfl rfl rfl rfl rfl rfl rfl ⟨rfl, rfl, rfl, rfl, rfl⟩ rfl rfl rfl rfl rfl (by kernel_rfl) Try.func3 (by kernel_rfl)
    (of_decide_eq_true (by kernel_rfl)) (by unfold Func.isWrapper; first | (rw [if_pos (by decide +kernel)]; kernel_rfl) | (rw [if_neg (by decide +kernel)]; exact ⟨rfl, rfl⟩))
    (fun os started H enc _ => lawValid_lifted os started H enc)

theorem buildingValid_holds : Rows.BuildingValidSaid := lawValid_over
#print axioms buildingValid_holds
end Go.Proofs.Ytaajepmdlbgkeaa
