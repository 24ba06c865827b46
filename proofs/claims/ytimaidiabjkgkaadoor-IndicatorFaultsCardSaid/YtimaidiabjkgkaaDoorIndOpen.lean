/- The listed tables: from the condition to the cells; the door's own heap meets it. No statement of the seat is proved here. -/
import Derived.Test.YtimaidiabjkgkaaDoorArgs
import Derived.Test.YtimaidiabjkgkaaDoorIndSane
namespace Go.Proofs.YtimaidiabjkgkaaDoor
open Go.RowKit Go.ChangeShapes Go.WideShapes

noncomputable abbrev laidAll : List (String × DataW Unit) := [("math/bits.deBruijn32tab", Rows.laid_math_bits_deBruijn32tab), ("overlay/indicator.dirs", Rows.laid_overlay_indicator_dirs), ("overlay/indicator.doors", Rows.laid_overlay_indicator_doors)]
/-- The door's own heap meets the condition. -/
theorem door_met (os : Os) (args : Array Value) : laidMetH Tryd.prog laidAll ((World.doorLaid Tryd.prog 24 os).forCall (fun _ _ => 0) ⟨#[], args, []⟩).memory :=
  laidMetH_of_parts3 (fuel := 8) (laidMet_of_run' 8 (by kernel_rfl) (by kernel_rfl)) (by kernel_rfl) (by kernel_rfl)

theorem tabs_of_laid {W : World} (h : laidMetH Tryd.prog laidAll W) : Tabs W := by
  rw [MakeChecks.laidMetH_plain _ _ _ (by kernel_rfl)] at h
  obtain ⟨ps, ⟨g0, t0, cs0, f0, p0, q0, hg0, ht0, hv0, hd0, ⟨g1, t1, cs1, f1, p1, q1, hg1, ht1, hv1, hd1, ⟨g2, t2, cs2, f2, p2, q2, hg2, ht2, hv2, hd2, _, _⟩, _⟩, _⟩, _, _⟩ := h
  obtain rfl := Option.some.inj ((show Tryd.prog.globalNamed "math/bits.deBruijn32tab" = some 2 by kernel_rfl).symm.trans hg0)
  obtain rfl := Option.some.inj ((show Tryd.prog.globalNamed "overlay/indicator.dirs" = some 0 by kernel_rfl).symm.trans hg1)
  obtain rfl := Option.some.inj ((show Tryd.prog.globalNamed "overlay/indicator.doors" = some 1 by kernel_rfl).symm.trans hg2)
  obtain rfl := Option.some.inj ((show (Tryd.prog.globals[2]?).map (·.type) = some 46 by kernel_rfl).symm.trans ht0)
  obtain rfl := Option.some.inj ((show (Tryd.prog.globals[0]?).map (·.type) = some 43 by kernel_rfl).symm.trans ht1)
  obtain rfl := Option.some.inj ((show (Tryd.prog.globals[1]?).map (·.type) = some 43 by kernel_rfl).symm.trans ht2)
  have c0 := table_cells (n := 32) (Go.Lib.deBruijn32tab.map fun x : Nat => (x : Int)) Tryd.underlying46 Tryd.underlying5 (by kernel_rfl) (by kernel_rfl) hg0 hv0 hd0 rfl
  have c1 := table_cells (n := 4) [0, 1, 2, 3] Tryd.underlying43 Tryd.underlying3 (by kernel_rfl) (by kernel_rfl) hg1 hv1 hd1 rfl
  have c2 := table_cells (n := 4) [0, 1, 2, 3] Tryd.underlying43 Tryd.underlying3 (by kernel_rfl) (by kernel_rfl) hg2 hv2 hd2 rfl
  have four : ∀ j : Nat, j < 4 → ([0, 1, 2, 3] : List Int).getD j 0 = (j : Int) := by decide
  have tz : ∀ j : Nat, j < 32 → (Go.Lib.deBruijn32tab.map fun x : Nat => (x : Int)).getD j 0 = ((Go.Lib.deBruijn32tab.getD j 0 : Nat) : Int) := by decide +kernel
  exact ⟨fun j hj => by rw [c1 j hj, four j hj], fun j hj => by rw [c2 j hj, four j hj], fun j hj => by rw [c0 j hj, tz j hj]⟩
end Go.Proofs.YtimaidiabjkgkaaDoor
