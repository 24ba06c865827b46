/- sane of stage 15's laws: the walk. No statement of the seat is proved here. -/
import Derived.Test.YtnjcegkefjdgdaaDoorG21
import Derived.Test.YtnjcegkefjdgdaaDoorNcBlind
import Derived.Test.YtnjcegkefjdgdaaDoorNwBuild
import Derived.Test.YtnjcegkefjdgdaaDoorNwPlayD
import Derived.Test.YtnjcegkefjdgdaaDoorG16
namespace Go.Proofs.YtnjcegkefjdgdaaDoor
open Go.RowKit
set_option maxRecDepth 4000
set_option linter.unusedSimpArgs false

theorem wpList_ints4 {z0 z1 z2 z3 : Int} {ops : Array Oper} {rest : List Oper} {o : Oper} {a : Act} {w : World} {Q : Exit → Act → World → Prop} (hg : o.guard = none) (ho : o.op = .buildSlice 59 4 #[(0, .const (.int .i64 z0)), (1, .const (.int .i64 z1)), (2, .const (.int .i64 z2)), (3, .const (.int .i64 z3))])
    (h : wpList Tryd.prog ops Q rest (a.put o.dst (.slice (some ⟨w.heap.size, 0, none⟩) 4 4)) (w.alloc (.cells #[.int .i64 z0, .int .i64 z1, .int .i64 z2, .int .i64 z3] 3))) : wpList Tryd.prog ops Q (o :: rest) a w := by
  obtain ⟨i, hi, hz, hsz, _⟩ := info_parts (show (Tryd.prog.info? 3).map (fun i => (i.zero, i.size, i.bytes)) = some (some (.int .i64 0), 1, 8) by kernel_rfl)
  refine wpList_buildSlice hg 59 3 4 _ ho #[.int .i64 z0, .int .i64 z1, .int .i64 z2, .int .i64 z3] i _ Tryd.underlying59 hi hz (by rw [hsz]; decide) (by rw [hsz]; decide) ?_ h
  rw [hsz]
  have e : ((#[(0, Operand.const (.int .i64 z0)), (1, .const (.int .i64 z1)), (2, .const (.int .i64 z2)), (3, .const (.int .i64 z3))] : Array (Nat × Operand)).map fun (i, x) => (i, a.eval x)).toList = [(0, .int .i64 z0), (1, .int .i64 z1), (2, .int .i64 z2), (3, .int .i64 z3)] := by simp [Act.eval]
  have er : Array.range (4 * 1) = #[0, 1, 2, 3] := by decide
  rw [e, er]
  simp [Instr.fill, Value.cells]
theorem sane15_cr0 (wx : World) : Calls Tryd.prog 11 #[.agg #[.int .i64 0, .int .i64 0, .int .i64 0, .int .i64 2, .int .i64 0, .int .i64 0], .bool false] wx fun e w2 => e = .returned (.agg #[.int .i64 0, .bool true, .int .i64 2, .bool false]) ∧ Below wx.heap.size wx w2 := playReport_any ⟨0, 0, 0, 2, 0, 0⟩ false wx
theorem sane15_cs0 (g cap : Nat) (wx : World) (h : NcW ⟨(4 : Int), 1, 4000, 1, 4591870180066957722, 4605380978949069210, 4607632778762754458, [nwCar 4 0 0]⟩ (some ⟨g, 0, none⟩) wx) : Calls Tryd.prog 7 #[.agg #[.int .i64 4, .int .i64 1, .int .i64 4000, .int .i64 1, .float .f64 4591870180066957722, .float .f64 4605380978949069210, .float .f64 4607632778762754458, .slice (some ⟨g, 0, none⟩) 1 cap], .int .i64 0, .agg #[.int .i64 0, .int .i64 0, .int .i64 0, .int .i64 0, .int .i64 0, .bool false, .int .i64 0, .int .i64 0, .int .i64 0, .int .i64 0, .int .u32 0, .int .i64 0, .int .i64 0, .bool false], .agg #[.int .i64 0, .bool true, .int .i64 2, .bool false], .int .u32 0, .agg #[.int .u32 0, .int .u32 4]] wx fun e w2 => e = .returned (.tuple #[.agg #[.int .i64 1, .int .i64 0, .int .i64 0, .int .i64 0, .int .i64 0, .bool false, .int .i64 0, .int .i64 1, .int .i64 0, .int .i64 0, .int .u32 0, .int .i64 0, .int .i64 0, .bool false], .int .i64 1, .int .i64 0]) ∧ Below wx.heap.size wx w2 := by
  have := ncStep_any ⟨(4 : Int), 1, 4000, 1, 4591870180066957722, 4605380978949069210, 4607632778762754458, [nwCar 4 0 0]⟩ (some ⟨g, 0, none⟩) cap 0 ⟨0, 0, ⟨0, 0, 0, false, 0⟩, ⟨0, 0, 0⟩, 0, 0, 0, false⟩ (Rg.report ⟨0, 0, 0, 2, 0, 0⟩ false) 0 ⟨0, 4⟩ wx h (by decide) (by decide) (by decide) ⟨by decide, by decide⟩
  rw [sane15_s0] at this
  exact this
theorem sane15_ch0 (g cap : Nat) (wx : World) (h : NcW ⟨(4 : Int), 1, 4000, 1, 4591870180066957722, 4605380978949069210, 4607632778762754458, [nwCar 4 0 0]⟩ (some ⟨g, 0, none⟩) wx) : Calls Tryd.prog 12 #[.agg #[.int .i64 4, .int .i64 1, .int .i64 4000, .int .i64 1, .float .f64 4591870180066957722, .float .f64 4605380978949069210, .float .f64 4607632778762754458, .slice (some ⟨g, 0, none⟩) 1 cap], .agg #[.int .i64 1, .int .i64 0, .int .i64 0, .int .i64 0, .int .i64 0, .bool false, .int .i64 0, .int .i64 1, .int .i64 0, .int .i64 0, .int .u32 0, .int .i64 0, .int .i64 0, .bool false], .agg #[.int .i64 0, .bool true, .int .i64 2, .bool false]] wx fun e w2 => e = .returned (.agg #[.int .u32 0, .int .u32 0]) ∧ Below wx.heap.size wx w2 := by
  have := ncShows_any ⟨(4 : Int), 1, 4000, 1, 4591870180066957722, 4605380978949069210, 4607632778762754458, [nwCar 4 0 0]⟩ (some ⟨g, 0, none⟩) cap ⟨1, 0, ⟨0, 0, 0, false, 0⟩, ⟨1, 0, 0⟩, 0, 0, 0, false⟩ (Rg.report ⟨0, 0, 0, 2, 0, 0⟩ false) wx h (by decide) (by decide)
  rw [sane15_h0] at this
  exact this
theorem sane15_cp0 (wx : World) : Calls Tryd.prog 13 #[.int .i64 4, .agg #[.int .i64 0, .int .i64 0, .int .i64 0, .int .i64 2, .int .i64 0, .int .i64 0], .int .i64 1, .int .i64 1] wx fun e w2 => e = .returned (.agg #[.int .i64 1, .int .i64 1, .int .i64 0, .int .i64 2, .int .i64 0, .int .i64 0]) ∧ Below wx.heap.size wx w2 := by
  have := playStep_any 4 ⟨0, 0, 0, 2, 0, 0⟩ 1 1 wx sane15_ok0 (by decide) (by decide)
  rw [sane15_r0] at this
  exact this
theorem sane15_cr1 (wx : World) : Calls Tryd.prog 11 #[.agg #[.int .i64 1, .int .i64 1, .int .i64 0, .int .i64 2, .int .i64 0, .int .i64 0], .bool false] wx fun e w2 => e = .returned (.agg #[.int .i64 1, .bool true, .int .i64 2, .bool false]) ∧ Below wx.heap.size wx w2 := playReport_any ⟨1, 1, 0, 2, 0, 0⟩ false wx
theorem sane15_cs1 (g cap : Nat) (wx : World) (h : NcW ⟨(4 : Int), 1, 4000, 1, 4591870180066957722, 4605380978949069210, 4607632778762754458, [nwCar 4 0 0]⟩ (some ⟨g, 0, none⟩) wx) : Calls Tryd.prog 7 #[.agg #[.int .i64 4, .int .i64 1, .int .i64 4000, .int .i64 1, .float .f64 4591870180066957722, .float .f64 4605380978949069210, .float .f64 4607632778762754458, .slice (some ⟨g, 0, none⟩) 1 cap], .int .i64 0, .agg #[.int .i64 1, .int .i64 0, .int .i64 0, .int .i64 0, .int .i64 0, .bool false, .int .i64 0, .int .i64 1, .int .i64 0, .int .i64 0, .int .u32 0, .int .i64 0, .int .i64 0, .bool false], .agg #[.int .i64 1, .bool true, .int .i64 2, .bool false], .int .u32 0, .agg #[.int .u32 0, .int .u32 4]] wx fun e w2 => e = .returned (.tuple #[.agg #[.int .i64 1, .int .i64 0, .int .i64 0, .int .i64 0, .int .i64 0, .bool false, .int .i64 0, .int .i64 1, .int .i64 0, .int .i64 1, .int .u32 0, .int .i64 0, .int .i64 0, .bool false], .int .i64 1, .int .i64 0]) ∧ Below wx.heap.size wx w2 := by
  have := ncStep_any ⟨(4 : Int), 1, 4000, 1, 4591870180066957722, 4605380978949069210, 4607632778762754458, [nwCar 4 0 0]⟩ (some ⟨g, 0, none⟩) cap 0 ⟨1, 0, ⟨0, 0, 0, false, 0⟩, ⟨1, 0, 0⟩, 0, 0, 0, false⟩ (Rg.report ⟨1, 1, 0, 2, 0, 0⟩ false) 0 ⟨0, 4⟩ wx h (by decide) (by decide) (by decide) ⟨by decide, by decide⟩
  rw [sane15_s1] at this
  exact this
theorem sane15_ch1 (g cap : Nat) (wx : World) (h : NcW ⟨(4 : Int), 1, 4000, 1, 4591870180066957722, 4605380978949069210, 4607632778762754458, [nwCar 4 0 0]⟩ (some ⟨g, 0, none⟩) wx) : Calls Tryd.prog 12 #[.agg #[.int .i64 4, .int .i64 1, .int .i64 4000, .int .i64 1, .float .f64 4591870180066957722, .float .f64 4605380978949069210, .float .f64 4607632778762754458, .slice (some ⟨g, 0, none⟩) 1 cap], .agg #[.int .i64 1, .int .i64 0, .int .i64 0, .int .i64 0, .int .i64 0, .bool false, .int .i64 0, .int .i64 1, .int .i64 0, .int .i64 1, .int .u32 0, .int .i64 0, .int .i64 0, .bool false], .agg #[.int .i64 1, .bool true, .int .i64 2, .bool false]] wx fun e w2 => e = .returned (.agg #[.int .u32 0, .int .u32 0]) ∧ Below wx.heap.size wx w2 := by
  have := ncShows_any ⟨(4 : Int), 1, 4000, 1, 4591870180066957722, 4605380978949069210, 4607632778762754458, [nwCar 4 0 0]⟩ (some ⟨g, 0, none⟩) cap ⟨1, 0, ⟨0, 0, 0, false, 0⟩, ⟨1, 0, 1⟩, 0, 0, 0, false⟩ (Rg.report ⟨1, 1, 0, 2, 0, 0⟩ false) wx h (by decide) (by decide)
  rw [sane15_h1] at this
  exact this
theorem sane15_cp1 (wx : World) : Calls Tryd.prog 13 #[.int .i64 4, .agg #[.int .i64 1, .int .i64 1, .int .i64 0, .int .i64 2, .int .i64 0, .int .i64 0], .int .i64 1, .int .i64 1] wx fun e w2 => e = .returned (.agg #[.int .i64 2, .int .i64 2, .int .i64 0, .int .i64 2, .int .i64 0, .int .i64 0]) ∧ Below wx.heap.size wx w2 := by
  have := playStep_any 4 ⟨1, 1, 0, 2, 0, 0⟩ 1 1 wx sane15_ok1 (by decide) (by decide)
  rw [sane15_r1] at this
  exact this
theorem sane15_cr2 (wx : World) : Calls Tryd.prog 11 #[.agg #[.int .i64 2, .int .i64 2, .int .i64 0, .int .i64 2, .int .i64 0, .int .i64 0], .bool false] wx fun e w2 => e = .returned (.agg #[.int .i64 2, .bool true, .int .i64 2, .bool false]) ∧ Below wx.heap.size wx w2 := playReport_any ⟨2, 2, 0, 2, 0, 0⟩ false wx
theorem sane15_cs2 (g cap : Nat) (wx : World) (h : NcW ⟨(4 : Int), 1, 4000, 1, 4591870180066957722, 4605380978949069210, 4607632778762754458, [nwCar 4 0 0]⟩ (some ⟨g, 0, none⟩) wx) : Calls Tryd.prog 7 #[.agg #[.int .i64 4, .int .i64 1, .int .i64 4000, .int .i64 1, .float .f64 4591870180066957722, .float .f64 4605380978949069210, .float .f64 4607632778762754458, .slice (some ⟨g, 0, none⟩) 1 cap], .int .i64 0, .agg #[.int .i64 1, .int .i64 0, .int .i64 0, .int .i64 0, .int .i64 0, .bool false, .int .i64 0, .int .i64 1, .int .i64 0, .int .i64 1, .int .u32 0, .int .i64 0, .int .i64 0, .bool false], .agg #[.int .i64 2, .bool true, .int .i64 2, .bool false], .int .u32 0, .agg #[.int .u32 0, .int .u32 4]] wx fun e w2 => e = .returned (.tuple #[.agg #[.int .i64 2, .int .i64 4, .int .i64 1, .int .i64 0, .int .i64 0, .bool false, .int .i64 0, .int .i64 0, .int .i64 0, .int .i64 0, .int .u32 0, .int .i64 2, .int .i64 0, .bool false], .int .i64 3, .int .i64 0]) ∧ Below wx.heap.size wx w2 := by
  have := ncStep_any ⟨(4 : Int), 1, 4000, 1, 4591870180066957722, 4605380978949069210, 4607632778762754458, [nwCar 4 0 0]⟩ (some ⟨g, 0, none⟩) cap 0 ⟨1, 0, ⟨0, 0, 0, false, 0⟩, ⟨1, 0, 1⟩, 0, 0, 0, false⟩ (Rg.report ⟨2, 2, 0, 2, 0, 0⟩ false) 0 ⟨0, 4⟩ wx h (by decide) (by decide) (by decide) ⟨by decide, by decide⟩
  rw [sane15_s2] at this
  exact this
theorem sane15_ch2 (g cap : Nat) (wx : World) (h : NcW ⟨(4 : Int), 1, 4000, 1, 4591870180066957722, 4605380978949069210, 4607632778762754458, [nwCar 4 0 0]⟩ (some ⟨g, 0, none⟩) wx) : Calls Tryd.prog 12 #[.agg #[.int .i64 4, .int .i64 1, .int .i64 4000, .int .i64 1, .float .f64 4591870180066957722, .float .f64 4605380978949069210, .float .f64 4607632778762754458, .slice (some ⟨g, 0, none⟩) 1 cap], .agg #[.int .i64 2, .int .i64 4, .int .i64 1, .int .i64 0, .int .i64 0, .bool false, .int .i64 0, .int .i64 0, .int .i64 0, .int .i64 0, .int .u32 0, .int .i64 2, .int .i64 0, .bool false], .agg #[.int .i64 2, .bool true, .int .i64 2, .bool false]] wx fun e w2 => e = .returned (.agg #[.int .u32 0, .int .u32 0]) ∧ Below wx.heap.size wx w2 := by
  have := ncShows_any ⟨(4 : Int), 1, 4000, 1, 4591870180066957722, 4605380978949069210, 4607632778762754458, [nwCar 4 0 0]⟩ (some ⟨g, 0, none⟩) cap ⟨2, 4, ⟨1, 0, 0, false, 0⟩, ⟨0, 0, 0⟩, 0, 2, 0, false⟩ (Rg.report ⟨2, 2, 0, 2, 0, 0⟩ false) wx h (by decide) (by decide)
  rw [sane15_h2] at this
  exact this
theorem sane15_cp2 (wx : World) : Calls Tryd.prog 13 #[.int .i64 4, .agg #[.int .i64 2, .int .i64 2, .int .i64 0, .int .i64 2, .int .i64 0, .int .i64 0], .int .i64 3, .int .i64 1] wx fun e w2 => e = .returned (.agg #[.int .i64 2, .int .i64 2, .int .i64 0, .int .i64 1, .int .i64 0, .int .i64 0]) ∧ Below wx.heap.size wx w2 := by
  have := playStep_any 4 ⟨2, 2, 0, 2, 0, 0⟩ 3 1 wx sane15_ok2 (by decide) (by decide)
  rw [sane15_r2] at this
  exact this
theorem sane15_cr3 (wx : World) : Calls Tryd.prog 11 #[.agg #[.int .i64 2, .int .i64 2, .int .i64 0, .int .i64 1, .int .i64 0, .int .i64 0], .bool false] wx fun e w2 => e = .returned (.agg #[.int .i64 2, .bool true, .int .i64 1, .bool false]) ∧ Below wx.heap.size wx w2 := playReport_any ⟨2, 2, 0, 1, 0, 0⟩ false wx
theorem sane15_cs3 (g cap : Nat) (wx : World) (h : NcW ⟨(4 : Int), 1, 4000, 1, 4591870180066957722, 4605380978949069210, 4607632778762754458, [nwCar 4 0 0]⟩ (some ⟨g, 0, none⟩) wx) : Calls Tryd.prog 7 #[.agg #[.int .i64 4, .int .i64 1, .int .i64 4000, .int .i64 1, .float .f64 4591870180066957722, .float .f64 4605380978949069210, .float .f64 4607632778762754458, .slice (some ⟨g, 0, none⟩) 1 cap], .int .i64 0, .agg #[.int .i64 2, .int .i64 4, .int .i64 1, .int .i64 0, .int .i64 0, .bool false, .int .i64 0, .int .i64 0, .int .i64 0, .int .i64 0, .int .u32 0, .int .i64 2, .int .i64 0, .bool false], .agg #[.int .i64 2, .bool true, .int .i64 1, .bool false], .int .u32 0, .agg #[.int .u32 0, .int .u32 4]] wx fun e w2 => e = .returned (.tuple #[.agg #[.int .i64 2, .int .i64 4, .int .i64 2, .int .i64 0, .int .i64 1, .bool false, .int .i64 0, .int .i64 0, .int .i64 0, .int .i64 0, .int .u32 0, .int .i64 2, .int .i64 0, .bool false], .int .i64 0, .int .i64 0]) ∧ Below wx.heap.size wx w2 := by
  have := ncStep_any ⟨(4 : Int), 1, 4000, 1, 4591870180066957722, 4605380978949069210, 4607632778762754458, [nwCar 4 0 0]⟩ (some ⟨g, 0, none⟩) cap 0 ⟨2, 4, ⟨1, 0, 0, false, 0⟩, ⟨0, 0, 0⟩, 0, 2, 0, false⟩ (Rg.report ⟨2, 2, 0, 1, 0, 0⟩ false) 0 ⟨0, 4⟩ wx h (by decide) (by decide) (by decide) ⟨by decide, by decide⟩
  rw [sane15_s3] at this
  exact this
theorem sane15_ch3 (g cap : Nat) (wx : World) (h : NcW ⟨(4 : Int), 1, 4000, 1, 4591870180066957722, 4605380978949069210, 4607632778762754458, [nwCar 4 0 0]⟩ (some ⟨g, 0, none⟩) wx) : Calls Tryd.prog 12 #[.agg #[.int .i64 4, .int .i64 1, .int .i64 4000, .int .i64 1, .float .f64 4591870180066957722, .float .f64 4605380978949069210, .float .f64 4607632778762754458, .slice (some ⟨g, 0, none⟩) 1 cap], .agg #[.int .i64 2, .int .i64 4, .int .i64 2, .int .i64 0, .int .i64 1, .bool false, .int .i64 0, .int .i64 0, .int .i64 0, .int .i64 0, .int .u32 0, .int .i64 2, .int .i64 0, .bool false], .agg #[.int .i64 2, .bool true, .int .i64 1, .bool false]] wx fun e w2 => e = .returned (.agg #[.int .u32 0, .int .u32 4]) ∧ Below wx.heap.size wx w2 := by
  have := ncShows_any ⟨(4 : Int), 1, 4000, 1, 4591870180066957722, 4605380978949069210, 4607632778762754458, [nwCar 4 0 0]⟩ (some ⟨g, 0, none⟩) cap ⟨2, 4, ⟨2, 0, 1, false, 0⟩, ⟨0, 0, 0⟩, 0, 2, 0, false⟩ (Rg.report ⟨2, 2, 0, 1, 0, 0⟩ false) wx h (by decide) (by decide)
  rw [sane15_h3] at this
  exact this
theorem sane15_cp3 (wx : World) : Calls Tryd.prog 13 #[.int .i64 4, .agg #[.int .i64 2, .int .i64 2, .int .i64 0, .int .i64 1, .int .i64 0, .int .i64 0], .int .i64 0, .int .i64 1] wx fun e w2 => e = .returned (.agg #[.int .i64 2, .int .i64 2, .int .i64 0, .int .i64 1, .int .i64 0, .int .i64 0]) ∧ Below wx.heap.size wx w2 := by
  have := playStep_any 4 ⟨2, 2, 0, 1, 0, 0⟩ 0 1 wx sane15_ok3 (by decide) (by decide)
  rw [sane15_r3] at this
  exact this
theorem sane15_cb (g cap : Nat) (wx : World) (h : NcW ⟨(4 : Int), 1, 4000, 1, 4591870180066957722, 4605380978949069210, 4607632778762754458, [nwCar 4 0 0]⟩ (some ⟨g, 0, none⟩) wx) : Calls Tryd.prog 8 #[.agg #[.int .i64 4, .int .i64 1, .int .i64 4000, .int .i64 1, .float .f64 4591870180066957722, .float .f64 4605380978949069210, .float .f64 4607632778762754458, .slice (some ⟨g, 0, none⟩) 1 cap], .int .i64 5, .agg #[.int .i64 2, .int .i64 4, .int .i64 2, .int .i64 0, .int .i64 1, .bool false, .int .i64 0, .int .i64 0, .int .i64 0, .int .i64 0, .int .u32 0, .int .i64 2, .int .i64 0, .bool false]] wx fun e w2 => e = .returned (.tuple #[.agg #[.int .i64 0, .int .i64 0, .int .i64 0, .int .i64 0, .int .i64 0, .bool false, .int .i64 0, .int .i64 0, .int .i64 0, .int .i64 0, .int .u32 0, .int .i64 0, .int .i64 0, .bool false], .int .i64 0, .int .i64 1]) ∧ Below wx.heap.size wx w2 := by
  have := ncBlind_any ⟨(4 : Int), 1, 4000, 1, 4591870180066957722, 4605380978949069210, 4607632778762754458, [nwCar 4 0 0]⟩ (some ⟨g, 0, none⟩) cap 5 ⟨2, 4, ⟨2, 0, 1, false, 0⟩, ⟨0, 0, 0⟩, 0, 2, 0, false⟩ wx h (by decide) (by decide)
  rw [sane15_b] at this
  exact this
theorem sane15_ci (g cap : Nat) (wx : World) (h : NcW ⟨(4 : Int), 1, 4000, 1, 4591870180066957722, 4605380978949069210, 4607632778762754458, [nwCar 4 0 0]⟩ (some ⟨g, 0, none⟩) wx) : Calls Tryd.prog 14 #[.agg #[.int .i64 4, .int .i64 1, .int .i64 4000, .int .i64 1, .float .f64 4591870180066957722, .float .f64 4605380978949069210, .float .f64 4607632778762754458, .slice (some ⟨g, 0, none⟩) 1 cap], .agg #[.int .i64 2, .int .i64 4, .int .i64 2, .int .i64 0, .int .i64 1, .bool false, .int .i64 0, .int .i64 0, .int .i64 0, .int .i64 0, .int .u32 0, .int .i64 2, .int .i64 0, .bool false]] wx fun e w2 => e = .returned (.bool true) ∧ Below wx.heap.size wx w2 := by
  have := ncIsState_any ⟨(4 : Int), 1, 4000, 1, 4591870180066957722, 4605380978949069210, 4607632778762754458, [nwCar 4 0 0]⟩ (some ⟨g, 0, none⟩) cap ⟨2, 4, ⟨2, 0, 1, false, 0⟩, ⟨0, 0, 0⟩, 0, 2, 0, false⟩ wx h (by decide) (by decide)
  rw [sane15_i] at this
  exact this
set_option maxHeartbeats 16000000 in
theorem sane15_any (w : World) (hT : Tabs w) :
    Calls Tryd.prog 6 #[] w fun e w' => e = .returned (.bool true) ∧ Below w.heap.size w w' := by
  have FB := Lib.hid (fun wx => building15_any 2 0 wx (by decide) (by decide))
  rw [sane15_bld] at FB
  have FN := Lib.hid (fun wx => playNew_any 0 wx)
  have HB0 : Hid (Bx w [] w) := Lib.hid ⟨Below.refl _ _, fun p hp => by simp at hp⟩
  have HBW0 : Hid (Below w.heap.size w w) := Lib.hid (Below.refl _ _)
  go_enter Tryd.func6, Tryd.ntmps6
  go_wp2_with fail
  refine (FB.out _).mono ?_
  rintro e w1 ⟨g, cap, rfl, hcb, hgw, hb1⟩
  have HB1 := Lib.hid (HB0.out.next hb1)
  have HCT : Hid (∀ wx, Kw w1 wx → NcW ⟨(4 : Int), 1, 4000, 1, 4591870180066957722, 4605380978949069210, 4607632778762754458, [nwCar 4 0 0]⟩ (some ⟨g, 0, none⟩) wx) := Lib.hid (fun wx hb => ⟨((hcb.at_).below hb).more hb.size, hT.below (hb1.trans (hb.mono hb1.size))⟩)
  clear FB HB0 hcb hgw hT hb1
  simp only [BldD.agg, List.length_cons, List.length_nil]
  simp only [Nat.zero_add]
  have HBW1 := Lib.hid (HBW0.out.trans (HB1.out.below.mono HBW0.out.size))
  have HBR1 : Hid (Bx w1 [] w1) := Lib.hid ⟨Below.refl _ _, HB1.out.rows⟩
  clear HBW0 HB1
  go_wp2_with (with_reducible show wpList _ _ _ (Oper.mk _ (.store 27 _ _) _ _ _ _ :: _) _ _; refine Hid.out ?_)
  refine Lib.hid ?_
  have lw2 : w1.heap.size ≤ w1.heap.size := HBR1.out.below.size
  refine wpList_put rfl 27 _ _ rfl w1.heap.size #[.int .i64 4, .int .i64 1, .int .i64 4000, .int .i64 1, .float .f64 4591870180066957722, .float .f64 4605380978949069210, .float .f64 4607632778762754458, .slice (some ⟨g, 0, none⟩) 1 cap] _ 27 rfl rfl (heap_alloc_new w1 _) (by kernel_rfl) rfl (by kernel_rfl) ?_
  intro w2 hr2 hg2
  have HB2 : Hid (Bx w1 [(w1.heap.size, .cells #[.int .i64 4, .int .i64 1, .int .i64 4000, .int .i64 1, .float .f64 4591870180066957722, .float .f64 4605380978949069210, .float .f64 4607632778762754458, .slice (some ⟨g, 0, none⟩) 1 cap] 27 (0, 0))] w2) := Lib.hid ((HBR1.out.make (heap_alloc_new w1 (.cells #[.int .i64 0, .int .i64 0, .int .i64 0, .int .i64 0, .float .f64 0, .float .f64 0, .float .f64 0, .slice none 0 0] 27)) ((Below.refl w1.heap.size w1).alloc (Nat.le_refl _) _)).put HBR1.out.below.size hg2.out hr2.out (by simp only [List.mem_cons, List.not_mem_nil, or_false]; rintro p rfl <;> simp <;> omega))
  clear hr2 hg2 HBR1
  generalize w1.heap.size = gb at *
  go_wp2_with fail
  refine (FN.out _).mono ?_
  rintro e w3 ⟨rfl, hb3⟩
  have HB3 := Lib.hid (HB2.out.next hb3)
  clear HB2 hb3 FN
  simp only [Rg.new, Rg.agg]
  go_wp2_with (with_reducible show wpList _ _ _ (Oper.mk _ (.store 57 _ _) _ _ _ _ :: _) _ _; refine Hid.out ?_)
  refine Lib.hid ?_
  have l4_0 : gb < w3.heap.size := (Array.getElem?_eq_some_iff.1 HB3.out.r0).1
  have lw4 : w1.heap.size ≤ w3.heap.size := HB3.out.below.size
  refine wpList_put rfl 57 _ _ rfl w3.heap.size #[.int .i64 0, .int .i64 0, .int .i64 0, .int .i64 2, .int .i64 0, .int .i64 0] _ 57 rfl rfl (heap_alloc_new w3 _) (by kernel_rfl) rfl (by kernel_rfl) ?_
  intro w4 hr4 hg4
  have HB4 : Hid (Bx w1 [(w3.heap.size, .cells #[.int .i64 0, .int .i64 0, .int .i64 0, .int .i64 2, .int .i64 0, .int .i64 0] 57 (0, 0)), (gb, .cells #[.int .i64 4, .int .i64 1, .int .i64 4000, .int .i64 1, .float .f64 4591870180066957722, .float .f64 4605380978949069210, .float .f64 4607632778762754458, .slice (some ⟨g, 0, none⟩) 1 cap] 27 (0, 0))] w4) := Lib.hid ((HB3.out.make (heap_alloc_new w3 (.cells #[.int .i64 0, .int .i64 0, .int .i64 0, .int .i64 0, .int .i64 0, .int .i64 0] 57)) ((Below.refl w3.heap.size w3).alloc (Nat.le_refl _) _)).put HB3.out.below.size hg4.out hr4.out (by simp only [List.mem_cons, List.not_mem_nil, or_false]; rintro p (rfl | rfl) <;> simp <;> omega))
  clear hr4 hg4 HB3
  generalize w3.heap.size = gr at *
  go_wp2_with (with_reducible show wpList _ _ _ (Oper.mk _ (.store 38 _ _) _ _ _ _ :: _) _ _; refine Hid.out ?_)
  refine Lib.hid ?_
  have l5_0 : gr < w4.heap.size := (Array.getElem?_eq_some_iff.1 HB4.out.r0).1
  have l5_1 : gb < w4.heap.size := (Array.getElem?_eq_some_iff.1 HB4.out.r1).1
  have lw5 : w1.heap.size ≤ w4.heap.size := HB4.out.below.size
  refine wpList_put rfl 38 _ _ rfl w4.heap.size #[.int .i64 0, .int .i64 0, .int .i64 0, .int .i64 0, .int .i64 0, .bool false, .int .i64 0, .int .i64 0, .int .i64 0, .int .i64 0, .int .u32 0, .int .i64 0, .int .i64 0, .bool false] _ 38 rfl rfl (heap_alloc_new w4 _) (by kernel_rfl) rfl (by kernel_rfl) ?_
  intro w5 hr5 hg5
  have HB5 : Hid (Bx w1 [(w4.heap.size, .cells #[.int .i64 0, .int .i64 0, .int .i64 0, .int .i64 0, .int .i64 0, .bool false, .int .i64 0, .int .i64 0, .int .i64 0, .int .i64 0, .int .u32 0, .int .i64 0, .int .i64 0, .bool false] 38 (0, 0)), (gr, .cells #[.int .i64 0, .int .i64 0, .int .i64 0, .int .i64 2, .int .i64 0, .int .i64 0] 57 (0, 0)), (gb, .cells #[.int .i64 4, .int .i64 1, .int .i64 4000, .int .i64 1, .float .f64 4591870180066957722, .float .f64 4605380978949069210, .float .f64 4607632778762754458, .slice (some ⟨g, 0, none⟩) 1 cap] 27 (0, 0))] w5) := Lib.hid ((HB4.out.make (heap_alloc_new w4 (.cells #[.int .i64 0, .int .i64 0, .int .i64 0, .int .i64 0, .int .i64 0, .bool false, .int .i64 0, .int .i64 0, .int .i64 0, .int .i64 0, .int .u32 0, .int .i64 0, .int .i64 0, .bool false] 38)) ((Below.refl w4.heap.size w4).alloc (Nat.le_refl _) _)).put HB4.out.below.size hg5.out hr5.out (by simp only [List.mem_cons, List.not_mem_nil, or_false]; rintro p (rfl | rfl | rfl) <;> simp <;> omega))
  clear hr5 hg5 HB4
  generalize w4.heap.size = gs at *
  go_wp2_with (with_reducible show wpList _ _ _ (Oper.mk _ (.store 42 _ _) _ _ _ _ :: _) _ _; refine Hid.out ?_)
  refine Lib.hid ?_
  have l6_0 : gs < w5.heap.size := (Array.getElem?_eq_some_iff.1 HB5.out.r0).1
  have l6_1 : gr < w5.heap.size := (Array.getElem?_eq_some_iff.1 HB5.out.r1).1
  have l6_2 : gb < w5.heap.size := (Array.getElem?_eq_some_iff.1 HB5.out.r2).1
  have lw6 : w1.heap.size ≤ w5.heap.size := HB5.out.below.size
  refine wpList_put rfl 42 _ _ rfl w5.heap.size #[.int .u32 0, .int .u32 4] _ 42 rfl rfl (heap_alloc_new w5 _) (by kernel_rfl) rfl (by kernel_rfl) ?_
  intro w6 hr6 hg6
  have HB6 : Hid (Bx w1 [(w5.heap.size, .cells #[.int .u32 0, .int .u32 4] 42 (0, 0)), (gs, .cells #[.int .i64 0, .int .i64 0, .int .i64 0, .int .i64 0, .int .i64 0, .bool false, .int .i64 0, .int .i64 0, .int .i64 0, .int .i64 0, .int .u32 0, .int .i64 0, .int .i64 0, .bool false] 38 (0, 0)), (gr, .cells #[.int .i64 0, .int .i64 0, .int .i64 0, .int .i64 2, .int .i64 0, .int .i64 0] 57 (0, 0)), (gb, .cells #[.int .i64 4, .int .i64 1, .int .i64 4000, .int .i64 1, .float .f64 4591870180066957722, .float .f64 4605380978949069210, .float .f64 4607632778762754458, .slice (some ⟨g, 0, none⟩) 1 cap] 27 (0, 0))] w6) := Lib.hid ((HB5.out.make (heap_alloc_new w5 (.cells #[.int .u32 0, .int .u32 0] 42)) ((Below.refl w5.heap.size w5).alloc (Nat.le_refl _) _)).put HB5.out.below.size hg6.out hr6.out (by simp only [List.mem_cons, List.not_mem_nil, or_false]; rintro p (rfl | rfl | rfl | rfl) <;> simp <;> omega))
  clear hr6 hg6 HB5
  generalize w5.heap.size = gc at *
  go_wp2_with (with_reducible show wpList _ _ _ (Oper.mk _ (.buildSlice _ _ _) _ _ _ _ :: _) _ _; refine wpList_ints4 rfl rfl ?_; refine Hid.out ?_)
  refine Lib.hid ?_
  have l7_0 : gc < w6.heap.size := (Array.getElem?_eq_some_iff.1 HB6.out.r0).1
  have l7_1 : gs < w6.heap.size := (Array.getElem?_eq_some_iff.1 HB6.out.r1).1
  have l7_2 : gr < w6.heap.size := (Array.getElem?_eq_some_iff.1 HB6.out.r2).1
  have l7_3 : gb < w6.heap.size := (Array.getElem?_eq_some_iff.1 HB6.out.r3).1
  have lw7 : w1.heap.size ≤ w6.heap.size := HB6.out.below.size
  have HB7 := Lib.hid (HB6.out.make (heap_alloc_new w6 (.cells #[.int .i64 1, .int .i64 1, .int .i64 3, .int .i64 0] 3)) ((Below.refl w6.heap.size w6).alloc (Nat.le_refl _) _))
  generalize w6.alloc (.cells #[.int .i64 1, .int .i64 1, .int .i64 3, .int .i64 0] 3) = w7 at *
  clear HB6
  generalize w6.heap.size = gl at *
  go_wp2_with fail
  go_loopw [6] (fun v wr => ∃ k : Nat, k ≤ 4 ∧ v = .int .i64 k ∧ ((k = 0 ∧ Hid (Bx w1 [(gl, .cells #[.int .i64 1, .int .i64 1, .int .i64 3, .int .i64 0] 3 (0, 0)), (gc, .cells #[.int .u32 0, .int .u32 4] 42 (0, 0)), (gs, .cells #[.int .i64 0, .int .i64 0, .int .i64 0, .int .i64 0, .int .i64 0, .bool false, .int .i64 0, .int .i64 0, .int .i64 0, .int .i64 0, .int .u32 0, .int .i64 0, .int .i64 0, .bool false] 38 (0, 0)), (gr, .cells #[.int .i64 0, .int .i64 0, .int .i64 0, .int .i64 2, .int .i64 0, .int .i64 0] 57 (0, 0)), (gb, .cells #[.int .i64 4, .int .i64 1, .int .i64 4000, .int .i64 1, .float .f64 4591870180066957722, .float .f64 4605380978949069210, .float .f64 4607632778762754458, .slice (some ⟨g, 0, none⟩) 1 cap] 27 (0, 0))] wr)) ∨ (k = 1 ∧ Hid (Bx w1 [(gl, .cells #[.int .i64 1, .int .i64 1, .int .i64 3, .int .i64 0] 3 (0, 0)), (gc, .cells #[.int .u32 0, .int .u32 4] 42 (0, 0)), (gs, .cells #[.int .i64 1, .int .i64 0, .int .i64 0, .int .i64 0, .int .i64 0, .bool false, .int .i64 0, .int .i64 1, .int .i64 0, .int .i64 0, .int .u32 0, .int .i64 0, .int .i64 0, .bool false] 38 (0, 0)), (gr, .cells #[.int .i64 1, .int .i64 1, .int .i64 0, .int .i64 2, .int .i64 0, .int .i64 0] 57 (0, 0)), (gb, .cells #[.int .i64 4, .int .i64 1, .int .i64 4000, .int .i64 1, .float .f64 4591870180066957722, .float .f64 4605380978949069210, .float .f64 4607632778762754458, .slice (some ⟨g, 0, none⟩) 1 cap] 27 (0, 0))] wr)) ∨ (k = 2 ∧ Hid (Bx w1 [(gl, .cells #[.int .i64 1, .int .i64 1, .int .i64 3, .int .i64 0] 3 (0, 0)), (gc, .cells #[.int .u32 0, .int .u32 4] 42 (0, 0)), (gs, .cells #[.int .i64 1, .int .i64 0, .int .i64 0, .int .i64 0, .int .i64 0, .bool false, .int .i64 0, .int .i64 1, .int .i64 0, .int .i64 1, .int .u32 0, .int .i64 0, .int .i64 0, .bool false] 38 (0, 0)), (gr, .cells #[.int .i64 2, .int .i64 2, .int .i64 0, .int .i64 2, .int .i64 0, .int .i64 0] 57 (0, 0)), (gb, .cells #[.int .i64 4, .int .i64 1, .int .i64 4000, .int .i64 1, .float .f64 4591870180066957722, .float .f64 4605380978949069210, .float .f64 4607632778762754458, .slice (some ⟨g, 0, none⟩) 1 cap] 27 (0, 0))] wr)) ∨ (k = 3 ∧ Hid (Bx w1 [(gl, .cells #[.int .i64 1, .int .i64 1, .int .i64 3, .int .i64 0] 3 (0, 0)), (gc, .cells #[.int .u32 0, .int .u32 4] 42 (0, 0)), (gs, .cells #[.int .i64 2, .int .i64 4, .int .i64 1, .int .i64 0, .int .i64 0, .bool false, .int .i64 0, .int .i64 0, .int .i64 0, .int .i64 0, .int .u32 0, .int .i64 2, .int .i64 0, .bool false] 38 (0, 0)), (gr, .cells #[.int .i64 2, .int .i64 2, .int .i64 0, .int .i64 1, .int .i64 0, .int .i64 0] 57 (0, 0)), (gb, .cells #[.int .i64 4, .int .i64 1, .int .i64 4000, .int .i64 1, .float .f64 4591870180066957722, .float .f64 4605380978949069210, .float .f64 4607632778762754458, .slice (some ⟨g, 0, none⟩) 1 cap] 27 (0, 0))] wr)) ∨ (k = 4 ∧ Hid (Bx w1 [(gl, .cells #[.int .i64 1, .int .i64 1, .int .i64 3, .int .i64 0] 3 (0, 0)), (gc, .cells #[.int .u32 0, .int .u32 4] 42 (0, 0)), (gs, .cells #[.int .i64 2, .int .i64 4, .int .i64 2, .int .i64 0, .int .i64 1, .bool false, .int .i64 0, .int .i64 0, .int .i64 0, .int .i64 0, .int .u32 0, .int .i64 2, .int .i64 0, .bool false] 38 (0, 0)), (gr, .cells #[.int .i64 2, .int .i64 2, .int .i64 0, .int .i64 1, .int .i64 0, .int .i64 0] 57 (0, 0)), (gb, .cells #[.int .i64 4, .int .i64 1, .int .i64 4000, .int .i64 1, .float .f64 4591870180066957722, .float .f64 4605380978949069210, .float .f64 4607632778762754458, .slice (some ⟨g, 0, none⟩) 1 cap] 27 (0, 0))] wr)))) (fun v _ => 4 - (intOf v).toNat)
  case atStart =>
    exact ⟨0, by decide, rfl, .inl ⟨rfl, HB7⟩⟩
  case round =>
    obtain ⟨k, hk, rfl, hR⟩ := hrel
    clear HB7
    rcases hR with ⟨rfl, HR⟩ | ⟨rfl, HR⟩ | ⟨rfl, HR⟩ | ⟨rfl, HR⟩ | ⟨rfl, HR⟩
    · clear hk
      simp only [show ((0 : Nat) : Int) = 0 from rfl]
      go_wp2_with fail
      have q0 : gl < wr.heap.size := (Array.getElem?_eq_some_iff.1 HR.out.r0).1
      have q1 : gc < wr.heap.size := (Array.getElem?_eq_some_iff.1 HR.out.r1).1
      have q2 : gs < wr.heap.size := (Array.getElem?_eq_some_iff.1 HR.out.r2).1
      have q3 : gr < wr.heap.size := (Array.getElem?_eq_some_iff.1 HR.out.r3).1
      have q4 : gb < wr.heap.size := (Array.getElem?_eq_some_iff.1 HR.out.r4).1
      refine Ghost.ghost (fun γ L wx => Decls (wr).heap.size (wr) [(⟨10, 11, 38, #[.int .i64 0, .int .i64 0, .int .i64 0, .int .i64 0, .int .i64 0, .bool false, .int .i64 0, .int .i64 0, .int .i64 0, .int .i64 0, .int .u32 0, .int .i64 0, .int .i64 0, .bool false], #[.int .i64 1, .int .i64 0, .int .i64 0, .int .i64 0, .int .i64 0, .bool false, .int .i64 0, .int .i64 1, .int .i64 0, .int .i64 0, .int .u32 0, .int .i64 0, .int .i64 0, .bool false]⟩ : Decl)] γ L wx) (by kernel_rfl) (by kernel_rfl) (fun γ => Decls.start _ γ (Below.refl _ _).drew (Nat.le_refl _)) ?_
      iterate 10
        apply Ghost.walk_const (fun γ => by rfl)
        · intro γ L wx h1 h2 hx K hK
          have HXx := HR.out.next hx.below
          obtain ⟨z1_0, z1_1⟩ := row2 (b := gc) HXx.r1
          obtain ⟨z2_0, z2_1, z2_2, z2_3, z2_4, z2_5, z2_6, z2_7, z2_8, z2_9, z2_10, z2_11, z2_12, z2_13⟩ := row14 (b := gs) HXx.r2
          obtain ⟨z3_0, z3_1, z3_2, z3_3, z3_4, z3_5⟩ := row6 (b := gr) HXx.r3
          obtain ⟨z4_0, z4_1, z4_2, z4_3, z4_4, z4_5, z4_6, z4_7⟩ := row8 (b := gb) HXx.r4
          have HK2 := Lib.hid hK
          have HX := Lib.hid hx
          clear hK h1 h2 hx
          go_simp
          first
            | (go_at_call 11; (with_reducible refine (sane15_cr0 _).mono ?_); rintro e x1 ⟨rfl, hb⟩; exact HK2.out _ (HX.out.quiet 0 (by rfl) hb))
            | (go_at_call 7; (with_reducible refine (sane15_cs0 g cap _ (HCT.out _ (Kw.of HXx.below))).mono ?_); rintro e x1 ⟨rfl, hb⟩; exact HK2.out _ (HX.out.quiet 0 (by rfl) hb))
            | exact HK2.out _ (HX.out.quiet 0 (by rfl) (Below.refl _ _))
        simp only [Act.put, List.setIfInBounds_toArray, List.set_cons_succ, List.set_cons_zero]
      refine Ghost.walk_yes (fun b => .pointer (some ⟨b, 0, none⟩)) (fun γ => by rfl) ?_ ?_
      · intro γ L wx h1 h2 hx K hK
        have HK2 := Lib.hid hK
        clear hK h2
        have hL : L (⟨10, 11, 38, #[.int .i64 0, .int .i64 0, .int .i64 0, .int .i64 0, .int .i64 0, .bool false, .int .i64 0, .int .i64 0, .int .i64 0, .int .i64 0, .int .u32 0, .int .i64 0, .int .i64 0, .bool false], #[.int .i64 1, .int .i64 0, .int .i64 0, .int .i64 0, .int .i64 0, .bool false, .int .i64 0, .int .i64 1, .int .i64 0, .int .i64 0, .int .u32 0, .int .i64 0, .int .i64 0, .bool false]⟩ : Decl).al = false := h1
        clear h1
        go_simp
        exact HK2.out wx.heap.size _ (hx.alloc (⟨10, 11, 38, #[.int .i64 0, .int .i64 0, .int .i64 0, .int .i64 0, .int .i64 0, .bool false, .int .i64 0, .int .i64 0, .int .i64 0, .int .i64 0, .int .u32 0, .int .i64 0, .int .i64 0, .bool false], #[.int .i64 1, .int .i64 0, .int .i64 0, .int .i64 0, .int .i64 0, .bool false, .int .i64 0, .int .i64 1, .int .i64 0, .int .i64 0, .int .u32 0, .int .i64 0, .int .i64 0, .bool false]⟩ : Decl) (decl_mem _) hL (by rfl) (decl_al _))
      simp only [Act.put, List.setIfInBounds_toArray, List.set_cons_succ, List.set_cons_zero]
      refine Ghost.walk_yes (fun _ => undef) (fun γ => by rfl) ?_ ?_
      · intro γ L wx h1 h2 hx K hK
        have hA : L (⟨10, 11, 38, #[.int .i64 0, .int .i64 0, .int .i64 0, .int .i64 0, .int .i64 0, .bool false, .int .i64 0, .int .i64 0, .int .i64 0, .int .i64 0, .int .u32 0, .int .i64 0, .int .i64 0, .bool false], #[.int .i64 1, .int .i64 0, .int .i64 0, .int .i64 0, .int .i64 0, .bool false, .int .i64 0, .int .i64 1, .int .i64 0, .int .i64 0, .int .u32 0, .int .i64 0, .int .i64 0, .bool false]⟩ : Decl).al = true := h2 10 (by kernel_rfl)
        exact hx.wp_store (⟨10, 11, 38, #[.int .i64 0, .int .i64 0, .int .i64 0, .int .i64 0, .int .i64 0, .bool false, .int .i64 0, .int .i64 0, .int .i64 0, .int .i64 0, .int .u32 0, .int .i64 0, .int .i64 0, .bool false], #[.int .i64 1, .int .i64 0, .int .i64 0, .int .i64 0, .int .i64 0, .bool false, .int .i64 0, .int .i64 1, .int .i64 0, .int .i64 0, .int .u32 0, .int .i64 0, .int .i64 0, .bool false]⟩ : Decl) (decl_mem _) h1 hA _ _ rfl rfl rfl (by kernel_rfl) rfl (by kernel_rfl) (hK 0 _ (hx.store (⟨10, 11, 38, #[.int .i64 0, .int .i64 0, .int .i64 0, .int .i64 0, .int .i64 0, .bool false, .int .i64 0, .int .i64 0, .int .i64 0, .int .i64 0, .int .u32 0, .int .i64 0, .int .i64 0, .bool false], #[.int .i64 1, .int .i64 0, .int .i64 0, .int .i64 0, .int .i64 0, .bool false, .int .i64 0, .int .i64 1, .int .i64 0, .int .i64 0, .int .u32 0, .int .i64 0, .int .i64 0, .bool false]⟩ : Decl) (decl_mem _) hA (by rfl) (decl_st _) (decl_al _) 0))
      simp only [Act.put]
      iterate 2
        apply Ghost.walk_const (fun γ => by rfl)
        · intro γ L wx h1 h2 hx K hK
          have HXx := HR.out.next hx.below
          obtain ⟨z1_0, z1_1⟩ := row2 (b := gc) HXx.r1
          obtain ⟨z2_0, z2_1, z2_2, z2_3, z2_4, z2_5, z2_6, z2_7, z2_8, z2_9, z2_10, z2_11, z2_12, z2_13⟩ := row14 (b := gs) HXx.r2
          obtain ⟨z3_0, z3_1, z3_2, z3_3, z3_4, z3_5⟩ := row6 (b := gr) HXx.r3
          obtain ⟨z4_0, z4_1, z4_2, z4_3, z4_4, z4_5, z4_6, z4_7⟩ := row8 (b := gb) HXx.r4
          have HK2 := Lib.hid hK
          have HX := Lib.hid hx
          clear hK h1 h2 hx
          go_simp
          first
            | (go_at_call 11; (with_reducible refine (sane15_cr0 _).mono ?_); rintro e x1 ⟨rfl, hb⟩; exact HK2.out _ (HX.out.quiet 0 (by rfl) hb))
            | (go_at_call 7; (with_reducible refine (sane15_cs0 g cap _ (HCT.out _ (Kw.of HXx.below))).mono ?_); rintro e x1 ⟨rfl, hb⟩; exact HK2.out _ (HX.out.quiet 0 (by rfl) hb))
            | exact HK2.out _ (HX.out.quiet 0 (by rfl) (Below.refl _ _))
        simp only [Act.put, List.setIfInBounds_toArray, List.set_cons_succ, List.set_cons_zero]
      refine Ghost.walk_nil (fun γ L w61 hall hD => ?_)
      obtain ⟨hd61, hr61, hb61⟩ := hD.done1 hall (by show 10 < 14; decide) (by show 11 < 14; decide)
      clear hall hD
      simp only [Nat.zero_add, Nat.reduceAdd] at hd61 hr61 ⊢
      generalize γ 10 = gt at *
      have HB61 := Lib.hid (HR.out.make hr61 hb61)
      have l61_0 : gl < gt := by omega
      have l61_1 : gc < gt := by omega
      have l61_2 : gs < gt := by omega
      have l61_3 : gr < gt := by omega
      have l61_4 : gb < gt := by omega
      have lw61 : w1.heap.size ≤ gt := by have := HR.out.below.size; omega
      clear hd61 hr61 hb61 HR q0 q1 q2 q3 q4
      obtain ⟨c1_0, c1_1, c1_2, c1_3⟩ := row4 (b := gl) HB61.out.r1
      have qE := fun wx => eqlCs 0 0 0 4 wx
      go_wp2_with fail
      refine Bag.region (fun wx => Below w61.heap.size w61 wx) (by kernel_rfl) (by kernel_rfl) (Below.refl _ _).drew ?_
      iterate 10 (first
          | (apply Bag.walk_yes (by rfl)
             (intro wx hx K hK
              have HXx := HB61.out.next hx
              obtain ⟨z0_0, z0_1, z0_2, z0_3, z0_4, z0_5, z0_6, z0_7, z0_8, z0_9, z0_10, z0_11, z0_12, z0_13⟩ := row14 (b := gt) HXx.r0
              obtain ⟨z2_0, z2_1⟩ := row2 (b := gc) HXx.r2
              obtain ⟨z4_0, z4_1, z4_2, z4_3, z4_4, z4_5⟩ := row6 (b := gr) HXx.r4
              obtain ⟨z5_0, z5_1, z5_2, z5_3, z5_4, z5_5, z5_6, z5_7⟩ := row8 (b := gb) HXx.r5
              first
                | (go_simp
                   first
                    | (go_at_call 11; (with_reducible refine (sane15_cr0 _).mono ?_); rintro e x1 ⟨rfl, hb⟩; exact hK _ (hx.trans (hb.mono hx.size)))
                    | (go_at_call 12; (with_reducible refine (sane15_ch0 g cap _ (HCT.out _ (Kw.of HXx.below))).mono ?_); rintro e x1 ⟨rfl, hb⟩; exact hK _ (hx.trans (hb.mono hx.size)))
                    | (go_at_K; exact hK _ hx)))
             rfl)
          | (refine Bag.walk_no (by rfl) ?_; simp only [Act.put, List.setIfInBounds_toArray, List.set_cons_succ, List.set_cons_zero]))
      refine Bag.walk_nil (fun w62 hb62 => ?_)
      have HB62 := Lib.hid (HB61.out.next hb62)
      clear c1_0 c1_1 c1_2 c1_3 hb62 HB61
      clear qE
      go_wp2_with fail
      have q0 : gt < w62.heap.size := (Array.getElem?_eq_some_iff.1 HB62.out.r0).1
      have q1 : gl < w62.heap.size := (Array.getElem?_eq_some_iff.1 HB62.out.r1).1
      have q2 : gc < w62.heap.size := (Array.getElem?_eq_some_iff.1 HB62.out.r2).1
      have q3 : gs < w62.heap.size := (Array.getElem?_eq_some_iff.1 HB62.out.r3).1
      have q4 : gr < w62.heap.size := (Array.getElem?_eq_some_iff.1 HB62.out.r4).1
      have q5 : gb < w62.heap.size := (Array.getElem?_eq_some_iff.1 HB62.out.r5).1
      refine Chain.chain (fun p wx => Tw (w62) (gs) #[.int .i64 0, .int .i64 0, .int .i64 0, .int .i64 0, .int .i64 0, .bool false, .int .i64 0, .int .i64 0, .int .i64 0, .int .i64 0, .int .u32 0, .int .i64 0, .int .i64 0, .bool false] #[.int .i64 1, .int .i64 0, .int .i64 0, .int .i64 0, .int .i64 0, .bool false, .int .i64 0, .int .i64 1, .int .i64 0, .int .i64 0, .int .u32 0, .int .i64 0, .int .i64 0, .bool false] 38 (gr) #[.int .i64 0, .int .i64 0, .int .i64 0, .int .i64 2, .int .i64 0, .int .i64 0] #[.int .i64 1, .int .i64 1, .int .i64 0, .int .i64 2, .int .i64 0, .int .i64 0] 57 p wx) (fun _ _ => False) [6, 7] (by kernel_rfl) (by kernel_rfl) (fun _ _ _ _ h => h.elim) (Tw.start (HB62.out.r3) (HB62.out.r4)) ?_
      iterate 3
        apply Chain.walk_quiet (by rfl) (by decide)
        · intro p wx hp hwn hx K hK
          obtain ⟨z0_0, z0_1, z0_2, z0_3, z0_4, z0_5, z0_6, z0_7, z0_8, z0_9, z0_10, z0_11, z0_12, z0_13⟩ := row14 (b := gt) ((hx.other (gt) q0 (by omega) (by omega)).trans HB62.out.r0)
          obtain ⟨z5_0, -⟩ := row8 (b := gb) ((hx.other (gb) q5 (by omega) (by omega)).trans HB62.out.r5)
          go_simp
          first
            | (go_at_call 13; (with_reducible refine (sane15_cp0 _).mono ?_); rintro e x1 ⟨rfl, hb⟩; exact hK _ (hx.next hb))
            | (go_at_K; exact hK _ hx)
        · exact ⟨_, rfl⟩
        try simp only [Act.put, List.setIfInBounds_toArray, List.set_cons_succ, List.set_cons_zero]
      apply Chain.walk_quiet (by rfl) (by decide)
      · intro p wx hp hwn hx K hK
        have hp1 : p ≤ 1 := by have h : p ≤ 2 := hp; rcases (show p = 0 ∨ p = 1 ∨ p = 2 by omega) with h | h | h; omega; omega; subst h; exact absurd ((Eq.symm (show _ = false by kernel_rfl)).trans hwn) Bool.false_ne_true
        have z4_0 : wx.cell? ⟨gr, 0, none⟩ = some (.int .i64 0) := cell_of_row _ _ _ _ _ (0, 0) (hx.second hp1)
        have z4_1 : wx.cell? ⟨gr, 1, none⟩ = some (.int .i64 0) := cell_of_row _ _ _ _ _ (0, 0) (hx.second hp1)
        have z4_2 : wx.cell? ⟨gr, 2, none⟩ = some (.int .i64 0) := cell_of_row _ _ _ _ _ (0, 0) (hx.second hp1)
        have z4_3 : wx.cell? ⟨gr, 3, none⟩ = some (.int .i64 2) := cell_of_row _ _ _ _ _ (0, 0) (hx.second hp1)
        have z4_4 : wx.cell? ⟨gr, 4, none⟩ = some (.int .i64 0) := cell_of_row _ _ _ _ _ (0, 0) (hx.second hp1)
        have z4_5 : wx.cell? ⟨gr, 5, none⟩ = some (.int .i64 0) := cell_of_row _ _ _ _ _ (0, 0) (hx.second hp1)
        obtain ⟨z0_0, z0_1, z0_2, z0_3, z0_4, z0_5, z0_6, z0_7, z0_8, z0_9, z0_10, z0_11, z0_12, z0_13⟩ := row14 (b := gt) ((hx.other (gt) q0 (by omega) (by omega)).trans HB62.out.r0)
        obtain ⟨z5_0, -⟩ := row8 (b := gb) ((hx.other (gb) q5 (by omega) (by omega)).trans HB62.out.r5)
        go_simp
        first
          | (go_at_call 13; (with_reducible refine (sane15_cp0 _).mono ?_); rintro e x1 ⟨rfl, hb⟩; exact hK _ (hx.next hb))
          | (go_at_K; exact hK _ hx)
      iterate 2
        · exact ⟨_, rfl⟩
        try simp only [Act.put, List.setIfInBounds_toArray, List.set_cons_succ, List.set_cons_zero]
        apply Chain.walk_quiet (by rfl) (by decide)
        · intro p wx hp hwn hx K hK
          obtain ⟨z0_0, z0_1, z0_2, z0_3, z0_4, z0_5, z0_6, z0_7, z0_8, z0_9, z0_10, z0_11, z0_12, z0_13⟩ := row14 (b := gt) ((hx.other (gt) q0 (by omega) (by omega)).trans HB62.out.r0)
          obtain ⟨z5_0, -⟩ := row8 (b := gb) ((hx.other (gb) q5 (by omega) (by omega)).trans HB62.out.r5)
          go_simp
          first
            | (go_at_call 13; (with_reducible refine (sane15_cp0 _).mono ?_); rintro e x1 ⟨rfl, hb⟩; exact hK _ (hx.next hb))
            | (go_at_K; exact hK _ hx)
      · exact ⟨_, rfl⟩
      try simp only [Act.put, List.setIfInBounds_toArray, List.set_cons_succ, List.set_cons_zero]
      apply Chain.walk_turn 0 (by rfl) (by rfl)
      · intro wx hx K hK
        exact Tw.store1 hx (by omega) 38 _ _ rfl rfl rfl (by kernel_rfl) rfl (by kernel_rfl) (fun w2 h => hK w2 h)
      · exact ⟨undef, rfl⟩
      try simp only [Act.put, List.setIfInBounds_toArray, List.set_cons_succ, List.set_cons_zero]
      apply Chain.walk_turn 1 (by rfl) (by rfl)
      · intro wx hx K hK
        exact Tw.store2 hx (by omega) 57 _ _ rfl rfl rfl (by kernel_rfl) rfl (by kernel_rfl) (fun w2 h => hK w2 h)
      · exact ⟨undef, rfl⟩
      try simp only [Act.put, List.setIfInBounds_toArray, List.set_cons_succ, List.set_cons_zero]
      refine Chain.walk_nil (fun w63 hT63 => ?_)
      replace hT63 : Tw (w62) (gs) #[.int .i64 0, .int .i64 0, .int .i64 0, .int .i64 0, .int .i64 0, .bool false, .int .i64 0, .int .i64 0, .int .i64 0, .int .i64 0, .int .u32 0, .int .i64 0, .int .i64 0, .bool false] #[.int .i64 1, .int .i64 0, .int .i64 0, .int .i64 0, .int .i64 0, .bool false, .int .i64 0, .int .i64 1, .int .i64 0, .int .i64 0, .int .u32 0, .int .i64 0, .int .i64 0, .bool false] 38 (gr) #[.int .i64 0, .int .i64 0, .int .i64 0, .int .i64 2, .int .i64 0, .int .i64 0] #[.int .i64 1, .int .i64 1, .int .i64 0, .int .i64 2, .int .i64 0, .int .i64 0] 57 2 w63 := hT63
      try simp only [Act.put, List.setIfInBounds_toArray, List.set_cons_succ, List.set_cons_zero]
      have HB63 : Hid (Bx w1 [(gt, .cells #[.int .i64 1, .int .i64 0, .int .i64 0, .int .i64 0, .int .i64 0, .bool false, .int .i64 0, .int .i64 1, .int .i64 0, .int .i64 0, .int .u32 0, .int .i64 0, .int .i64 0, .bool false] 38 (0, 0)), (gl, .cells #[.int .i64 1, .int .i64 1, .int .i64 3, .int .i64 0] 3 (0, 0)), (gc, .cells #[.int .u32 0, .int .u32 4] 42 (0, 0)), (gs, .cells #[.int .i64 1, .int .i64 0, .int .i64 0, .int .i64 0, .int .i64 0, .bool false, .int .i64 0, .int .i64 1, .int .i64 0, .int .i64 0, .int .u32 0, .int .i64 0, .int .i64 0, .bool false] 38 (0, 0)), (gr, .cells #[.int .i64 1, .int .i64 1, .int .i64 0, .int .i64 2, .int .i64 0, .int .i64 0] 57 (0, 0)), (gb, .cells #[.int .i64 4, .int .i64 1, .int .i64 4000, .int .i64 1, .float .f64 4591870180066957722, .float .f64 4605380978949069210, .float .f64 4607632778762754458, .slice (some ⟨g, 0, none⟩) 1 cap] 27 (0, 0))] w63) := Lib.hid (hT63.done HB62.out (by omega) (by omega) (by simp only [List.mem_cons, List.not_mem_nil, or_false]; rintro p (rfl | rfl | rfl | rfl | rfl | rfl) <;> simp <;> omega))
      clear hT63 HB62 q0 q1 q2 q3 q4 q5
      go_wp2_with fail
      go_roundw
      case rel =>
        refine ⟨1, by decide, rfl, ?_⟩
        exact .inr (.inl ⟨rfl, Lib.hid (HB63.out.less (by simp only [List.mem_cons, List.not_mem_nil, or_false]; rintro p (rfl | rfl | rfl | rfl | rfl) <;> simp))⟩)
      case measure => simp [intOf]
    · clear hk
      simp only [show ((1 : Nat) : Int) = 1 from rfl]
      go_wp2_with fail
      have q0 : gl < wr.heap.size := (Array.getElem?_eq_some_iff.1 HR.out.r0).1
      have q1 : gc < wr.heap.size := (Array.getElem?_eq_some_iff.1 HR.out.r1).1
      have q2 : gs < wr.heap.size := (Array.getElem?_eq_some_iff.1 HR.out.r2).1
      have q3 : gr < wr.heap.size := (Array.getElem?_eq_some_iff.1 HR.out.r3).1
      have q4 : gb < wr.heap.size := (Array.getElem?_eq_some_iff.1 HR.out.r4).1
      refine Ghost.ghost (fun γ L wx => Decls (wr).heap.size (wr) [(⟨10, 11, 38, #[.int .i64 0, .int .i64 0, .int .i64 0, .int .i64 0, .int .i64 0, .bool false, .int .i64 0, .int .i64 0, .int .i64 0, .int .i64 0, .int .u32 0, .int .i64 0, .int .i64 0, .bool false], #[.int .i64 1, .int .i64 0, .int .i64 0, .int .i64 0, .int .i64 0, .bool false, .int .i64 0, .int .i64 1, .int .i64 0, .int .i64 1, .int .u32 0, .int .i64 0, .int .i64 0, .bool false]⟩ : Decl)] γ L wx) (by kernel_rfl) (by kernel_rfl) (fun γ => Decls.start _ γ (Below.refl _ _).drew (Nat.le_refl _)) ?_
      iterate 10
        apply Ghost.walk_const (fun γ => by rfl)
        · intro γ L wx h1 h2 hx K hK
          have HXx := HR.out.next hx.below
          obtain ⟨z1_0, z1_1⟩ := row2 (b := gc) HXx.r1
          obtain ⟨z2_0, z2_1, z2_2, z2_3, z2_4, z2_5, z2_6, z2_7, z2_8, z2_9, z2_10, z2_11, z2_12, z2_13⟩ := row14 (b := gs) HXx.r2
          obtain ⟨z3_0, z3_1, z3_2, z3_3, z3_4, z3_5⟩ := row6 (b := gr) HXx.r3
          obtain ⟨z4_0, z4_1, z4_2, z4_3, z4_4, z4_5, z4_6, z4_7⟩ := row8 (b := gb) HXx.r4
          have HK2 := Lib.hid hK
          have HX := Lib.hid hx
          clear hK h1 h2 hx
          go_simp
          first
            | (go_at_call 11; (with_reducible refine (sane15_cr1 _).mono ?_); rintro e x1 ⟨rfl, hb⟩; exact HK2.out _ (HX.out.quiet 0 (by rfl) hb))
            | (go_at_call 7; (with_reducible refine (sane15_cs1 g cap _ (HCT.out _ (Kw.of HXx.below))).mono ?_); rintro e x1 ⟨rfl, hb⟩; exact HK2.out _ (HX.out.quiet 0 (by rfl) hb))
            | exact HK2.out _ (HX.out.quiet 0 (by rfl) (Below.refl _ _))
        simp only [Act.put, List.setIfInBounds_toArray, List.set_cons_succ, List.set_cons_zero]
      refine Ghost.walk_yes (fun b => .pointer (some ⟨b, 0, none⟩)) (fun γ => by rfl) ?_ ?_
      · intro γ L wx h1 h2 hx K hK
        have HK2 := Lib.hid hK
        clear hK h2
        have hL : L (⟨10, 11, 38, #[.int .i64 0, .int .i64 0, .int .i64 0, .int .i64 0, .int .i64 0, .bool false, .int .i64 0, .int .i64 0, .int .i64 0, .int .i64 0, .int .u32 0, .int .i64 0, .int .i64 0, .bool false], #[.int .i64 1, .int .i64 0, .int .i64 0, .int .i64 0, .int .i64 0, .bool false, .int .i64 0, .int .i64 1, .int .i64 0, .int .i64 1, .int .u32 0, .int .i64 0, .int .i64 0, .bool false]⟩ : Decl).al = false := h1
        clear h1
        go_simp
        exact HK2.out wx.heap.size _ (hx.alloc (⟨10, 11, 38, #[.int .i64 0, .int .i64 0, .int .i64 0, .int .i64 0, .int .i64 0, .bool false, .int .i64 0, .int .i64 0, .int .i64 0, .int .i64 0, .int .u32 0, .int .i64 0, .int .i64 0, .bool false], #[.int .i64 1, .int .i64 0, .int .i64 0, .int .i64 0, .int .i64 0, .bool false, .int .i64 0, .int .i64 1, .int .i64 0, .int .i64 1, .int .u32 0, .int .i64 0, .int .i64 0, .bool false]⟩ : Decl) (decl_mem _) hL (by rfl) (decl_al _))
      simp only [Act.put, List.setIfInBounds_toArray, List.set_cons_succ, List.set_cons_zero]
      refine Ghost.walk_yes (fun _ => undef) (fun γ => by rfl) ?_ ?_
      · intro γ L wx h1 h2 hx K hK
        have hA : L (⟨10, 11, 38, #[.int .i64 0, .int .i64 0, .int .i64 0, .int .i64 0, .int .i64 0, .bool false, .int .i64 0, .int .i64 0, .int .i64 0, .int .i64 0, .int .u32 0, .int .i64 0, .int .i64 0, .bool false], #[.int .i64 1, .int .i64 0, .int .i64 0, .int .i64 0, .int .i64 0, .bool false, .int .i64 0, .int .i64 1, .int .i64 0, .int .i64 1, .int .u32 0, .int .i64 0, .int .i64 0, .bool false]⟩ : Decl).al = true := h2 10 (by kernel_rfl)
        exact hx.wp_store (⟨10, 11, 38, #[.int .i64 0, .int .i64 0, .int .i64 0, .int .i64 0, .int .i64 0, .bool false, .int .i64 0, .int .i64 0, .int .i64 0, .int .i64 0, .int .u32 0, .int .i64 0, .int .i64 0, .bool false], #[.int .i64 1, .int .i64 0, .int .i64 0, .int .i64 0, .int .i64 0, .bool false, .int .i64 0, .int .i64 1, .int .i64 0, .int .i64 1, .int .u32 0, .int .i64 0, .int .i64 0, .bool false]⟩ : Decl) (decl_mem _) h1 hA _ _ rfl rfl rfl (by kernel_rfl) rfl (by kernel_rfl) (hK 0 _ (hx.store (⟨10, 11, 38, #[.int .i64 0, .int .i64 0, .int .i64 0, .int .i64 0, .int .i64 0, .bool false, .int .i64 0, .int .i64 0, .int .i64 0, .int .i64 0, .int .u32 0, .int .i64 0, .int .i64 0, .bool false], #[.int .i64 1, .int .i64 0, .int .i64 0, .int .i64 0, .int .i64 0, .bool false, .int .i64 0, .int .i64 1, .int .i64 0, .int .i64 1, .int .u32 0, .int .i64 0, .int .i64 0, .bool false]⟩ : Decl) (decl_mem _) hA (by rfl) (decl_st _) (decl_al _) 0))
      simp only [Act.put]
      iterate 2
        apply Ghost.walk_const (fun γ => by rfl)
        · intro γ L wx h1 h2 hx K hK
          have HXx := HR.out.next hx.below
          obtain ⟨z1_0, z1_1⟩ := row2 (b := gc) HXx.r1
          obtain ⟨z2_0, z2_1, z2_2, z2_3, z2_4, z2_5, z2_6, z2_7, z2_8, z2_9, z2_10, z2_11, z2_12, z2_13⟩ := row14 (b := gs) HXx.r2
          obtain ⟨z3_0, z3_1, z3_2, z3_3, z3_4, z3_5⟩ := row6 (b := gr) HXx.r3
          obtain ⟨z4_0, z4_1, z4_2, z4_3, z4_4, z4_5, z4_6, z4_7⟩ := row8 (b := gb) HXx.r4
          have HK2 := Lib.hid hK
          have HX := Lib.hid hx
          clear hK h1 h2 hx
          go_simp
          first
            | (go_at_call 11; (with_reducible refine (sane15_cr1 _).mono ?_); rintro e x1 ⟨rfl, hb⟩; exact HK2.out _ (HX.out.quiet 0 (by rfl) hb))
            | (go_at_call 7; (with_reducible refine (sane15_cs1 g cap _ (HCT.out _ (Kw.of HXx.below))).mono ?_); rintro e x1 ⟨rfl, hb⟩; exact HK2.out _ (HX.out.quiet 0 (by rfl) hb))
            | exact HK2.out _ (HX.out.quiet 0 (by rfl) (Below.refl _ _))
        simp only [Act.put, List.setIfInBounds_toArray, List.set_cons_succ, List.set_cons_zero]
      refine Ghost.walk_nil (fun γ L w61 hall hD => ?_)
      obtain ⟨hd61, hr61, hb61⟩ := hD.done1 hall (by show 10 < 14; decide) (by show 11 < 14; decide)
      clear hall hD
      simp only [Nat.zero_add, Nat.reduceAdd] at hd61 hr61 ⊢
      generalize γ 10 = gt at *
      have HB61 := Lib.hid (HR.out.make hr61 hb61)
      have l61_0 : gl < gt := by omega
      have l61_1 : gc < gt := by omega
      have l61_2 : gs < gt := by omega
      have l61_3 : gr < gt := by omega
      have l61_4 : gb < gt := by omega
      have lw61 : w1.heap.size ≤ gt := by have := HR.out.below.size; omega
      clear hd61 hr61 hb61 HR q0 q1 q2 q3 q4
      obtain ⟨c1_0, c1_1, c1_2, c1_3⟩ := row4 (b := gl) HB61.out.r1
      have qE := fun wx => eqlCs 0 0 0 4 wx
      go_wp2_with fail
      refine Bag.region (fun wx => Below w61.heap.size w61 wx) (by kernel_rfl) (by kernel_rfl) (Below.refl _ _).drew ?_
      iterate 10 (first
          | (apply Bag.walk_yes (by rfl)
             (intro wx hx K hK
              have HXx := HB61.out.next hx
              obtain ⟨z0_0, z0_1, z0_2, z0_3, z0_4, z0_5, z0_6, z0_7, z0_8, z0_9, z0_10, z0_11, z0_12, z0_13⟩ := row14 (b := gt) HXx.r0
              obtain ⟨z2_0, z2_1⟩ := row2 (b := gc) HXx.r2
              obtain ⟨z4_0, z4_1, z4_2, z4_3, z4_4, z4_5⟩ := row6 (b := gr) HXx.r4
              obtain ⟨z5_0, z5_1, z5_2, z5_3, z5_4, z5_5, z5_6, z5_7⟩ := row8 (b := gb) HXx.r5
              first
                | (go_simp
                   first
                    | (go_at_call 11; (with_reducible refine (sane15_cr1 _).mono ?_); rintro e x1 ⟨rfl, hb⟩; exact hK _ (hx.trans (hb.mono hx.size)))
                    | (go_at_call 12; (with_reducible refine (sane15_ch1 g cap _ (HCT.out _ (Kw.of HXx.below))).mono ?_); rintro e x1 ⟨rfl, hb⟩; exact hK _ (hx.trans (hb.mono hx.size)))
                    | (go_at_K; exact hK _ hx)))
             rfl)
          | (refine Bag.walk_no (by rfl) ?_; simp only [Act.put, List.setIfInBounds_toArray, List.set_cons_succ, List.set_cons_zero]))
      refine Bag.walk_nil (fun w62 hb62 => ?_)
      have HB62 := Lib.hid (HB61.out.next hb62)
      clear c1_0 c1_1 c1_2 c1_3 hb62 HB61
      clear qE
      go_wp2_with fail
      have q0 : gt < w62.heap.size := (Array.getElem?_eq_some_iff.1 HB62.out.r0).1
      have q1 : gl < w62.heap.size := (Array.getElem?_eq_some_iff.1 HB62.out.r1).1
      have q2 : gc < w62.heap.size := (Array.getElem?_eq_some_iff.1 HB62.out.r2).1
      have q3 : gs < w62.heap.size := (Array.getElem?_eq_some_iff.1 HB62.out.r3).1
      have q4 : gr < w62.heap.size := (Array.getElem?_eq_some_iff.1 HB62.out.r4).1
      have q5 : gb < w62.heap.size := (Array.getElem?_eq_some_iff.1 HB62.out.r5).1
      refine Chain.chain (fun p wx => Tw (w62) (gs) #[.int .i64 1, .int .i64 0, .int .i64 0, .int .i64 0, .int .i64 0, .bool false, .int .i64 0, .int .i64 1, .int .i64 0, .int .i64 0, .int .u32 0, .int .i64 0, .int .i64 0, .bool false] #[.int .i64 1, .int .i64 0, .int .i64 0, .int .i64 0, .int .i64 0, .bool false, .int .i64 0, .int .i64 1, .int .i64 0, .int .i64 1, .int .u32 0, .int .i64 0, .int .i64 0, .bool false] 38 (gr) #[.int .i64 1, .int .i64 1, .int .i64 0, .int .i64 2, .int .i64 0, .int .i64 0] #[.int .i64 2, .int .i64 2, .int .i64 0, .int .i64 2, .int .i64 0, .int .i64 0] 57 p wx) (fun _ _ => False) [6, 7] (by kernel_rfl) (by kernel_rfl) (fun _ _ _ _ h => h.elim) (Tw.start (HB62.out.r3) (HB62.out.r4)) ?_
      iterate 3
        apply Chain.walk_quiet (by rfl) (by decide)
        · intro p wx hp hwn hx K hK
          obtain ⟨z0_0, z0_1, z0_2, z0_3, z0_4, z0_5, z0_6, z0_7, z0_8, z0_9, z0_10, z0_11, z0_12, z0_13⟩ := row14 (b := gt) ((hx.other (gt) q0 (by omega) (by omega)).trans HB62.out.r0)
          obtain ⟨z5_0, -⟩ := row8 (b := gb) ((hx.other (gb) q5 (by omega) (by omega)).trans HB62.out.r5)
          go_simp
          first
            | (go_at_call 13; (with_reducible refine (sane15_cp1 _).mono ?_); rintro e x1 ⟨rfl, hb⟩; exact hK _ (hx.next hb))
            | (go_at_K; exact hK _ hx)
        · exact ⟨_, rfl⟩
        try simp only [Act.put, List.setIfInBounds_toArray, List.set_cons_succ, List.set_cons_zero]
      apply Chain.walk_quiet (by rfl) (by decide)
      · intro p wx hp hwn hx K hK
        have hp1 : p ≤ 1 := by have h : p ≤ 2 := hp; rcases (show p = 0 ∨ p = 1 ∨ p = 2 by omega) with h | h | h; omega; omega; subst h; exact absurd ((Eq.symm (show _ = false by kernel_rfl)).trans hwn) Bool.false_ne_true
        have z4_0 : wx.cell? ⟨gr, 0, none⟩ = some (.int .i64 1) := cell_of_row _ _ _ _ _ (0, 0) (hx.second hp1)
        have z4_1 : wx.cell? ⟨gr, 1, none⟩ = some (.int .i64 1) := cell_of_row _ _ _ _ _ (0, 0) (hx.second hp1)
        have z4_2 : wx.cell? ⟨gr, 2, none⟩ = some (.int .i64 0) := cell_of_row _ _ _ _ _ (0, 0) (hx.second hp1)
        have z4_3 : wx.cell? ⟨gr, 3, none⟩ = some (.int .i64 2) := cell_of_row _ _ _ _ _ (0, 0) (hx.second hp1)
        have z4_4 : wx.cell? ⟨gr, 4, none⟩ = some (.int .i64 0) := cell_of_row _ _ _ _ _ (0, 0) (hx.second hp1)
        have z4_5 : wx.cell? ⟨gr, 5, none⟩ = some (.int .i64 0) := cell_of_row _ _ _ _ _ (0, 0) (hx.second hp1)
        obtain ⟨z0_0, z0_1, z0_2, z0_3, z0_4, z0_5, z0_6, z0_7, z0_8, z0_9, z0_10, z0_11, z0_12, z0_13⟩ := row14 (b := gt) ((hx.other (gt) q0 (by omega) (by omega)).trans HB62.out.r0)
        obtain ⟨z5_0, -⟩ := row8 (b := gb) ((hx.other (gb) q5 (by omega) (by omega)).trans HB62.out.r5)
        go_simp
        first
          | (go_at_call 13; (with_reducible refine (sane15_cp1 _).mono ?_); rintro e x1 ⟨rfl, hb⟩; exact hK _ (hx.next hb))
          | (go_at_K; exact hK _ hx)
      iterate 2
        · exact ⟨_, rfl⟩
        try simp only [Act.put, List.setIfInBounds_toArray, List.set_cons_succ, List.set_cons_zero]
        apply Chain.walk_quiet (by rfl) (by decide)
        · intro p wx hp hwn hx K hK
          obtain ⟨z0_0, z0_1, z0_2, z0_3, z0_4, z0_5, z0_6, z0_7, z0_8, z0_9, z0_10, z0_11, z0_12, z0_13⟩ := row14 (b := gt) ((hx.other (gt) q0 (by omega) (by omega)).trans HB62.out.r0)
          obtain ⟨z5_0, -⟩ := row8 (b := gb) ((hx.other (gb) q5 (by omega) (by omega)).trans HB62.out.r5)
          go_simp
          first
            | (go_at_call 13; (with_reducible refine (sane15_cp1 _).mono ?_); rintro e x1 ⟨rfl, hb⟩; exact hK _ (hx.next hb))
            | (go_at_K; exact hK _ hx)
      · exact ⟨_, rfl⟩
      try simp only [Act.put, List.setIfInBounds_toArray, List.set_cons_succ, List.set_cons_zero]
      apply Chain.walk_turn 0 (by rfl) (by rfl)
      · intro wx hx K hK
        exact Tw.store1 hx (by omega) 38 _ _ rfl rfl rfl (by kernel_rfl) rfl (by kernel_rfl) (fun w2 h => hK w2 h)
      · exact ⟨undef, rfl⟩
      try simp only [Act.put, List.setIfInBounds_toArray, List.set_cons_succ, List.set_cons_zero]
      apply Chain.walk_turn 1 (by rfl) (by rfl)
      · intro wx hx K hK
        exact Tw.store2 hx (by omega) 57 _ _ rfl rfl rfl (by kernel_rfl) rfl (by kernel_rfl) (fun w2 h => hK w2 h)
      · exact ⟨undef, rfl⟩
      try simp only [Act.put, List.setIfInBounds_toArray, List.set_cons_succ, List.set_cons_zero]
      refine Chain.walk_nil (fun w63 hT63 => ?_)
      replace hT63 : Tw (w62) (gs) #[.int .i64 1, .int .i64 0, .int .i64 0, .int .i64 0, .int .i64 0, .bool false, .int .i64 0, .int .i64 1, .int .i64 0, .int .i64 0, .int .u32 0, .int .i64 0, .int .i64 0, .bool false] #[.int .i64 1, .int .i64 0, .int .i64 0, .int .i64 0, .int .i64 0, .bool false, .int .i64 0, .int .i64 1, .int .i64 0, .int .i64 1, .int .u32 0, .int .i64 0, .int .i64 0, .bool false] 38 (gr) #[.int .i64 1, .int .i64 1, .int .i64 0, .int .i64 2, .int .i64 0, .int .i64 0] #[.int .i64 2, .int .i64 2, .int .i64 0, .int .i64 2, .int .i64 0, .int .i64 0] 57 2 w63 := hT63
      try simp only [Act.put, List.setIfInBounds_toArray, List.set_cons_succ, List.set_cons_zero]
      have HB63 : Hid (Bx w1 [(gt, .cells #[.int .i64 1, .int .i64 0, .int .i64 0, .int .i64 0, .int .i64 0, .bool false, .int .i64 0, .int .i64 1, .int .i64 0, .int .i64 1, .int .u32 0, .int .i64 0, .int .i64 0, .bool false] 38 (0, 0)), (gl, .cells #[.int .i64 1, .int .i64 1, .int .i64 3, .int .i64 0] 3 (0, 0)), (gc, .cells #[.int .u32 0, .int .u32 4] 42 (0, 0)), (gs, .cells #[.int .i64 1, .int .i64 0, .int .i64 0, .int .i64 0, .int .i64 0, .bool false, .int .i64 0, .int .i64 1, .int .i64 0, .int .i64 1, .int .u32 0, .int .i64 0, .int .i64 0, .bool false] 38 (0, 0)), (gr, .cells #[.int .i64 2, .int .i64 2, .int .i64 0, .int .i64 2, .int .i64 0, .int .i64 0] 57 (0, 0)), (gb, .cells #[.int .i64 4, .int .i64 1, .int .i64 4000, .int .i64 1, .float .f64 4591870180066957722, .float .f64 4605380978949069210, .float .f64 4607632778762754458, .slice (some ⟨g, 0, none⟩) 1 cap] 27 (0, 0))] w63) := Lib.hid (hT63.done HB62.out (by omega) (by omega) (by simp only [List.mem_cons, List.not_mem_nil, or_false]; rintro p (rfl | rfl | rfl | rfl | rfl | rfl) <;> simp <;> omega))
      clear hT63 HB62 q0 q1 q2 q3 q4 q5
      go_wp2_with fail
      go_roundw
      case rel =>
        refine ⟨2, by decide, rfl, ?_⟩
        exact .inr (.inr (.inl ⟨rfl, Lib.hid (HB63.out.less (by simp only [List.mem_cons, List.not_mem_nil, or_false]; rintro p (rfl | rfl | rfl | rfl | rfl) <;> simp))⟩))
      case measure => simp [intOf]
    · clear hk
      simp only [show ((2 : Nat) : Int) = 2 from rfl]
      go_wp2_with fail
      have q0 : gl < wr.heap.size := (Array.getElem?_eq_some_iff.1 HR.out.r0).1
      have q1 : gc < wr.heap.size := (Array.getElem?_eq_some_iff.1 HR.out.r1).1
      have q2 : gs < wr.heap.size := (Array.getElem?_eq_some_iff.1 HR.out.r2).1
      have q3 : gr < wr.heap.size := (Array.getElem?_eq_some_iff.1 HR.out.r3).1
      have q4 : gb < wr.heap.size := (Array.getElem?_eq_some_iff.1 HR.out.r4).1
      refine Ghost.ghost (fun γ L wx => Decls (wr).heap.size (wr) [(⟨10, 11, 38, #[.int .i64 0, .int .i64 0, .int .i64 0, .int .i64 0, .int .i64 0, .bool false, .int .i64 0, .int .i64 0, .int .i64 0, .int .i64 0, .int .u32 0, .int .i64 0, .int .i64 0, .bool false], #[.int .i64 2, .int .i64 4, .int .i64 1, .int .i64 0, .int .i64 0, .bool false, .int .i64 0, .int .i64 0, .int .i64 0, .int .i64 0, .int .u32 0, .int .i64 2, .int .i64 0, .bool false]⟩ : Decl)] γ L wx) (by kernel_rfl) (by kernel_rfl) (fun γ => Decls.start _ γ (Below.refl _ _).drew (Nat.le_refl _)) ?_
      iterate 10
        apply Ghost.walk_const (fun γ => by rfl)
        · intro γ L wx h1 h2 hx K hK
          have HXx := HR.out.next hx.below
          obtain ⟨z1_0, z1_1⟩ := row2 (b := gc) HXx.r1
          obtain ⟨z2_0, z2_1, z2_2, z2_3, z2_4, z2_5, z2_6, z2_7, z2_8, z2_9, z2_10, z2_11, z2_12, z2_13⟩ := row14 (b := gs) HXx.r2
          obtain ⟨z3_0, z3_1, z3_2, z3_3, z3_4, z3_5⟩ := row6 (b := gr) HXx.r3
          obtain ⟨z4_0, z4_1, z4_2, z4_3, z4_4, z4_5, z4_6, z4_7⟩ := row8 (b := gb) HXx.r4
          have HK2 := Lib.hid hK
          have HX := Lib.hid hx
          clear hK h1 h2 hx
          go_simp
          first
            | (go_at_call 11; (with_reducible refine (sane15_cr2 _).mono ?_); rintro e x1 ⟨rfl, hb⟩; exact HK2.out _ (HX.out.quiet 0 (by rfl) hb))
            | (go_at_call 7; (with_reducible refine (sane15_cs2 g cap _ (HCT.out _ (Kw.of HXx.below))).mono ?_); rintro e x1 ⟨rfl, hb⟩; exact HK2.out _ (HX.out.quiet 0 (by rfl) hb))
            | exact HK2.out _ (HX.out.quiet 0 (by rfl) (Below.refl _ _))
        simp only [Act.put, List.setIfInBounds_toArray, List.set_cons_succ, List.set_cons_zero]
      refine Ghost.walk_yes (fun b => .pointer (some ⟨b, 0, none⟩)) (fun γ => by rfl) ?_ ?_
      · intro γ L wx h1 h2 hx K hK
        have HK2 := Lib.hid hK
        clear hK h2
        have hL : L (⟨10, 11, 38, #[.int .i64 0, .int .i64 0, .int .i64 0, .int .i64 0, .int .i64 0, .bool false, .int .i64 0, .int .i64 0, .int .i64 0, .int .i64 0, .int .u32 0, .int .i64 0, .int .i64 0, .bool false], #[.int .i64 2, .int .i64 4, .int .i64 1, .int .i64 0, .int .i64 0, .bool false, .int .i64 0, .int .i64 0, .int .i64 0, .int .i64 0, .int .u32 0, .int .i64 2, .int .i64 0, .bool false]⟩ : Decl).al = false := h1
        clear h1
        go_simp
        exact HK2.out wx.heap.size _ (hx.alloc (⟨10, 11, 38, #[.int .i64 0, .int .i64 0, .int .i64 0, .int .i64 0, .int .i64 0, .bool false, .int .i64 0, .int .i64 0, .int .i64 0, .int .i64 0, .int .u32 0, .int .i64 0, .int .i64 0, .bool false], #[.int .i64 2, .int .i64 4, .int .i64 1, .int .i64 0, .int .i64 0, .bool false, .int .i64 0, .int .i64 0, .int .i64 0, .int .i64 0, .int .u32 0, .int .i64 2, .int .i64 0, .bool false]⟩ : Decl) (decl_mem _) hL (by rfl) (decl_al _))
      simp only [Act.put, List.setIfInBounds_toArray, List.set_cons_succ, List.set_cons_zero]
      refine Ghost.walk_yes (fun _ => undef) (fun γ => by rfl) ?_ ?_
      · intro γ L wx h1 h2 hx K hK
        have hA : L (⟨10, 11, 38, #[.int .i64 0, .int .i64 0, .int .i64 0, .int .i64 0, .int .i64 0, .bool false, .int .i64 0, .int .i64 0, .int .i64 0, .int .i64 0, .int .u32 0, .int .i64 0, .int .i64 0, .bool false], #[.int .i64 2, .int .i64 4, .int .i64 1, .int .i64 0, .int .i64 0, .bool false, .int .i64 0, .int .i64 0, .int .i64 0, .int .i64 0, .int .u32 0, .int .i64 2, .int .i64 0, .bool false]⟩ : Decl).al = true := h2 10 (by kernel_rfl)
        exact hx.wp_store (⟨10, 11, 38, #[.int .i64 0, .int .i64 0, .int .i64 0, .int .i64 0, .int .i64 0, .bool false, .int .i64 0, .int .i64 0, .int .i64 0, .int .i64 0, .int .u32 0, .int .i64 0, .int .i64 0, .bool false], #[.int .i64 2, .int .i64 4, .int .i64 1, .int .i64 0, .int .i64 0, .bool false, .int .i64 0, .int .i64 0, .int .i64 0, .int .i64 0, .int .u32 0, .int .i64 2, .int .i64 0, .bool false]⟩ : Decl) (decl_mem _) h1 hA _ _ rfl rfl rfl (by kernel_rfl) rfl (by kernel_rfl) (hK 0 _ (hx.store (⟨10, 11, 38, #[.int .i64 0, .int .i64 0, .int .i64 0, .int .i64 0, .int .i64 0, .bool false, .int .i64 0, .int .i64 0, .int .i64 0, .int .i64 0, .int .u32 0, .int .i64 0, .int .i64 0, .bool false], #[.int .i64 2, .int .i64 4, .int .i64 1, .int .i64 0, .int .i64 0, .bool false, .int .i64 0, .int .i64 0, .int .i64 0, .int .i64 0, .int .u32 0, .int .i64 2, .int .i64 0, .bool false]⟩ : Decl) (decl_mem _) hA (by rfl) (decl_st _) (decl_al _) 0))
      simp only [Act.put]
      iterate 2
        apply Ghost.walk_const (fun γ => by rfl)
        · intro γ L wx h1 h2 hx K hK
          have HXx := HR.out.next hx.below
          obtain ⟨z1_0, z1_1⟩ := row2 (b := gc) HXx.r1
          obtain ⟨z2_0, z2_1, z2_2, z2_3, z2_4, z2_5, z2_6, z2_7, z2_8, z2_9, z2_10, z2_11, z2_12, z2_13⟩ := row14 (b := gs) HXx.r2
          obtain ⟨z3_0, z3_1, z3_2, z3_3, z3_4, z3_5⟩ := row6 (b := gr) HXx.r3
          obtain ⟨z4_0, z4_1, z4_2, z4_3, z4_4, z4_5, z4_6, z4_7⟩ := row8 (b := gb) HXx.r4
          have HK2 := Lib.hid hK
          have HX := Lib.hid hx
          clear hK h1 h2 hx
          go_simp
          first
            | (go_at_call 11; (with_reducible refine (sane15_cr2 _).mono ?_); rintro e x1 ⟨rfl, hb⟩; exact HK2.out _ (HX.out.quiet 0 (by rfl) hb))
            | (go_at_call 7; (with_reducible refine (sane15_cs2 g cap _ (HCT.out _ (Kw.of HXx.below))).mono ?_); rintro e x1 ⟨rfl, hb⟩; exact HK2.out _ (HX.out.quiet 0 (by rfl) hb))
            | exact HK2.out _ (HX.out.quiet 0 (by rfl) (Below.refl _ _))
        simp only [Act.put, List.setIfInBounds_toArray, List.set_cons_succ, List.set_cons_zero]
      refine Ghost.walk_nil (fun γ L w61 hall hD => ?_)
      obtain ⟨hd61, hr61, hb61⟩ := hD.done1 hall (by show 10 < 14; decide) (by show 11 < 14; decide)
      clear hall hD
      simp only [Nat.zero_add, Nat.reduceAdd] at hd61 hr61 ⊢
      generalize γ 10 = gt at *
      have HB61 := Lib.hid (HR.out.make hr61 hb61)
      have l61_0 : gl < gt := by omega
      have l61_1 : gc < gt := by omega
      have l61_2 : gs < gt := by omega
      have l61_3 : gr < gt := by omega
      have l61_4 : gb < gt := by omega
      have lw61 : w1.heap.size ≤ gt := by have := HR.out.below.size; omega
      clear hd61 hr61 hb61 HR q0 q1 q2 q3 q4
      obtain ⟨c1_0, c1_1, c1_2, c1_3⟩ := row4 (b := gl) HB61.out.r1
      have qE := fun wx => eqlCs 0 0 0 4 wx
      go_wp2_with fail
      refine Bag.region (fun wx => Below w61.heap.size w61 wx) (by kernel_rfl) (by kernel_rfl) (Below.refl _ _).drew ?_
      iterate 10 (first
          | (apply Bag.walk_yes (by rfl)
             (intro wx hx K hK
              have HXx := HB61.out.next hx
              obtain ⟨z0_0, z0_1, z0_2, z0_3, z0_4, z0_5, z0_6, z0_7, z0_8, z0_9, z0_10, z0_11, z0_12, z0_13⟩ := row14 (b := gt) HXx.r0
              obtain ⟨z2_0, z2_1⟩ := row2 (b := gc) HXx.r2
              obtain ⟨z4_0, z4_1, z4_2, z4_3, z4_4, z4_5⟩ := row6 (b := gr) HXx.r4
              obtain ⟨z5_0, z5_1, z5_2, z5_3, z5_4, z5_5, z5_6, z5_7⟩ := row8 (b := gb) HXx.r5
              first
                | (go_simp
                   first
                    | (go_at_call 11; (with_reducible refine (sane15_cr2 _).mono ?_); rintro e x1 ⟨rfl, hb⟩; exact hK _ (hx.trans (hb.mono hx.size)))
                    | (go_at_call 12; (with_reducible refine (sane15_ch2 g cap _ (HCT.out _ (Kw.of HXx.below))).mono ?_); rintro e x1 ⟨rfl, hb⟩; exact hK _ (hx.trans (hb.mono hx.size)))
                    | (go_at_K; exact hK _ hx)))
             rfl)
          | (refine Bag.walk_no (by rfl) ?_; simp only [Act.put, List.setIfInBounds_toArray, List.set_cons_succ, List.set_cons_zero]))
      refine Bag.walk_nil (fun w62 hb62 => ?_)
      have HB62 := Lib.hid (HB61.out.next hb62)
      clear c1_0 c1_1 c1_2 c1_3 hb62 HB61
      clear qE
      go_wp2_with fail
      have q0 : gt < w62.heap.size := (Array.getElem?_eq_some_iff.1 HB62.out.r0).1
      have q1 : gl < w62.heap.size := (Array.getElem?_eq_some_iff.1 HB62.out.r1).1
      have q2 : gc < w62.heap.size := (Array.getElem?_eq_some_iff.1 HB62.out.r2).1
      have q3 : gs < w62.heap.size := (Array.getElem?_eq_some_iff.1 HB62.out.r3).1
      have q4 : gr < w62.heap.size := (Array.getElem?_eq_some_iff.1 HB62.out.r4).1
      have q5 : gb < w62.heap.size := (Array.getElem?_eq_some_iff.1 HB62.out.r5).1
      refine Chain.chain (fun p wx => Tw (w62) (gs) #[.int .i64 1, .int .i64 0, .int .i64 0, .int .i64 0, .int .i64 0, .bool false, .int .i64 0, .int .i64 1, .int .i64 0, .int .i64 1, .int .u32 0, .int .i64 0, .int .i64 0, .bool false] #[.int .i64 2, .int .i64 4, .int .i64 1, .int .i64 0, .int .i64 0, .bool false, .int .i64 0, .int .i64 0, .int .i64 0, .int .i64 0, .int .u32 0, .int .i64 2, .int .i64 0, .bool false] 38 (gr) #[.int .i64 2, .int .i64 2, .int .i64 0, .int .i64 2, .int .i64 0, .int .i64 0] #[.int .i64 2, .int .i64 2, .int .i64 0, .int .i64 1, .int .i64 0, .int .i64 0] 57 p wx) (fun _ _ => False) [6, 7] (by kernel_rfl) (by kernel_rfl) (fun _ _ _ _ h => h.elim) (Tw.start (HB62.out.r3) (HB62.out.r4)) ?_
      iterate 3
        apply Chain.walk_quiet (by rfl) (by decide)
        · intro p wx hp hwn hx K hK
          obtain ⟨z0_0, z0_1, z0_2, z0_3, z0_4, z0_5, z0_6, z0_7, z0_8, z0_9, z0_10, z0_11, z0_12, z0_13⟩ := row14 (b := gt) ((hx.other (gt) q0 (by omega) (by omega)).trans HB62.out.r0)
          obtain ⟨z5_0, -⟩ := row8 (b := gb) ((hx.other (gb) q5 (by omega) (by omega)).trans HB62.out.r5)
          go_simp
          first
            | (go_at_call 13; (with_reducible refine (sane15_cp2 _).mono ?_); rintro e x1 ⟨rfl, hb⟩; exact hK _ (hx.next hb))
            | (go_at_K; exact hK _ hx)
        · exact ⟨_, rfl⟩
        try simp only [Act.put, List.setIfInBounds_toArray, List.set_cons_succ, List.set_cons_zero]
      apply Chain.walk_quiet (by rfl) (by decide)
      · intro p wx hp hwn hx K hK
        have hp1 : p ≤ 1 := by have h : p ≤ 2 := hp; rcases (show p = 0 ∨ p = 1 ∨ p = 2 by omega) with h | h | h; omega; omega; subst h; exact absurd ((Eq.symm (show _ = false by kernel_rfl)).trans hwn) Bool.false_ne_true
        have z4_0 : wx.cell? ⟨gr, 0, none⟩ = some (.int .i64 2) := cell_of_row _ _ _ _ _ (0, 0) (hx.second hp1)
        have z4_1 : wx.cell? ⟨gr, 1, none⟩ = some (.int .i64 2) := cell_of_row _ _ _ _ _ (0, 0) (hx.second hp1)
        have z4_2 : wx.cell? ⟨gr, 2, none⟩ = some (.int .i64 0) := cell_of_row _ _ _ _ _ (0, 0) (hx.second hp1)
        have z4_3 : wx.cell? ⟨gr, 3, none⟩ = some (.int .i64 2) := cell_of_row _ _ _ _ _ (0, 0) (hx.second hp1)
        have z4_4 : wx.cell? ⟨gr, 4, none⟩ = some (.int .i64 0) := cell_of_row _ _ _ _ _ (0, 0) (hx.second hp1)
        have z4_5 : wx.cell? ⟨gr, 5, none⟩ = some (.int .i64 0) := cell_of_row _ _ _ _ _ (0, 0) (hx.second hp1)
        obtain ⟨z0_0, z0_1, z0_2, z0_3, z0_4, z0_5, z0_6, z0_7, z0_8, z0_9, z0_10, z0_11, z0_12, z0_13⟩ := row14 (b := gt) ((hx.other (gt) q0 (by omega) (by omega)).trans HB62.out.r0)
        obtain ⟨z5_0, -⟩ := row8 (b := gb) ((hx.other (gb) q5 (by omega) (by omega)).trans HB62.out.r5)
        go_simp
        first
          | (go_at_call 13; (with_reducible refine (sane15_cp2 _).mono ?_); rintro e x1 ⟨rfl, hb⟩; exact hK _ (hx.next hb))
          | (go_at_K; exact hK _ hx)
      iterate 2
        · exact ⟨_, rfl⟩
        try simp only [Act.put, List.setIfInBounds_toArray, List.set_cons_succ, List.set_cons_zero]
        apply Chain.walk_quiet (by rfl) (by decide)
        · intro p wx hp hwn hx K hK
          obtain ⟨z0_0, z0_1, z0_2, z0_3, z0_4, z0_5, z0_6, z0_7, z0_8, z0_9, z0_10, z0_11, z0_12, z0_13⟩ := row14 (b := gt) ((hx.other (gt) q0 (by omega) (by omega)).trans HB62.out.r0)
          obtain ⟨z5_0, -⟩ := row8 (b := gb) ((hx.other (gb) q5 (by omega) (by omega)).trans HB62.out.r5)
          go_simp
          first
            | (go_at_call 13; (with_reducible refine (sane15_cp2 _).mono ?_); rintro e x1 ⟨rfl, hb⟩; exact hK _ (hx.next hb))
            | (go_at_K; exact hK _ hx)
      · exact ⟨_, rfl⟩
      try simp only [Act.put, List.setIfInBounds_toArray, List.set_cons_succ, List.set_cons_zero]
      apply Chain.walk_turn 0 (by rfl) (by rfl)
      · intro wx hx K hK
        exact Tw.store1 hx (by omega) 38 _ _ rfl rfl rfl (by kernel_rfl) rfl (by kernel_rfl) (fun w2 h => hK w2 h)
      · exact ⟨undef, rfl⟩
      try simp only [Act.put, List.setIfInBounds_toArray, List.set_cons_succ, List.set_cons_zero]
      apply Chain.walk_turn 1 (by rfl) (by rfl)
      · intro wx hx K hK
        exact Tw.store2 hx (by omega) 57 _ _ rfl rfl rfl (by kernel_rfl) rfl (by kernel_rfl) (fun w2 h => hK w2 h)
      · exact ⟨undef, rfl⟩
      try simp only [Act.put, List.setIfInBounds_toArray, List.set_cons_succ, List.set_cons_zero]
      refine Chain.walk_nil (fun w63 hT63 => ?_)
      replace hT63 : Tw (w62) (gs) #[.int .i64 1, .int .i64 0, .int .i64 0, .int .i64 0, .int .i64 0, .bool false, .int .i64 0, .int .i64 1, .int .i64 0, .int .i64 1, .int .u32 0, .int .i64 0, .int .i64 0, .bool false] #[.int .i64 2, .int .i64 4, .int .i64 1, .int .i64 0, .int .i64 0, .bool false, .int .i64 0, .int .i64 0, .int .i64 0, .int .i64 0, .int .u32 0, .int .i64 2, .int .i64 0, .bool false] 38 (gr) #[.int .i64 2, .int .i64 2, .int .i64 0, .int .i64 2, .int .i64 0, .int .i64 0] #[.int .i64 2, .int .i64 2, .int .i64 0, .int .i64 1, .int .i64 0, .int .i64 0] 57 2 w63 := hT63
      try simp only [Act.put, List.setIfInBounds_toArray, List.set_cons_succ, List.set_cons_zero]
      have HB63 : Hid (Bx w1 [(gt, .cells #[.int .i64 2, .int .i64 4, .int .i64 1, .int .i64 0, .int .i64 0, .bool false, .int .i64 0, .int .i64 0, .int .i64 0, .int .i64 0, .int .u32 0, .int .i64 2, .int .i64 0, .bool false] 38 (0, 0)), (gl, .cells #[.int .i64 1, .int .i64 1, .int .i64 3, .int .i64 0] 3 (0, 0)), (gc, .cells #[.int .u32 0, .int .u32 4] 42 (0, 0)), (gs, .cells #[.int .i64 2, .int .i64 4, .int .i64 1, .int .i64 0, .int .i64 0, .bool false, .int .i64 0, .int .i64 0, .int .i64 0, .int .i64 0, .int .u32 0, .int .i64 2, .int .i64 0, .bool false] 38 (0, 0)), (gr, .cells #[.int .i64 2, .int .i64 2, .int .i64 0, .int .i64 1, .int .i64 0, .int .i64 0] 57 (0, 0)), (gb, .cells #[.int .i64 4, .int .i64 1, .int .i64 4000, .int .i64 1, .float .f64 4591870180066957722, .float .f64 4605380978949069210, .float .f64 4607632778762754458, .slice (some ⟨g, 0, none⟩) 1 cap] 27 (0, 0))] w63) := Lib.hid (hT63.done HB62.out (by omega) (by omega) (by simp only [List.mem_cons, List.not_mem_nil, or_false]; rintro p (rfl | rfl | rfl | rfl | rfl | rfl) <;> simp <;> omega))
      clear hT63 HB62 q0 q1 q2 q3 q4 q5
      go_wp2_with fail
      go_roundw
      case rel =>
        refine ⟨3, by decide, rfl, ?_⟩
        exact .inr (.inr (.inr (.inl ⟨rfl, Lib.hid (HB63.out.less (by simp only [List.mem_cons, List.not_mem_nil, or_false]; rintro p (rfl | rfl | rfl | rfl | rfl) <;> simp))⟩)))
      case measure => simp [intOf]
    · clear hk
      simp only [show ((3 : Nat) : Int) = 3 from rfl]
      go_wp2_with fail
      have q0 : gl < wr.heap.size := (Array.getElem?_eq_some_iff.1 HR.out.r0).1
      have q1 : gc < wr.heap.size := (Array.getElem?_eq_some_iff.1 HR.out.r1).1
      have q2 : gs < wr.heap.size := (Array.getElem?_eq_some_iff.1 HR.out.r2).1
      have q3 : gr < wr.heap.size := (Array.getElem?_eq_some_iff.1 HR.out.r3).1
      have q4 : gb < wr.heap.size := (Array.getElem?_eq_some_iff.1 HR.out.r4).1
      refine Ghost.ghost (fun γ L wx => Decls (wr).heap.size (wr) [(⟨10, 11, 38, #[.int .i64 0, .int .i64 0, .int .i64 0, .int .i64 0, .int .i64 0, .bool false, .int .i64 0, .int .i64 0, .int .i64 0, .int .i64 0, .int .u32 0, .int .i64 0, .int .i64 0, .bool false], #[.int .i64 2, .int .i64 4, .int .i64 2, .int .i64 0, .int .i64 1, .bool false, .int .i64 0, .int .i64 0, .int .i64 0, .int .i64 0, .int .u32 0, .int .i64 2, .int .i64 0, .bool false]⟩ : Decl)] γ L wx) (by kernel_rfl) (by kernel_rfl) (fun γ => Decls.start _ γ (Below.refl _ _).drew (Nat.le_refl _)) ?_
      iterate 10
        apply Ghost.walk_const (fun γ => by rfl)
        · intro γ L wx h1 h2 hx K hK
          have HXx := HR.out.next hx.below
          obtain ⟨z1_0, z1_1⟩ := row2 (b := gc) HXx.r1
          obtain ⟨z2_0, z2_1, z2_2, z2_3, z2_4, z2_5, z2_6, z2_7, z2_8, z2_9, z2_10, z2_11, z2_12, z2_13⟩ := row14 (b := gs) HXx.r2
          obtain ⟨z3_0, z3_1, z3_2, z3_3, z3_4, z3_5⟩ := row6 (b := gr) HXx.r3
          obtain ⟨z4_0, z4_1, z4_2, z4_3, z4_4, z4_5, z4_6, z4_7⟩ := row8 (b := gb) HXx.r4
          have HK2 := Lib.hid hK
          have HX := Lib.hid hx
          clear hK h1 h2 hx
          go_simp
          first
            | (go_at_call 11; (with_reducible refine (sane15_cr3 _).mono ?_); rintro e x1 ⟨rfl, hb⟩; exact HK2.out _ (HX.out.quiet 0 (by rfl) hb))
            | (go_at_call 7; (with_reducible refine (sane15_cs3 g cap _ (HCT.out _ (Kw.of HXx.below))).mono ?_); rintro e x1 ⟨rfl, hb⟩; exact HK2.out _ (HX.out.quiet 0 (by rfl) hb))
            | exact HK2.out _ (HX.out.quiet 0 (by rfl) (Below.refl _ _))
        simp only [Act.put, List.setIfInBounds_toArray, List.set_cons_succ, List.set_cons_zero]
      refine Ghost.walk_yes (fun b => .pointer (some ⟨b, 0, none⟩)) (fun γ => by rfl) ?_ ?_
      · intro γ L wx h1 h2 hx K hK
        have HK2 := Lib.hid hK
        clear hK h2
        have hL : L (⟨10, 11, 38, #[.int .i64 0, .int .i64 0, .int .i64 0, .int .i64 0, .int .i64 0, .bool false, .int .i64 0, .int .i64 0, .int .i64 0, .int .i64 0, .int .u32 0, .int .i64 0, .int .i64 0, .bool false], #[.int .i64 2, .int .i64 4, .int .i64 2, .int .i64 0, .int .i64 1, .bool false, .int .i64 0, .int .i64 0, .int .i64 0, .int .i64 0, .int .u32 0, .int .i64 2, .int .i64 0, .bool false]⟩ : Decl).al = false := h1
        clear h1
        go_simp
        exact HK2.out wx.heap.size _ (hx.alloc (⟨10, 11, 38, #[.int .i64 0, .int .i64 0, .int .i64 0, .int .i64 0, .int .i64 0, .bool false, .int .i64 0, .int .i64 0, .int .i64 0, .int .i64 0, .int .u32 0, .int .i64 0, .int .i64 0, .bool false], #[.int .i64 2, .int .i64 4, .int .i64 2, .int .i64 0, .int .i64 1, .bool false, .int .i64 0, .int .i64 0, .int .i64 0, .int .i64 0, .int .u32 0, .int .i64 2, .int .i64 0, .bool false]⟩ : Decl) (decl_mem _) hL (by rfl) (decl_al _))
      simp only [Act.put, List.setIfInBounds_toArray, List.set_cons_succ, List.set_cons_zero]
      refine Ghost.walk_yes (fun _ => undef) (fun γ => by rfl) ?_ ?_
      · intro γ L wx h1 h2 hx K hK
        have hA : L (⟨10, 11, 38, #[.int .i64 0, .int .i64 0, .int .i64 0, .int .i64 0, .int .i64 0, .bool false, .int .i64 0, .int .i64 0, .int .i64 0, .int .i64 0, .int .u32 0, .int .i64 0, .int .i64 0, .bool false], #[.int .i64 2, .int .i64 4, .int .i64 2, .int .i64 0, .int .i64 1, .bool false, .int .i64 0, .int .i64 0, .int .i64 0, .int .i64 0, .int .u32 0, .int .i64 2, .int .i64 0, .bool false]⟩ : Decl).al = true := h2 10 (by kernel_rfl)
        exact hx.wp_store (⟨10, 11, 38, #[.int .i64 0, .int .i64 0, .int .i64 0, .int .i64 0, .int .i64 0, .bool false, .int .i64 0, .int .i64 0, .int .i64 0, .int .i64 0, .int .u32 0, .int .i64 0, .int .i64 0, .bool false], #[.int .i64 2, .int .i64 4, .int .i64 2, .int .i64 0, .int .i64 1, .bool false, .int .i64 0, .int .i64 0, .int .i64 0, .int .i64 0, .int .u32 0, .int .i64 2, .int .i64 0, .bool false]⟩ : Decl) (decl_mem _) h1 hA _ _ rfl rfl rfl (by kernel_rfl) rfl (by kernel_rfl) (hK 0 _ (hx.store (⟨10, 11, 38, #[.int .i64 0, .int .i64 0, .int .i64 0, .int .i64 0, .int .i64 0, .bool false, .int .i64 0, .int .i64 0, .int .i64 0, .int .i64 0, .int .u32 0, .int .i64 0, .int .i64 0, .bool false], #[.int .i64 2, .int .i64 4, .int .i64 2, .int .i64 0, .int .i64 1, .bool false, .int .i64 0, .int .i64 0, .int .i64 0, .int .i64 0, .int .u32 0, .int .i64 2, .int .i64 0, .bool false]⟩ : Decl) (decl_mem _) hA (by rfl) (decl_st _) (decl_al _) 0))
      simp only [Act.put]
      iterate 2
        apply Ghost.walk_const (fun γ => by rfl)
        · intro γ L wx h1 h2 hx K hK
          have HXx := HR.out.next hx.below
          obtain ⟨z1_0, z1_1⟩ := row2 (b := gc) HXx.r1
          obtain ⟨z2_0, z2_1, z2_2, z2_3, z2_4, z2_5, z2_6, z2_7, z2_8, z2_9, z2_10, z2_11, z2_12, z2_13⟩ := row14 (b := gs) HXx.r2
          obtain ⟨z3_0, z3_1, z3_2, z3_3, z3_4, z3_5⟩ := row6 (b := gr) HXx.r3
          obtain ⟨z4_0, z4_1, z4_2, z4_3, z4_4, z4_5, z4_6, z4_7⟩ := row8 (b := gb) HXx.r4
          have HK2 := Lib.hid hK
          have HX := Lib.hid hx
          clear hK h1 h2 hx
          go_simp
          first
            | (go_at_call 11; (with_reducible refine (sane15_cr3 _).mono ?_); rintro e x1 ⟨rfl, hb⟩; exact HK2.out _ (HX.out.quiet 0 (by rfl) hb))
            | (go_at_call 7; (with_reducible refine (sane15_cs3 g cap _ (HCT.out _ (Kw.of HXx.below))).mono ?_); rintro e x1 ⟨rfl, hb⟩; exact HK2.out _ (HX.out.quiet 0 (by rfl) hb))
            | exact HK2.out _ (HX.out.quiet 0 (by rfl) (Below.refl _ _))
        simp only [Act.put, List.setIfInBounds_toArray, List.set_cons_succ, List.set_cons_zero]
      refine Ghost.walk_nil (fun γ L w61 hall hD => ?_)
      obtain ⟨hd61, hr61, hb61⟩ := hD.done1 hall (by show 10 < 14; decide) (by show 11 < 14; decide)
      clear hall hD
      simp only [Nat.zero_add, Nat.reduceAdd] at hd61 hr61 ⊢
      generalize γ 10 = gt at *
      have HB61 := Lib.hid (HR.out.make hr61 hb61)
      have l61_0 : gl < gt := by omega
      have l61_1 : gc < gt := by omega
      have l61_2 : gs < gt := by omega
      have l61_3 : gr < gt := by omega
      have l61_4 : gb < gt := by omega
      have lw61 : w1.heap.size ≤ gt := by have := HR.out.below.size; omega
      clear hd61 hr61 hb61 HR q0 q1 q2 q3 q4
      obtain ⟨c1_0, c1_1, c1_2, c1_3⟩ := row4 (b := gl) HB61.out.r1
      have qE := fun wx => eqlCs 0 4 0 4 wx
      go_wp2_with fail
      refine Bag.region (fun wx => Below w61.heap.size w61 wx) (by kernel_rfl) (by kernel_rfl) (Below.refl _ _).drew ?_
      iterate 10 (first
          | (apply Bag.walk_yes (by rfl)
             (intro wx hx K hK
              have HXx := HB61.out.next hx
              obtain ⟨z0_0, z0_1, z0_2, z0_3, z0_4, z0_5, z0_6, z0_7, z0_8, z0_9, z0_10, z0_11, z0_12, z0_13⟩ := row14 (b := gt) HXx.r0
              obtain ⟨z2_0, z2_1⟩ := row2 (b := gc) HXx.r2
              obtain ⟨z4_0, z4_1, z4_2, z4_3, z4_4, z4_5⟩ := row6 (b := gr) HXx.r4
              obtain ⟨z5_0, z5_1, z5_2, z5_3, z5_4, z5_5, z5_6, z5_7⟩ := row8 (b := gb) HXx.r5
              first
                | (go_simp
                   first
                    | (go_at_call 11; (with_reducible refine (sane15_cr3 _).mono ?_); rintro e x1 ⟨rfl, hb⟩; exact hK _ (hx.trans (hb.mono hx.size)))
                    | (go_at_call 12; (with_reducible refine (sane15_ch3 g cap _ (HCT.out _ (Kw.of HXx.below))).mono ?_); rintro e x1 ⟨rfl, hb⟩; exact hK _ (hx.trans (hb.mono hx.size)))
                    | (go_at_K; exact hK _ hx)))
             rfl)
          | (refine Bag.walk_no (by rfl) ?_; simp only [Act.put, List.setIfInBounds_toArray, List.set_cons_succ, List.set_cons_zero]))
      refine Bag.walk_nil (fun w62 hb62 => ?_)
      have HB62 := Lib.hid (HB61.out.next hb62)
      clear c1_0 c1_1 c1_2 c1_3 hb62 HB61
      clear qE
      go_wp2_with fail
      have q0 : gt < w62.heap.size := (Array.getElem?_eq_some_iff.1 HB62.out.r0).1
      have q1 : gl < w62.heap.size := (Array.getElem?_eq_some_iff.1 HB62.out.r1).1
      have q2 : gc < w62.heap.size := (Array.getElem?_eq_some_iff.1 HB62.out.r2).1
      have q3 : gs < w62.heap.size := (Array.getElem?_eq_some_iff.1 HB62.out.r3).1
      have q4 : gr < w62.heap.size := (Array.getElem?_eq_some_iff.1 HB62.out.r4).1
      have q5 : gb < w62.heap.size := (Array.getElem?_eq_some_iff.1 HB62.out.r5).1
      refine Chain.chain (fun p wx => Tw (w62) (gs) #[.int .i64 2, .int .i64 4, .int .i64 1, .int .i64 0, .int .i64 0, .bool false, .int .i64 0, .int .i64 0, .int .i64 0, .int .i64 0, .int .u32 0, .int .i64 2, .int .i64 0, .bool false] #[.int .i64 2, .int .i64 4, .int .i64 2, .int .i64 0, .int .i64 1, .bool false, .int .i64 0, .int .i64 0, .int .i64 0, .int .i64 0, .int .u32 0, .int .i64 2, .int .i64 0, .bool false] 38 (gr) #[.int .i64 2, .int .i64 2, .int .i64 0, .int .i64 1, .int .i64 0, .int .i64 0] #[.int .i64 2, .int .i64 2, .int .i64 0, .int .i64 1, .int .i64 0, .int .i64 0] 57 p wx) (fun _ _ => False) [6, 7] (by kernel_rfl) (by kernel_rfl) (fun _ _ _ _ h => h.elim) (Tw.start (HB62.out.r3) (HB62.out.r4)) ?_
      iterate 3
        apply Chain.walk_quiet (by rfl) (by decide)
        · intro p wx hp hwn hx K hK
          obtain ⟨z0_0, z0_1, z0_2, z0_3, z0_4, z0_5, z0_6, z0_7, z0_8, z0_9, z0_10, z0_11, z0_12, z0_13⟩ := row14 (b := gt) ((hx.other (gt) q0 (by omega) (by omega)).trans HB62.out.r0)
          obtain ⟨z5_0, -⟩ := row8 (b := gb) ((hx.other (gb) q5 (by omega) (by omega)).trans HB62.out.r5)
          go_simp
          first
            | (go_at_call 13; (with_reducible refine (sane15_cp3 _).mono ?_); rintro e x1 ⟨rfl, hb⟩; exact hK _ (hx.next hb))
            | (go_at_K; exact hK _ hx)
        · exact ⟨_, rfl⟩
        try simp only [Act.put, List.setIfInBounds_toArray, List.set_cons_succ, List.set_cons_zero]
      apply Chain.walk_quiet (by rfl) (by decide)
      · intro p wx hp hwn hx K hK
        have hp1 : p ≤ 1 := by have h : p ≤ 2 := hp; rcases (show p = 0 ∨ p = 1 ∨ p = 2 by omega) with h | h | h; omega; omega; subst h; exact absurd ((Eq.symm (show _ = false by kernel_rfl)).trans hwn) Bool.false_ne_true
        have z4_0 : wx.cell? ⟨gr, 0, none⟩ = some (.int .i64 2) := cell_of_row _ _ _ _ _ (0, 0) (hx.second hp1)
        have z4_1 : wx.cell? ⟨gr, 1, none⟩ = some (.int .i64 2) := cell_of_row _ _ _ _ _ (0, 0) (hx.second hp1)
        have z4_2 : wx.cell? ⟨gr, 2, none⟩ = some (.int .i64 0) := cell_of_row _ _ _ _ _ (0, 0) (hx.second hp1)
        have z4_3 : wx.cell? ⟨gr, 3, none⟩ = some (.int .i64 1) := cell_of_row _ _ _ _ _ (0, 0) (hx.second hp1)
        have z4_4 : wx.cell? ⟨gr, 4, none⟩ = some (.int .i64 0) := cell_of_row _ _ _ _ _ (0, 0) (hx.second hp1)
        have z4_5 : wx.cell? ⟨gr, 5, none⟩ = some (.int .i64 0) := cell_of_row _ _ _ _ _ (0, 0) (hx.second hp1)
        obtain ⟨z0_0, z0_1, z0_2, z0_3, z0_4, z0_5, z0_6, z0_7, z0_8, z0_9, z0_10, z0_11, z0_12, z0_13⟩ := row14 (b := gt) ((hx.other (gt) q0 (by omega) (by omega)).trans HB62.out.r0)
        obtain ⟨z5_0, -⟩ := row8 (b := gb) ((hx.other (gb) q5 (by omega) (by omega)).trans HB62.out.r5)
        go_simp
        first
          | (go_at_call 13; (with_reducible refine (sane15_cp3 _).mono ?_); rintro e x1 ⟨rfl, hb⟩; exact hK _ (hx.next hb))
          | (go_at_K; exact hK _ hx)
      iterate 2
        · exact ⟨_, rfl⟩
        try simp only [Act.put, List.setIfInBounds_toArray, List.set_cons_succ, List.set_cons_zero]
        apply Chain.walk_quiet (by rfl) (by decide)
        · intro p wx hp hwn hx K hK
          obtain ⟨z0_0, z0_1, z0_2, z0_3, z0_4, z0_5, z0_6, z0_7, z0_8, z0_9, z0_10, z0_11, z0_12, z0_13⟩ := row14 (b := gt) ((hx.other (gt) q0 (by omega) (by omega)).trans HB62.out.r0)
          obtain ⟨z5_0, -⟩ := row8 (b := gb) ((hx.other (gb) q5 (by omega) (by omega)).trans HB62.out.r5)
          go_simp
          first
            | (go_at_call 13; (with_reducible refine (sane15_cp3 _).mono ?_); rintro e x1 ⟨rfl, hb⟩; exact hK _ (hx.next hb))
            | (go_at_K; exact hK _ hx)
      · exact ⟨_, rfl⟩
      try simp only [Act.put, List.setIfInBounds_toArray, List.set_cons_succ, List.set_cons_zero]
      apply Chain.walk_turn 0 (by rfl) (by rfl)
      · intro wx hx K hK
        exact Tw.store1 hx (by omega) 38 _ _ rfl rfl rfl (by kernel_rfl) rfl (by kernel_rfl) (fun w2 h => hK w2 h)
      · exact ⟨undef, rfl⟩
      try simp only [Act.put, List.setIfInBounds_toArray, List.set_cons_succ, List.set_cons_zero]
      apply Chain.walk_turn 1 (by rfl) (by rfl)
      · intro wx hx K hK
        exact Tw.store2 hx (by omega) 57 _ _ rfl rfl rfl (by kernel_rfl) rfl (by kernel_rfl) (fun w2 h => hK w2 h)
      · exact ⟨undef, rfl⟩
      try simp only [Act.put, List.setIfInBounds_toArray, List.set_cons_succ, List.set_cons_zero]
      refine Chain.walk_nil (fun w63 hT63 => ?_)
      replace hT63 : Tw (w62) (gs) #[.int .i64 2, .int .i64 4, .int .i64 1, .int .i64 0, .int .i64 0, .bool false, .int .i64 0, .int .i64 0, .int .i64 0, .int .i64 0, .int .u32 0, .int .i64 2, .int .i64 0, .bool false] #[.int .i64 2, .int .i64 4, .int .i64 2, .int .i64 0, .int .i64 1, .bool false, .int .i64 0, .int .i64 0, .int .i64 0, .int .i64 0, .int .u32 0, .int .i64 2, .int .i64 0, .bool false] 38 (gr) #[.int .i64 2, .int .i64 2, .int .i64 0, .int .i64 1, .int .i64 0, .int .i64 0] #[.int .i64 2, .int .i64 2, .int .i64 0, .int .i64 1, .int .i64 0, .int .i64 0] 57 2 w63 := hT63
      try simp only [Act.put, List.setIfInBounds_toArray, List.set_cons_succ, List.set_cons_zero]
      have HB63 : Hid (Bx w1 [(gt, .cells #[.int .i64 2, .int .i64 4, .int .i64 2, .int .i64 0, .int .i64 1, .bool false, .int .i64 0, .int .i64 0, .int .i64 0, .int .i64 0, .int .u32 0, .int .i64 2, .int .i64 0, .bool false] 38 (0, 0)), (gl, .cells #[.int .i64 1, .int .i64 1, .int .i64 3, .int .i64 0] 3 (0, 0)), (gc, .cells #[.int .u32 0, .int .u32 4] 42 (0, 0)), (gs, .cells #[.int .i64 2, .int .i64 4, .int .i64 2, .int .i64 0, .int .i64 1, .bool false, .int .i64 0, .int .i64 0, .int .i64 0, .int .i64 0, .int .u32 0, .int .i64 2, .int .i64 0, .bool false] 38 (0, 0)), (gr, .cells #[.int .i64 2, .int .i64 2, .int .i64 0, .int .i64 1, .int .i64 0, .int .i64 0] 57 (0, 0)), (gb, .cells #[.int .i64 4, .int .i64 1, .int .i64 4000, .int .i64 1, .float .f64 4591870180066957722, .float .f64 4605380978949069210, .float .f64 4607632778762754458, .slice (some ⟨g, 0, none⟩) 1 cap] 27 (0, 0))] w63) := Lib.hid (hT63.done HB62.out (by omega) (by omega) (by simp only [List.mem_cons, List.not_mem_nil, or_false]; rintro p (rfl | rfl | rfl | rfl | rfl | rfl) <;> simp <;> omega))
      clear hT63 HB62 q0 q1 q2 q3 q4 q5
      go_wp2_with fail
      go_roundw
      case rel =>
        refine ⟨4, by decide, rfl, ?_⟩
        exact .inr (.inr (.inr (.inr (⟨rfl, Lib.hid (HB63.out.less (by simp only [List.mem_cons, List.not_mem_nil, or_false]; rintro p (rfl | rfl | rfl | rfl | rfl) <;> simp))⟩))))
      case measure => simp [intOf]
    · simp only [show ((4 : Nat) : Int) = 4 from rfl]
      obtain ⟨c2_0, c2_1, c2_2, c2_3, c2_4, c2_5, c2_6, c2_7, c2_8, c2_9, c2_10, c2_11, c2_12, c2_13⟩ := row14 (b := gs) HR.out.r2
      obtain ⟨c4_0, c4_1, c4_2, c4_3, c4_4, c4_5, c4_6, c4_7⟩ := row8 (b := gb) HR.out.r4
      go_wp2_with fail
      refine (sane15_cb g cap _ (HCT.out _ HR.out.below)).mono ?_
      rintro e w81 ⟨rfl, hb81⟩
      have HB81 := Lib.hid (HR.out.next hb81)
      clear c2_0 c2_1 c2_2 c2_3 c2_4 c2_5 c2_6 c2_7 c2_8 c2_9 c2_10 c2_11 c2_12 c2_13 c4_0 c4_1 c4_2 c4_3 c4_4 c4_5 c4_6 c4_7 hb81 HR
      go_wp2_with (with_reducible show wpList _ _ _ (Oper.mk _ (.store 38 _ _) _ _ _ _ :: _) _ _; refine Hid.out ?_)
      refine Lib.hid ?_
      have l82_0 : gl < w81.heap.size := (Array.getElem?_eq_some_iff.1 HB81.out.r0).1
      have l82_1 : gc < w81.heap.size := (Array.getElem?_eq_some_iff.1 HB81.out.r1).1
      have l82_2 : gs < w81.heap.size := (Array.getElem?_eq_some_iff.1 HB81.out.r2).1
      have l82_3 : gr < w81.heap.size := (Array.getElem?_eq_some_iff.1 HB81.out.r3).1
      have l82_4 : gb < w81.heap.size := (Array.getElem?_eq_some_iff.1 HB81.out.r4).1
      have lw82 : w1.heap.size ≤ w81.heap.size := HB81.out.below.size
      refine wpList_put rfl 38 _ _ rfl w81.heap.size #[.int .i64 0, .int .i64 0, .int .i64 0, .int .i64 0, .int .i64 0, .bool false, .int .i64 0, .int .i64 0, .int .i64 0, .int .i64 0, .int .u32 0, .int .i64 0, .int .i64 0, .bool false] _ 38 rfl rfl (heap_alloc_new w81 _) (by kernel_rfl) rfl (by kernel_rfl) ?_
      intro w82 hr82 hg82
      have HB82 : Hid (Bx w1 [(w81.heap.size, .cells #[.int .i64 0, .int .i64 0, .int .i64 0, .int .i64 0, .int .i64 0, .bool false, .int .i64 0, .int .i64 0, .int .i64 0, .int .i64 0, .int .u32 0, .int .i64 0, .int .i64 0, .bool false] 38 (0, 0)), (gl, .cells #[.int .i64 1, .int .i64 1, .int .i64 3, .int .i64 0] 3 (0, 0)), (gc, .cells #[.int .u32 0, .int .u32 4] 42 (0, 0)), (gs, .cells #[.int .i64 2, .int .i64 4, .int .i64 2, .int .i64 0, .int .i64 1, .bool false, .int .i64 0, .int .i64 0, .int .i64 0, .int .i64 0, .int .u32 0, .int .i64 2, .int .i64 0, .bool false] 38 (0, 0)), (gr, .cells #[.int .i64 2, .int .i64 2, .int .i64 0, .int .i64 1, .int .i64 0, .int .i64 0] 57 (0, 0)), (gb, .cells #[.int .i64 4, .int .i64 1, .int .i64 4000, .int .i64 1, .float .f64 4591870180066957722, .float .f64 4605380978949069210, .float .f64 4607632778762754458, .slice (some ⟨g, 0, none⟩) 1 cap] 27 (0, 0))] w82) := Lib.hid ((HB81.out.make (heap_alloc_new w81 (.cells #[.int .i64 0, .int .i64 0, .int .i64 0, .int .i64 0, .int .i64 0, .bool false, .int .i64 0, .int .i64 0, .int .i64 0, .int .i64 0, .int .u32 0, .int .i64 0, .int .i64 0, .bool false] 38)) ((Below.refl w81.heap.size w81).alloc (Nat.le_refl _) _)).put HB81.out.below.size hg82.out hr82.out (by simp only [List.mem_cons, List.not_mem_nil, or_false]; rintro p (rfl | rfl | rfl | rfl | rfl | rfl) <;> simp <;> omega))
      clear hr82 hg82 HB81
      generalize w81.heap.size = gx at *
      obtain ⟨c3_0, c3_1, c3_2, c3_3, c3_4, c3_5, c3_6, c3_7, c3_8, c3_9, c3_10, c3_11, c3_12, c3_13⟩ := row14 (b := gs) HB82.out.r3
      obtain ⟨c5_0, c5_1, c5_2, c5_3, c5_4, c5_5, c5_6, c5_7⟩ := row8 (b := gb) HB82.out.r5
      go_wp2_with fail
      refine (sane15_ci g cap _ (HCT.out _ HB82.out.below)).mono ?_
      rintro e w83 ⟨rfl, hb83⟩
      have HB83 := Lib.hid (HB82.out.next hb83)
      go_wp2_with fail
      go_ret
      exact ⟨rfl, HBW1.out.trans (HB83.out.below.mono HBW1.out.size)⟩
end Go.Proofs.YtnjcegkefjdgdaaDoor
