/- Literals of three and of six whole numbers; a step whose answer is known. No statement of the seat is proved here. -/
import Derived.Test.YthniolaeicmjlaaDrStep
namespace Go.Proofs.Ythniolaeicmjlaa
open Go.RowKit

theorem wpList_ints3 {z0 z1 z2 : Int} {ops : Array Oper} {rest : List Oper} {o : Oper} {a : Act} {w : World} {Q : Exit → Act → World → Prop} (hg : o.guard = none) (ho : o.op = .buildSlice 39 3 #[(0, .const (.int .i64 z0)), (1, .const (.int .i64 z1)), (2, .const (.int .i64 z2))])
    (h : wpList Try.prog ops Q rest (a.put o.dst (.slice (some ⟨w.heap.size, 0, none⟩) 3 3)) (w.alloc (.cells #[.int .i64 z0, .int .i64 z1, .int .i64 z2] 3))) : wpList Try.prog ops Q (o :: rest) a w := by
  obtain ⟨i, hi, hz, hsz, _⟩ := info_parts (show (Try.prog.info? 3).map (fun i => (i.zero, i.size, i.bytes)) = some (some (.int .i64 0), 1, 8) by kernel_rfl)
  refine wpList_buildSlice hg 39 3 3 _ ho #[.int .i64 z0, .int .i64 z1, .int .i64 z2] i _ Try.underlying39 hi hz (by rw [hsz]; decide) (by rw [hsz]; decide) ?_ h
  rw [hsz]
  have e : ((#[(0, Operand.const (.int .i64 z0)), (1, .const (.int .i64 z1)), (2, .const (.int .i64 z2))] : Array (Nat × Operand)).map fun (i, x) => (i, a.eval x)).toList = [(0, .int .i64 z0), (1, .int .i64 z1), (2, .int .i64 z2)] := by simp [Act.eval]
  have er : Array.range (3 * 1) = #[0, 1, 2] := by decide
  rw [e, er]
  simp [Instr.fill, Value.cells]
theorem wpList_ints6 {z0 z1 z2 z3 z4 z5 : Int} {ops : Array Oper} {rest : List Oper} {o : Oper} {a : Act} {w : World} {Q : Exit → Act → World → Prop} (hg : o.guard = none) (ho : o.op = .buildSlice 39 6 #[(0, .const (.int .i64 z0)), (1, .const (.int .i64 z1)), (2, .const (.int .i64 z2)), (3, .const (.int .i64 z3)), (4, .const (.int .i64 z4)), (5, .const (.int .i64 z5))])
    (h : wpList Try.prog ops Q rest (a.put o.dst (.slice (some ⟨w.heap.size, 0, none⟩) 6 6)) (w.alloc (.cells #[.int .i64 z0, .int .i64 z1, .int .i64 z2, .int .i64 z3, .int .i64 z4, .int .i64 z5] 3))) : wpList Try.prog ops Q (o :: rest) a w := by
  obtain ⟨i, hi, hz, hsz, _⟩ := info_parts (show (Try.prog.info? 3).map (fun i => (i.zero, i.size, i.bytes)) = some (some (.int .i64 0), 1, 8) by kernel_rfl)
  refine wpList_buildSlice hg 39 3 6 _ ho #[.int .i64 z0, .int .i64 z1, .int .i64 z2, .int .i64 z3, .int .i64 z4, .int .i64 z5] i _ Try.underlying39 hi hz (by rw [hsz]; decide) (by rw [hsz]; decide) ?_ h
  rw [hsz]
  have e : ((#[(0, Operand.const (.int .i64 z0)), (1, .const (.int .i64 z1)), (2, .const (.int .i64 z2)), (3, .const (.int .i64 z3)), (4, .const (.int .i64 z4)), (5, .const (.int .i64 z5))] : Array (Nat × Operand)).map fun (i, x) => (i, a.eval x)).toList = [(0, .int .i64 z0), (1, .int .i64 z1), (2, .int .i64 z2), (3, .int .i64 z3), (4, .int .i64 z4), (5, .int .i64 z5)] := by simp [Act.eval]
  have er : Array.range (6 * 1) = #[0, 1, 2, 3, 4, 5] := by decide
  rw [e, er]
  simp [Instr.fill, Value.cells]

theorem step_to (t0 t1 t2 t3 t4 t5 t6 t7 t8 : Int) (a b c : Int) (d : Bool) (e : Int) (k : Int) (bl wt : Bool) (a' b' c' : Int) (d' : Bool) (e' m : Int) (w : World) (h : Dr.stepF t6 t7 ⟨a, b, c, d, e⟩ k bl wt = (⟨a', b', c', d', e'⟩, m)) :
    Calls Try.prog 7 #[.agg #[.int .i64 t0, .int .i64 t1, .int .i64 t2, .int .i64 t3, .int .i64 t4, .int .i64 t5, .int .i64 t6, .int .i64 t7, .int .i64 t8], .agg #[.int .i64 a, .int .i64 b, .int .i64 c, .bool d, .int .i64 e], .int .i64 k, .bool bl, .bool wt] w fun ee w' => ee = .returned (.tuple #[.agg #[.int .i64 a', .int .i64 b', .int .i64 c', .bool d', .int .i64 e'], .int .i64 m]) ∧ Below w.heap.size w w' := by
  have := step_any t0 t1 t2 t3 t4 t5 t6 t7 t8 a b c d e k bl wt w
  rw [h] at this
  exact this
end Go.Proofs.Ythniolaeicmjlaa
