/- Decode, IsObs, Shows of the indicator and of the reference. No statement of the seat is proved here. -/
import Derived.Test.YtimaidiabjkgkaaDoorIndFloor
namespace Go.Proofs.YtimaidiabjkgkaaDoor
open Go.RowKit

def Ct.agg (c : Ct) : Value := .agg #[.int .u32 c.fl, .bool c.up, .bool c.dn, .bool c.opn, .bool c.cls]
def Ct.cells (c : Ct) : List Value := [.int .u32 c.fl, .bool c.up, .bool c.dn, .bool c.opn, .bool c.cls]
/-- What holds of the box of contacts, and its cells. -/
theorem boxCt {w wx : World} {c : Ct} (h : Below (w.heap.size + 1) (w.alloc (.cells #[.int .u32 c.fl, .bool c.up, .bool c.dn, .bool c.opn, .bool c.cls] 28)) wx) :
    wx.cell? ⟨w.heap.size, 0, none⟩ = some (.int .u32 c.fl) ∧ wx.cell? ⟨w.heap.size, 1, none⟩ = some (.bool c.up) ∧ wx.cell? ⟨w.heap.size, 2, none⟩ = some (.bool c.dn) ∧ wx.cell? ⟨w.heap.size, 3, none⟩ = some (.bool c.opn) ∧ wx.cell? ⟨w.heap.size, 4, none⟩ = some (.bool c.cls) :=
  ⟨cell_new_below h 0, cell_new_below h 1, cell_new_below h 2, cell_new_below h 3, cell_new_below h 4⟩
theorem boxOb {w wx : World} {f d g : Int} (h : Below (w.heap.size + 1) (w.alloc (.cells #[.int .i64 f, .int .i64 d, .int .i64 g] 31)) wx) :
    wx.cell? ⟨w.heap.size, 0, none⟩ = some (.int .i64 f) ∧ wx.cell? ⟨w.heap.size, 1, none⟩ = some (.int .i64 d) ∧ wx.cell? ⟨w.heap.size, 2, none⟩ = some (.int .i64 g) :=
  ⟨cell_new_below h 0, cell_new_below h 1, cell_new_below h 2⟩

/-- IsObs, step by step. -/
theorem isObs_eq (n : Int) (o : Ob) : Ind.isObs n o = (((Ind.okF n && decide (-1 ≤ o.f ∧ o.f ≤ n - 1)) && decide (0 ≤ o.d ∧ o.d ≤ 3)) && decide (0 ≤ o.g ∧ o.g ≤ 3)) := by
  unfold Ind.isObs
  cases Ind.okF n
  · simp
  · simp only [Bool.true_and]
    rw [← Bool.decide_and, ← Bool.decide_and]
    exact decide_eq_decide.2 (by omega)
set_option maxHeartbeats 1000000 in
theorem isObs_any (n : Int) (o : Ob) (w : World) :
    Calls Tryd.prog 13 #[.int .i64 n, o.agg] w fun e w' => e = .returned (.bool (Ind.isObs n o)) ∧ Below w.heap.size w w' := by
  rw [isObs_eq]
  have hbx := fun (wx : World) (h : Below (w.heap.size + 1) (w.alloc (.cells #[.int .i64 o.f, .int .i64 o.d, .int .i64 o.g] 31)) wx) => boxOb h
  have HBX := Lib.hid hbx
  clear hbx
  obtain ⟨f, d, g⟩ := o
  simp only [Ob.agg]
  simp only at HBX
  have G := Lib.hid (fun w => areFloors_any n w)
  have F1 := Lib.hid (fun w => iwithin_any (-1) (n - 1) f w)
  have F2 := Lib.hid (fun w => iwithin_any 0 3 d w)
  have F3 := Lib.hid (fun w => iwithin_any 0 3 g w)
  cases hn : Ind.okF n
  · rw [hn] at G
    clear F1 F2 F3
    go_enter Tryd.func13, Tryd.ntmps13
    go_wp2_with fail
    refine (G.out _).mono ?_
    rintro e w2 ⟨rfl, rfl⟩
    go_wp2
    go_ret
    exact ⟨rfl, by go_grown⟩
  · rw [hn] at G
    have h32 := Ind.okF_iff.1 hn
    have hw : IntKind.i64.wrap (n - 1) = n - 1 := by rw [IntKind.wrap_i64]; omega
    generalize decide (-1 ≤ f ∧ f ≤ n - 1) = z1 at *
    generalize decide (0 ≤ d ∧ d ≤ 3) = z2 at *
    generalize decide (0 ≤ g ∧ g ≤ 3) = z3 at *
    cases z1 <;> cases z2 <;> cases z3
    all_goals
      go_enter Tryd.func13, Tryd.ntmps13
      go_wp2_with (first | (go_at_call 18; refine (G.out _).mono ?_; rintro e w2 ⟨rfl, rfl⟩) | (go_at_call 21; with_reducible first | refine (F1.out _).mono ?_ | refine (F2.out _).mono ?_ | refine (F3.out _).mono ?_); (rintro e w2 ⟨rfl, rfl⟩))
      go_ret
      exact ⟨rfl, by go_grown⟩
end Go.Proofs.YtimaidiabjkgkaaDoor
