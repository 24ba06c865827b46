/- frame.In: the frame of inputs, or the error. No statement of the seat is proved here. -/
import Derived.Test.YthbfpdkgbkpmiaaG20
namespace Go.Proofs.Ythbfpdkgbkpmiaa
open Go.RowKit Frm

/-- Inputs as a value: their cars lie at A. -/
def inAgg (y : In) (A : Option Addr) (cp : Nat) : Value := .agg #[.int .u32 y.pu, .int .u32 y.pd, .int .i64 y.kind, .int .i64 y.car, .slice A y.cars.length cp]

set_option maxRecDepth 100000 in
set_option maxHeartbeats 1000000 in
theorem in_any (x : BldD) (A : Option Addr) (cap : Nat) (y : In) (A' : Option Addr) (cp : Nat) (w : World) (hxn : x.cars.length ≤ 140737488355328) (hc : CarsAt w w.heap.size A x.cars) (hn : y.cars.length ≤ 1000) (hy : saneIn y) (hv : CarsV w A' y.cars) :
    Calls Try.prog 11 #[x.agg A cap, inAgg y A' cp] w fun e w' => Below w.heap.size w w' ∧
      ((inOk x y ∧ e = .returned (.tuple #[.string ⟨(inText x y).toArray⟩, .int .i64 0])) ∨ (¬ inOk x y ∧ e = .returned (.tuple #[.string ⟨#[]⟩, .int .i64 1]))) := by
  have hmf : ∀ (fn : Fn) (first cap : Array Value) (w : World), (Instr.makeFunc fn first cap).run Try.prog w = .ok (.func fn first cap) w := fun _ _ _ _ => rfl
  have HW := Lib.hid (fun bx wx (hb : Below w.heap.size w wx) (hp : CellsAt wx bx 0 (inHeadV y.pu y.pd y.kind y.car A' y.cars.length cp)) (hf : ∀ j, j < 5 → wx.frozen? ⟨bx, j, none⟩ = false) (hpN : w.heap.size ≤ bx) =>
    writeIn_any w.heap.size bx cp A' y x A cap wx hxn ((hc.below hb).more hb.size) hn hy hb.size hp hf hpN (hv.below hb))
  clear hc hv
  generalize inOk x y = OK at *
  generalize inText x y = T at *
  obtain ⟨f, d, r, p, e1, e2, e3, cs⟩ := x
  simp only [BldD.agg, inAgg] at *
  go_enter Try.func11, Try.ntmps11
  go_wp2_with fail
  refine (HW.out (w.heap.size + 1) _ (by go_grown) (fun j v hj => ?_) (fun j _ => ?_) (by omega)).mono ?_
  · rw [Nat.zero_add, World.cell?_alloc_at _ _ _ _ (by simp)]
    simpa [inHeadV] using hj
  · exact World.frozen?_alloc_at _ _ _ _ (by simp)
  rintro e w1 ⟨hb, ⟨ok, rfl⟩ | ⟨ok, rfl⟩⟩
  · have HB := Lib.hid hb
    have HOK := Lib.hid ok
    clear hb ok
    go_wp2_with fail
    go_ret2
    exact ⟨Below.trans (by go_grown) HB.out, .inl ⟨HOK.out, rfl⟩⟩
  · have HB := Lib.hid hb
    have HOK := Lib.hid ok
    clear hb ok
    go_wp2_with fail
    go_ret2
    exact ⟨Below.trans (by go_grown) HB.out, .inr ⟨HOK.out, rfl⟩⟩
end Go.Proofs.Ythbfpdkgbkpmiaa
