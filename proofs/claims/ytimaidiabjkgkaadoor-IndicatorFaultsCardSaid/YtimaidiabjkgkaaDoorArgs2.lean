/- Small arrays that came in. No statement of the seat is proved here. -/
import Derived.Test.YtimaidiabjkgkaaDoorArgs
namespace Go.Proofs.YtimaidiabjkgkaaDoor
open Go.RowKit Go.ChangeShapes Go.WideShapes Go.Deep
section
variable {H : Type} {enc : TypeId × Value → H} {w : World} {base : Nat} {spare : Nat → Bool} {held : Bool}
theorem open_au8_2 {r : Reach} {b0 : Nat} {v : Value} {d : DataW H} {p : List MemPlace} (hv : Value.okWide Tryd.prog w r b0 39 v) (h : DataW.Trod enc Tryd.prog w base spare held 39 v d p) :
    ∃ x y : Int, v = .agg #[.int .u8 x, .int .u8 y] ∧ (Lit.int .u8 x).wf = true ∧ (Lit.int .u8 y).wf = true := by
  have hcs : ∃ cs, v = .agg cs ∧ cs.size = Tryd.prog.cellsOf 39 := by
    simp only [Value.okWide, Tryd.underlying39] at hv
    obtain ⟨cs, h1, h2, _⟩ := hv
    exact ⟨cs, h1, h2⟩
  obtain ⟨⟨l⟩, rfl, hsz⟩ := hcs
  obtain ⟨fuel, hf⟩ := h
  obtain ⟨ys, hl, hcs, _, hw⟩ := trod_ints Tryd.underlying39 Tryd.underlying5 (by kernel_rfl) (by kernel_rfl) hf
  match ys, hl with
  | [x, y], _ =>
    refine ⟨x, y, ?_, hw x (by simp), hw y (by simp)⟩
    have : l = [.int .u8 x, .int .u8 y] := by simpa [Value.cells] using hcs
    rw [this]
end
end Go.Proofs.YtimaidiabjkgkaaDoor
