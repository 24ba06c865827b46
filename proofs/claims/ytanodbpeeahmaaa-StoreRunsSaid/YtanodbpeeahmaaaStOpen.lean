/- Stores and places that came in as arguments. No statement of the seat is proved here. -/
import Derived.Test.YtanodbpeeahmaaaStSane
import Derived.Test.YtanodbpeeahmaaaSlices
namespace Go.Proofs.Ytanodbpeeahmaaa
open Go.RowKit Go.ChangeShapes Go.WideShapes Go.Deep

section
variable {H : Type} {enc : TypeId × Value → H} {w : World} {base : Nat} {spare : Nat → Bool} {held : Bool}
theorem open_st {r : Reach} {b0 : Nat} {v : Value} {d : DataW H} {p : List MemPlace} (hv : Value.okWide Try.prog w r b0 24 v) (h : DataW.Trod enc Try.prog w base spare held 24 v d p) :
    ∃ s : St, v = s.agg ∧ s.a.size ≤ maxLen ∧ s.b.size ≤ maxLen ∧ I64 s.sel := by
  obtain ⟨⟨l⟩, rfl, hsz⟩ := okWide_struct Try.underlying24 hv
  have hC : Try.prog.cellsOf 24 = 3 := by kernel_rfl
  have hk1 : Try.prog.cellsOf 22 = 2 := by kernel_rfl
  have hk2 : Try.prog.cellsOf 3 = 1 := by kernel_rfl
  have hk3 : Try.prog.cellsOf 9 = 1 := by kernel_rfl
  match l, hsz.trans hC with
  | [c0, c1, c2], _ =>
    obtain ⟨fuel, hf⟩ := h
    obtain ⟨xs, n, _, hx, _, hlen, hg⟩ := DataW.trod_struct Try.underlying24 hf
    have hyl : xs.length = 2 := by rw [hlen]; rfl
    have i0 := (hg 0 _ rfl).trans (List.getElem?_eq_getElem (by omega : 0 < xs.length))
    have i1 := (hg 1 _ rfl).trans (List.getElem?_eq_getElem (by omega : 1 < xs.length))
    simp [Value.cells, hk1, hk2] at i0 i1
    obtain ⟨ys, m, _, _, _, hyl2, hg2⟩ := DataW.trod_array Try.underlying22 i0
    have j0 := (hg2 0 (by omega)).trans (List.getElem?_eq_getElem (by omega : 0 < ys.length))
    have j1 := (hg2 1 (by omega)).trans (List.getElem?_eq_getElem (by omega : 1 < ys.length))
    simp [hk3] at j0 j1
    obtain ⟨a, ha, -, hza⟩ := DataW.trod_string Try.underlying9 j0
    obtain ⟨b, hb, -, hzb⟩ := DataW.trod_string Try.underlying9 j1
    obtain ⟨z, hz, -, wf⟩ := DataW.trod_int Try.underlying3 i1
    simp only [List.cons.injEq, and_true] at ha hb hz
    subst ha hb hz
    exact ⟨⟨a, b, z⟩, rfl, hza, hzb, i64_of wf⟩
/-- The law's place. -/
structure Pl where
  room : Int
  half : Int
  bud : Int
def Pl.agg (p : Pl) : Value := .agg #[.int .i64 p.room, .int .i64 p.half, .int .i64 p.bud]
theorem open_pl {r : Reach} {b0 : Nat} {v : Value} {d : DataW H} {p : List MemPlace} (hv : Value.okWide Try.prog w r b0 26 v) (h : DataW.Trod enc Try.prog w base spare held 26 v d p) :
    ∃ s : Pl, v = s.agg ∧ I64 s.room ∧ I64 s.half ∧ I64 s.bud := by
  obtain ⟨⟨l⟩, rfl, hsz⟩ := okWide_struct Try.underlying26 hv
  have hC : Try.prog.cellsOf 26 = 3 := by kernel_rfl
  have hk2 : Try.prog.cellsOf 3 = 1 := by kernel_rfl
  match l, hsz.trans hC with
  | [c0, c1, c2], _ =>
    obtain ⟨fuel, hf⟩ := h
    obtain ⟨xs, n, _, hx, _, hlen, hg⟩ := DataW.trod_struct Try.underlying26 hf
    have hyl : xs.length = 3 := by rw [hlen]; rfl
    have i0 := (hg 0 _ rfl).trans (List.getElem?_eq_getElem (by omega : 0 < xs.length))
    have i1 := (hg 1 _ rfl).trans (List.getElem?_eq_getElem (by omega : 1 < xs.length))
    have i2 := (hg 2 _ rfl).trans (List.getElem?_eq_getElem (by omega : 2 < xs.length))
    simp [Value.cells, hk2] at i0 i1 i2
    obtain ⟨a, ha, -, wa⟩ := DataW.trod_int Try.underlying3 i0
    obtain ⟨b, hb, -, wb⟩ := DataW.trod_int Try.underlying3 i1
    obtain ⟨z, hz, -, wz⟩ := DataW.trod_int Try.underlying3 i2
    simp only [List.cons.injEq, and_true] at ha hb hz
    subst ha hb hz
    exact ⟨⟨a, b, z⟩, rfl, i64_of wa, i64_of wb, i64_of wz⟩
end
end Go.Proofs.Ytanodbpeeahmaaa
