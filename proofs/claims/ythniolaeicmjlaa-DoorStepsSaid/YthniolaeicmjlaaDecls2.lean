/- Two variables declared side by side. No statement of the seat is proved here. -/
import Derived.Test.YthniolaeicmjlaaDecls
namespace Go.Proofs.Ythniolaeicmjlaa
open Go.RowKit Ghost

theorem d2_m1 (d e : Decl) : d ∈ [d, e] := by simp
theorem d2_m2 (d e : Decl) : e ∈ [d, e] := by simp
theorem d2_al1 {d e : Decl} (h : e.al ≠ d.al) : ∀ x ∈ [d, e], x.al = d.al → x = d := by
  intro x hx hq
  simp only [List.mem_cons, List.not_mem_nil, or_false] at hx
  rcases hx with rfl | rfl
  · rfl
  · exact absurd hq h
theorem d2_al2 {d e : Decl} (h : d.al ≠ e.al) : ∀ x ∈ [d, e], x.al = e.al → x = e := by
  intro x hx hq
  simp only [List.mem_cons, List.not_mem_nil, or_false] at hx
  rcases hx with rfl | rfl
  · exact absurd hq h
  · rfl
theorem d2_st1 {d e : Decl} (h : e.st ≠ d.st) : ∀ x ∈ [d, e], x.st = d.st → x = d := by
  intro x hx hq
  simp only [List.mem_cons, List.not_mem_nil, or_false] at hx
  rcases hx with rfl | rfl
  · rfl
  · exact absurd hq h
theorem d2_st2 {d e : Decl} (h : d.st ≠ e.st) : ∀ x ∈ [d, e], x.st = e.st → x = e := by
  intro x hx hq
  simp only [List.mem_cons, List.not_mem_nil, or_false] at hx
  rcases hx with rfl | rfl
  · exact absurd hq h
  · rfl
theorem Decls.done2 {B n : Nat} {W0 w : World} {d e : Decl} {γ : Gh} {L : Run} (h : Decls B W0 [d, e] γ L w) (hall : ∀ j, j < n → L j = true) (h1 : d.al < n) (h2 : d.st < n) (h3 : e.al < n) (h4 : e.st < n) (hne : d.al ≠ e.al) :
    B ≤ γ d.al ∧ w.heap[γ d.al]? = some (.cells d.R d.T (0, 0)) ∧ B ≤ γ e.al ∧ w.heap[γ e.al]? = some (.cells e.R e.T (0, 0)) ∧ γ d.al ≠ γ e.al ∧ Below B W0 w := by
  have r1 := h.row d (d2_m1 _ _) (hall _ h1)
  have r2 := h.row e (d2_m2 _ _) (hall _ h3)
  rw [if_pos (hall _ h2)] at r1
  rw [if_pos (hall _ h4)] at r2
  exact ⟨r1.1, r1.2, r2.1, r2.2, h.apart d (d2_m1 _ _) e (d2_m2 _ _) hne (hall _ h1) (hall _ h3), h.below⟩
end Go.Proofs.Ythniolaeicmjlaa
