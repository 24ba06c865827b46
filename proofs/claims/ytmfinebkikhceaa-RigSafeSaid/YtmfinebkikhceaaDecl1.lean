/- One variable declared with calls beside it ('a := f(g(x))'), its block made in any order. No statement of the seat is proved here. -/
import Derived.Test.YtmfinebkikhceaaDecls
import Derived.Test.YtmfinebkikhceaaPut
namespace Go.Proofs.Ytmfinebkikhceaa
open Go.RowKit Ghost

theorem decl_mem (d : Decl) : d ∈ [d] := List.mem_singleton.2 rfl
theorem decl_al (d : Decl) : ∀ e ∈ [d], e.al = d.al → e = d := fun _ he _ => List.mem_singleton.1 he
theorem decl_st (d : Decl) : ∀ e ∈ [d], e.st = d.st → e = d := fun _ he _ => List.mem_singleton.1 he
theorem Decls.done1 {B n : Nat} {W0 w : World} {d : Decl} {γ : Gh} {L : Run} (h : Decls B W0 [d] γ L w) (hall : ∀ j, j < n → L j = true) (h1 : d.al < n) (h2 : d.st < n) :
    B ≤ γ d.al ∧ w.heap[γ d.al]? = some (.cells d.R d.T (0, 0)) ∧ Below B W0 w := by
  have hr := h.row d (decl_mem d) (hall _ h1)
  rw [if_pos (hall _ h2)] at hr
  exact ⟨hr.1, hr.2, h.below⟩
end Go.Proofs.Ytmfinebkikhceaa
