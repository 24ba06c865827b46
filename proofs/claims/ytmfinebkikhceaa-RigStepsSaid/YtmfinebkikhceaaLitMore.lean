/- Rows that stay while other blocks turn. No statement of the seat is proved here. -/
import Derived.Test.YtmfinebkikhceaaLit
namespace Go.Proofs.Ytmfinebkikhceaa
open Go.RowKit
namespace Lit
variable {B b : Nat} {W1 wx : World} {row : Obj}
theorem putOther (h : Lit B W1 b row wx) {b' : Nat} (hb : B ≤ b') (hne : b ≠ b') (i : Nat) (v : Value) : Lit B W1 b row (wx.setCell ⟨b', i, none⟩ v) :=
  ⟨h.below.setCell hb v, by rw [Go.Deep.nblk_setCell]; exact h.size, (Go.Deep.blk_setCell_other _ _ _ _ hne).trans h.row⟩
end Lit
end Go.Proofs.Ytmfinebkikhceaa
