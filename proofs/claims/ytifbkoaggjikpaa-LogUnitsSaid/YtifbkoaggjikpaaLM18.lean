/- What the texts behind this one rest on: one text. No statement of the seat is proved here. -/
import Derived.Test.YtifbkoaggjikpaaLM17
import Derived.Test.YtifbkoaggjikpaaLM08
namespace Go.Proofs.Ytifbkoaggjikpaa
section
open Go.RowKit Ghost

theorem bl_cut (s : ByteArray) (k : Nat) : bl (s.extract (6 * k) (6 * k + 6)) = Rc.cutL (bl s) k := by
  unfold bl Rc.cutL
  rw [ba_cut]
  congr 1
  omega
theorem cut_short (s : ByteArray) {k : Nat} (h : ¬ 6 * k + 6 ≤ s.size) (b : BldD) : ¬ Rc.decE b (Rc.cutL (bl s) k) = 0 := by
  intro e
  have := Rc.decE_len e
  unfold Rc.cutL at this
  rw [List.length_take, List.length_drop, bl_len] at this
  omega
/-- What a slice of one's own looks like. -/
def Shp (v : Value) (n : Nat) : Prop := (v = .slice none 0 0 ∧ n = 0) ∨ ∃ g cap, v = .slice (some ⟨g, 0, none⟩) n cap ∧ n ≤ cap
theorem Shp.of_own {w : World} {base n size : Nat} {e : TypeId} {v : Value} {l : List Value} (h : w.ownsRow base e size v n l) : Shp v n := by
  obtain ⟨-, h | ⟨g, cap, cur, hv, -, -, hc, -⟩⟩ := h
  · exact .inl h
  · exact .inr ⟨g, cap, hv, hc⟩
end
end Go.Proofs.Ytifbkoaggjikpaa
