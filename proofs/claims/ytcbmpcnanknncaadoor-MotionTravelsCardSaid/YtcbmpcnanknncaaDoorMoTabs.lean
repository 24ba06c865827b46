/- The table of the steps' commands in its variable; what a command leads to, plainly. No statement of the seat is proved here. -/
import Derived.Test.YtcbmpcnanknncaaDoorMoEq
import Derived.Test.YtcbmpcnanknncaaDoorBxn
namespace Go.Proofs.YtcbmpcnanknncaaDoor
open Go.RowKit

namespace Mo
def ah (j : Nat) : Int := if j = 1 then 1 else if j = 2 then -1 else 0
def wi (lo hi n : Int) : Bool := decide (lo ≤ n) && decide (n ≤ hi)
def toF (F f c : Int) : Int := if (0 ≤ c ∧ c ≤ 2) ∧ isF F f = true then (if c = 1 then f + 1 else if c = 2 then f - 1 else f) else 0
def go (F f c : Int) : Bool := decide (c = 1 ∨ c = 2) && (isF F f && isF F (tgt ⟨c, 0, f⟩))
theorem wi_isF (F n : Int) : wi 0 (F - 1) n = isF F n := by
  unfold wi isF
  congr 1
  exact decide_eq_decide.2 (by omega)
theorem wi_of {lo hi n : Int} (h : lo ≤ n ∧ n ≤ hi) : wi lo hi n = true := by unfold wi; simp [h.1, h.2]
theorem wi_no {lo hi n : Int} (h : ¬ (lo ≤ n ∧ n ≤ hi)) : wi lo hi n = false := by
  cases hw : wi lo hi n
  · rfl
  · unfold wi at hw
    simp at hw
    exact absurd hw h
theorem isB_go {F a b c : Int} (hF : 2 ≤ F ∧ F ≤ 32) (hb : 0 ≤ b ∧ b ≤ 1000000) : isB F ⟨a, b, c⟩ = if a = 0 then c == 0 else go F c a := by
  rw [isB_c hF hb]
  by_cases h0 : a = 0
  · rw [if_pos h0, if_pos h0]
  · rw [if_neg h0, if_neg h0]
    by_cases h1 : a = 1 ∨ a = 2
    · rw [if_pos h1]; unfold go; rw [decide_eq_true h1]; rfl
    · rw [if_neg h1]; unfold go; rw [decide_eq_false h1]; rfl
theorem go_isB {F f c : Int} (hF : 2 ≤ F ∧ F ≤ 32) (hc : c ≠ 0) : isB F ⟨c, 0, f⟩ = go F f c := by rw [isB_go hF (by decide), if_neg hc]
theorem go_zero (F f : Int) : go F f 0 = false := by unfold go; simp
end Mo
/-- The table lies in its variable. -/
structure Tabs (w : World) : Prop where
  ahead : ∀ j : Nat, j < 3 → w.cell? ⟨0, j, none⟩ = some (.int .i64 (Mo.ah j))
theorem blk_lt {w : World} {b o : Nat} {v : Value} (h : w.cell? ⟨b, o, none⟩ = some v) : b < w.heap.size := by
  rcases Nat.lt_or_ge b w.heap.size with h1 | h1
  · exact h1
  · exfalso
    unfold World.cell? at h
    simp [Array.getElem?_eq_none h1] at h
theorem cell_below {w w' : World} {b o : Nat} {v : Value} (hb : Below w.heap.size w w') (h : w.cell? ⟨b, o, none⟩ = some v) : w'.cell? ⟨b, o, none⟩ = some v :=
  (hb.cell (p := ⟨b, o, none⟩) (blk_lt h)).trans h
theorem Tabs.below {w w' : World} (h : Tabs w) (hb : Below w.heap.size w w') : Tabs w' :=
  ⟨fun j hj => cell_below hb (h.ahead j hj)⟩
theorem results_row_tmp2 {P : Program} {fn : Func} {p q r : Tmp} {ty : TypeId} (h : fn.results = #[.cell p ty, .tmp q, .tmp r]) (tmps : Array Value) (w : World) (g : Nat) (t : TypeId) (cs : Array Value) (fr : Nat × Nat) (d : TypeDesc)
    (hp : tmps.getD p undef = .pointer (some ⟨g, 0, none⟩)) (hg : w.heap[g]? = some (.cells cs t fr))
    (hu : P.underlying ty = some d) (hd : (match d with | .struct _ | .array _ _ => true | _ => false) = true) (hi : (P.info? ty).map (·.size) = some cs.size) :
    (results fn tmps).run P w = .ok (.tuple #[.agg cs, tmps.getD q undef, tmps.getD r undef]) w := by
  have hp' : tmps[p]?.getD undef = .pointer (some ⟨g, 0, none⟩) := by simpa using hp
  simp [results, h, hp', asAddr, run_loadVar_row w g t ty cs fr d hg hu hd hi]
end Go.Proofs.YtcbmpcnanknncaaDoor
