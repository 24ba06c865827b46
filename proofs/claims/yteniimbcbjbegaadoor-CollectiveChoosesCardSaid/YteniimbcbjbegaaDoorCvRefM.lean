/- The reference's scene of stage 11 is the program's, plainly. No statement of the seat is proved here. -/
import Derived.Test.YteniimbcbjbegaaDoorCvRefC
import Derived.Test.YteniimbcbjbegaaDoorCvGame
namespace Go.Proofs.YteniimbcbjbegaaDoor
open Go.RowKit
namespace Cv

theorem cnt_cnt {F : Nat} {s : Stp} (hs : s.ok) : cnt F (cnt F s) = cnt F s := by
  refine Stp.ext (cnt_ok (cnt_ok hs)) (cnt_ok hs) fun k hk => ?_
  obtain ⟨a1, a2, a3⟩ := cnt_bit F (cnt F s) hk
  obtain ⟨b1, b2, b3⟩ := cnt_bit F s hk
  rw [a1, a2, a3, b1, b2, b3]
  simp [Bool.and_assoc]
theorem spent_cnt {F o f : Nat} {s : Stp} (hs : s.ok) : spent F o f (cnt F s) = spent F o f s := by
  unfold spent
  rw [cnt_cnt hs]
theorem find_congr {n : Nat} {p q : Nat → Bool} (h : ∀ i, i < n → p i = q i) : (List.range n).find? p = (List.range n).find? q := by
  have : ∀ l : List Nat, (∀ i ∈ l, i < n) → l.find? p = l.find? q := by
    intro l
    induction l with
    | nil => intro _; rfl
    | cons a l ih =>
      intro hl
      rw [List.find?_cons, List.find?_cons, h a (hl a (by simp)), ih (fun i hi => hl i (by simp [hi]))]
  exact this _ (fun i hi => List.mem_range.1 hi)
theorem upF_live {F o f : Nat} {s : Stp} (hs : s.ok) (hf : f < 32) : upF (cnt F s).bits f = upF (live F o f s).bits f := by
  refine find_congr fun i hi => ?_
  rw [atB_cnt F s (by omega), live_other hs (by omega) (by omega)]
theorem dnF_live {F o f : Nat} {s : Stp} (hs : s.ok) (hf : f < 32) : dnF (cnt F s).bits f = dnF (live F o f s).bits f := by
  refine find_congr fun i hi => ?_
  rw [atB_cnt F s (by omega), live_other hs (by omega) (by omega)]
/-- The reference's choice between two directions. -/
def nearR (a b : Bool × Int) : Int := if a.1 = true ∧ (b.1 = false ∨ a.2 ≤ b.2) then 1 else if b.1 = true then 2 else 0
theorem near_R (x f : Nat) : nearR (abvR x f) (belR x f) = (near x f : Int) := by
  unfold nearR abvR belR near
  cases upF x f with
  | none => cases dnF x f <;> simp
  | some i =>
    cases dnF x f with
    | none => simp
    | some j =>
      simp only [true_and, Bool.true_eq_false, false_or, if_true]
      by_cases h : i ≤ j
      · rw [if_pos (by omega), if_pos h]; rfl
      · rw [if_neg (by omega), if_neg h]; rfl
theorem abv_some (x f : Nat) : (abvR x f).1 = (upF x f).isSome := by unfold abvR; cases upF x f <;> rfl
theorem bel_some (x f : Nat) : (belR x f).1 = (dnF x f).isSome := by unfold belR; cases dnF x f <;> rfl
theorem swUp_R (x : Sc) : (if (swpR 1 2 x.car x.up x.dn x.ab x.be).2 = true then (swpR 1 2 x.car x.up x.dn x.ab x.be).1 else turR 2 x.dn x.be) = choose x 1 := by
  obtain ⟨u, d, c, a, b, n⟩ := x
  cases u <;> cases d <;> cases c <;> cases a <;> cases b <;> rfl
theorem swDn_R (x : Sc) : (if (swpR 2 1 x.car x.dn x.up x.be x.ab).2 = true then (swpR 2 1 x.car x.dn x.up x.be x.ab).1 else turR 1 x.up x.ab) = choose x 2 := by
  obtain ⟨u, d, c, a, b, n⟩ := x
  cases u <;> cases d <;> cases c <;> cases a <;> cases b <;> rfl
theorem near_lt (x f : Nat) : near x f < 3 := by
  unfold near
  cases upF x f <;> cases dnF x f <;> simp
  split <;> decide
end Cv
end Go.Proofs.YteniimbcbjbegaaDoor
