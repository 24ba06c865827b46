/- Same: whether two lists are equal; the law's sanity check. No statement of the seat is proved here. -/
import Derived.Test.YtaiciopfinlpiaaLdRefRun
import Derived.Test.YtaiciopfinlpiaaLdBld
import Derived.Test.YtaiciopfinlpiaaLdOut
namespace Go.Proofs.Ytaiciopfinlpiaa
open Go.RowKit

theorem same_any (a b : List Int) (v u : Value) (w : World) (ha : VV w v (nums a)) (hb : VV w u (nums b)) (hal : a.length ≤ 1000000) (hbl : b.length ≤ 1000000) :
    Calls Try.prog 16 #[v, u] w fun e w' => e = .returned (.bool (decide (a = b))) ∧ Below w.heap.size w w' := by
  obtain ⟨A, ac, rfl, hA⟩ := ha
  obtain ⟨B, bc, rfl, hB⟩ := hb
  simp only [nums_len]
  have HA := Lib.hid hA
  have HB := Lib.hid hB
  clear hA hB
  by_cases hl : a.length = b.length
  · go_enter Try.func16, Try.ntmps16
    have hli : (a.length : Int) = b.length := by omega
    go_wp2_with fail
    go_loopw [5] (fun v wr => ∃ k : Nat, k ≤ a.length ∧ v = .int .i64 k ∧ Hid (a.take k = b.take k) ∧ Below w.heap.size w wr) (fun v _ => a.length - (intOf v).toNat)
    case atStart => exact ⟨0, Nat.zero_le _, rfl, (by show _ = _; rfl), Below.refl _ _⟩
    case round =>
      obtain ⟨k, hk, rfl, heq, hbel⟩ := hrel
      by_cases hlt : k < a.length
      · obtain ⟨ga, oa, rfl, hga, hxa⟩ := (HA.out.below hbel).num hlt
        obtain ⟨gb, ob, rfl, hgb, hxb⟩ := (HB.out.below hbel).num (show k < b.length by omega)
        have ea : a.take (k + 1) = a.take k ++ [a[k]] := List.take_succ_eq_append_getElem hlt
        have eb : b.take (k + 1) = b.take k ++ [b[k]] := List.take_succ_eq_append_getElem (by omega)
        have hne : a[k] ≠ b[k] → decide (a = b) = false := fun h => by
          rw [decide_eq_false_iff_not]
          rintro rfl
          exact h rfl
        have HE := Lib.hid (And.intro ea (And.intro eb hne))
        clear ea eb hne
        generalize a[k] = x at *
        generalize b[k] = y at *
        have hkb : k < b.length := by omega
        by_cases hxy : x = y
        · subst hxy
          go_wp2_with fail
          go_quiet (fail)
          go_wp2
          go_roundw
          case rel =>
            refine ⟨k + 1, by omega, by go_num, ?_, hbel.os, hbel.tape, hbel.output, hbel.size, hbel.block⟩
            show _ = _
            rw [HE.out.1, HE.out.2.1, heq.out]
          case measure => simp [intOf]; omega
        · go_wp2_with fail
          go_quiet (fail)
          go_wp2
          go_ret
          exact ⟨ret_bool (HE.out.2.2 hxy).symm, hbel.os, hbel.tape, hbel.output, hbel.size, hbel.block⟩
      · obtain rfl : k = a.length := by omega
        go_wp2
        go_ret
        refine ⟨ret_bool ?_, hbel⟩
        symm
        rw [decide_eq_true_iff]
        have h := heq.out
        rw [List.take_length, hl, List.take_length] at h
        exact h
  · go_enter Try.func16, Try.ntmps16
    have hli : ¬ (a.length : Int) = b.length := by omega
    have hd : decide (a = b) = false := by
      rw [decide_eq_false_iff_not]
      rintro rfl
      exact hl rfl
    rw [hd]
    clear hd
    go_wp2
    go_ret
    exact ⟨rfl, Below.refl _ _⟩
end Go.Proofs.Ytaiciopfinlpiaa
