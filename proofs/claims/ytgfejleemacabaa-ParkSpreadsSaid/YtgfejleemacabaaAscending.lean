/- building.ascending: whether each float is below the next one; nothing that existed has changed. -/
import Derived.Test.YtgfejleemacabaaMem
namespace Go.Proofs.Ytgfejleemacabaa
open Go.RowKit

def ascTo (zs : List Nat) (k : Nat) : Prop := ∀ i, i < k → fltB (zs.getD i 0) (zs.getD (i + 1) 0) = true
def ascB (zs : List Nat) : Bool := decide (∀ i, i < zs.length - 1 → fltB (zs.getD i 0) (zs.getD (i + 1) 0) = true)

theorem ascending_any (b off cap : Nat) (zs : List Nat) (w : World) (h0 : 0 < zs.length) (hn : zs.length ≤ 1000) (hb : b < w.heap.size) (hc : FloatsAt w b off zs) :
    Calls Try.prog 19 #[.slice (some ⟨b, off, none⟩) zs.length cap] w fun e w' => e = .returned (.bool (ascB zs)) ∧ Below w.heap.size w w' := by
  have HC := Lib.hid hc
  clear hc
  go_enter Try.func19, Try.ntmps19
  go_wp2
  go_loopw [3] (fun v wr => ∃ k : Nat, k + 1 ≤ zs.length ∧ v = .int .i64 ((k : Int) + 1) ∧ Hid (ascTo zs k) ∧ Below w.heap.size w wr) (fun v _ => zs.length - (intOf v).toNat)
  case atStart => exact ⟨0, h0, rfl, fun i hi => absurd hi (by omega), Below.refl _ _⟩
  case round =>
    obtain ⟨k, hk, rfl, hall, hbel⟩ := hrel
    by_cases hlt : k + 1 < zs.length
    · obtain ⟨x, hx⟩ : ∃ x, x = zs.getD k 0 := ⟨_, rfl⟩
      obtain ⟨y, hy⟩ : ∃ y, y = zs.getD (k + 1) 0 := ⟨_, rfl⟩
      have g0 : wr.cell? ⟨b, off + k, none⟩ = some (.float .f64 x) := by rw [hx]; exact (hbel.cell (p := ⟨b, off + k, none⟩) hb).trans (HC.out k (by omega))
      have g1 : wr.cell? ⟨b, off + (k + 1), none⟩ = some (.float .f64 y) := by rw [hy]; exact (hbel.cell (p := ⟨b, off + (k + 1), none⟩) hb).trans (HC.out (k + 1) (by omega))
      have HX := Lib.hid hx
      have HY := Lib.hid hy
      clear hx hy
      rcases Bool.eq_false_or_eq_true (FloatKind.f64.format.order x y == some .lt) with hf | hf
      · go_wp2_with fail
        go_quiet (fail)
        go_wp2
        go_roundw
        case rel =>
          refine ⟨k + 1, by omega, by go_num, fun i hi => ?_, ?_⟩
          · rcases Nat.lt_or_ge i k with h | h
            · exact hall.out i h
            · obtain rfl : i = k := by omega
              rw [← HX.out, ← HY.out]
              exact hf
          · exact ⟨hbel.os, hbel.tape, hbel.output, hbel.size, hbel.block⟩
        case measure => simp [intOf]; omega
      · go_wp2_with fail
        go_quiet (fail)
        go_wp2
        go_ret
        refine ⟨ret_bool ?_, hbel.os, hbel.tape, hbel.output, hbel.size, hbel.block⟩
        unfold ascB
        symm
        rw [decide_eq_false_iff_not]
        intro h
        have := h k (by omega)
        rw [← HX.out, ← HY.out] at this
        unfold fltB at this
        rw [hf] at this
        cases this
    · go_wp2
      go_ret
      refine ⟨ret_bool ?_, hbel⟩
      unfold ascB
      symm
      rw [decide_eq_true_iff]
      intro i hi
      exact hall.out i (by omega)

theorem ascending_new (w : World) (cs : Array Value) (t : TypeId) (b n cap : Nat) (zs : List Nat) (hb : b = w.heap.size) (hn : cs.size = n) (h0 : 0 < n) (hle : n ≤ 1000) (hz : IsFloats cs.toList zs) :
    Calls Try.prog 19 #[.slice (some ⟨b, 0, none⟩) n cap] (w.alloc (.cells cs t)) fun e w' => e = .returned (.bool (ascB zs)) ∧ Below (w.alloc (.cells cs t)).heap.size (w.alloc (.cells cs t)) w' := by
  have hl : zs.length = n := by have := congrArg List.length hz.eq; rw [List.length_map, Array.length_toList] at this; omega
  subst hl
  exact ascending_any b 0 cap zs _ h0 hle (by subst hb; simp) (floatsAt_new hb hz.eq)
end Go.Proofs.Ytgfejleemacabaa
