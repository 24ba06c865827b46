/- building.timesFit: whether the times of a building and of its cars fit; nothing that existed has changed. -/
import Derived.Test.YtnjcegkefjdgdaaDoorG2
namespace Go.Proofs.YtnjcegkefjdgdaaDoor
open Go.RowKit

def timesFitB (b : BldD) : Bool := inAll 1 16 [b.debounce] && (inAll 1 10000 [b.park] && b.cars.all (carFitsB b.floors))

theorem all_take_succ (p : CarD → Bool) (cs : List CarD) (k : Nat) (h : k < cs.length) : (cs.take (k + 1)).all p = ((cs.take k).all p && p cs[k]) := by
  rw [List.take_succ_eq_append_getElem h, List.all_append]
  simp

theorem all_at_false (p : CarD → Bool) (cs : List CarD) (k : Nat) (h : k < cs.length) (hb : p cs[k] = false) : cs.all p = false := by
  rw [List.all_eq_false]
  exact ⟨cs[k], List.getElem_mem h, by simp [hb]⟩

theorem timesFit_any (b : BldD) (A : Option Addr) (cap : Nat) (w : World) (h1 : 0 ≤ b.floors) (h2 : b.floors ≤ 100) (hn : b.cars.length ≤ 100) (hc : CarsAt w w.heap.size A b.cars) :
    Calls Tryd.prog 48 #[b.agg A cap] w fun e w' => e = .returned (.bool (timesFitB b)) ∧ Below w.heap.size w w' := by
  obtain ⟨f, d, r, p, e1, e2, e3, cs⟩ := b
  simp only at h1 h2 hn hc
  have E0 : ∀ b1 b2 b3 : Bool, inAll 1 16 [d] = b1 → inAll 1 10000 [p] = b2 → cs.all (carFitsB f) = b3 → timesFitB ⟨f, d, r, p, e1, e2, e3, cs⟩ = (b1 && (b2 && b3)) := by
    rintro b1 b2 b3 rfl rfl rfl; rfl
  have E1 := Lib.hid E0
  clear E0
  simp only [BldD.agg]
  have HC := Lib.hid hc
  clear hc
  rcases Bool.eq_false_or_eq_true (inAll 1 16 [d]) with hd | hd
  · rcases Bool.eq_false_or_eq_true (inAll 1 10000 [p]) with hp | hp
    · go_enter Tryd.func48, Tryd.ntmps48
      go_wp2_with (go_at_call 47; refine (within_new _ _ _ _ _ _ _ _ _ (by simp) (by rfl) (by omega) (by repeat constructor)).mono ?_; rintro e w' ⟨rfl, rfl⟩)
      have Hd := Lib.hid hd
      have Hp := Lib.hid hp
      clear hd hp
      go_loopw [20] (fun v wr => ∃ k : Nat, k ≤ cs.length ∧ v = .int .i64 k ∧ Hid ((cs.take k).all (carFitsB f) = true) ∧ Below (w.heap.size + 1) (w.alloc (.cells #[.int .i64 f, .int .i64 d, .int .i64 r, .int .i64 p, .float .f64 e1, .float .f64 e2, .float .f64 e3, .slice A cs.length cap] 27)) wr) (fun v _ => cs.length - (intOf v).toNat)
      case atStart => exact ⟨0, Nat.zero_le _, rfl, rfl, by go_grown⟩
      case round =>
        obtain ⟨k, hk, rfl, hall, hbel⟩ := hrel
        have hf0 : wr.cell? ⟨w.heap.size, 0, none⟩ = some (.int .i64 f) := cell_new_below hbel 0
        by_cases hlt : k < cs.length
        · have HC' := HC.out.below (below_of_new hbel)
          obtain ⟨b, off, c1, c2, c3, c4, c5, c6, c7, c8, c9, rfl, hb, hcar, g0, g1, g2, g3, g4, g5, g6, g7, g8⟩ := HC'.at_ hlt
          clear HC'
          have hz : w.heap.size < wr.heap.size := by have := hbel.size; simp at this; omega
          rcases Bool.eq_false_or_eq_true (carFitsB f ⟨c1, c2, c3, c4, c5, c6, c7, c8, c9⟩) with hf | hf
          · go_wp2_with (go_at_call 63; refine (carFits_any f ⟨c1, c2, c3, c4, c5, c6, c7, c8, c9⟩ _ h1 h2).mono ?_; rintro e w' ⟨rfl, hb'⟩)
            go_roundw
            case rel =>
              refine ⟨k + 1, by omega, by go_num, ?_, ?_⟩
              · have hs := all_take_succ (carFitsB f) cs k hlt
                rw [hall.out, hcar.out, hf] at hs
                exact hs
              · exact hbel.trans (((Below.refl _ _).alloc (by omega) _).trans (hb'.mono (by simp; omega)))
            case measure => simp [intOf]; omega
          · go_wp2_with (go_at_call 63; refine (carFits_any f ⟨c1, c2, c3, c4, c5, c6, c7, c8, c9⟩ _ h1 h2).mono ?_; rintro e w' ⟨rfl, hb'⟩)
            go_ret
            refine ⟨ret_bool ?_, ?_⟩
            · rw [E1.out _ _ _ Hd.out Hp.out (all_at_false _ _ k hlt (by rw [hcar.out, hf]))]
              rfl
            · exact (below_of_new hbel).trans (((Below.refl _ _).alloc (by omega) _).trans (hb'.mono (by simp; omega)))
        · go_wp2
          go_ret
          have he : cs.take k = cs := List.take_of_length_le (by omega)
          have hi' := hall.out
          rw [he] at hi'
          refine ⟨ret_bool ?_, below_of_new hbel⟩
          rw [E1.out _ _ _ Hd.out Hp.out hi']
          rfl
    · go_enter Tryd.func48, Tryd.ntmps48
      go_wp2_with (go_at_call 47; refine (within_new _ _ _ _ _ _ _ _ _ (by simp) (by rfl) (by omega) (by repeat constructor)).mono ?_; rintro e w' ⟨rfl, rfl⟩)
      go_ret
      refine ⟨ret_bool ?_, by go_grown⟩
      rw [E1.out _ _ _ hd hp rfl]
      rfl
  · go_enter Tryd.func48, Tryd.ntmps48
    go_wp2_with (go_at_call 47; refine (within_new _ _ _ _ _ _ _ _ _ (by simp) (by rfl) (by omega) (by repeat constructor)).mono ?_; rintro e w' ⟨rfl, rfl⟩)
    go_ret
    refine ⟨ret_bool ?_, by go_grown⟩
    rw [E1.out _ _ _ hd rfl rfl]
    rfl
end Go.Proofs.YtnjcegkefjdgdaaDoor
