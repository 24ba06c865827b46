/- building.Valid: the first error of a building; nothing that existed has changed. -/
import Derived.Test.YtnjcegkefjdgdaaDoorTimesFit
import Derived.Test.YtnjcegkefjdgdaaDoorG4
namespace Go.Proofs.YtnjcegkefjdgdaaDoor
open Go.RowKit

def loadsB (b : BldD) : Bool := ascB [0, b.empty, b.full, b.over, 9218868437227405312]
def roomB (b : BldD) : Bool := inAll (18 * b.cars.length + 24) 65536 [b.room]

/-- The number of the first error, or 0. -/
def validE (b : BldD) : Int :=
  if inAll 2 32 [b.floors] = false then 10 else if inAll 1 8 [(b.cars.length : Int)] = false then 11 else if timesFitB b = false then 12 else if loadsB b = false then 13 else if roomB b = false then 14 else 0

theorem inAll_one {lo hi v : Int} (h : inAll lo hi [v] = true) : lo ≤ v ∧ v ≤ hi := by simpa [inAll] using h

set_option maxRecDepth 100000 in
theorem valid_any (b : BldD) (A : Option Addr) (cap : Nat) (w : World) (hn : b.cars.length ≤ 140737488355328) (hc : CarsAt w w.heap.size A b.cars) :
    Calls Tryd.prog 26 #[b.agg A cap] w fun e w' => e = .returned (.int .i64 (validE b)) ∧ Below w.heap.size w w' := by
  obtain ⟨f, d, r, p, e1, e2, e3, cs⟩ := b
  simp only at hn hc
  have HC := Lib.hid hc
  clear hc
  have E0 : ∀ q : BldD, validE q = if inAll 2 32 [q.floors] = false then 10 else if inAll 1 8 [(q.cars.length : Int)] = false then 11 else if timesFitB q = false then 12 else if loadsB q = false then 13 else if roomB q = false then 14 else 0 := fun _ => rfl
  have E1 := Lib.hid (E0 ⟨f, d, r, p, e1, e2, e3, cs⟩)
  clear E0
  simp only [BldD.agg]
  rcases Bool.eq_false_or_eq_true (inAll 2 32 [f]) with h1 | h1
  · rcases Bool.eq_false_or_eq_true (inAll 1 8 [(cs.length : Int)]) with h2 | h2
    · have hf := inAll_one h1
      have hl := inAll_one h2
      obtain ⟨hf1, hf2⟩ := hf
      obtain ⟨hl1, hl2⟩ := hl
      rcases Bool.eq_false_or_eq_true (timesFitB ⟨f, d, r, p, e1, e2, e3, cs⟩) with h3 | h3
      · go_enter Tryd.func26, Tryd.ntmps26
        go_wp2_with (first
          | (go_at_call 47; refine (within_new _ _ _ _ _ _ _ _ _ (by simp) (by rfl) (by omega) (by repeat constructor)).mono ?_; rintro e w' ⟨rfl, rfl⟩)
          | (go_at_call 48; refine (timesFit_any ⟨f, d, r, p, e1, e2, e3, cs⟩ A cap _ (by simp only; omega) (by simp only; omega) (by simp only; omega) ((HC.out.below (by go_grown)).more (by simp; omega))).mono ?_; rintro e w' ⟨rfl, hb1⟩))
        have hbel : Below (w.heap.size + 1) (w.alloc (.cells #[.int .i64 f, .int .i64 d, .int .i64 r, .int .i64 p, .float .f64 e1, .float .f64 e2, .float .f64 e3, .slice A cs.length cap] 27)) w' :=
          Below.trans (by go_grown) (hb1.mono (by simp))
        clear hb1
        have g2 : w'.cell? ⟨w.heap.size, 2, none⟩ = some (.int .i64 r) := cell_new_below hbel 2
        have g4 : w'.cell? ⟨w.heap.size, 4, none⟩ = some (.float .f64 e1) := cell_new_below hbel 4
        have g5 : w'.cell? ⟨w.heap.size, 5, none⟩ = some (.float .f64 e2) := cell_new_below hbel 5
        have g6 : w'.cell? ⟨w.heap.size, 6, none⟩ = some (.float .f64 e3) := cell_new_below hbel 6
        have g7 : w'.cell? ⟨w.heap.size, 7, none⟩ = some (.slice A cs.length cap) := cell_new_below hbel 7
        go_still_tail 7, (by kernel_rfl)
        still_call ((inf_any 1 (by omega) _).mono fun _ _ h => ⟨h.1, h.2.symm⟩)
        refine wpStill_nil ?_
        have hbd : Below (w.heap.size + 1) (w.alloc (.cells #[.int .i64 f, .int .i64 d, .int .i64 r, .int .i64 p, .float .f64 e1, .float .f64 e2, .float .f64 e3, .slice A cs.length cap] 27)) w'.drew := hbel.drew
        change wpList _ _ _ _ _ w'.drew
        clear g2 g4 g5 g6 g7 hbel
        generalize w'.drew = w2 at *
        have g2 : w2.cell? ⟨w.heap.size, 2, none⟩ = some (.int .i64 r) := cell_new_below hbd 2
        have g7 : w2.cell? ⟨w.heap.size, 7, none⟩ = some (.slice A cs.length cap) := cell_new_below hbd 7
        have hz : w.heap.size < w2.heap.size := by have := hbd.size; simp at this; omega
        go_wp2_with fail
        refine (ascending_new _ _ _ _ _ _ _ (by simp) (by rfl) (by omega) (by omega) (by repeat constructor)).mono ?_
        rintro e w3 ⟨rfl, hb2⟩
        have hbe := hbd.trans (((Below.refl _ _).alloc (by omega) _).trans (hb2.mono (by simp; omega)))
        clear g2 g7 hb2 hbd hz
        have g2 : w3.cell? ⟨w.heap.size, 2, none⟩ = some (.int .i64 r) := cell_new_below hbe 2
        have g7 : w3.cell? ⟨w.heap.size, 7, none⟩ = some (.slice A cs.length cap) := cell_new_below hbe 7
        have hz : w.heap.size < w3.heap.size := by have := hbe.size; simp at this; omega
        have hcs : ((cs.length : Nat) : Int) ≤ 8 := by omega
        rcases Bool.eq_false_or_eq_true (ascB [0, e1, e2, e3, 9218868437227405312]) with h4 | h4
        · rcases Bool.eq_false_or_eq_true (inAll (18 * (cs.length : Int) + 24) 65536 [r]) with h5 | h5
          · go_wp2_with (go_at_call 47; refine (within_new _ _ _ _ _ _ _ _ _ (by simp) (by rfl) (by omega) (by repeat constructor)).mono ?_; rintro e w' ⟨rfl, rfl⟩)
            go_ret
            refine ⟨ret_int ?_, (below_of_new hbe).alloc (by omega) _⟩
            have h4' : loadsB ⟨f, d, r, p, e1, e2, e3, cs⟩ = true := h4
            have h5' : roomB ⟨f, d, r, p, e1, e2, e3, cs⟩ = true := h5
            rw [E1.out, h1, h2, h3, h4', h5']
            rfl
          · go_wp2_with (go_at_call 47; refine (within_new _ _ _ _ _ _ _ _ _ (by simp) (by rfl) (by omega) (by repeat constructor)).mono ?_; rintro e w' ⟨rfl, rfl⟩)
            go_ret
            refine ⟨ret_int ?_, (below_of_new hbe).alloc (by omega) _⟩
            have h4' : loadsB ⟨f, d, r, p, e1, e2, e3, cs⟩ = true := h4
            have h5' : roomB ⟨f, d, r, p, e1, e2, e3, cs⟩ = false := h5
            rw [E1.out, h1, h2, h3, h4', h5']
            rfl
        · go_wp2
          go_ret
          refine ⟨ret_int ?_, below_of_new hbe⟩
          have h4' : loadsB ⟨f, d, r, p, e1, e2, e3, cs⟩ = false := h4
          rw [E1.out, h1, h2, h3, h4']
          rfl
      · go_enter Tryd.func26, Tryd.ntmps26
        go_wp2_with (first
          | (go_at_call 47; refine (within_new _ _ _ _ _ _ _ _ _ (by simp) (by rfl) (by omega) (by repeat constructor)).mono ?_; rintro e w' ⟨rfl, rfl⟩)
          | (go_at_call 48; refine (timesFit_any ⟨f, d, r, p, e1, e2, e3, cs⟩ A cap _ (by simp only; omega) (by simp only; omega) (by simp only; omega) ((HC.out.below (by go_grown)).more (by simp; omega))).mono ?_; rintro e w' ⟨rfl, hb1⟩))
        go_ret
        refine ⟨ret_int ?_, Below.trans (by go_grown) (hb1.mono (by simp; omega))⟩
        rw [E1.out, h1, h2, h3]
        rfl
    · go_enter Tryd.func26, Tryd.ntmps26
      go_wp2_with (go_at_call 47; refine (within_new _ _ _ _ _ _ _ _ _ (by simp) (by rfl) (by omega) (by repeat constructor)).mono ?_; rintro e w' ⟨rfl, rfl⟩)
      go_ret
      refine ⟨ret_int ?_, by go_grown⟩
      rw [E1.out, h1, h2]
      rfl
  · go_enter Tryd.func26, Tryd.ntmps26
    go_wp2_with (go_at_call 47; refine (within_new _ _ _ _ _ _ _ _ _ (by simp) (by rfl) (by omega) (by repeat constructor)).mono ?_; rintro e w' ⟨rfl, rfl⟩)
    go_ret
    refine ⟨ret_int ?_, by go_grown⟩
    rw [E1.out, h1]
    rfl
end Go.Proofs.YtnjcegkefjdgdaaDoor
