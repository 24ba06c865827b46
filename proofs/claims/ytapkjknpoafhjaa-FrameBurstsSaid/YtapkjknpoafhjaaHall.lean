/- building.Hall: the set of all hall calls. -/
import Derived.Test.YtapkjknpoafhjaaService
namespace Go.Proofs.Ytapkjknpoafhjaa
open Go.RowKit

/-- The value of a set of calls. -/
def callsV (u d : Nat) : Value := .agg #[.int .u32 u, .int .u32 d]
def hallUp (b : BldD) : Nat := if validE b = 0 then 2 ^ (b.floors.toNat - 1) - 1 else 0
def hallDown (b : BldD) : Nat := if validE b = 0 then 2 ^ b.floors.toNat - 2 else 0

theorem hall_num : ∀ F, 2 ≤ F → F ≤ 32 → ((2 : Int) ^ F - 1) % 4294967296 / 2 = ((2 ^ (F - 1) - 1 : Nat) : Int) ∧ bits .andNot .u32 (((2 : Int) ^ F - 1) % 4294967296) 1 = ((2 ^ F - 2 : Nat) : Int) := by
  intro F h1 h2
  have h : ∀ G : Fin 33, 2 ≤ G.val → ((2 : Int) ^ G.val - 1) % 4294967296 / 2 = ((2 ^ (G.val - 1) - 1 : Nat) : Int) ∧ bits .andNot .u32 (((2 : Int) ^ G.val - 1) % 4294967296) 1 = ((2 ^ G.val - 2 : Nat) : Int) := by decide +kernel
  exact h ⟨F, by omega⟩ h1

theorem ret_calls {u d u' d' : Int} (hu : u = u') (hd : d = d') : Ending.returned (.agg #[.int .u32 u, .int .u32 d]) = .returned (.agg #[.int .u32 u', .int .u32 d']) := by rw [hu, hd]

set_option maxHeartbeats 1000000 in
theorem hall_any (b : BldD) (A : Option Addr) (cap : Nat) (w : World) (hn : b.cars.length ≤ 140737488355328) (hc : CarsAt w w.heap.size A b.cars) :
    Calls Try.prog 74 #[b.agg A cap] w fun e w' => e = .returned (callsV (hallUp b) (hallDown b)) ∧ Below w.heap.size w w' := by
  have HC := Lib.hid hc
  clear hc
  by_cases hv : validE b = 0
  · have hF := fine_of hv
    have H1 : Hid (hallUp b = 2 ^ (b.floors.toNat - 1) - 1) := if_pos hv
    have H2 : Hid (hallDown b = 2 ^ b.floors.toNat - 2) := if_pos hv
    obtain ⟨f, d, r, p, e1, e2, e3, cs⟩ := b
    obtain ⟨⟨hf1, hf2⟩, -, -⟩ := hF
    simp only at hf1 hf2 hn HC
    simp only [BldD.agg]
    obtain ⟨F, rfl⟩ := Int.eq_ofNat_of_zero_le (by omega : 0 ≤ f)
    go_enter Try.func74, Try.ntmps74
    go_wp2_with fail
    refine (valid_any ⟨F, d, r, p, e1, e2, e3, cs⟩ A cap _ hn ((HC.out.below (by go_grown)).more (by simp; omega))).mono ?_
    rintro e w' ⟨rfl, hb1⟩
    obtain ⟨hc1, hf1'⟩ := bcell hb1
    have hz := hb1.size
    have hbel := Below.trans (by go_grown : Below w.heap.size w _) (hb1.mono (by simp; omega))
    have c0 : w'.cell? ⟨w.heap.size + 1, 0, none⟩ = some (.int .u32 0) := by rw [hc1 _ _ (by simp), World.cell?_alloc_at _ _ _ _ (by simp)]; rfl
    have c1 : w'.cell? ⟨w.heap.size + 1, 1, none⟩ = some (.int .u32 0) := by rw [hc1 _ _ (by simp), World.cell?_alloc_at _ _ _ _ (by simp)]; rfl
    go_wp2_with fail
    have hnum := hall_num F (by omega) (by omega)
    refine bodyPost_ret (v := .agg #[.int .u32 (((2 : Int) ^ F - 1) % 4294967296 / 2), .int .u32 (bits .andNot .u32 (((2 : Int) ^ F - 1) % 4294967296) 1)]) (by simp [results, Try.results74, go_sem, c0, c1]) rfl ?_
    refine ⟨ret_calls ?_ ?_, (hbel.setCell (by show w.heap.size ≤ w.heap.size + 1; omega) _).setCell (by show w.heap.size ≤ w.heap.size + 1; omega) _⟩
    · rw [hnum.1, H1.out]; rfl
    · rw [hnum.2, H2.out]; rfl
  · have H1 : Hid (hallUp b = 0) := if_neg hv
    have H2 : Hid (hallDown b = 0) := if_neg hv
    obtain ⟨f, d, r, p, e1, e2, e3, cs⟩ := b
    simp only at hn HC
    simp only [BldD.agg]
    obtain ⟨v, hw⟩ : ∃ v, v = validE ⟨f, d, r, p, e1, e2, e3, cs⟩ := ⟨_, rfl⟩
    rw [← hw] at hv
    have HW := Lib.hid hw
    clear hw
    go_enter Try.func74, Try.ntmps74
    go_wp2_with fail
    refine (valid_any ⟨f, d, r, p, e1, e2, e3, cs⟩ A cap _ hn ((HC.out.below (by go_grown)).more (by simp; omega))).mono ?_
    rw [← HW.out]
    rintro e w' ⟨rfl, hb1⟩
    obtain ⟨hc1, hf1'⟩ := bcell hb1
    have hbel := Below.trans (by go_grown : Below w.heap.size w _) (hb1.mono (by simp; omega))
    have c0 : w'.cell? ⟨w.heap.size + 1, 0, none⟩ = some (.int .u32 0) := by rw [hc1 _ _ (by simp), World.cell?_alloc_at _ _ _ _ (by simp)]; rfl
    have c1 : w'.cell? ⟨w.heap.size + 1, 1, none⟩ = some (.int .u32 0) := by rw [hc1 _ _ (by simp), World.cell?_alloc_at _ _ _ _ (by simp)]; rfl
    go_wp2_with fail
    refine bodyPost_ret (v := .agg #[.int .u32 0, .int .u32 0]) (by simp [results, Try.results74, go_sem, c0, c1]) rfl ?_
    refine ⟨ret_calls ?_ ?_, (hbel.setCell (by show w.heap.size ≤ w.heap.size + 1; omega) _).setCell (by show w.heap.size ≤ w.heap.size + 1; omega) _⟩
    · rw [H1.out]; rfl
    · rw [H2.out]; rfl
end Go.Proofs.Ytapkjknpoafhjaa
