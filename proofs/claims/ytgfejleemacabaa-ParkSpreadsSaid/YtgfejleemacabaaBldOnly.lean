/- The law's Building. No statement of the seat is proved here. -/
import Derived.Test.YtgfejleemacabaaSample
import Derived.Test.YtgfejleemacabaaRefValid
import Derived.Test.YtgfejleemacabaaBox
import Derived.Test.YtgfejleemacabaaSampleValid
namespace Go.Proofs.Ytgfejleemacabaa
open Go.RowKit

theorem CarsAt.set {w : World} {B : Nat} {A : Option Addr} {cs : List CarD} (h : CarsAt w B A cs) {p : Addr} (hp : ∀ a, A = some a → a.block ≠ p.block) (v : Value) : CarsAt (w.setCell p v) B A cs := by
  rcases h with h | ⟨b, off, hA, hb, h⟩
  · exact .inl h
  · exact .inr ⟨b, off, hA, hb, fun i hi j hj => (World.cell?_of_block (w := w) (Below.heap_setCell w p v b (hp _ hA))).trans (h i hi j hj)⟩

set_option maxRecDepth 100000 in
set_option maxHeartbeats 1000000 in
theorem building_any (n : Nat) (w : World) (hn : n < 256) :
    Calls Try.prog 7 #[.int .u8 n] w fun e w' => Below w.heap.size w w' ∧ ∃ A cap, e = .returned ((sampleD ((2 + n % 31 : Nat) : Int) (1 + n / 31 % 8)).agg A cap) ∧ CarsAt w' w'.heap.size A (sampleCars ((2 + n % 31 : Nat) : Int) (1 + n / 31 % 8)) := by
  have h1 : (n : Int).tmod 31 = ((n % 31 : Nat) : Int) := by rw [Int.tmod_eq_emod_of_nonneg (by omega)]; omega
  have h2 : (n : Int).tdiv 31 = ((n / 31 : Nat) : Int) := by rw [Int.tdiv_eq_ediv_of_nonneg (by omega)]; omega
  have h3 : ((n / 31 : Nat) : Int).tmod 8 = ((n / 31 % 8 : Nat) : Int) := by rw [Int.tmod_eq_emod_of_nonneg (by omega)]; omega
  obtain ⟨a, ha⟩ : ∃ a, a = n % 31 := ⟨_, rfl⟩
  obtain ⟨q, hq⟩ : ∃ q, q = n / 31 := ⟨_, rfl⟩
  have hq8 : q ≤ 8 := by omega
  rw [← ha] at h1
  rw [← hq] at h2 h3
  rw [← ha, ← hq]
  obtain ⟨c, hc⟩ : ∃ c, c = q % 8 := ⟨_, rfl⟩
  rw [← hc] at h3 ⊢
  have ha31 : a < 31 := by omega
  have hc8 : c < 8 := by omega
  clear ha hq hc
  have hw1 : IntKind.u8.wrap (a : Int) = (a : Int) := by rw [IntKind.wrap_u8]; omega
  have hw2 : IntKind.u8.wrap (q : Int) = (q : Int) := by rw [IntKind.wrap_u8]; omega
  have hw3 : IntKind.u8.wrap (c : Int) = (c : Int) := by rw [IntKind.wrap_u8]; omega
  go_enter Try.func7, Try.ntmps7
  go_wp2_with fail
  rw [show (1 + (c : Int)) = ((1 + c : Nat) : Int) from by omega, show (2 + (a : Int)) = ((2 + a : Nat) : Int) from by omega]
  refine (sample_any ((2 + a : Nat) : Int) (1 + c) _ (by omega) (by omega) (by omega)).mono ?_
  generalize hF : ((2 + a : Nat) : Int) = F
  generalize hC : 1 + c = C
  have HFF := Lib.hid hF
  have HCC := Lib.hid hC
  clear hF hC h1 h2 h3 hw1 hw2 hw3
  rintro e w1 ⟨A, cap, rfl, hcars, hb1, hA⟩
  have hl := sampleCars_length F C
  have hr1 : w1.heap[w.heap.size]? = some (.cells #[.int .i64 0, .int .i64 0, .int .i64 0, .int .i64 0, .float .f64 0, .float .f64 0, .float .f64 0, .slice none 0 0] 25 (0, 0)) := (hb1.block _ (by simp)).trans (heap_alloc_new w _)
  have hbw1 : Below w.heap.size w w1 := ((Below.refl _ _).alloc (Nat.le_refl _) _).trans (hb1.mono (by simp))
  have hA' : ∀ x, A = some x → x.block ≠ w.heap.size := fun x hx => by have := hA x hx; simp at this; omega
  have y0 : w1.cell? ⟨w.heap.size, 0, none⟩ = some (.int .i64 0) := cell_of_row _ _ _ _ _ (0, 0) hr1
  have z0 : w1.frozen? ⟨w.heap.size, 0, none⟩ = false := by simp [World.frozen?, hr1]
  have y1 : w1.cell? ⟨w.heap.size, 1, none⟩ = some (.int .i64 0) := cell_of_row _ _ _ _ _ (0, 0) hr1
  have z1 : w1.frozen? ⟨w.heap.size, 1, none⟩ = false := by simp [World.frozen?, hr1]
  have y2 : w1.cell? ⟨w.heap.size, 2, none⟩ = some (.int .i64 0) := cell_of_row _ _ _ _ _ (0, 0) hr1
  have z2 : w1.frozen? ⟨w.heap.size, 2, none⟩ = false := by simp [World.frozen?, hr1]
  have y3 : w1.cell? ⟨w.heap.size, 3, none⟩ = some (.int .i64 0) := cell_of_row _ _ _ _ _ (0, 0) hr1
  have z3 : w1.frozen? ⟨w.heap.size, 3, none⟩ = false := by simp [World.frozen?, hr1]
  have y4 : w1.cell? ⟨w.heap.size, 4, none⟩ = some (.float .f64 0) := cell_of_row _ _ _ _ _ (0, 0) hr1
  have z4 : w1.frozen? ⟨w.heap.size, 4, none⟩ = false := by simp [World.frozen?, hr1]
  have y5 : w1.cell? ⟨w.heap.size, 5, none⟩ = some (.float .f64 0) := cell_of_row _ _ _ _ _ (0, 0) hr1
  have z5 : w1.frozen? ⟨w.heap.size, 5, none⟩ = false := by simp [World.frozen?, hr1]
  have y6 : w1.cell? ⟨w.heap.size, 6, none⟩ = some (.float .f64 0) := cell_of_row _ _ _ _ _ (0, 0) hr1
  have z6 : w1.frozen? ⟨w.heap.size, 6, none⟩ = false := by simp [World.frozen?, hr1]
  have y7 : w1.cell? ⟨w.heap.size, 7, none⟩ = some (.slice none 0 0) := cell_of_row _ _ _ _ _ (0, 0) hr1
  have z7 : w1.frozen? ⟨w.heap.size, 7, none⟩ = false := by simp [World.frozen?, hr1]
  have HB := Lib.hid hbw1
  have HCA := Lib.hid hcars
  have HA := Lib.hid hA'
  clear hb1 hbw1 hcars hA hA' hr1
  simp only [BldD.agg, sampleD, hl]
  go_wp2_with fail
  refine bodyPost_ret (v := .agg #[.int .i64 F, .int .i64 1, .int .i64 4000, .int .i64 30, .float .f64 4591870180066957722, .float .f64 4605380978949069210, .float .f64 4607632778762754458, .slice A C cap]) (by simp [results, Try.results7, go_sem, y0, y1, y2, y3, y4, y5, y6, y7]) rfl ?_
  rw [HFF.out, HCC.out]
  refine ⟨HB.out.trans (by go_grown), A, cap, by simp only [BldD.agg, sampleD, sampleCars_length], ?_⟩
  have hs : ∀ (W : World) (p : Addr) (v : Value), (W.setCell p v).heap.size = W.heap.size := fun W p v => by simp [World.setCell]
  simp only [hs]
  exact (((((((HCA.out.set HA.out _).set HA.out _).set HA.out _).set HA.out _).set HA.out _).set HA.out _).set HA.out _).set HA.out _

end Go.Proofs.Ytgfejleemacabaa
