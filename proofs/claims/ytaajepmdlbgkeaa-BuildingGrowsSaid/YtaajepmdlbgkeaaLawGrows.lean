/- The law BuildingGrows: no bound becomes smaller when times, floors or cars are added. No condition. -/
import Derived.Test.YtaajepmdlbgkeaaGrowsFacts
import Derived.Test.YtaajepmdlbgkeaaOpen
import Derived.Test.YtaajepmdlbgkeaaBox
namespace Go.Proofs.Ytaajepmdlbgkeaa
open Go.RowKit Go.ChangeShapes Go.WideShapes Go.ChangeAt

/-- What is owned stays owned where only new memory is made. -/
theorem own_below {w w' : World} {base : Nat} {e : TypeId} {size n : Nat} {v : Value} {xs : List Value} (h : w.ownsRow base e size v n xs) {B : Nat} (hb : Below B w w') (hB : ∀ k, v.ownBlock = some k → k < B) : w'.ownsRow base e size v n xs := by
  refine ⟨h.1, ?_⟩
  rcases h.2 with hn | ⟨g, cap, cur, rfl, hbs, hgg, rest⟩
  · exact .inl hn
  · exact .inr ⟨g, cap, cur, rfl, hbs, by rw [hb.block g (hB g rfl)]; exact hgg, rest⟩

theorem withCars_agg (F : Int) (cs : List CarD) (A : Option Addr) (cap n : Nat) (h : cs.length = n) : (withCars F cs).agg A cap = .agg #[.int .i64 F, .int .i64 1, .int .i64 4000, .int .i64 30, .float .f64 4591870180066957722, .float .f64 4605380978949069210, .float .f64 4607632778762754458, .slice A n cap] := by
  subst h; rfl

section
variable {W : World} {F : Int} {cs : List CarD} {A : Option Addr} {n cap : Nat} (hlen : cs.length = n) (h8 : n ≤ 8) (hv : validE (withCars F cs) = 0) (hcar : CarsAt W W.heap.size A cs)
include hlen h8 hv hcar
theorem tail_valid : Calls Try.prog 8 #[.agg #[.int .i64 F, .int .i64 1, .int .i64 4000, .int .i64 30, .float .f64 4591870180066957722, .float .f64 4605380978949069210, .float .f64 4607632778762754458, .slice A n cap]] W fun e w' => e = .returned (.int .i64 0) ∧ Below W.heap.size W w' := by
  have h := valid_any (withCars F cs) A cap W (by show cs.length ≤ _; omega) hcar
  rw [hv, withCars_agg F cs A cap n hlen] at h
  exact h
theorem tail_bound {S : Int} (hS : S = boundF (withCars F cs)) : Calls Try.prog 17 #[.agg #[.int .i64 F, .int .i64 1, .int .i64 4000, .int .i64 30, .float .f64 4591870180066957722, .float .f64 4605380978949069210, .float .f64 4607632778762754458, .slice A n cap]] W fun e w' => e = .returned (.int .i64 S) ∧ Below W.heap.size W w' := by
  have _ := hv
  have h := bound_any (withCars F cs) A cap W (by show cs.length ≤ _; omega) hcar
  rw [← hS, withCars_agg F cs A cap n hlen] at h
  exact h
end

theorem flatCars_set_one (cs : List CarD) (i j : Nat) (z : Int) (c' : CarD) (h : i < cs.length) (hj : j < 9) (hc : ∀ k, k < 9 → k ≠ j → c'.vals.getD k 0 = cs[i].vals.getD k 0) (hz : c'.vals.getD j 0 = z) :
    flatCars (cs.set i c') = (flatCars cs).set (i * 9 + j) (.int .i64 z) := by
  apply List.ext_getElem?
  intro q
  have hl : (cs.set i c').length = cs.length := List.length_set
  rcases Nat.lt_or_ge q (cs.length * 9) with hq | hq
  · obtain ⟨a, b, rfl, hb, ha⟩ : ∃ a b, q = a * 9 + b ∧ b < 9 ∧ a < cs.length := ⟨q / 9, q % 9, by omega, by omega, by omega⟩
    rw [flatCars_at (cs.set i c') a (by omega) b hb, List.getElem?_set, flatCars_length, flatCars_at cs a ha b hb]
    have g1 : cs.getD a default = cs[a] := by simp [List.getD, ha]
    rw [g1]
    by_cases hai : i = a
    · subst hai
      have g2 : (cs.set i c').getD i default = c' := by simp [List.getD, ha]
      rw [g2]
      by_cases hbj : j = b
      · subst hbj
        rw [if_pos rfl, if_pos (by omega), hz]
      · rw [if_neg (by omega), hc b hb (Ne.symm hbj)]
    · have g2 : (cs.set i c').getD a default = cs[a] := by simp [List.getD, ha, hai]
      rw [g2, if_neg (by omega)]
  · rw [List.getElem?_eq_none (by rw [flatCars_length, hl]; omega), List.getElem?_eq_none (by rw [List.length_set, flatCars_length]; omega)]

theorem withCars_le {F F' : Int} {cs cs' : List CarD} (hv : validE (withCars F cs) = 0) (hv' : validE (withCars F' cs') = 0) (hF : F ≤ F') (hl : cs.length ≤ cs'.length)
    (hc : ∀ k (hk : k < cs.length) (hk' : k < cs'.length), CarLe cs[k] cs'[k]) : 0 < boundF (withCars F cs) ∧ boundF (withCars F cs) ≤ boundF (withCars F' cs') :=
  boundF_le hv hv' hF hl hc

set_option maxHeartbeats 2000000 in
theorem lawGrows_walk (a c x0 x1 x2 : Int) (w : World) (ha : 0 ≤ a ∧ a ≤ 255) (hcc : 0 ≤ c ∧ c ≤ 255) (h0 : 0 ≤ x0 ∧ x0 ≤ 255) (h1 : 0 ≤ x1 ∧ x1 ≤ 255) (h2 : 0 ≤ x2 ∧ x2 ≤ 255) :
    Calls Try.prog 7 #[.int .u8 a, .int .u8 c, .agg #[.int .u8 x0, .int .u8 x1, .int .u8 x2]] w fun e w' => e = .returned (.bool true) ∧ Below w.heap.size w w' := by
  obtain ⟨ha1, ha2⟩ := ha
  obtain ⟨hc1, hc2⟩ := hcc
  obtain ⟨h01, h02⟩ := h0
  obtain ⟨h11, h12⟩ := h1
  obtain ⟨h21, h22⟩ := h2
  go_enter Try.func7, Try.ntmps7
  go_wp2_with fail
  obtain ⟨F, hF, hF1, hF2⟩ : ∃ F, 2 + a % 30 = F ∧ 2 ≤ F ∧ F ≤ 31 := ⟨_, rfl, by omega, by omega⟩
  obtain ⟨n, hN, hn1, hn2⟩ : ∃ n : Nat, 1 + c % 7 = (n : Int) ∧ 1 ≤ n ∧ n ≤ 7 := ⟨(1 + c % 7).toNat, by omega, by omega, by omega⟩
  rw [hF, hN]
  have HF := Lib.hid hF
  have HN := Lib.hid hN
  clear hF hN
  refine (sample_own F n _ (by omega) (by omega) (by omega)).mono ?_
  rintro e w1 ⟨A, cap, rfl, hown, hb1⟩
  obtain ⟨g, cap', hA, hg1, hg2⟩ := hown.form (by omega)
  obtain ⟨rfl, rfl⟩ : A = some ⟨g, 0, none⟩ ∧ cap = cap' := by injection hA with e1 _ e2; exact ⟨e1, e2⟩
  clear hA
  simp only [BldD.agg, sampleD, sampleCars_length]
  have hV0 := sample_valid F n hF1 (by omega) (by omega) (by omega)
  obtain ⟨S, hS⟩ : ∃ S, S = boundF (sampleD F n) := ⟨_, rfl⟩
  have HS := Lib.hid hS
  have HV0 := Lib.hid hV0
  clear hS hV0
  have HO1 := Lib.hid hown
  have hcars : CarsAt w1 w1.heap.size (some ⟨g, 0, none⟩) (sampleCars F n) := CarsAt.of_own (e := 34) (base := (w.alloc (.cells #[.int .u8 x0, .int .u8 x1, .int .u8 x2] 50)).heap.size + 2) (cap := cap) (by rw [sampleCars_length]; exact hown)
  have HC1 := Lib.hid hcars
  clear hown hcars
  go_wp2_with fail
  have hb := fun W (h : CarsAt W W.heap.size (some ⟨g, 0, none⟩) (sampleCars F n)) => bound_any (sampleD F n) (some ⟨g, 0, none⟩) cap W (by simp [sampleD, sampleCars_length]; omega) h
  rw [← HS.out] at hb
  simp only [BldD.agg, sampleD, sampleCars_length] at hb
  refine (hb _ ((HC1.out.below (by go_grown)).more (by simp))).mono ?_
  clear hb
  rintro e w3 ⟨rfl, hb3⟩
  have hsz1 := hb1.size
  simp at hsz1
  have hx : Below (w1.heap.size + 1) (w1.alloc (.cells #[.int .i64 F, .int .i64 1, .int .i64 4000, .int .i64 30, .float .f64 4591870180066957722, .float .f64 4605380978949069210, .float .f64 4607632778762754458, .slice (some ⟨g, 0, none⟩) n cap] 25)) w3 := hb3.mono (by simp)
  have HO3 := Lib.hid (own_below (HO1.out.alloc (.cells #[.int .i64 F, .int .i64 1, .int .i64 4000, .int .i64 30, .float .f64 4591870180066957722, .float .f64 4605380978949069210, .float .f64 4607632778762754458, .slice (some ⟨g, 0, none⟩) n cap] 25)) hx (fun k hk => by have := (HO1.out.lt k hk).2; omega))
  clear hb3
  have g7 : w3.cell? ⟨w1.heap.size, 7, none⟩ = some (.slice (some ⟨g, 0, none⟩) n cap) := cell_new_below hx 7
  have hx5 : Below (w.heap.size + 1) (w.alloc (.cells #[.int .u8 x0, .int .u8 x1, .int .u8 x2] 50)) w3 := (hb1.mono (by simp)).trans ((below_of_new hx).mono (by omega))
  have p0 : w3.cell? ⟨w.heap.size, 0, none⟩ = some (.int .u8 x0) := cell_new_below hx5 0
  have p1 : w3.cell? ⟨w.heap.size, 1, none⟩ = some (.int .u8 x1) := cell_new_below hx5 1
  have p2 : w3.cell? ⟨w.heap.size, 2, none⟩ = some (.int .u8 x2) := cell_new_below hx5 2
  obtain ⟨i, hi1, hi2, hin⟩ : ∃ i : Nat, x0 % (n : Int) = (i : Int) ∧ x0.tmod (n : Int) = (i : Int) ∧ i < n := by
    have e1 := Int.emod_nonneg x0 (by omega : (n : Int) ≠ 0)
    have e2 := Int.emod_lt_of_pos x0 (by omega : (0 : Int) < n)
    refine ⟨(x0 % (n : Int)).toNat, by omega, ?_, by omega⟩
    rw [Int.tmod_eq_emod_of_nonneg h01]; omega
  have hn0 : ¬ (n : Int) = 0 := by omega
  have hin' : (i : Int) < (n : Int) := by omega
  have hi0 : (0 : Int) ≤ (i : Int) := by omega
  go_wp2_with fail
  go_quiet (fail)
  generalize hw4 : w3.drewN nq = w4
  have hx4 : Below (w1.heap.size + 1) (w1.alloc (.cells #[.int .i64 F, .int .i64 1, .int .i64 4000, .int .i64 30, .float .f64 4591870180066957722, .float .f64 4605380978949069210, .float .f64 4607632778762754458, .slice (some ⟨g, 0, none⟩) n cap] 25)) w4 := by rw [← hw4]; exact ⟨hx.os, hx.tape, hx.output, hx.size, hx.block⟩
  have HO4 : Hid (w4.ownsRow ((w.alloc (.cells #[.int .u8 x0, .int .u8 x1, .int .u8 x2] 50)).heap.size + 2) 34 9 (.slice (some ⟨g, 0, none⟩) n cap) n (flatCars (sampleCars F n))) := by rw [← hw4]; exact HO3.out
  clear g7 p0 p1 p2 hx5 HO3 hx hw4 hi1 hi2
  have g7 : w4.cell? ⟨w1.heap.size, 7, none⟩ = some (.slice (some ⟨g, 0, none⟩) n cap) := cell_new_below hx4 7
  have g0 : w4.cell? ⟨w1.heap.size, 0, none⟩ = some (.int .i64 F) := cell_new_below hx4 0
  have g1 : w4.cell? ⟨w1.heap.size, 1, none⟩ = some (.int .i64 1) := cell_new_below hx4 1
  have g2 : w4.cell? ⟨w1.heap.size, 2, none⟩ = some (.int .i64 4000) := cell_new_below hx4 2
  have g3 : w4.cell? ⟨w1.heap.size, 3, none⟩ = some (.int .i64 30) := cell_new_below hx4 3
  have g4 : w4.cell? ⟨w1.heap.size, 4, none⟩ = some (.float .f64 4591870180066957722) := cell_new_below hx4 4
  have g5 : w4.cell? ⟨w1.heap.size, 5, none⟩ = some (.float .f64 4605380978949069210) := cell_new_below hx4 5
  have g6 : w4.cell? ⟨w1.heap.size, 6, none⟩ = some (.float .f64 4607632778762754458) := cell_new_below hx4 6
  have hx5 : Below (w.heap.size + 1) (w.alloc (.cells #[.int .u8 x0, .int .u8 x1, .int .u8 x2] 50)) w4 := (hb1.mono (by simp)).trans ((below_of_new hx4).mono (by omega))
  have p1 : w4.cell? ⟨w.heap.size, 1, none⟩ = some (.int .u8 x1) := cell_new_below hx5 1
  have p2 : w4.cell? ⟨w.heap.size, 2, none⟩ = some (.int .u8 x2) := cell_new_below hx5 2
  have hz4 : w1.heap.size + 1 ≤ w4.heap.size := box_size hx4
  have hcar_i : (sampleCars F n).getD i default = sampleCar F i := by
    have : i < (sampleCars F n).length := by rw [sampleCars_length]; exact hin
    rw [List.getD_eq_getElem?_getD, List.getElem?_eq_getElem this, sampleCars_at]; rfl
  have hj : x1 % 6 = 0 ∨ x1 % 6 = 1 ∨ x1 % 6 = 2 ∨ x1 % 6 = 3 ∨ x1 % 6 = 4 ∨ x1 % 6 = 5 := by omega
  rcases hj with h6 | h6 | h6 | h6 | h6 | h6
  · have hr : w4.cell? ⟨g, i * 9 + 4, none⟩ = some (.int .i64 4) := by
      have e2 := HO4.out.cellAt (i * 9 + 4) (by omega)
      have e1 := flatCars_at (sampleCars F n) i (by rw [sampleCars_length]; exact hin) 4 (by omega)
      rw [e1, hcar_i] at e2
      simpa [sampleCar, CarD.vals] using e2
    have hq : w4.frozen? ⟨g, i * 9 + 4, none⟩ = false := HO4.out.frozenAt (i * 9 + 4)
    have hw1 : IntKind.i64.wrap x2 = x2 := IntWalk.i64_in _ (by omega)
    have hw2 : IntKind.i64.wrap (4 + x2) = 4 + x2 := IntWalk.i64_in _ (by omega)
    go_wp2_with fail
    go_still_tail 11, (by kernel_rfl)
    change wpList _ _ _ _ _ w4.drew
    go_wp2_with fail
    have hst := (HO4.out.stored (i * 9 + 4) (.int .i64 (4 + x2))).1.drew
    generalize hW : (w4.setCell ⟨g, i * 9 + 4, none⟩ (.int .i64 (4 + x2))).drew = W5
    have hil : i < (sampleCars F n).length := by rw [sampleCars_length]; exact hin
    have hgi : (sampleCars F n)[i] = sampleCar F i := sampleCars_at F n i hil
    have hlen : ((sampleCars F n).set i { sampleCar F i with step := 4 + x2 }).length = n := by rw [List.length_set, sampleCars_length]
    have hfl : flatCars ((sampleCars F n).set i { sampleCar F i with step := 4 + x2 }) = (flatCars (sampleCars F n)).set (i * 9 + 4) (.int .i64 (4 + x2)) :=
      flatCars_set_one _ i 4 _ _ hil (by omega) (by rw [hgi]; intro q h1 h2; match q, h1, h2 with | 0, _, _ => (first | rfl | omega) | 1, _, _ => (first | rfl | omega) | 2, _, _ => rfl | 3, _, _ => rfl | 4, _, _ => (first | rfl | omega) | 5, _, _ => (first | rfl | omega) | 6, _, _ => rfl | 7, _, _ => (first | rfl | omega) | 8, _, _ => rfl) rfl
    have hcar : CarsAt W5 W5.heap.size (some ⟨g, 0, none⟩) ((sampleCars F n).set i { sampleCar F i with step := 4 + x2 }) := by
      rw [← hW]
      refine CarsAt.of_own (e := 34) (base := (w.alloc (.cells #[.int .u8 x0, .int .u8 x1, .int .u8 x2] 50)).heap.size + 2) (cap := cap) ?_
      rw [hlen, hfl]
      exact hst
    have hbox : W5.heap[w1.heap.size]? = some (.cells #[.int .i64 F, .int .i64 1, .int .i64 4000, .int .i64 30, .float .f64 4591870180066957722, .float .f64 4605380978949069210, .float .f64 4607632778762754458, .slice (some ⟨g, 0, none⟩) n cap] 25 (0, 0)) := by
      rw [← hW]
      show (World.setCell w4 _ _).heap[w1.heap.size]? = _
      rw [Below.heap_setCell _ _ _ _ (by show w1.heap.size ≠ g; omega)]
      exact (hx4.block _ (Nat.lt_succ_self _)).trans (heap_alloc_new _ _)
    have hg3 : w.heap.size ≤ g := by simp at hg1; omega
    have hbel : Below w.heap.size w W5 := by rw [← hW]; exact ((below_of_new hx5).setCell hg3 _).drew
    have hlt : w1.heap.size < W5.heap.size := by rw [← hW]; simp; exact hz4
    have h8 : n ≤ 8 := by omega
    have hfit : ∀ k (hk : k < ((sampleCars F n).set i { sampleCar F i with step := 4 + x2 }).length), carFitsB F ((sampleCars F n).set i { sampleCar F i with step := 4 + x2 })[k] = true := by
      intro k hk
      rw [List.getElem_set]
      split
      · have e1 := Int.emod_nonneg (i : Int) (by omega : F ≠ 0)
        have e2 := Int.emod_lt_of_pos (i : Int) (by omega : 0 < F)
        clear hw1 hw2
        simp [carFitsB, sampleCar, inAll]; first | omega | exact ⟨by omega, decide_eq_true (by show (3 : Int) ≤ 10 + x2; omega), by omega, by omega⟩
      · rw [sampleCars_at]; exact carFits_sample F k hF1
    have hv := withCars_valid F _ hF1 (by omega) (by rw [hlen]; omega) (by rw [hlen]; omega) hfit
    obtain ⟨T, hT⟩ : ∃ T, T = boundF (withCars F ((sampleCars F n).set i { sampleCar F i with step := 4 + x2 })) := ⟨_, rfl⟩
    have hle : 0 < S ∧ S ≤ T := by
      rw [HS.out, hT]
      refine withCars_le (cs := sampleCars F n) HV0.out hv (Int.le_refl _) (by rw [hlen, sampleCars_length]; omega) fun k hk hk' => ?_
      rw [List.getElem_set]
      split
      · rename_i hik; subst hik; rw [hgi]; simp [CarLe, sampleCar]; try omega
      · exact CarLe.refl _
    obtain ⟨hS1, hS2⟩ := hle
    have HT := Lib.hid hT
    clear hT hW hst hfl hfit hr hq
    go_at_call 8
    refine (tail_valid (F := F) (cs := ((sampleCars F n).set i { sampleCar F i with step := 4 + x2 })) hlen h8 hv hcar).mono ?_
    rintro e w6 ⟨rfl, hb6⟩
    have hbox6 := (hb6.block _ hlt).trans hbox
    have hcar6 := (hcar.below hb6).more hb6.size
    clear g0 g1 g2 g3 g4 g5 g6 g7
    have c0 : w6.cell? ⟨w1.heap.size, 0, none⟩ = some (.int .i64 F) := cell_of_row _ _ _ _ _ (0, 0) hbox6
    have c1 : w6.cell? ⟨w1.heap.size, 1, none⟩ = some (.int .i64 1) := cell_of_row _ _ _ _ _ (0, 0) hbox6
    have c2 : w6.cell? ⟨w1.heap.size, 2, none⟩ = some (.int .i64 4000) := cell_of_row _ _ _ _ _ (0, 0) hbox6
    have c3 : w6.cell? ⟨w1.heap.size, 3, none⟩ = some (.int .i64 30) := cell_of_row _ _ _ _ _ (0, 0) hbox6
    have c4 : w6.cell? ⟨w1.heap.size, 4, none⟩ = some (.float .f64 4591870180066957722) := cell_of_row _ _ _ _ _ (0, 0) hbox6
    have c5 : w6.cell? ⟨w1.heap.size, 5, none⟩ = some (.float .f64 4605380978949069210) := cell_of_row _ _ _ _ _ (0, 0) hbox6
    have c6 : w6.cell? ⟨w1.heap.size, 6, none⟩ = some (.float .f64 4607632778762754458) := cell_of_row _ _ _ _ _ (0, 0) hbox6
    have c7 : w6.cell? ⟨w1.heap.size, 7, none⟩ = some (.slice (some ⟨g, 0, none⟩) n cap) := cell_of_row _ _ _ _ _ (0, 0) hbox6
    go_wp2_with fail
    refine (tail_bound (F := F) (cs := ((sampleCars F n).set i { sampleCar F i with step := 4 + x2 })) hlen h8 hv hcar6 HT.out).mono ?_
    rintro e w7 ⟨rfl, hb7⟩
    go_wp2_with fail
    refine (sane_any _).mono ?_
    rintro e w8 ⟨rfl, hb8⟩
    go_wp2
    go_ret
    have s5 := hbel.size
    have s6 := hb6.size
    have s7 := hb7.size
    exact ⟨rfl, ((hbel.trans (hb6.mono (by omega))).trans (hb7.mono (by omega))).trans (hb8.mono (by omega))⟩
  · have hr : w4.cell? ⟨g, i * 9 + 5, none⟩ = some (.int .i64 2) := by
      have e2 := HO4.out.cellAt (i * 9 + 5) (by omega)
      have e1 := flatCars_at (sampleCars F n) i (by rw [sampleCars_length]; exact hin) 5 (by omega)
      rw [e1, hcar_i] at e2
      simpa [sampleCar, CarD.vals] using e2
    have hq : w4.frozen? ⟨g, i * 9 + 5, none⟩ = false := HO4.out.frozenAt (i * 9 + 5)
    have hw1 : IntKind.i64.wrap x2 = x2 := IntWalk.i64_in _ (by omega)
    have hw2 : IntKind.i64.wrap (2 + x2) = 2 + x2 := IntWalk.i64_in _ (by omega)
    go_wp2_with fail
    go_still_tail 11, (by kernel_rfl)
    change wpList _ _ _ _ _ w4.drew
    go_wp2_with fail
    have hst := (HO4.out.stored (i * 9 + 5) (.int .i64 (2 + x2))).1.drew
    generalize hW : (w4.setCell ⟨g, i * 9 + 5, none⟩ (.int .i64 (2 + x2))).drew = W5
    have hil : i < (sampleCars F n).length := by rw [sampleCars_length]; exact hin
    have hgi : (sampleCars F n)[i] = sampleCar F i := sampleCars_at F n i hil
    have hlen : ((sampleCars F n).set i { sampleCar F i with travel := 2 + x2 }).length = n := by rw [List.length_set, sampleCars_length]
    have hfl : flatCars ((sampleCars F n).set i { sampleCar F i with travel := 2 + x2 }) = (flatCars (sampleCars F n)).set (i * 9 + 5) (.int .i64 (2 + x2)) :=
      flatCars_set_one _ i 5 _ _ hil (by omega) (by rw [hgi]; intro q h1 h2; match q, h1, h2 with | 0, _, _ => (first | rfl | omega) | 1, _, _ => (first | rfl | omega) | 2, _, _ => rfl | 3, _, _ => rfl | 4, _, _ => (first | rfl | omega) | 5, _, _ => (first | rfl | omega) | 6, _, _ => rfl | 7, _, _ => (first | rfl | omega) | 8, _, _ => rfl) rfl
    have hcar : CarsAt W5 W5.heap.size (some ⟨g, 0, none⟩) ((sampleCars F n).set i { sampleCar F i with travel := 2 + x2 }) := by
      rw [← hW]
      refine CarsAt.of_own (e := 34) (base := (w.alloc (.cells #[.int .u8 x0, .int .u8 x1, .int .u8 x2] 50)).heap.size + 2) (cap := cap) ?_
      rw [hlen, hfl]
      exact hst
    have hbox : W5.heap[w1.heap.size]? = some (.cells #[.int .i64 F, .int .i64 1, .int .i64 4000, .int .i64 30, .float .f64 4591870180066957722, .float .f64 4605380978949069210, .float .f64 4607632778762754458, .slice (some ⟨g, 0, none⟩) n cap] 25 (0, 0)) := by
      rw [← hW]
      show (World.setCell w4 _ _).heap[w1.heap.size]? = _
      rw [Below.heap_setCell _ _ _ _ (by show w1.heap.size ≠ g; omega)]
      exact (hx4.block _ (Nat.lt_succ_self _)).trans (heap_alloc_new _ _)
    have hg3 : w.heap.size ≤ g := by simp at hg1; omega
    have hbel : Below w.heap.size w W5 := by rw [← hW]; exact ((below_of_new hx5).setCell hg3 _).drew
    have hlt : w1.heap.size < W5.heap.size := by rw [← hW]; simp; exact hz4
    have h8 : n ≤ 8 := by omega
    have hfit : ∀ k (hk : k < ((sampleCars F n).set i { sampleCar F i with travel := 2 + x2 }).length), carFitsB F ((sampleCars F n).set i { sampleCar F i with travel := 2 + x2 })[k] = true := by
      intro k hk
      rw [List.getElem_set]
      split
      · have e1 := Int.emod_nonneg (i : Int) (by omega : F ≠ 0)
        have e2 := Int.emod_lt_of_pos (i : Int) (by omega : 0 < F)
        clear hw1 hw2
        simp [carFitsB, sampleCar, inAll]; first | omega | exact ⟨by omega, decide_eq_true (by show (3 : Int) ≤ 10 + x2; omega), by omega, by omega⟩
      · rw [sampleCars_at]; exact carFits_sample F k hF1
    have hv := withCars_valid F _ hF1 (by omega) (by rw [hlen]; omega) (by rw [hlen]; omega) hfit
    obtain ⟨T, hT⟩ : ∃ T, T = boundF (withCars F ((sampleCars F n).set i { sampleCar F i with travel := 2 + x2 })) := ⟨_, rfl⟩
    have hle : 0 < S ∧ S ≤ T := by
      rw [HS.out, hT]
      refine withCars_le (cs := sampleCars F n) HV0.out hv (Int.le_refl _) (by rw [hlen, sampleCars_length]; omega) fun k hk hk' => ?_
      rw [List.getElem_set]
      split
      · rename_i hik; subst hik; rw [hgi]; simp [CarLe, sampleCar]; try omega
      · exact CarLe.refl _
    obtain ⟨hS1, hS2⟩ := hle
    have HT := Lib.hid hT
    clear hT hW hst hfl hfit hr hq
    go_at_call 8
    refine (tail_valid (F := F) (cs := ((sampleCars F n).set i { sampleCar F i with travel := 2 + x2 })) hlen h8 hv hcar).mono ?_
    rintro e w6 ⟨rfl, hb6⟩
    have hbox6 := (hb6.block _ hlt).trans hbox
    have hcar6 := (hcar.below hb6).more hb6.size
    clear g0 g1 g2 g3 g4 g5 g6 g7
    have c0 : w6.cell? ⟨w1.heap.size, 0, none⟩ = some (.int .i64 F) := cell_of_row _ _ _ _ _ (0, 0) hbox6
    have c1 : w6.cell? ⟨w1.heap.size, 1, none⟩ = some (.int .i64 1) := cell_of_row _ _ _ _ _ (0, 0) hbox6
    have c2 : w6.cell? ⟨w1.heap.size, 2, none⟩ = some (.int .i64 4000) := cell_of_row _ _ _ _ _ (0, 0) hbox6
    have c3 : w6.cell? ⟨w1.heap.size, 3, none⟩ = some (.int .i64 30) := cell_of_row _ _ _ _ _ (0, 0) hbox6
    have c4 : w6.cell? ⟨w1.heap.size, 4, none⟩ = some (.float .f64 4591870180066957722) := cell_of_row _ _ _ _ _ (0, 0) hbox6
    have c5 : w6.cell? ⟨w1.heap.size, 5, none⟩ = some (.float .f64 4605380978949069210) := cell_of_row _ _ _ _ _ (0, 0) hbox6
    have c6 : w6.cell? ⟨w1.heap.size, 6, none⟩ = some (.float .f64 4607632778762754458) := cell_of_row _ _ _ _ _ (0, 0) hbox6
    have c7 : w6.cell? ⟨w1.heap.size, 7, none⟩ = some (.slice (some ⟨g, 0, none⟩) n cap) := cell_of_row _ _ _ _ _ (0, 0) hbox6
    go_wp2_with fail
    refine (tail_bound (F := F) (cs := ((sampleCars F n).set i { sampleCar F i with travel := 2 + x2 })) hlen h8 hv hcar6 HT.out).mono ?_
    rintro e w7 ⟨rfl, hb7⟩
    go_wp2_with fail
    refine (sane_any _).mono ?_
    rintro e w8 ⟨rfl, hb8⟩
    go_wp2
    go_ret
    have s5 := hbel.size
    have s6 := hb6.size
    have s7 := hb7.size
    exact ⟨rfl, ((hbel.trans (hb6.mono (by omega))).trans (hb7.mono (by omega))).trans (hb8.mono (by omega))⟩
  · have hr : w4.cell? ⟨g, i * 9 + 7, none⟩ = some (.int .i64 10) := by
      have e2 := HO4.out.cellAt (i * 9 + 7) (by omega)
      have e1 := flatCars_at (sampleCars F n) i (by rw [sampleCars_length]; exact hin) 7 (by omega)
      rw [e1, hcar_i] at e2
      simpa [sampleCar, CarD.vals] using e2
    have hq : w4.frozen? ⟨g, i * 9 + 7, none⟩ = false := HO4.out.frozenAt (i * 9 + 7)
    have hw1 : IntKind.i64.wrap x2 = x2 := IntWalk.i64_in _ (by omega)
    have hw2 : IntKind.i64.wrap (10 + x2) = 10 + x2 := IntWalk.i64_in _ (by omega)
    go_wp2_with fail
    go_still_tail 11, (by kernel_rfl)
    change wpList _ _ _ _ _ w4.drew
    go_wp2_with fail
    have hst := (HO4.out.stored (i * 9 + 7) (.int .i64 (10 + x2))).1.drew
    generalize hW : (w4.setCell ⟨g, i * 9 + 7, none⟩ (.int .i64 (10 + x2))).drew = W5
    have hil : i < (sampleCars F n).length := by rw [sampleCars_length]; exact hin
    have hgi : (sampleCars F n)[i] = sampleCar F i := sampleCars_at F n i hil
    have hlen : ((sampleCars F n).set i { sampleCar F i with hold := 10 + x2 }).length = n := by rw [List.length_set, sampleCars_length]
    have hfl : flatCars ((sampleCars F n).set i { sampleCar F i with hold := 10 + x2 }) = (flatCars (sampleCars F n)).set (i * 9 + 7) (.int .i64 (10 + x2)) :=
      flatCars_set_one _ i 7 _ _ hil (by omega) (by rw [hgi]; intro q h1 h2; match q, h1, h2 with | 0, _, _ => (first | rfl | omega) | 1, _, _ => (first | rfl | omega) | 2, _, _ => rfl | 3, _, _ => rfl | 4, _, _ => (first | rfl | omega) | 5, _, _ => (first | rfl | omega) | 6, _, _ => rfl | 7, _, _ => (first | rfl | omega) | 8, _, _ => rfl) rfl
    have hcar : CarsAt W5 W5.heap.size (some ⟨g, 0, none⟩) ((sampleCars F n).set i { sampleCar F i with hold := 10 + x2 }) := by
      rw [← hW]
      refine CarsAt.of_own (e := 34) (base := (w.alloc (.cells #[.int .u8 x0, .int .u8 x1, .int .u8 x2] 50)).heap.size + 2) (cap := cap) ?_
      rw [hlen, hfl]
      exact hst
    have hbox : W5.heap[w1.heap.size]? = some (.cells #[.int .i64 F, .int .i64 1, .int .i64 4000, .int .i64 30, .float .f64 4591870180066957722, .float .f64 4605380978949069210, .float .f64 4607632778762754458, .slice (some ⟨g, 0, none⟩) n cap] 25 (0, 0)) := by
      rw [← hW]
      show (World.setCell w4 _ _).heap[w1.heap.size]? = _
      rw [Below.heap_setCell _ _ _ _ (by show w1.heap.size ≠ g; omega)]
      exact (hx4.block _ (Nat.lt_succ_self _)).trans (heap_alloc_new _ _)
    have hg3 : w.heap.size ≤ g := by simp at hg1; omega
    have hbel : Below w.heap.size w W5 := by rw [← hW]; exact ((below_of_new hx5).setCell hg3 _).drew
    have hlt : w1.heap.size < W5.heap.size := by rw [← hW]; simp; exact hz4
    have h8 : n ≤ 8 := by omega
    have hfit : ∀ k (hk : k < ((sampleCars F n).set i { sampleCar F i with hold := 10 + x2 }).length), carFitsB F ((sampleCars F n).set i { sampleCar F i with hold := 10 + x2 })[k] = true := by
      intro k hk
      rw [List.getElem_set]
      split
      · have e1 := Int.emod_nonneg (i : Int) (by omega : F ≠ 0)
        have e2 := Int.emod_lt_of_pos (i : Int) (by omega : 0 < F)
        clear hw1 hw2
        simp [carFitsB, sampleCar, inAll]; first | omega | exact ⟨by omega, decide_eq_true (by show (3 : Int) ≤ 10 + x2; omega), by omega, by omega⟩
      · rw [sampleCars_at]; exact carFits_sample F k hF1
    have hv := withCars_valid F _ hF1 (by omega) (by rw [hlen]; omega) (by rw [hlen]; omega) hfit
    obtain ⟨T, hT⟩ : ∃ T, T = boundF (withCars F ((sampleCars F n).set i { sampleCar F i with hold := 10 + x2 })) := ⟨_, rfl⟩
    have hle : 0 < S ∧ S ≤ T := by
      rw [HS.out, hT]
      refine withCars_le (cs := sampleCars F n) HV0.out hv (Int.le_refl _) (by rw [hlen, sampleCars_length]; omega) fun k hk hk' => ?_
      rw [List.getElem_set]
      split
      · rename_i hik; subst hik; rw [hgi]; simp [CarLe, sampleCar]; try omega
      · exact CarLe.refl _
    obtain ⟨hS1, hS2⟩ := hle
    have HT := Lib.hid hT
    clear hT hW hst hfl hfit hr hq
    go_at_call 8
    refine (tail_valid (F := F) (cs := ((sampleCars F n).set i { sampleCar F i with hold := 10 + x2 })) hlen h8 hv hcar).mono ?_
    rintro e w6 ⟨rfl, hb6⟩
    have hbox6 := (hb6.block _ hlt).trans hbox
    have hcar6 := (hcar.below hb6).more hb6.size
    clear g0 g1 g2 g3 g4 g5 g6 g7
    have c0 : w6.cell? ⟨w1.heap.size, 0, none⟩ = some (.int .i64 F) := cell_of_row _ _ _ _ _ (0, 0) hbox6
    have c1 : w6.cell? ⟨w1.heap.size, 1, none⟩ = some (.int .i64 1) := cell_of_row _ _ _ _ _ (0, 0) hbox6
    have c2 : w6.cell? ⟨w1.heap.size, 2, none⟩ = some (.int .i64 4000) := cell_of_row _ _ _ _ _ (0, 0) hbox6
    have c3 : w6.cell? ⟨w1.heap.size, 3, none⟩ = some (.int .i64 30) := cell_of_row _ _ _ _ _ (0, 0) hbox6
    have c4 : w6.cell? ⟨w1.heap.size, 4, none⟩ = some (.float .f64 4591870180066957722) := cell_of_row _ _ _ _ _ (0, 0) hbox6
    have c5 : w6.cell? ⟨w1.heap.size, 5, none⟩ = some (.float .f64 4605380978949069210) := cell_of_row _ _ _ _ _ (0, 0) hbox6
    have c6 : w6.cell? ⟨w1.heap.size, 6, none⟩ = some (.float .f64 4607632778762754458) := cell_of_row _ _ _ _ _ (0, 0) hbox6
    have c7 : w6.cell? ⟨w1.heap.size, 7, none⟩ = some (.slice (some ⟨g, 0, none⟩) n cap) := cell_of_row _ _ _ _ _ (0, 0) hbox6
    go_wp2_with fail
    refine (tail_bound (F := F) (cs := ((sampleCars F n).set i { sampleCar F i with hold := 10 + x2 })) hlen h8 hv hcar6 HT.out).mono ?_
    rintro e w7 ⟨rfl, hb7⟩
    go_wp2_with fail
    refine (sane_any _).mono ?_
    rintro e w8 ⟨rfl, hb8⟩
    go_wp2
    go_ret
    have s5 := hbel.size
    have s6 := hb6.size
    have s7 := hb7.size
    exact ⟨rfl, ((hbel.trans (hb6.mono (by omega))).trans (hb7.mono (by omega))).trans (hb8.mono (by omega))⟩
  · have hr : w4.cell? ⟨g, i * 9, none⟩ = some (.int .i64 100) := by
      have e2 := HO4.out.cellAt (i * 9 + 0) (by omega)
      have e1 := flatCars_at (sampleCars F n) i (by rw [sampleCars_length]; exact hin) 0 (by omega)
      rw [e1, hcar_i] at e2
      simpa [sampleCar, CarD.vals] using e2
    have hq : w4.frozen? ⟨g, i * 9, none⟩ = false := HO4.out.frozenAt (i * 9 + 0)
    have hw1 : IntKind.i64.wrap x2 = x2 := IntWalk.i64_in _ (by omega)
    have hw2 : IntKind.i64.wrap (20 * x2) = 20 * x2 := IntWalk.i64_in _ (by omega)
    have hw3 : IntKind.i64.wrap (100 + 20 * x2) = 100 + 20 * x2 := IntWalk.i64_in _ (by omega)
    go_wp2_with fail
    go_still_tail 12, (by kernel_rfl)
    change wpList _ _ _ _ _ w4.drew
    go_wp2_with fail
    have hst := (HO4.out.stored (i * 9 + 0) (.int .i64 (100 + 20 * x2))).1.drew
    generalize hW : (w4.setCell ⟨g, i * 9, none⟩ (.int .i64 (100 + 20 * x2))).drew = W5
    have hil : i < (sampleCars F n).length := by rw [sampleCars_length]; exact hin
    have hgi : (sampleCars F n)[i] = sampleCar F i := sampleCars_at F n i hil
    have hlen : ((sampleCars F n).set i { sampleCar F i with deadline := 100 + 20 * x2 }).length = n := by rw [List.length_set, sampleCars_length]
    have hfl : flatCars ((sampleCars F n).set i { sampleCar F i with deadline := 100 + 20 * x2 }) = (flatCars (sampleCars F n)).set (i * 9 + 0) (.int .i64 (100 + 20 * x2)) :=
      flatCars_set_one _ i 0 _ _ hil (by omega) (by rw [hgi]; intro q h1 h2; match q, h1, h2 with | 0, _, _ => (first | rfl | omega) | 1, _, _ => (first | rfl | omega) | 2, _, _ => rfl | 3, _, _ => rfl | 4, _, _ => (first | rfl | omega) | 5, _, _ => (first | rfl | omega) | 6, _, _ => rfl | 7, _, _ => (first | rfl | omega) | 8, _, _ => rfl) rfl
    have hcar : CarsAt W5 W5.heap.size (some ⟨g, 0, none⟩) ((sampleCars F n).set i { sampleCar F i with deadline := 100 + 20 * x2 }) := by
      rw [← hW]
      refine CarsAt.of_own (e := 34) (base := (w.alloc (.cells #[.int .u8 x0, .int .u8 x1, .int .u8 x2] 50)).heap.size + 2) (cap := cap) ?_
      rw [hlen, hfl]
      exact hst
    have hbox : W5.heap[w1.heap.size]? = some (.cells #[.int .i64 F, .int .i64 1, .int .i64 4000, .int .i64 30, .float .f64 4591870180066957722, .float .f64 4605380978949069210, .float .f64 4607632778762754458, .slice (some ⟨g, 0, none⟩) n cap] 25 (0, 0)) := by
      rw [← hW]
      show (World.setCell w4 _ _).heap[w1.heap.size]? = _
      rw [Below.heap_setCell _ _ _ _ (by show w1.heap.size ≠ g; omega)]
      exact (hx4.block _ (Nat.lt_succ_self _)).trans (heap_alloc_new _ _)
    have hg3 : w.heap.size ≤ g := by simp at hg1; omega
    have hbel : Below w.heap.size w W5 := by rw [← hW]; exact ((below_of_new hx5).setCell hg3 _).drew
    have hlt : w1.heap.size < W5.heap.size := by rw [← hW]; simp; exact hz4
    have h8 : n ≤ 8 := by omega
    have hfit : ∀ k (hk : k < ((sampleCars F n).set i { sampleCar F i with deadline := 100 + 20 * x2 }).length), carFitsB F ((sampleCars F n).set i { sampleCar F i with deadline := 100 + 20 * x2 })[k] = true := by
      intro k hk
      rw [List.getElem_set]
      split
      · have e1 := Int.emod_nonneg (i : Int) (by omega : F ≠ 0)
        have e2 := Int.emod_lt_of_pos (i : Int) (by omega : 0 < F)
        clear hw1 hw2
        simp [carFitsB, sampleCar, inAll]; first | omega | exact ⟨by omega, decide_eq_true (by show (3 : Int) ≤ 10 + x2; omega), by omega, by omega⟩
      · rw [sampleCars_at]; exact carFits_sample F k hF1
    have hv := withCars_valid F _ hF1 (by omega) (by rw [hlen]; omega) (by rw [hlen]; omega) hfit
    obtain ⟨T, hT⟩ : ∃ T, T = boundF (withCars F ((sampleCars F n).set i { sampleCar F i with deadline := 100 + 20 * x2 })) := ⟨_, rfl⟩
    have hle : 0 < S ∧ S ≤ T := by
      rw [HS.out, hT]
      refine withCars_le (cs := sampleCars F n) HV0.out hv (Int.le_refl _) (by rw [hlen, sampleCars_length]; omega) fun k hk hk' => ?_
      rw [List.getElem_set]
      split
      · rename_i hik; subst hik; rw [hgi]; simp [CarLe, sampleCar]; try omega
      · exact CarLe.refl _
    obtain ⟨hS1, hS2⟩ := hle
    have HT := Lib.hid hT
    clear hT hW hst hfl hfit hr hq
    go_at_call 8
    refine (tail_valid (F := F) (cs := ((sampleCars F n).set i { sampleCar F i with deadline := 100 + 20 * x2 })) hlen h8 hv hcar).mono ?_
    rintro e w6 ⟨rfl, hb6⟩
    have hbox6 := (hb6.block _ hlt).trans hbox
    have hcar6 := (hcar.below hb6).more hb6.size
    clear g0 g1 g2 g3 g4 g5 g6 g7
    have c0 : w6.cell? ⟨w1.heap.size, 0, none⟩ = some (.int .i64 F) := cell_of_row _ _ _ _ _ (0, 0) hbox6
    have c1 : w6.cell? ⟨w1.heap.size, 1, none⟩ = some (.int .i64 1) := cell_of_row _ _ _ _ _ (0, 0) hbox6
    have c2 : w6.cell? ⟨w1.heap.size, 2, none⟩ = some (.int .i64 4000) := cell_of_row _ _ _ _ _ (0, 0) hbox6
    have c3 : w6.cell? ⟨w1.heap.size, 3, none⟩ = some (.int .i64 30) := cell_of_row _ _ _ _ _ (0, 0) hbox6
    have c4 : w6.cell? ⟨w1.heap.size, 4, none⟩ = some (.float .f64 4591870180066957722) := cell_of_row _ _ _ _ _ (0, 0) hbox6
    have c5 : w6.cell? ⟨w1.heap.size, 5, none⟩ = some (.float .f64 4605380978949069210) := cell_of_row _ _ _ _ _ (0, 0) hbox6
    have c6 : w6.cell? ⟨w1.heap.size, 6, none⟩ = some (.float .f64 4607632778762754458) := cell_of_row _ _ _ _ _ (0, 0) hbox6
    have c7 : w6.cell? ⟨w1.heap.size, 7, none⟩ = some (.slice (some ⟨g, 0, none⟩) n cap) := cell_of_row _ _ _ _ _ (0, 0) hbox6
    go_wp2_with fail
    refine (tail_bound (F := F) (cs := ((sampleCars F n).set i { sampleCar F i with deadline := 100 + 20 * x2 })) hlen h8 hv hcar6 HT.out).mono ?_
    rintro e w7 ⟨rfl, hb7⟩
    go_wp2_with fail
    refine (sane_any _).mono ?_
    rintro e w8 ⟨rfl, hb8⟩
    go_wp2
    go_ret
    have s5 := hbel.size
    have s6 := hb6.size
    have s7 := hb7.size
    exact ⟨rfl, ((hbel.trans (hb6.mono (by omega))).trans (hb7.mono (by omega))).trans (hb8.mono (by omega))⟩
  · have hb4 : w4.heap[w1.heap.size]? = some (.cells #[.int .i64 F, .int .i64 1, .int .i64 4000, .int .i64 30, .float .f64 4591870180066957722, .float .f64 4605380978949069210, .float .f64 4607632778762754458, .slice (some ⟨g, 0, none⟩) n cap] 25 (0, 0)) := (hx4.block _ (Nat.lt_succ_self _)).trans (heap_alloc_new _ _)
    have hq : w4.frozen? ⟨w1.heap.size, 0, none⟩ = false := by simp [World.frozen?, hb4]
    have HB4 := Lib.hid hb4
    clear hb4
    go_wp2_with fail
    generalize hW : w4.setCell ⟨w1.heap.size, 0, none⟩ (.int .i64 (F + 1)) = W5
    have hlen : (sampleCars F n).length = n := sampleCars_length F n
    have hcar : CarsAt W5 W5.heap.size (some ⟨g, 0, none⟩) (sampleCars F n) := by
      rw [← hW]
      refine CarsAt.of_own (e := 34) (base := (w.alloc (.cells #[.int .u8 x0, .int .u8 x1, .int .u8 x2] 50)).heap.size + 2) (cap := cap) ?_
      rw [hlen]
      exact ownsRow_setCell_other HO4.out (by simp [Value.ownBlock]; omega) _
    have hbox : W5.heap[w1.heap.size]? = some (.cells #[.int .i64 (F + 1), .int .i64 1, .int .i64 4000, .int .i64 30, .float .f64 4591870180066957722, .float .f64 4605380978949069210, .float .f64 4607632778762754458, .slice (some ⟨g, 0, none⟩) n cap] 25 (0, 0)) := by
      rw [← hW]
      simp [World.setCell, Array.getElem?_modify, HB4.out]
    have hbel : Below w.heap.size w W5 := by rw [← hW]; exact (below_of_new hx5).setCell (by show w.heap.size ≤ w1.heap.size; omega) _
    have hlt : w1.heap.size < W5.heap.size := by rw [← hW]; simp; exact hz4
    have h8 : n ≤ 8 := by omega
    have hfit : ∀ k (hk : k < (sampleCars F n).length), carFitsB (F + 1) (sampleCars F n)[k] = true := by
      intro k hk
      rw [sampleCars_at]
      have e1 := Int.emod_nonneg (k : Int) (by omega : F ≠ 0)
      have e2 := Int.emod_lt_of_pos (k : Int) (by omega : 0 < F)
      simp [carFitsB, sampleCar, inAll]; omega
    have hv := withCars_valid (F + 1) _ (by omega) (by omega) (by rw [hlen]; omega) (by rw [hlen]; omega) hfit
    obtain ⟨T, hT⟩ : ∃ T, T = boundF (withCars (F + 1) (sampleCars F n)) := ⟨_, rfl⟩
    have hle : 0 < S ∧ S ≤ T := by
      rw [HS.out, hT]
      exact withCars_le (cs := sampleCars F n) HV0.out hv (by omega) (Nat.le_refl _) fun k _ _ => CarLe.refl _
    obtain ⟨hS1, hS2⟩ := hle
    have HT := Lib.hid hT
    clear hT hW hfit hq
    go_at_call 8
    refine (tail_valid (F := (F + 1)) (cs := (sampleCars F n)) hlen h8 hv hcar).mono ?_
    rintro e w6 ⟨rfl, hb6⟩
    have hbox6 := (hb6.block _ hlt).trans hbox
    have hcar6 := (hcar.below hb6).more hb6.size
    clear g0 g1 g2 g3 g4 g5 g6 g7
    have c0 : w6.cell? ⟨w1.heap.size, 0, none⟩ = some (.int .i64 (F + 1)) := cell_of_row _ _ _ _ _ (0, 0) hbox6
    have c1 : w6.cell? ⟨w1.heap.size, 1, none⟩ = some (.int .i64 1) := cell_of_row _ _ _ _ _ (0, 0) hbox6
    have c2 : w6.cell? ⟨w1.heap.size, 2, none⟩ = some (.int .i64 4000) := cell_of_row _ _ _ _ _ (0, 0) hbox6
    have c3 : w6.cell? ⟨w1.heap.size, 3, none⟩ = some (.int .i64 30) := cell_of_row _ _ _ _ _ (0, 0) hbox6
    have c4 : w6.cell? ⟨w1.heap.size, 4, none⟩ = some (.float .f64 4591870180066957722) := cell_of_row _ _ _ _ _ (0, 0) hbox6
    have c5 : w6.cell? ⟨w1.heap.size, 5, none⟩ = some (.float .f64 4605380978949069210) := cell_of_row _ _ _ _ _ (0, 0) hbox6
    have c6 : w6.cell? ⟨w1.heap.size, 6, none⟩ = some (.float .f64 4607632778762754458) := cell_of_row _ _ _ _ _ (0, 0) hbox6
    have c7 : w6.cell? ⟨w1.heap.size, 7, none⟩ = some (.slice (some ⟨g, 0, none⟩) n cap) := cell_of_row _ _ _ _ _ (0, 0) hbox6
    go_wp2_with fail
    refine (tail_bound (F := (F + 1)) (cs := (sampleCars F n)) hlen h8 hv hcar6 HT.out).mono ?_
    rintro e w7 ⟨rfl, hb7⟩
    go_wp2_with fail
    refine (sane_any _).mono ?_
    rintro e w8 ⟨rfl, hb8⟩
    go_wp2
    go_ret
    have s5 := hbel.size
    have s6 := hb6.size
    have s7 := hb7.size
    exact ⟨rfl, ((hbel.trans (hb6.mono (by omega))).trans (hb7.mono (by omega))).trans (hb8.mono (by omega))⟩
  · have hcar_0 : (sampleCars F n).getD 0 default = sampleCar F 0 := by
      have : 0 < (sampleCars F n).length := by rw [sampleCars_length]; omega
      rw [List.getD_eq_getElem?_getD, List.getElem?_eq_getElem this, sampleCars_at]; rfl
    obtain ⟨i0, hi0, hz0, hz1, hz2⟩ := info_parts carInfo
    have r0 : w4.cell? ⟨g, 0, none⟩ = some (.int .i64 100) := by
      have h := flatCars_at (sampleCars F n) 0 (by rw [sampleCars_length]; omega) 0 (by omega)
      rw [hcar_0] at h
      rw [HO4.out.cellAt 0 (by omega)]
      simpa [sampleCar, CarD.vals] using h
    have r1 : w4.cell? ⟨g, 1, none⟩ = some (.int .i64 2) := by
      have h := flatCars_at (sampleCars F n) 0 (by rw [sampleCars_length]; omega) 1 (by omega)
      rw [hcar_0] at h
      rw [HO4.out.cellAt 1 (by omega)]
      simpa [sampleCar, CarD.vals] using h
    have r2 : w4.cell? ⟨g, 2, none⟩ = some (.int .i64 6) := by
      have h := flatCars_at (sampleCars F n) 0 (by rw [sampleCars_length]; omega) 2 (by omega)
      rw [hcar_0] at h
      rw [HO4.out.cellAt 2 (by omega)]
      simpa [sampleCar, CarD.vals] using h
    have r3 : w4.cell? ⟨g, 3, none⟩ = some (.int .i64 5) := by
      have h := flatCars_at (sampleCars F n) 0 (by rw [sampleCars_length]; omega) 3 (by omega)
      rw [hcar_0] at h
      rw [HO4.out.cellAt 3 (by omega)]
      simpa [sampleCar, CarD.vals] using h
    have r4 : w4.cell? ⟨g, 4, none⟩ = some (.int .i64 4) := by
      have h := flatCars_at (sampleCars F n) 0 (by rw [sampleCars_length]; omega) 4 (by omega)
      rw [hcar_0] at h
      rw [HO4.out.cellAt 4 (by omega)]
      simpa [sampleCar, CarD.vals] using h
    have r5 : w4.cell? ⟨g, 5, none⟩ = some (.int .i64 2) := by
      have h := flatCars_at (sampleCars F n) 0 (by rw [sampleCars_length]; omega) 5 (by omega)
      rw [hcar_0] at h
      rw [HO4.out.cellAt 5 (by omega)]
      simpa [sampleCar, CarD.vals] using h
    have r6 : w4.cell? ⟨g, 6, none⟩ = some (.int .i64 3) := by
      have h := flatCars_at (sampleCars F n) 0 (by rw [sampleCars_length]; omega) 6 (by omega)
      rw [hcar_0] at h
      rw [HO4.out.cellAt 6 (by omega)]
      simpa [sampleCar, CarD.vals] using h
    have r7 : w4.cell? ⟨g, 7, none⟩ = some (.int .i64 10) := by
      have h := flatCars_at (sampleCars F n) 0 (by rw [sampleCars_length]; omega) 7 (by omega)
      rw [hcar_0] at h
      rw [HO4.out.cellAt 7 (by omega)]
      simpa [sampleCar, CarD.vals] using h
    have r8 : w4.cell? ⟨g, 8, none⟩ = some (.int .i64 0) := by
      have h := flatCars_at (sampleCars F n) 0 (by rw [sampleCars_length]; omega) 8 (by omega)
      rw [hcar_0] at h
      rw [HO4.out.cellAt 8 (by omega)]
      simpa [sampleCar, CarD.vals] using h
    have hb4 : w4.heap[w1.heap.size]? = some (.cells #[.int .i64 F, .int .i64 1, .int .i64 4000, .int .i64 30, .float .f64 4591870180066957722, .float .f64 4605380978949069210, .float .f64 4607632778762754458, .slice (some ⟨g, 0, none⟩) n cap] 25 (0, 0)) := (hx4.block _ (Nat.lt_succ_self _)).trans (heap_alloc_new _ _)
    have hq : w4.frozen? ⟨w1.heap.size, 7, none⟩ = false := by simp [World.frozen?, hb4]
    have HB4 := Lib.hid hb4
    clear hb4
    have hn01 : (0 : Int) < (n : Int) := by omega
    have hlt4 : w1.heap.size < w4.heap.size := by omega
    have hn02 : 0 < n := by omega
    have hne : (Value.slice (some ⟨g, 0, none⟩) n cap).ownBlock ≠ some w1.heap.size := by simp [Value.ownBlock]; omega
    have hgw : (w.alloc (.cells #[.int .u8 x0, .int .u8 x1, .int .u8 x2] 50)).heap.size + 2 ≤ g := hg1
    go_wp2_with fail
    go_region_law (refine step_append_lies _ rfl (.tmp 96) (.tmp 101) 23 rfl ((w.alloc (.cells #[.int .u8 x0, .int .u8 x1, .int .u8 x2] 50)).heap.size + 2) 34 i0 _ 9 72 Try.underlying23 hi0 hz0 hz1 hz2 rfl (by omega) (.slice (some ⟨g, 0, none⟩) n cap) n (flatCars (sampleCars F n)) rfl (HO4.out.drew.alloc _) ⟨w4.heap.size, 0, none⟩ 1 1 (sampleCar F 0).cells rfl rfl (World.news_of_block (fr := (0, 0)) (heap_alloc_new _ _)) (by intro u hu; simp [CarD.cells, CarD.vals, sampleCar] at hu; rcases hu with rfl | rfl | rfl | rfl | rfl | rfl | rfl | rfl | rfl <;> rfl) (by omega) (by unfold maxLen; omega) (by omega) (by simp; omega) (w4.heap.size + 1) (by simp) ?_; intro gn cap2 w5 hown5 hgrow hat hlt5; have hA := ((Below.refl w4.heap.size w4).alloc (Nat.le_refl _) (.cells #[.int .i64 100, .int .i64 2, .int .i64 6, .int .i64 5, .int .i64 4, .int .i64 2, .int .i64 3, .int .i64 10, .int .i64 0] 34)).drew; have hc5 : w5.cell? ⟨w1.heap.size, 7, none⟩ = some (.slice (some ⟨g, 0, none⟩) n cap) := (hgrow.cell_far ⟨w1.heap.size, 7, none⟩ (by simp; omega) (Ne.symm hne)).trans ((hA.cell (p := ⟨w1.heap.size, 7, none⟩) hlt4).trans g7); have hf5 : w5.frozen? ⟨w1.heap.size, 7, none⟩ = false := (hgrow.frozen_far ⟨w1.heap.size, 7, none⟩ (by simp; omega) (Ne.symm hne)).trans ((hA.frozen (p := ⟨w1.heap.size, 7, none⟩) hlt4).trans hq))
    all_goals
      have hb5 : w5.heap[w1.heap.size]? = some (.cells #[.int .i64 F, .int .i64 1, .int .i64 4000, .int .i64 30, .float .f64 4591870180066957722, .float .f64 4605380978949069210, .float .f64 4607632778762754458, .slice (some ⟨g, 0, none⟩) n cap] 25 (0, 0)) := (hgrow.block w1.heap.size (by simp; omega) (Ne.symm hne)).trans ((hA.block _ hlt4).trans HB4.out)
      clear g0 g1 g2 g3 g4 g5 g6 g7
      have g0 : w5.cell? ⟨w1.heap.size, 0, none⟩ = some (.int .i64 F) := cell_of_row _ _ _ _ _ (0, 0) hb5
      have g1 : w5.cell? ⟨w1.heap.size, 1, none⟩ = some (.int .i64 1) := cell_of_row _ _ _ _ _ (0, 0) hb5
      have g2 : w5.cell? ⟨w1.heap.size, 2, none⟩ = some (.int .i64 4000) := cell_of_row _ _ _ _ _ (0, 0) hb5
      have g3 : w5.cell? ⟨w1.heap.size, 3, none⟩ = some (.int .i64 30) := cell_of_row _ _ _ _ _ (0, 0) hb5
      have g4 : w5.cell? ⟨w1.heap.size, 4, none⟩ = some (.float .f64 4591870180066957722) := cell_of_row _ _ _ _ _ (0, 0) hb5
      have g5 : w5.cell? ⟨w1.heap.size, 5, none⟩ = some (.float .f64 4605380978949069210) := cell_of_row _ _ _ _ _ (0, 0) hb5
      have g6 : w5.cell? ⟨w1.heap.size, 6, none⟩ = some (.float .f64 4607632778762754458) := cell_of_row _ _ _ _ _ (0, 0) hb5
      have g7 : w5.cell? ⟨w1.heap.size, 7, none⟩ = some (.slice (some ⟨g, 0, none⟩) n cap) := cell_of_row _ _ _ _ _ (0, 0) hb5
      have HB5 := Lib.hid hb5
      clear hb5
      have hgne : gn ≠ w1.heap.size := by
        rcases hat with h | h
        · simp [Value.ownBlock] at h; omega
        · omega
      have hs5 := hgrow.size
      simp at hs5
      go_wp2_with fail
      generalize hW : w5.setCell ⟨w1.heap.size, 7, none⟩ (.slice (some ⟨gn, 0, none⟩) (n + 1) cap2) = W5
      have hlen : (sampleCars F n ++ [sampleCar F 0]).length = n + 1 := by rw [List.length_append, sampleCars_length]; rfl
      have hcar : CarsAt W5 W5.heap.size (some ⟨gn, 0, none⟩) (sampleCars F n ++ [sampleCar F 0]) := by
        rw [← hW]
        refine CarsAt.of_own (e := 34) (base := (w.alloc (.cells #[.int .u8 x0, .int .u8 x1, .int .u8 x2] 50)).heap.size + 2) (cap := cap2) ?_
        rw [hlen, flatCars_snoc]
        exact ownsRow_setCell_other hown5 (by simp [Value.ownBlock]; exact hgne) _
      have hbox : W5.heap[w1.heap.size]? = some (.cells #[.int .i64 F, .int .i64 1, .int .i64 4000, .int .i64 30, .float .f64 4591870180066957722, .float .f64 4605380978949069210, .float .f64 4607632778762754458, .slice (some ⟨gn, 0, none⟩) (n + 1) cap2] 25 (0, 0)) := by
        rw [← hW]
        simp [World.setCell, Array.getElem?_modify, HB5.out]
      have hgw2 : w.heap.size ≤ g := by simp at hgw; omega
      have hbel : Below w.heap.size w W5 := by
        rw [← hW]
        refine Below.setCell ?_ (by show w.heap.size ≤ w1.heap.size; omega) _
        refine Below.trans (below_of_new hx5) (((((Below.refl w.heap.size w4).alloc (by omega) _).drew).grown hgrow (by simp; omega) (fun k hk => ?_)))
        simp [Value.ownBlock] at hk
        omega
      have hlt : w1.heap.size < W5.heap.size := by rw [← hW]; simp; omega
      have h8 : n + 1 ≤ 8 := by omega
      have hfit : ∀ k (hk : k < (sampleCars F n ++ [sampleCar F 0]).length), carFitsB F (sampleCars F n ++ [sampleCar F 0])[k] = true := by
        intro k hk
        rw [List.getElem_append]
        split
        · rw [sampleCars_at]; exact carFits_sample F k hF1
        · simp only [List.getElem_singleton]; exact carFits_sample F 0 hF1
      have hv := withCars_valid F _ hF1 (by omega) (by rw [hlen]; omega) (by rw [hlen]; omega) hfit
      obtain ⟨T, hT⟩ : ∃ T, T = boundF (withCars F (sampleCars F n ++ [sampleCar F 0])) := ⟨_, rfl⟩
      have hle : 0 < S ∧ S ≤ T := by
        rw [HS.out, hT]
        refine withCars_le (cs := sampleCars F n) HV0.out hv (Int.le_refl _) (by rw [hlen, sampleCars_length]; omega) fun k hk hk' => ?_
        rw [List.getElem_append_left hk]
        exact CarLe.refl _
      obtain ⟨hS1, hS2⟩ := hle
      have HT := Lib.hid hT
      clear hT hW hfit hq r0 r1 r2 r3 r4 r5 r6 r7 r8
      go_at_call 8
      refine (tail_valid (F := F) (cs := (sampleCars F n ++ [sampleCar F 0])) hlen h8 hv hcar).mono ?_
      rintro e w6 ⟨rfl, hb6⟩
      have hbox6 := (hb6.block _ hlt).trans hbox
      have hcar6 := (hcar.below hb6).more hb6.size
      clear g0 g1 g2 g3 g4 g5 g6 g7
      have c0 : w6.cell? ⟨w1.heap.size, 0, none⟩ = some (.int .i64 F) := cell_of_row _ _ _ _ _ (0, 0) hbox6
      have c1 : w6.cell? ⟨w1.heap.size, 1, none⟩ = some (.int .i64 1) := cell_of_row _ _ _ _ _ (0, 0) hbox6
      have c2 : w6.cell? ⟨w1.heap.size, 2, none⟩ = some (.int .i64 4000) := cell_of_row _ _ _ _ _ (0, 0) hbox6
      have c3 : w6.cell? ⟨w1.heap.size, 3, none⟩ = some (.int .i64 30) := cell_of_row _ _ _ _ _ (0, 0) hbox6
      have c4 : w6.cell? ⟨w1.heap.size, 4, none⟩ = some (.float .f64 4591870180066957722) := cell_of_row _ _ _ _ _ (0, 0) hbox6
      have c5 : w6.cell? ⟨w1.heap.size, 5, none⟩ = some (.float .f64 4605380978949069210) := cell_of_row _ _ _ _ _ (0, 0) hbox6
      have c6 : w6.cell? ⟨w1.heap.size, 6, none⟩ = some (.float .f64 4607632778762754458) := cell_of_row _ _ _ _ _ (0, 0) hbox6
      have c7 : w6.cell? ⟨w1.heap.size, 7, none⟩ = some (.slice (some ⟨gn, 0, none⟩) (n + 1) cap2) := cell_of_row _ _ _ _ _ (0, 0) hbox6
      go_wp2_with fail
      refine (tail_bound (F := F) (cs := (sampleCars F n ++ [sampleCar F 0])) hlen h8 hv hcar6 HT.out).mono ?_
      rintro e w7 ⟨rfl, hb7⟩
      go_wp2_with fail
      refine (sane_any _).mono ?_
      rintro e w8 ⟨rfl, hb8⟩
      go_wp2
      go_ret
      have s5 := hbel.size
      have s6 := hb6.size
      have s7 := hb7.size
      exact ⟨rfl, ((hbel.trans (hb6.mono (by omega))).trans (hb7.mono (by omega))).trans (hb8.mono (by omega))⟩

end Go.Proofs.Ytaajepmdlbgkeaa
