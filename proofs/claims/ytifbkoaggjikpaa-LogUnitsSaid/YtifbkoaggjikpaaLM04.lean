/- What the texts behind this one rest on: several texts in one. No statement of the seat is proved here. -/
import Derived.Test.YtifbkoaggjikpaaLM00
namespace Go.Proofs.Ytifbkoaggjikpaa
section
open Go.RowKit

def loadsB (b : BldD) : Bool := ascB [0, b.empty, b.full, b.over, 9218868437227405312]
def roomB (b : BldD) : Bool := inAll (18 * b.cars.length + 24) 65536 [b.room]

/-- The number of the first error, or 0. -/
def validE (b : BldD) : Int :=
  if inAll 2 32 [b.floors] = false then 10 else if inAll 1 8 [(b.cars.length : Int)] = false then 11 else if timesFitB b = false then 12 else if loadsB b = false then 13 else if roomB b = false then 14 else 0

theorem inAll_one {lo hi v : Int} (h : inAll lo hi [v] = true) : lo ≤ v ∧ v ≤ hi := by simpa [inAll] using h

set_option maxRecDepth 100000 in
theorem valid_any (b : BldD) (A : Option Addr) (cap : Nat) (w : World) (hn : b.cars.length ≤ 140737488355328) (hc : CarsAt w w.heap.size A b.cars) :
    Calls Try.prog 34 #[b.agg A cap] w fun e w' => e = .returned (.int .i64 (validE b)) ∧ Below w.heap.size w w' := by
  obtain ⟨f, d, r, p, e1, e2, e3, cs⟩ := b
  simp only at hn hc
  have HC := Lib.hid hc
  clear hc
  have E0 : ∀ q : BldD, validE q = if inAll 2 32 [q.floors] = false then 10 else if inAll 1 8 [(q.cars.length : Int)] = false then 11 else if timesFitB q = false then 12 else if loadsB q = false then 13 else if roomB q = false then 14 else 0 := fun _ => rfl
  have E1 := Lib.hid (E0 ⟨f, d, r, p, e1, e2, e3, cs⟩)
  clear E0
  simp only [BldD.agg]
  rcases Bool.eq_false_or_eq_true (inAll 2 32 [f]) with h1 | h1
  · rcases Bool.eq_false_or_eq_true (inAll 1 8 [(cs.length : Int)]) with h2 | h2
    · have hf := inAll_one h1
      have hl := inAll_one h2
      obtain ⟨hf1, hf2⟩ := hf
      obtain ⟨hl1, hl2⟩ := hl
      rcases Bool.eq_false_or_eq_true (timesFitB ⟨f, d, r, p, e1, e2, e3, cs⟩) with h3 | h3
      · go_enter Try.func34, Try.ntmps34
        go_wp2_with (first
          | (go_at_call 55; refine (within_new _ _ _ _ _ _ _ _ _ (by simp) (by rfl) (by omega) (by repeat constructor)).mono ?_; rintro e w' ⟨rfl, rfl⟩)
          | (go_at_call 56; refine (timesFit_any ⟨f, d, r, p, e1, e2, e3, cs⟩ A cap _ (by simp only; omega) (by simp only; omega) (by simp only; omega) ((HC.out.below (by go_grown)).more (by simp; omega))).mono ?_; rintro e w' ⟨rfl, hb1⟩))
        have hbel : Below (w.heap.size + 1) (w.alloc (.cells #[.int .i64 f, .int .i64 d, .int .i64 r, .int .i64 p, .float .f64 e1, .float .f64 e2, .float .f64 e3, .slice A cs.length cap] 26)) w' :=
          Below.trans (by go_grown) (hb1.mono (by simp))
        clear hb1
        have g2 : w'.cell? ⟨w.heap.size, 2, none⟩ = some (.int .i64 r) := cell_new_below hbel 2
        have g4 : w'.cell? ⟨w.heap.size, 4, none⟩ = some (.float .f64 e1) := cell_new_below hbel 4
        have g5 : w'.cell? ⟨w.heap.size, 5, none⟩ = some (.float .f64 e2) := cell_new_below hbel 5
        have g6 : w'.cell? ⟨w.heap.size, 6, none⟩ = some (.float .f64 e3) := cell_new_below hbel 6
        have g7 : w'.cell? ⟨w.heap.size, 7, none⟩ = some (.slice A cs.length cap) := cell_new_below hbel 7
        go_still_tail 7, (by kernel_rfl)
        still_call ((inf_any 1 (by omega) _).mono fun _ _ h => ⟨h.1, h.2.symm⟩)
        refine wpStill_nil ?_
        have hbd : Below (w.heap.size + 1) (w.alloc (.cells #[.int .i64 f, .int .i64 d, .int .i64 r, .int .i64 p, .float .f64 e1, .float .f64 e2, .float .f64 e3, .slice A cs.length cap] 26)) w'.drew := hbel.drew
        change wpList _ _ _ _ _ w'.drew
        clear g2 g4 g5 g6 g7 hbel
        generalize w'.drew = w2 at *
        have g2 : w2.cell? ⟨w.heap.size, 2, none⟩ = some (.int .i64 r) := cell_new_below hbd 2
        have g7 : w2.cell? ⟨w.heap.size, 7, none⟩ = some (.slice A cs.length cap) := cell_new_below hbd 7
        have hz : w.heap.size < w2.heap.size := by have := hbd.size; simp at this; omega
        go_wp2_with fail
        refine (ascending_new _ _ _ _ _ _ _ (by simp) (by rfl) (by omega) (by omega) (by repeat constructor)).mono ?_
        rintro e w3 ⟨rfl, hb2⟩
        have hbe := hbd.trans (((Below.refl _ _).alloc (by omega) _).trans (hb2.mono (by simp; omega)))
        clear g2 g7 hb2 hbd hz
        have g2 : w3.cell? ⟨w.heap.size, 2, none⟩ = some (.int .i64 r) := cell_new_below hbe 2
        have g7 : w3.cell? ⟨w.heap.size, 7, none⟩ = some (.slice A cs.length cap) := cell_new_below hbe 7
        have hz : w.heap.size < w3.heap.size := by have := hbe.size; simp at this; omega
        have hcs : ((cs.length : Nat) : Int) ≤ 8 := by omega
        rcases Bool.eq_false_or_eq_true (ascB [0, e1, e2, e3, 9218868437227405312]) with h4 | h4
        · rcases Bool.eq_false_or_eq_true (inAll (18 * (cs.length : Int) + 24) 65536 [r]) with h5 | h5
          · go_wp2_with (go_at_call 55; refine (within_new _ _ _ _ _ _ _ _ _ (by simp) (by rfl) (by omega) (by repeat constructor)).mono ?_; rintro e w' ⟨rfl, rfl⟩)
            go_ret
            refine ⟨ret_int ?_, (below_of_new hbe).alloc (by omega) _⟩
            have h4' : loadsB ⟨f, d, r, p, e1, e2, e3, cs⟩ = true := h4
            have h5' : roomB ⟨f, d, r, p, e1, e2, e3, cs⟩ = true := h5
            rw [E1.out, h1, h2, h3, h4', h5']
            rfl
          · go_wp2_with (go_at_call 55; refine (within_new _ _ _ _ _ _ _ _ _ (by simp) (by rfl) (by omega) (by repeat constructor)).mono ?_; rintro e w' ⟨rfl, rfl⟩)
            go_ret
            refine ⟨ret_int ?_, (below_of_new hbe).alloc (by omega) _⟩
            have h4' : loadsB ⟨f, d, r, p, e1, e2, e3, cs⟩ = true := h4
            have h5' : roomB ⟨f, d, r, p, e1, e2, e3, cs⟩ = false := h5
            rw [E1.out, h1, h2, h3, h4', h5']
            rfl
        · go_wp2
          go_ret
          refine ⟨ret_int ?_, below_of_new hbe⟩
          have h4' : loadsB ⟨f, d, r, p, e1, e2, e3, cs⟩ = false := h4
          rw [E1.out, h1, h2, h3, h4']
          rfl
      · go_enter Try.func34, Try.ntmps34
        go_wp2_with (first
          | (go_at_call 55; refine (within_new _ _ _ _ _ _ _ _ _ (by simp) (by rfl) (by omega) (by repeat constructor)).mono ?_; rintro e w' ⟨rfl, rfl⟩)
          | (go_at_call 56; refine (timesFit_any ⟨f, d, r, p, e1, e2, e3, cs⟩ A cap _ (by simp only; omega) (by simp only; omega) (by simp only; omega) ((HC.out.below (by go_grown)).more (by simp; omega))).mono ?_; rintro e w' ⟨rfl, hb1⟩))
        go_ret
        refine ⟨ret_int ?_, Below.trans (by go_grown) (hb1.mono (by simp; omega))⟩
        rw [E1.out, h1, h2, h3]
        rfl
    · go_enter Try.func34, Try.ntmps34
      go_wp2_with (go_at_call 55; refine (within_new _ _ _ _ _ _ _ _ _ (by simp) (by rfl) (by omega) (by repeat constructor)).mono ?_; rintro e w' ⟨rfl, rfl⟩)
      go_ret
      refine ⟨ret_int ?_, by go_grown⟩
      rw [E1.out, h1, h2]
      rfl
  · go_enter Try.func34, Try.ntmps34
    go_wp2_with (go_at_call 55; refine (within_new _ _ _ _ _ _ _ _ _ (by simp) (by rfl) (by omega) (by repeat constructor)).mono ?_; rintro e w' ⟨rfl, rfl⟩)
    go_ret
    refine ⟨ret_int ?_, by go_grown⟩
    rw [E1.out, h1]
    rfl
end

section
open Go.RowKit

theorem bcell {W w1 : World} (hb : Below W.heap.size W w1) : (∀ b o, b < W.heap.size → w1.cell? ⟨b, o, none⟩ = W.cell? ⟨b, o, none⟩) ∧ (∀ b o, b < W.heap.size → w1.frozen? ⟨b, o, none⟩ = W.frozen? ⟨b, o, none⟩) :=
  ⟨fun b o h => hb.cell (p := ⟨b, o, none⟩) h, fun b o h => hb.frozen (p := ⟨b, o, none⟩) h⟩

def CarOk (f : Int) (c : CarD) : Prop :=
  (1 ≤ c.deadline ∧ c.deadline ≤ 10000) ∧ (1 ≤ c.step ∧ c.step ≤ 10000) ∧ (1 ≤ c.travel ∧ c.travel ≤ 10000) ∧ (1 ≤ c.dwell ∧ c.dwell ≤ c.hold) ∧ (c.hold ≤ 10000) ∧ (0 ≤ c.home ∧ c.home ≤ f - 1)

structure Fine (b : BldD) : Prop where
  floors : 2 ≤ b.floors ∧ b.floors ≤ 32
  cars : 1 ≤ b.cars.length ∧ b.cars.length ≤ 8
  times : ∀ k (h : k < b.cars.length), CarOk b.floors b.cars[k]

theorem fine_of {b : BldD} (h : validE b = 0) : Fine b := by
  unfold validE at h
  split at h
  · exact absurd h (by decide)
  · split at h
    · exact absurd h (by decide)
    · split at h
      · exact absurd h (by decide)
      · rename_i h1 h2 h3
        have h1 := inAll_one (by simpa using h1)
        have h2 := inAll_one (by simpa using h2)
        have h3 : timesFitB b = true := by simpa using h3
        refine ⟨h1, by omega, fun k hk => ?_⟩
        unfold timesFitB at h3
        rw [Bool.and_eq_true, Bool.and_eq_true, List.all_eq_true] at h3
        have hc := h3.2.2 _ (List.getElem_mem hk)
        generalize b.cars[k] = c at hc ⊢
        obtain ⟨c1, c2, c3, c4, c5, c6, c7, c8, c9⟩ := c
        simp [carFitsB, inAll] at hc
        simp only [CarOk]
        omega

end

section
open Go.RowKit

/-- The value of a set of calls. -/
def callsV (u d : Nat) : Value := .agg #[.int .u32 u, .int .u32 d]
def hallUp (b : BldD) : Nat := if validE b = 0 then 2 ^ (b.floors.toNat - 1) - 1 else 0
def hallDown (b : BldD) : Nat := if validE b = 0 then 2 ^ b.floors.toNat - 2 else 0

theorem hall_num : ∀ F, 2 ≤ F → F ≤ 32 → ((2 : Int) ^ F - 1) % 4294967296 / 2 = ((2 ^ (F - 1) - 1 : Nat) : Int) ∧ bits .andNot .u32 (((2 : Int) ^ F - 1) % 4294967296) 1 = ((2 ^ F - 2 : Nat) : Int) := by
  intro F h1 h2
  have h : ∀ G : Fin 33, 2 ≤ G.val → ((2 : Int) ^ G.val - 1) % 4294967296 / 2 = ((2 ^ (G.val - 1) - 1 : Nat) : Int) ∧ bits .andNot .u32 (((2 : Int) ^ G.val - 1) % 4294967296) 1 = ((2 ^ G.val - 2 : Nat) : Int) := by decide +kernel
  exact h ⟨F, by omega⟩ h1

theorem ret_calls {u d u' d' : Int} (hu : u = u') (hd : d = d') : Ending.returned (.agg #[.int .u32 u, .int .u32 d]) = .returned (.agg #[.int .u32 u', .int .u32 d']) := by rw [hu, hd]

set_option maxHeartbeats 1000000 in
theorem hall_any (b : BldD) (A : Option Addr) (cap : Nat) (w : World) (hn : b.cars.length ≤ 140737488355328) (hc : CarsAt w w.heap.size A b.cars) :
    Calls Try.prog 83 #[b.agg A cap] w fun e w' => e = .returned (callsV (hallUp b) (hallDown b)) ∧ Below w.heap.size w w' := by
  have HC := Lib.hid hc
  clear hc
  by_cases hv : validE b = 0
  · have hF := fine_of hv
    have H1 : Hid (hallUp b = 2 ^ (b.floors.toNat - 1) - 1) := if_pos hv
    have H2 : Hid (hallDown b = 2 ^ b.floors.toNat - 2) := if_pos hv
    obtain ⟨f, d, r, p, e1, e2, e3, cs⟩ := b
    obtain ⟨⟨hf1, hf2⟩, -, -⟩ := hF
    simp only at hf1 hf2 hn HC
    simp only [BldD.agg]
    obtain ⟨F, rfl⟩ := Int.eq_ofNat_of_zero_le (by omega : 0 ≤ f)
    go_enter Try.func83, Try.ntmps83
    go_wp2_with fail
    refine (valid_any ⟨F, d, r, p, e1, e2, e3, cs⟩ A cap _ hn ((HC.out.below (by go_grown)).more (by simp; omega))).mono ?_
    rintro e w' ⟨rfl, hb1⟩
    obtain ⟨hc1, hf1'⟩ := bcell hb1
    have hz := hb1.size
    have hbel := Below.trans (by go_grown : Below w.heap.size w _) (hb1.mono (by simp; omega))
    have c0 : w'.cell? ⟨w.heap.size + 1, 0, none⟩ = some (.int .u32 0) := by rw [hc1 _ _ (by simp), World.cell?_alloc_at _ _ _ _ (by simp)]; rfl
    have c1 : w'.cell? ⟨w.heap.size + 1, 1, none⟩ = some (.int .u32 0) := by rw [hc1 _ _ (by simp), World.cell?_alloc_at _ _ _ _ (by simp)]; rfl
    go_wp2_with fail
    have hnum := hall_num F (by omega) (by omega)
    refine bodyPost_ret (v := .agg #[.int .u32 (((2 : Int) ^ F - 1) % 4294967296 / 2), .int .u32 (bits .andNot .u32 (((2 : Int) ^ F - 1) % 4294967296) 1)]) (by simp [results, Try.results83, go_sem, c0, c1]) rfl ?_
    refine ⟨ret_calls ?_ ?_, (hbel.setCell (by show w.heap.size ≤ w.heap.size + 1; omega) _).setCell (by show w.heap.size ≤ w.heap.size + 1; omega) _⟩
    · rw [hnum.1, H1.out]; rfl
    · rw [hnum.2, H2.out]; rfl
  · have H1 : Hid (hallUp b = 0) := if_neg hv
    have H2 : Hid (hallDown b = 0) := if_neg hv
    obtain ⟨f, d, r, p, e1, e2, e3, cs⟩ := b
    simp only at hn HC
    simp only [BldD.agg]
    obtain ⟨v, hw⟩ : ∃ v, v = validE ⟨f, d, r, p, e1, e2, e3, cs⟩ := ⟨_, rfl⟩
    rw [← hw] at hv
    have HW := Lib.hid hw
    clear hw
    go_enter Try.func83, Try.ntmps83
    go_wp2_with fail
    refine (valid_any ⟨f, d, r, p, e1, e2, e3, cs⟩ A cap _ hn ((HC.out.below (by go_grown)).more (by simp; omega))).mono ?_
    rw [← HW.out]
    rintro e w' ⟨rfl, hb1⟩
    obtain ⟨hc1, hf1'⟩ := bcell hb1
    have hbel := Below.trans (by go_grown : Below w.heap.size w _) (hb1.mono (by simp; omega))
    have c0 : w'.cell? ⟨w.heap.size + 1, 0, none⟩ = some (.int .u32 0) := by rw [hc1 _ _ (by simp), World.cell?_alloc_at _ _ _ _ (by simp)]; rfl
    have c1 : w'.cell? ⟨w.heap.size + 1, 1, none⟩ = some (.int .u32 0) := by rw [hc1 _ _ (by simp), World.cell?_alloc_at _ _ _ _ (by simp)]; rfl
    go_wp2_with fail
    refine bodyPost_ret (v := .agg #[.int .u32 0, .int .u32 0]) (by simp [results, Try.results83, go_sem, c0, c1]) rfl ?_
    refine ⟨ret_calls ?_ ?_, (hbel.setCell (by show w.heap.size ≤ w.heap.size + 1; omega) _).setCell (by show w.heap.size ≤ w.heap.size + 1; omega) _⟩
    · rw [H1.out]; rfl
    · rw [H2.out]; rfl
end
end Go.Proofs.Ytifbkoaggjikpaa
