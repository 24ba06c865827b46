/- What the texts behind this one rest on: several texts in one. No statement of the seat is proved here. -/
import Derived.Test.YtnjcegkefjdgdaaDoorG18
import Derived.Test.YtnjcegkefjdgdaaDoorG19
import Derived.Test.YtnjcegkefjdgdaaDoorG8
import Derived.Test.YtnjcegkefjdgdaaDoorNcInv
namespace Go.Proofs.YtnjcegkefjdgdaaDoor
section
open Go.RowKit

def nwCar (F : Int) (t i : Nat) : CarD := ⟨100, 2, 6, 5, ((1 + t % 3 : Nat) : Int), ((1 + t / 3 % 3 : Nat) : Int), ((1 + t / 9 % 3 : Nat) : Int), ((1 + t / 9 % 3 + t / 27 % 5 : Nat) : Int), ((i + t : Nat) : Int) % F⟩
def nwCars (F : Int) (t C k : Nat) : List CarD := (List.range C).map fun i => if i < k then nwCar F t i else sampleCar F i
def nwF (n : Nat) : Nat := 2 + n % 5
def nwC (n : Nat) : Nat := 1 + n / 5 % 3
/-- The building of the laws. -/
def nwD (n t : Nat) : BldD := ⟨(nwF n : Int), 1, 4000, ((1 + t % 7 : Nat) : Int), 4591870180066957722, 4605380978949069210, 4607632778762754458, (List.range (nwC n)).map (nwCar (nwF n : Int) t)⟩
theorem nwF_range (n : Nat) : 2 ≤ nwF n ∧ nwF n ≤ 6 := by unfold nwF; omega
theorem nwC_range (n : Nat) : 1 ≤ nwC n ∧ nwC n ≤ 3 := by unfold nwC; omega
theorem nwCars_len (F : Int) (t C k : Nat) : (nwCars F t C k).length = C := by simp [nwCars]
theorem nwD_len (n t : Nat) : (nwD n t).cars.length = nwC n := by simp [nwD]
theorem nwCars_zero (F : Int) (t C : Nat) : nwCars F t C 0 = sampleCars F C := by simp [nwCars, sampleCars]
theorem nwCars_all (n t : Nat) : nwCars (nwF n : Int) t (nwC n) (nwC n) = (nwD n t).cars := by
  unfold nwCars nwD
  simp only
  apply List.map_congr_left
  intro i hi
  rw [if_pos (List.mem_range.1 hi)]
theorem nwCars_getD (F : Int) (t C k i : Nat) (hi : i < C) : (nwCars F t C k).getD i default = if i < k then nwCar F t i else sampleCar F i := by
  simp [nwCars, List.getD, hi]
theorem nw_fits (F : Nat) (t i : Nat) (h1 : 2 ≤ F) : carFitsB (F : Int) (nwCar (F : Int) t i) = true := by
  have h2 := Int.emod_nonneg ((i + t : Nat) : Int) (by omega : (F : Int) ≠ 0)
  have h3 := Int.emod_lt_of_pos ((i + t : Nat) : Int) (by omega : 0 < (F : Int))
  rw [show ((i + t : Nat) : Int) = (i : Int) + (t : Int) from by omega] at h2 h3
  unfold carFitsB
  rw [decide_eq_true (show (nwCar (F : Int) t i).dwell ≤ (nwCar (F : Int) t i).hold by show ((1 + t / 9 % 3 : Nat) : Int) ≤ ((1 + t / 9 % 3 + t / 27 % 5 : Nat) : Int); omega)]
  simp [nwCar, inAll]
  omega
theorem nw_valid (n t : Nat) : validE (nwD n t) = 0 := by
  have hF := nwF_range n
  have hC := nwC_range n
  have a1 : inAll 2 32 [(nwD n t).floors] = true := by simp [inAll, nwD]; omega
  have a2 : inAll 1 8 [((nwD n t).cars.length : Int)] = true := by rw [nwD_len]; simp [inAll]; omega
  have a3 : timesFitB (nwD n t) = true := by
    unfold timesFitB
    have : (nwD n t).cars.all (carFitsB (nwD n t).floors) = true := by
      rw [List.all_eq_true]
      intro c hc
      simp only [nwD, List.mem_map] at hc ⊢
      obtain ⟨i, _, rfl⟩ := hc
      exact nw_fits _ _ i hF.1
    rw [this]
    simp [inAll, nwD]
    omega
  have a4 : loadsB (nwD n t) = true := loads_sample
  have a5 : roomB (nwD n t) = true := by unfold roomB; rw [nwD_len]; simp [inAll, nwD]; omega
  unfold validE
  rw [a1, a2, a3, a4, a5]
  rfl

/-- A car with another number at place j. -/
def CarD.setj (c : CarD) (j : Nat) (v : Int) : CarD := match j with
  | 4 => {c with step := v}
  | 5 => {c with travel := v}
  | 6 => {c with dwell := v}
  | 7 => {c with hold := v}
  | _ => {c with home := v}
theorem CarD.setj_vals (c : CarD) {j : Nat} (hj : 4 ≤ j ∧ j ≤ 8) (v : Int) {i : Nat} (hi : i < 9) : (c.setj j v).vals.getD i 0 = if i = j then v else c.vals.getD i 0 := by
  obtain ⟨c1, c2, c3, c4, c5, c6, c7, c8, c9⟩ := c
  have h4 : j = 4 ∨ j = 5 ∨ j = 6 ∨ j = 7 ∨ j = 8 := by omega
  have h9 : i = 0 ∨ i = 1 ∨ i = 2 ∨ i = 3 ∨ i = 4 ∨ i = 5 ∨ i = 6 ∨ i = 7 ∨ i = 8 := by omega
  rcases h4 with rfl | rfl | rfl | rfl | rfl <;> rcases h9 with rfl | rfl | rfl | rfl | rfl | rfl | rfl | rfl | rfl <;> rfl
/-- Cars lie in block g from its beginning on. -/
def CarBlk (w : World) (g : Nat) (cs : List CarD) : Prop :=
  ∃ cur, w.heap[g]? = some (.cells cur 51 (0, 0)) ∧ ∀ i, i < cs.length → ∀ j, j < 9 → cur[i * 9 + j]? = some (.int .i64 ((cs.getD i default).vals.getD j 0))
namespace CarBlk
variable {w wx : World} {g : Nat} {cs : List CarD}
theorem lt (h : CarBlk w g cs) : g < w.heap.size := by obtain ⟨cur, h1, -⟩ := h; exact (Array.getElem?_eq_some_iff.1 h1).1
theorem same (h : CarBlk w g cs) (he : wx.heap[g]? = w.heap[g]?) : CarBlk wx g cs := by obtain ⟨cur, h1, h2⟩ := h; exact ⟨cur, he.trans h1, h2⟩
theorem at_ (h : CarBlk w g cs) : CarsAt w w.heap.size (some ⟨g, 0, none⟩) cs := by
  obtain ⟨cur, h1, h2⟩ := h
  refine .inr ⟨g, 0, rfl, (Array.getElem?_eq_some_iff.1 h1).1, fun i hi j hj => ?_⟩
  rw [Nat.zero_add]
  exact (cell_of_row _ _ _ _ _ (0, 0) h1).trans (h2 i hi j hj)
theorem cell (h : CarBlk w g cs) {k : Nat} (hk : k < cs.length) {j : Nat} (hj : j < 9) : w.cell? ⟨g, k * 9 + j, none⟩ = some (.int .i64 ((cs.getD k default).vals.getD j 0)) := by
  obtain ⟨cur, h1, h2⟩ := h
  exact (cell_of_row _ _ _ _ _ (0, 0) h1).trans (h2 k hk j hj)
theorem free (h : CarBlk w g cs) (o : Nat) : w.frozen? ⟨g, o, none⟩ = false := by
  obtain ⟨cur, h1, -⟩ := h
  exact frozen_of_row _ _ _ _ _ h1
theorem put (h : CarBlk w g cs) {k : Nat} (hk : k < cs.length) {j : Nat} (hj : 4 ≤ j ∧ j ≤ 8) (v : Int) : CarBlk (w.setCell ⟨g, k * 9 + j, none⟩ (.int .i64 v)) g (cs.set k ((cs.getD k default).setj j v)) := by
  obtain ⟨cur, h1, h2⟩ := h
  refine ⟨cur.setIfInBounds (k * 9 + j) (.int .i64 v), by simp [World.setCell, Array.getElem?_modify, h1], fun i hi q hq => ?_⟩
  rw [List.length_set] at hi
  have hlt : k * 9 + j < cur.size := by
    have := h2 k hk j (by omega)
    exact (Array.getElem?_eq_some_iff.1 this).1
  have hg : (cs.set k ((cs.getD k default).setj j v)).getD i default = if k = i then (cs.getD k default).setj j v else cs.getD i default := by
    simp only [List.getD, List.getElem?_set]
    by_cases hki : k = i
    · subst hki; simp [hk]
    · simp [hki]
  rw [hg, Array.getElem?_setIfInBounds]
  by_cases hki : k = i
  · subst hki
    rw [if_pos rfl, CarD.setj_vals _ hj v hq]
    by_cases hjq : q = j
    · subst hjq
      rw [if_pos rfl, if_pos rfl, if_pos hlt]
    · rw [if_neg (by omega), if_neg hjq]
      exact h2 k hk q hq
  · rw [if_neg (by omega), if_neg hki]
    exact h2 i hi q hq
theorem of_own {base : Nat} {n cap : Nat} {A : Option Addr} (h : w.ownsRow base 51 9 (.slice A n cap) n (flatCars cs)) (hn : cs.length = n) (h0 : 0 < n) : ∃ g, A = some ⟨g, 0, none⟩ ∧ base ≤ g ∧ CarBlk w g cs := by
  obtain ⟨h1, h2⟩ := h
  rcases h2 with ⟨_, h2⟩ | ⟨g, cap', cur, hv, hg, hh, hr⟩
  · omega
  · injection hv with hA
    refine ⟨g, hA, hg, cur, hh, fun i hi j hj => ?_⟩
    have hx := flatCars_at cs i hi j hj
    rw [← hr.2.2.2, List.getElem?_take, if_pos (by omega)] at hx
    simpa using hx
end CarBlk
end

section
open Go.RowKit

/-- The state behind i ticks (those behind the first one), without feedback (bl) or with a feedback between floors. -/
def fltS (bl : Bool) (lim i : Nat) : Nc := if i ≤ lim then ⟨1, 0, Dr.zero, ⟨1, (i : Int), 0⟩, (if bl = true ∨ i = 0 then 0 else 1), 0, 0, false⟩ else Nc.faulty
def fltC (bl : Bool) (lim i : Nat) : Int := if i ≤ lim ∧ bl = false then 1 else 0
def fltL (t : Nat) : Nat := 1 + t % 3
theorem nw_floors (n t : Nat) : (nwD n t).floors = (nwF n : Int) := rfl
theorem nw_car0 (n t : Nat) : Nc.carAt (nwD n t) 0 = nwCar (nwF n : Int) t 0 := by
  have := nwC_range n
  show ((List.range (nwC n)).map (nwCar (nwF n : Int) t)).getD 0 default = _
  simp [List.getD, show 0 < nwC n by omega]
theorem nw_isCar {n t : Nat} {s : Nc} (h : Nc.stB (nwF n : Int) s = true) : Nc.isCar (nwD n t) 0 s = true := by
  have hC := nwC_range n
  unfold Nc.isCar Nc.isB
  rw [if_pos (nw_valid n t), nw_floors, h, nwD_len, Nc.wi_iff.2 (by omega)]
  rfl
theorem flt_one (n : Nat) : Nc.fits (nwF n : Int) 1 = 1 := by
  have h := nwF_range n
  have : ∀ F : Fin 7, 2 ≤ F.val → Nc.fits ((F.val : Nat) : Int) 1 = 1 := by decide
  exact this ⟨nwF n, by omega⟩ h.1
theorem flt_good {n : Nat} {c : Int} {q i : Nat} (hc : c = 0 ∨ c = 1) (hq : q = 0 ∨ q = 1) (hi : i ≤ 3) : Nc.stB (nwF n : Int) ⟨c, 0, Dr.zero, ⟨c, (i * c.toNat : Nat), 0⟩, q, 0, 0, false⟩ = true := by
  have h := nwF_range n
  refine Nc.stB_good ⟨by simp only; omega, by simp only; omega, by simp only; decide, ?_, .inl rfl, ?_, by simp only; omega, by simp only; omega⟩ rfl
  · simp only
    rcases hc with rfl | rfl
    · exact Mo.isB_none (by omega) (by simp)
    · have : ((i * (1 : Int).toNat : Nat) : Int) = (i : Int) := by simp
      rw [this]
      exact Mo.isB_up (by omega) (by omega) (by omega) (by omega)
  · simp only
    rcases hq with rfl | rfl
    · unfold Nc.fits; exact Nat.zero_and _
    · exact flt_one n
/-- The first step begins. -/
theorem flt_first (n t : Nat) : Nc.stepF (nwD n t) 0 Nc.zero ⟨0, true, 2, false⟩ 0 ⟨0, 2 ^ (nwF n - 1)⟩ = (fltS false (fltL t) 0, 1, 0) := by
  have h := nwF_range n
  have hz : Nc.stB (nwF n : Int) Nc.zero = true := flt_good (n := n) (c := 0) (q := 0) (i := 0) (.inl rfl) (.inl rfl) (by decide)
  have hm : Mo.stepF (nwF n : Int) Mo.zero 0 true 0 = (Mo.zero, 0, false) := Mo.step_none (by omega) (by decide) (by decide) (by omega)
  have hb : Mo.stepF (nwF n : Int) Mo.zero 0 true 1 = (⟨1, 0, 0⟩, 1, false) := by
    rw [Mo.step_begin (by omega) (by decide) (by omega) (.inl rfl), if_neg (by omega)]
  have hch : ∀ F : Fin 7, 2 ≤ F.val → Cv.choose (Cv.look F.val 0 0 ⟨0, ⟨0, 2 ^ (F.val - 1)⟩⟩) 0 = Cv.moveC 1 := by decide +kernel
  have hch := hch ⟨nwF n, by omega⟩ h.1
  simp only at hch
  have hht : Nc.told (nwF n : Int) ⟨0, true, 2, false⟩ 0 Nc.zero = Nc.zero := by
    unfold Nc.told Nc.heard
    rw [if_pos (by decide), show Nc.fits (nwF n : Int) 0 = 0 from Nat.zero_and _]
    rfl
  unfold Nc.stepF
  rw [if_pos ⟨nw_isCar hz, Fb.okB_iff.2 (by rw [nw_floors]; simp only; omega)⟩]
  have hg : Nc.stepG (nwD n t) 0 Nc.zero ⟨0, true, 2, false⟩ 0 ⟨0, 2 ^ (nwF n - 1)⟩ = (fltS false (fltL t) 0, 1) := by
    unfold Nc.stepG
    rw [if_neg (by decide), nw_floors, hht]
    have hct : Nc.control (nwD n t) 0 (Nc.carAt (nwD n t) 0) ⟨0, true, 2, false⟩ ⟨0, 2 ^ (nwF n - 1)⟩ Nc.zero = (fltS false (fltL t) 0, 1) := by
      have hmv : Nc.move (nwF n : Int) ⟨0, true, 2, false⟩ Nc.zero 0 = (Nc.zero, 0) := by
        unfold Nc.move
        rw [show (Nc.zero).mo = Mo.zero from rfl, show (⟨0, true, 2, false⟩ : Fb).fl = 0 from rfl, show (⟨0, true, 2, false⟩ : Fb).lv = true from rfl, hm]
        rfl
      unfold Nc.control
      rw [if_neg (by decide), nw_floors, hmv, if_neg (by decide), if_neg (by decide)]
      have hcc : Nc.choice (nwF n : Int) ⟨0, true, 2, false⟩ ⟨0, 2 ^ (nwF n - 1)⟩ Nc.zero = Cv.moveC 1 := hch
      unfold Nc.choose
      rw [nw_floors, hcc, if_neg (by decide), if_pos (by decide)]
      unfold Nc.swept
      rw [hcc]
      unfold Nc.move
      rw [show (Nc.zero).mo = Mo.zero from rfl]
      rw [show ((Cv.moveC 1).d_ : Int) = 1 from rfl, show (⟨0, true, 2, false⟩ : Fb).fl = 0 from rfl, show (⟨0, true, 2, false⟩ : Fb).lv = true from rfl, hb]
      rfl
    rw [hct]
    unfold Nc.watched
    rw [if_neg]
    rw [nw_car0]
    unfold Nc.lateB Mo.late
    simp [fltS, fltL, Dr.late, Dr.zero, nwCar]
    omega
  rw [hg]
theorem flt_late (n t : Nat) {bl : Bool} {i : Nat} (hi : i ≤ fltL t) : Nc.watched (Nc.carAt (nwD n t) 0) (⟨1, 0, Dr.zero, ⟨1, ((i + 1 : Nat) : Int), 0⟩, (if bl = true ∨ i + 1 = 0 then 0 else 1), 0, 0, false⟩, if bl = false then 1 else 0) = (fltS bl (fltL t) (i + 1), fltC bl (fltL t) (i + 1)) := by
  unfold Nc.watched
  have hl : Nc.lateB (Nc.carAt (nwD n t) 0) ⟨1, 0, Dr.zero, ⟨1, ((i + 1 : Nat) : Int), 0⟩, (if bl = true ∨ i + 1 = 0 then 0 else 1), 0, 0, false⟩ = decide (fltL t < i + 1) := by
    rw [nw_car0]
    unfold Nc.lateB Mo.late
    rw [show Dr.late (nwCar (nwF n : Int) t 0).travel Dr.zero = false from rfl, Bool.false_or]
    exact decide_eq_decide.2 (by show ((1 + t % 3 : Nat) : Int) < ((i + 1 : Nat) : Int) ↔ fltL t < i + 1; unfold fltL; omega)
  simp only [hl]
  by_cases h : fltL t < i + 1
  · rw [if_pos (by simpa using h)]
    unfold fltS fltC
    rw [if_neg (by omega), if_neg (fun e => by omega)]
  · rw [if_neg (by simpa using h)]
    have h2 : i + 1 ≤ fltL t := by omega
    cases bl <;> simp [fltS, fltC, h2]
/-- A tick between floors. -/
theorem flt_tick (n t i : Nat) : Nc.stepF (nwD n t) 0 (fltS false (fltL t) i) ⟨0, false, 2, false⟩ 1 ⟨0, 0⟩ = (fltS false (fltL t) (i + 1), fltC false (fltL t) (i + 1), 0) := by
  have h := nwF_range n
  by_cases hi : i ≤ fltL t
  · have hl3 : i ≤ 3 := by unfold fltL at hi; omega
    have hs : fltS false (fltL t) i = ⟨1, 0, Dr.zero, ⟨1, (i : Int), 0⟩, (if i = 0 then 0 else 1), 0, 0, false⟩ := by unfold fltS; rw [if_pos hi]; simp
    have hq : (if i = 0 then 0 else 1) = 0 ∨ (if i = 0 then 0 else 1) = 1 := by split <;> simp
    have hz : Nc.stB (nwF n : Int) ⟨1, 0, Dr.zero, ⟨1, (i : Int), 0⟩, (if i = 0 then 0 else 1), 0, 0, false⟩ = true := by
      have := flt_good (n := n) (c := 1) (q := if i = 0 then 0 else 1) (i := i) (.inr rfl) hq hl3
      simpa using this
    rw [hs]
    generalize (if i = 0 then 0 else 1) = q at *
    unfold Nc.stepF
    rw [if_pos ⟨nw_isCar hz, Fb.okB_iff.2 (by rw [nw_floors]; simp only; omega)⟩]
    have hg : Nc.stepG (nwD n t) 0 ⟨1, 0, Dr.zero, ⟨1, (i : Int), 0⟩, q, 0, 0, false⟩ ⟨0, false, 2, false⟩ 1 ⟨0, 0⟩ = (fltS false (fltL t) (i + 1), fltC false (fltL t) (i + 1)) := by
      unfold Nc.stepG
      rw [if_neg (by simp), nw_floors]
      have hht : Nc.told (nwF n : Int) ⟨0, false, 2, false⟩ 1 ⟨1, 0, Dr.zero, ⟨1, (i : Int), 0⟩, q, 0, 0, false⟩ = ⟨1, 0, Dr.zero, ⟨1, (i : Int), 0⟩, 1, 0, 0, false⟩ := by
        unfold Nc.told Nc.heard
        rw [if_pos (show Nc.drB ⟨1, 0, Dr.zero, ⟨1, (i : Int), 0⟩, q, 0, 0, false⟩ = true from rfl), flt_one]
        rcases hq with rfl | rfl <;> simp
      rw [hht]
      have hm : Mo.stepF (nwF n : Int) ⟨1, (i : Int), 0⟩ 0 false 0 = (⟨1, ((i + 1 : Nat) : Int), 0⟩, 1, false) := Mo.step_ride (w2 := 0) false (by omega) (by omega) (by omega) (by omega) (.inl ⟨rfl, by omega⟩)
      have hct : Nc.control (nwD n t) 0 (Nc.carAt (nwD n t) 0) ⟨0, false, 2, false⟩ ⟨0, 0⟩ ⟨1, 0, Dr.zero, ⟨1, (i : Int), 0⟩, 1, 0, 0, false⟩ = (⟨1, 0, Dr.zero, ⟨1, ((i + 1 : Nat) : Int), 0⟩, 1, 0, 0, false⟩, 1) := by
        have hmv : Nc.move (nwF n : Int) ⟨0, false, 2, false⟩ ⟨1, 0, Dr.zero, ⟨1, (i : Int), 0⟩, 1, 0, 0, false⟩ 0 = (⟨1, 0, Dr.zero, ⟨1, ((i + 1 : Nat) : Int), 0⟩, 1, 0, 0, false⟩, 1) := by
          unfold Nc.move
          simp only [hm]
        unfold Nc.control
        rw [if_neg (show ¬ Nc.drB ⟨1, 0, Dr.zero, ⟨1, (i : Int), 0⟩, 1, 0, 0, false⟩ = false from by rw [show Nc.drB ⟨1, 0, Dr.zero, ⟨1, (i : Int), 0⟩, 1, 0, 0, false⟩ = true from rfl]; decide), nw_floors, hmv]
        rw [if_pos (show Nc.moB ⟨1, 0, Dr.zero, ⟨1, ((i + 1 : Nat) : Int), 0⟩, 1, 0, 0, false⟩ = false from rfl)]
        rfl
      rw [hct]
      have := flt_late n t (bl := false) hi
      rw [if_neg (by simp), if_pos rfl] at this
      exact this
    rw [hg]
  · have hs : fltS false (fltL t) i = Nc.faulty := by unfold fltS; rw [if_neg hi]
    have hs2 : fltS false (fltL t) (i + 1) = Nc.faulty := by unfold fltS; rw [if_neg (by omega)]
    have hc2 : fltC false (fltL t) (i + 1) = 0 := by unfold fltC; rw [if_neg (by omega)]
    rw [hs, hs2, hc2]
    unfold Nc.stepF
    rw [if_pos ⟨nw_isCar (Nc.stB_faulty _), Fb.okB_iff.2 (by rw [nw_floors]; simp only; omega)⟩]
    rfl
/-- A tick without feedback. -/
theorem flt_blind (n t i : Nat) : Nc.blindF (nwD n t) 0 (fltS true (fltL t) i) = (fltS true (fltL t) (i + 1), fltC true (fltL t) (i + 1), 0) := by
  have h := nwF_range n
  by_cases hi : i ≤ fltL t
  · have hl3 : i ≤ 3 := by unfold fltL at hi; omega
    have hs : fltS true (fltL t) i = ⟨1, 0, Dr.zero, ⟨1, (i : Int), 0⟩, 0, 0, 0, false⟩ := by unfold fltS; rw [if_pos hi]; simp
    have hz : Nc.stB (nwF n : Int) ⟨1, 0, Dr.zero, ⟨1, (i : Int), 0⟩, 0, 0, 0, false⟩ = true := by
      have := flt_good (n := n) (c := 1) (q := 0) (i := i) (.inr rfl) (.inl rfl) hl3
      simpa using this
    rw [hs]
    unfold Nc.blindF
    rw [if_pos (nw_isCar hz)]
    have hg : Nc.blindG (Nc.carAt (nwD n t) 0) ⟨1, 0, Dr.zero, ⟨1, (i : Int), 0⟩, 0, 0, 0, false⟩ = (fltS true (fltL t) (i + 1), fltC true (fltL t) (i + 1)) := by
      unfold Nc.blindG
      rw [show Mo.skipF ⟨1, (i : Int), 0⟩ = ⟨1, ((i + 1 : Nat) : Int), 0⟩ from Mo.skip_on (by decide) (by omega), show Dr.skipF Dr.zero = Dr.zero from by decide]
      have := flt_late n t (bl := true) hi
      rw [if_pos (.inl rfl), if_neg (by decide)] at this
      exact this
    rw [hg]
  · have hs : fltS true (fltL t) i = Nc.faulty := by unfold fltS; rw [if_neg hi]
    have hs2 : fltS true (fltL t) (i + 1) = Nc.faulty := by unfold fltS; rw [if_neg (by omega)]
    have hc2 : fltC true (fltL t) (i + 1) = 0 := by unfold fltC; rw [if_neg (by omega)]
    rw [hs, hs2, hc2]
    unfold Nc.blindF
    rw [if_pos (nw_isCar (Nc.stB_faulty _))]
    unfold Nc.blindG Nc.watched
    rw [if_neg]
    · rfl
    · rw [nw_car0]
      unfold Nc.lateB Mo.late
      rw [show Dr.late (nwCar (nwF n : Int) t 0).travel (Dr.skipF Nc.faulty.dr) = false from rfl, Bool.false_or]
      show ¬ decide (((1 + t % 3 : Nat) : Int) < 0) = true
      simp
      omega
end

section
open Go.RowKit

/-- A drive: its floor, the step's target, the ticks that are left, the door, where it goes, the ticks that are left. -/
structure Rg where
  fl : Int
  tg : Int
  lf : Int
  dd : Int
  am : Int
  tk : Int
deriving DecidableEq
namespace Rg
def agg (r : Rg) : Value := .agg #[.int .i64 r.fl, .int .i64 r.tg, .int .i64 r.lf, .int .i64 r.dd, .int .i64 r.am, .int .i64 r.tk]
def new (f : Int) : Rg := ⟨f, f, 0, 2, 0, 0⟩
/-- States of a building with F floors. -/
structure Ok (F : Int) (r : Rg) : Prop where
  fs : 2 ≤ F ∧ F ≤ 32
  fl : 0 ≤ r.fl ∧ r.fl ≤ F - 1
  tg : 0 ≤ r.tg ∧ r.tg ≤ F - 1
  near : -1 ≤ r.tg - r.fl ∧ r.tg - r.fl ≤ 1
  dd : 0 ≤ r.dd ∧ r.dd ≤ 2
  step : (r.tg = r.fl ∧ r.lf = 0) ∨ (r.tg ≠ r.fl ∧ (1 ≤ r.lf ∧ r.lf ≤ 10000) ∧ r.dd = 2)
  door : (r.dd = 0 ∧ (1 ≤ r.am ∧ r.am ≤ 2) ∧ 1 ≤ r.tk ∧ r.tk ≤ 10000) ∨ (r.dd ≠ 0 ∧ r.am = 0 ∧ r.tk = 0)
def arr (r : Rg) : Rg := if r.lf = 0 then {r with fl := r.tg} else r
def nxt (r : Rg) (m : Int) : Int := if m = 1 then r.fl + 1 else if m = 2 then r.fl - 1 else r.fl
def aim (r : Rg) (m : Int) : Int := if m = 3 then 1 else if m = 4 ∨ m = 5 then 2 else r.am
def shut (r : Rg) (a : Int) : Rg := if r.tk = 0 then {r with dd := a, am := 0} else r
def stepF (F : Int) (r : Rg) (m t : Int) : Rg :=
  if 0 < r.lf then arr {r with lf := r.lf - 1}
  else if r.dd = 2 ∧ r.nxt m ≠ r.fl ∧ (0 ≤ r.nxt m ∧ r.nxt m ≤ F - 1) then arr {r with tg := r.nxt m, lf := t - 1}
  else if r.aim m = 0 ∨ r.aim m = r.dd then r
  else if r.dd = 0 ∧ r.aim m = r.am then shut {r with tk := r.tk - 1} (r.aim m)
  else shut {r with dd := 0, am := r.aim m, tk := t - 1} (r.aim m)
def report (r : Rg) (b : Bool) : Fb := ⟨r.fl, r.lf == 0, r.dd, b⟩
end Rg
end

section
open Go.RowKit
set_option maxRecDepth 4000
set_option linter.unusedSimpArgs false

theorem sane15_bld : nwD 2 0 = ⟨(4 : Int), 1, 4000, 1, 4591870180066957722, 4605380978949069210, 4607632778762754458, [nwCar 4 0 0]⟩ := rfl
theorem sane15_s0 : Nc.stepF ⟨(4 : Int), 1, 4000, 1, 4591870180066957722, 4605380978949069210, 4607632778762754458, [nwCar 4 0 0]⟩ 0 ⟨0, 0, ⟨0, 0, 0, false, 0⟩, ⟨0, 0, 0⟩, 0, 0, 0, false⟩ (Rg.report ⟨0, 0, 0, 2, 0, 0⟩ false) 0 ⟨0, 4⟩ = (⟨1, 0, ⟨0, 0, 0, false, 0⟩, ⟨1, 0, 0⟩, 0, 0, 0, false⟩, 1, 0) := by decide +kernel
theorem sane15_r0 : Rg.stepF 4 ⟨0, 0, 0, 2, 0, 0⟩ 1 1 = ⟨1, 1, 0, 2, 0, 0⟩ := by decide +kernel
theorem sane15_h0 : Nc.shows ⟨(4 : Int), 1, 4000, 1, 4591870180066957722, 4605380978949069210, 4607632778762754458, [nwCar 4 0 0]⟩ ⟨1, 0, ⟨0, 0, 0, false, 0⟩, ⟨1, 0, 0⟩, 0, 0, 0, false⟩ (Rg.report ⟨0, 0, 0, 2, 0, 0⟩ false) = (0, 0) := by decide +kernel
theorem sane15_s1 : Nc.stepF ⟨(4 : Int), 1, 4000, 1, 4591870180066957722, 4605380978949069210, 4607632778762754458, [nwCar 4 0 0]⟩ 0 ⟨1, 0, ⟨0, 0, 0, false, 0⟩, ⟨1, 0, 0⟩, 0, 0, 0, false⟩ (Rg.report ⟨1, 1, 0, 2, 0, 0⟩ false) 0 ⟨0, 4⟩ = (⟨1, 0, ⟨0, 0, 0, false, 0⟩, ⟨1, 0, 1⟩, 0, 0, 0, false⟩, 1, 0) := by decide +kernel
theorem sane15_r1 : Rg.stepF 4 ⟨1, 1, 0, 2, 0, 0⟩ 1 1 = ⟨2, 2, 0, 2, 0, 0⟩ := by decide +kernel
theorem sane15_h1 : Nc.shows ⟨(4 : Int), 1, 4000, 1, 4591870180066957722, 4605380978949069210, 4607632778762754458, [nwCar 4 0 0]⟩ ⟨1, 0, ⟨0, 0, 0, false, 0⟩, ⟨1, 0, 1⟩, 0, 0, 0, false⟩ (Rg.report ⟨1, 1, 0, 2, 0, 0⟩ false) = (0, 0) := by decide +kernel
theorem sane15_s2 : Nc.stepF ⟨(4 : Int), 1, 4000, 1, 4591870180066957722, 4605380978949069210, 4607632778762754458, [nwCar 4 0 0]⟩ 0 ⟨1, 0, ⟨0, 0, 0, false, 0⟩, ⟨1, 0, 1⟩, 0, 0, 0, false⟩ (Rg.report ⟨2, 2, 0, 2, 0, 0⟩ false) 0 ⟨0, 4⟩ = (⟨2, 4, ⟨1, 0, 0, false, 0⟩, ⟨0, 0, 0⟩, 0, 2, 0, false⟩, 3, 0) := by decide +kernel
theorem sane15_r2 : Rg.stepF 4 ⟨2, 2, 0, 2, 0, 0⟩ 3 1 = ⟨2, 2, 0, 1, 0, 0⟩ := by decide +kernel
theorem sane15_h2 : Nc.shows ⟨(4 : Int), 1, 4000, 1, 4591870180066957722, 4605380978949069210, 4607632778762754458, [nwCar 4 0 0]⟩ ⟨2, 4, ⟨1, 0, 0, false, 0⟩, ⟨0, 0, 0⟩, 0, 2, 0, false⟩ (Rg.report ⟨2, 2, 0, 2, 0, 0⟩ false) = (0, 0) := by decide +kernel
theorem sane15_s3 : Nc.stepF ⟨(4 : Int), 1, 4000, 1, 4591870180066957722, 4605380978949069210, 4607632778762754458, [nwCar 4 0 0]⟩ 0 ⟨2, 4, ⟨1, 0, 0, false, 0⟩, ⟨0, 0, 0⟩, 0, 2, 0, false⟩ (Rg.report ⟨2, 2, 0, 1, 0, 0⟩ false) 0 ⟨0, 4⟩ = (⟨2, 4, ⟨2, 0, 1, false, 0⟩, ⟨0, 0, 0⟩, 0, 2, 0, false⟩, 0, 0) := by decide +kernel
theorem sane15_r3 : Rg.stepF 4 ⟨2, 2, 0, 1, 0, 0⟩ 0 1 = ⟨2, 2, 0, 1, 0, 0⟩ := by decide +kernel
theorem sane15_h3 : Nc.shows ⟨(4 : Int), 1, 4000, 1, 4591870180066957722, 4605380978949069210, 4607632778762754458, [nwCar 4 0 0]⟩ ⟨2, 4, ⟨2, 0, 1, false, 0⟩, ⟨0, 0, 0⟩, 0, 2, 0, false⟩ (Rg.report ⟨2, 2, 0, 1, 0, 0⟩ false) = (0, 4) := by decide +kernel
theorem sane15_b : Nc.blindF ⟨(4 : Int), 1, 4000, 1, 4591870180066957722, 4605380978949069210, 4607632778762754458, [nwCar 4 0 0]⟩ 5 ⟨2, 4, ⟨2, 0, 1, false, 0⟩, ⟨0, 0, 0⟩, 0, 2, 0, false⟩ = (Nc.zero, 0, 1) := by decide +kernel
theorem sane15_i : Nc.isB ⟨(4 : Int), 1, 4000, 1, 4591870180066957722, 4605380978949069210, 4607632778762754458, [nwCar 4 0 0]⟩ ⟨2, 4, ⟨2, 0, 1, false, 0⟩, ⟨0, 0, 0⟩, 0, 2, 0, false⟩ = true := by decide +kernel
theorem sane15_ok0 : Rg.Ok 4 ⟨0, 0, 0, 2, 0, 0⟩ := ⟨by decide, by decide, by decide, by decide, by decide, by decide, by decide⟩
theorem sane15_ok1 : Rg.Ok 4 ⟨1, 1, 0, 2, 0, 0⟩ := ⟨by decide, by decide, by decide, by decide, by decide, by decide, by decide⟩
theorem sane15_ok2 : Rg.Ok 4 ⟨2, 2, 0, 2, 0, 0⟩ := ⟨by decide, by decide, by decide, by decide, by decide, by decide, by decide⟩
theorem sane15_ok3 : Rg.Ok 4 ⟨2, 2, 0, 1, 0, 0⟩ := ⟨by decide, by decide, by decide, by decide, by decide, by decide, by decide⟩
end
end Go.Proofs.YtnjcegkefjdgdaaDoor
