/- What the texts behind this one rest on: one text. No statement of the seat is proved here. -/
import Derived.Test.YtifbkoaggjikpaaLM00
namespace Go.Proofs.Ytifbkoaggjikpaa
section
open Go.RowKit

theorem carInfo : (Try.prog.info? 90).map (fun i => (i.zero, i.size, i.bytes)) = some (some (.agg #[.int .i64 0, .int .i64 0, .int .i64 0, .int .i64 0, .int .i64 0, .int .i64 0, .int .i64 0, .int .i64 0, .int .i64 0]), 9, 72) := by kernel_rfl

def CarD.cells (c : CarD) : List Value := c.vals.map fun z => .int .i64 z
def flatCars (cs : List CarD) : List Value := cs.flatMap CarD.cells

theorem cells_length (c : CarD) : c.cells.length = 9 := rfl
theorem flatCars_snoc (cs : List CarD) (c : CarD) : flatCars (cs ++ [c]) = flatCars cs ++ c.cells := by
  unfold flatCars; rw [List.flatMap_append]; simp
theorem flatCars_at (cs : List CarD) : ∀ i, i < cs.length → ∀ j, j < 9 → (flatCars cs)[i * 9 + j]? = some (.int .i64 ((cs.getD i default).vals.getD j 0)) := by
  induction cs with
  | nil => intro i hi; exact absurd hi (by simp)
  | cons c cs ih =>
    intro i hi j hj
    unfold flatCars at ih ⊢
    rw [List.flatMap_cons]
    cases i with
    | zero =>
      rw [List.getElem?_append_left (by rw [cells_length]; omega)]
      obtain ⟨c1, c2, c3, c4, c5, c6, c7, c8, c9⟩ := c
      match j, hj with
      | 0, _ => rfl
      | 1, _ => rfl
      | 2, _ => rfl
      | 3, _ => rfl
      | 4, _ => rfl
      | 5, _ => rfl
      | 6, _ => rfl
      | 7, _ => rfl
      | 8, _ => rfl
    | succ i =>
      rw [List.getElem?_append_right (by rw [cells_length]; omega), cells_length]
      have := ih i (by simpa using hi) j hj
      rw [show (i + 1) * 9 + j - 9 = i * 9 + j from by omega, this]
      simp [List.getD]

theorem CarsAt.of_own {w : World} {base : Nat} {e : TypeId} {A : Option Addr} {cap : Nat} {cs : List CarD} (h : w.ownsRow base e 9 (.slice A cs.length cap) cs.length (flatCars cs)) : CarsAt w w.heap.size A cs := by
  rcases Nat.eq_zero_or_pos cs.length with h0 | h0
  · exact .inl (List.eq_nil_of_length_eq_zero h0)
  · obtain ⟨g, cap', hv, _, hlt⟩ := h.form h0
    injection hv with hA
    subst hA
    refine .inr ⟨g, 0, rfl, hlt, fun i hi j hj => ?_⟩
    have := h.cells (g := g) rfl (i * 9 + j) _ (flatCars_at cs i hi j hj)
    have hadd : (⟨g, 0, none⟩ : Addr).add (i * 9 + j) = ⟨g, 0 + i * 9 + j, none⟩ := by unfold Addr.add; split <;> simp_all
    rw [← hadd]
    exact this

/-- An append onto a row of the call's own leaves all below the call's own blocks. -/
theorem own_step {wr w1 : World} {base : Nat} {e : TypeId} {size n : Nat} {v : Value} {xs : List Value} {o : Obj} (hown : wr.ownsRow base e size v n xs) (hB : base ≤ wr.heap.size) (hg : (wr.drew.alloc o).grownBy w1 v.ownBlock) : Below base wr w1 :=
  (((Below.refl base wr).drew).alloc hB o).grown hg (by simp; omega) (fun k hk => (hown.lt k hk).1)

def sampleCar (f : Int) (i : Nat) : CarD := ⟨100, 2, 6, 5, 4, 2, 3, 10, (i : Int) % f⟩
def sampleCars (f : Int) (n : Nat) : List CarD := (List.range n).map (sampleCar f)
def sampleD (f : Int) (n : Nat) : BldD := ⟨f, 1, 4000, 30, 4591870180066957722, 4605380978949069210, 4607632778762754458, sampleCars f n⟩

theorem sampleCars_length (f : Int) (n : Nat) : (sampleCars f n).length = n := by simp [sampleCars]
theorem sampleCars_succ (f : Int) (n : Nat) : sampleCars f (n + 1) = sampleCars f n ++ [sampleCar f n] := by simp [sampleCars, List.range_succ]

/-- What Sample returns: a building whose cars lie in a row that it owns. -/
def SampleOwn (f : Int) (n : Nat) (w : World) (e : Ending) (w' : World) : Prop :=
  ∃ A cap, e = .returned ((sampleD f n).agg A cap) ∧ w'.ownsRow (w.heap.size + 2) 90 9 (.slice A n cap) n (flatCars (sampleCars f n)) ∧ Below w.heap.size w w'

/-- What Sample returns: a building whose cars lie in memory that it has made. -/
def SampleSaid (f : Int) (n : Nat) (w : World) (e : Ending) (w' : World) : Prop :=
  ∃ A cap, e = .returned ((sampleD f n).agg A cap) ∧ CarsAt w' w'.heap.size A (sampleCars f n) ∧ Below w.heap.size w w' ∧ (∀ a, A = some a → w.heap.size ≤ a.block)

set_option maxHeartbeats 1000000 in
theorem sample_own (f : Int) (n : Nat) (w : World) (hf1 : 2 ≤ f) (hf2 : f ≤ 1000) (hn : n ≤ 1000) :
    Calls Try.prog 29 #[.int .i64 f, .int .i64 n] w (SampleOwn f n w) := by
  obtain ⟨i0, hi0, hz0, hz1, hz2⟩ := info_parts carInfo
  go_enter Try.func29, Try.ntmps29
  go_wp2_with fail
  go_loopw [6] (fun v wr => ∃ (k : Nat) (A : Option Addr) (cap : Nat), k ≤ n ∧ v = .int .i64 k ∧ wr.ownsRow (w.heap.size + 2) 90 9 (.slice A k cap) k (flatCars (sampleCars f k)) ∧ wr.heap[w.heap.size]? = some (.cells #[.int .i64 0, .int .i64 0, .int .i64 0, .int .i64 0, .float .f64 0, .float .f64 0, .float .f64 0, .slice none 0 0] 26 (0, 0)) ∧
      wr.heap[w.heap.size + 1]? = some (.cells #[.int .i64 f, .int .i64 1, .int .i64 4000, .int .i64 30, .float .f64 4591870180066957722, .float .f64 4605380978949069210, .float .f64 4607632778762754458, .slice A k cap] 26 (0, 0)) ∧ Below w.heap.size w wr) (fun v _ => n - (intOf v).toNat)
  case atStart =>
    refine ⟨0, none, 0, Nat.zero_le _, rfl, World.ownsRow_nil _ _ _ _, ?_, ?_, ?_⟩
    · rw [Below.heap_alloc _ _ _ (by simp)]
      exact heap_alloc_new _ _
    · have h := heap_alloc_new (w.alloc (.cells #[.int .i64 0, .int .i64 0, .int .i64 0, .int .i64 0, .float .f64 0, .float .f64 0, .float .f64 0, .slice none 0 0] 26)) (.cells #[.int .i64 f, .int .i64 1, .int .i64 4000, .int .i64 30, .float .f64 4591870180066957722, .float .f64 4605380978949069210, .float .f64 4607632778762754458, .slice none 0 0] 26)
      simpa using h
    · go_grown
  case round =>
    obtain ⟨k, A, cap, hk, rfl, hown, hb4, hb5, hbel⟩ := hrel
    have hcell : wr.cell? ⟨w.heap.size + 1, 7, none⟩ = some (.slice A k cap) := cell_of_row _ _ _ _ _ (0, 0) hb5
    have hfrz : wr.frozen? ⟨w.heap.size + 1, 7, none⟩ = false := by simp [World.frozen?, hb5]
    have hsz : w.heap.size + 1 < wr.heap.size := by
      rcases Nat.lt_or_ge (w.heap.size + 1) wr.heap.size with h | h
      · exact h
      · rw [Array.getElem?_eq_none h] at hb5; cases hb5
    by_cases hlt : k < n
    · have hf0 : ¬ f = 0 := by omega
      have hmod : (k : Int).tmod f = (k : Int) % f := Int.tmod_eq_emod_of_nonneg (by omega)
      have hk0 : (0 : Int) ≤ k := by omega
      have HO := Lib.hid hown
      have H4 := Lib.hid hb4
      have H5 := Lib.hid hb5
      clear hown hb4 hb5
      go_wp2_with fail
      go_region_law (refine step_append_lies _ rfl (.tmp 15) (.tmp 20) 24 rfl (w.heap.size + 2) 90 i0 _ 9 72 Try.underlying24 hi0 hz0 hz1 hz2 rfl (by omega) (.slice A k cap) k (flatCars (sampleCars f k)) rfl (HO.out.drew.alloc _) ⟨wr.heap.size, 0, none⟩ 1 1 (sampleCar f k).cells rfl rfl (World.news_of_block (fr := (0, 0)) (heap_alloc_new _ _)) (by intro u hu; simp [CarD.cells, CarD.vals, sampleCar] at hu; rcases hu with rfl | rfl | rfl | rfl | rfl | rfl | rfl | rfl | rfl <;> rfl) (by omega) (by unfold maxLen; omega) (by omega) (by simp; omega) (wr.heap.size + 1) (by simp) ?_; intro g cap' w1 hown1 hgrow hat hlt1; have hbs := own_step HO.out (by omega) hgrow; have hc1 : w1.cell? ⟨w.heap.size + 1, 7, none⟩ = some (.slice A k cap) := (hbs.cell (p := ⟨w.heap.size + 1, 7, none⟩) (Nat.lt_succ_self _)).trans hcell; have hfr1 : w1.frozen? ⟨w.heap.size + 1, 7, none⟩ = false := (hbs.frozen (p := ⟨w.heap.size + 1, 7, none⟩) (Nat.lt_succ_self _)).trans hfrz)
      all_goals
        go_wp2
        go_roundw
        case rel =>
          refine ⟨k + 1, some ⟨g, 0, none⟩, cap', by omega, by go_num, ?_, ?_, ?_, ?_⟩
          · rw [sampleCars_succ, flatCars_snoc]
            exact ownsRow_setCell_below hown1 (Nat.lt_succ_self _) _
          · rw [Below.heap_setCell _ _ _ _ (by show w.heap.size ≠ w.heap.size + 1; omega), hbs.block _ (by omega)]
            exact H4.out
          · have h5 := (hbs.block (w.heap.size + 1) (by omega)).trans H5.out
            simp [World.setCell, Array.getElem?_modify, h5]
          · exact (hbel.trans (hbs.mono (by omega))).setCell (by show w.heap.size ≤ w.heap.size + 1; omega) _
        case measure => simp [intOf]; omega
    · obtain rfl : k = n := by omega
      have HO := Lib.hid hown
      clear hown hcell hfrz
      have p0 : wr.cell? ⟨w.heap.size, 0, none⟩ = some (.int .i64 0) := cell_of_row _ _ _ _ _ (0, 0) hb4
      have q0 : wr.frozen? ⟨w.heap.size, 0, none⟩ = false := by simp [World.frozen?, hb4]
      have r0 : wr.cell? ⟨w.heap.size + 1, 0, none⟩ = some (.int .i64 f) := cell_of_row _ _ _ _ _ (0, 0) hb5
      have p1 : wr.cell? ⟨w.heap.size, 1, none⟩ = some (.int .i64 0) := cell_of_row _ _ _ _ _ (0, 0) hb4
      have q1 : wr.frozen? ⟨w.heap.size, 1, none⟩ = false := by simp [World.frozen?, hb4]
      have r1 : wr.cell? ⟨w.heap.size + 1, 1, none⟩ = some (.int .i64 1) := cell_of_row _ _ _ _ _ (0, 0) hb5
      have p2 : wr.cell? ⟨w.heap.size, 2, none⟩ = some (.int .i64 0) := cell_of_row _ _ _ _ _ (0, 0) hb4
      have q2 : wr.frozen? ⟨w.heap.size, 2, none⟩ = false := by simp [World.frozen?, hb4]
      have r2 : wr.cell? ⟨w.heap.size + 1, 2, none⟩ = some (.int .i64 4000) := cell_of_row _ _ _ _ _ (0, 0) hb5
      have p3 : wr.cell? ⟨w.heap.size, 3, none⟩ = some (.int .i64 0) := cell_of_row _ _ _ _ _ (0, 0) hb4
      have q3 : wr.frozen? ⟨w.heap.size, 3, none⟩ = false := by simp [World.frozen?, hb4]
      have r3 : wr.cell? ⟨w.heap.size + 1, 3, none⟩ = some (.int .i64 30) := cell_of_row _ _ _ _ _ (0, 0) hb5
      have p4 : wr.cell? ⟨w.heap.size, 4, none⟩ = some (.float .f64 0) := cell_of_row _ _ _ _ _ (0, 0) hb4
      have q4 : wr.frozen? ⟨w.heap.size, 4, none⟩ = false := by simp [World.frozen?, hb4]
      have r4 : wr.cell? ⟨w.heap.size + 1, 4, none⟩ = some (.float .f64 4591870180066957722) := cell_of_row _ _ _ _ _ (0, 0) hb5
      have p5 : wr.cell? ⟨w.heap.size, 5, none⟩ = some (.float .f64 0) := cell_of_row _ _ _ _ _ (0, 0) hb4
      have q5 : wr.frozen? ⟨w.heap.size, 5, none⟩ = false := by simp [World.frozen?, hb4]
      have r5 : wr.cell? ⟨w.heap.size + 1, 5, none⟩ = some (.float .f64 4605380978949069210) := cell_of_row _ _ _ _ _ (0, 0) hb5
      have p6 : wr.cell? ⟨w.heap.size, 6, none⟩ = some (.float .f64 0) := cell_of_row _ _ _ _ _ (0, 0) hb4
      have q6 : wr.frozen? ⟨w.heap.size, 6, none⟩ = false := by simp [World.frozen?, hb4]
      have r6 : wr.cell? ⟨w.heap.size + 1, 6, none⟩ = some (.float .f64 4607632778762754458) := cell_of_row _ _ _ _ _ (0, 0) hb5
      have p7 : wr.cell? ⟨w.heap.size, 7, none⟩ = some (.slice none 0 0) := cell_of_row _ _ _ _ _ (0, 0) hb4
      have q7 : wr.frozen? ⟨w.heap.size, 7, none⟩ = false := by simp [World.frozen?, hb4]
      have r7 : wr.cell? ⟨w.heap.size + 1, 7, none⟩ = some (.slice A k cap) := cell_of_row _ _ _ _ _ (0, 0) hb5
      clear hb4 hb5
      go_wp2
      refine bodyPost_ret (v := .agg #[.int .i64 f, .int .i64 1, .int .i64 4000, .int .i64 30, .float .f64 4591870180066957722, .float .f64 4605380978949069210, .float .f64 4607632778762754458, .slice A k cap]) (by simp [results, Try.results29, go_sem, p0, p1, p2, p3, p4, p5, p6, p7]) rfl ?_
      refine ⟨A, cap, by rw [BldD.agg]; simp [sampleD, sampleCars_length], ?_, ?_⟩
      · iterate 8 (refine ownsRow_setCell_below ?_ (by show w.heap.size < w.heap.size + 2; omega) _)
        exact HO.out
      · iterate 8 (refine Below.setCell ?_ (by show w.heap.size ≤ w.heap.size; omega) _)
        exact hbel

theorem sample_any (f : Int) (n : Nat) (w : World) (hf1 : 2 ≤ f) (hf2 : f ≤ 1000) (hn : n ≤ 1000) :
    Calls Try.prog 29 #[.int .i64 f, .int .i64 n] w (SampleSaid f n w) :=
  (sample_own f n w hf1 hf2 hn).mono fun e w' ⟨A, cap, he, hown, hb⟩ => by
    refine ⟨A, cap, he, ?_, hb, ?_⟩
    · have ho : w'.ownsRow (w.heap.size + 2) 90 9 (.slice A (sampleCars f n).length cap) (sampleCars f n).length (flatCars (sampleCars f n)) := by rw [sampleCars_length]; exact hown
      exact CarsAt.of_own ho
    · rintro a rfl
      have := (hown.lt a.block rfl).1
      omega
end
end Go.Proofs.Ytifbkoaggjikpaa
