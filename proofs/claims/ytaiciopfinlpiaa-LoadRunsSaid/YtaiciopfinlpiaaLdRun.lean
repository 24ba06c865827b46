/- Run of load: the classes behind some loads; Same. No statement of the seat is proved here. -/
import Derived.Test.YtaiciopfinlpiaaLdRow
import Derived.Test.YtaiciopfinlpiaaLdStep2
namespace Go.Proofs.Ytaiciopfinlpiaa
open Go.RowKit

/-- What is laid behind k loads. -/
def outsK (b : BldD) (s : Int) (l : List Nat) (k : Nat) : List Int := (List.range l.length).map fun i => if i < k then runF b s (l.take (i + 1)) else 0
theorem outsK_len (b : BldD) (s : Int) (l : List Nat) (k : Nat) : (outsK b s l k).length = l.length := by simp [outsK]
theorem outsK_zero (b : BldD) (s : Int) (l : List Nat) : outsK b s l 0 = List.replicate l.length 0 := by
  apply List.ext_getElem (by simp [outsK])
  intro i h1 h2
  simp [outsK]
theorem outsK_all (b : BldD) (s : Int) (l : List Nat) : outsK b s l l.length = outsF b s l := by
  apply List.ext_getElem (by simp [outsK, outsF])
  intro i h1 h2
  rw [outsK_len] at h1
  simp [outsK, outsF, h1]
theorem outsK_succ (b : BldD) (s : Int) (l : List Nat) (k : Nat) : outsK b s l (k + 1) = (outsK b s l k).set k (runF b s (l.take (k + 1))) := by
  apply List.ext_getElem (by simp [outsK])
  intro i h1 h2
  rw [List.getElem_set]
  simp only [outsK, List.getElem_map, List.getElem_range]
  by_cases e : k = i
  · subst e; rw [if_pos (by omega), if_pos rfl]
  · rw [if_neg e]
    by_cases h : i < k
    · rw [if_pos h, if_pos (by omega)]
    · rw [if_neg h, if_neg (by omega)]
theorem runF_take (b : BldD) (s : Int) (l : List Nat) {k : Nat} (h : k < l.length) : runF b s (l.take (k + 1)) = stepF b (runF b s (l.take k)) l[k] := by
  rw [List.take_succ_eq_append_getElem h, runF_snoc]
theorem outsF_snoc (b : BldD) (s : Int) (l : List Nat) {k : Nat} (h : k < l.length) : outsF b s (l.take (k + 1)) = outsF b s (l.take k) ++ [runF b s (l.take (k + 1))] := by
  unfold outsF
  rw [List.length_take, List.length_take, show min (k + 1) l.length = k + 1 from by omega, show min k l.length = k from by omega, List.range_succ, List.map_append]
  congr 1
  · apply List.map_congr_left
    intro i hi
    have := List.mem_range.1 hi
    rw [List.take_take, List.take_take, show min (i + 1) (k + 1) = i + 1 from by omega, show min (i + 1) k = i + 1 from by omega]
  · simp only [List.map_cons, List.map_nil]
    rw [List.take_take, Nat.min_self]
theorem outsF_at (b : BldD) (s : Int) (l : List Nat) {k : Nat} (h : k < l.length) : (outsF b s l)[k]'(by rw [outsF_len]; exact h) = runF b s (l.take (k + 1)) := by simp [outsF]

theorem nums_set (l : List Int) (k : Nat) (z : Int) : (nums l).toArray.setIfInBounds k (.int .i64 z) = (nums (l.set k z)).toArray := by
  simp [nums, List.map_set]

theorem row_set {wx : World} {b : Nat} {cs : Array Value} {t : TypeId} (h : wx.heap[b]? = some (.cells cs t (0, 0))) (i : Nat) (v : Value) : (wx.setCell ⟨b, i, none⟩ v).heap[b]? = some (.cells (cs.setIfInBounds i v) t (0, 0)) := by
  simp [World.setCell, Array.getElem?_modify, h]
/-- make([]T, n) of a type of one cell. -/
theorem make_nums (n : Nat) (hn : n ≤ 1000000) : ∀ w : World, (Instr.makeSlice 37 (.int .i64 n) (.int .i64 n)).run Try.prog w = .ok (.slice (some ⟨w.heap.size, 0, none⟩) n n) (w.alloc (.cells (nums (List.replicate n 0)).toArray 3)) := by
  intro w
  have := run_make (P := Try.prog) w 37 3 Try.t3 (.int .i64 0) Try.underlying37 (by kernel_rfl) (by kernel_rfl) .i64 .i64 n n (by omega) (Int.le_refl _) (by show ((8 : Nat) : Int) * (n : Int) ≤ _; omega) (by omega)
  rw [this, Int.toNat_natCast]
  have e : madeCells (Value.int .i64 0).cells (n * (Try.t3).size) = (nums (List.replicate n 0)).toArray := by
    apply Array.ext
    · rw [size_madeCells, List.size_toArray, nums_len, List.length_replicate]; show n * 1 = n; omega
    · intro i h1 h2
      have hi : i % 1 = 0 := Nat.mod_one i
      simp [madeCells, Value.cells, hi, nums]
  rw [e]
theorem make_flts (n : Nat) (hn : n ≤ 1000000) : ∀ w : World, (Instr.makeSlice 29 (.int .i64 n) (.int .i64 n)).run Try.prog w = .ok (.slice (some ⟨w.heap.size, 0, none⟩) n n) (w.alloc (.cells (flts (List.replicate n 0)).toArray 22)) := by
  intro w
  have := run_make (P := Try.prog) w 29 22 Try.t22 (.float .f64 0) Try.underlying29 (by kernel_rfl) (by kernel_rfl) .i64 .i64 n n (by omega) (Int.le_refl _) (by show ((8 : Nat) : Int) * (n : Int) ≤ _; omega) (by omega)
  rw [this, Int.toNat_natCast]
  have e : madeCells (Value.float .f64 0).cells (n * (Try.t22).size) = (flts (List.replicate n 0)).toArray := by
    apply Array.ext
    · rw [size_madeCells, List.size_toArray, flts_len, List.length_replicate]; show n * 1 = n; omega
    · intro i h1 h2
      have hi : i % 1 = 0 := Nat.mod_one i
      simp [madeCells, Value.cells, hi, flts]
  rw [e]

set_option maxHeartbeats 4000000 in
theorem run_any (b : BldD) (A : Option Addr) (cap : Nat) (s : Int) (l : List Nat) (L : Option Addr) (lcap : Nat) (w : World) (hn : b.cars.length ≤ 140737488355328) (hc : CarsAt w w.heap.size A b.cars) (hl : l.length ≤ 5000) (hL : VAt w L (flts l)) :
    Calls Try.prog 15 #[b.agg A cap, .agg #[.int .i64 s], .slice L l.length lcap] w fun e w' => e = .returned (.slice (some ⟨w.heap.size + 2, 0, none⟩) l.length l.length) ∧ w'.heap[w.heap.size + 2]? = some (.cells (nums (outsF b s l)).toArray 3 (0, 0)) ∧ Below w.heap.size w w' := by
  have FS := Lib.hid (fun wx s x (h : Below w.heap.size w wx) => step_any b A cap x s wx hn ((hc.below h).more h.size))
  have HL := Lib.hid hL
  have hmk := make_nums l.length (by omega)
  have e0 := outsK_zero b s l
  have e1 := outsK_all b s l
  have e2 := fun k => outsK_succ b s l k
  have e3 := fun k => outsK_len b s l k
  have e4 := fun k (h : k < l.length) => runF_take b s l h
  have ez : runF b s (l.take 0) = s := rfl
  have HE := Lib.hid (And.intro e0 (And.intro e1 (And.intro e2 (And.intro e3 (And.intro e4 ez)))))
  rw [← e0] at hmk
  clear hc hL e0 e1 e2 e3 e4 ez
  generalize hO : outsF b s l = O at *
  generalize hOK : outsK b s l = OK at *
  generalize hRF : (fun k => runF b s (l.take k)) = RF at *
  have HEq := Lib.hid (And.intro hO (And.intro hOK hRF))
  clear hO hOK hRF
  replace HE : Hid (OK 0 = List.replicate l.length 0 ∧ OK l.length = O ∧ (∀ k, OK (k + 1) = (OK k).set k (RF (k + 1))) ∧ (∀ k, (OK k).length = l.length) ∧ (∀ k (h : k < l.length), RF (k + 1) = stepF b (RF k) l[k]) ∧ RF 0 = s) := by
    obtain ⟨-, -, rfl⟩ := HEq.out
    exact HE
  clear HEq
  obtain ⟨f, d, r, p, e1, e2, e3, cs⟩ := b
  simp only [BldD.agg] at FS ⊢
  go_enter Try.func15, Try.ntmps15
  go_wp2_with fail
  obtain ⟨W, hW⟩ : ∃ W, W = ((w.alloc (.cells #[.int .i64 f, .int .i64 d, .int .i64 r, .int .i64 p, .float .f64 e1, .float .f64 e2, .float .f64 e3, .slice A cs.length cap] 25)).alloc (.cells #[.int .i64 s] 34)).alloc (.cells (nums (OK 0)).toArray 3) := ⟨_, rfl⟩
  have h0 : W.heap[w.heap.size]? = some (.cells #[.int .i64 f, .int .i64 d, .int .i64 r, .int .i64 p, .float .f64 e1, .float .f64 e2, .float .f64 e3, .slice A cs.length cap] 25 (0, 0)) ∧ W.heap[w.heap.size + 1]? = some (.cells #[.int .i64 (RF 0)] 34 (0, 0)) ∧ W.heap[w.heap.size + 2]? = some (.cells (nums (OK 0)).toArray 3 (0, 0)) ∧ Below w.heap.size w W := by
    rw [hW, HE.out.2.2.2.2.2]
    refine ⟨?_, ?_, ?_, by go_grown⟩
    · rw [Below.heap_alloc _ _ _ (by simp; omega), Below.heap_alloc _ _ _ (by simp)]
      exact heap_alloc_new _ _
    · rw [Below.heap_alloc _ _ _ (by simp)]
      have := heap_alloc_new (w.alloc (.cells #[.int .i64 f, .int .i64 d, .int .i64 r, .int .i64 p, .float .f64 e1, .float .f64 e2, .float .f64 e3, .slice A cs.length cap] 25)) (.cells #[.int .i64 s] 34)
      simpa using this
    · have := heap_alloc_new ((w.alloc (.cells #[.int .i64 f, .int .i64 d, .int .i64 r, .int .i64 p, .float .f64 e1, .float .f64 e2, .float .f64 e3, .slice A cs.length cap] 25)).alloc (.cells #[.int .i64 s] 34)) (.cells (nums (OK 0)).toArray 3)
      simpa using this
  have H0 := Lib.hid h0
  clear h0 hmk
  go_loopw [18] (fun i wr => ∃ k : Nat, k ≤ l.length ∧ i = .int .i64 k ∧ wr.heap[w.heap.size]? = some (.cells #[.int .i64 f, .int .i64 d, .int .i64 r, .int .i64 p, .float .f64 e1, .float .f64 e2, .float .f64 e3, .slice A cs.length cap] 25 (0, 0)) ∧ wr.heap[w.heap.size + 1]? = some (.cells #[.int .i64 (RF k)] 34 (0, 0)) ∧ wr.heap[w.heap.size + 2]? = some (.cells (nums (OK k)).toArray 3 (0, 0)) ∧ Below w.heap.size w wr) (fun i _ => l.length - (intOf i).toNat)
  case atStart => exact ⟨0, Nat.zero_le _, rfl, hW ▸ H0.out⟩
  case round =>
    obtain ⟨k, hk, rfl, h0, h1, h2, hbw⟩ := hrel
    have hsr : w.heap.size + 2 < wr.heap.size := by
      rcases Nat.lt_or_ge (w.heap.size + 2) wr.heap.size with h | h
      · exact h
      · rw [Array.getElem?_eq_none h] at h2; cases h2
    by_cases hlt : k < l.length
    · obtain ⟨g, off, rfl, hg, hx⟩ := (HL.out.below hbw).flt hlt
      have F1 := Lib.hid (fun wx => FS.out wx (RF k) l[k])
      rw [← HE.out.2.2.2.2.1 k hlt] at F1
      generalize l[k] = x at *
      obtain ⟨c0, c1, c2, c3, c4, c5, c6, c7⟩ := boxRow h0
      have k0 : wr.cell? ⟨w.heap.size + 1, 0, none⟩ = some (.int .i64 (RF k)) := cell_of_row _ _ _ _ _ (0, 0) h1
      have HW := Lib.hid (And.intro h0 (And.intro h1 (And.intro h2 hbw)))
      clear h0 h1 h2 hbw
      go_wp2_with fail
      refine (F1.out _ HW.out.2.2.2).mono ?_
      rintro e w2 ⟨rfl, hb⟩
      clear c0 c1 c2 c3 c4 c5 c6 c7 k0 hx
      have r0 := (hb.block _ (by omega)).trans HW.out.1
      have r1 := (hb.block _ (by omega)).trans HW.out.2.1
      have r2 := (hb.block _ (by omega)).trans HW.out.2.2.1
      have k0 : w2.cell? ⟨w.heap.size + 1, 0, none⟩ = some (.int .i64 (RF k)) := cell_of_row _ _ _ _ _ (0, 0) r1
      have q0 : w2.frozen? ⟨w.heap.size + 1, 0, none⟩ = false := frozen_of_row _ _ _ _ _ r1
      have j0 : w2.cell? ⟨w.heap.size + 2, k, none⟩ = (nums (OK k))[k]? := (cell_of_row _ _ _ _ _ (0, 0) r2).trans (by simp)
      have hkk : k < (OK k).length := by rw [HE.out.2.2.2.1]; exact hlt
      have j1 : (nums (OK k))[k]? = some (.int .i64 (OK k)[k]) := by simp [nums, hkk]
      rw [j1] at j0
      have q1 : w2.frozen? ⟨w.heap.size + 2, k, none⟩ = false := frozen_of_row _ _ _ _ _ r2
      have hz := hb.size
      have HR := Lib.hid (And.intro r0 (And.intro r1 (And.intro r2 (HW.out.2.2.2.trans (hb.mono HW.out.2.2.2.size)))))
      clear r0 r1 r2 hb j1
      generalize (OK k)[k] = old at *
      go_wp2_with fail
      go_roundw
      case rel =>
        refine ⟨k + 1, by omega, by go_num, ?_, ?_, ?_, ?_⟩
        · rw [Below.heap_setCell _ _ _ _ (by show w.heap.size ≠ w.heap.size + 2; omega), Below.heap_setCell _ _ _ _ (by show w.heap.size ≠ w.heap.size + 1; omega)]
          exact HR.out.1
        · rw [Below.heap_setCell _ _ _ _ (by show w.heap.size + 1 ≠ w.heap.size + 2; omega)]
          exact row_set HR.out.2.1 0 _
        · rw [HE.out.2.2.1, ← nums_set]
          exact row_set ((Below.heap_setCell _ _ _ _ (by show w.heap.size + 2 ≠ w.heap.size + 1; omega)).trans HR.out.2.2.1) k _
        · exact (HR.out.2.2.2.setCell (by show w.heap.size ≤ w.heap.size + 1; omega) _).setCell (by show w.heap.size ≤ w.heap.size + 2; omega) _
      case measure => simp [intOf]; omega
    · obtain rfl : k = l.length := by omega
      have HR := Lib.hid (And.intro h2 hbw)
      clear h0 h1 h2 hbw
      go_wp2_with fail
      go_ret
      exact ⟨rfl, HE.out.2.1 ▸ HR.out.1, HR.out.2⟩
end Go.Proofs.Ytaiciopfinlpiaa
