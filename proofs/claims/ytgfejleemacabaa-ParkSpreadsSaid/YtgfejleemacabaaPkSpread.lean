/- Spread of park, of both sides. No statement of the seat is proved here. -/
import Derived.Test.YtgfejleemacabaaPkMath
import Derived.Test.YtgfejleemacabaaPkRow
namespace Go.Proofs.Ytgfejleemacabaa
open Go.RowKit

/-- What is laid behind k cars. -/
def shareK (n : Nat) (f : Int) (k : Nat) : List Int := (List.range n).map fun i => if i < k then shareF n f i else 0
theorem shareK_len (n : Nat) (f : Int) (k : Nat) : (shareK n f k).length = n := by simp [shareK]
theorem shareK_zero (n : Nat) (f : Int) : shareK n f 0 = List.replicate n 0 := by
  apply List.ext_getElem (by simp [shareK])
  intro i h1 h2
  simp [shareK]
theorem shareK_all (n : Nat) (f : Int) : shareK n f n = (List.range n).map (shareF n f) := by
  apply List.ext_getElem (by simp [shareK])
  intro i h1 h2
  rw [shareK_len] at h1
  simp [shareK, h1]
theorem shareK_succ (n : Nat) (f : Int) (k : Nat) : shareK n f (k + 1) = (shareK n f k).set k (shareF n f k) := by
  apply List.ext_getElem (by simp [shareK])
  intro i h1 h2
  rw [List.getElem_set]
  simp only [shareK, List.getElem_map, List.getElem_range]
  by_cases e : k = i
  · subst e; rw [if_pos (by omega), if_pos rfl]
  · rw [if_neg e]
    by_cases h : i < k
    · rw [if_pos h, if_pos (by omega)]
    · rw [if_neg h, if_neg (by omega)]
def shareP (n : Nat) (f : Int) (k : Nat) : List Int := (List.range k).map (shareF n f)
theorem shareP_len (n : Nat) (f : Int) (k : Nat) : (shareP n f k).length = k := by simp [shareP]
theorem shareP_succ (n : Nat) (f : Int) (k : Nat) : shareP n f (k + 1) = shareP n f k ++ [shareF n f k] := by simp [shareP, List.range_succ]
theorem share_quot {n k : Nat} {f : Int} (h1 : 2 ≤ f) : ((2 * (k : Int) + 1) * f).tdiv (2 * (n : Int)) = shareF n f k := by
  unfold shareF
  exact Int.tdiv_eq_ediv_of_nonneg (Int.mul_nonneg (by omega) (by omega))
theorem share_prod {k : Nat} {f : Int} (h1 : 2 ≤ f ∧ f ≤ 32) (hk : k < 8) : 0 ≤ (2 * (k : Int) + 1) * f ∧ (2 * (k : Int) + 1) * f ≤ 480 := by
  have a : (2 * (k : Int) + 1) ≤ 15 := by omega
  exact ⟨Int.mul_nonneg (by omega) (by omega), Int.le_trans (Int.mul_le_mul a h1.2 (by omega) (by decide)) (by decide)⟩

set_option maxHeartbeats 4000000 in
theorem spread_any (b : BldD) (A : Option Addr) (cap : Nat) (w : World) (hn : b.cars.length ≤ 140737488355328) (hc : CarsAt w w.heap.size A b.cars) :
    Calls Try.prog 10 #[b.agg A cap] w fun e w' => ∃ v, e = .returned v ∧ VV w' v (nums (spreadF b)) ∧ Below w.heap.size w w' := by
  have FV := Lib.hid (fun wx (h : Below w.heap.size w wx) => valid_any b A cap wx hn ((hc.below h).more h.size))
  clear hc
  by_cases hv : validE b = 0
  · obtain ⟨⟨hf1, hf2⟩, ⟨hn1, hn2⟩, -, -⟩ := fineP_of hv
    rw [hv] at FV
    have HS := Lib.hid (spreadF_good hv)
    clear hv
    obtain ⟨f, d, r, p, e1, e2, e3, cs⟩ := b
    simp only at hf1 hf2 hn1 hn2 HS
    simp only [BldD.agg] at FV ⊢
    generalize hN : cs.length = n at *
    have hq := fun k => share_quot (n := n) (k := k) (f := f) hf1
    have hp := fun k (h : k < 8) => share_prod (k := k) (f := f) ⟨hf1, hf2⟩ h
    have HQ := Lib.hid (And.intro hq hp)
    clear hq hp hN
    go_enter Try.func10, Try.ntmps10
    go_wp2_with fail
    refine (FV.out _ (by go_grown)).mono ?_
    rintro e w1 ⟨rfl, hb1⟩
    have hx1 : Below (w.heap.size + 1) (w.alloc (.cells #[.int .i64 f, .int .i64 d, .int .i64 r, .int .i64 p, .float .f64 e1, .float .f64 e2, .float .f64 e3, .slice A n cap] 25)) w1 := hb1.mono (by simp)
    have HX := Lib.hid hx1
    obtain ⟨-, g0, -, -, -, -, -, -, g7⟩ := boxS hx1
    clear hb1 hx1 FV
    have hmk := make_nums n (by omega)
    rw [← shareK_zero n f] at hmk
    go_wp2_with fail
    obtain ⟨W, hW⟩ : ∃ W, W = w1.alloc (.cells (nums (shareK n f 0)).toArray 3) := ⟨_, rfl⟩
    have hz1 := box_size HX.out
    have h0 : W.heap[w.heap.size]? = some (.cells #[.int .i64 f, .int .i64 d, .int .i64 r, .int .i64 p, .float .f64 e1, .float .f64 e2, .float .f64 e3, .slice A n cap] 25 (0, 0)) ∧ W.heap[w1.heap.size]? = some (.cells (nums (shareK n f 0)).toArray 3 (0, 0)) ∧ Below w.heap.size w W := by
      rw [hW]
      exact ⟨(Below.heap_alloc _ _ _ (by omega)).trans ((HX.out.block _ (by omega)).trans (heap_alloc_new _ _)), heap_alloc_new _ _, (below_of_new HX.out).alloc (by omega) _⟩
    have H0 := Lib.hid h0
    clear h0 hmk g0 g7
    go_loopw [15] (fun i wr => ∃ k : Nat, k ≤ n ∧ i = .int .i64 k ∧ wr.heap[w.heap.size]? = some (.cells #[.int .i64 f, .int .i64 d, .int .i64 r, .int .i64 p, .float .f64 e1, .float .f64 e2, .float .f64 e3, .slice A n cap] 25 (0, 0)) ∧ wr.heap[w1.heap.size]? = some (.cells (nums (shareK n f k)).toArray 3 (0, 0)) ∧ Below w.heap.size w wr) (fun i _ => n - (intOf i).toNat)
    case atStart => exact ⟨0, Nat.zero_le _, rfl, hW ▸ H0.out⟩
    case round =>
      obtain ⟨k, hk, rfl, h0, h1, hbw⟩ := hrel
      have hsr : w1.heap.size < wr.heap.size := by
        rcases Nat.lt_or_ge w1.heap.size wr.heap.size with h | h
        · exact h
        · rw [Array.getElem?_eq_none h] at h1; cases h1
      by_cases hlt : k < n
      · obtain ⟨c0, -, -, -, -, -, -, -⟩ := boxRow h0
        have hkk : k < (shareK n f k).length := by rw [shareK_len]; exact hlt
        have j0 : wr.cell? ⟨w1.heap.size, k, none⟩ = some (.int .i64 (shareK n f k)[k]) := (cell_of_row _ _ _ _ _ (0, 0) h1).trans (by simp [nums, hkk])
        have q1 : wr.frozen? ⟨w1.heap.size, k, none⟩ = false := frozen_of_row _ _ _ _ _ h1
        obtain ⟨hp1, hp2⟩ := HQ.out.2 k (by omega)
        have hq := HQ.out.1 k
        have hnz : ¬ (2 * (n : Int) = 0) := by omega
        have hsw : IntKind.i64.wrap (shareF n f k) = shareF n f k := IntWalk.i64_in _ (by have := share_low (n := n) (i := k) hf1; have := share_high (n := n) (i := k) hf1 hlt; omega)
        have HR := Lib.hid (And.intro h0 (And.intro h1 hbw))
        clear h0 h1 hbw
        generalize (shareK n f k)[k] = old at *
        go_wp2_with fail
        go_roundw
        case rel =>
          refine ⟨k + 1, by omega, by go_num, ?_, ?_, ?_⟩
          · exact (Below.heap_setCell _ _ _ _ (by show w.heap.size ≠ w1.heap.size; omega)).trans HR.out.1
          · rw [shareK_succ, ← nums_set]
            exact row_set HR.out.2.1 k _
          · exact HR.out.2.2.setCell (by show w.heap.size ≤ w1.heap.size; omega) _
        case measure => simp [intOf]; omega
      · obtain rfl : k = n := by omega
        have HR := Lib.hid (And.intro h1 hbw)
        clear h0 h1 hbw
        go_wp2_with fail
        go_ret
        refine ⟨_, rfl, ?_, HR.out.2⟩
        rw [HS.out, ← shareK_all]
        refine ⟨some ⟨w1.heap.size, 0, none⟩, k, by rw [nums_len, shareK_len]; rfl, .inr ⟨w1.heap.size, 0, rfl, hsr, fun j hj => ?_⟩⟩
        rw [Nat.zero_add, cell_of_row _ _ _ _ _ (0, 0) HR.out.1]
        simp
  · have HS := Lib.hid (spreadF_bad hv)
    have hne : (validE b != 0) = true := bne_iff_ne.2 hv
    generalize validE b = V at *
    obtain ⟨f, d, r, p, e1, e2, e3, cs⟩ := b
    simp only at hn
    simp only [BldD.agg] at FV ⊢
    go_enter Try.func10, Try.ntmps10
    go_wp2_with fail
    refine (FV.out _ (by go_grown)).mono ?_
    rintro e w1 ⟨rfl, hb1⟩
    have hx1 : Below (w.heap.size + 1) (w.alloc (.cells #[.int .i64 f, .int .i64 d, .int .i64 r, .int .i64 p, .float .f64 e1, .float .f64 e2, .float .f64 e3, .slice A cs.length cap] 25)) w1 := hb1.mono (by simp)
    have HX := Lib.hid hx1
    obtain ⟨-, g0, -, -, -, -, -, -, g7⟩ := boxS hx1
    clear hb1 hx1 FV
    go_wp2_with fail
    go_ret
    exact ⟨_, rfl, by rw [HS.out]; exact ⟨none, 0, rfl, .inl rfl⟩, below_of_new HX.out⟩

set_option maxHeartbeats 4000000 in
theorem refSpread_any (b : BldD) (A : Option Addr) (cap : Nat) (w : World) (hn : b.cars.length ≤ 140737488355328) (hc : CarsAt w w.heap.size A b.cars) :
    Calls Try.prog 11 #[b.agg A cap] w fun e w' => ∃ v, e = .returned v ∧ VV w' v (nums (spreadF b)) ∧ Below w.heap.size w w' := by
  have FV := Lib.hid (fun wx (h : Below w.heap.size w wx) => refValid_any b A cap wx hn ((hc.below h).more h.size))
  clear hc
  by_cases hv : validE b = 0
  · obtain ⟨⟨hf1, hf2⟩, ⟨hn1, hn2⟩, -, -⟩ := fineP_of hv
    rw [hv] at FV
    have HS := Lib.hid (spreadF_good hv)
    clear hv
    obtain ⟨f, d, r, p, e1, e2, e3, cs⟩ := b
    simp only at hf1 hf2 hn1 hn2 HS
    simp only [BldD.agg] at FV ⊢
    generalize hN : cs.length = n at *
    have hq := fun k => share_quot (n := n) (k := k) (f := f) hf1
    have hp := fun k (h : k < 8) => share_prod (k := k) (f := f) ⟨hf1, hf2⟩ h
    have HQ := Lib.hid (And.intro hq hp)
    clear hq hp hN
    go_enter Try.func11, Try.ntmps11
    go_wp2_with fail
    refine (FV.out _ (by go_grown)).mono ?_
    rintro e w1 ⟨rfl, hb1⟩
    have hx1 : Below (w.heap.size + 1) (w.alloc (.cells #[.int .i64 f, .int .i64 d, .int .i64 r, .int .i64 p, .float .f64 e1, .float .f64 e2, .float .f64 e3, .slice A n cap] 25)) w1 := hb1.mono (by simp)
    have HX := Lib.hid hx1
    obtain ⟨-, g0, -, -, -, -, -, -, g7⟩ := boxS hx1
    clear hb1 hx1 FV
    obtain ⟨i0, hi0, hz0, hz1, hz2⟩ := info_parts intInfo
    go_wp2_with fail
    have hz1' := box_size HX.out
    have H0 := Lib.hid (And.intro ((HX.out.block _ (by omega)).trans (heap_alloc_new _ _)) (below_of_new HX.out))
    clear g0 g7
    go_loopw [3, 5] (fun v i wr => ∃ k : Nat, k ≤ n ∧ i = .int .i64 k ∧ wr.ownsRow (w.heap.size + 1) 3 1 v k (nums (shareP n f k)) ∧ wr.heap[w.heap.size]? = some (.cells #[.int .i64 f, .int .i64 d, .int .i64 r, .int .i64 p, .float .f64 e1, .float .f64 e2, .float .f64 e3, .slice A n cap] 25 (0, 0)) ∧ Below w.heap.size w wr) (fun _ i _ => n - (intOf i).toNat)
    case atStart => exact ⟨0, Nat.zero_le _, rfl, World.ownsRow_nil _ _ _ _, H0.out⟩
    case round =>
      obtain ⟨k, hk, rfl, hown, h0, hbw⟩ := hrel
      have hsr : w.heap.size < wr.heap.size := by
        rcases Nat.lt_or_ge w.heap.size wr.heap.size with h | h
        · exact h
        · rw [Array.getElem?_eq_none h] at h0; cases h0
      by_cases hlt : k < n
      · obtain ⟨c0, -, -, -, -, -, -, -⟩ := boxRow h0
        obtain ⟨hp1, hp2⟩ := HQ.out.2 k (by omega)
        have hq := HQ.out.1 k
        have hnz : ¬ (2 * (n : Int) = 0) := by omega
        have hsw : IntKind.i64.wrap (shareF n f k) = shareF n f k := IntWalk.i64_in _ (by have := share_low (n := n) (i := k) hf1; have := share_high (n := n) (i := k) hf1 hlt; omega)
        have HO := Lib.hid hown
        have HP := Lib.hid (And.intro h0 hbw)
        have hm63 : k + 1 ≤ maxLen := by unfold maxLen; omega
        clear h0 hbw hown
        go_wp2_with (at_builtin; refine wpList_append_own _ rfl (.tmp 17) (.tmp 27) 29 rfl (w.heap.size + 1) 3 i0 _ 1 8 Try.underlying29 hi0 hz0 hz1 hz2 rfl (by decide) u3 k (nums (shareP n f k)) rfl (HO.out.alloc _) ⟨wr.heap.size, 0, none⟩ 1 1 _ rfl ?hl (World.news_of_block (heap_alloc_new _ _)) ?h1 hm63 ?hby ?hbase ?hK)
        case h1 => exact rfl
        case hby => omega
        case hbase => simp; omega
        intro v' w' hown' hgrow _
        have hj : ∀ j, j < w.heap.size + 1 → w'.heap[j]? = wr.heap[j]? := fun j hj => (hgrow.block j (by simp; omega) (fun e => by have := HO.out.lt j e.symm; omega)).trans (Below.heap_alloc _ _ _ (by omega))
        have hbw' := (HP.out.2.alloc (by omega) _).grown hgrow (by simp; omega) (fun k hk => by have := HO.out.lt k hk; omega)
        have hown2 : w'.ownsRow (w.heap.size + 1) 3 1 v' (k + 1) (nums (shareP n f (k + 1))) := by rw [shareP_succ, nums_app]; exact hown'
        have HF := Lib.hid (And.intro hown2 (And.intro ((hj _ (by omega)).trans HP.out.1) hbw'))
        clear hj hbw' hown2 hown' hgrow c0
        go_wp2_with fail
        go_roundw
        case rel => exact ⟨k + 1, by omega, by go_num, HF.out⟩
        case measure => simp [intOf]; omega
      · obtain rfl : k = n := by omega
        have HR := Lib.hid (And.intro hown hbw)
        clear h0 hown hbw
        go_wp2_with fail
        go_ret
        refine ⟨_, rfl, ?_, HR.out.2⟩
        rw [HS.out]
        exact (VV.of_own HR.out.1).2
  · have HS := Lib.hid (spreadF_bad hv)
    have hne : (validE b != 0) = true := bne_iff_ne.2 hv
    generalize validE b = V at *
    obtain ⟨f, d, r, p, e1, e2, e3, cs⟩ := b
    simp only at hn
    simp only [BldD.agg] at FV ⊢
    go_enter Try.func11, Try.ntmps11
    go_wp2_with fail
    refine (FV.out _ (by go_grown)).mono ?_
    rintro e w1 ⟨rfl, hb1⟩
    have hx1 : Below (w.heap.size + 1) (w.alloc (.cells #[.int .i64 f, .int .i64 d, .int .i64 r, .int .i64 p, .float .f64 e1, .float .f64 e2, .float .f64 e3, .slice A cs.length cap] 25)) w1 := hb1.mono (by simp)
    have HX := Lib.hid hx1
    obtain ⟨-, g0, -, -, -, -, -, -, g7⟩ := boxS hx1
    clear hb1 hx1 FV
    go_wp2_with fail
    go_ret
    exact ⟨_, rfl, by rw [HS.out]; exact ⟨none, 0, rfl, .inl rfl⟩, below_of_new HX.out⟩

end Go.Proofs.Ytgfejleemacabaa
