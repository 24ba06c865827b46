/- List of calls. No statement of the seat is proved here. -/
import Derived.Test.YtclkfclbnapamaaCsEach
import Derived.Test.YtclkfclbnapamaaCsRef
namespace Go.Proofs.Ytclkfclbnapamaa
open Go.RowKit Go.Shelf

attribute [local go_sem] Oper.semAt_some

theorem each_stops (n : Nat) (hn : 1 ≤ n) (Bn : Nat) (c : Cs) (hc : c.ok) (w : World) (hB : Bn < w.heap.size)
    (h1 : w.cell? ⟨Bn, 0, none⟩ = some (.int .u32 c.up)) (h2 : w.cell? ⟨Bn, 1, none⟩ = some (.int .u32 c.dn)) :
    SeqStopsK Fence.wide n Try.prog 33 #[.pointer (some ⟨Bn, 0, none⟩)] encP (KeepB Bn) (fun ys => ys = Cs.prs c 32) (fun _ => True) 67 w := fun l J Jx W hW hJ _ hY h0 =>
  (each1_in n hn l Bn c hc J Jx W hJ hY (Nat.lt_of_lt_of_le hB hW.size) ((hW.cell (p := ⟨Bn, 0, none⟩) hB).trans h1) ((hW.cell (p := ⟨Bn, 1, none⟩) hB).trans h2) h0).mono
    fun _ _ ⟨he, h⟩ => ⟨he, h.elim (fun h => .inl h) (fun ⟨pre, h⟩ => .inr ⟨pre, trivial, h⟩)⟩

set_option maxHeartbeats 1000000 in
theorem each_in (n : Nat) (c : Cs) (w : World) :
    CallsIn Fence.wide n Try.prog 31 #[c.agg] w fun e w' => e = .returned (.func (.func 33) #[] #[.pointer (some ⟨w.heap.size, 0, none⟩)]) ∧ w' = w.alloc (.cells #[.int .u32 c.up, .int .u32 c.dn] 24) := by
  obtain ⟨c1, c2⟩ := c
  simp only [Cs.agg]
  refine callsIn_of_wp Try.func31 rfl trivial ?_ rfl
  simp only [Try.ntmps31, List.size_toArray, List.length_cons, List.length_nil, Nat.reduceAdd, Nat.reduceSub, Array.replicate_succ, Array.replicate_zero, List.push_toArray, List.append_toArray, List.nil_append, List.cons_append]
  gi_wp2
  go_ret
  exact ⟨rfl, rfl⟩

theorem ownFrom_keepB {β : Type} {b B : Nat} {W0 : World} (hb : b < W0.heap.size) (hB : b < B) : OwnFrom B (fun (_ : β) W => KeepB b W0 W) :=
  fun _ W W' row hs hg hr => hs.trans ⟨hg.size, hg.block b (Nat.lt_of_lt_of_le hb hs.size) (fun e => by have := (hr b e.symm).1; omega)⟩
theorem not_row {W : World} {b base size k : Nat} {t e : TypeId} {cs : Array Value} {fr : Nat × Nat} {v : Value} {xs : List Value} (h : W.heap[b]? = some (.cells cs t fr)) (hte : t ≠ e) (hr : W.ownsRow base e size v k xs) : some b ≠ v.ownBlock := by
  rcases hr.2 with ⟨rfl, _⟩ | ⟨g, cap, cur, rfl, _, hgb, _⟩
  · simp [Value.ownBlock]
  · intro e'
    obtain rfl : b = g := by simpa [Value.ownBlock] using e'
    have := h.symm.trans hgb
    simp at this
    exact hte this.2.1
theorem en_one (x : Nat × Nat) : ∀ u ∈ (Cs.en x).cells, u.oneCell' = true := by
  intro u hu
  simp only [En.cells, List.mem_cons, List.not_mem_nil, or_false] at hu
  rcases hu with rfl | rfl | rfl | rfl | rfl <;> rfl

set_option maxRecDepth 100000 in
set_option maxHeartbeats 4000000 in
theorem list_in (n : Nat) (hn : 3 ≤ n) (c : Cs) (hc : c.ok) (w : World) :
    CallsIn Fence.wide n Try.prog 23 #[c.agg] w fun e W' => ∃ v, e = .returned v ∧ W'.ownsRow w.heap.size 38 5 v (Cs.ents c).length (flatE (Cs.ents c)) ∧ Below w.heap.size w W' := by
  have h1 : 1 ≤ n := by omega
  obtain ⟨i0, hi, hz0, hz1, hz2⟩ := info_parts enInfo
  have FC := Lib.hid (fun w => count_any c w hc)
  have FE := Lib.hid (fun n w => each_in n c w)
  have ST := Lib.hid (fun n hn Bn w hB h1 h2 => each_stops n hn Bn c hc w hB h1 h2)
  have hcl := Cs.count_le hc
  have HBX := Lib.hid (fun (wx : World) (h : Below (w.heap.size + 1) (w.alloc (.cells #[.int .u32 c.up, .int .u32 c.dn] 24)) wx) => boxCs h)
  rw [show Cs.ents c = (Cs.prs c 32).map Cs.en from rfl]
  generalize Cs.prs c 32 = E at *
  generalize Cs.count c = cn at *
  obtain ⟨c1, c2⟩ := c
  simp only [Cs.agg] at *
  clear hc
  refine callsIn_of_wp_marks Try.func23 rfl trivial ?_ rfl
  simp only [Try.ntmps23, List.size_toArray, List.length_cons, List.length_nil, Nat.reduceAdd, Nat.reduceSub, Array.replicate_succ, Array.replicate_zero, List.push_toArray, List.append_toArray, List.nil_append, List.cons_append]
  gi_wp2_with (first
    | (refine ⟨trivial, ?_⟩; gi_at_call 25; refine (callsIn_wide.2 (FC.out _)).mono ?_; rintro e w1 ⟨rfl, hb⟩; have HB := Lib.hid (hb.mono (show w.heap.size + 1 ≤ _ by simp)); clear hb)
    | (refine wpListIn_make_own w1 rfl (.const (.int .i64 0)) (.tmp 7) 31 rfl w.heap.size 38 i0 _ 5 Try.underlying31 hi hz0 hz1 .i64 .i64 cn cn rfl rfl rfl (by rw [hz2]; omega) (by unfold maxLen; omega) (by have := size1 HB.out; omega) ?_; intro w2 hown hgrow; have hb2 := HB.out.grown hgrow (size1 HB.out) (fun k e => by cases e); have HO := Lib.hid (And.intro hown hb2); obtain ⟨k0, k1⟩ := HBX.out _ hb2; have hs1 := size1 hb2; have hlt : w.heap.size < w2.heap.size := (by omega); have hne : ¬ w.heap.size = w2.heap.size := (by omega); clear hown hgrow hb2)
    | (refine ⟨trivial, ?_⟩; gi_at_call 31; refine (FE.out _ _).mono ?_; rintro e w3 ⟨rfl, rfl⟩))
  have bO := Boxed.new w2 31 (.slice (some ⟨w1.heap.size, 0, none⟩) 0 cn)
  have hW3 : Below (w.heap.size + 1) (w.alloc (.cells #[.int .u32 c1, .int .u32 c2] 24)) ((w2.alloc (.cells #[.slice (some ⟨w1.heap.size, 0, none⟩) 0 cn] 31)).alloc (.cells #[.int .u32 c1, .int .u32 c2] 24)) := (HO.out.2.alloc hs1 _).alloc (by simp; omega) _
  have hO3 : ((w2.alloc (.cells #[.slice (some ⟨w1.heap.size, 0, none⟩) 0 cn] 31)).alloc (.cells #[.int .u32 c1, .int .u32 c2] 24)).ownsRow w.heap.size 38 5 (.slice (some ⟨w1.heap.size, 0, none⟩) 0 cn) 0 [] := (HO.out.1.alloc _).alloc _
  have hs3 : ((w2.alloc (.cells #[.slice (some ⟨w1.heap.size, 0, none⟩) 0 cn] 31)).alloc (.cells #[.int .u32 c1, .int .u32 c2] 24)).heap.size = w2.heap.size + 2 := by simp
  have hcb : ∀ i, ((w2.alloc (.cells #[.slice (some ⟨w1.heap.size, 0, none⟩) 0 cn] 31)).alloc (.cells #[.int .u32 c1, .int .u32 c2] 24)).cell? ⟨w2.heap.size + 1, i, none⟩ = (#[.int .u32 c1, .int .u32 c2] : Array Value)[i]? := fun i => cell_of_row _ _ _ _ _ (0, 0) (last2 w2 _ _)
  have bO3 := bO.alloc (.cells #[.int .u32 c1, .int .u32 c2] 24)
  have hn1 : 1 ≤ n - 1 := by omega
  refine wpIn_rangeFunc_ownG rfl h1 (gf := 33) (lb := #[.pointer (some ⟨w2.heap.size + 1, 0, none⟩)]) rfl trivial (enters_of Try.func33 (by kernel_rfl) rfl)
    (ST.out (n - 1) hn1 (w2.heap.size + 1) _ (by omega) (hcb 0) (hcb 1)) (fun h k => h.trans k) (keepB_b (by omega)) (Below.refl _ _) (fun _ => rfl)
    (fun pre W => ((∃ v, Boxed W w2.heap.size 31 v ∧ W.ownsRow w.heap.size 38 5 v pre.length (flatE (pre.map Cs.en)) ∧ True) ∧ KeepB (w2.heap.size + 1) ((w2.alloc (.cells #[.slice (some ⟨w1.heap.size, 0, none⟩) 0 cn] 31)).alloc (.cells #[.int .u32 c1, .int .u32 c2] 24)) W) ∧ Below w.heap.size w W)
    (fun _ _ _ => False)
    ?hI (fun _ _ _ _ _ hs _ _ => hs) ?h0
    (fun x => { tmps := #[.agg #[.int .u32 c1, .int .u32 c2], .pointer (some ⟨w.heap.size, 0, none⟩), .slice none 0 0, .pointer (some ⟨w2.heap.size, 0, none⟩), .int .i64 x.1, .int .i64 x.2, .agg #[.int .u32 c1, .int .u32 c2], .int .i64 cn, .slice (some ⟨w1.heap.size, 0, none⟩) 0 cn, .agg #[.int .u32 c1, .int .u32 c2], .func (.func 33) #[] #[.pointer (some ⟨w2.heap.size + 1, 0, none⟩)], .int .i64 x.1, .int .i64 x.2, undef, undef, undef, undef, undef, undef, undef], defers := [] }) ?assign ?body ?done ?stop
  case hI => exact OwnFrom.and (OwnFrom.and (Own.from (holdsRow_own w.heap.size w2.heap.size 31 38 5 (fun pre : List (Nat × Nat) => pre.length) (fun pre => flatE (pre.map Cs.en)) (fun _ _ => True)) _) (ownFrom_keepB (by omega) (by omega))) (ownFrom_below (Nat.le_refl _) (by omega))
  case h0 => exact ⟨⟨⟨_, bO3, hO3, trivial⟩, KeepB.refl _ _⟩, below_of_new hW3⟩
  case assign =>
    intro l x W K hK
    gi_wp2
    exact hK
  case body =>
    rintro l pre x W ⟨⟨⟨v, hv, hrow, -⟩, hkb⟩, hB⟩ hlt
    have hc := hv.cell
    have hbn := hkb.block.trans (last2 w2 _ _)
    have HR := Lib.hid (And.intro hrow (And.intro hkb (And.intro hB hbn)))
    have HV := Lib.hid hv
    clear hrow hkb hB hbn hv
    gi_wp2_with (gi_at_builtin; refine wpListIn_append_own _ rfl _ _ 31 rfl w.heap.size 38 i0 _ 5 40 Try.underlying31 hi hz0 hz1 hz2 rfl (by decide) _ _ _ rfl (HR.out.1.alloc _) ⟨W.heap.size, 0, none⟩ 1 1 (Cs.en x).cells rfl rfl (World.news_of_block (heap_alloc_new _ _)) (en_one x) (by unfold maxLen; omega) (by omega) (by have := HR.out.2.2.1.size; simp; omega) ?_; intro v' w9 hown' hgrow _; obtain ⟨g', cap', rfl⟩ := ownsRow_succ hown'; obtain ⟨hv1, hv2, hr2, hk2, hb2⟩ := HV.out.appended (by decide) HR.out.1 HR.out.2.2.1.size (by omega) hown' hgrow; have hc1 := hv1.cell; have hf1 := hv1.frozen; have HG := Lib.hid hgrow; have HX := Lib.hid (And.intro hv2 (And.intro hr2 (And.intro hk2 hb2))); clear hgrow hown' hv1 hv2 hr2 hk2 hb2)
    have hnr := not_row HR.out.2.2.2 (by decide) HR.out.1
    have hltW : w2.heap.size + 1 < W.heap.size := (Array.getElem?_eq_some_iff.1 HR.out.2.2.2).1
    have hkb2 : KeepB (w2.heap.size + 1) W (w9.setCell ⟨w2.heap.size, 0, none⟩ (.slice (some ⟨g', 0, none⟩) (pre.length + 1) cap')) := by
      refine ⟨HX.out.2.2.2.size, ?_⟩
      rw [heap_setCell_other _ _ _ _ (show w2.heap.size + 1 ≠ w2.heap.size by omega)]
      exact (HG.out.block (w2.heap.size + 1) (by simp; omega) hnr).trans (Below.heap_alloc _ _ _ hltW)
    have hl2 : (pre ++ [x]).length = pre.length + 1 := by simp
    have hf2 : flatE ((pre ++ [x]).map Cs.en) = flatE (pre.map Cs.en) ++ (Cs.en x).cells := by rw [List.map_append, flatE_append]; rfl
    exact ⟨HX.out.2.2.1.from _, hkb2, ⟨⟨_, HX.out.1, by rw [hl2, hf2]; exact HX.out.2.1, trivial⟩, HR.out.2.1.trans hkb2⟩, HR.out.2.2.1.trans HX.out.2.2.2⟩
  case done =>
    rintro D ys W hD rfl ⟨⟨⟨v, hv, hrow, -⟩, -⟩, hB⟩ hK
    have hc := hv.cell
    have HR := Lib.hid (And.intro hrow hB)
    clear hrow hB
    gi_wp2
    refine ⟨by simp, .inl ⟨_, _, rfl, run_takeDeferred hK, ?_⟩⟩
    exact ⟨_, results_tmp rfl _ _ _, v, rfl, by rw [List.length_map]; exact ownsRow_putObj HR.out.1 _ hK rfl, HR.out.2.trans (belowK_b (w := w) (Nat.le_refl _) W D _ _ (by omega) hK rfl rfl)⟩
  case stop =>
    rintro D c pre W _ _ h _
    exact h.elim
theorem list_any (c : Cs) (w : World) (hc : c.ok) :
    Calls Try.prog 23 #[c.agg] w fun e w' => ∃ v, e = .returned v ∧ EV w' v (Cs.ents c) ∧ Below w.heap.size w w' :=
  ((callsIn_wide (n := 3)).1 (list_in 3 (Nat.le_refl _) c hc w)).mono fun _ _ ⟨v, he, ho, hb⟩ => ⟨v, he, (EV.of_own ho).2, hb⟩
end Go.Proofs.Ytclkfclbnapamaa
