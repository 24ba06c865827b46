/- Choose, Next, Spent where the arguments are proper. No statement of the seat is proved here. -/
import Derived.Test.YtnjcegkefjdgdaaDoorCvCh
import Derived.Test.YtnjcegkefjdgdaaDoorCvGame
namespace Go.Proofs.YtnjcegkefjdgdaaDoor
open Go.RowKit Ghost
set_option maxRecDepth 4000
set_option linter.unusedSimpArgs false

set_option maxHeartbeats 4000000 in
theorem ChooseGood_any (F f d o : Nat) (s : Stp) (w : World) (hF1 : 2 ≤ F) (hF : F ≤ 32) (hf : f < F) (hd : d ≤ 2) (ho : o ≤ 7) (hs : s.ok) (hT : Tabs w) :
    Calls Tryd.prog 57 #[.int .i64 (F : Int), .agg #[.int .i64 (d : Int), .int .i64 (o : Int)], .int .i64 (f : Int), s.agg] w fun e w' => e = .returned (Cv.choose (Cv.look F o f s) d).agg ∧ Below w.heap.size w w' := by
  have FL := Lib.hid (fun wx => lookGood_any F f d o s wx hF1 hF hf hd ho hs)
  have hsc := placeF_sc (F := F) (o := o) (f := f) hs (by omega)
  have hpo := placeF_ok (F := F) (o := o) (f := f) hs
  have hfit := Cv.look_fit F o f s
  have hpo1 : (placeF F o f s).o = Cv.cd o f (Cv.cnt F s) := rfl
  have hpo2 : (placeF F o f s).sp = Cv.spent F o f s := rfl
  have hcd : Cv.cd o f (Cv.cnt F s) ≤ 7 := by unfold Cv.cd; split <;> omega
  rw [← hpo1] at hcd
  have FX := Lib.hid (fun wx (hb : Below w.heap.size w wx) => choose_any (placeF F o f s) d wx hd hpo (hT.below hb))
  rw [hsc] at FX
  have hin := Cv.ch_in _ d hfit hd
  generalize Cv.choose (Cv.look F o f s) d = z at *
  clear hsc hpo hfit
  clear hpo1 hpo2 hcd hin
  obtain ⟨z1, z2, z3⟩ := z
  generalize placeF F o f s = pl at *
  obtain ⟨q, ⟨sp0, ⟨sp1, sp2⟩⟩, bc, bu, bd, ab, be⟩ := pl
  obtain ⟨s0, ⟨s1, s2⟩⟩ := s
  simp only [Stp.agg, Pl.agg, Cv.Ch.agg] at *
  have HB0 := Lib.hid (bx3 w (.cells #[.int .i64 (d : Int), .int .i64 (o : Int)] 31) (.cells #[.int .u32 s0, .int .u32 s1, .int .u32 s2] 105) (.cells #[.int .i64 0, .int .i64 0, .int .i64 0] 107))
  clear hs hT
  go_enter Tryd.func57, Tryd.ntmps57
  go_wp2_with fail
  refine (FL.out _).mono ?_
  rintro e w1 ⟨rfl, hb1⟩
  have HB1 := Lib.hid (HB0.out.next hb1)
  clear hb1 HB0
  go_wp2_with (with_reducible show wpList _ _ _ (Oper.mk _ (.store 120 _ _) _ _ _ _ :: _) _ _; refine wpList_put rfl 120 _ _ rfl w1.heap.size #[.int .i64 (q : Int), .int .u32 sp0, .int .u32 sp1, .int .u32 sp2, .bool bc, .bool bu, .bool bd, .int .u32 ab, .int .u32 be] _ 120 rfl rfl (heap_alloc_new w1 _) (by kernel_rfl) rfl (by kernel_rfl) ?_; intro w3 hr3 hg3; refine Hid.out ?_)
  have hl1 := (Array.getElem?_eq_some_iff.1 HB1.out.r2).1
  simp only at hl1
  have HB3 : Hid (Bx w [(w1.heap.size, .cells #[.int .i64 (q : Int), .int .u32 sp0, .int .u32 sp1, .int .u32 sp2, .bool bc, .bool bu, .bool bd, .int .u32 ab, .int .u32 be] 120 (0, 0)), (w.heap.size, .cells #[.int .i64 (d : Int), .int .i64 (o : Int)] 31 (0, 0)), (w.heap.size + 1, .cells #[.int .u32 s0, .int .u32 s1, .int .u32 s2] 105 (0, 0)), (w.heap.size + 2, .cells #[.int .i64 0, .int .i64 0, .int .i64 0] 107 (0, 0))] w3) := Lib.hid ((HB1.out.make (heap_alloc_new w1 (.cells #[.int .i64 0, .int .u32 0, .int .u32 0, .int .u32 0, .bool false, .bool false, .bool false, .int .u32 0, .int .u32 0] 120)) ((Below.refl w1.heap.size w1).alloc (Nat.le_refl _) _)).put (by omega) hg3.out hr3.out (by simp only [List.mem_cons, List.not_mem_nil, or_false]; rintro p (rfl | rfl | rfl | rfl) <;> simp <;> omega))
  generalize w1.heap.size = g at *
  clear hr3 hg3 HB1
  refine Lib.hid ?_
  obtain ⟨c0, c1, c2, c3, c4, c5, c6, c7, c8⟩ := plRow HB3.out.r0
  obtain ⟨b0, b1⟩ := swRow HB3.out.r1
  have hr := HB3.out.r3
  go_wp2_with fail
  refine (FX.out _ HB3.out.below).mono ?_
  rintro e w5 ⟨rfl, hb5⟩
  have HB5 := Lib.hid (HB3.out.next hb5)
  have hr5 := HB5.out.r3
  go_wp2_with (with_reducible show wpList _ _ _ (Oper.mk _ (.store 107 _ _) _ _ _ _ :: _) _ _; refine wpList_put rfl 107 _ _ rfl (w.heap.size + 2) #[.int .i64 (z1 : Int), .int .i64 (z2 : Int), .int .i64 (z3 : Int)] _ 107 rfl rfl hr5 (by kernel_rfl) rfl (by kernel_rfl) ?_; intro w9 hr9 hg9; refine Hid.out ?_)
  have hfin := HB5.out.below.trans ((Below.refl w.heap.size w5).grown hg9.out HB5.out.below.size (fun k hk => by have := Option.some.inj hk; omega))
  refine Lib.hid ?_
  go_wp2_with fail
  exact bodyPost_ret (results_cell_row Tryd.results57 _ _ _ _ _ (0, 0) _ rfl (hr9.out) Tryd.underlying107 rfl (by kernel_rfl)) rfl (⟨rfl, hfin⟩)

/-- The sweep behind a choice. -/
def nextF (q : Nat) (c : Cv.Ch) : Value := .agg #[.int .i64 (c.dir : Int), .int .i64 (Cv.opened q c : Nat)]
theorem or_int {q k : Nat} (hq : q ≤ 7) (hk : k ≤ 2) : bits .or .i64 (q : Int) (IntKind.i64.wrap (2 ^ min k 64)) = ((q ||| 2 ^ k : Nat) : Int) := by
  rw [show min k 64 = k by omega]
  have := (by decide +kernel : ∀ (q : Fin 8) (k : Fin 3), bits .or .i64 (q.val : Int) (IntKind.i64.wrap (2 ^ k.val)) = ((q.val ||| 2 ^ k.val : Nat) : Int)) ⟨q, by omega⟩ ⟨k, by omega⟩
  exact this
theorem in_sh {c : Cv.Ch} (h : c ∈ [Cv.openC 0, Cv.openC 1, Cv.openC 2, Cv.moveC 0, Cv.moveC 1, Cv.moveC 2]) : c.sh ≤ 2 := by
  simp only [List.mem_cons, List.not_mem_nil, or_false] at h
  rcases h with rfl | rfl | rfl | rfl | rfl | rfl <;> decide

set_option maxHeartbeats 4000000 in
theorem NextGood_any (F f d o : Nat) (s : Stp) (w : World) (hF1 : 2 ≤ F) (hF : F ≤ 32) (hf : f < F) (hd : d ≤ 2) (ho : o ≤ 7) (hs : s.ok) (hT : Tabs w) :
    Calls Tryd.prog 58 #[.int .i64 (F : Int), .agg #[.int .i64 (d : Int), .int .i64 (o : Int)], .int .i64 (f : Int), s.agg] w fun e w' => e = .returned (nextF (Cv.cd o f (Cv.cnt F s)) (Cv.choose (Cv.look F o f s) d)) ∧ Below w.heap.size w w' := by
  have FL := Lib.hid (fun wx => lookGood_any F f d o s wx hF1 hF hf hd ho hs)
  have hsc := placeF_sc (F := F) (o := o) (f := f) hs (by omega)
  have hpo := placeF_ok (F := F) (o := o) (f := f) hs
  have hfit := Cv.look_fit F o f s
  have hpo1 : (placeF F o f s).o = Cv.cd o f (Cv.cnt F s) := rfl
  have hpo2 : (placeF F o f s).sp = Cv.spent F o f s := rfl
  have hcd : Cv.cd o f (Cv.cnt F s) ≤ 7 := by unfold Cv.cd; split <;> omega
  rw [← hpo1] at hcd
  have FX := Lib.hid (fun wx (hb : Below w.heap.size w wx) => choose_any (placeF F o f s) d wx hd hpo (hT.below hb))
  rw [hsc] at FX
  have hin := Cv.ch_in _ d hfit hd
  generalize Cv.choose (Cv.look F o f s) d = z at *
  clear hsc hpo hfit
  rw [← hpo1]
  clear hpo1 hpo2
  have hsh := in_sh hin
  clear hin
  obtain ⟨z1, z2, z3⟩ := z
  simp only at hsh
  generalize placeF F o f s = pl at *
  obtain ⟨q, ⟨sp0, ⟨sp1, sp2⟩⟩, bc, bu, bd, ab, be⟩ := pl
  obtain ⟨s0, ⟨s1, s2⟩⟩ := s
  have hor := or_int hcd hsh
  have hsn : decide ((z3 : Int) < 0) = false := decide_eq_false (by omega)
  simp only at hcd
  unfold nextF Cv.opened
  simp only [Stp.agg, Pl.agg, Cv.Ch.agg] at *
  have HB0 := Lib.hid (bx3 w (.cells #[.int .i64 (d : Int), .int .i64 (o : Int)] 31) (.cells #[.int .u32 s0, .int .u32 s1, .int .u32 s2] 105) (.cells #[.int .i64 0, .int .i64 0] 31))
  clear hs hT
  go_enter Tryd.func58, Tryd.ntmps58
  go_wp2_with fail
  refine (FL.out _).mono ?_
  rintro e w1 ⟨rfl, hb1⟩
  have HB1 := Lib.hid (HB0.out.next hb1)
  clear hb1 HB0
  go_wp2_with (with_reducible show wpList _ _ _ (Oper.mk _ (.store 120 _ _) _ _ _ _ :: _) _ _; refine wpList_put rfl 120 _ _ rfl w1.heap.size #[.int .i64 (q : Int), .int .u32 sp0, .int .u32 sp1, .int .u32 sp2, .bool bc, .bool bu, .bool bd, .int .u32 ab, .int .u32 be] _ 120 rfl rfl (heap_alloc_new w1 _) (by kernel_rfl) rfl (by kernel_rfl) ?_; intro w3 hr3 hg3; refine Hid.out ?_)
  have hl1 := (Array.getElem?_eq_some_iff.1 HB1.out.r2).1
  simp only at hl1
  have HB3 : Hid (Bx w [(w1.heap.size, .cells #[.int .i64 (q : Int), .int .u32 sp0, .int .u32 sp1, .int .u32 sp2, .bool bc, .bool bu, .bool bd, .int .u32 ab, .int .u32 be] 120 (0, 0)), (w.heap.size, .cells #[.int .i64 (d : Int), .int .i64 (o : Int)] 31 (0, 0)), (w.heap.size + 1, .cells #[.int .u32 s0, .int .u32 s1, .int .u32 s2] 105 (0, 0)), (w.heap.size + 2, .cells #[.int .i64 0, .int .i64 0] 31 (0, 0))] w3) := Lib.hid ((HB1.out.make (heap_alloc_new w1 (.cells #[.int .i64 0, .int .u32 0, .int .u32 0, .int .u32 0, .bool false, .bool false, .bool false, .int .u32 0, .int .u32 0] 120)) ((Below.refl w1.heap.size w1).alloc (Nat.le_refl _) _)).put (by omega) hg3.out hr3.out (by simp only [List.mem_cons, List.not_mem_nil, or_false]; rintro p (rfl | rfl | rfl | rfl) <;> simp <;> omega))
  generalize w1.heap.size = g at *
  clear hr3 hg3 HB1
  refine Lib.hid ?_
  obtain ⟨c0, c1, c2, c3, c4, c5, c6, c7, c8⟩ := plRow HB3.out.r0
  obtain ⟨b0, b1⟩ := swRow HB3.out.r1
  have hr := HB3.out.r3
  go_wp2_with fail
  refine (FX.out _ HB3.out.below).mono ?_
  rintro e w5 ⟨rfl, hb5⟩
  have HB5 := Lib.hid (HB3.out.next hb5)
  clear hb5 c0 c1 c2 c3 c4 c5 c6 c7 c8 b0 b1 hr
  go_wp2_with (with_reducible show wpList _ _ _ (Oper.mk _ (.store 107 _ _) _ _ _ _ :: _) _ _; refine wpList_put rfl 107 _ _ rfl w5.heap.size #[.int .i64 (z1 : Int), .int .i64 (z2 : Int), .int .i64 (z3 : Int)] _ 107 rfl rfl (heap_alloc_new w5 _) (by kernel_rfl) rfl (by kernel_rfl) ?_; intro w6 hr6 hg6; refine Hid.out ?_)
  have hl5 := (Array.getElem?_eq_some_iff.1 HB5.out.r0).1
  have hl6 := (Array.getElem?_eq_some_iff.1 HB5.out.r3).1
  simp only at hl5 hl6
  have HB6 : Hid (Bx w [(w5.heap.size, .cells #[.int .i64 (z1 : Int), .int .i64 (z2 : Int), .int .i64 (z3 : Int)] 107 (0, 0)), (g, .cells #[.int .i64 (q : Int), .int .u32 sp0, .int .u32 sp1, .int .u32 sp2, .bool bc, .bool bu, .bool bd, .int .u32 ab, .int .u32 be] 120 (0, 0)), (w.heap.size, .cells #[.int .i64 (d : Int), .int .i64 (o : Int)] 31 (0, 0)), (w.heap.size + 1, .cells #[.int .u32 s0, .int .u32 s1, .int .u32 s2] 105 (0, 0)), (w.heap.size + 2, .cells #[.int .i64 0, .int .i64 0] 31 (0, 0))] w6) := Lib.hid ((HB5.out.make (heap_alloc_new w5 (.cells #[.int .i64 0, .int .i64 0, .int .i64 0] 107)) ((Below.refl w5.heap.size w5).alloc (Nat.le_refl _) _)).put (by omega) hg6.out hr6.out (by simp only [List.mem_cons, List.not_mem_nil, or_false]; rintro p (rfl | rfl | rfl | rfl | rfl) <;> simp <;> omega))
  generalize hg5 : w5.heap.size = g5 at *
  clear hg5 hr6 hg6 HB5
  refine Lib.hid ?_
  have hgl : g < w6.heap.size := (Array.getElem?_eq_some_iff.1 HB6.out.r1).1
  have hg5l : g5 < w6.heap.size := (Array.getElem?_eq_some_iff.1 HB6.out.r0).1
  have k0 := cell_of_row w6 _ 0 _ _ (0, 0) HB6.out.r0
  have k1 := cell_of_row w6 _ 1 _ _ (0, 0) HB6.out.r0
  simp only [List.getElem?_toArray, List.getElem?_cons_zero, List.getElem?_cons_succ] at k0 k1
  by_cases h3 : z1 = 3
  · subst h3
    have hne : (((3 : Nat) : Int) != 3) = false := rfl
    generalize hor2 : q ||| 2 ^ z3 = orv at *
    have HO := Lib.hid hor2
    clear hor2 hcd hsh
    go_wp2_with fail
    clear k0 k1
    refine Chain.chain (fun p wx => Put (w6) (w.heap.size + 2) (.cells (if p = 0 then #[.int .i64 0, .int .i64 0] else #[.int .i64 (z2 : Int), .int .i64 (orv : Int)]) 31 (0, 0)) wx) (fun _ _ => False) [9] (by kernel_rfl) (by kernel_rfl) (fun _ _ _ _ h => h.elim) ((Put.start HB6.out.r4).drew) ?_
    iterate 9 (first
        | (apply Chain.walk_quiet (by rfl) (by decide)
           (intro p wx hp hwn hx K hK
            obtain ⟨c0, c1, c2, c3, c4, c5, c6, c7, c8⟩ := plRow ((hx.other g hgl (by omega)).trans HB6.out.r1)
            have hcr := (hx.other g5 hg5l (by omega)).trans HB6.out.r0
            have d1 := cell_of_row wx _ 1 _ _ (0, 0) hcr
            have d2 := cell_of_row wx _ 2 _ _ (0, 0) hcr
            simp only [List.getElem?_toArray, List.getElem?_cons_zero, List.getElem?_cons_succ] at d1 d2
            first
              | (go_simp
                 first
                  | (go_at_K; exact hK _ hx)))
           exact ⟨_, rfl⟩)
        | (refine Chain.walk_no (by rfl) (by decide) ?_; simp only [Act.put, List.setIfInBounds_toArray, List.set_cons_succ, List.set_cons_zero]))
    apply Chain.walk_turn 0 (by rfl) (by rfl)
    · intro wx hx K hK
      exact Put.store 31 _ _ rfl rfl rfl hx (by kernel_rfl) rfl (by kernel_rfl) (fun w2 h => hK w2 h)
    · exact ⟨undef, rfl⟩
    refine Chain.walk_nil (fun w9 hb9 => ?_)
    replace hb9 : Put (w6) (w.heap.size + 2) (.cells #[.int .i64 (z2 : Int), .int .i64 (orv : Int)] 31 (0, 0)) w9 := hb9
    simp only [Act.put]
    have hfin := HB6.out.below.trans (hb9.below (by omega) HB6.out.below.size)
    go_wp2
    exact bodyPost_ret (results_cell_row Tryd.results58 _ _ _ _ _ (0, 0) _ rfl (hb9.row) Tryd.underlying31 rfl (by kernel_rfl)) rfl (⟨by rw [HO.out], hfin⟩)
  · have hne : ((z1 : Int) != 3) = true := by simp; omega
    have hr5 := HB6.out.r4
    go_wp2_with (with_reducible show wpList _ _ _ (Oper.mk _ (.store 31 _ _) _ _ _ _ :: _) _ _; refine wpList_put rfl 31 _ _ rfl (w.heap.size + 2) #[.int .i64 (z2 : Int), .int .i64 0] _ 31 rfl rfl hr5 (by kernel_rfl) rfl (by kernel_rfl) ?_; intro w9 hr9 hg9; refine Hid.out ?_)
    have hfin := HB6.out.below.trans ((Below.refl w.heap.size w6).grown hg9.out HB6.out.below.size (fun k hk => by have := Option.some.inj hk; omega))
    refine Lib.hid ?_
    go_wp2_with fail
    exact bodyPost_ret (results_cell_row Tryd.results58 _ _ _ _ _ (0, 0) _ rfl (hr9.out) Tryd.underlying31 rfl (by kernel_rfl)) rfl (⟨rfl, hfin⟩)
end Go.Proofs.YtnjcegkefjdgdaaDoor
