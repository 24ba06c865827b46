/- The choice for a place. No statement of the seat is proved here. -/
import Derived.Test.YtnjcegkefjdgdaaDoorCvLook
namespace Go.Proofs.YtnjcegkefjdgdaaDoor
open Go.RowKit Ghost
set_option maxRecDepth 4000
set_option linter.unusedSimpArgs false

set_option maxHeartbeats 4000000 in
theorem choose_any (p : Pl) (d : Nat) (w : World) (hd : d ≤ 2) (hp : p.ok) (hT : Tabs w) :
    Calls Tryd.prog 69 #[p.agg, .int .i64 (d : Int)] w fun e w' => e = .returned (Cv.choose p.sc d).agg ∧ Below w.heap.size w w' := by
  obtain rfl | rfl | rfl : d = 0 ∨ d = 1 ∨ d = 2 := by omega
  · have FX := Lib.hid (fun wx (hb : Below w.heap.size w wx) => rest_any p wx hp (hT.below hb))
    have hch : Cv.choose p.sc 0 = Cv.rest p.sc := rfl
    rw [hch]
    clear hch
    generalize Cv.rest p.sc = z at *
    obtain ⟨z1, z2, z3⟩ := z
    obtain ⟨o, ⟨s0, ⟨s1, s2⟩⟩, car, up, dn, ab, be⟩ := p
    simp only [Pl.agg, Cv.Ch.agg] at *
    clear hp hT
    have HB0 := Lib.hid (bx3 w (.cells #[.int .i64 (o : Int), .int .u32 s0, .int .u32 s1, .int .u32 s2, .bool car, .bool up, .bool dn, .int .u32 ab, .int .u32 be] 120) (.cells #[.int .i64 0, .int .i64 0, .int .i64 0] 107) (.cells #[.nilFunc, .nilFunc, .nilFunc] 134))
    have hr := HB0.out.r2
    go_enter Tryd.func69, Tryd.ntmps69
    go_wp2_with (with_reducible show wpList _ _ _ (Oper.mk _ (.store 134 _ _) _ _ _ _ :: _) _ _; refine wpList_put rfl 134 _ _ rfl (w.heap.size + 2) #[.func (.func 79) #[] #[], .func (.func 80) #[] #[], .func (.func 81) #[] #[]] _ 134 rfl rfl hr (by kernel_rfl) rfl (by kernel_rfl) ?_; intro w3 hr3 hg3; refine Hid.out ?_)
    have HB3 : Hid (Bx w [(w.heap.size, .cells #[.int .i64 (o : Int), .int .u32 s0, .int .u32 s1, .int .u32 s2, .bool car, .bool up, .bool dn, .int .u32 ab, .int .u32 be] 120 (0, 0)), (w.heap.size + 1, .cells #[.int .i64 0, .int .i64 0, .int .i64 0] 107 (0, 0)), (w.heap.size + 2, .cells #[.func (.func 79) #[] #[], .func (.func 80) #[] #[], .func (.func 81) #[] #[]] 134 (0, 0))] w3) := Lib.hid (HB0.out.put (by omega) hg3.out hr3.out (by simp only [List.mem_cons, List.not_mem_nil, or_false]; rintro p (rfl | rfl | rfl) <;> simp))
    clear hr hr3 hg3 HB0
    have hsz3 := (Array.getElem?_eq_some_iff.1 HB3.out.r2).1
    simp only at hsz3
    refine Lib.hid ?_
    go_wp2_with fail
    refine Chain.chain (fun p wx => Put (w3) (w.heap.size + 1) (.cells (if p = 0 then #[.int .i64 0, .int .i64 0, .int .i64 0] else #[.int .i64 (z1 : Int), .int .i64 (z2 : Int), .int .i64 (z3 : Int)]) 107 (0, 0)) wx) (fun _ _ => False) [5] (by kernel_rfl) (by kernel_rfl) (fun _ _ _ _ h => h.elim) ((Put.start HB3.out.r1).drew) ?_
    iterate 5 (first
        | (apply Chain.walk_quiet (by rfl) (by decide)
           (intro p wx hp hwn hx K hK
            obtain ⟨c0, c1, c2, c3, c4, c5, c6, c7, c8⟩ := plRow ((hx.other w.heap.size (by omega) (by omega)).trans HB3.out.r0)
            have hfr := (hx.other (w.heap.size + 2) hsz3 (by omega)).trans HB3.out.r2
            have d0 := cell_of_row wx _ 0 _ _ (0, 0) hfr
            have d1 := cell_of_row wx _ 1 _ _ (0, 0) hfr
            have d2 := cell_of_row wx _ 2 _ _ (0, 0) hfr
            simp only [List.getElem?_toArray, List.getElem?_cons_zero, List.getElem?_cons_succ] at d0 d1 d2
            have HBB := Lib.hid (HB3.out.below.trans (hx.below (by omega) HB3.out.below.size))
            first
              | (go_simp
                 first
                  | (go_at_call 79; refine (FX.out _ HBB.out).mono ?_; rintro e y1 ⟨rfl, hb⟩; exact hK _ (hx.next hb))
                  | (go_at_K; exact hK _ hx)))
           exact ⟨_, rfl⟩)
        | (refine Chain.walk_no (by rfl) (by decide) ?_; simp only [Act.put, List.setIfInBounds_toArray, List.set_cons_succ, List.set_cons_zero]))
    apply Chain.walk_turn 0 (by rfl) (by rfl)
    · intro wx hx K hK
      exact Put.store 107 _ _ rfl rfl rfl hx (by kernel_rfl) rfl (by kernel_rfl) (fun w2 h => hK w2 h)
    · exact ⟨undef, rfl⟩
    refine Chain.walk_nil (fun w7 hb7 => ?_)
    replace hb7 : Put (w3) (w.heap.size + 1) (.cells #[.int .i64 (z1 : Int), .int .i64 (z2 : Int), .int .i64 (z3 : Int)] 107 (0, 0)) w7 := hb7
    simp only [Act.put]
    have hfin := HB3.out.below.trans (hb7.below (by omega) HB3.out.below.size)
    go_wp2
    exact bodyPost_ret (results_cell_row Tryd.results69 _ _ _ _ _ (0, 0) _ rfl (hb7.row) Tryd.underlying107 rfl (by kernel_rfl)) rfl (⟨rfl, hfin⟩)
  · have FX := Lib.hid (fun wx (hb : Below w.heap.size w wx) => swUp_any p wx hp (hT.below hb))
    have hch : Cv.choose p.sc 1 = Cv.swUp p.sc := rfl
    rw [hch]
    clear hch
    generalize Cv.swUp p.sc = z at *
    obtain ⟨z1, z2, z3⟩ := z
    obtain ⟨o, ⟨s0, ⟨s1, s2⟩⟩, car, up, dn, ab, be⟩ := p
    simp only [Pl.agg, Cv.Ch.agg] at *
    clear hp hT
    have HB0 := Lib.hid (bx3 w (.cells #[.int .i64 (o : Int), .int .u32 s0, .int .u32 s1, .int .u32 s2, .bool car, .bool up, .bool dn, .int .u32 ab, .int .u32 be] 120) (.cells #[.int .i64 0, .int .i64 0, .int .i64 0] 107) (.cells #[.nilFunc, .nilFunc, .nilFunc] 134))
    have hr := HB0.out.r2
    go_enter Tryd.func69, Tryd.ntmps69
    go_wp2_with (with_reducible show wpList _ _ _ (Oper.mk _ (.store 134 _ _) _ _ _ _ :: _) _ _; refine wpList_put rfl 134 _ _ rfl (w.heap.size + 2) #[.func (.func 79) #[] #[], .func (.func 80) #[] #[], .func (.func 81) #[] #[]] _ 134 rfl rfl hr (by kernel_rfl) rfl (by kernel_rfl) ?_; intro w3 hr3 hg3; refine Hid.out ?_)
    have HB3 : Hid (Bx w [(w.heap.size, .cells #[.int .i64 (o : Int), .int .u32 s0, .int .u32 s1, .int .u32 s2, .bool car, .bool up, .bool dn, .int .u32 ab, .int .u32 be] 120 (0, 0)), (w.heap.size + 1, .cells #[.int .i64 0, .int .i64 0, .int .i64 0] 107 (0, 0)), (w.heap.size + 2, .cells #[.func (.func 79) #[] #[], .func (.func 80) #[] #[], .func (.func 81) #[] #[]] 134 (0, 0))] w3) := Lib.hid (HB0.out.put (by omega) hg3.out hr3.out (by simp only [List.mem_cons, List.not_mem_nil, or_false]; rintro p (rfl | rfl | rfl) <;> simp))
    clear hr hr3 hg3 HB0
    have hsz3 := (Array.getElem?_eq_some_iff.1 HB3.out.r2).1
    simp only at hsz3
    refine Lib.hid ?_
    go_wp2_with fail
    refine Chain.chain (fun p wx => Put (w3) (w.heap.size + 1) (.cells (if p = 0 then #[.int .i64 0, .int .i64 0, .int .i64 0] else #[.int .i64 (z1 : Int), .int .i64 (z2 : Int), .int .i64 (z3 : Int)]) 107 (0, 0)) wx) (fun _ _ => False) [5] (by kernel_rfl) (by kernel_rfl) (fun _ _ _ _ h => h.elim) ((Put.start HB3.out.r1).drew) ?_
    iterate 5 (first
        | (apply Chain.walk_quiet (by rfl) (by decide)
           (intro p wx hp hwn hx K hK
            obtain ⟨c0, c1, c2, c3, c4, c5, c6, c7, c8⟩ := plRow ((hx.other w.heap.size (by omega) (by omega)).trans HB3.out.r0)
            have hfr := (hx.other (w.heap.size + 2) hsz3 (by omega)).trans HB3.out.r2
            have d0 := cell_of_row wx _ 0 _ _ (0, 0) hfr
            have d1 := cell_of_row wx _ 1 _ _ (0, 0) hfr
            have d2 := cell_of_row wx _ 2 _ _ (0, 0) hfr
            simp only [List.getElem?_toArray, List.getElem?_cons_zero, List.getElem?_cons_succ] at d0 d1 d2
            have HBB := Lib.hid (HB3.out.below.trans (hx.below (by omega) HB3.out.below.size))
            first
              | (go_simp
                 first
                  | (go_at_call 80; refine (FX.out _ HBB.out).mono ?_; rintro e y1 ⟨rfl, hb⟩; exact hK _ (hx.next hb))
                  | (go_at_K; exact hK _ hx)))
           exact ⟨_, rfl⟩)
        | (refine Chain.walk_no (by rfl) (by decide) ?_; simp only [Act.put, List.setIfInBounds_toArray, List.set_cons_succ, List.set_cons_zero]))
    apply Chain.walk_turn 0 (by rfl) (by rfl)
    · intro wx hx K hK
      exact Put.store 107 _ _ rfl rfl rfl hx (by kernel_rfl) rfl (by kernel_rfl) (fun w2 h => hK w2 h)
    · exact ⟨undef, rfl⟩
    refine Chain.walk_nil (fun w7 hb7 => ?_)
    replace hb7 : Put (w3) (w.heap.size + 1) (.cells #[.int .i64 (z1 : Int), .int .i64 (z2 : Int), .int .i64 (z3 : Int)] 107 (0, 0)) w7 := hb7
    simp only [Act.put]
    have hfin := HB3.out.below.trans (hb7.below (by omega) HB3.out.below.size)
    go_wp2
    exact bodyPost_ret (results_cell_row Tryd.results69 _ _ _ _ _ (0, 0) _ rfl (hb7.row) Tryd.underlying107 rfl (by kernel_rfl)) rfl (⟨rfl, hfin⟩)
  · have FX := Lib.hid (fun wx (hb : Below w.heap.size w wx) => swDn_any p wx hp (hT.below hb))
    have hch : Cv.choose p.sc 2 = Cv.swDn p.sc := rfl
    rw [hch]
    clear hch
    generalize Cv.swDn p.sc = z at *
    obtain ⟨z1, z2, z3⟩ := z
    obtain ⟨o, ⟨s0, ⟨s1, s2⟩⟩, car, up, dn, ab, be⟩ := p
    simp only [Pl.agg, Cv.Ch.agg] at *
    clear hp hT
    have HB0 := Lib.hid (bx3 w (.cells #[.int .i64 (o : Int), .int .u32 s0, .int .u32 s1, .int .u32 s2, .bool car, .bool up, .bool dn, .int .u32 ab, .int .u32 be] 120) (.cells #[.int .i64 0, .int .i64 0, .int .i64 0] 107) (.cells #[.nilFunc, .nilFunc, .nilFunc] 134))
    have hr := HB0.out.r2
    go_enter Tryd.func69, Tryd.ntmps69
    go_wp2_with (with_reducible show wpList _ _ _ (Oper.mk _ (.store 134 _ _) _ _ _ _ :: _) _ _; refine wpList_put rfl 134 _ _ rfl (w.heap.size + 2) #[.func (.func 79) #[] #[], .func (.func 80) #[] #[], .func (.func 81) #[] #[]] _ 134 rfl rfl hr (by kernel_rfl) rfl (by kernel_rfl) ?_; intro w3 hr3 hg3; refine Hid.out ?_)
    have HB3 : Hid (Bx w [(w.heap.size, .cells #[.int .i64 (o : Int), .int .u32 s0, .int .u32 s1, .int .u32 s2, .bool car, .bool up, .bool dn, .int .u32 ab, .int .u32 be] 120 (0, 0)), (w.heap.size + 1, .cells #[.int .i64 0, .int .i64 0, .int .i64 0] 107 (0, 0)), (w.heap.size + 2, .cells #[.func (.func 79) #[] #[], .func (.func 80) #[] #[], .func (.func 81) #[] #[]] 134 (0, 0))] w3) := Lib.hid (HB0.out.put (by omega) hg3.out hr3.out (by simp only [List.mem_cons, List.not_mem_nil, or_false]; rintro p (rfl | rfl | rfl) <;> simp))
    clear hr hr3 hg3 HB0
    have hsz3 := (Array.getElem?_eq_some_iff.1 HB3.out.r2).1
    simp only at hsz3
    refine Lib.hid ?_
    go_wp2_with fail
    refine Chain.chain (fun p wx => Put (w3) (w.heap.size + 1) (.cells (if p = 0 then #[.int .i64 0, .int .i64 0, .int .i64 0] else #[.int .i64 (z1 : Int), .int .i64 (z2 : Int), .int .i64 (z3 : Int)]) 107 (0, 0)) wx) (fun _ _ => False) [5] (by kernel_rfl) (by kernel_rfl) (fun _ _ _ _ h => h.elim) ((Put.start HB3.out.r1).drew) ?_
    iterate 5 (first
        | (apply Chain.walk_quiet (by rfl) (by decide)
           (intro p wx hp hwn hx K hK
            obtain ⟨c0, c1, c2, c3, c4, c5, c6, c7, c8⟩ := plRow ((hx.other w.heap.size (by omega) (by omega)).trans HB3.out.r0)
            have hfr := (hx.other (w.heap.size + 2) hsz3 (by omega)).trans HB3.out.r2
            have d0 := cell_of_row wx _ 0 _ _ (0, 0) hfr
            have d1 := cell_of_row wx _ 1 _ _ (0, 0) hfr
            have d2 := cell_of_row wx _ 2 _ _ (0, 0) hfr
            simp only [List.getElem?_toArray, List.getElem?_cons_zero, List.getElem?_cons_succ] at d0 d1 d2
            have HBB := Lib.hid (HB3.out.below.trans (hx.below (by omega) HB3.out.below.size))
            first
              | (go_simp
                 first
                  | (go_at_call 81; refine (FX.out _ HBB.out).mono ?_; rintro e y1 ⟨rfl, hb⟩; exact hK _ (hx.next hb))
                  | (go_at_K; exact hK _ hx)))
           exact ⟨_, rfl⟩)
        | (refine Chain.walk_no (by rfl) (by decide) ?_; simp only [Act.put, List.setIfInBounds_toArray, List.set_cons_succ, List.set_cons_zero]))
    apply Chain.walk_turn 0 (by rfl) (by rfl)
    · intro wx hx K hK
      exact Put.store 107 _ _ rfl rfl rfl hx (by kernel_rfl) rfl (by kernel_rfl) (fun w2 h => hK w2 h)
    · exact ⟨undef, rfl⟩
    refine Chain.walk_nil (fun w7 hb7 => ?_)
    replace hb7 : Put (w3) (w.heap.size + 1) (.cells #[.int .i64 (z1 : Int), .int .i64 (z2 : Int), .int .i64 (z3 : Int)] 107 (0, 0)) w7 := hb7
    simp only [Act.put]
    have hfin := HB3.out.below.trans (hb7.below (by omega) HB3.out.below.size)
    go_wp2
    exact bodyPost_ret (results_cell_row Tryd.results69 _ _ _ _ _ (0, 0) _ rfl (hb7.row) Tryd.underlying107 rfl (by kernel_rfl)) rfl (⟨rfl, hfin⟩)
end Go.Proofs.YtnjcegkefjdgdaaDoor
