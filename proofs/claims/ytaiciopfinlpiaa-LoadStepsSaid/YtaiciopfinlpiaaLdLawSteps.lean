/- The law LoadSteps: the class behind a reading, from any state. No condition. -/
import Derived.Test.YtaiciopfinlpiaaLdPack
namespace Go.Proofs.Ytaiciopfinlpiaa
open Go.RowKit Go.ChangeShapes Go.WideShapes Go.ChangeAt

theorem step_nothing (s : Int) (x : Nat) : stepF ⟨0, 0, 0, 0, 0, 0, 0, []⟩ s x = 0 := by
  have hv : ¬ validE ⟨0, 0, 0, 0, 0, 0, 0, []⟩ = 0 := by decide +kernel
  have hc : classF ⟨0, 0, 0, 0, 0, 0, 0, []⟩ x = 0 := by unfold classF; rw [if_neg hv]
  unfold stepF
  rw [hc, if_neg (by simp)]

set_option maxHeartbeats 4000000 in
theorem lawLoadSteps_walk (s : Int) (x t0 t1 t2 : Nat) (w : World) (_hs : (Lit.int .i64 s).wf = true) :
    Calls Try.prog 4 #[.agg #[.int .i64 s], .float .f64 x, .agg #[.float .f64 t0, .float .f64 t1, .float .f64 t2]] w fun e w' => e = .returned (.bool true) ∧ Below w.heap.size w w' := by
  have FSN := Lib.hid (fun wx => sane_any wx)
  have hcl : (bldD t0 t1 t2).cars.length ≤ 140737488355328 := by
    unfold bldD
    split <;> simp [bldX, sampleCars_length]
  have hB := bld_any t0 t1 t2
  have hE := fun A cap wx => edges_any (bldD t0 t1 t2) A cap wx (bld_valid t0 t1 t2)
  have hC1 := fun A cap c y wx => step_any (bldD t0 t1 t2) A cap y c wx hcl
  have hC2 := fun A cap c y wx => refStep_any (bldD t0 t1 t2) A cap y c wx hcl
  have hN := fun wx => step_any ⟨0, 0, 0, 0, 0, 0, 0, []⟩ none 0 x s wx (by decide) (.inl rfl)
  rw [step_nothing] at hN
  generalize bldD t0 t1 t2 = b at *
  generalize hst : stepF b = ST at *
  clear hst hcl
  have FB := Lib.hid hB
  have FE := Lib.hid hE
  have FC1 := Lib.hid hC1
  have FC2 := Lib.hid hC2
  have FN := Lib.hid hN
  clear hB hE hC1 hC2 hN
  obtain ⟨f, d, r, p, e1, e2, e3, cs⟩ := b
  simp only [BldD.agg, List.length_nil] at FB FE FC1 FC2 FN
  obtain ⟨i0, hi0, hz0, hz1, hz2⟩ := info_parts fltInfo
  go_enter Try.func4, Try.ntmps4
  go_wp2_with fail
  refine (FB.out _).mono ?_
  rintro e w1 ⟨A, cap, rfl, hcars, hb1⟩
  have hb1' : Below (w.heap.size + 2) ((w.alloc (.cells #[.int .i64 s] 34)).alloc (.cells #[.float .f64 t0, .float .f64 t1, .float .f64 t2] 26)) w1 := hb1.mono (by simp)
  have HRS := Lib.hid (rows2 hb1').1
  have HB1 := Lib.hid (below2 hb1')
  have hw1 : w.heap.size + 2 ≤ w1.heap.size := by have := hb1.size; simpa using this
  have HBX := Lib.hid (BX.new (f := f) (d := d) (r := r) (p := p) (e1 := e1) (e2 := e2) (e3 := e3) (cap := cap) hcars)
  clear hcars hb1 hb1'
  go_wp2_with fail
  refine (FE.out A cap _).mono ?_
  rintro e w2 ⟨v, zs, rfl, hzl, hown, hb2⟩
  have HO := Lib.hid hown
  have HB2 := Lib.hid hb2
  have h1z : w.heap.size ≤ w1.heap.size := HB1.out.size
  have h2z : w1.heap.size + 1 ≤ w2.heap.size := by have := hb2.size; simpa using this
  have hm63 : 27 + 1 ≤ maxLen := by unfold maxLen; omega
  clear hown hb2
  go_wp2_with (at_builtin; refine wpList_append_lies _ rfl (.tmp 19) (.tmp 21) 29 rfl (w1.heap.size + 1) 22 i0 _ 1 8 Try.underlying29 hi0 hz0 hz1 hz2 rfl (by decide) v 27 (flts zs) rfl ((own_base HO.out (by simp)).alloc _) ⟨w2.heap.size, 0, none⟩ 1 1 _ rfl ?hl (World.news_of_block (heap_alloc_new _ _)) ?h1 (by decide) hm63 ?hby ?hbase _ rfl ?hK)
  case h1 => exact rfl
  case hby => omega
  case hbase => simp; omega
  intro g cap' w3 hown' hgrow hg hglt
  obtain ⟨hn3, hvv⟩ := VV.of_own hown'
  have hb3 : Below (w1.heap.size + 1) (w1.alloc (.cells #[.int .i64 f, .int .i64 d, .int .i64 r, .int .i64 p, .float .f64 e1, .float .f64 e2, .float .f64 e3, .slice A cs.length cap] 25)) w3 :=
    ((HB2.out.mono (by simp)).alloc h2z _).grown hgrow (by simp; omega) (fun k hk => by have := HO.out.lt k hk; simp at this; omega)
  have hb3' : Below (w1.alloc (.cells #[.int .i64 f, .int .i64 d, .int .i64 r, .int .i64 p, .float .f64 e1, .float .f64 e2, .float .f64 e3, .slice A cs.length cap] 25)).heap.size (w1.alloc (.cells #[.int .i64 f, .int .i64 d, .int .i64 r, .int .i64 p, .float .f64 e1, .float .f64 e2, .float .f64 e3, .slice A cs.length cap] 25)) w3 := hb3.mono (by simp)
  have hvl : VV w3 (.slice (some ⟨g, 0, none⟩) 28 cap') (flts (zs ++ [x])) := by rw [flts_app]; exact hvv
  have hll : (zs ++ [x]).length = 28 := by rw [List.length_append, hzl]; rfl
  have HBX3 := Lib.hid (HBX.out.below hb3')
  have HRS3 := Lib.hid (((((Below.refl w1.heap.size w1).alloc (Nat.le_refl _) _).trans (hb3.mono (by omega))).block w.heap.size (by omega)).trans HRS.out)
  have HB3 := Lib.hid (HB1.out.trans ((((Below.refl w1.heap.size w1).alloc (Nat.le_refl _) _).trans (hb3.mono (by omega))).mono h1z))
  obtain ⟨l, hl⟩ : ∃ l, l = zs ++ [x] := ⟨_, rfl⟩
  rw [← hl] at hvl hll
  have HL := Lib.hid hvl
  have h3z := hb3.size
  simp only [World.size_alloc] at h3z
  clear hl hvl hvv hb3 hb3' hown' hgrow hg hglt hn3 HO HB2 HBX HRS HB1 FE FB
  have hgz : w1.heap.size < w3.heap.size := by omega
  have hwz : w.heap.size < w3.heap.size := by omega
  go_wp2_with fail
  go_loopw [9] (fun c wr => ∃ q : Int, -1 ≤ q ∧ q ≤ 6 ∧ c = .int .i64 q ∧ Below w3.heap.size w3 wr) (fun c _ => (6 - intOf c).toNat)
  case atStart => exact ⟨-1, by omega, by omega, rfl, Below.refl _ _⟩
  case round =>
    obtain ⟨q, hq1, hq2, rfl, hbw⟩ := hrel
    by_cases hlq : q < 6
    · have HBQ := Lib.hid hbw
      clear hbw
      go_wp2_with fail
      go_loopw [10] (fun i wx => ∃ k : Nat, k ≤ 28 ∧ i = .int .i64 k ∧ Below w3.heap.size w3 wx) (fun i _ => 28 - (intOf i).toNat)
      case atStart => exact ⟨0, by omega, rfl, HBQ.out⟩
      case round =>
        rename_i wr0 _
        obtain ⟨k, hk, rfl, hbw⟩ := hrel
        by_cases hlt : k < 28
        · have hx0 : ∀ wx, Below wr.heap.size wr wx → wx.cell? ⟨g, k, none⟩ = some (.float .f64 (l[k]'(by omega))) := fun wx h => by
            obtain ⟨A', c', hv, hA⟩ := (HL.out.below hbw).below h
            obtain ⟨b', o', rfl, -, hc⟩ := hA.flt (show k < l.length by omega)
            simp only [Value.slice.injEq, Option.some.injEq, Addr.mk.injEq, and_true] at hv
            obtain ⟨⟨rfl, rfl⟩, -⟩ := hv
            rw [Nat.zero_add] at hc
            exact hc
          have HX := Lib.hid hx0
          have HBR := Lib.hid (HBX3.out.below hbw)
          have HBW := Lib.hid hbw
          clear hx0 hbw
          generalize l[k]'(by omega) = y at *
          go_wp2_with fail
          refine Bag.region (fun wx => Below wr.heap.size wr wx) (by kernel_rfl) (by kernel_rfl) (Below.refl _ _).drew ?_
          iterate 17 (first
              | (apply Bag.walk_yes (by rfl)
                 (intro wx hx K hK
                  have hy := HX.out wx hx
                  obtain ⟨c0, c1, c2, c3, c4, c5, c6, c7⟩ := (HBR.out.below hx).cells
                  first
                    | (go_simp
                       first
                        | (go_at_call 13; (with_reducible refine (FC1.out A cap q y wx (HBR.out.below hx).cars).mono ?_); rintro e w' ⟨rfl, hb⟩; exact hK _ (hx.trans (hb.mono hx.size)))
                        | (go_at_call 14; (with_reducible refine (FC2.out A cap q y wx (HBR.out.below hx).cars).mono ?_); rintro e w' ⟨rfl, hb⟩; exact hK _ (hx.trans (hb.mono hx.size)))
                        | (go_at_K; exact hK _ hx)))
                 rfl)
              | (refine Bag.walk_no (by rfl) ?_; simp only [Act.put, List.setIfInBounds_toArray, List.set_cons_succ, List.set_cons_zero]))
          refine Bag.walk_nil (fun w4 hB4 => ?_)
          go_wp2_with fail
          go_roundw
          case rel => exact ⟨k + 1, by omega, by go_num, HBW.out.trans (hB4.mono HBW.out.size)⟩
          case measure => simp [intOf]; omega
        · obtain rfl : k = 28 := by omega
          go_wp2_with fail
          go_roundw
          case rel => exact ⟨q + 1, by omega, by omega, by go_num, hbw⟩
          case measure => simp [intOf]; omega
    · obtain rfl : q = 6 := by omega
      have HBR := Lib.hid (HBX3.out.below hbw)
      have HRW := Lib.hid ((hbw.block _ hwz).trans HRS3.out)
      have hwr : w.heap.size < wr.heap.size := Nat.lt_of_lt_of_le hwz hbw.size
      have HBW := Lib.hid hbw
      clear hbw
      go_wp2_with fail
      refine Bag.region (fun wx => Below wr.heap.size wr wx) (by kernel_rfl) (by kernel_rfl) (Below.refl _ _).drew ?_
      iterate 21 (first
          | (apply Bag.walk_yes (by rfl)
             (intro wx hx K hK
              obtain ⟨c0, c1, c2, c3, c4, c5, c6, c7⟩ := (HBR.out.below hx).cells
              have k0 : wx.cell? ⟨w.heap.size, 0, none⟩ = some (.int .i64 s) := cell_of_row _ _ _ _ _ (0, 0) ((hx.block _ hwr).trans HRW.out)
              first
                | (go_simp
                   first
                    | (go_at_call 13; (with_reducible refine (FC1.out A cap s x wx (HBR.out.below hx).cars).mono ?_); rintro e w' ⟨rfl, hb⟩; exact hK _ (hx.trans (hb.mono hx.size)))
                    | (go_at_call 13; (with_reducible refine (FN.out wx).mono ?_); rintro e w' ⟨rfl, hb⟩; exact hK _ (hx.trans (hb.mono hx.size)))
                    | (go_at_call 14; (with_reducible refine (FC2.out A cap s x wx (HBR.out.below hx).cars).mono ?_); rintro e w' ⟨rfl, hb⟩; exact hK _ (hx.trans (hb.mono hx.size)))
                    | (go_at_call 8; (with_reducible refine (FSN.out wx).mono ?_); rintro e w' ⟨rfl, hb⟩; exact hK _ (hx.trans (hb.mono hx.size)))
                    | (go_at_K; exact hK _ hx)))
             rfl)
          | (refine Bag.walk_no (by rfl) ?_; simp only [Act.put, List.setIfInBounds_toArray, List.set_cons_succ, List.set_cons_zero]))
      refine Bag.walk_nil (fun w4 hB4 => ?_)
      go_wp2_with fail
      go_ret
      exact ⟨rfl, HB3.out.trans ((HBW.out.trans (hB4.mono HBW.out.size)).mono HB3.out.size)⟩
set_option maxRecDepth 100000 in
theorem lawLoadSteps_lifted (os : Os) (started : os.Started) (H : Type) (enc : TypeId × Value → H) :
    ReturnsInHanded {} Try.checked os 4 .any (Rows.loadStepsSpec.pre6 enc Try.prog Try.f4 Rows.loadStepsRow.domain false) (Rows.loadStepsSpec.post enc Try.prog Try.f4 false true false false) := by
  refine returnsInHanded_of_change (C := Try.checked) own started (by kernel_rfl) Try.func4
    (ChangeSpec.witness6 (enc := enc) (C := Try.checked) false ⟨#[], #[.agg #[.int .i64 0], .float .f64 0, .agg #[.float .f64 0, .float .f64 0, .float .f64 0]], []⟩ 8 (by kernel_rfl) (by kernel_rfl) (by kernel_rfl) (by kernel_rfl)) ?_
  intro W base args ds gs before hval0 hW hcnd _
  have hval : ∀ (j : Nat) t v, Try.f4.params[j]? = some t → args[j]? = some v → Value.okWide Try.prog W .any base t v := hval0
  have hW' := hW
  obtain ⟨p, q, hA0, hV, rfl, hfz, hnd⟩ := hW
  have hA : DataW.TrodAll enc Try.prog W 0 (fun _ => true) true Try.f4.params.toList args.toList ds p := hA0
  rw [Try.params4] at hA hval
  obtain ⟨v0, vs0, d0, ds0, p0, q0, hargs, rfl, rfl, h0, r0⟩ := trodAll_cons hA
  obtain ⟨v1, vs1, d1, ds1, p1, q1, rfl, rfl, rfl, h1, r1⟩ := trodAll_cons r0
  obtain ⟨v2, vs2, d2, ds2, p2, q2, rfl, rfl, rfl, h2, r2⟩ := trodAll_cons r1
  obtain ⟨rfl, rfl, rfl⟩ := trodAll_nil r2
  obtain rfl : args = #[v0, v1, v2] := by cases args; simp_all
  obtain ⟨rfl, rfl⟩ := trodVars_none hV
  have k0 := h0
  have lt0 : ∀ x ∈ p0, x.block < W.heap.size := by obtain ⟨m, hm⟩ := k0; exact DataW.trod_lt m _ _ _ hm
  obtain ⟨x0, rfl, g0⟩ := open_ld (hval 0 34 v0 rfl rfl) h0
  have k1 := h1
  have lt1 : ∀ x ∈ p1, x.block < W.heap.size := by obtain ⟨m, hm⟩ := k1; exact DataW.trod_lt m _ _ _ hm
  obtain ⟨x1, rfl⟩ := open_f64 (hval 1 22 v1 rfl rfl) h1
  have k2 := h2
  have lt2 : ∀ x ∈ p2, x.block < W.heap.size := by obtain ⟨m, hm⟩ := k2; exact DataW.trod_lt m _ _ _ hm
  obtain ⟨x2, y2, z2, rfl⟩ := open_af3 (hval 2 26 v2 rfl rfl) h2
  clear hA0 hval0
  refine (lawLoadSteps_walk x0 x1 x2 y2 z2 W g0).mono fun e W' ⟨he, bel⟩ => ?_
  subst he
  exact ⟨_, rfl, _, _, _, [], _, [], hW', trodAll_mk1 (shut_bool Try.underlying4 _), (trodAll_cons_mk (Below.trod laidOut (by kernel_rfl) (of_decide_eq_true (by kernel_rfl)) k0 bel lt0) (trodAll_cons_mk (Below.trod laidOut (by kernel_rfl) (of_decide_eq_true (by kernel_rfl)) k1 bel lt1) (trodAll_cons_mk (Below.trod laidOut (by kernel_rfl) (of_decide_eq_true (by kernel_rfl)) k2 bel lt2) trodAll_mk0))), rfl, bel.frame _, fun h => by cases h⟩

theorem lawLoadSteps_over : Rows.loadStepsRow.holds Try.pinned (OpenSpec.ofChange Rows.loadStepsSpec) :=
  OpenClaim.holds_of_wide 4 Try.f4 rfl rfl rfl rfl rfl rfl rfl ⟨rfl, rfl, rfl, rfl, rfl⟩ rfl rfl rfl rfl rfl (by kernel_rfl) Try.func4 (by kernel_rfl)
    (of_decide_eq_true (by kernel_rfl)) (by unfold Func.isWrapper; first | (rw [if_pos (by decide +kernel)]; kernel_rfl) | (rw [if_neg (by decide +kernel)]; exact ⟨rfl, rfl⟩))
    (fun os started H enc _ => lawLoadSteps_lifted os started H enc)

theorem loadSteps_holds : Rows.LoadStepsSaid := lawLoadSteps_over
#print axioms loadSteps_holds
end Go.Proofs.Ytaiciopfinlpiaa
