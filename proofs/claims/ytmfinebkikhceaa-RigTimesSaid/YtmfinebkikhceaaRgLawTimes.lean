/- The law RigTimes: a movement that begins with a time and is not broken off is over so many ticks later, and not before. No condition. -/
import Derived.Test.YtmfinebkikhceaaBag
import Derived.Test.YtmfinebkikhceaaRgE
import Derived.Test.YtmfinebkikhceaaRgSane
import Derived.Test.YtmfinebkikhceaaRgOpen
namespace Go.Proofs.Ytmfinebkikhceaa
open Go.RowKit Go.ChangeShapes Go.WideShapes Go.ChangeAt
set_option linter.unusedSimpArgs false
set_option linter.unusedVariables false

set_option maxRecDepth 100000 in
set_option maxHeartbeats 16000000 in
theorem lawRigTimes_walk (n0 x0 y0 z0 : Int) (w : World) (h0 : (Lit.int .u8 n0).wf = true) (hxy : (Lit.int .u8 x0).wf = true ∧ (Lit.int .u8 y0).wf = true) (h1 : (Lit.int .u8 z0).wf = true) :
    Calls Try.prog 4 #[.int .u8 n0, .agg #[.int .u8 x0, .int .u8 y0], .int .u8 z0] w fun e w' => e = .returned (.bool true) ∧ Below w.heap.size w w' := by
  obtain ⟨n, rfl, hn⟩ := u8_nat h0
  obtain ⟨z, rfl, hz⟩ := u8_nat h1
  obtain ⟨x, rfl, hx⟩ := u8_nat hxy.1
  obtain ⟨y, rfl, hy⟩ := u8_nat hxy.2
  clear h0 h1 hxy
  obtain ⟨F, hFe, hF⟩ : ∃ F : Int, (2 : Int) + (n : Int) % 31 = F ∧ (2 ≤ F ∧ F ≤ 32) := ⟨_, rfl, by omega⟩
  obtain ⟨K, hKe, hK⟩ : ∃ K : Nat, (1 : Int) + (z : Int) = (K : Int) ∧ (1 ≤ K ∧ K ≤ 256) := ⟨1 + z, by omega, by omega⟩
  obtain ⟨f, hfe, hf⟩ : ∃ f : Int, (x : Int).tmod F = f ∧ (0 ≤ f ∧ f ≤ F - 1) := ⟨_, rfl, by rw [Int.tmod_eq_emod_of_nonneg (by omega)]; have := Int.emod_nonneg (x : Int) (show F ≠ 0 by omega); have := Int.emod_lt_of_pos (x : Int) (show 0 < F by omega); omega⟩
  have hFz : ¬ F = 0 := by omega
  have HF := Lib.hid hF
  have HK := Lib.hid hK
  have Hf := Lib.hid hf
  clear hF hK hf hn
  have FN := Lib.hid (fun wx => sane16_any wx)
  have FW := Lib.hid (fun wx => rigNew_any f wx)
  rw [show (Rg.new f).agg = .agg #[.int .i64 f, .int .i64 f, .int .i64 0, .int .i64 2, .int .i64 0, .int .i64 0] from rfl] at FW
  have hyc : (y : Int) % 3 = 0 ∨ (y : Int) % 3 = 1 ∨ (y : Int) % 3 = 2 := by omega
  have hw1 : IntKind.i64.wrap (F - 1) = F - 1 := by rw [IntKind.wrap_i64]; have := HF.out; omega
  have hx1 : IntKind.i64.wrap (x : Int) = x := by rw [IntKind.wrap_i64]; omega
  clear hx hy
  have hfm : (x : Int) % F = f := by rw [← hfe, Int.tmod_eq_emod_of_nonneg (by omega)]
  rcases hyc with hyc | hyc | hyc
  · have HB0 := Lib.hid (bxs1 w (.cells #[.int .u8 x, .int .u8 y] 36))
    go_enter Try.func4, Try.ntmps4
    go_wp2_with fail
    refine Bag.region (fun wx => Below (w.heap.size + 1) (w.alloc (.cells #[.int .u8 x, .int .u8 y] 36)) wx) (by kernel_rfl) (by kernel_rfl) (Below.refl _ _).drew ?_
    iterate 8 (first
        | (apply Bag.walk_yes (by rfl)
           (intro wx hx K hK
            have HXx := HB0.out.next (show Below _ _ wx from by simpa using hx)
            have z0_0 : wx.cell? ⟨w.heap.size, 0, none⟩ = some (.int .u8 x) := cell_of_row _ _ _ _ _ (0, 0) HXx.r0
            have z0_1 : wx.cell? ⟨w.heap.size, 1, none⟩ = some (.int .u8 y) := cell_of_row _ _ _ _ _ (0, 0) HXx.r0
            first
              | (go_simp
                 first
                  | (go_at_K; exact hK _ hx)))
           rfl)
        | (refine Bag.walk_no (by rfl) ?_; simp only [Act.put, List.setIfInBounds_toArray, List.set_cons_succ, List.set_cons_zero]))
    refine Bag.walk_nil (fun w1 hb1 => ?_)
    have HB1 := Lib.hid (HB0.out.next (show Below _ _ w1 from by simpa using hb1))
    clear hb1 HB0
    have c0_0 : w1.cell? ⟨w.heap.size, 0, none⟩ = some (.int .u8 x) := cell_of_row _ _ _ _ _ (0, 0) HB1.out.r0
    have c0_1 : w1.cell? ⟨w.heap.size, 1, none⟩ = some (.int .u8 y) := cell_of_row _ _ _ _ _ (0, 0) HB1.out.r0
    go_wp2_with fail
    simp only [hFe, hfm]
    clear hFe hfm hfe
    refine (FW.out _).mono ?_
    rintro e w2 ⟨rfl, hb2⟩
    have HB2 := Lib.hid (HB1.out.next hb2)
    clear c0_0 c0_1 hb2 HB1
    go_wp2_with (with_reducible show wpList _ _ _ (Oper.mk _ (.store 23 _ _) _ _ _ _ :: _) _ _; refine Hid.out ?_)
    refine Lib.hid ?_
    have l3_0 : w.heap.size < w2.heap.size := (Array.getElem?_eq_some_iff.1 HB2.out.r0).1
    have lw3 : w.heap.size ≤ w2.heap.size := HB2.out.below.size
    refine wpList_put rfl 23 _ _ rfl w2.heap.size #[.int .i64 f, .int .i64 f, .int .i64 0, .int .i64 2, .int .i64 0, .int .i64 0] _ 23 rfl rfl (heap_alloc_new w2 _) (by kernel_rfl) rfl (by kernel_rfl) ?_
    intro w3 hr3 hg3
    have HB3 : Hid (Bx w [(w2.heap.size, .cells #[.int .i64 f, .int .i64 f, .int .i64 0, .int .i64 2, .int .i64 0, .int .i64 0] 23 (0, 0)), (w.heap.size, .cells #[.int .u8 x, .int .u8 y] 36 (0, 0))] w3) := Lib.hid ((HB2.out.make (heap_alloc_new w2 (.cells #[.int .i64 0, .int .i64 0, .int .i64 0, .int .i64 0, .int .i64 0, .int .i64 0] 23)) ((Below.refl w2.heap.size w2).alloc (Nat.le_refl _) _)).put HB2.out.below.size hg3.out hr3.out (by simp only [List.mem_cons, List.not_mem_nil, or_false]; rintro p (rfl | rfl) <;> simp <;> omega))
    clear hr3 hg3 HB2
    generalize w2.heap.size = gs at *
    have c0_0 : w3.cell? ⟨gs, 0, none⟩ = some (.int .i64 f) := cell_of_row _ _ _ _ _ (0, 0) HB3.out.r0
    have c0_1 : w3.cell? ⟨gs, 1, none⟩ = some (.int .i64 f) := cell_of_row _ _ _ _ _ (0, 0) HB3.out.r0
    have c0_2 : w3.cell? ⟨gs, 2, none⟩ = some (.int .i64 0) := cell_of_row _ _ _ _ _ (0, 0) HB3.out.r0
    have c0_3 : w3.cell? ⟨gs, 3, none⟩ = some (.int .i64 2) := cell_of_row _ _ _ _ _ (0, 0) HB3.out.r0
    have c0_4 : w3.cell? ⟨gs, 4, none⟩ = some (.int .i64 0) := cell_of_row _ _ _ _ _ (0, 0) HB3.out.r0
    have c0_5 : w3.cell? ⟨gs, 5, none⟩ = some (.int .i64 0) := cell_of_row _ _ _ _ _ (0, 0) HB3.out.r0
    have c1_0 : w3.cell? ⟨w.heap.size, 0, none⟩ = some (.int .u8 x) := cell_of_row _ _ _ _ _ (0, 0) HB3.out.r1
    have c1_1 : w3.cell? ⟨w.heap.size, 1, none⟩ = some (.int .u8 y) := cell_of_row _ _ _ _ _ (0, 0) HB3.out.r1
    go_wp2_with (with_reducible show wpList _ _ _ (Oper.mk _ (.buildSlice _ _ _) _ _ _ _ :: _) _ _; refine wpList_ints3 rfl rfl ?_; refine Hid.out ?_)
    refine Lib.hid ?_
    have l4_0 : gs < w3.heap.size := (Array.getElem?_eq_some_iff.1 HB3.out.r0).1
    have l4_1 : w.heap.size < w3.heap.size := (Array.getElem?_eq_some_iff.1 HB3.out.r1).1
    have lw4 : w.heap.size ≤ w3.heap.size := HB3.out.below.size
    have HB4 := Lib.hid (HB3.out.make (heap_alloc_new w3 (.cells #[.int .i64 1, .int .i64 2, .int .i64 3] 3)) ((Below.refl w3.heap.size w3).alloc (Nat.le_refl _) _))
    generalize w3.alloc (.cells #[.int .i64 1, .int .i64 2, .int .i64 3] 3) = w4 at *
    clear c0_0 c0_1 c0_2 c0_3 c0_4 c0_5 c1_0 c1_1 HB3
    generalize w3.heap.size = gl at *
    have c0_0 : w4.cell? ⟨gl, 0, none⟩ = some (.int .i64 1) := cell_of_row _ _ _ _ _ (0, 0) HB4.out.r0
    have c0_1 : w4.cell? ⟨gl, 1, none⟩ = some (.int .i64 2) := cell_of_row _ _ _ _ _ (0, 0) HB4.out.r0
    have c0_2 : w4.cell? ⟨gl, 2, none⟩ = some (.int .i64 3) := cell_of_row _ _ _ _ _ (0, 0) HB4.out.r0
    have c1_0 : w4.cell? ⟨gs, 0, none⟩ = some (.int .i64 f) := cell_of_row _ _ _ _ _ (0, 0) HB4.out.r1
    have c1_1 : w4.cell? ⟨gs, 1, none⟩ = some (.int .i64 f) := cell_of_row _ _ _ _ _ (0, 0) HB4.out.r1
    have c1_2 : w4.cell? ⟨gs, 2, none⟩ = some (.int .i64 0) := cell_of_row _ _ _ _ _ (0, 0) HB4.out.r1
    have c1_3 : w4.cell? ⟨gs, 3, none⟩ = some (.int .i64 2) := cell_of_row _ _ _ _ _ (0, 0) HB4.out.r1
    have c1_4 : w4.cell? ⟨gs, 4, none⟩ = some (.int .i64 0) := cell_of_row _ _ _ _ _ (0, 0) HB4.out.r1
    have c1_5 : w4.cell? ⟨gs, 5, none⟩ = some (.int .i64 0) := cell_of_row _ _ _ _ _ (0, 0) HB4.out.r1
    have c2_0 : w4.cell? ⟨w.heap.size, 0, none⟩ = some (.int .u8 x) := cell_of_row _ _ _ _ _ (0, 0) HB4.out.r2
    have c2_1 : w4.cell? ⟨w.heap.size, 1, none⟩ = some (.int .u8 y) := cell_of_row _ _ _ _ _ (0, 0) HB4.out.r2
    by_cases hbd : f = F - 1
    · skip
      have FS := Lib.hid (fun wx => rigStep_any F ⟨f, f, 0, 2, 0, 0⟩ 1 K wx)
      rw [show Rg.anyF F ⟨f, f, 0, 2, 0, 0⟩ 1 K = ⟨f, f, 0, 2, 0, 0⟩ by rw [show (⟨f, f, 0, 2, 0, 0⟩ : Rg) = Rg.new f from rfl, Rg.anyF_ok (Rg.new_ok HF.out Hf.out)]; exact Rg.e1_out _ _ _ (by omega)] at FS
      simp only [Rg.agg] at FS
      have qe := fun wx => eqlRg ⟨f, f, 0, 2, 0, 0⟩ ⟨f, f, 0, 2, 0, 0⟩ wx
      rw [Rg.eqB_self] at qe
      simp only [Rg.agg] at qe
      have hB1 : (f == F - 1) = true := by simpa using hbd
      clear hbd
      go_wp2_with fail
      refine Bag.region (fun wx => Below w4.heap.size w4 wx) (by kernel_rfl) (by kernel_rfl) (Below.refl _ _).drew ?_
      iterate 11 (first
          | (apply Bag.walk_yes (by rfl)
             (intro wx hx K hK
              have HXx := HB4.out.next hx
              have z1_0 : wx.cell? ⟨gs, 0, none⟩ = some (.int .i64 f) := cell_of_row _ _ _ _ _ (0, 0) HXx.r1
              have z1_1 : wx.cell? ⟨gs, 1, none⟩ = some (.int .i64 f) := cell_of_row _ _ _ _ _ (0, 0) HXx.r1
              have z1_2 : wx.cell? ⟨gs, 2, none⟩ = some (.int .i64 0) := cell_of_row _ _ _ _ _ (0, 0) HXx.r1
              have z1_3 : wx.cell? ⟨gs, 3, none⟩ = some (.int .i64 2) := cell_of_row _ _ _ _ _ (0, 0) HXx.r1
              have z1_4 : wx.cell? ⟨gs, 4, none⟩ = some (.int .i64 0) := cell_of_row _ _ _ _ _ (0, 0) HXx.r1
              have z1_5 : wx.cell? ⟨gs, 5, none⟩ = some (.int .i64 0) := cell_of_row _ _ _ _ _ (0, 0) HXx.r1
              first
                | (go_simp
                   first
                    | (go_at_call 10; (with_reducible refine (FS.out _).mono ?_); rintro e x1 ⟨rfl, hb⟩; exact hK _ (hx.trans (hb.mono hx.size)))
                    | (go_at_call 7; (with_reducible refine (FN.out _).mono ?_); rintro e x1 ⟨rfl, hb⟩; exact hK _ (hx.trans (hb.mono hx.size)))
                    | (go_at_K; exact hK _ hx)))
             rfl)
          | (refine Bag.walk_no (by rfl) ?_; simp only [Act.put, List.setIfInBounds_toArray, List.set_cons_succ, List.set_cons_zero]))
      refine Bag.walk_nil (fun w5 hb5 => ?_)
      have HB5 := Lib.hid (HB4.out.next hb5)
      clear c0_0 c0_1 c0_2 c1_0 c1_1 c1_2 c1_3 c1_4 c1_5 c2_0 c2_1 hb5 HB4
      go_wp2_with fail
      go_ret
      exact ⟨rfl, HB5.out.below⟩
    · have hB1 : (f == F - 1) = false := by simpa using hbd
      have HG := Lib.hid (show 0 ≤ f + (1) ∧ f + (1) ≤ F - 1 by have := Hf.out; omega)
      clear hbd
      go_wp2_with (with_reducible show wpList _ _ _ (Oper.mk _ (.store 23 _ _) _ _ _ _ :: _) _ _; refine Hid.out ?_)
      refine Lib.hid ?_
      have l5_0 : gl < w4.heap.size := (Array.getElem?_eq_some_iff.1 HB4.out.r0).1
      have l5_1 : gs < w4.heap.size := (Array.getElem?_eq_some_iff.1 HB4.out.r1).1
      have l5_2 : w.heap.size < w4.heap.size := (Array.getElem?_eq_some_iff.1 HB4.out.r2).1
      have lw5 : w.heap.size ≤ w4.heap.size := HB4.out.below.size
      refine wpList_put rfl 23 _ _ rfl w4.heap.size #[.int .i64 f, .int .i64 f, .int .i64 0, .int .i64 2, .int .i64 0, .int .i64 0] _ 23 rfl rfl (heap_alloc_new w4 _) (by kernel_rfl) rfl (by kernel_rfl) ?_
      intro w5 hr5 hg5
      have HB5 : Hid (Bx w [(w4.heap.size, .cells #[.int .i64 f, .int .i64 f, .int .i64 0, .int .i64 2, .int .i64 0, .int .i64 0] 23 (0, 0)), (gl, .cells #[.int .i64 1, .int .i64 2, .int .i64 3] 3 (0, 0)), (gs, .cells #[.int .i64 f, .int .i64 f, .int .i64 0, .int .i64 2, .int .i64 0, .int .i64 0] 23 (0, 0)), (w.heap.size, .cells #[.int .u8 x, .int .u8 y] 36 (0, 0))] w5) := Lib.hid ((HB4.out.make (heap_alloc_new w4 (.cells #[.int .i64 0, .int .i64 0, .int .i64 0, .int .i64 0, .int .i64 0, .int .i64 0] 23)) ((Below.refl w4.heap.size w4).alloc (Nat.le_refl _) _)).put HB4.out.below.size hg5.out hr5.out (by simp only [List.mem_cons, List.not_mem_nil, or_false]; rintro p (rfl | rfl | rfl | rfl) <;> simp <;> omega))
      clear c0_0 c0_1 c0_2 c1_0 c1_1 c1_2 c1_3 c1_4 c1_5 c2_0 c2_1 hr5 hg5 HB4
      generalize w4.heap.size = gw at *
      go_wp2_with fail
      clear hKe hz
      go_loopw [13] (fun vi wr => ∃ (j : Nat) (s : Rg), vi = .int .i64 ((j : Int) + 1) ∧ j ≤ K ∧ s = Rg.rideAt f (1) K j ∧ Bx w [(gw, .cells #[.int .i64 f, .int .i64 f, .int .i64 0, .int .i64 2, .int .i64 0, .int .i64 0] 23 (0, 0)), (gl, .cells #[.int .i64 1, .int .i64 2, .int .i64 3] 3 (0, 0)), (gs, .cells #[.int .i64 s.fl, .int .i64 s.tg, .int .i64 s.lf, .int .i64 s.dd, .int .i64 s.am, .int .i64 s.tk] 23 (0, 0)), (w.heap.size, .cells #[.int .u8 x, .int .u8 y] 36 (0, 0))] wr) (fun vi _ => 300 - (intOf vi).toNat)
      case atStart => exact ⟨0, Rg.new f, rfl, Nat.zero_le _, rfl, HB5.out⟩
      case round =>
        obtain ⟨j, s, rfl, hj, hs, hbr⟩ := hrel
        clear HB5
        by_cases hlt : j < K
        · have hst : Rg.anyF F s 1 K = Rg.rideAt f (1) K ((j : Int) + 1) := by
            have hk := HK.out
            rw [hs, Rg.anyF_ok (Rg.rideAt_ok HF.out (.inl rfl) Hf.out (by have := HG.out; omega) (by omega) (by omega)), Rg.lim_id (by omega)]
            exact Rg.rideAt_step (.inl ⟨rfl, rfl⟩) (by have := HG.out; omega) (by omega)
          obtain ⟨s1, s2, s3, s4, s5, s6⟩ := s
          simp only at hbr
          have HBR := Lib.hid hbr
          clear hbr hs
          have FS := Lib.hid (fun wx => rigStep_any F ⟨s1, s2, s3, s4, s5, s6⟩ 1 K wx)
          rw [hst] at FS
          clear hst
          have hlti : (j : Int) + 1 ≤ (K : Int) := by omega
          have hltB : decide ((j : Int) + 1 ≤ (K : Int)) = true := decide_eq_true hlti
          have hwj : IntKind.i64.wrap ((j : Int) + 1 + 1) = ((j + 1 : Nat) : Int) + 1 := by rw [IntKind.wrap_i64]; have := HK.out; omega
          by_cases hend : j + 1 < K
          · obtain ⟨q, hq, hq1⟩ : ∃ q : Int, (K : Int) - ((j : Int) + 1) = q ∧ 1 ≤ q := ⟨_, rfl, by omega⟩
            have hX : Rg.rideAt f (1) K ((j : Int) + 1) = ⟨f, f + 1, q, 2, 0, 0⟩ := by unfold Rg.rideAt; rw [if_neg (by omega), if_pos (by omega), hq] <;> rfl
            rw [hX] at FS
            have FR := Lib.hid (fun wx => rigReport_any ⟨f, f + 1, q, 2, 0, 0⟩ false wx)
            have hq0 : (q == 0) = false := by simp only [beq_eq_false_iff_ne, ne_eq]; omega
            have hik : ((j : Int) + 1 == (K : Int)) = false := by simp only [beq_eq_false_iff_ne, ne_eq]; omega
            rw [show (Rg.report ⟨f, f + 1, q, 2, 0, 0⟩ false).agg = .agg #[.int .i64 f, .bool false, .int .i64 2, .bool false] by unfold Rg.report; simp only [hq0]; rfl] at FR
            simp only [Rg.agg] at FS FR
            have HX := Lib.hid hX
            clear hX hq hq1 hend
            have c0_0 : wr.cell? ⟨gw, 0, none⟩ = some (.int .i64 f) := cell_of_row _ _ _ _ _ (0, 0) HBR.out.r0
            have c0_1 : wr.cell? ⟨gw, 1, none⟩ = some (.int .i64 f) := cell_of_row _ _ _ _ _ (0, 0) HBR.out.r0
            have c0_2 : wr.cell? ⟨gw, 2, none⟩ = some (.int .i64 0) := cell_of_row _ _ _ _ _ (0, 0) HBR.out.r0
            have c0_3 : wr.cell? ⟨gw, 3, none⟩ = some (.int .i64 2) := cell_of_row _ _ _ _ _ (0, 0) HBR.out.r0
            have c0_4 : wr.cell? ⟨gw, 4, none⟩ = some (.int .i64 0) := cell_of_row _ _ _ _ _ (0, 0) HBR.out.r0
            have c0_5 : wr.cell? ⟨gw, 5, none⟩ = some (.int .i64 0) := cell_of_row _ _ _ _ _ (0, 0) HBR.out.r0
            have c1_0 : wr.cell? ⟨gl, 0, none⟩ = some (.int .i64 1) := cell_of_row _ _ _ _ _ (0, 0) HBR.out.r1
            have c1_1 : wr.cell? ⟨gl, 1, none⟩ = some (.int .i64 2) := cell_of_row _ _ _ _ _ (0, 0) HBR.out.r1
            have c1_2 : wr.cell? ⟨gl, 2, none⟩ = some (.int .i64 3) := cell_of_row _ _ _ _ _ (0, 0) HBR.out.r1
            have c2_0 : wr.cell? ⟨gs, 0, none⟩ = some (.int .i64 s1) := cell_of_row _ _ _ _ _ (0, 0) HBR.out.r2
            have c2_1 : wr.cell? ⟨gs, 1, none⟩ = some (.int .i64 s2) := cell_of_row _ _ _ _ _ (0, 0) HBR.out.r2
            have c2_2 : wr.cell? ⟨gs, 2, none⟩ = some (.int .i64 s3) := cell_of_row _ _ _ _ _ (0, 0) HBR.out.r2
            have c2_3 : wr.cell? ⟨gs, 3, none⟩ = some (.int .i64 s4) := cell_of_row _ _ _ _ _ (0, 0) HBR.out.r2
            have c2_4 : wr.cell? ⟨gs, 4, none⟩ = some (.int .i64 s5) := cell_of_row _ _ _ _ _ (0, 0) HBR.out.r2
            have c2_5 : wr.cell? ⟨gs, 5, none⟩ = some (.int .i64 s6) := cell_of_row _ _ _ _ _ (0, 0) HBR.out.r2
            have c3_0 : wr.cell? ⟨w.heap.size, 0, none⟩ = some (.int .u8 x) := cell_of_row _ _ _ _ _ (0, 0) HBR.out.r3
            have c3_1 : wr.cell? ⟨w.heap.size, 1, none⟩ = some (.int .u8 y) := cell_of_row _ _ _ _ _ (0, 0) HBR.out.r3
            go_wp2_with fail
            refine (FS.out _).mono ?_
            rintro e w6 ⟨rfl, hb6⟩
            have HB6 := Lib.hid (HBR.out.next hb6)
            clear c0_0 c0_1 c0_2 c0_3 c0_4 c0_5 c1_0 c1_1 c1_2 c2_0 c2_1 c2_2 c2_3 c2_4 c2_5 c3_0 c3_1 hb6 HBR
            have c0_0 : w6.cell? ⟨gw, 0, none⟩ = some (.int .i64 f) := cell_of_row _ _ _ _ _ (0, 0) HB6.out.r0
            have c0_1 : w6.cell? ⟨gw, 1, none⟩ = some (.int .i64 f) := cell_of_row _ _ _ _ _ (0, 0) HB6.out.r0
            have c0_2 : w6.cell? ⟨gw, 2, none⟩ = some (.int .i64 0) := cell_of_row _ _ _ _ _ (0, 0) HB6.out.r0
            have c0_3 : w6.cell? ⟨gw, 3, none⟩ = some (.int .i64 2) := cell_of_row _ _ _ _ _ (0, 0) HB6.out.r0
            have c0_4 : w6.cell? ⟨gw, 4, none⟩ = some (.int .i64 0) := cell_of_row _ _ _ _ _ (0, 0) HB6.out.r0
            have c0_5 : w6.cell? ⟨gw, 5, none⟩ = some (.int .i64 0) := cell_of_row _ _ _ _ _ (0, 0) HB6.out.r0
            have c1_0 : w6.cell? ⟨gl, 0, none⟩ = some (.int .i64 1) := cell_of_row _ _ _ _ _ (0, 0) HB6.out.r1
            have c1_1 : w6.cell? ⟨gl, 1, none⟩ = some (.int .i64 2) := cell_of_row _ _ _ _ _ (0, 0) HB6.out.r1
            have c1_2 : w6.cell? ⟨gl, 2, none⟩ = some (.int .i64 3) := cell_of_row _ _ _ _ _ (0, 0) HB6.out.r1
            have c2_0 : w6.cell? ⟨gs, 0, none⟩ = some (.int .i64 s1) := cell_of_row _ _ _ _ _ (0, 0) HB6.out.r2
            have c2_1 : w6.cell? ⟨gs, 1, none⟩ = some (.int .i64 s2) := cell_of_row _ _ _ _ _ (0, 0) HB6.out.r2
            have c2_2 : w6.cell? ⟨gs, 2, none⟩ = some (.int .i64 s3) := cell_of_row _ _ _ _ _ (0, 0) HB6.out.r2
            have c2_3 : w6.cell? ⟨gs, 3, none⟩ = some (.int .i64 s4) := cell_of_row _ _ _ _ _ (0, 0) HB6.out.r2
            have c2_4 : w6.cell? ⟨gs, 4, none⟩ = some (.int .i64 s5) := cell_of_row _ _ _ _ _ (0, 0) HB6.out.r2
            have c2_5 : w6.cell? ⟨gs, 5, none⟩ = some (.int .i64 s6) := cell_of_row _ _ _ _ _ (0, 0) HB6.out.r2
            have c3_0 : w6.cell? ⟨w.heap.size, 0, none⟩ = some (.int .u8 x) := cell_of_row _ _ _ _ _ (0, 0) HB6.out.r3
            have c3_1 : w6.cell? ⟨w.heap.size, 1, none⟩ = some (.int .u8 y) := cell_of_row _ _ _ _ _ (0, 0) HB6.out.r3
            go_wp2_with (with_reducible show wpList _ _ _ (Oper.mk _ (.store 23 _ _) _ _ _ _ :: _) _ _; refine Hid.out ?_)
            refine Lib.hid ?_
            refine wpList_put rfl 23 _ _ rfl (gs) #[.int .i64 f, .int .i64 (f + 1), .int .i64 q, .int .i64 2, .int .i64 0, .int .i64 0] _ 23 rfl rfl HB6.out.r2 (by kernel_rfl) rfl (by kernel_rfl) ?_
            intro w7 hr7 hg7
            have HB7 : Hid (Bx w [(gw, .cells #[.int .i64 f, .int .i64 f, .int .i64 0, .int .i64 2, .int .i64 0, .int .i64 0] 23 (0, 0)), (gl, .cells #[.int .i64 1, .int .i64 2, .int .i64 3] 3 (0, 0)), (gs, .cells #[.int .i64 f, .int .i64 (f + 1), .int .i64 q, .int .i64 2, .int .i64 0, .int .i64 0] 23 (0, 0)), (w.heap.size, .cells #[.int .u8 x, .int .u8 y] 36 (0, 0))] w7) := Lib.hid (HB6.out.put (by omega) hg7.out hr7.out (by simp only [List.mem_cons, List.not_mem_nil, or_false]; rintro p (rfl | rfl | rfl | rfl) <;> simp <;> omega))
            clear c0_0 c0_1 c0_2 c0_3 c0_4 c0_5 c1_0 c1_1 c1_2 c2_0 c2_1 c2_2 c2_3 c2_4 c2_5 c3_0 c3_1 hr7 hg7 HB6
            have c0_0 : w7.cell? ⟨gw, 0, none⟩ = some (.int .i64 f) := cell_of_row _ _ _ _ _ (0, 0) HB7.out.r0
            have c0_1 : w7.cell? ⟨gw, 1, none⟩ = some (.int .i64 f) := cell_of_row _ _ _ _ _ (0, 0) HB7.out.r0
            have c0_2 : w7.cell? ⟨gw, 2, none⟩ = some (.int .i64 0) := cell_of_row _ _ _ _ _ (0, 0) HB7.out.r0
            have c0_3 : w7.cell? ⟨gw, 3, none⟩ = some (.int .i64 2) := cell_of_row _ _ _ _ _ (0, 0) HB7.out.r0
            have c0_4 : w7.cell? ⟨gw, 4, none⟩ = some (.int .i64 0) := cell_of_row _ _ _ _ _ (0, 0) HB7.out.r0
            have c0_5 : w7.cell? ⟨gw, 5, none⟩ = some (.int .i64 0) := cell_of_row _ _ _ _ _ (0, 0) HB7.out.r0
            have c1_0 : w7.cell? ⟨gl, 0, none⟩ = some (.int .i64 1) := cell_of_row _ _ _ _ _ (0, 0) HB7.out.r1
            have c1_1 : w7.cell? ⟨gl, 1, none⟩ = some (.int .i64 2) := cell_of_row _ _ _ _ _ (0, 0) HB7.out.r1
            have c1_2 : w7.cell? ⟨gl, 2, none⟩ = some (.int .i64 3) := cell_of_row _ _ _ _ _ (0, 0) HB7.out.r1
            have c2_0 : w7.cell? ⟨gs, 0, none⟩ = some (.int .i64 f) := cell_of_row _ _ _ _ _ (0, 0) HB7.out.r2
            have c2_1 : w7.cell? ⟨gs, 1, none⟩ = some (.int .i64 (f + 1)) := cell_of_row _ _ _ _ _ (0, 0) HB7.out.r2
            have c2_2 : w7.cell? ⟨gs, 2, none⟩ = some (.int .i64 q) := cell_of_row _ _ _ _ _ (0, 0) HB7.out.r2
            have c2_3 : w7.cell? ⟨gs, 3, none⟩ = some (.int .i64 2) := cell_of_row _ _ _ _ _ (0, 0) HB7.out.r2
            have c2_4 : w7.cell? ⟨gs, 4, none⟩ = some (.int .i64 0) := cell_of_row _ _ _ _ _ (0, 0) HB7.out.r2
            have c2_5 : w7.cell? ⟨gs, 5, none⟩ = some (.int .i64 0) := cell_of_row _ _ _ _ _ (0, 0) HB7.out.r2
            have c3_0 : w7.cell? ⟨w.heap.size, 0, none⟩ = some (.int .u8 x) := cell_of_row _ _ _ _ _ (0, 0) HB7.out.r3
            have c3_1 : w7.cell? ⟨w.heap.size, 1, none⟩ = some (.int .u8 y) := cell_of_row _ _ _ _ _ (0, 0) HB7.out.r3
            go_wp2_with fail
            refine (FR.out _).mono ?_
            rintro e w8 ⟨rfl, hb8⟩
            have HB8 := Lib.hid (HB7.out.next hb8)
            clear c0_0 c0_1 c0_2 c0_3 c0_4 c0_5 c1_0 c1_1 c1_2 c2_0 c2_1 c2_2 c2_3 c2_4 c2_5 c3_0 c3_1 hb8 HB7
            have c0_0 : w8.cell? ⟨gw, 0, none⟩ = some (.int .i64 f) := cell_of_row _ _ _ _ _ (0, 0) HB8.out.r0
            have c0_1 : w8.cell? ⟨gw, 1, none⟩ = some (.int .i64 f) := cell_of_row _ _ _ _ _ (0, 0) HB8.out.r0
            have c0_2 : w8.cell? ⟨gw, 2, none⟩ = some (.int .i64 0) := cell_of_row _ _ _ _ _ (0, 0) HB8.out.r0
            have c0_3 : w8.cell? ⟨gw, 3, none⟩ = some (.int .i64 2) := cell_of_row _ _ _ _ _ (0, 0) HB8.out.r0
            have c0_4 : w8.cell? ⟨gw, 4, none⟩ = some (.int .i64 0) := cell_of_row _ _ _ _ _ (0, 0) HB8.out.r0
            have c0_5 : w8.cell? ⟨gw, 5, none⟩ = some (.int .i64 0) := cell_of_row _ _ _ _ _ (0, 0) HB8.out.r0
            have c1_0 : w8.cell? ⟨gl, 0, none⟩ = some (.int .i64 1) := cell_of_row _ _ _ _ _ (0, 0) HB8.out.r1
            have c1_1 : w8.cell? ⟨gl, 1, none⟩ = some (.int .i64 2) := cell_of_row _ _ _ _ _ (0, 0) HB8.out.r1
            have c1_2 : w8.cell? ⟨gl, 2, none⟩ = some (.int .i64 3) := cell_of_row _ _ _ _ _ (0, 0) HB8.out.r1
            have c2_0 : w8.cell? ⟨gs, 0, none⟩ = some (.int .i64 f) := cell_of_row _ _ _ _ _ (0, 0) HB8.out.r2
            have c2_1 : w8.cell? ⟨gs, 1, none⟩ = some (.int .i64 (f + 1)) := cell_of_row _ _ _ _ _ (0, 0) HB8.out.r2
            have c2_2 : w8.cell? ⟨gs, 2, none⟩ = some (.int .i64 q) := cell_of_row _ _ _ _ _ (0, 0) HB8.out.r2
            have c2_3 : w8.cell? ⟨gs, 3, none⟩ = some (.int .i64 2) := cell_of_row _ _ _ _ _ (0, 0) HB8.out.r2
            have c2_4 : w8.cell? ⟨gs, 4, none⟩ = some (.int .i64 0) := cell_of_row _ _ _ _ _ (0, 0) HB8.out.r2
            have c2_5 : w8.cell? ⟨gs, 5, none⟩ = some (.int .i64 0) := cell_of_row _ _ _ _ _ (0, 0) HB8.out.r2
            have c3_0 : w8.cell? ⟨w.heap.size, 0, none⟩ = some (.int .u8 x) := cell_of_row _ _ _ _ _ (0, 0) HB8.out.r3
            have c3_1 : w8.cell? ⟨w.heap.size, 1, none⟩ = some (.int .u8 y) := cell_of_row _ _ _ _ _ (0, 0) HB8.out.r3
            go_wp2_with (with_reducible show wpList _ _ _ (Oper.mk _ (.store 32 _ _) _ _ _ _ :: _) _ _; refine Hid.out ?_)
            refine Lib.hid ?_
            have l9_0 : gw < w8.heap.size := (Array.getElem?_eq_some_iff.1 HB8.out.r0).1
            have l9_1 : gl < w8.heap.size := (Array.getElem?_eq_some_iff.1 HB8.out.r1).1
            have l9_2 : gs < w8.heap.size := (Array.getElem?_eq_some_iff.1 HB8.out.r2).1
            have l9_3 : w.heap.size < w8.heap.size := (Array.getElem?_eq_some_iff.1 HB8.out.r3).1
            have lw9 : w.heap.size ≤ w8.heap.size := HB8.out.below.size
            refine wpList_put rfl 32 _ _ rfl w8.heap.size #[.int .i64 f, .bool false, .int .i64 2, .bool false] _ 32 rfl rfl (heap_alloc_new w8 _) (by kernel_rfl) rfl (by kernel_rfl) ?_
            intro w9 hr9 hg9
            have HB9 : Hid (Bx w [(w8.heap.size, .cells #[.int .i64 f, .bool false, .int .i64 2, .bool false] 32 (0, 0)), (gw, .cells #[.int .i64 f, .int .i64 f, .int .i64 0, .int .i64 2, .int .i64 0, .int .i64 0] 23 (0, 0)), (gl, .cells #[.int .i64 1, .int .i64 2, .int .i64 3] 3 (0, 0)), (gs, .cells #[.int .i64 f, .int .i64 (f + 1), .int .i64 q, .int .i64 2, .int .i64 0, .int .i64 0] 23 (0, 0)), (w.heap.size, .cells #[.int .u8 x, .int .u8 y] 36 (0, 0))] w9) := Lib.hid ((HB8.out.make (heap_alloc_new w8 (.cells #[.int .i64 0, .bool false, .int .i64 0, .bool false] 32)) ((Below.refl w8.heap.size w8).alloc (Nat.le_refl _) _)).put HB8.out.below.size hg9.out hr9.out (by simp only [List.mem_cons, List.not_mem_nil, or_false]; rintro p (rfl | rfl | rfl | rfl | rfl) <;> simp <;> omega))
            clear c0_0 c0_1 c0_2 c0_3 c0_4 c0_5 c1_0 c1_1 c1_2 c2_0 c2_1 c2_2 c2_3 c2_4 c2_5 c3_0 c3_1 hr9 hg9 HB8
            generalize w8.heap.size = gf at *
            have c0_0 : w9.cell? ⟨gf, 0, none⟩ = some (.int .i64 f) := cell_of_row _ _ _ _ _ (0, 0) HB9.out.r0
            have c0_1 : w9.cell? ⟨gf, 1, none⟩ = some (.bool false) := cell_of_row _ _ _ _ _ (0, 0) HB9.out.r0
            have c0_2 : w9.cell? ⟨gf, 2, none⟩ = some (.int .i64 2) := cell_of_row _ _ _ _ _ (0, 0) HB9.out.r0
            have c0_3 : w9.cell? ⟨gf, 3, none⟩ = some (.bool false) := cell_of_row _ _ _ _ _ (0, 0) HB9.out.r0
            have c1_0 : w9.cell? ⟨gw, 0, none⟩ = some (.int .i64 f) := cell_of_row _ _ _ _ _ (0, 0) HB9.out.r1
            have c1_1 : w9.cell? ⟨gw, 1, none⟩ = some (.int .i64 f) := cell_of_row _ _ _ _ _ (0, 0) HB9.out.r1
            have c1_2 : w9.cell? ⟨gw, 2, none⟩ = some (.int .i64 0) := cell_of_row _ _ _ _ _ (0, 0) HB9.out.r1
            have c1_3 : w9.cell? ⟨gw, 3, none⟩ = some (.int .i64 2) := cell_of_row _ _ _ _ _ (0, 0) HB9.out.r1
            have c1_4 : w9.cell? ⟨gw, 4, none⟩ = some (.int .i64 0) := cell_of_row _ _ _ _ _ (0, 0) HB9.out.r1
            have c1_5 : w9.cell? ⟨gw, 5, none⟩ = some (.int .i64 0) := cell_of_row _ _ _ _ _ (0, 0) HB9.out.r1
            have c2_0 : w9.cell? ⟨gl, 0, none⟩ = some (.int .i64 1) := cell_of_row _ _ _ _ _ (0, 0) HB9.out.r2
            have c2_1 : w9.cell? ⟨gl, 1, none⟩ = some (.int .i64 2) := cell_of_row _ _ _ _ _ (0, 0) HB9.out.r2
            have c2_2 : w9.cell? ⟨gl, 2, none⟩ = some (.int .i64 3) := cell_of_row _ _ _ _ _ (0, 0) HB9.out.r2
            have c3_0 : w9.cell? ⟨gs, 0, none⟩ = some (.int .i64 f) := cell_of_row _ _ _ _ _ (0, 0) HB9.out.r3
            have c3_1 : w9.cell? ⟨gs, 1, none⟩ = some (.int .i64 (f + 1)) := cell_of_row _ _ _ _ _ (0, 0) HB9.out.r3
            have c3_2 : w9.cell? ⟨gs, 2, none⟩ = some (.int .i64 q) := cell_of_row _ _ _ _ _ (0, 0) HB9.out.r3
            have c3_3 : w9.cell? ⟨gs, 3, none⟩ = some (.int .i64 2) := cell_of_row _ _ _ _ _ (0, 0) HB9.out.r3
            have c3_4 : w9.cell? ⟨gs, 4, none⟩ = some (.int .i64 0) := cell_of_row _ _ _ _ _ (0, 0) HB9.out.r3
            have c3_5 : w9.cell? ⟨gs, 5, none⟩ = some (.int .i64 0) := cell_of_row _ _ _ _ _ (0, 0) HB9.out.r3
            have c4_0 : w9.cell? ⟨w.heap.size, 0, none⟩ = some (.int .u8 x) := cell_of_row _ _ _ _ _ (0, 0) HB9.out.r4
            have c4_1 : w9.cell? ⟨w.heap.size, 1, none⟩ = some (.int .u8 y) := cell_of_row _ _ _ _ _ (0, 0) HB9.out.r4
            go_wp2_with fail
            go_roundw
            case rel => exact ⟨j + 1, _, by go_num, by omega, HX.out.symm, (HB9.out.less (by simp only [List.mem_cons, List.not_mem_nil, or_false]; rintro p (rfl | rfl | rfl | rfl) <;> simp))⟩
            case measure => simp [intOf]; have := HK.out; omega
          · have hKj : K = j + 1 := by omega
            have hX : Rg.rideAt f (1) K ((j : Int) + 1) = ⟨f + 1, f + 1, 0, 2, 0, 0⟩ := by unfold Rg.rideAt; rw [if_neg (by omega), if_neg (by omega)] <;> rfl
            rw [hX] at FS
            have FR := Lib.hid (fun wx => rigReport_any ⟨f + 1, f + 1, 0, 2, 0, 0⟩ false wx)
            have hik : ((j : Int) + 1 == (K : Int)) = true := by simp only [beq_iff_eq]; omega
            rw [show (Rg.report ⟨f + 1, f + 1, 0, 2, 0, 0⟩ false).agg = .agg #[.int .i64 (f + 1), .bool true, .int .i64 2, .bool false] from rfl] at FR
            have qn := fun wx => neqRg ⟨f + 1, f + 1, 0, 2, 0, 0⟩ ⟨f, f, 0, 2, 0, 0⟩ wx
            rw [show Rg.eqB ⟨f + 1, f + 1, 0, 2, 0, 0⟩ ⟨f, f, 0, 2, 0, 0⟩ = false by cases hq : Rg.eqB ⟨f + 1, f + 1, 0, 2, 0, 0⟩ ⟨f, f, 0, 2, 0, 0⟩; rfl; have := (Rg.eqB_iff _ _).1 hq; simp at this <;> omega] at qn
            simp only [Rg.agg] at FS FR qn
            have HX := Lib.hid hX
            clear hX hend hKj
            have c0_0 : wr.cell? ⟨gw, 0, none⟩ = some (.int .i64 f) := cell_of_row _ _ _ _ _ (0, 0) HBR.out.r0
            have c0_1 : wr.cell? ⟨gw, 1, none⟩ = some (.int .i64 f) := cell_of_row _ _ _ _ _ (0, 0) HBR.out.r0
            have c0_2 : wr.cell? ⟨gw, 2, none⟩ = some (.int .i64 0) := cell_of_row _ _ _ _ _ (0, 0) HBR.out.r0
            have c0_3 : wr.cell? ⟨gw, 3, none⟩ = some (.int .i64 2) := cell_of_row _ _ _ _ _ (0, 0) HBR.out.r0
            have c0_4 : wr.cell? ⟨gw, 4, none⟩ = some (.int .i64 0) := cell_of_row _ _ _ _ _ (0, 0) HBR.out.r0
            have c0_5 : wr.cell? ⟨gw, 5, none⟩ = some (.int .i64 0) := cell_of_row _ _ _ _ _ (0, 0) HBR.out.r0
            have c1_0 : wr.cell? ⟨gl, 0, none⟩ = some (.int .i64 1) := cell_of_row _ _ _ _ _ (0, 0) HBR.out.r1
            have c1_1 : wr.cell? ⟨gl, 1, none⟩ = some (.int .i64 2) := cell_of_row _ _ _ _ _ (0, 0) HBR.out.r1
            have c1_2 : wr.cell? ⟨gl, 2, none⟩ = some (.int .i64 3) := cell_of_row _ _ _ _ _ (0, 0) HBR.out.r1
            have c2_0 : wr.cell? ⟨gs, 0, none⟩ = some (.int .i64 s1) := cell_of_row _ _ _ _ _ (0, 0) HBR.out.r2
            have c2_1 : wr.cell? ⟨gs, 1, none⟩ = some (.int .i64 s2) := cell_of_row _ _ _ _ _ (0, 0) HBR.out.r2
            have c2_2 : wr.cell? ⟨gs, 2, none⟩ = some (.int .i64 s3) := cell_of_row _ _ _ _ _ (0, 0) HBR.out.r2
            have c2_3 : wr.cell? ⟨gs, 3, none⟩ = some (.int .i64 s4) := cell_of_row _ _ _ _ _ (0, 0) HBR.out.r2
            have c2_4 : wr.cell? ⟨gs, 4, none⟩ = some (.int .i64 s5) := cell_of_row _ _ _ _ _ (0, 0) HBR.out.r2
            have c2_5 : wr.cell? ⟨gs, 5, none⟩ = some (.int .i64 s6) := cell_of_row _ _ _ _ _ (0, 0) HBR.out.r2
            have c3_0 : wr.cell? ⟨w.heap.size, 0, none⟩ = some (.int .u8 x) := cell_of_row _ _ _ _ _ (0, 0) HBR.out.r3
            have c3_1 : wr.cell? ⟨w.heap.size, 1, none⟩ = some (.int .u8 y) := cell_of_row _ _ _ _ _ (0, 0) HBR.out.r3
            go_wp2_with fail
            refine (FS.out _).mono ?_
            rintro e w6 ⟨rfl, hb6⟩
            have HB6 := Lib.hid (HBR.out.next hb6)
            clear c0_0 c0_1 c0_2 c0_3 c0_4 c0_5 c1_0 c1_1 c1_2 c2_0 c2_1 c2_2 c2_3 c2_4 c2_5 c3_0 c3_1 hb6 HBR
            have c0_0 : w6.cell? ⟨gw, 0, none⟩ = some (.int .i64 f) := cell_of_row _ _ _ _ _ (0, 0) HB6.out.r0
            have c0_1 : w6.cell? ⟨gw, 1, none⟩ = some (.int .i64 f) := cell_of_row _ _ _ _ _ (0, 0) HB6.out.r0
            have c0_2 : w6.cell? ⟨gw, 2, none⟩ = some (.int .i64 0) := cell_of_row _ _ _ _ _ (0, 0) HB6.out.r0
            have c0_3 : w6.cell? ⟨gw, 3, none⟩ = some (.int .i64 2) := cell_of_row _ _ _ _ _ (0, 0) HB6.out.r0
            have c0_4 : w6.cell? ⟨gw, 4, none⟩ = some (.int .i64 0) := cell_of_row _ _ _ _ _ (0, 0) HB6.out.r0
            have c0_5 : w6.cell? ⟨gw, 5, none⟩ = some (.int .i64 0) := cell_of_row _ _ _ _ _ (0, 0) HB6.out.r0
            have c1_0 : w6.cell? ⟨gl, 0, none⟩ = some (.int .i64 1) := cell_of_row _ _ _ _ _ (0, 0) HB6.out.r1
            have c1_1 : w6.cell? ⟨gl, 1, none⟩ = some (.int .i64 2) := cell_of_row _ _ _ _ _ (0, 0) HB6.out.r1
            have c1_2 : w6.cell? ⟨gl, 2, none⟩ = some (.int .i64 3) := cell_of_row _ _ _ _ _ (0, 0) HB6.out.r1
            have c2_0 : w6.cell? ⟨gs, 0, none⟩ = some (.int .i64 s1) := cell_of_row _ _ _ _ _ (0, 0) HB6.out.r2
            have c2_1 : w6.cell? ⟨gs, 1, none⟩ = some (.int .i64 s2) := cell_of_row _ _ _ _ _ (0, 0) HB6.out.r2
            have c2_2 : w6.cell? ⟨gs, 2, none⟩ = some (.int .i64 s3) := cell_of_row _ _ _ _ _ (0, 0) HB6.out.r2
            have c2_3 : w6.cell? ⟨gs, 3, none⟩ = some (.int .i64 s4) := cell_of_row _ _ _ _ _ (0, 0) HB6.out.r2
            have c2_4 : w6.cell? ⟨gs, 4, none⟩ = some (.int .i64 s5) := cell_of_row _ _ _ _ _ (0, 0) HB6.out.r2
            have c2_5 : w6.cell? ⟨gs, 5, none⟩ = some (.int .i64 s6) := cell_of_row _ _ _ _ _ (0, 0) HB6.out.r2
            have c3_0 : w6.cell? ⟨w.heap.size, 0, none⟩ = some (.int .u8 x) := cell_of_row _ _ _ _ _ (0, 0) HB6.out.r3
            have c3_1 : w6.cell? ⟨w.heap.size, 1, none⟩ = some (.int .u8 y) := cell_of_row _ _ _ _ _ (0, 0) HB6.out.r3
            go_wp2_with (with_reducible show wpList _ _ _ (Oper.mk _ (.store 23 _ _) _ _ _ _ :: _) _ _; refine Hid.out ?_)
            refine Lib.hid ?_
            refine wpList_put rfl 23 _ _ rfl (gs) #[.int .i64 (f + 1), .int .i64 (f + 1), .int .i64 0, .int .i64 2, .int .i64 0, .int .i64 0] _ 23 rfl rfl HB6.out.r2 (by kernel_rfl) rfl (by kernel_rfl) ?_
            intro w7 hr7 hg7
            have HB7 : Hid (Bx w [(gw, .cells #[.int .i64 f, .int .i64 f, .int .i64 0, .int .i64 2, .int .i64 0, .int .i64 0] 23 (0, 0)), (gl, .cells #[.int .i64 1, .int .i64 2, .int .i64 3] 3 (0, 0)), (gs, .cells #[.int .i64 (f + 1), .int .i64 (f + 1), .int .i64 0, .int .i64 2, .int .i64 0, .int .i64 0] 23 (0, 0)), (w.heap.size, .cells #[.int .u8 x, .int .u8 y] 36 (0, 0))] w7) := Lib.hid (HB6.out.put (by omega) hg7.out hr7.out (by simp only [List.mem_cons, List.not_mem_nil, or_false]; rintro p (rfl | rfl | rfl | rfl) <;> simp <;> omega))
            clear c0_0 c0_1 c0_2 c0_3 c0_4 c0_5 c1_0 c1_1 c1_2 c2_0 c2_1 c2_2 c2_3 c2_4 c2_5 c3_0 c3_1 hr7 hg7 HB6
            have c0_0 : w7.cell? ⟨gw, 0, none⟩ = some (.int .i64 f) := cell_of_row _ _ _ _ _ (0, 0) HB7.out.r0
            have c0_1 : w7.cell? ⟨gw, 1, none⟩ = some (.int .i64 f) := cell_of_row _ _ _ _ _ (0, 0) HB7.out.r0
            have c0_2 : w7.cell? ⟨gw, 2, none⟩ = some (.int .i64 0) := cell_of_row _ _ _ _ _ (0, 0) HB7.out.r0
            have c0_3 : w7.cell? ⟨gw, 3, none⟩ = some (.int .i64 2) := cell_of_row _ _ _ _ _ (0, 0) HB7.out.r0
            have c0_4 : w7.cell? ⟨gw, 4, none⟩ = some (.int .i64 0) := cell_of_row _ _ _ _ _ (0, 0) HB7.out.r0
            have c0_5 : w7.cell? ⟨gw, 5, none⟩ = some (.int .i64 0) := cell_of_row _ _ _ _ _ (0, 0) HB7.out.r0
            have c1_0 : w7.cell? ⟨gl, 0, none⟩ = some (.int .i64 1) := cell_of_row _ _ _ _ _ (0, 0) HB7.out.r1
            have c1_1 : w7.cell? ⟨gl, 1, none⟩ = some (.int .i64 2) := cell_of_row _ _ _ _ _ (0, 0) HB7.out.r1
            have c1_2 : w7.cell? ⟨gl, 2, none⟩ = some (.int .i64 3) := cell_of_row _ _ _ _ _ (0, 0) HB7.out.r1
            have c2_0 : w7.cell? ⟨gs, 0, none⟩ = some (.int .i64 (f + 1)) := cell_of_row _ _ _ _ _ (0, 0) HB7.out.r2
            have c2_1 : w7.cell? ⟨gs, 1, none⟩ = some (.int .i64 (f + 1)) := cell_of_row _ _ _ _ _ (0, 0) HB7.out.r2
            have c2_2 : w7.cell? ⟨gs, 2, none⟩ = some (.int .i64 0) := cell_of_row _ _ _ _ _ (0, 0) HB7.out.r2
            have c2_3 : w7.cell? ⟨gs, 3, none⟩ = some (.int .i64 2) := cell_of_row _ _ _ _ _ (0, 0) HB7.out.r2
            have c2_4 : w7.cell? ⟨gs, 4, none⟩ = some (.int .i64 0) := cell_of_row _ _ _ _ _ (0, 0) HB7.out.r2
            have c2_5 : w7.cell? ⟨gs, 5, none⟩ = some (.int .i64 0) := cell_of_row _ _ _ _ _ (0, 0) HB7.out.r2
            have c3_0 : w7.cell? ⟨w.heap.size, 0, none⟩ = some (.int .u8 x) := cell_of_row _ _ _ _ _ (0, 0) HB7.out.r3
            have c3_1 : w7.cell? ⟨w.heap.size, 1, none⟩ = some (.int .u8 y) := cell_of_row _ _ _ _ _ (0, 0) HB7.out.r3
            go_wp2_with fail
            refine (FR.out _).mono ?_
            rintro e w8 ⟨rfl, hb8⟩
            have HB8 := Lib.hid (HB7.out.next hb8)
            clear c0_0 c0_1 c0_2 c0_3 c0_4 c0_5 c1_0 c1_1 c1_2 c2_0 c2_1 c2_2 c2_3 c2_4 c2_5 c3_0 c3_1 hb8 HB7
            have c0_0 : w8.cell? ⟨gw, 0, none⟩ = some (.int .i64 f) := cell_of_row _ _ _ _ _ (0, 0) HB8.out.r0
            have c0_1 : w8.cell? ⟨gw, 1, none⟩ = some (.int .i64 f) := cell_of_row _ _ _ _ _ (0, 0) HB8.out.r0
            have c0_2 : w8.cell? ⟨gw, 2, none⟩ = some (.int .i64 0) := cell_of_row _ _ _ _ _ (0, 0) HB8.out.r0
            have c0_3 : w8.cell? ⟨gw, 3, none⟩ = some (.int .i64 2) := cell_of_row _ _ _ _ _ (0, 0) HB8.out.r0
            have c0_4 : w8.cell? ⟨gw, 4, none⟩ = some (.int .i64 0) := cell_of_row _ _ _ _ _ (0, 0) HB8.out.r0
            have c0_5 : w8.cell? ⟨gw, 5, none⟩ = some (.int .i64 0) := cell_of_row _ _ _ _ _ (0, 0) HB8.out.r0
            have c1_0 : w8.cell? ⟨gl, 0, none⟩ = some (.int .i64 1) := cell_of_row _ _ _ _ _ (0, 0) HB8.out.r1
            have c1_1 : w8.cell? ⟨gl, 1, none⟩ = some (.int .i64 2) := cell_of_row _ _ _ _ _ (0, 0) HB8.out.r1
            have c1_2 : w8.cell? ⟨gl, 2, none⟩ = some (.int .i64 3) := cell_of_row _ _ _ _ _ (0, 0) HB8.out.r1
            have c2_0 : w8.cell? ⟨gs, 0, none⟩ = some (.int .i64 (f + 1)) := cell_of_row _ _ _ _ _ (0, 0) HB8.out.r2
            have c2_1 : w8.cell? ⟨gs, 1, none⟩ = some (.int .i64 (f + 1)) := cell_of_row _ _ _ _ _ (0, 0) HB8.out.r2
            have c2_2 : w8.cell? ⟨gs, 2, none⟩ = some (.int .i64 0) := cell_of_row _ _ _ _ _ (0, 0) HB8.out.r2
            have c2_3 : w8.cell? ⟨gs, 3, none⟩ = some (.int .i64 2) := cell_of_row _ _ _ _ _ (0, 0) HB8.out.r2
            have c2_4 : w8.cell? ⟨gs, 4, none⟩ = some (.int .i64 0) := cell_of_row _ _ _ _ _ (0, 0) HB8.out.r2
            have c2_5 : w8.cell? ⟨gs, 5, none⟩ = some (.int .i64 0) := cell_of_row _ _ _ _ _ (0, 0) HB8.out.r2
            have c3_0 : w8.cell? ⟨w.heap.size, 0, none⟩ = some (.int .u8 x) := cell_of_row _ _ _ _ _ (0, 0) HB8.out.r3
            have c3_1 : w8.cell? ⟨w.heap.size, 1, none⟩ = some (.int .u8 y) := cell_of_row _ _ _ _ _ (0, 0) HB8.out.r3
            go_wp2_with (with_reducible show wpList _ _ _ (Oper.mk _ (.store 32 _ _) _ _ _ _ :: _) _ _; refine Hid.out ?_)
            refine Lib.hid ?_
            have l9_0 : gw < w8.heap.size := (Array.getElem?_eq_some_iff.1 HB8.out.r0).1
            have l9_1 : gl < w8.heap.size := (Array.getElem?_eq_some_iff.1 HB8.out.r1).1
            have l9_2 : gs < w8.heap.size := (Array.getElem?_eq_some_iff.1 HB8.out.r2).1
            have l9_3 : w.heap.size < w8.heap.size := (Array.getElem?_eq_some_iff.1 HB8.out.r3).1
            have lw9 : w.heap.size ≤ w8.heap.size := HB8.out.below.size
            refine wpList_put rfl 32 _ _ rfl w8.heap.size #[.int .i64 (f + 1), .bool true, .int .i64 2, .bool false] _ 32 rfl rfl (heap_alloc_new w8 _) (by kernel_rfl) rfl (by kernel_rfl) ?_
            intro w9 hr9 hg9
            have HB9 : Hid (Bx w [(w8.heap.size, .cells #[.int .i64 (f + 1), .bool true, .int .i64 2, .bool false] 32 (0, 0)), (gw, .cells #[.int .i64 f, .int .i64 f, .int .i64 0, .int .i64 2, .int .i64 0, .int .i64 0] 23 (0, 0)), (gl, .cells #[.int .i64 1, .int .i64 2, .int .i64 3] 3 (0, 0)), (gs, .cells #[.int .i64 (f + 1), .int .i64 (f + 1), .int .i64 0, .int .i64 2, .int .i64 0, .int .i64 0] 23 (0, 0)), (w.heap.size, .cells #[.int .u8 x, .int .u8 y] 36 (0, 0))] w9) := Lib.hid ((HB8.out.make (heap_alloc_new w8 (.cells #[.int .i64 0, .bool false, .int .i64 0, .bool false] 32)) ((Below.refl w8.heap.size w8).alloc (Nat.le_refl _) _)).put HB8.out.below.size hg9.out hr9.out (by simp only [List.mem_cons, List.not_mem_nil, or_false]; rintro p (rfl | rfl | rfl | rfl | rfl) <;> simp <;> omega))
            clear c0_0 c0_1 c0_2 c0_3 c0_4 c0_5 c1_0 c1_1 c1_2 c2_0 c2_1 c2_2 c2_3 c2_4 c2_5 c3_0 c3_1 hr9 hg9 HB8
            generalize w8.heap.size = gf at *
            have c0_0 : w9.cell? ⟨gf, 0, none⟩ = some (.int .i64 (f + 1)) := cell_of_row _ _ _ _ _ (0, 0) HB9.out.r0
            have c0_1 : w9.cell? ⟨gf, 1, none⟩ = some (.bool true) := cell_of_row _ _ _ _ _ (0, 0) HB9.out.r0
            have c0_2 : w9.cell? ⟨gf, 2, none⟩ = some (.int .i64 2) := cell_of_row _ _ _ _ _ (0, 0) HB9.out.r0
            have c0_3 : w9.cell? ⟨gf, 3, none⟩ = some (.bool false) := cell_of_row _ _ _ _ _ (0, 0) HB9.out.r0
            have c1_0 : w9.cell? ⟨gw, 0, none⟩ = some (.int .i64 f) := cell_of_row _ _ _ _ _ (0, 0) HB9.out.r1
            have c1_1 : w9.cell? ⟨gw, 1, none⟩ = some (.int .i64 f) := cell_of_row _ _ _ _ _ (0, 0) HB9.out.r1
            have c1_2 : w9.cell? ⟨gw, 2, none⟩ = some (.int .i64 0) := cell_of_row _ _ _ _ _ (0, 0) HB9.out.r1
            have c1_3 : w9.cell? ⟨gw, 3, none⟩ = some (.int .i64 2) := cell_of_row _ _ _ _ _ (0, 0) HB9.out.r1
            have c1_4 : w9.cell? ⟨gw, 4, none⟩ = some (.int .i64 0) := cell_of_row _ _ _ _ _ (0, 0) HB9.out.r1
            have c1_5 : w9.cell? ⟨gw, 5, none⟩ = some (.int .i64 0) := cell_of_row _ _ _ _ _ (0, 0) HB9.out.r1
            have c2_0 : w9.cell? ⟨gl, 0, none⟩ = some (.int .i64 1) := cell_of_row _ _ _ _ _ (0, 0) HB9.out.r2
            have c2_1 : w9.cell? ⟨gl, 1, none⟩ = some (.int .i64 2) := cell_of_row _ _ _ _ _ (0, 0) HB9.out.r2
            have c2_2 : w9.cell? ⟨gl, 2, none⟩ = some (.int .i64 3) := cell_of_row _ _ _ _ _ (0, 0) HB9.out.r2
            have c3_0 : w9.cell? ⟨gs, 0, none⟩ = some (.int .i64 (f + 1)) := cell_of_row _ _ _ _ _ (0, 0) HB9.out.r3
            have c3_1 : w9.cell? ⟨gs, 1, none⟩ = some (.int .i64 (f + 1)) := cell_of_row _ _ _ _ _ (0, 0) HB9.out.r3
            have c3_2 : w9.cell? ⟨gs, 2, none⟩ = some (.int .i64 0) := cell_of_row _ _ _ _ _ (0, 0) HB9.out.r3
            have c3_3 : w9.cell? ⟨gs, 3, none⟩ = some (.int .i64 2) := cell_of_row _ _ _ _ _ (0, 0) HB9.out.r3
            have c3_4 : w9.cell? ⟨gs, 4, none⟩ = some (.int .i64 0) := cell_of_row _ _ _ _ _ (0, 0) HB9.out.r3
            have c3_5 : w9.cell? ⟨gs, 5, none⟩ = some (.int .i64 0) := cell_of_row _ _ _ _ _ (0, 0) HB9.out.r3
            have c4_0 : w9.cell? ⟨w.heap.size, 0, none⟩ = some (.int .u8 x) := cell_of_row _ _ _ _ _ (0, 0) HB9.out.r4
            have c4_1 : w9.cell? ⟨w.heap.size, 1, none⟩ = some (.int .u8 y) := cell_of_row _ _ _ _ _ (0, 0) HB9.out.r4
            go_wp2_with fail
            go_roundw
            case rel => exact ⟨j + 1, _, by go_num, by omega, HX.out.symm, (HB9.out.less (by simp only [List.mem_cons, List.not_mem_nil, or_false]; rintro p (rfl | rfl | rfl | rfl) <;> simp))⟩
            case measure => simp [intOf]; have := HK.out; omega
        · obtain rfl : j = K := by omega
          have hX : s = ⟨f + 1, f + 1, 0, 2, 0, 0⟩ := by rw [hs]; unfold Rg.rideAt; have := HK.out; rw [if_neg (by omega), if_neg (by omega)] <;> rfl
          subst hX
          simp only at hbr
          have HBR := Lib.hid hbr
          clear hbr hs hlt
          have hlti : ¬ (j : Int) + 1 ≤ (j : Int) := by omega
          have hltB : decide ((j : Int) + 1 ≤ (j : Int)) = false := decide_eq_false hlti
          have hwf : IntKind.i64.wrap (f + 1) = f + 1 := by rw [IntKind.wrap_i64]; have := HF.out; have := Hf.out; omega
          have c0_0 : wr.cell? ⟨gw, 0, none⟩ = some (.int .i64 f) := cell_of_row _ _ _ _ _ (0, 0) HBR.out.r0
          have c0_1 : wr.cell? ⟨gw, 1, none⟩ = some (.int .i64 f) := cell_of_row _ _ _ _ _ (0, 0) HBR.out.r0
          have c0_2 : wr.cell? ⟨gw, 2, none⟩ = some (.int .i64 0) := cell_of_row _ _ _ _ _ (0, 0) HBR.out.r0
          have c0_3 : wr.cell? ⟨gw, 3, none⟩ = some (.int .i64 2) := cell_of_row _ _ _ _ _ (0, 0) HBR.out.r0
          have c0_4 : wr.cell? ⟨gw, 4, none⟩ = some (.int .i64 0) := cell_of_row _ _ _ _ _ (0, 0) HBR.out.r0
          have c0_5 : wr.cell? ⟨gw, 5, none⟩ = some (.int .i64 0) := cell_of_row _ _ _ _ _ (0, 0) HBR.out.r0
          have c1_0 : wr.cell? ⟨gl, 0, none⟩ = some (.int .i64 1) := cell_of_row _ _ _ _ _ (0, 0) HBR.out.r1
          have c1_1 : wr.cell? ⟨gl, 1, none⟩ = some (.int .i64 2) := cell_of_row _ _ _ _ _ (0, 0) HBR.out.r1
          have c1_2 : wr.cell? ⟨gl, 2, none⟩ = some (.int .i64 3) := cell_of_row _ _ _ _ _ (0, 0) HBR.out.r1
          have c2_0 : wr.cell? ⟨gs, 0, none⟩ = some (.int .i64 (f + 1)) := cell_of_row _ _ _ _ _ (0, 0) HBR.out.r2
          have c2_1 : wr.cell? ⟨gs, 1, none⟩ = some (.int .i64 (f + 1)) := cell_of_row _ _ _ _ _ (0, 0) HBR.out.r2
          have c2_2 : wr.cell? ⟨gs, 2, none⟩ = some (.int .i64 0) := cell_of_row _ _ _ _ _ (0, 0) HBR.out.r2
          have c2_3 : wr.cell? ⟨gs, 3, none⟩ = some (.int .i64 2) := cell_of_row _ _ _ _ _ (0, 0) HBR.out.r2
          have c2_4 : wr.cell? ⟨gs, 4, none⟩ = some (.int .i64 0) := cell_of_row _ _ _ _ _ (0, 0) HBR.out.r2
          have c2_5 : wr.cell? ⟨gs, 5, none⟩ = some (.int .i64 0) := cell_of_row _ _ _ _ _ (0, 0) HBR.out.r2
          have c3_0 : wr.cell? ⟨w.heap.size, 0, none⟩ = some (.int .u8 x) := cell_of_row _ _ _ _ _ (0, 0) HBR.out.r3
          have c3_1 : wr.cell? ⟨w.heap.size, 1, none⟩ = some (.int .u8 y) := cell_of_row _ _ _ _ _ (0, 0) HBR.out.r3
          go_wp2_with fail
          refine (FN.out _).mono ?_
          rintro e w81 ⟨rfl, hb81⟩
          have HB81 := Lib.hid (HBR.out.next hb81)
          clear c0_0 c0_1 c0_2 c0_3 c0_4 c0_5 c1_0 c1_1 c1_2 c2_0 c2_1 c2_2 c2_3 c2_4 c2_5 c3_0 c3_1 hb81 HBR
          have c0_0 : w81.cell? ⟨gw, 0, none⟩ = some (.int .i64 f) := cell_of_row _ _ _ _ _ (0, 0) HB81.out.r0
          have c0_1 : w81.cell? ⟨gw, 1, none⟩ = some (.int .i64 f) := cell_of_row _ _ _ _ _ (0, 0) HB81.out.r0
          have c0_2 : w81.cell? ⟨gw, 2, none⟩ = some (.int .i64 0) := cell_of_row _ _ _ _ _ (0, 0) HB81.out.r0
          have c0_3 : w81.cell? ⟨gw, 3, none⟩ = some (.int .i64 2) := cell_of_row _ _ _ _ _ (0, 0) HB81.out.r0
          have c0_4 : w81.cell? ⟨gw, 4, none⟩ = some (.int .i64 0) := cell_of_row _ _ _ _ _ (0, 0) HB81.out.r0
          have c0_5 : w81.cell? ⟨gw, 5, none⟩ = some (.int .i64 0) := cell_of_row _ _ _ _ _ (0, 0) HB81.out.r0
          have c1_0 : w81.cell? ⟨gl, 0, none⟩ = some (.int .i64 1) := cell_of_row _ _ _ _ _ (0, 0) HB81.out.r1
          have c1_1 : w81.cell? ⟨gl, 1, none⟩ = some (.int .i64 2) := cell_of_row _ _ _ _ _ (0, 0) HB81.out.r1
          have c1_2 : w81.cell? ⟨gl, 2, none⟩ = some (.int .i64 3) := cell_of_row _ _ _ _ _ (0, 0) HB81.out.r1
          have c2_0 : w81.cell? ⟨gs, 0, none⟩ = some (.int .i64 (f + 1)) := cell_of_row _ _ _ _ _ (0, 0) HB81.out.r2
          have c2_1 : w81.cell? ⟨gs, 1, none⟩ = some (.int .i64 (f + 1)) := cell_of_row _ _ _ _ _ (0, 0) HB81.out.r2
          have c2_2 : w81.cell? ⟨gs, 2, none⟩ = some (.int .i64 0) := cell_of_row _ _ _ _ _ (0, 0) HB81.out.r2
          have c2_3 : w81.cell? ⟨gs, 3, none⟩ = some (.int .i64 2) := cell_of_row _ _ _ _ _ (0, 0) HB81.out.r2
          have c2_4 : w81.cell? ⟨gs, 4, none⟩ = some (.int .i64 0) := cell_of_row _ _ _ _ _ (0, 0) HB81.out.r2
          have c2_5 : w81.cell? ⟨gs, 5, none⟩ = some (.int .i64 0) := cell_of_row _ _ _ _ _ (0, 0) HB81.out.r2
          have c3_0 : w81.cell? ⟨w.heap.size, 0, none⟩ = some (.int .u8 x) := cell_of_row _ _ _ _ _ (0, 0) HB81.out.r3
          have c3_1 : w81.cell? ⟨w.heap.size, 1, none⟩ = some (.int .u8 y) := cell_of_row _ _ _ _ _ (0, 0) HB81.out.r3
          go_wp2_with fail
          go_ret
          exact ⟨rfl, HB81.out.below⟩
  · have HB0 := Lib.hid (bxs1 w (.cells #[.int .u8 x, .int .u8 y] 36))
    go_enter Try.func4, Try.ntmps4
    go_wp2_with fail
    refine Bag.region (fun wx => Below (w.heap.size + 1) (w.alloc (.cells #[.int .u8 x, .int .u8 y] 36)) wx) (by kernel_rfl) (by kernel_rfl) (Below.refl _ _).drew ?_
    iterate 8 (first
        | (apply Bag.walk_yes (by rfl)
           (intro wx hx K hK
            have HXx := HB0.out.next (show Below _ _ wx from by simpa using hx)
            have z0_0 : wx.cell? ⟨w.heap.size, 0, none⟩ = some (.int .u8 x) := cell_of_row _ _ _ _ _ (0, 0) HXx.r0
            have z0_1 : wx.cell? ⟨w.heap.size, 1, none⟩ = some (.int .u8 y) := cell_of_row _ _ _ _ _ (0, 0) HXx.r0
            first
              | (go_simp
                 first
                  | (go_at_K; exact hK _ hx)))
           rfl)
        | (refine Bag.walk_no (by rfl) ?_; simp only [Act.put, List.setIfInBounds_toArray, List.set_cons_succ, List.set_cons_zero]))
    refine Bag.walk_nil (fun w1 hb1 => ?_)
    have HB1 := Lib.hid (HB0.out.next (show Below _ _ w1 from by simpa using hb1))
    clear hb1 HB0
    have c0_0 : w1.cell? ⟨w.heap.size, 0, none⟩ = some (.int .u8 x) := cell_of_row _ _ _ _ _ (0, 0) HB1.out.r0
    have c0_1 : w1.cell? ⟨w.heap.size, 1, none⟩ = some (.int .u8 y) := cell_of_row _ _ _ _ _ (0, 0) HB1.out.r0
    go_wp2_with fail
    simp only [hFe, hfm]
    clear hFe hfm hfe
    refine (FW.out _).mono ?_
    rintro e w2 ⟨rfl, hb2⟩
    have HB2 := Lib.hid (HB1.out.next hb2)
    clear c0_0 c0_1 hb2 HB1
    go_wp2_with (with_reducible show wpList _ _ _ (Oper.mk _ (.store 23 _ _) _ _ _ _ :: _) _ _; refine Hid.out ?_)
    refine Lib.hid ?_
    have l3_0 : w.heap.size < w2.heap.size := (Array.getElem?_eq_some_iff.1 HB2.out.r0).1
    have lw3 : w.heap.size ≤ w2.heap.size := HB2.out.below.size
    refine wpList_put rfl 23 _ _ rfl w2.heap.size #[.int .i64 f, .int .i64 f, .int .i64 0, .int .i64 2, .int .i64 0, .int .i64 0] _ 23 rfl rfl (heap_alloc_new w2 _) (by kernel_rfl) rfl (by kernel_rfl) ?_
    intro w3 hr3 hg3
    have HB3 : Hid (Bx w [(w2.heap.size, .cells #[.int .i64 f, .int .i64 f, .int .i64 0, .int .i64 2, .int .i64 0, .int .i64 0] 23 (0, 0)), (w.heap.size, .cells #[.int .u8 x, .int .u8 y] 36 (0, 0))] w3) := Lib.hid ((HB2.out.make (heap_alloc_new w2 (.cells #[.int .i64 0, .int .i64 0, .int .i64 0, .int .i64 0, .int .i64 0, .int .i64 0] 23)) ((Below.refl w2.heap.size w2).alloc (Nat.le_refl _) _)).put HB2.out.below.size hg3.out hr3.out (by simp only [List.mem_cons, List.not_mem_nil, or_false]; rintro p (rfl | rfl) <;> simp <;> omega))
    clear hr3 hg3 HB2
    generalize w2.heap.size = gs at *
    have c0_0 : w3.cell? ⟨gs, 0, none⟩ = some (.int .i64 f) := cell_of_row _ _ _ _ _ (0, 0) HB3.out.r0
    have c0_1 : w3.cell? ⟨gs, 1, none⟩ = some (.int .i64 f) := cell_of_row _ _ _ _ _ (0, 0) HB3.out.r0
    have c0_2 : w3.cell? ⟨gs, 2, none⟩ = some (.int .i64 0) := cell_of_row _ _ _ _ _ (0, 0) HB3.out.r0
    have c0_3 : w3.cell? ⟨gs, 3, none⟩ = some (.int .i64 2) := cell_of_row _ _ _ _ _ (0, 0) HB3.out.r0
    have c0_4 : w3.cell? ⟨gs, 4, none⟩ = some (.int .i64 0) := cell_of_row _ _ _ _ _ (0, 0) HB3.out.r0
    have c0_5 : w3.cell? ⟨gs, 5, none⟩ = some (.int .i64 0) := cell_of_row _ _ _ _ _ (0, 0) HB3.out.r0
    have c1_0 : w3.cell? ⟨w.heap.size, 0, none⟩ = some (.int .u8 x) := cell_of_row _ _ _ _ _ (0, 0) HB3.out.r1
    have c1_1 : w3.cell? ⟨w.heap.size, 1, none⟩ = some (.int .u8 y) := cell_of_row _ _ _ _ _ (0, 0) HB3.out.r1
    go_wp2_with (with_reducible show wpList _ _ _ (Oper.mk _ (.buildSlice _ _ _) _ _ _ _ :: _) _ _; refine wpList_ints3 rfl rfl ?_; refine Hid.out ?_)
    refine Lib.hid ?_
    have l4_0 : gs < w3.heap.size := (Array.getElem?_eq_some_iff.1 HB3.out.r0).1
    have l4_1 : w.heap.size < w3.heap.size := (Array.getElem?_eq_some_iff.1 HB3.out.r1).1
    have lw4 : w.heap.size ≤ w3.heap.size := HB3.out.below.size
    have HB4 := Lib.hid (HB3.out.make (heap_alloc_new w3 (.cells #[.int .i64 1, .int .i64 2, .int .i64 3] 3)) ((Below.refl w3.heap.size w3).alloc (Nat.le_refl _) _))
    generalize w3.alloc (.cells #[.int .i64 1, .int .i64 2, .int .i64 3] 3) = w4 at *
    clear c0_0 c0_1 c0_2 c0_3 c0_4 c0_5 c1_0 c1_1 HB3
    generalize w3.heap.size = gl at *
    have c0_0 : w4.cell? ⟨gl, 0, none⟩ = some (.int .i64 1) := cell_of_row _ _ _ _ _ (0, 0) HB4.out.r0
    have c0_1 : w4.cell? ⟨gl, 1, none⟩ = some (.int .i64 2) := cell_of_row _ _ _ _ _ (0, 0) HB4.out.r0
    have c0_2 : w4.cell? ⟨gl, 2, none⟩ = some (.int .i64 3) := cell_of_row _ _ _ _ _ (0, 0) HB4.out.r0
    have c1_0 : w4.cell? ⟨gs, 0, none⟩ = some (.int .i64 f) := cell_of_row _ _ _ _ _ (0, 0) HB4.out.r1
    have c1_1 : w4.cell? ⟨gs, 1, none⟩ = some (.int .i64 f) := cell_of_row _ _ _ _ _ (0, 0) HB4.out.r1
    have c1_2 : w4.cell? ⟨gs, 2, none⟩ = some (.int .i64 0) := cell_of_row _ _ _ _ _ (0, 0) HB4.out.r1
    have c1_3 : w4.cell? ⟨gs, 3, none⟩ = some (.int .i64 2) := cell_of_row _ _ _ _ _ (0, 0) HB4.out.r1
    have c1_4 : w4.cell? ⟨gs, 4, none⟩ = some (.int .i64 0) := cell_of_row _ _ _ _ _ (0, 0) HB4.out.r1
    have c1_5 : w4.cell? ⟨gs, 5, none⟩ = some (.int .i64 0) := cell_of_row _ _ _ _ _ (0, 0) HB4.out.r1
    have c2_0 : w4.cell? ⟨w.heap.size, 0, none⟩ = some (.int .u8 x) := cell_of_row _ _ _ _ _ (0, 0) HB4.out.r2
    have c2_1 : w4.cell? ⟨w.heap.size, 1, none⟩ = some (.int .u8 y) := cell_of_row _ _ _ _ _ (0, 0) HB4.out.r2
    by_cases hbd : f = 0
    · skip
      have FS := Lib.hid (fun wx => rigStep_any F ⟨f, f, 0, 2, 0, 0⟩ 2 K wx)
      rw [show Rg.anyF F ⟨f, f, 0, 2, 0, 0⟩ 2 K = ⟨f, f, 0, 2, 0, 0⟩ by rw [show (⟨f, f, 0, 2, 0, 0⟩ : Rg) = Rg.new f from rfl, Rg.anyF_ok (Rg.new_ok HF.out Hf.out)]; exact Rg.e2_out _ _ _ (by omega)] at FS
      simp only [Rg.agg] at FS
      have qe := fun wx => eqlRg ⟨f, f, 0, 2, 0, 0⟩ ⟨f, f, 0, 2, 0, 0⟩ wx
      rw [Rg.eqB_self] at qe
      simp only [Rg.agg] at qe
      have hB1 : (f == 0) = true := by simpa using hbd
      clear hbd
      go_wp2_with fail
      refine Bag.region (fun wx => Below w4.heap.size w4 wx) (by kernel_rfl) (by kernel_rfl) (Below.refl _ _).drew ?_
      iterate 11 (first
          | (apply Bag.walk_yes (by rfl)
             (intro wx hx K hK
              have HXx := HB4.out.next hx
              have z1_0 : wx.cell? ⟨gs, 0, none⟩ = some (.int .i64 f) := cell_of_row _ _ _ _ _ (0, 0) HXx.r1
              have z1_1 : wx.cell? ⟨gs, 1, none⟩ = some (.int .i64 f) := cell_of_row _ _ _ _ _ (0, 0) HXx.r1
              have z1_2 : wx.cell? ⟨gs, 2, none⟩ = some (.int .i64 0) := cell_of_row _ _ _ _ _ (0, 0) HXx.r1
              have z1_3 : wx.cell? ⟨gs, 3, none⟩ = some (.int .i64 2) := cell_of_row _ _ _ _ _ (0, 0) HXx.r1
              have z1_4 : wx.cell? ⟨gs, 4, none⟩ = some (.int .i64 0) := cell_of_row _ _ _ _ _ (0, 0) HXx.r1
              have z1_5 : wx.cell? ⟨gs, 5, none⟩ = some (.int .i64 0) := cell_of_row _ _ _ _ _ (0, 0) HXx.r1
              first
                | (go_simp
                   first
                    | (go_at_call 10; (with_reducible refine (FS.out _).mono ?_); rintro e x1 ⟨rfl, hb⟩; exact hK _ (hx.trans (hb.mono hx.size)))
                    | (go_at_call 7; (with_reducible refine (FN.out _).mono ?_); rintro e x1 ⟨rfl, hb⟩; exact hK _ (hx.trans (hb.mono hx.size)))
                    | (go_at_K; exact hK _ hx)))
             rfl)
          | (refine Bag.walk_no (by rfl) ?_; simp only [Act.put, List.setIfInBounds_toArray, List.set_cons_succ, List.set_cons_zero]))
      refine Bag.walk_nil (fun w5 hb5 => ?_)
      have HB5 := Lib.hid (HB4.out.next hb5)
      clear c0_0 c0_1 c0_2 c1_0 c1_1 c1_2 c1_3 c1_4 c1_5 c2_0 c2_1 hb5 HB4
      go_wp2_with fail
      go_ret
      exact ⟨rfl, HB5.out.below⟩
    · have hB1 : (f == 0) = false := by simpa using hbd
      have HG := Lib.hid (show 0 ≤ f + (-1) ∧ f + (-1) ≤ F - 1 by have := Hf.out; omega)
      clear hbd
      go_wp2_with (with_reducible show wpList _ _ _ (Oper.mk _ (.store 23 _ _) _ _ _ _ :: _) _ _; refine Hid.out ?_)
      refine Lib.hid ?_
      have l5_0 : gl < w4.heap.size := (Array.getElem?_eq_some_iff.1 HB4.out.r0).1
      have l5_1 : gs < w4.heap.size := (Array.getElem?_eq_some_iff.1 HB4.out.r1).1
      have l5_2 : w.heap.size < w4.heap.size := (Array.getElem?_eq_some_iff.1 HB4.out.r2).1
      have lw5 : w.heap.size ≤ w4.heap.size := HB4.out.below.size
      refine wpList_put rfl 23 _ _ rfl w4.heap.size #[.int .i64 f, .int .i64 f, .int .i64 0, .int .i64 2, .int .i64 0, .int .i64 0] _ 23 rfl rfl (heap_alloc_new w4 _) (by kernel_rfl) rfl (by kernel_rfl) ?_
      intro w5 hr5 hg5
      have HB5 : Hid (Bx w [(w4.heap.size, .cells #[.int .i64 f, .int .i64 f, .int .i64 0, .int .i64 2, .int .i64 0, .int .i64 0] 23 (0, 0)), (gl, .cells #[.int .i64 1, .int .i64 2, .int .i64 3] 3 (0, 0)), (gs, .cells #[.int .i64 f, .int .i64 f, .int .i64 0, .int .i64 2, .int .i64 0, .int .i64 0] 23 (0, 0)), (w.heap.size, .cells #[.int .u8 x, .int .u8 y] 36 (0, 0))] w5) := Lib.hid ((HB4.out.make (heap_alloc_new w4 (.cells #[.int .i64 0, .int .i64 0, .int .i64 0, .int .i64 0, .int .i64 0, .int .i64 0] 23)) ((Below.refl w4.heap.size w4).alloc (Nat.le_refl _) _)).put HB4.out.below.size hg5.out hr5.out (by simp only [List.mem_cons, List.not_mem_nil, or_false]; rintro p (rfl | rfl | rfl | rfl) <;> simp <;> omega))
      clear c0_0 c0_1 c0_2 c1_0 c1_1 c1_2 c1_3 c1_4 c1_5 c2_0 c2_1 hr5 hg5 HB4
      generalize w4.heap.size = gw at *
      go_wp2_with fail
      clear hKe hz
      go_loopw [13] (fun vi wr => ∃ (j : Nat) (s : Rg), vi = .int .i64 ((j : Int) + 1) ∧ j ≤ K ∧ s = Rg.rideAt f (-1) K j ∧ Bx w [(gw, .cells #[.int .i64 f, .int .i64 f, .int .i64 0, .int .i64 2, .int .i64 0, .int .i64 0] 23 (0, 0)), (gl, .cells #[.int .i64 1, .int .i64 2, .int .i64 3] 3 (0, 0)), (gs, .cells #[.int .i64 s.fl, .int .i64 s.tg, .int .i64 s.lf, .int .i64 s.dd, .int .i64 s.am, .int .i64 s.tk] 23 (0, 0)), (w.heap.size, .cells #[.int .u8 x, .int .u8 y] 36 (0, 0))] wr) (fun vi _ => 300 - (intOf vi).toNat)
      case atStart => exact ⟨0, Rg.new f, rfl, Nat.zero_le _, rfl, HB5.out⟩
      case round =>
        obtain ⟨j, s, rfl, hj, hs, hbr⟩ := hrel
        clear HB5
        by_cases hlt : j < K
        · have hst : Rg.anyF F s 2 K = Rg.rideAt f (-1) K ((j : Int) + 1) := by
            have hk := HK.out
            rw [hs, Rg.anyF_ok (Rg.rideAt_ok HF.out (.inr rfl) Hf.out (by have := HG.out; omega) (by omega) (by omega)), Rg.lim_id (by omega)]
            exact Rg.rideAt_step (.inr ⟨rfl, rfl⟩) (by have := HG.out; omega) (by omega)
          obtain ⟨s1, s2, s3, s4, s5, s6⟩ := s
          simp only at hbr
          have HBR := Lib.hid hbr
          clear hbr hs
          have FS := Lib.hid (fun wx => rigStep_any F ⟨s1, s2, s3, s4, s5, s6⟩ 2 K wx)
          rw [hst] at FS
          clear hst
          have hlti : (j : Int) + 1 ≤ (K : Int) := by omega
          have hltB : decide ((j : Int) + 1 ≤ (K : Int)) = true := decide_eq_true hlti
          have hwj : IntKind.i64.wrap ((j : Int) + 1 + 1) = ((j + 1 : Nat) : Int) + 1 := by rw [IntKind.wrap_i64]; have := HK.out; omega
          by_cases hend : j + 1 < K
          · obtain ⟨q, hq, hq1⟩ : ∃ q : Int, (K : Int) - ((j : Int) + 1) = q ∧ 1 ≤ q := ⟨_, rfl, by omega⟩
            have hX : Rg.rideAt f (-1) K ((j : Int) + 1) = ⟨f, f - 1, q, 2, 0, 0⟩ := by unfold Rg.rideAt; rw [if_neg (by omega), if_pos (by omega), hq] <;> rfl
            rw [hX] at FS
            have FR := Lib.hid (fun wx => rigReport_any ⟨f, f - 1, q, 2, 0, 0⟩ false wx)
            have hq0 : (q == 0) = false := by simp only [beq_eq_false_iff_ne, ne_eq]; omega
            have hik : ((j : Int) + 1 == (K : Int)) = false := by simp only [beq_eq_false_iff_ne, ne_eq]; omega
            rw [show (Rg.report ⟨f, f - 1, q, 2, 0, 0⟩ false).agg = .agg #[.int .i64 f, .bool false, .int .i64 2, .bool false] by unfold Rg.report; simp only [hq0]; rfl] at FR
            simp only [Rg.agg] at FS FR
            have HX := Lib.hid hX
            clear hX hq hq1 hend
            have c0_0 : wr.cell? ⟨gw, 0, none⟩ = some (.int .i64 f) := cell_of_row _ _ _ _ _ (0, 0) HBR.out.r0
            have c0_1 : wr.cell? ⟨gw, 1, none⟩ = some (.int .i64 f) := cell_of_row _ _ _ _ _ (0, 0) HBR.out.r0
            have c0_2 : wr.cell? ⟨gw, 2, none⟩ = some (.int .i64 0) := cell_of_row _ _ _ _ _ (0, 0) HBR.out.r0
            have c0_3 : wr.cell? ⟨gw, 3, none⟩ = some (.int .i64 2) := cell_of_row _ _ _ _ _ (0, 0) HBR.out.r0
            have c0_4 : wr.cell? ⟨gw, 4, none⟩ = some (.int .i64 0) := cell_of_row _ _ _ _ _ (0, 0) HBR.out.r0
            have c0_5 : wr.cell? ⟨gw, 5, none⟩ = some (.int .i64 0) := cell_of_row _ _ _ _ _ (0, 0) HBR.out.r0
            have c1_0 : wr.cell? ⟨gl, 0, none⟩ = some (.int .i64 1) := cell_of_row _ _ _ _ _ (0, 0) HBR.out.r1
            have c1_1 : wr.cell? ⟨gl, 1, none⟩ = some (.int .i64 2) := cell_of_row _ _ _ _ _ (0, 0) HBR.out.r1
            have c1_2 : wr.cell? ⟨gl, 2, none⟩ = some (.int .i64 3) := cell_of_row _ _ _ _ _ (0, 0) HBR.out.r1
            have c2_0 : wr.cell? ⟨gs, 0, none⟩ = some (.int .i64 s1) := cell_of_row _ _ _ _ _ (0, 0) HBR.out.r2
            have c2_1 : wr.cell? ⟨gs, 1, none⟩ = some (.int .i64 s2) := cell_of_row _ _ _ _ _ (0, 0) HBR.out.r2
            have c2_2 : wr.cell? ⟨gs, 2, none⟩ = some (.int .i64 s3) := cell_of_row _ _ _ _ _ (0, 0) HBR.out.r2
            have c2_3 : wr.cell? ⟨gs, 3, none⟩ = some (.int .i64 s4) := cell_of_row _ _ _ _ _ (0, 0) HBR.out.r2
            have c2_4 : wr.cell? ⟨gs, 4, none⟩ = some (.int .i64 s5) := cell_of_row _ _ _ _ _ (0, 0) HBR.out.r2
            have c2_5 : wr.cell? ⟨gs, 5, none⟩ = some (.int .i64 s6) := cell_of_row _ _ _ _ _ (0, 0) HBR.out.r2
            have c3_0 : wr.cell? ⟨w.heap.size, 0, none⟩ = some (.int .u8 x) := cell_of_row _ _ _ _ _ (0, 0) HBR.out.r3
            have c3_1 : wr.cell? ⟨w.heap.size, 1, none⟩ = some (.int .u8 y) := cell_of_row _ _ _ _ _ (0, 0) HBR.out.r3
            go_wp2_with fail
            refine (FS.out _).mono ?_
            rintro e w6 ⟨rfl, hb6⟩
            have HB6 := Lib.hid (HBR.out.next hb6)
            clear c0_0 c0_1 c0_2 c0_3 c0_4 c0_5 c1_0 c1_1 c1_2 c2_0 c2_1 c2_2 c2_3 c2_4 c2_5 c3_0 c3_1 hb6 HBR
            have c0_0 : w6.cell? ⟨gw, 0, none⟩ = some (.int .i64 f) := cell_of_row _ _ _ _ _ (0, 0) HB6.out.r0
            have c0_1 : w6.cell? ⟨gw, 1, none⟩ = some (.int .i64 f) := cell_of_row _ _ _ _ _ (0, 0) HB6.out.r0
            have c0_2 : w6.cell? ⟨gw, 2, none⟩ = some (.int .i64 0) := cell_of_row _ _ _ _ _ (0, 0) HB6.out.r0
            have c0_3 : w6.cell? ⟨gw, 3, none⟩ = some (.int .i64 2) := cell_of_row _ _ _ _ _ (0, 0) HB6.out.r0
            have c0_4 : w6.cell? ⟨gw, 4, none⟩ = some (.int .i64 0) := cell_of_row _ _ _ _ _ (0, 0) HB6.out.r0
            have c0_5 : w6.cell? ⟨gw, 5, none⟩ = some (.int .i64 0) := cell_of_row _ _ _ _ _ (0, 0) HB6.out.r0
            have c1_0 : w6.cell? ⟨gl, 0, none⟩ = some (.int .i64 1) := cell_of_row _ _ _ _ _ (0, 0) HB6.out.r1
            have c1_1 : w6.cell? ⟨gl, 1, none⟩ = some (.int .i64 2) := cell_of_row _ _ _ _ _ (0, 0) HB6.out.r1
            have c1_2 : w6.cell? ⟨gl, 2, none⟩ = some (.int .i64 3) := cell_of_row _ _ _ _ _ (0, 0) HB6.out.r1
            have c2_0 : w6.cell? ⟨gs, 0, none⟩ = some (.int .i64 s1) := cell_of_row _ _ _ _ _ (0, 0) HB6.out.r2
            have c2_1 : w6.cell? ⟨gs, 1, none⟩ = some (.int .i64 s2) := cell_of_row _ _ _ _ _ (0, 0) HB6.out.r2
            have c2_2 : w6.cell? ⟨gs, 2, none⟩ = some (.int .i64 s3) := cell_of_row _ _ _ _ _ (0, 0) HB6.out.r2
            have c2_3 : w6.cell? ⟨gs, 3, none⟩ = some (.int .i64 s4) := cell_of_row _ _ _ _ _ (0, 0) HB6.out.r2
            have c2_4 : w6.cell? ⟨gs, 4, none⟩ = some (.int .i64 s5) := cell_of_row _ _ _ _ _ (0, 0) HB6.out.r2
            have c2_5 : w6.cell? ⟨gs, 5, none⟩ = some (.int .i64 s6) := cell_of_row _ _ _ _ _ (0, 0) HB6.out.r2
            have c3_0 : w6.cell? ⟨w.heap.size, 0, none⟩ = some (.int .u8 x) := cell_of_row _ _ _ _ _ (0, 0) HB6.out.r3
            have c3_1 : w6.cell? ⟨w.heap.size, 1, none⟩ = some (.int .u8 y) := cell_of_row _ _ _ _ _ (0, 0) HB6.out.r3
            go_wp2_with (with_reducible show wpList _ _ _ (Oper.mk _ (.store 23 _ _) _ _ _ _ :: _) _ _; refine Hid.out ?_)
            refine Lib.hid ?_
            refine wpList_put rfl 23 _ _ rfl (gs) #[.int .i64 f, .int .i64 (f - 1), .int .i64 q, .int .i64 2, .int .i64 0, .int .i64 0] _ 23 rfl rfl HB6.out.r2 (by kernel_rfl) rfl (by kernel_rfl) ?_
            intro w7 hr7 hg7
            have HB7 : Hid (Bx w [(gw, .cells #[.int .i64 f, .int .i64 f, .int .i64 0, .int .i64 2, .int .i64 0, .int .i64 0] 23 (0, 0)), (gl, .cells #[.int .i64 1, .int .i64 2, .int .i64 3] 3 (0, 0)), (gs, .cells #[.int .i64 f, .int .i64 (f - 1), .int .i64 q, .int .i64 2, .int .i64 0, .int .i64 0] 23 (0, 0)), (w.heap.size, .cells #[.int .u8 x, .int .u8 y] 36 (0, 0))] w7) := Lib.hid (HB6.out.put (by omega) hg7.out hr7.out (by simp only [List.mem_cons, List.not_mem_nil, or_false]; rintro p (rfl | rfl | rfl | rfl) <;> simp <;> omega))
            clear c0_0 c0_1 c0_2 c0_3 c0_4 c0_5 c1_0 c1_1 c1_2 c2_0 c2_1 c2_2 c2_3 c2_4 c2_5 c3_0 c3_1 hr7 hg7 HB6
            have c0_0 : w7.cell? ⟨gw, 0, none⟩ = some (.int .i64 f) := cell_of_row _ _ _ _ _ (0, 0) HB7.out.r0
            have c0_1 : w7.cell? ⟨gw, 1, none⟩ = some (.int .i64 f) := cell_of_row _ _ _ _ _ (0, 0) HB7.out.r0
            have c0_2 : w7.cell? ⟨gw, 2, none⟩ = some (.int .i64 0) := cell_of_row _ _ _ _ _ (0, 0) HB7.out.r0
            have c0_3 : w7.cell? ⟨gw, 3, none⟩ = some (.int .i64 2) := cell_of_row _ _ _ _ _ (0, 0) HB7.out.r0
            have c0_4 : w7.cell? ⟨gw, 4, none⟩ = some (.int .i64 0) := cell_of_row _ _ _ _ _ (0, 0) HB7.out.r0
            have c0_5 : w7.cell? ⟨gw, 5, none⟩ = some (.int .i64 0) := cell_of_row _ _ _ _ _ (0, 0) HB7.out.r0
            have c1_0 : w7.cell? ⟨gl, 0, none⟩ = some (.int .i64 1) := cell_of_row _ _ _ _ _ (0, 0) HB7.out.r1
            have c1_1 : w7.cell? ⟨gl, 1, none⟩ = some (.int .i64 2) := cell_of_row _ _ _ _ _ (0, 0) HB7.out.r1
            have c1_2 : w7.cell? ⟨gl, 2, none⟩ = some (.int .i64 3) := cell_of_row _ _ _ _ _ (0, 0) HB7.out.r1
            have c2_0 : w7.cell? ⟨gs, 0, none⟩ = some (.int .i64 f) := cell_of_row _ _ _ _ _ (0, 0) HB7.out.r2
            have c2_1 : w7.cell? ⟨gs, 1, none⟩ = some (.int .i64 (f - 1)) := cell_of_row _ _ _ _ _ (0, 0) HB7.out.r2
            have c2_2 : w7.cell? ⟨gs, 2, none⟩ = some (.int .i64 q) := cell_of_row _ _ _ _ _ (0, 0) HB7.out.r2
            have c2_3 : w7.cell? ⟨gs, 3, none⟩ = some (.int .i64 2) := cell_of_row _ _ _ _ _ (0, 0) HB7.out.r2
            have c2_4 : w7.cell? ⟨gs, 4, none⟩ = some (.int .i64 0) := cell_of_row _ _ _ _ _ (0, 0) HB7.out.r2
            have c2_5 : w7.cell? ⟨gs, 5, none⟩ = some (.int .i64 0) := cell_of_row _ _ _ _ _ (0, 0) HB7.out.r2
            have c3_0 : w7.cell? ⟨w.heap.size, 0, none⟩ = some (.int .u8 x) := cell_of_row _ _ _ _ _ (0, 0) HB7.out.r3
            have c3_1 : w7.cell? ⟨w.heap.size, 1, none⟩ = some (.int .u8 y) := cell_of_row _ _ _ _ _ (0, 0) HB7.out.r3
            go_wp2_with fail
            refine (FR.out _).mono ?_
            rintro e w8 ⟨rfl, hb8⟩
            have HB8 := Lib.hid (HB7.out.next hb8)
            clear c0_0 c0_1 c0_2 c0_3 c0_4 c0_5 c1_0 c1_1 c1_2 c2_0 c2_1 c2_2 c2_3 c2_4 c2_5 c3_0 c3_1 hb8 HB7
            have c0_0 : w8.cell? ⟨gw, 0, none⟩ = some (.int .i64 f) := cell_of_row _ _ _ _ _ (0, 0) HB8.out.r0
            have c0_1 : w8.cell? ⟨gw, 1, none⟩ = some (.int .i64 f) := cell_of_row _ _ _ _ _ (0, 0) HB8.out.r0
            have c0_2 : w8.cell? ⟨gw, 2, none⟩ = some (.int .i64 0) := cell_of_row _ _ _ _ _ (0, 0) HB8.out.r0
            have c0_3 : w8.cell? ⟨gw, 3, none⟩ = some (.int .i64 2) := cell_of_row _ _ _ _ _ (0, 0) HB8.out.r0
            have c0_4 : w8.cell? ⟨gw, 4, none⟩ = some (.int .i64 0) := cell_of_row _ _ _ _ _ (0, 0) HB8.out.r0
            have c0_5 : w8.cell? ⟨gw, 5, none⟩ = some (.int .i64 0) := cell_of_row _ _ _ _ _ (0, 0) HB8.out.r0
            have c1_0 : w8.cell? ⟨gl, 0, none⟩ = some (.int .i64 1) := cell_of_row _ _ _ _ _ (0, 0) HB8.out.r1
            have c1_1 : w8.cell? ⟨gl, 1, none⟩ = some (.int .i64 2) := cell_of_row _ _ _ _ _ (0, 0) HB8.out.r1
            have c1_2 : w8.cell? ⟨gl, 2, none⟩ = some (.int .i64 3) := cell_of_row _ _ _ _ _ (0, 0) HB8.out.r1
            have c2_0 : w8.cell? ⟨gs, 0, none⟩ = some (.int .i64 f) := cell_of_row _ _ _ _ _ (0, 0) HB8.out.r2
            have c2_1 : w8.cell? ⟨gs, 1, none⟩ = some (.int .i64 (f - 1)) := cell_of_row _ _ _ _ _ (0, 0) HB8.out.r2
            have c2_2 : w8.cell? ⟨gs, 2, none⟩ = some (.int .i64 q) := cell_of_row _ _ _ _ _ (0, 0) HB8.out.r2
            have c2_3 : w8.cell? ⟨gs, 3, none⟩ = some (.int .i64 2) := cell_of_row _ _ _ _ _ (0, 0) HB8.out.r2
            have c2_4 : w8.cell? ⟨gs, 4, none⟩ = some (.int .i64 0) := cell_of_row _ _ _ _ _ (0, 0) HB8.out.r2
            have c2_5 : w8.cell? ⟨gs, 5, none⟩ = some (.int .i64 0) := cell_of_row _ _ _ _ _ (0, 0) HB8.out.r2
            have c3_0 : w8.cell? ⟨w.heap.size, 0, none⟩ = some (.int .u8 x) := cell_of_row _ _ _ _ _ (0, 0) HB8.out.r3
            have c3_1 : w8.cell? ⟨w.heap.size, 1, none⟩ = some (.int .u8 y) := cell_of_row _ _ _ _ _ (0, 0) HB8.out.r3
            go_wp2_with (with_reducible show wpList _ _ _ (Oper.mk _ (.store 32 _ _) _ _ _ _ :: _) _ _; refine Hid.out ?_)
            refine Lib.hid ?_
            have l9_0 : gw < w8.heap.size := (Array.getElem?_eq_some_iff.1 HB8.out.r0).1
            have l9_1 : gl < w8.heap.size := (Array.getElem?_eq_some_iff.1 HB8.out.r1).1
            have l9_2 : gs < w8.heap.size := (Array.getElem?_eq_some_iff.1 HB8.out.r2).1
            have l9_3 : w.heap.size < w8.heap.size := (Array.getElem?_eq_some_iff.1 HB8.out.r3).1
            have lw9 : w.heap.size ≤ w8.heap.size := HB8.out.below.size
            refine wpList_put rfl 32 _ _ rfl w8.heap.size #[.int .i64 f, .bool false, .int .i64 2, .bool false] _ 32 rfl rfl (heap_alloc_new w8 _) (by kernel_rfl) rfl (by kernel_rfl) ?_
            intro w9 hr9 hg9
            have HB9 : Hid (Bx w [(w8.heap.size, .cells #[.int .i64 f, .bool false, .int .i64 2, .bool false] 32 (0, 0)), (gw, .cells #[.int .i64 f, .int .i64 f, .int .i64 0, .int .i64 2, .int .i64 0, .int .i64 0] 23 (0, 0)), (gl, .cells #[.int .i64 1, .int .i64 2, .int .i64 3] 3 (0, 0)), (gs, .cells #[.int .i64 f, .int .i64 (f - 1), .int .i64 q, .int .i64 2, .int .i64 0, .int .i64 0] 23 (0, 0)), (w.heap.size, .cells #[.int .u8 x, .int .u8 y] 36 (0, 0))] w9) := Lib.hid ((HB8.out.make (heap_alloc_new w8 (.cells #[.int .i64 0, .bool false, .int .i64 0, .bool false] 32)) ((Below.refl w8.heap.size w8).alloc (Nat.le_refl _) _)).put HB8.out.below.size hg9.out hr9.out (by simp only [List.mem_cons, List.not_mem_nil, or_false]; rintro p (rfl | rfl | rfl | rfl | rfl) <;> simp <;> omega))
            clear c0_0 c0_1 c0_2 c0_3 c0_4 c0_5 c1_0 c1_1 c1_2 c2_0 c2_1 c2_2 c2_3 c2_4 c2_5 c3_0 c3_1 hr9 hg9 HB8
            generalize w8.heap.size = gf at *
            have c0_0 : w9.cell? ⟨gf, 0, none⟩ = some (.int .i64 f) := cell_of_row _ _ _ _ _ (0, 0) HB9.out.r0
            have c0_1 : w9.cell? ⟨gf, 1, none⟩ = some (.bool false) := cell_of_row _ _ _ _ _ (0, 0) HB9.out.r0
            have c0_2 : w9.cell? ⟨gf, 2, none⟩ = some (.int .i64 2) := cell_of_row _ _ _ _ _ (0, 0) HB9.out.r0
            have c0_3 : w9.cell? ⟨gf, 3, none⟩ = some (.bool false) := cell_of_row _ _ _ _ _ (0, 0) HB9.out.r0
            have c1_0 : w9.cell? ⟨gw, 0, none⟩ = some (.int .i64 f) := cell_of_row _ _ _ _ _ (0, 0) HB9.out.r1
            have c1_1 : w9.cell? ⟨gw, 1, none⟩ = some (.int .i64 f) := cell_of_row _ _ _ _ _ (0, 0) HB9.out.r1
            have c1_2 : w9.cell? ⟨gw, 2, none⟩ = some (.int .i64 0) := cell_of_row _ _ _ _ _ (0, 0) HB9.out.r1
            have c1_3 : w9.cell? ⟨gw, 3, none⟩ = some (.int .i64 2) := cell_of_row _ _ _ _ _ (0, 0) HB9.out.r1
            have c1_4 : w9.cell? ⟨gw, 4, none⟩ = some (.int .i64 0) := cell_of_row _ _ _ _ _ (0, 0) HB9.out.r1
            have c1_5 : w9.cell? ⟨gw, 5, none⟩ = some (.int .i64 0) := cell_of_row _ _ _ _ _ (0, 0) HB9.out.r1
            have c2_0 : w9.cell? ⟨gl, 0, none⟩ = some (.int .i64 1) := cell_of_row _ _ _ _ _ (0, 0) HB9.out.r2
            have c2_1 : w9.cell? ⟨gl, 1, none⟩ = some (.int .i64 2) := cell_of_row _ _ _ _ _ (0, 0) HB9.out.r2
            have c2_2 : w9.cell? ⟨gl, 2, none⟩ = some (.int .i64 3) := cell_of_row _ _ _ _ _ (0, 0) HB9.out.r2
            have c3_0 : w9.cell? ⟨gs, 0, none⟩ = some (.int .i64 f) := cell_of_row _ _ _ _ _ (0, 0) HB9.out.r3
            have c3_1 : w9.cell? ⟨gs, 1, none⟩ = some (.int .i64 (f - 1)) := cell_of_row _ _ _ _ _ (0, 0) HB9.out.r3
            have c3_2 : w9.cell? ⟨gs, 2, none⟩ = some (.int .i64 q) := cell_of_row _ _ _ _ _ (0, 0) HB9.out.r3
            have c3_3 : w9.cell? ⟨gs, 3, none⟩ = some (.int .i64 2) := cell_of_row _ _ _ _ _ (0, 0) HB9.out.r3
            have c3_4 : w9.cell? ⟨gs, 4, none⟩ = some (.int .i64 0) := cell_of_row _ _ _ _ _ (0, 0) HB9.out.r3
            have c3_5 : w9.cell? ⟨gs, 5, none⟩ = some (.int .i64 0) := cell_of_row _ _ _ _ _ (0, 0) HB9.out.r3
            have c4_0 : w9.cell? ⟨w.heap.size, 0, none⟩ = some (.int .u8 x) := cell_of_row _ _ _ _ _ (0, 0) HB9.out.r4
            have c4_1 : w9.cell? ⟨w.heap.size, 1, none⟩ = some (.int .u8 y) := cell_of_row _ _ _ _ _ (0, 0) HB9.out.r4
            go_wp2_with fail
            go_roundw
            case rel => exact ⟨j + 1, _, by go_num, by omega, HX.out.symm, (HB9.out.less (by simp only [List.mem_cons, List.not_mem_nil, or_false]; rintro p (rfl | rfl | rfl | rfl) <;> simp))⟩
            case measure => simp [intOf]; have := HK.out; omega
          · have hKj : K = j + 1 := by omega
            have hX : Rg.rideAt f (-1) K ((j : Int) + 1) = ⟨f - 1, f - 1, 0, 2, 0, 0⟩ := by unfold Rg.rideAt; rw [if_neg (by omega), if_neg (by omega)] <;> rfl
            rw [hX] at FS
            have FR := Lib.hid (fun wx => rigReport_any ⟨f - 1, f - 1, 0, 2, 0, 0⟩ false wx)
            have hik : ((j : Int) + 1 == (K : Int)) = true := by simp only [beq_iff_eq]; omega
            rw [show (Rg.report ⟨f - 1, f - 1, 0, 2, 0, 0⟩ false).agg = .agg #[.int .i64 (f - 1), .bool true, .int .i64 2, .bool false] from rfl] at FR
            have qn := fun wx => neqRg ⟨f - 1, f - 1, 0, 2, 0, 0⟩ ⟨f, f, 0, 2, 0, 0⟩ wx
            rw [show Rg.eqB ⟨f - 1, f - 1, 0, 2, 0, 0⟩ ⟨f, f, 0, 2, 0, 0⟩ = false by cases hq : Rg.eqB ⟨f - 1, f - 1, 0, 2, 0, 0⟩ ⟨f, f, 0, 2, 0, 0⟩; rfl; have := (Rg.eqB_iff _ _).1 hq; simp at this <;> omega] at qn
            simp only [Rg.agg] at FS FR qn
            have HX := Lib.hid hX
            clear hX hend hKj
            have c0_0 : wr.cell? ⟨gw, 0, none⟩ = some (.int .i64 f) := cell_of_row _ _ _ _ _ (0, 0) HBR.out.r0
            have c0_1 : wr.cell? ⟨gw, 1, none⟩ = some (.int .i64 f) := cell_of_row _ _ _ _ _ (0, 0) HBR.out.r0
            have c0_2 : wr.cell? ⟨gw, 2, none⟩ = some (.int .i64 0) := cell_of_row _ _ _ _ _ (0, 0) HBR.out.r0
            have c0_3 : wr.cell? ⟨gw, 3, none⟩ = some (.int .i64 2) := cell_of_row _ _ _ _ _ (0, 0) HBR.out.r0
            have c0_4 : wr.cell? ⟨gw, 4, none⟩ = some (.int .i64 0) := cell_of_row _ _ _ _ _ (0, 0) HBR.out.r0
            have c0_5 : wr.cell? ⟨gw, 5, none⟩ = some (.int .i64 0) := cell_of_row _ _ _ _ _ (0, 0) HBR.out.r0
            have c1_0 : wr.cell? ⟨gl, 0, none⟩ = some (.int .i64 1) := cell_of_row _ _ _ _ _ (0, 0) HBR.out.r1
            have c1_1 : wr.cell? ⟨gl, 1, none⟩ = some (.int .i64 2) := cell_of_row _ _ _ _ _ (0, 0) HBR.out.r1
            have c1_2 : wr.cell? ⟨gl, 2, none⟩ = some (.int .i64 3) := cell_of_row _ _ _ _ _ (0, 0) HBR.out.r1
            have c2_0 : wr.cell? ⟨gs, 0, none⟩ = some (.int .i64 s1) := cell_of_row _ _ _ _ _ (0, 0) HBR.out.r2
            have c2_1 : wr.cell? ⟨gs, 1, none⟩ = some (.int .i64 s2) := cell_of_row _ _ _ _ _ (0, 0) HBR.out.r2
            have c2_2 : wr.cell? ⟨gs, 2, none⟩ = some (.int .i64 s3) := cell_of_row _ _ _ _ _ (0, 0) HBR.out.r2
            have c2_3 : wr.cell? ⟨gs, 3, none⟩ = some (.int .i64 s4) := cell_of_row _ _ _ _ _ (0, 0) HBR.out.r2
            have c2_4 : wr.cell? ⟨gs, 4, none⟩ = some (.int .i64 s5) := cell_of_row _ _ _ _ _ (0, 0) HBR.out.r2
            have c2_5 : wr.cell? ⟨gs, 5, none⟩ = some (.int .i64 s6) := cell_of_row _ _ _ _ _ (0, 0) HBR.out.r2
            have c3_0 : wr.cell? ⟨w.heap.size, 0, none⟩ = some (.int .u8 x) := cell_of_row _ _ _ _ _ (0, 0) HBR.out.r3
            have c3_1 : wr.cell? ⟨w.heap.size, 1, none⟩ = some (.int .u8 y) := cell_of_row _ _ _ _ _ (0, 0) HBR.out.r3
            go_wp2_with fail
            refine (FS.out _).mono ?_
            rintro e w6 ⟨rfl, hb6⟩
            have HB6 := Lib.hid (HBR.out.next hb6)
            clear c0_0 c0_1 c0_2 c0_3 c0_4 c0_5 c1_0 c1_1 c1_2 c2_0 c2_1 c2_2 c2_3 c2_4 c2_5 c3_0 c3_1 hb6 HBR
            have c0_0 : w6.cell? ⟨gw, 0, none⟩ = some (.int .i64 f) := cell_of_row _ _ _ _ _ (0, 0) HB6.out.r0
            have c0_1 : w6.cell? ⟨gw, 1, none⟩ = some (.int .i64 f) := cell_of_row _ _ _ _ _ (0, 0) HB6.out.r0
            have c0_2 : w6.cell? ⟨gw, 2, none⟩ = some (.int .i64 0) := cell_of_row _ _ _ _ _ (0, 0) HB6.out.r0
            have c0_3 : w6.cell? ⟨gw, 3, none⟩ = some (.int .i64 2) := cell_of_row _ _ _ _ _ (0, 0) HB6.out.r0
            have c0_4 : w6.cell? ⟨gw, 4, none⟩ = some (.int .i64 0) := cell_of_row _ _ _ _ _ (0, 0) HB6.out.r0
            have c0_5 : w6.cell? ⟨gw, 5, none⟩ = some (.int .i64 0) := cell_of_row _ _ _ _ _ (0, 0) HB6.out.r0
            have c1_0 : w6.cell? ⟨gl, 0, none⟩ = some (.int .i64 1) := cell_of_row _ _ _ _ _ (0, 0) HB6.out.r1
            have c1_1 : w6.cell? ⟨gl, 1, none⟩ = some (.int .i64 2) := cell_of_row _ _ _ _ _ (0, 0) HB6.out.r1
            have c1_2 : w6.cell? ⟨gl, 2, none⟩ = some (.int .i64 3) := cell_of_row _ _ _ _ _ (0, 0) HB6.out.r1
            have c2_0 : w6.cell? ⟨gs, 0, none⟩ = some (.int .i64 s1) := cell_of_row _ _ _ _ _ (0, 0) HB6.out.r2
            have c2_1 : w6.cell? ⟨gs, 1, none⟩ = some (.int .i64 s2) := cell_of_row _ _ _ _ _ (0, 0) HB6.out.r2
            have c2_2 : w6.cell? ⟨gs, 2, none⟩ = some (.int .i64 s3) := cell_of_row _ _ _ _ _ (0, 0) HB6.out.r2
            have c2_3 : w6.cell? ⟨gs, 3, none⟩ = some (.int .i64 s4) := cell_of_row _ _ _ _ _ (0, 0) HB6.out.r2
            have c2_4 : w6.cell? ⟨gs, 4, none⟩ = some (.int .i64 s5) := cell_of_row _ _ _ _ _ (0, 0) HB6.out.r2
            have c2_5 : w6.cell? ⟨gs, 5, none⟩ = some (.int .i64 s6) := cell_of_row _ _ _ _ _ (0, 0) HB6.out.r2
            have c3_0 : w6.cell? ⟨w.heap.size, 0, none⟩ = some (.int .u8 x) := cell_of_row _ _ _ _ _ (0, 0) HB6.out.r3
            have c3_1 : w6.cell? ⟨w.heap.size, 1, none⟩ = some (.int .u8 y) := cell_of_row _ _ _ _ _ (0, 0) HB6.out.r3
            go_wp2_with (with_reducible show wpList _ _ _ (Oper.mk _ (.store 23 _ _) _ _ _ _ :: _) _ _; refine Hid.out ?_)
            refine Lib.hid ?_
            refine wpList_put rfl 23 _ _ rfl (gs) #[.int .i64 (f - 1), .int .i64 (f - 1), .int .i64 0, .int .i64 2, .int .i64 0, .int .i64 0] _ 23 rfl rfl HB6.out.r2 (by kernel_rfl) rfl (by kernel_rfl) ?_
            intro w7 hr7 hg7
            have HB7 : Hid (Bx w [(gw, .cells #[.int .i64 f, .int .i64 f, .int .i64 0, .int .i64 2, .int .i64 0, .int .i64 0] 23 (0, 0)), (gl, .cells #[.int .i64 1, .int .i64 2, .int .i64 3] 3 (0, 0)), (gs, .cells #[.int .i64 (f - 1), .int .i64 (f - 1), .int .i64 0, .int .i64 2, .int .i64 0, .int .i64 0] 23 (0, 0)), (w.heap.size, .cells #[.int .u8 x, .int .u8 y] 36 (0, 0))] w7) := Lib.hid (HB6.out.put (by omega) hg7.out hr7.out (by simp only [List.mem_cons, List.not_mem_nil, or_false]; rintro p (rfl | rfl | rfl | rfl) <;> simp <;> omega))
            clear c0_0 c0_1 c0_2 c0_3 c0_4 c0_5 c1_0 c1_1 c1_2 c2_0 c2_1 c2_2 c2_3 c2_4 c2_5 c3_0 c3_1 hr7 hg7 HB6
            have c0_0 : w7.cell? ⟨gw, 0, none⟩ = some (.int .i64 f) := cell_of_row _ _ _ _ _ (0, 0) HB7.out.r0
            have c0_1 : w7.cell? ⟨gw, 1, none⟩ = some (.int .i64 f) := cell_of_row _ _ _ _ _ (0, 0) HB7.out.r0
            have c0_2 : w7.cell? ⟨gw, 2, none⟩ = some (.int .i64 0) := cell_of_row _ _ _ _ _ (0, 0) HB7.out.r0
            have c0_3 : w7.cell? ⟨gw, 3, none⟩ = some (.int .i64 2) := cell_of_row _ _ _ _ _ (0, 0) HB7.out.r0
            have c0_4 : w7.cell? ⟨gw, 4, none⟩ = some (.int .i64 0) := cell_of_row _ _ _ _ _ (0, 0) HB7.out.r0
            have c0_5 : w7.cell? ⟨gw, 5, none⟩ = some (.int .i64 0) := cell_of_row _ _ _ _ _ (0, 0) HB7.out.r0
            have c1_0 : w7.cell? ⟨gl, 0, none⟩ = some (.int .i64 1) := cell_of_row _ _ _ _ _ (0, 0) HB7.out.r1
            have c1_1 : w7.cell? ⟨gl, 1, none⟩ = some (.int .i64 2) := cell_of_row _ _ _ _ _ (0, 0) HB7.out.r1
            have c1_2 : w7.cell? ⟨gl, 2, none⟩ = some (.int .i64 3) := cell_of_row _ _ _ _ _ (0, 0) HB7.out.r1
            have c2_0 : w7.cell? ⟨gs, 0, none⟩ = some (.int .i64 (f - 1)) := cell_of_row _ _ _ _ _ (0, 0) HB7.out.r2
            have c2_1 : w7.cell? ⟨gs, 1, none⟩ = some (.int .i64 (f - 1)) := cell_of_row _ _ _ _ _ (0, 0) HB7.out.r2
            have c2_2 : w7.cell? ⟨gs, 2, none⟩ = some (.int .i64 0) := cell_of_row _ _ _ _ _ (0, 0) HB7.out.r2
            have c2_3 : w7.cell? ⟨gs, 3, none⟩ = some (.int .i64 2) := cell_of_row _ _ _ _ _ (0, 0) HB7.out.r2
            have c2_4 : w7.cell? ⟨gs, 4, none⟩ = some (.int .i64 0) := cell_of_row _ _ _ _ _ (0, 0) HB7.out.r2
            have c2_5 : w7.cell? ⟨gs, 5, none⟩ = some (.int .i64 0) := cell_of_row _ _ _ _ _ (0, 0) HB7.out.r2
            have c3_0 : w7.cell? ⟨w.heap.size, 0, none⟩ = some (.int .u8 x) := cell_of_row _ _ _ _ _ (0, 0) HB7.out.r3
            have c3_1 : w7.cell? ⟨w.heap.size, 1, none⟩ = some (.int .u8 y) := cell_of_row _ _ _ _ _ (0, 0) HB7.out.r3
            go_wp2_with fail
            refine (FR.out _).mono ?_
            rintro e w8 ⟨rfl, hb8⟩
            have HB8 := Lib.hid (HB7.out.next hb8)
            clear c0_0 c0_1 c0_2 c0_3 c0_4 c0_5 c1_0 c1_1 c1_2 c2_0 c2_1 c2_2 c2_3 c2_4 c2_5 c3_0 c3_1 hb8 HB7
            have c0_0 : w8.cell? ⟨gw, 0, none⟩ = some (.int .i64 f) := cell_of_row _ _ _ _ _ (0, 0) HB8.out.r0
            have c0_1 : w8.cell? ⟨gw, 1, none⟩ = some (.int .i64 f) := cell_of_row _ _ _ _ _ (0, 0) HB8.out.r0
            have c0_2 : w8.cell? ⟨gw, 2, none⟩ = some (.int .i64 0) := cell_of_row _ _ _ _ _ (0, 0) HB8.out.r0
            have c0_3 : w8.cell? ⟨gw, 3, none⟩ = some (.int .i64 2) := cell_of_row _ _ _ _ _ (0, 0) HB8.out.r0
            have c0_4 : w8.cell? ⟨gw, 4, none⟩ = some (.int .i64 0) := cell_of_row _ _ _ _ _ (0, 0) HB8.out.r0
            have c0_5 : w8.cell? ⟨gw, 5, none⟩ = some (.int .i64 0) := cell_of_row _ _ _ _ _ (0, 0) HB8.out.r0
            have c1_0 : w8.cell? ⟨gl, 0, none⟩ = some (.int .i64 1) := cell_of_row _ _ _ _ _ (0, 0) HB8.out.r1
            have c1_1 : w8.cell? ⟨gl, 1, none⟩ = some (.int .i64 2) := cell_of_row _ _ _ _ _ (0, 0) HB8.out.r1
            have c1_2 : w8.cell? ⟨gl, 2, none⟩ = some (.int .i64 3) := cell_of_row _ _ _ _ _ (0, 0) HB8.out.r1
            have c2_0 : w8.cell? ⟨gs, 0, none⟩ = some (.int .i64 (f - 1)) := cell_of_row _ _ _ _ _ (0, 0) HB8.out.r2
            have c2_1 : w8.cell? ⟨gs, 1, none⟩ = some (.int .i64 (f - 1)) := cell_of_row _ _ _ _ _ (0, 0) HB8.out.r2
            have c2_2 : w8.cell? ⟨gs, 2, none⟩ = some (.int .i64 0) := cell_of_row _ _ _ _ _ (0, 0) HB8.out.r2
            have c2_3 : w8.cell? ⟨gs, 3, none⟩ = some (.int .i64 2) := cell_of_row _ _ _ _ _ (0, 0) HB8.out.r2
            have c2_4 : w8.cell? ⟨gs, 4, none⟩ = some (.int .i64 0) := cell_of_row _ _ _ _ _ (0, 0) HB8.out.r2
            have c2_5 : w8.cell? ⟨gs, 5, none⟩ = some (.int .i64 0) := cell_of_row _ _ _ _ _ (0, 0) HB8.out.r2
            have c3_0 : w8.cell? ⟨w.heap.size, 0, none⟩ = some (.int .u8 x) := cell_of_row _ _ _ _ _ (0, 0) HB8.out.r3
            have c3_1 : w8.cell? ⟨w.heap.size, 1, none⟩ = some (.int .u8 y) := cell_of_row _ _ _ _ _ (0, 0) HB8.out.r3
            go_wp2_with (with_reducible show wpList _ _ _ (Oper.mk _ (.store 32 _ _) _ _ _ _ :: _) _ _; refine Hid.out ?_)
            refine Lib.hid ?_
            have l9_0 : gw < w8.heap.size := (Array.getElem?_eq_some_iff.1 HB8.out.r0).1
            have l9_1 : gl < w8.heap.size := (Array.getElem?_eq_some_iff.1 HB8.out.r1).1
            have l9_2 : gs < w8.heap.size := (Array.getElem?_eq_some_iff.1 HB8.out.r2).1
            have l9_3 : w.heap.size < w8.heap.size := (Array.getElem?_eq_some_iff.1 HB8.out.r3).1
            have lw9 : w.heap.size ≤ w8.heap.size := HB8.out.below.size
            refine wpList_put rfl 32 _ _ rfl w8.heap.size #[.int .i64 (f - 1), .bool true, .int .i64 2, .bool false] _ 32 rfl rfl (heap_alloc_new w8 _) (by kernel_rfl) rfl (by kernel_rfl) ?_
            intro w9 hr9 hg9
            have HB9 : Hid (Bx w [(w8.heap.size, .cells #[.int .i64 (f - 1), .bool true, .int .i64 2, .bool false] 32 (0, 0)), (gw, .cells #[.int .i64 f, .int .i64 f, .int .i64 0, .int .i64 2, .int .i64 0, .int .i64 0] 23 (0, 0)), (gl, .cells #[.int .i64 1, .int .i64 2, .int .i64 3] 3 (0, 0)), (gs, .cells #[.int .i64 (f - 1), .int .i64 (f - 1), .int .i64 0, .int .i64 2, .int .i64 0, .int .i64 0] 23 (0, 0)), (w.heap.size, .cells #[.int .u8 x, .int .u8 y] 36 (0, 0))] w9) := Lib.hid ((HB8.out.make (heap_alloc_new w8 (.cells #[.int .i64 0, .bool false, .int .i64 0, .bool false] 32)) ((Below.refl w8.heap.size w8).alloc (Nat.le_refl _) _)).put HB8.out.below.size hg9.out hr9.out (by simp only [List.mem_cons, List.not_mem_nil, or_false]; rintro p (rfl | rfl | rfl | rfl | rfl) <;> simp <;> omega))
            clear c0_0 c0_1 c0_2 c0_3 c0_4 c0_5 c1_0 c1_1 c1_2 c2_0 c2_1 c2_2 c2_3 c2_4 c2_5 c3_0 c3_1 hr9 hg9 HB8
            generalize w8.heap.size = gf at *
            have c0_0 : w9.cell? ⟨gf, 0, none⟩ = some (.int .i64 (f - 1)) := cell_of_row _ _ _ _ _ (0, 0) HB9.out.r0
            have c0_1 : w9.cell? ⟨gf, 1, none⟩ = some (.bool true) := cell_of_row _ _ _ _ _ (0, 0) HB9.out.r0
            have c0_2 : w9.cell? ⟨gf, 2, none⟩ = some (.int .i64 2) := cell_of_row _ _ _ _ _ (0, 0) HB9.out.r0
            have c0_3 : w9.cell? ⟨gf, 3, none⟩ = some (.bool false) := cell_of_row _ _ _ _ _ (0, 0) HB9.out.r0
            have c1_0 : w9.cell? ⟨gw, 0, none⟩ = some (.int .i64 f) := cell_of_row _ _ _ _ _ (0, 0) HB9.out.r1
            have c1_1 : w9.cell? ⟨gw, 1, none⟩ = some (.int .i64 f) := cell_of_row _ _ _ _ _ (0, 0) HB9.out.r1
            have c1_2 : w9.cell? ⟨gw, 2, none⟩ = some (.int .i64 0) := cell_of_row _ _ _ _ _ (0, 0) HB9.out.r1
            have c1_3 : w9.cell? ⟨gw, 3, none⟩ = some (.int .i64 2) := cell_of_row _ _ _ _ _ (0, 0) HB9.out.r1
            have c1_4 : w9.cell? ⟨gw, 4, none⟩ = some (.int .i64 0) := cell_of_row _ _ _ _ _ (0, 0) HB9.out.r1
            have c1_5 : w9.cell? ⟨gw, 5, none⟩ = some (.int .i64 0) := cell_of_row _ _ _ _ _ (0, 0) HB9.out.r1
            have c2_0 : w9.cell? ⟨gl, 0, none⟩ = some (.int .i64 1) := cell_of_row _ _ _ _ _ (0, 0) HB9.out.r2
            have c2_1 : w9.cell? ⟨gl, 1, none⟩ = some (.int .i64 2) := cell_of_row _ _ _ _ _ (0, 0) HB9.out.r2
            have c2_2 : w9.cell? ⟨gl, 2, none⟩ = some (.int .i64 3) := cell_of_row _ _ _ _ _ (0, 0) HB9.out.r2
            have c3_0 : w9.cell? ⟨gs, 0, none⟩ = some (.int .i64 (f - 1)) := cell_of_row _ _ _ _ _ (0, 0) HB9.out.r3
            have c3_1 : w9.cell? ⟨gs, 1, none⟩ = some (.int .i64 (f - 1)) := cell_of_row _ _ _ _ _ (0, 0) HB9.out.r3
            have c3_2 : w9.cell? ⟨gs, 2, none⟩ = some (.int .i64 0) := cell_of_row _ _ _ _ _ (0, 0) HB9.out.r3
            have c3_3 : w9.cell? ⟨gs, 3, none⟩ = some (.int .i64 2) := cell_of_row _ _ _ _ _ (0, 0) HB9.out.r3
            have c3_4 : w9.cell? ⟨gs, 4, none⟩ = some (.int .i64 0) := cell_of_row _ _ _ _ _ (0, 0) HB9.out.r3
            have c3_5 : w9.cell? ⟨gs, 5, none⟩ = some (.int .i64 0) := cell_of_row _ _ _ _ _ (0, 0) HB9.out.r3
            have c4_0 : w9.cell? ⟨w.heap.size, 0, none⟩ = some (.int .u8 x) := cell_of_row _ _ _ _ _ (0, 0) HB9.out.r4
            have c4_1 : w9.cell? ⟨w.heap.size, 1, none⟩ = some (.int .u8 y) := cell_of_row _ _ _ _ _ (0, 0) HB9.out.r4
            go_wp2_with fail
            go_roundw
            case rel => exact ⟨j + 1, _, by go_num, by omega, HX.out.symm, (HB9.out.less (by simp only [List.mem_cons, List.not_mem_nil, or_false]; rintro p (rfl | rfl | rfl | rfl) <;> simp))⟩
            case measure => simp [intOf]; have := HK.out; omega
        · obtain rfl : j = K := by omega
          have hX : s = ⟨f - 1, f - 1, 0, 2, 0, 0⟩ := by rw [hs]; unfold Rg.rideAt; have := HK.out; rw [if_neg (by omega), if_neg (by omega)] <;> rfl
          subst hX
          simp only at hbr
          have HBR := Lib.hid hbr
          clear hbr hs hlt
          have hlti : ¬ (j : Int) + 1 ≤ (j : Int) := by omega
          have hltB : decide ((j : Int) + 1 ≤ (j : Int)) = false := decide_eq_false hlti
          have hwf : IntKind.i64.wrap (f - 1) = f - 1 := by rw [IntKind.wrap_i64]; have := HF.out; have := Hf.out; omega
          have c0_0 : wr.cell? ⟨gw, 0, none⟩ = some (.int .i64 f) := cell_of_row _ _ _ _ _ (0, 0) HBR.out.r0
          have c0_1 : wr.cell? ⟨gw, 1, none⟩ = some (.int .i64 f) := cell_of_row _ _ _ _ _ (0, 0) HBR.out.r0
          have c0_2 : wr.cell? ⟨gw, 2, none⟩ = some (.int .i64 0) := cell_of_row _ _ _ _ _ (0, 0) HBR.out.r0
          have c0_3 : wr.cell? ⟨gw, 3, none⟩ = some (.int .i64 2) := cell_of_row _ _ _ _ _ (0, 0) HBR.out.r0
          have c0_4 : wr.cell? ⟨gw, 4, none⟩ = some (.int .i64 0) := cell_of_row _ _ _ _ _ (0, 0) HBR.out.r0
          have c0_5 : wr.cell? ⟨gw, 5, none⟩ = some (.int .i64 0) := cell_of_row _ _ _ _ _ (0, 0) HBR.out.r0
          have c1_0 : wr.cell? ⟨gl, 0, none⟩ = some (.int .i64 1) := cell_of_row _ _ _ _ _ (0, 0) HBR.out.r1
          have c1_1 : wr.cell? ⟨gl, 1, none⟩ = some (.int .i64 2) := cell_of_row _ _ _ _ _ (0, 0) HBR.out.r1
          have c1_2 : wr.cell? ⟨gl, 2, none⟩ = some (.int .i64 3) := cell_of_row _ _ _ _ _ (0, 0) HBR.out.r1
          have c2_0 : wr.cell? ⟨gs, 0, none⟩ = some (.int .i64 (f - 1)) := cell_of_row _ _ _ _ _ (0, 0) HBR.out.r2
          have c2_1 : wr.cell? ⟨gs, 1, none⟩ = some (.int .i64 (f - 1)) := cell_of_row _ _ _ _ _ (0, 0) HBR.out.r2
          have c2_2 : wr.cell? ⟨gs, 2, none⟩ = some (.int .i64 0) := cell_of_row _ _ _ _ _ (0, 0) HBR.out.r2
          have c2_3 : wr.cell? ⟨gs, 3, none⟩ = some (.int .i64 2) := cell_of_row _ _ _ _ _ (0, 0) HBR.out.r2
          have c2_4 : wr.cell? ⟨gs, 4, none⟩ = some (.int .i64 0) := cell_of_row _ _ _ _ _ (0, 0) HBR.out.r2
          have c2_5 : wr.cell? ⟨gs, 5, none⟩ = some (.int .i64 0) := cell_of_row _ _ _ _ _ (0, 0) HBR.out.r2
          have c3_0 : wr.cell? ⟨w.heap.size, 0, none⟩ = some (.int .u8 x) := cell_of_row _ _ _ _ _ (0, 0) HBR.out.r3
          have c3_1 : wr.cell? ⟨w.heap.size, 1, none⟩ = some (.int .u8 y) := cell_of_row _ _ _ _ _ (0, 0) HBR.out.r3
          go_wp2_with fail
          refine (FN.out _).mono ?_
          rintro e w81 ⟨rfl, hb81⟩
          have HB81 := Lib.hid (HBR.out.next hb81)
          clear c0_0 c0_1 c0_2 c0_3 c0_4 c0_5 c1_0 c1_1 c1_2 c2_0 c2_1 c2_2 c2_3 c2_4 c2_5 c3_0 c3_1 hb81 HBR
          have c0_0 : w81.cell? ⟨gw, 0, none⟩ = some (.int .i64 f) := cell_of_row _ _ _ _ _ (0, 0) HB81.out.r0
          have c0_1 : w81.cell? ⟨gw, 1, none⟩ = some (.int .i64 f) := cell_of_row _ _ _ _ _ (0, 0) HB81.out.r0
          have c0_2 : w81.cell? ⟨gw, 2, none⟩ = some (.int .i64 0) := cell_of_row _ _ _ _ _ (0, 0) HB81.out.r0
          have c0_3 : w81.cell? ⟨gw, 3, none⟩ = some (.int .i64 2) := cell_of_row _ _ _ _ _ (0, 0) HB81.out.r0
          have c0_4 : w81.cell? ⟨gw, 4, none⟩ = some (.int .i64 0) := cell_of_row _ _ _ _ _ (0, 0) HB81.out.r0
          have c0_5 : w81.cell? ⟨gw, 5, none⟩ = some (.int .i64 0) := cell_of_row _ _ _ _ _ (0, 0) HB81.out.r0
          have c1_0 : w81.cell? ⟨gl, 0, none⟩ = some (.int .i64 1) := cell_of_row _ _ _ _ _ (0, 0) HB81.out.r1
          have c1_1 : w81.cell? ⟨gl, 1, none⟩ = some (.int .i64 2) := cell_of_row _ _ _ _ _ (0, 0) HB81.out.r1
          have c1_2 : w81.cell? ⟨gl, 2, none⟩ = some (.int .i64 3) := cell_of_row _ _ _ _ _ (0, 0) HB81.out.r1
          have c2_0 : w81.cell? ⟨gs, 0, none⟩ = some (.int .i64 (f - 1)) := cell_of_row _ _ _ _ _ (0, 0) HB81.out.r2
          have c2_1 : w81.cell? ⟨gs, 1, none⟩ = some (.int .i64 (f - 1)) := cell_of_row _ _ _ _ _ (0, 0) HB81.out.r2
          have c2_2 : w81.cell? ⟨gs, 2, none⟩ = some (.int .i64 0) := cell_of_row _ _ _ _ _ (0, 0) HB81.out.r2
          have c2_3 : w81.cell? ⟨gs, 3, none⟩ = some (.int .i64 2) := cell_of_row _ _ _ _ _ (0, 0) HB81.out.r2
          have c2_4 : w81.cell? ⟨gs, 4, none⟩ = some (.int .i64 0) := cell_of_row _ _ _ _ _ (0, 0) HB81.out.r2
          have c2_5 : w81.cell? ⟨gs, 5, none⟩ = some (.int .i64 0) := cell_of_row _ _ _ _ _ (0, 0) HB81.out.r2
          have c3_0 : w81.cell? ⟨w.heap.size, 0, none⟩ = some (.int .u8 x) := cell_of_row _ _ _ _ _ (0, 0) HB81.out.r3
          have c3_1 : w81.cell? ⟨w.heap.size, 1, none⟩ = some (.int .u8 y) := cell_of_row _ _ _ _ _ (0, 0) HB81.out.r3
          go_wp2_with fail
          go_ret
          exact ⟨rfl, HB81.out.below⟩
  · have HB0 := Lib.hid (bxs1 w (.cells #[.int .u8 x, .int .u8 y] 36))
    go_enter Try.func4, Try.ntmps4
    go_wp2_with fail
    refine Bag.region (fun wx => Below (w.heap.size + 1) (w.alloc (.cells #[.int .u8 x, .int .u8 y] 36)) wx) (by kernel_rfl) (by kernel_rfl) (Below.refl _ _).drew ?_
    iterate 8 (first
        | (apply Bag.walk_yes (by rfl)
           (intro wx hx K hK
            have HXx := HB0.out.next (show Below _ _ wx from by simpa using hx)
            have z0_0 : wx.cell? ⟨w.heap.size, 0, none⟩ = some (.int .u8 x) := cell_of_row _ _ _ _ _ (0, 0) HXx.r0
            have z0_1 : wx.cell? ⟨w.heap.size, 1, none⟩ = some (.int .u8 y) := cell_of_row _ _ _ _ _ (0, 0) HXx.r0
            first
              | (go_simp
                 first
                  | (go_at_K; exact hK _ hx)))
           rfl)
        | (refine Bag.walk_no (by rfl) ?_; simp only [Act.put, List.setIfInBounds_toArray, List.set_cons_succ, List.set_cons_zero]))
    refine Bag.walk_nil (fun w1 hb1 => ?_)
    have HB1 := Lib.hid (HB0.out.next (show Below _ _ w1 from by simpa using hb1))
    clear hb1 HB0
    have c0_0 : w1.cell? ⟨w.heap.size, 0, none⟩ = some (.int .u8 x) := cell_of_row _ _ _ _ _ (0, 0) HB1.out.r0
    have c0_1 : w1.cell? ⟨w.heap.size, 1, none⟩ = some (.int .u8 y) := cell_of_row _ _ _ _ _ (0, 0) HB1.out.r0
    go_wp2_with fail
    simp only [hFe, hfm]
    clear hFe hfm hfe
    refine (FW.out _).mono ?_
    rintro e w2 ⟨rfl, hb2⟩
    have HB2 := Lib.hid (HB1.out.next hb2)
    clear c0_0 c0_1 hb2 HB1
    go_wp2_with (with_reducible show wpList _ _ _ (Oper.mk _ (.store 23 _ _) _ _ _ _ :: _) _ _; refine Hid.out ?_)
    refine Lib.hid ?_
    have l3_0 : w.heap.size < w2.heap.size := (Array.getElem?_eq_some_iff.1 HB2.out.r0).1
    have lw3 : w.heap.size ≤ w2.heap.size := HB2.out.below.size
    refine wpList_put rfl 23 _ _ rfl w2.heap.size #[.int .i64 f, .int .i64 f, .int .i64 0, .int .i64 2, .int .i64 0, .int .i64 0] _ 23 rfl rfl (heap_alloc_new w2 _) (by kernel_rfl) rfl (by kernel_rfl) ?_
    intro w3 hr3 hg3
    have HB3 : Hid (Bx w [(w2.heap.size, .cells #[.int .i64 f, .int .i64 f, .int .i64 0, .int .i64 2, .int .i64 0, .int .i64 0] 23 (0, 0)), (w.heap.size, .cells #[.int .u8 x, .int .u8 y] 36 (0, 0))] w3) := Lib.hid ((HB2.out.make (heap_alloc_new w2 (.cells #[.int .i64 0, .int .i64 0, .int .i64 0, .int .i64 0, .int .i64 0, .int .i64 0] 23)) ((Below.refl w2.heap.size w2).alloc (Nat.le_refl _) _)).put HB2.out.below.size hg3.out hr3.out (by simp only [List.mem_cons, List.not_mem_nil, or_false]; rintro p (rfl | rfl) <;> simp <;> omega))
    clear hr3 hg3 HB2
    generalize w2.heap.size = gs at *
    have c0_0 : w3.cell? ⟨gs, 0, none⟩ = some (.int .i64 f) := cell_of_row _ _ _ _ _ (0, 0) HB3.out.r0
    have c0_1 : w3.cell? ⟨gs, 1, none⟩ = some (.int .i64 f) := cell_of_row _ _ _ _ _ (0, 0) HB3.out.r0
    have c0_2 : w3.cell? ⟨gs, 2, none⟩ = some (.int .i64 0) := cell_of_row _ _ _ _ _ (0, 0) HB3.out.r0
    have c0_3 : w3.cell? ⟨gs, 3, none⟩ = some (.int .i64 2) := cell_of_row _ _ _ _ _ (0, 0) HB3.out.r0
    have c0_4 : w3.cell? ⟨gs, 4, none⟩ = some (.int .i64 0) := cell_of_row _ _ _ _ _ (0, 0) HB3.out.r0
    have c0_5 : w3.cell? ⟨gs, 5, none⟩ = some (.int .i64 0) := cell_of_row _ _ _ _ _ (0, 0) HB3.out.r0
    have c1_0 : w3.cell? ⟨w.heap.size, 0, none⟩ = some (.int .u8 x) := cell_of_row _ _ _ _ _ (0, 0) HB3.out.r1
    have c1_1 : w3.cell? ⟨w.heap.size, 1, none⟩ = some (.int .u8 y) := cell_of_row _ _ _ _ _ (0, 0) HB3.out.r1
    go_wp2_with (with_reducible show wpList _ _ _ (Oper.mk _ (.buildSlice _ _ _) _ _ _ _ :: _) _ _; refine wpList_ints3 rfl rfl ?_; refine Hid.out ?_)
    refine Lib.hid ?_
    have l4_0 : gs < w3.heap.size := (Array.getElem?_eq_some_iff.1 HB3.out.r0).1
    have l4_1 : w.heap.size < w3.heap.size := (Array.getElem?_eq_some_iff.1 HB3.out.r1).1
    have lw4 : w.heap.size ≤ w3.heap.size := HB3.out.below.size
    have HB4 := Lib.hid (HB3.out.make (heap_alloc_new w3 (.cells #[.int .i64 1, .int .i64 2, .int .i64 3] 3)) ((Below.refl w3.heap.size w3).alloc (Nat.le_refl _) _))
    generalize w3.alloc (.cells #[.int .i64 1, .int .i64 2, .int .i64 3] 3) = w4 at *
    clear c0_0 c0_1 c0_2 c0_3 c0_4 c0_5 c1_0 c1_1 HB3
    generalize w3.heap.size = gl at *
    have c0_0 : w4.cell? ⟨gl, 0, none⟩ = some (.int .i64 1) := cell_of_row _ _ _ _ _ (0, 0) HB4.out.r0
    have c0_1 : w4.cell? ⟨gl, 1, none⟩ = some (.int .i64 2) := cell_of_row _ _ _ _ _ (0, 0) HB4.out.r0
    have c0_2 : w4.cell? ⟨gl, 2, none⟩ = some (.int .i64 3) := cell_of_row _ _ _ _ _ (0, 0) HB4.out.r0
    have c1_0 : w4.cell? ⟨gs, 0, none⟩ = some (.int .i64 f) := cell_of_row _ _ _ _ _ (0, 0) HB4.out.r1
    have c1_1 : w4.cell? ⟨gs, 1, none⟩ = some (.int .i64 f) := cell_of_row _ _ _ _ _ (0, 0) HB4.out.r1
    have c1_2 : w4.cell? ⟨gs, 2, none⟩ = some (.int .i64 0) := cell_of_row _ _ _ _ _ (0, 0) HB4.out.r1
    have c1_3 : w4.cell? ⟨gs, 3, none⟩ = some (.int .i64 2) := cell_of_row _ _ _ _ _ (0, 0) HB4.out.r1
    have c1_4 : w4.cell? ⟨gs, 4, none⟩ = some (.int .i64 0) := cell_of_row _ _ _ _ _ (0, 0) HB4.out.r1
    have c1_5 : w4.cell? ⟨gs, 5, none⟩ = some (.int .i64 0) := cell_of_row _ _ _ _ _ (0, 0) HB4.out.r1
    have c2_0 : w4.cell? ⟨w.heap.size, 0, none⟩ = some (.int .u8 x) := cell_of_row _ _ _ _ _ (0, 0) HB4.out.r2
    have c2_1 : w4.cell? ⟨w.heap.size, 1, none⟩ = some (.int .u8 y) := cell_of_row _ _ _ _ _ (0, 0) HB4.out.r2
    go_wp2_with (with_reducible show wpList _ _ _ (Oper.mk _ (.store 23 _ _) _ _ _ _ :: _) _ _; refine Hid.out ?_)
    refine Lib.hid ?_
    have l5_0 : gl < w4.heap.size := (Array.getElem?_eq_some_iff.1 HB4.out.r0).1
    have l5_1 : gs < w4.heap.size := (Array.getElem?_eq_some_iff.1 HB4.out.r1).1
    have l5_2 : w.heap.size < w4.heap.size := (Array.getElem?_eq_some_iff.1 HB4.out.r2).1
    have lw5 : w.heap.size ≤ w4.heap.size := HB4.out.below.size
    refine wpList_put rfl 23 _ _ rfl w4.heap.size #[.int .i64 f, .int .i64 f, .int .i64 0, .int .i64 2, .int .i64 0, .int .i64 0] _ 23 rfl rfl (heap_alloc_new w4 _) (by kernel_rfl) rfl (by kernel_rfl) ?_
    intro w5 hr5 hg5
    have HB5 : Hid (Bx w [(w4.heap.size, .cells #[.int .i64 f, .int .i64 f, .int .i64 0, .int .i64 2, .int .i64 0, .int .i64 0] 23 (0, 0)), (gl, .cells #[.int .i64 1, .int .i64 2, .int .i64 3] 3 (0, 0)), (gs, .cells #[.int .i64 f, .int .i64 f, .int .i64 0, .int .i64 2, .int .i64 0, .int .i64 0] 23 (0, 0)), (w.heap.size, .cells #[.int .u8 x, .int .u8 y] 36 (0, 0))] w5) := Lib.hid ((HB4.out.make (heap_alloc_new w4 (.cells #[.int .i64 0, .int .i64 0, .int .i64 0, .int .i64 0, .int .i64 0, .int .i64 0] 23)) ((Below.refl w4.heap.size w4).alloc (Nat.le_refl _) _)).put HB4.out.below.size hg5.out hr5.out (by simp only [List.mem_cons, List.not_mem_nil, or_false]; rintro p (rfl | rfl | rfl | rfl) <;> simp <;> omega))
    clear c0_0 c0_1 c0_2 c1_0 c1_1 c1_2 c1_3 c1_4 c1_5 c2_0 c2_1 hr5 hg5 HB4
    generalize w4.heap.size = gw at *
    go_wp2_with fail
    clear hKe hz
    go_loopw [13] (fun vi wr => ∃ (j : Nat) (s : Rg), vi = .int .i64 ((j : Int) + 1) ∧ j ≤ K ∧ s = Rg.openAt f K j ∧ Bx w [(gw, .cells #[.int .i64 f, .int .i64 f, .int .i64 0, .int .i64 2, .int .i64 0, .int .i64 0] 23 (0, 0)), (gl, .cells #[.int .i64 1, .int .i64 2, .int .i64 3] 3 (0, 0)), (gs, .cells #[.int .i64 s.fl, .int .i64 s.tg, .int .i64 s.lf, .int .i64 s.dd, .int .i64 s.am, .int .i64 s.tk] 23 (0, 0)), (w.heap.size, .cells #[.int .u8 x, .int .u8 y] 36 (0, 0))] wr) (fun vi _ => 300 - (intOf vi).toNat)
    case atStart => exact ⟨0, Rg.new f, rfl, Nat.zero_le _, rfl, HB5.out⟩
    case round =>
      obtain ⟨j, s, rfl, hj, hs, hbr⟩ := hrel
      clear HB5
      by_cases hlt : j < K
      · have hst : Rg.anyF F s 3 K = Rg.openAt f K ((j : Int) + 1) := by
          have hk := HK.out
          rw [hs, Rg.anyF_ok (Rg.openAt_ok HF.out Hf.out (by omega) (by omega)), Rg.lim_id (by omega)]
          exact Rg.openAt_step (by omega)
        obtain ⟨s1, s2, s3, s4, s5, s6⟩ := s
        simp only at hbr
        have HBR := Lib.hid hbr
        clear hbr hs
        have FS := Lib.hid (fun wx => rigStep_any F ⟨s1, s2, s3, s4, s5, s6⟩ 3 K wx)
        rw [hst] at FS
        clear hst
        have hlti : (j : Int) + 1 ≤ (K : Int) := by omega
        have hltB : decide ((j : Int) + 1 ≤ (K : Int)) = true := decide_eq_true hlti
        have hwj : IntKind.i64.wrap ((j : Int) + 1 + 1) = ((j + 1 : Nat) : Int) + 1 := by rw [IntKind.wrap_i64]; have := HK.out; omega
        by_cases hend : j + 1 < K
        · obtain ⟨q, hq, hq1⟩ : ∃ q : Int, (K : Int) - ((j : Int) + 1) = q ∧ 1 ≤ q := ⟨_, rfl, by omega⟩
          have hX : Rg.openAt f K ((j : Int) + 1) = ⟨f, f, 0, 0, 1, q⟩ := by unfold Rg.openAt; rw [if_neg (by omega), if_pos (by omega), hq]
          rw [hX] at FS
          have FR := Lib.hid (fun wx => rigReport_any ⟨f, f, 0, 0, 1, q⟩ false wx)
          have hq0 : (q == 0) = false := by simp only [beq_eq_false_iff_ne, ne_eq]; omega
          have hik : ((j : Int) + 1 == (K : Int)) = false := by simp only [beq_eq_false_iff_ne, ne_eq]; omega
          rw [show (Rg.report ⟨f, f, 0, 0, 1, q⟩ false).agg = .agg #[.int .i64 f, .bool true, .int .i64 0, .bool false] from rfl] at FR
          simp only [Rg.agg] at FS FR
          have HX := Lib.hid hX
          clear hX hq hq1 hend
          have c0_0 : wr.cell? ⟨gw, 0, none⟩ = some (.int .i64 f) := cell_of_row _ _ _ _ _ (0, 0) HBR.out.r0
          have c0_1 : wr.cell? ⟨gw, 1, none⟩ = some (.int .i64 f) := cell_of_row _ _ _ _ _ (0, 0) HBR.out.r0
          have c0_2 : wr.cell? ⟨gw, 2, none⟩ = some (.int .i64 0) := cell_of_row _ _ _ _ _ (0, 0) HBR.out.r0
          have c0_3 : wr.cell? ⟨gw, 3, none⟩ = some (.int .i64 2) := cell_of_row _ _ _ _ _ (0, 0) HBR.out.r0
          have c0_4 : wr.cell? ⟨gw, 4, none⟩ = some (.int .i64 0) := cell_of_row _ _ _ _ _ (0, 0) HBR.out.r0
          have c0_5 : wr.cell? ⟨gw, 5, none⟩ = some (.int .i64 0) := cell_of_row _ _ _ _ _ (0, 0) HBR.out.r0
          have c1_0 : wr.cell? ⟨gl, 0, none⟩ = some (.int .i64 1) := cell_of_row _ _ _ _ _ (0, 0) HBR.out.r1
          have c1_1 : wr.cell? ⟨gl, 1, none⟩ = some (.int .i64 2) := cell_of_row _ _ _ _ _ (0, 0) HBR.out.r1
          have c1_2 : wr.cell? ⟨gl, 2, none⟩ = some (.int .i64 3) := cell_of_row _ _ _ _ _ (0, 0) HBR.out.r1
          have c2_0 : wr.cell? ⟨gs, 0, none⟩ = some (.int .i64 s1) := cell_of_row _ _ _ _ _ (0, 0) HBR.out.r2
          have c2_1 : wr.cell? ⟨gs, 1, none⟩ = some (.int .i64 s2) := cell_of_row _ _ _ _ _ (0, 0) HBR.out.r2
          have c2_2 : wr.cell? ⟨gs, 2, none⟩ = some (.int .i64 s3) := cell_of_row _ _ _ _ _ (0, 0) HBR.out.r2
          have c2_3 : wr.cell? ⟨gs, 3, none⟩ = some (.int .i64 s4) := cell_of_row _ _ _ _ _ (0, 0) HBR.out.r2
          have c2_4 : wr.cell? ⟨gs, 4, none⟩ = some (.int .i64 s5) := cell_of_row _ _ _ _ _ (0, 0) HBR.out.r2
          have c2_5 : wr.cell? ⟨gs, 5, none⟩ = some (.int .i64 s6) := cell_of_row _ _ _ _ _ (0, 0) HBR.out.r2
          have c3_0 : wr.cell? ⟨w.heap.size, 0, none⟩ = some (.int .u8 x) := cell_of_row _ _ _ _ _ (0, 0) HBR.out.r3
          have c3_1 : wr.cell? ⟨w.heap.size, 1, none⟩ = some (.int .u8 y) := cell_of_row _ _ _ _ _ (0, 0) HBR.out.r3
          go_wp2_with fail
          refine (FS.out _).mono ?_
          rintro e w6 ⟨rfl, hb6⟩
          have HB6 := Lib.hid (HBR.out.next hb6)
          clear c0_0 c0_1 c0_2 c0_3 c0_4 c0_5 c1_0 c1_1 c1_2 c2_0 c2_1 c2_2 c2_3 c2_4 c2_5 c3_0 c3_1 hb6 HBR
          have c0_0 : w6.cell? ⟨gw, 0, none⟩ = some (.int .i64 f) := cell_of_row _ _ _ _ _ (0, 0) HB6.out.r0
          have c0_1 : w6.cell? ⟨gw, 1, none⟩ = some (.int .i64 f) := cell_of_row _ _ _ _ _ (0, 0) HB6.out.r0
          have c0_2 : w6.cell? ⟨gw, 2, none⟩ = some (.int .i64 0) := cell_of_row _ _ _ _ _ (0, 0) HB6.out.r0
          have c0_3 : w6.cell? ⟨gw, 3, none⟩ = some (.int .i64 2) := cell_of_row _ _ _ _ _ (0, 0) HB6.out.r0
          have c0_4 : w6.cell? ⟨gw, 4, none⟩ = some (.int .i64 0) := cell_of_row _ _ _ _ _ (0, 0) HB6.out.r0
          have c0_5 : w6.cell? ⟨gw, 5, none⟩ = some (.int .i64 0) := cell_of_row _ _ _ _ _ (0, 0) HB6.out.r0
          have c1_0 : w6.cell? ⟨gl, 0, none⟩ = some (.int .i64 1) := cell_of_row _ _ _ _ _ (0, 0) HB6.out.r1
          have c1_1 : w6.cell? ⟨gl, 1, none⟩ = some (.int .i64 2) := cell_of_row _ _ _ _ _ (0, 0) HB6.out.r1
          have c1_2 : w6.cell? ⟨gl, 2, none⟩ = some (.int .i64 3) := cell_of_row _ _ _ _ _ (0, 0) HB6.out.r1
          have c2_0 : w6.cell? ⟨gs, 0, none⟩ = some (.int .i64 s1) := cell_of_row _ _ _ _ _ (0, 0) HB6.out.r2
          have c2_1 : w6.cell? ⟨gs, 1, none⟩ = some (.int .i64 s2) := cell_of_row _ _ _ _ _ (0, 0) HB6.out.r2
          have c2_2 : w6.cell? ⟨gs, 2, none⟩ = some (.int .i64 s3) := cell_of_row _ _ _ _ _ (0, 0) HB6.out.r2
          have c2_3 : w6.cell? ⟨gs, 3, none⟩ = some (.int .i64 s4) := cell_of_row _ _ _ _ _ (0, 0) HB6.out.r2
          have c2_4 : w6.cell? ⟨gs, 4, none⟩ = some (.int .i64 s5) := cell_of_row _ _ _ _ _ (0, 0) HB6.out.r2
          have c2_5 : w6.cell? ⟨gs, 5, none⟩ = some (.int .i64 s6) := cell_of_row _ _ _ _ _ (0, 0) HB6.out.r2
          have c3_0 : w6.cell? ⟨w.heap.size, 0, none⟩ = some (.int .u8 x) := cell_of_row _ _ _ _ _ (0, 0) HB6.out.r3
          have c3_1 : w6.cell? ⟨w.heap.size, 1, none⟩ = some (.int .u8 y) := cell_of_row _ _ _ _ _ (0, 0) HB6.out.r3
          go_wp2_with (with_reducible show wpList _ _ _ (Oper.mk _ (.store 23 _ _) _ _ _ _ :: _) _ _; refine Hid.out ?_)
          refine Lib.hid ?_
          refine wpList_put rfl 23 _ _ rfl (gs) #[.int .i64 f, .int .i64 f, .int .i64 0, .int .i64 0, .int .i64 1, .int .i64 q] _ 23 rfl rfl HB6.out.r2 (by kernel_rfl) rfl (by kernel_rfl) ?_
          intro w7 hr7 hg7
          have HB7 : Hid (Bx w [(gw, .cells #[.int .i64 f, .int .i64 f, .int .i64 0, .int .i64 2, .int .i64 0, .int .i64 0] 23 (0, 0)), (gl, .cells #[.int .i64 1, .int .i64 2, .int .i64 3] 3 (0, 0)), (gs, .cells #[.int .i64 f, .int .i64 f, .int .i64 0, .int .i64 0, .int .i64 1, .int .i64 q] 23 (0, 0)), (w.heap.size, .cells #[.int .u8 x, .int .u8 y] 36 (0, 0))] w7) := Lib.hid (HB6.out.put (by omega) hg7.out hr7.out (by simp only [List.mem_cons, List.not_mem_nil, or_false]; rintro p (rfl | rfl | rfl | rfl) <;> simp <;> omega))
          clear c0_0 c0_1 c0_2 c0_3 c0_4 c0_5 c1_0 c1_1 c1_2 c2_0 c2_1 c2_2 c2_3 c2_4 c2_5 c3_0 c3_1 hr7 hg7 HB6
          have c0_0 : w7.cell? ⟨gw, 0, none⟩ = some (.int .i64 f) := cell_of_row _ _ _ _ _ (0, 0) HB7.out.r0
          have c0_1 : w7.cell? ⟨gw, 1, none⟩ = some (.int .i64 f) := cell_of_row _ _ _ _ _ (0, 0) HB7.out.r0
          have c0_2 : w7.cell? ⟨gw, 2, none⟩ = some (.int .i64 0) := cell_of_row _ _ _ _ _ (0, 0) HB7.out.r0
          have c0_3 : w7.cell? ⟨gw, 3, none⟩ = some (.int .i64 2) := cell_of_row _ _ _ _ _ (0, 0) HB7.out.r0
          have c0_4 : w7.cell? ⟨gw, 4, none⟩ = some (.int .i64 0) := cell_of_row _ _ _ _ _ (0, 0) HB7.out.r0
          have c0_5 : w7.cell? ⟨gw, 5, none⟩ = some (.int .i64 0) := cell_of_row _ _ _ _ _ (0, 0) HB7.out.r0
          have c1_0 : w7.cell? ⟨gl, 0, none⟩ = some (.int .i64 1) := cell_of_row _ _ _ _ _ (0, 0) HB7.out.r1
          have c1_1 : w7.cell? ⟨gl, 1, none⟩ = some (.int .i64 2) := cell_of_row _ _ _ _ _ (0, 0) HB7.out.r1
          have c1_2 : w7.cell? ⟨gl, 2, none⟩ = some (.int .i64 3) := cell_of_row _ _ _ _ _ (0, 0) HB7.out.r1
          have c2_0 : w7.cell? ⟨gs, 0, none⟩ = some (.int .i64 f) := cell_of_row _ _ _ _ _ (0, 0) HB7.out.r2
          have c2_1 : w7.cell? ⟨gs, 1, none⟩ = some (.int .i64 f) := cell_of_row _ _ _ _ _ (0, 0) HB7.out.r2
          have c2_2 : w7.cell? ⟨gs, 2, none⟩ = some (.int .i64 0) := cell_of_row _ _ _ _ _ (0, 0) HB7.out.r2
          have c2_3 : w7.cell? ⟨gs, 3, none⟩ = some (.int .i64 0) := cell_of_row _ _ _ _ _ (0, 0) HB7.out.r2
          have c2_4 : w7.cell? ⟨gs, 4, none⟩ = some (.int .i64 1) := cell_of_row _ _ _ _ _ (0, 0) HB7.out.r2
          have c2_5 : w7.cell? ⟨gs, 5, none⟩ = some (.int .i64 q) := cell_of_row _ _ _ _ _ (0, 0) HB7.out.r2
          have c3_0 : w7.cell? ⟨w.heap.size, 0, none⟩ = some (.int .u8 x) := cell_of_row _ _ _ _ _ (0, 0) HB7.out.r3
          have c3_1 : w7.cell? ⟨w.heap.size, 1, none⟩ = some (.int .u8 y) := cell_of_row _ _ _ _ _ (0, 0) HB7.out.r3
          go_wp2_with fail
          refine (FR.out _).mono ?_
          rintro e w8 ⟨rfl, hb8⟩
          have HB8 := Lib.hid (HB7.out.next hb8)
          clear c0_0 c0_1 c0_2 c0_3 c0_4 c0_5 c1_0 c1_1 c1_2 c2_0 c2_1 c2_2 c2_3 c2_4 c2_5 c3_0 c3_1 hb8 HB7
          have c0_0 : w8.cell? ⟨gw, 0, none⟩ = some (.int .i64 f) := cell_of_row _ _ _ _ _ (0, 0) HB8.out.r0
          have c0_1 : w8.cell? ⟨gw, 1, none⟩ = some (.int .i64 f) := cell_of_row _ _ _ _ _ (0, 0) HB8.out.r0
          have c0_2 : w8.cell? ⟨gw, 2, none⟩ = some (.int .i64 0) := cell_of_row _ _ _ _ _ (0, 0) HB8.out.r0
          have c0_3 : w8.cell? ⟨gw, 3, none⟩ = some (.int .i64 2) := cell_of_row _ _ _ _ _ (0, 0) HB8.out.r0
          have c0_4 : w8.cell? ⟨gw, 4, none⟩ = some (.int .i64 0) := cell_of_row _ _ _ _ _ (0, 0) HB8.out.r0
          have c0_5 : w8.cell? ⟨gw, 5, none⟩ = some (.int .i64 0) := cell_of_row _ _ _ _ _ (0, 0) HB8.out.r0
          have c1_0 : w8.cell? ⟨gl, 0, none⟩ = some (.int .i64 1) := cell_of_row _ _ _ _ _ (0, 0) HB8.out.r1
          have c1_1 : w8.cell? ⟨gl, 1, none⟩ = some (.int .i64 2) := cell_of_row _ _ _ _ _ (0, 0) HB8.out.r1
          have c1_2 : w8.cell? ⟨gl, 2, none⟩ = some (.int .i64 3) := cell_of_row _ _ _ _ _ (0, 0) HB8.out.r1
          have c2_0 : w8.cell? ⟨gs, 0, none⟩ = some (.int .i64 f) := cell_of_row _ _ _ _ _ (0, 0) HB8.out.r2
          have c2_1 : w8.cell? ⟨gs, 1, none⟩ = some (.int .i64 f) := cell_of_row _ _ _ _ _ (0, 0) HB8.out.r2
          have c2_2 : w8.cell? ⟨gs, 2, none⟩ = some (.int .i64 0) := cell_of_row _ _ _ _ _ (0, 0) HB8.out.r2
          have c2_3 : w8.cell? ⟨gs, 3, none⟩ = some (.int .i64 0) := cell_of_row _ _ _ _ _ (0, 0) HB8.out.r2
          have c2_4 : w8.cell? ⟨gs, 4, none⟩ = some (.int .i64 1) := cell_of_row _ _ _ _ _ (0, 0) HB8.out.r2
          have c2_5 : w8.cell? ⟨gs, 5, none⟩ = some (.int .i64 q) := cell_of_row _ _ _ _ _ (0, 0) HB8.out.r2
          have c3_0 : w8.cell? ⟨w.heap.size, 0, none⟩ = some (.int .u8 x) := cell_of_row _ _ _ _ _ (0, 0) HB8.out.r3
          have c3_1 : w8.cell? ⟨w.heap.size, 1, none⟩ = some (.int .u8 y) := cell_of_row _ _ _ _ _ (0, 0) HB8.out.r3
          go_wp2_with (with_reducible show wpList _ _ _ (Oper.mk _ (.store 32 _ _) _ _ _ _ :: _) _ _; refine Hid.out ?_)
          refine Lib.hid ?_
          have l9_0 : gw < w8.heap.size := (Array.getElem?_eq_some_iff.1 HB8.out.r0).1
          have l9_1 : gl < w8.heap.size := (Array.getElem?_eq_some_iff.1 HB8.out.r1).1
          have l9_2 : gs < w8.heap.size := (Array.getElem?_eq_some_iff.1 HB8.out.r2).1
          have l9_3 : w.heap.size < w8.heap.size := (Array.getElem?_eq_some_iff.1 HB8.out.r3).1
          have lw9 : w.heap.size ≤ w8.heap.size := HB8.out.below.size
          refine wpList_put rfl 32 _ _ rfl w8.heap.size #[.int .i64 f, .bool true, .int .i64 0, .bool false] _ 32 rfl rfl (heap_alloc_new w8 _) (by kernel_rfl) rfl (by kernel_rfl) ?_
          intro w9 hr9 hg9
          have HB9 : Hid (Bx w [(w8.heap.size, .cells #[.int .i64 f, .bool true, .int .i64 0, .bool false] 32 (0, 0)), (gw, .cells #[.int .i64 f, .int .i64 f, .int .i64 0, .int .i64 2, .int .i64 0, .int .i64 0] 23 (0, 0)), (gl, .cells #[.int .i64 1, .int .i64 2, .int .i64 3] 3 (0, 0)), (gs, .cells #[.int .i64 f, .int .i64 f, .int .i64 0, .int .i64 0, .int .i64 1, .int .i64 q] 23 (0, 0)), (w.heap.size, .cells #[.int .u8 x, .int .u8 y] 36 (0, 0))] w9) := Lib.hid ((HB8.out.make (heap_alloc_new w8 (.cells #[.int .i64 0, .bool false, .int .i64 0, .bool false] 32)) ((Below.refl w8.heap.size w8).alloc (Nat.le_refl _) _)).put HB8.out.below.size hg9.out hr9.out (by simp only [List.mem_cons, List.not_mem_nil, or_false]; rintro p (rfl | rfl | rfl | rfl | rfl) <;> simp <;> omega))
          clear c0_0 c0_1 c0_2 c0_3 c0_4 c0_5 c1_0 c1_1 c1_2 c2_0 c2_1 c2_2 c2_3 c2_4 c2_5 c3_0 c3_1 hr9 hg9 HB8
          generalize w8.heap.size = gf at *
          have c0_0 : w9.cell? ⟨gf, 0, none⟩ = some (.int .i64 f) := cell_of_row _ _ _ _ _ (0, 0) HB9.out.r0
          have c0_1 : w9.cell? ⟨gf, 1, none⟩ = some (.bool true) := cell_of_row _ _ _ _ _ (0, 0) HB9.out.r0
          have c0_2 : w9.cell? ⟨gf, 2, none⟩ = some (.int .i64 0) := cell_of_row _ _ _ _ _ (0, 0) HB9.out.r0
          have c0_3 : w9.cell? ⟨gf, 3, none⟩ = some (.bool false) := cell_of_row _ _ _ _ _ (0, 0) HB9.out.r0
          have c1_0 : w9.cell? ⟨gw, 0, none⟩ = some (.int .i64 f) := cell_of_row _ _ _ _ _ (0, 0) HB9.out.r1
          have c1_1 : w9.cell? ⟨gw, 1, none⟩ = some (.int .i64 f) := cell_of_row _ _ _ _ _ (0, 0) HB9.out.r1
          have c1_2 : w9.cell? ⟨gw, 2, none⟩ = some (.int .i64 0) := cell_of_row _ _ _ _ _ (0, 0) HB9.out.r1
          have c1_3 : w9.cell? ⟨gw, 3, none⟩ = some (.int .i64 2) := cell_of_row _ _ _ _ _ (0, 0) HB9.out.r1
          have c1_4 : w9.cell? ⟨gw, 4, none⟩ = some (.int .i64 0) := cell_of_row _ _ _ _ _ (0, 0) HB9.out.r1
          have c1_5 : w9.cell? ⟨gw, 5, none⟩ = some (.int .i64 0) := cell_of_row _ _ _ _ _ (0, 0) HB9.out.r1
          have c2_0 : w9.cell? ⟨gl, 0, none⟩ = some (.int .i64 1) := cell_of_row _ _ _ _ _ (0, 0) HB9.out.r2
          have c2_1 : w9.cell? ⟨gl, 1, none⟩ = some (.int .i64 2) := cell_of_row _ _ _ _ _ (0, 0) HB9.out.r2
          have c2_2 : w9.cell? ⟨gl, 2, none⟩ = some (.int .i64 3) := cell_of_row _ _ _ _ _ (0, 0) HB9.out.r2
          have c3_0 : w9.cell? ⟨gs, 0, none⟩ = some (.int .i64 f) := cell_of_row _ _ _ _ _ (0, 0) HB9.out.r3
          have c3_1 : w9.cell? ⟨gs, 1, none⟩ = some (.int .i64 f) := cell_of_row _ _ _ _ _ (0, 0) HB9.out.r3
          have c3_2 : w9.cell? ⟨gs, 2, none⟩ = some (.int .i64 0) := cell_of_row _ _ _ _ _ (0, 0) HB9.out.r3
          have c3_3 : w9.cell? ⟨gs, 3, none⟩ = some (.int .i64 0) := cell_of_row _ _ _ _ _ (0, 0) HB9.out.r3
          have c3_4 : w9.cell? ⟨gs, 4, none⟩ = some (.int .i64 1) := cell_of_row _ _ _ _ _ (0, 0) HB9.out.r3
          have c3_5 : w9.cell? ⟨gs, 5, none⟩ = some (.int .i64 q) := cell_of_row _ _ _ _ _ (0, 0) HB9.out.r3
          have c4_0 : w9.cell? ⟨w.heap.size, 0, none⟩ = some (.int .u8 x) := cell_of_row _ _ _ _ _ (0, 0) HB9.out.r4
          have c4_1 : w9.cell? ⟨w.heap.size, 1, none⟩ = some (.int .u8 y) := cell_of_row _ _ _ _ _ (0, 0) HB9.out.r4
          go_wp2_with fail
          go_roundw
          case rel => exact ⟨j + 1, _, by go_num, by omega, HX.out.symm, (HB9.out.less (by simp only [List.mem_cons, List.not_mem_nil, or_false]; rintro p (rfl | rfl | rfl | rfl) <;> simp))⟩
          case measure => simp [intOf]; have := HK.out; omega
        · have hKj : K = j + 1 := by omega
          have hX : Rg.openAt f K ((j : Int) + 1) = ⟨f, f, 0, 1, 0, 0⟩ := by unfold Rg.openAt; rw [if_neg (by omega), if_neg (by omega)]
          rw [hX] at FS
          have FR := Lib.hid (fun wx => rigReport_any ⟨f, f, 0, 1, 0, 0⟩ false wx)
          have hik : ((j : Int) + 1 == (K : Int)) = true := by simp only [beq_iff_eq]; omega
          rw [show (Rg.report ⟨f, f, 0, 1, 0, 0⟩ false).agg = .agg #[.int .i64 (f), .bool true, .int .i64 1, .bool false] from rfl] at FR
          have qn := fun wx => neqRg ⟨f, f, 0, 1, 0, 0⟩ ⟨f, f, 0, 2, 0, 0⟩ wx
          rw [show Rg.eqB ⟨f, f, 0, 1, 0, 0⟩ ⟨f, f, 0, 2, 0, 0⟩ = false by cases hq : Rg.eqB ⟨f, f, 0, 1, 0, 0⟩ ⟨f, f, 0, 2, 0, 0⟩; rfl; have := (Rg.eqB_iff _ _).1 hq; simp at this] at qn
          simp only [Rg.agg] at FS FR qn
          have HX := Lib.hid hX
          clear hX hend hKj
          have c0_0 : wr.cell? ⟨gw, 0, none⟩ = some (.int .i64 f) := cell_of_row _ _ _ _ _ (0, 0) HBR.out.r0
          have c0_1 : wr.cell? ⟨gw, 1, none⟩ = some (.int .i64 f) := cell_of_row _ _ _ _ _ (0, 0) HBR.out.r0
          have c0_2 : wr.cell? ⟨gw, 2, none⟩ = some (.int .i64 0) := cell_of_row _ _ _ _ _ (0, 0) HBR.out.r0
          have c0_3 : wr.cell? ⟨gw, 3, none⟩ = some (.int .i64 2) := cell_of_row _ _ _ _ _ (0, 0) HBR.out.r0
          have c0_4 : wr.cell? ⟨gw, 4, none⟩ = some (.int .i64 0) := cell_of_row _ _ _ _ _ (0, 0) HBR.out.r0
          have c0_5 : wr.cell? ⟨gw, 5, none⟩ = some (.int .i64 0) := cell_of_row _ _ _ _ _ (0, 0) HBR.out.r0
          have c1_0 : wr.cell? ⟨gl, 0, none⟩ = some (.int .i64 1) := cell_of_row _ _ _ _ _ (0, 0) HBR.out.r1
          have c1_1 : wr.cell? ⟨gl, 1, none⟩ = some (.int .i64 2) := cell_of_row _ _ _ _ _ (0, 0) HBR.out.r1
          have c1_2 : wr.cell? ⟨gl, 2, none⟩ = some (.int .i64 3) := cell_of_row _ _ _ _ _ (0, 0) HBR.out.r1
          have c2_0 : wr.cell? ⟨gs, 0, none⟩ = some (.int .i64 s1) := cell_of_row _ _ _ _ _ (0, 0) HBR.out.r2
          have c2_1 : wr.cell? ⟨gs, 1, none⟩ = some (.int .i64 s2) := cell_of_row _ _ _ _ _ (0, 0) HBR.out.r2
          have c2_2 : wr.cell? ⟨gs, 2, none⟩ = some (.int .i64 s3) := cell_of_row _ _ _ _ _ (0, 0) HBR.out.r2
          have c2_3 : wr.cell? ⟨gs, 3, none⟩ = some (.int .i64 s4) := cell_of_row _ _ _ _ _ (0, 0) HBR.out.r2
          have c2_4 : wr.cell? ⟨gs, 4, none⟩ = some (.int .i64 s5) := cell_of_row _ _ _ _ _ (0, 0) HBR.out.r2
          have c2_5 : wr.cell? ⟨gs, 5, none⟩ = some (.int .i64 s6) := cell_of_row _ _ _ _ _ (0, 0) HBR.out.r2
          have c3_0 : wr.cell? ⟨w.heap.size, 0, none⟩ = some (.int .u8 x) := cell_of_row _ _ _ _ _ (0, 0) HBR.out.r3
          have c3_1 : wr.cell? ⟨w.heap.size, 1, none⟩ = some (.int .u8 y) := cell_of_row _ _ _ _ _ (0, 0) HBR.out.r3
          go_wp2_with fail
          refine (FS.out _).mono ?_
          rintro e w6 ⟨rfl, hb6⟩
          have HB6 := Lib.hid (HBR.out.next hb6)
          clear c0_0 c0_1 c0_2 c0_3 c0_4 c0_5 c1_0 c1_1 c1_2 c2_0 c2_1 c2_2 c2_3 c2_4 c2_5 c3_0 c3_1 hb6 HBR
          have c0_0 : w6.cell? ⟨gw, 0, none⟩ = some (.int .i64 f) := cell_of_row _ _ _ _ _ (0, 0) HB6.out.r0
          have c0_1 : w6.cell? ⟨gw, 1, none⟩ = some (.int .i64 f) := cell_of_row _ _ _ _ _ (0, 0) HB6.out.r0
          have c0_2 : w6.cell? ⟨gw, 2, none⟩ = some (.int .i64 0) := cell_of_row _ _ _ _ _ (0, 0) HB6.out.r0
          have c0_3 : w6.cell? ⟨gw, 3, none⟩ = some (.int .i64 2) := cell_of_row _ _ _ _ _ (0, 0) HB6.out.r0
          have c0_4 : w6.cell? ⟨gw, 4, none⟩ = some (.int .i64 0) := cell_of_row _ _ _ _ _ (0, 0) HB6.out.r0
          have c0_5 : w6.cell? ⟨gw, 5, none⟩ = some (.int .i64 0) := cell_of_row _ _ _ _ _ (0, 0) HB6.out.r0
          have c1_0 : w6.cell? ⟨gl, 0, none⟩ = some (.int .i64 1) := cell_of_row _ _ _ _ _ (0, 0) HB6.out.r1
          have c1_1 : w6.cell? ⟨gl, 1, none⟩ = some (.int .i64 2) := cell_of_row _ _ _ _ _ (0, 0) HB6.out.r1
          have c1_2 : w6.cell? ⟨gl, 2, none⟩ = some (.int .i64 3) := cell_of_row _ _ _ _ _ (0, 0) HB6.out.r1
          have c2_0 : w6.cell? ⟨gs, 0, none⟩ = some (.int .i64 s1) := cell_of_row _ _ _ _ _ (0, 0) HB6.out.r2
          have c2_1 : w6.cell? ⟨gs, 1, none⟩ = some (.int .i64 s2) := cell_of_row _ _ _ _ _ (0, 0) HB6.out.r2
          have c2_2 : w6.cell? ⟨gs, 2, none⟩ = some (.int .i64 s3) := cell_of_row _ _ _ _ _ (0, 0) HB6.out.r2
          have c2_3 : w6.cell? ⟨gs, 3, none⟩ = some (.int .i64 s4) := cell_of_row _ _ _ _ _ (0, 0) HB6.out.r2
          have c2_4 : w6.cell? ⟨gs, 4, none⟩ = some (.int .i64 s5) := cell_of_row _ _ _ _ _ (0, 0) HB6.out.r2
          have c2_5 : w6.cell? ⟨gs, 5, none⟩ = some (.int .i64 s6) := cell_of_row _ _ _ _ _ (0, 0) HB6.out.r2
          have c3_0 : w6.cell? ⟨w.heap.size, 0, none⟩ = some (.int .u8 x) := cell_of_row _ _ _ _ _ (0, 0) HB6.out.r3
          have c3_1 : w6.cell? ⟨w.heap.size, 1, none⟩ = some (.int .u8 y) := cell_of_row _ _ _ _ _ (0, 0) HB6.out.r3
          go_wp2_with (with_reducible show wpList _ _ _ (Oper.mk _ (.store 23 _ _) _ _ _ _ :: _) _ _; refine Hid.out ?_)
          refine Lib.hid ?_
          refine wpList_put rfl 23 _ _ rfl (gs) #[.int .i64 f, .int .i64 f, .int .i64 0, .int .i64 1, .int .i64 0, .int .i64 0] _ 23 rfl rfl HB6.out.r2 (by kernel_rfl) rfl (by kernel_rfl) ?_
          intro w7 hr7 hg7
          have HB7 : Hid (Bx w [(gw, .cells #[.int .i64 f, .int .i64 f, .int .i64 0, .int .i64 2, .int .i64 0, .int .i64 0] 23 (0, 0)), (gl, .cells #[.int .i64 1, .int .i64 2, .int .i64 3] 3 (0, 0)), (gs, .cells #[.int .i64 f, .int .i64 f, .int .i64 0, .int .i64 1, .int .i64 0, .int .i64 0] 23 (0, 0)), (w.heap.size, .cells #[.int .u8 x, .int .u8 y] 36 (0, 0))] w7) := Lib.hid (HB6.out.put (by omega) hg7.out hr7.out (by simp only [List.mem_cons, List.not_mem_nil, or_false]; rintro p (rfl | rfl | rfl | rfl) <;> simp <;> omega))
          clear c0_0 c0_1 c0_2 c0_3 c0_4 c0_5 c1_0 c1_1 c1_2 c2_0 c2_1 c2_2 c2_3 c2_4 c2_5 c3_0 c3_1 hr7 hg7 HB6
          have c0_0 : w7.cell? ⟨gw, 0, none⟩ = some (.int .i64 f) := cell_of_row _ _ _ _ _ (0, 0) HB7.out.r0
          have c0_1 : w7.cell? ⟨gw, 1, none⟩ = some (.int .i64 f) := cell_of_row _ _ _ _ _ (0, 0) HB7.out.r0
          have c0_2 : w7.cell? ⟨gw, 2, none⟩ = some (.int .i64 0) := cell_of_row _ _ _ _ _ (0, 0) HB7.out.r0
          have c0_3 : w7.cell? ⟨gw, 3, none⟩ = some (.int .i64 2) := cell_of_row _ _ _ _ _ (0, 0) HB7.out.r0
          have c0_4 : w7.cell? ⟨gw, 4, none⟩ = some (.int .i64 0) := cell_of_row _ _ _ _ _ (0, 0) HB7.out.r0
          have c0_5 : w7.cell? ⟨gw, 5, none⟩ = some (.int .i64 0) := cell_of_row _ _ _ _ _ (0, 0) HB7.out.r0
          have c1_0 : w7.cell? ⟨gl, 0, none⟩ = some (.int .i64 1) := cell_of_row _ _ _ _ _ (0, 0) HB7.out.r1
          have c1_1 : w7.cell? ⟨gl, 1, none⟩ = some (.int .i64 2) := cell_of_row _ _ _ _ _ (0, 0) HB7.out.r1
          have c1_2 : w7.cell? ⟨gl, 2, none⟩ = some (.int .i64 3) := cell_of_row _ _ _ _ _ (0, 0) HB7.out.r1
          have c2_0 : w7.cell? ⟨gs, 0, none⟩ = some (.int .i64 f) := cell_of_row _ _ _ _ _ (0, 0) HB7.out.r2
          have c2_1 : w7.cell? ⟨gs, 1, none⟩ = some (.int .i64 f) := cell_of_row _ _ _ _ _ (0, 0) HB7.out.r2
          have c2_2 : w7.cell? ⟨gs, 2, none⟩ = some (.int .i64 0) := cell_of_row _ _ _ _ _ (0, 0) HB7.out.r2
          have c2_3 : w7.cell? ⟨gs, 3, none⟩ = some (.int .i64 1) := cell_of_row _ _ _ _ _ (0, 0) HB7.out.r2
          have c2_4 : w7.cell? ⟨gs, 4, none⟩ = some (.int .i64 0) := cell_of_row _ _ _ _ _ (0, 0) HB7.out.r2
          have c2_5 : w7.cell? ⟨gs, 5, none⟩ = some (.int .i64 0) := cell_of_row _ _ _ _ _ (0, 0) HB7.out.r2
          have c3_0 : w7.cell? ⟨w.heap.size, 0, none⟩ = some (.int .u8 x) := cell_of_row _ _ _ _ _ (0, 0) HB7.out.r3
          have c3_1 : w7.cell? ⟨w.heap.size, 1, none⟩ = some (.int .u8 y) := cell_of_row _ _ _ _ _ (0, 0) HB7.out.r3
          go_wp2_with fail
          refine (FR.out _).mono ?_
          rintro e w8 ⟨rfl, hb8⟩
          have HB8 := Lib.hid (HB7.out.next hb8)
          clear c0_0 c0_1 c0_2 c0_3 c0_4 c0_5 c1_0 c1_1 c1_2 c2_0 c2_1 c2_2 c2_3 c2_4 c2_5 c3_0 c3_1 hb8 HB7
          have c0_0 : w8.cell? ⟨gw, 0, none⟩ = some (.int .i64 f) := cell_of_row _ _ _ _ _ (0, 0) HB8.out.r0
          have c0_1 : w8.cell? ⟨gw, 1, none⟩ = some (.int .i64 f) := cell_of_row _ _ _ _ _ (0, 0) HB8.out.r0
          have c0_2 : w8.cell? ⟨gw, 2, none⟩ = some (.int .i64 0) := cell_of_row _ _ _ _ _ (0, 0) HB8.out.r0
          have c0_3 : w8.cell? ⟨gw, 3, none⟩ = some (.int .i64 2) := cell_of_row _ _ _ _ _ (0, 0) HB8.out.r0
          have c0_4 : w8.cell? ⟨gw, 4, none⟩ = some (.int .i64 0) := cell_of_row _ _ _ _ _ (0, 0) HB8.out.r0
          have c0_5 : w8.cell? ⟨gw, 5, none⟩ = some (.int .i64 0) := cell_of_row _ _ _ _ _ (0, 0) HB8.out.r0
          have c1_0 : w8.cell? ⟨gl, 0, none⟩ = some (.int .i64 1) := cell_of_row _ _ _ _ _ (0, 0) HB8.out.r1
          have c1_1 : w8.cell? ⟨gl, 1, none⟩ = some (.int .i64 2) := cell_of_row _ _ _ _ _ (0, 0) HB8.out.r1
          have c1_2 : w8.cell? ⟨gl, 2, none⟩ = some (.int .i64 3) := cell_of_row _ _ _ _ _ (0, 0) HB8.out.r1
          have c2_0 : w8.cell? ⟨gs, 0, none⟩ = some (.int .i64 f) := cell_of_row _ _ _ _ _ (0, 0) HB8.out.r2
          have c2_1 : w8.cell? ⟨gs, 1, none⟩ = some (.int .i64 f) := cell_of_row _ _ _ _ _ (0, 0) HB8.out.r2
          have c2_2 : w8.cell? ⟨gs, 2, none⟩ = some (.int .i64 0) := cell_of_row _ _ _ _ _ (0, 0) HB8.out.r2
          have c2_3 : w8.cell? ⟨gs, 3, none⟩ = some (.int .i64 1) := cell_of_row _ _ _ _ _ (0, 0) HB8.out.r2
          have c2_4 : w8.cell? ⟨gs, 4, none⟩ = some (.int .i64 0) := cell_of_row _ _ _ _ _ (0, 0) HB8.out.r2
          have c2_5 : w8.cell? ⟨gs, 5, none⟩ = some (.int .i64 0) := cell_of_row _ _ _ _ _ (0, 0) HB8.out.r2
          have c3_0 : w8.cell? ⟨w.heap.size, 0, none⟩ = some (.int .u8 x) := cell_of_row _ _ _ _ _ (0, 0) HB8.out.r3
          have c3_1 : w8.cell? ⟨w.heap.size, 1, none⟩ = some (.int .u8 y) := cell_of_row _ _ _ _ _ (0, 0) HB8.out.r3
          go_wp2_with (with_reducible show wpList _ _ _ (Oper.mk _ (.store 32 _ _) _ _ _ _ :: _) _ _; refine Hid.out ?_)
          refine Lib.hid ?_
          have l9_0 : gw < w8.heap.size := (Array.getElem?_eq_some_iff.1 HB8.out.r0).1
          have l9_1 : gl < w8.heap.size := (Array.getElem?_eq_some_iff.1 HB8.out.r1).1
          have l9_2 : gs < w8.heap.size := (Array.getElem?_eq_some_iff.1 HB8.out.r2).1
          have l9_3 : w.heap.size < w8.heap.size := (Array.getElem?_eq_some_iff.1 HB8.out.r3).1
          have lw9 : w.heap.size ≤ w8.heap.size := HB8.out.below.size
          refine wpList_put rfl 32 _ _ rfl w8.heap.size #[.int .i64 (f), .bool true, .int .i64 1, .bool false] _ 32 rfl rfl (heap_alloc_new w8 _) (by kernel_rfl) rfl (by kernel_rfl) ?_
          intro w9 hr9 hg9
          have HB9 : Hid (Bx w [(w8.heap.size, .cells #[.int .i64 (f), .bool true, .int .i64 1, .bool false] 32 (0, 0)), (gw, .cells #[.int .i64 f, .int .i64 f, .int .i64 0, .int .i64 2, .int .i64 0, .int .i64 0] 23 (0, 0)), (gl, .cells #[.int .i64 1, .int .i64 2, .int .i64 3] 3 (0, 0)), (gs, .cells #[.int .i64 f, .int .i64 f, .int .i64 0, .int .i64 1, .int .i64 0, .int .i64 0] 23 (0, 0)), (w.heap.size, .cells #[.int .u8 x, .int .u8 y] 36 (0, 0))] w9) := Lib.hid ((HB8.out.make (heap_alloc_new w8 (.cells #[.int .i64 0, .bool false, .int .i64 0, .bool false] 32)) ((Below.refl w8.heap.size w8).alloc (Nat.le_refl _) _)).put HB8.out.below.size hg9.out hr9.out (by simp only [List.mem_cons, List.not_mem_nil, or_false]; rintro p (rfl | rfl | rfl | rfl | rfl) <;> simp <;> omega))
          clear c0_0 c0_1 c0_2 c0_3 c0_4 c0_5 c1_0 c1_1 c1_2 c2_0 c2_1 c2_2 c2_3 c2_4 c2_5 c3_0 c3_1 hr9 hg9 HB8
          generalize w8.heap.size = gf at *
          have c0_0 : w9.cell? ⟨gf, 0, none⟩ = some (.int .i64 (f)) := cell_of_row _ _ _ _ _ (0, 0) HB9.out.r0
          have c0_1 : w9.cell? ⟨gf, 1, none⟩ = some (.bool true) := cell_of_row _ _ _ _ _ (0, 0) HB9.out.r0
          have c0_2 : w9.cell? ⟨gf, 2, none⟩ = some (.int .i64 1) := cell_of_row _ _ _ _ _ (0, 0) HB9.out.r0
          have c0_3 : w9.cell? ⟨gf, 3, none⟩ = some (.bool false) := cell_of_row _ _ _ _ _ (0, 0) HB9.out.r0
          have c1_0 : w9.cell? ⟨gw, 0, none⟩ = some (.int .i64 f) := cell_of_row _ _ _ _ _ (0, 0) HB9.out.r1
          have c1_1 : w9.cell? ⟨gw, 1, none⟩ = some (.int .i64 f) := cell_of_row _ _ _ _ _ (0, 0) HB9.out.r1
          have c1_2 : w9.cell? ⟨gw, 2, none⟩ = some (.int .i64 0) := cell_of_row _ _ _ _ _ (0, 0) HB9.out.r1
          have c1_3 : w9.cell? ⟨gw, 3, none⟩ = some (.int .i64 2) := cell_of_row _ _ _ _ _ (0, 0) HB9.out.r1
          have c1_4 : w9.cell? ⟨gw, 4, none⟩ = some (.int .i64 0) := cell_of_row _ _ _ _ _ (0, 0) HB9.out.r1
          have c1_5 : w9.cell? ⟨gw, 5, none⟩ = some (.int .i64 0) := cell_of_row _ _ _ _ _ (0, 0) HB9.out.r1
          have c2_0 : w9.cell? ⟨gl, 0, none⟩ = some (.int .i64 1) := cell_of_row _ _ _ _ _ (0, 0) HB9.out.r2
          have c2_1 : w9.cell? ⟨gl, 1, none⟩ = some (.int .i64 2) := cell_of_row _ _ _ _ _ (0, 0) HB9.out.r2
          have c2_2 : w9.cell? ⟨gl, 2, none⟩ = some (.int .i64 3) := cell_of_row _ _ _ _ _ (0, 0) HB9.out.r2
          have c3_0 : w9.cell? ⟨gs, 0, none⟩ = some (.int .i64 f) := cell_of_row _ _ _ _ _ (0, 0) HB9.out.r3
          have c3_1 : w9.cell? ⟨gs, 1, none⟩ = some (.int .i64 f) := cell_of_row _ _ _ _ _ (0, 0) HB9.out.r3
          have c3_2 : w9.cell? ⟨gs, 2, none⟩ = some (.int .i64 0) := cell_of_row _ _ _ _ _ (0, 0) HB9.out.r3
          have c3_3 : w9.cell? ⟨gs, 3, none⟩ = some (.int .i64 1) := cell_of_row _ _ _ _ _ (0, 0) HB9.out.r3
          have c3_4 : w9.cell? ⟨gs, 4, none⟩ = some (.int .i64 0) := cell_of_row _ _ _ _ _ (0, 0) HB9.out.r3
          have c3_5 : w9.cell? ⟨gs, 5, none⟩ = some (.int .i64 0) := cell_of_row _ _ _ _ _ (0, 0) HB9.out.r3
          have c4_0 : w9.cell? ⟨w.heap.size, 0, none⟩ = some (.int .u8 x) := cell_of_row _ _ _ _ _ (0, 0) HB9.out.r4
          have c4_1 : w9.cell? ⟨w.heap.size, 1, none⟩ = some (.int .u8 y) := cell_of_row _ _ _ _ _ (0, 0) HB9.out.r4
          go_wp2_with fail
          go_roundw
          case rel => exact ⟨j + 1, _, by go_num, by omega, HX.out.symm, (HB9.out.less (by simp only [List.mem_cons, List.not_mem_nil, or_false]; rintro p (rfl | rfl | rfl | rfl) <;> simp))⟩
          case measure => simp [intOf]; have := HK.out; omega
      · obtain rfl : j = K := by omega
        have hX : s = ⟨f, f, 0, 1, 0, 0⟩ := by rw [hs]; unfold Rg.openAt; have := HK.out; rw [if_neg (by omega), if_neg (by omega)]
        subst hX
        simp only at hbr
        have HBR := Lib.hid hbr
        clear hbr hs hlt
        have hlti : ¬ (j : Int) + 1 ≤ (j : Int) := by omega
        have hltB : decide ((j : Int) + 1 ≤ (j : Int)) = false := decide_eq_false hlti
        have c0_0 : wr.cell? ⟨gw, 0, none⟩ = some (.int .i64 f) := cell_of_row _ _ _ _ _ (0, 0) HBR.out.r0
        have c0_1 : wr.cell? ⟨gw, 1, none⟩ = some (.int .i64 f) := cell_of_row _ _ _ _ _ (0, 0) HBR.out.r0
        have c0_2 : wr.cell? ⟨gw, 2, none⟩ = some (.int .i64 0) := cell_of_row _ _ _ _ _ (0, 0) HBR.out.r0
        have c0_3 : wr.cell? ⟨gw, 3, none⟩ = some (.int .i64 2) := cell_of_row _ _ _ _ _ (0, 0) HBR.out.r0
        have c0_4 : wr.cell? ⟨gw, 4, none⟩ = some (.int .i64 0) := cell_of_row _ _ _ _ _ (0, 0) HBR.out.r0
        have c0_5 : wr.cell? ⟨gw, 5, none⟩ = some (.int .i64 0) := cell_of_row _ _ _ _ _ (0, 0) HBR.out.r0
        have c1_0 : wr.cell? ⟨gl, 0, none⟩ = some (.int .i64 1) := cell_of_row _ _ _ _ _ (0, 0) HBR.out.r1
        have c1_1 : wr.cell? ⟨gl, 1, none⟩ = some (.int .i64 2) := cell_of_row _ _ _ _ _ (0, 0) HBR.out.r1
        have c1_2 : wr.cell? ⟨gl, 2, none⟩ = some (.int .i64 3) := cell_of_row _ _ _ _ _ (0, 0) HBR.out.r1
        have c2_0 : wr.cell? ⟨gs, 0, none⟩ = some (.int .i64 f) := cell_of_row _ _ _ _ _ (0, 0) HBR.out.r2
        have c2_1 : wr.cell? ⟨gs, 1, none⟩ = some (.int .i64 f) := cell_of_row _ _ _ _ _ (0, 0) HBR.out.r2
        have c2_2 : wr.cell? ⟨gs, 2, none⟩ = some (.int .i64 0) := cell_of_row _ _ _ _ _ (0, 0) HBR.out.r2
        have c2_3 : wr.cell? ⟨gs, 3, none⟩ = some (.int .i64 1) := cell_of_row _ _ _ _ _ (0, 0) HBR.out.r2
        have c2_4 : wr.cell? ⟨gs, 4, none⟩ = some (.int .i64 0) := cell_of_row _ _ _ _ _ (0, 0) HBR.out.r2
        have c2_5 : wr.cell? ⟨gs, 5, none⟩ = some (.int .i64 0) := cell_of_row _ _ _ _ _ (0, 0) HBR.out.r2
        have c3_0 : wr.cell? ⟨w.heap.size, 0, none⟩ = some (.int .u8 x) := cell_of_row _ _ _ _ _ (0, 0) HBR.out.r3
        have c3_1 : wr.cell? ⟨w.heap.size, 1, none⟩ = some (.int .u8 y) := cell_of_row _ _ _ _ _ (0, 0) HBR.out.r3
        go_wp2_with fail
        refine (FN.out _).mono ?_
        rintro e w81 ⟨rfl, hb81⟩
        have HB81 := Lib.hid (HBR.out.next hb81)
        clear c0_0 c0_1 c0_2 c0_3 c0_4 c0_5 c1_0 c1_1 c1_2 c2_0 c2_1 c2_2 c2_3 c2_4 c2_5 c3_0 c3_1 hb81 HBR
        have c0_0 : w81.cell? ⟨gw, 0, none⟩ = some (.int .i64 f) := cell_of_row _ _ _ _ _ (0, 0) HB81.out.r0
        have c0_1 : w81.cell? ⟨gw, 1, none⟩ = some (.int .i64 f) := cell_of_row _ _ _ _ _ (0, 0) HB81.out.r0
        have c0_2 : w81.cell? ⟨gw, 2, none⟩ = some (.int .i64 0) := cell_of_row _ _ _ _ _ (0, 0) HB81.out.r0
        have c0_3 : w81.cell? ⟨gw, 3, none⟩ = some (.int .i64 2) := cell_of_row _ _ _ _ _ (0, 0) HB81.out.r0
        have c0_4 : w81.cell? ⟨gw, 4, none⟩ = some (.int .i64 0) := cell_of_row _ _ _ _ _ (0, 0) HB81.out.r0
        have c0_5 : w81.cell? ⟨gw, 5, none⟩ = some (.int .i64 0) := cell_of_row _ _ _ _ _ (0, 0) HB81.out.r0
        have c1_0 : w81.cell? ⟨gl, 0, none⟩ = some (.int .i64 1) := cell_of_row _ _ _ _ _ (0, 0) HB81.out.r1
        have c1_1 : w81.cell? ⟨gl, 1, none⟩ = some (.int .i64 2) := cell_of_row _ _ _ _ _ (0, 0) HB81.out.r1
        have c1_2 : w81.cell? ⟨gl, 2, none⟩ = some (.int .i64 3) := cell_of_row _ _ _ _ _ (0, 0) HB81.out.r1
        have c2_0 : w81.cell? ⟨gs, 0, none⟩ = some (.int .i64 f) := cell_of_row _ _ _ _ _ (0, 0) HB81.out.r2
        have c2_1 : w81.cell? ⟨gs, 1, none⟩ = some (.int .i64 f) := cell_of_row _ _ _ _ _ (0, 0) HB81.out.r2
        have c2_2 : w81.cell? ⟨gs, 2, none⟩ = some (.int .i64 0) := cell_of_row _ _ _ _ _ (0, 0) HB81.out.r2
        have c2_3 : w81.cell? ⟨gs, 3, none⟩ = some (.int .i64 1) := cell_of_row _ _ _ _ _ (0, 0) HB81.out.r2
        have c2_4 : w81.cell? ⟨gs, 4, none⟩ = some (.int .i64 0) := cell_of_row _ _ _ _ _ (0, 0) HB81.out.r2
        have c2_5 : w81.cell? ⟨gs, 5, none⟩ = some (.int .i64 0) := cell_of_row _ _ _ _ _ (0, 0) HB81.out.r2
        have c3_0 : w81.cell? ⟨w.heap.size, 0, none⟩ = some (.int .u8 x) := cell_of_row _ _ _ _ _ (0, 0) HB81.out.r3
        have c3_1 : w81.cell? ⟨w.heap.size, 1, none⟩ = some (.int .u8 y) := cell_of_row _ _ _ _ _ (0, 0) HB81.out.r3
        go_wp2_with fail
        go_ret
        exact ⟨rfl, HB81.out.below⟩
set_option maxHeartbeats 4000000
set_option maxRecDepth 100000 in
theorem lawRigTimes_lifted (os : Os) (started : os.Started) (H : Type) (enc : TypeId × Value → H) :
    ReturnsInHanded {} Try.checked os 4 .any (Rows.rigTimesSpec.pre6 enc Try.prog Try.f4 Rows.rigTimesRow.domain false) (Rows.rigTimesSpec.post enc Try.prog Try.f4 false true false false) := by
  refine returnsInHanded_of_change (C := Try.checked) own started (by kernel_rfl) Try.func4
    (ChangeSpec.witness6 (enc := enc) (C := Try.checked) false ⟨#[], #[.int .u8 0, .agg #[.int .u8 0, .int .u8 0], .int .u8 0], []⟩ 8 (by kernel_rfl) (by kernel_rfl) (by kernel_rfl) (by kernel_rfl)) ?_
  intro W base args ds gs before hval0 hW hcnd _
  have hval : ∀ (j : Nat) t v, Try.f4.params[j]? = some t → args[j]? = some v → Value.okWide Try.prog W .any base t v := hval0
  have hW' := hW
  obtain ⟨p, q, hA0, hV, rfl, hfz, hnd⟩ := hW
  have hA : DataW.TrodAll enc Try.prog W 0 (fun _ => true) true Try.f4.params.toList args.toList ds p := hA0
  rw [Try.params4] at hA hval
  obtain ⟨v0, vs0, d0, ds0, p0, q0, hargs, rfl, rfl, h0, r0⟩ := trodAll_cons hA
  obtain ⟨v1, vs1, d1, ds1, p1, q1, rfl, rfl, rfl, h1, r1⟩ := trodAll_cons r0
  obtain ⟨v2, vs2, d2, ds2, p2, q2, rfl, rfl, rfl, h2, r2⟩ := trodAll_cons r1
  obtain ⟨rfl, rfl, rfl⟩ := trodAll_nil r2
  obtain rfl : args = #[v0, v1, v2] := by cases args; simp_all
  obtain ⟨rfl, rfl⟩ := trodVars_none hV
  obtain ⟨x0, rfl, rfl, rfl, g0⟩ := open_int Try.underlying5 (hval 0 5 v0 rfl rfl) h0
  have k1 := h1
  have lt1 : ∀ x ∈ p1, x.block < W.heap.size := by obtain ⟨m, hm⟩ := k1; exact DataW.trod_lt m _ _ _ hm
  obtain ⟨x1, y1, rfl, g1⟩ := open_au8_2 (hval 1 36 v1 rfl rfl) h1
  obtain ⟨x2, rfl, rfl, rfl, g2⟩ := open_int Try.underlying5 (hval 2 5 v2 rfl rfl) h2
  clear hA0 hval0
  refine (lawRigTimes_walk x0 x1 y1 x2 W g0 g1 g2).mono fun e W' ⟨he, bel⟩ => ?_
  subst he
  exact ⟨_, rfl, _, _, _, [], _, [], hW', trodAll_mk1 (shut_bool Try.underlying4 _), (trodAll_cons_mk (shut_int Try.underlying5 g0) (trodAll_cons_mk (Below.trod laidOut (by kernel_rfl) (of_decide_eq_true (by kernel_rfl)) k1 bel lt1) (trodAll_cons_mk (shut_int Try.underlying5 g2) trodAll_mk0))), rfl, bel.frame _, fun h => by cases h⟩

theorem lawRigTimes_over : Rows.rigTimesRow.holds Try.pinned (OpenSpec.ofChange Rows.rigTimesSpec) :=
  OpenClaim.holds_of_wide 4 Try.f4 rfl rfl rfl rfl rfl rfl rfl ⟨rfl, rfl, rfl, rfl, rfl⟩ rfl rfl rfl rfl rfl (by kernel_rfl) Try.func4 (by kernel_rfl)
    (of_decide_eq_true (by kernel_rfl)) (by unfold Func.isWrapper; first | (rw [if_pos (by decide +kernel)]; kernel_rfl) | (rw [if_neg (by decide +kernel)]; exact ⟨rfl, rfl⟩))
    (fun os started H enc _ => lawRigTimes_lifted os started H enc)

theorem rigTimes_holds : Rows.RigTimesSaid := lawRigTimes_over
#print axioms rigTimes_holds
end Go.Proofs.Ytmfinebkikhceaa
