/- The law RigReverses: a door that is turned round while it moves needs the whole time of the new movement. No condition. -/
import Derived.Test.YtmfinebkikhceaaBag
import Derived.Test.YtmfinebkikhceaaRgE
import Derived.Test.YtmfinebkikhceaaRgGs
import Derived.Test.YtmfinebkikhceaaRgSane
import Derived.Test.YtmfinebkikhceaaRgOpen
namespace Go.Proofs.Ytmfinebkikhceaa
open GhostV Go.RowKit Go.ChangeShapes Go.WideShapes Go.ChangeAt
set_option linter.unusedSimpArgs false
set_option linter.unusedVariables false

set_option maxRecDepth 100000 in
set_option maxHeartbeats 16000000 in
theorem lawRigReverses_walk (n0 : Int) (x y z : Nat) (w : World) (h0 : (Lit.int .u8 n0).wf = true) (hx : x < 256) (hy : y < 256) (hz : z < 256) :
    Calls Try.prog 6 #[.int .u8 n0, .agg #[.int .u8 x, .int .u8 y, .int .u8 z]] w fun e w' => e = .returned (.bool true) ∧ Below w.heap.size w w' := by
  obtain ⟨n, rfl, hn⟩ := u8_nat h0
  clear h0
  obtain ⟨f, hfe, hf⟩ : ∃ f : Int, (n : Int) % 9 = f ∧ (0 ≤ f ∧ f ≤ 8) := ⟨_, rfl, by omega⟩
  obtain ⟨N, hNe, hN⟩ : ∃ N : Nat, (2 : Int) + (x : Int) % 20 = (N : Int) ∧ (2 ≤ N ∧ N ≤ 21) := ⟨2 + x % 20, by omega, by omega⟩
  obtain ⟨K, hKe, hK⟩ : ∃ K : Nat, (1 : Int) + (y : Int) % 20 = (K : Int) ∧ (1 ≤ K ∧ K ≤ 20) := ⟨1 + y % 20, by omega, by omega⟩
  obtain ⟨Q, hQe, hQ⟩ : ∃ Q : Nat, (1 : Int) + (z : Int) % 20 = (Q : Int) ∧ (1 ≤ Q ∧ Q ≤ 20) := ⟨1 + z % 20, by omega, by omega⟩
  have hNf : IntKind.i64.wrap (2 + IntKind.i64.wrap ((x : Int).tmod 20)) = (N : Int) := by rw [Int.tmod_eq_emod_of_nonneg (by omega), IntWalk.i64_in (_ % 20) (by omega), IntWalk.i64_in _ (by omega)]; omega
  have hKf : IntKind.i64.wrap (1 + IntKind.i64.wrap ((y : Int).tmod 20)) = (K : Int) := by rw [Int.tmod_eq_emod_of_nonneg (by omega), IntWalk.i64_in (_ % 20) (by omega), IntWalk.i64_in _ (by omega)]; omega
  have Hf := Lib.hid hf
  have HN := Lib.hid hN
  have HK := Lib.hid hK
  have HQ := Lib.hid hQ
  have HNf := Lib.hid hNf
  have HKf := Lib.hid hKf
  have HNe := Lib.hid hNe
  have HKe := Lib.hid hKe
  have Hfe := Lib.hid hfe
  have HQe := Lib.hid hQe
  clear hf hK hQ hN hx hy hNf hKf hNe hKe hfe hQe
  have FN := Lib.hid (fun wx => sane16_any wx)
  have FW := Lib.hid (fun wx => rigNew_any f wx)
  rw [show (Rg.new f).agg = .agg #[.int .i64 f, .int .i64 f, .int .i64 0, .int .i64 2, .int .i64 0, .int .i64 0] from rfl] at FW
  have F1 := Lib.hid (fun wx => rigStep_any 9 ⟨f, f, 0, 2, 0, 0⟩ 3 N wx)
  rw [show Rg.anyF 9 ⟨f, f, 0, 2, 0, 0⟩ 3 N = ⟨f, f, 0, 0, 1, (N : Int) - 1⟩ by have h := HN.out; rw [show (⟨f, f, 0, 2, 0, 0⟩ : Rg) = Rg.openAt f N 0 from rfl, Rg.anyF_ok (Rg.openAt_ok (by decide) Hf.out (by omega) (by omega)), Rg.lim_id (by omega), Rg.openAt_step (by omega)]; unfold Rg.openAt; rw [if_neg (by decide), if_pos (by omega)]; rfl] at F1
  simp only [Rg.agg] at F1
  have HB0 := Lib.hid (bxs1 w (.cells #[.int .u8 x, .int .u8 y, .int .u8 z] 40))
  go_enter Try.func6, Try.ntmps6
  go_wp2_with fail
  refine Bag.region (fun wx => Below (w.heap.size + 1) (w.alloc (.cells #[.int .u8 x, .int .u8 y, .int .u8 z] 40)) wx) (by kernel_rfl) (by kernel_rfl) (Below.refl _ _).drew ?_
  iterate 13 (first
      | (apply Bag.walk_yes (by rfl)
         (intro wx hx K hK
          have HXx := HB0.out.next (show Below _ _ wx from by simpa using hx)
          have z0_0 : wx.cell? ⟨w.heap.size, 0, none⟩ = some (.int .u8 x) := cell_of_row _ _ _ _ _ (0, 0) HXx.r0
          have z0_1 : wx.cell? ⟨w.heap.size, 1, none⟩ = some (.int .u8 y) := cell_of_row _ _ _ _ _ (0, 0) HXx.r0
          first
            | (go_simp
               first
                | (go_at_K; exact hK _ hx)))
         rfl)
      | (refine Bag.walk_no (by rfl) ?_; simp only [Act.put, List.setIfInBounds_toArray, List.set_cons_succ, List.set_cons_zero]))
  refine Bag.walk_nil (fun w1 hb1 => ?_)
  have HB1 := Lib.hid (HB0.out.next (show Below _ _ w1 from by simpa using hb1))
  clear hb1 HB0
  have c0_0 : w1.cell? ⟨w.heap.size, 0, none⟩ = some (.int .u8 x) := cell_of_row _ _ _ _ _ (0, 0) HB1.out.r0
  have c0_1 : w1.cell? ⟨w.heap.size, 1, none⟩ = some (.int .u8 y) := cell_of_row _ _ _ _ _ (0, 0) HB1.out.r0
  have c0_2 : w1.cell? ⟨w.heap.size, 2, none⟩ = some (.int .u8 z) := cell_of_row _ _ _ _ _ (0, 0) HB1.out.r0
  go_wp2_with fail
  simp only [Hfe.out, HNf.out, HKf.out]
  clear HNf HKf
  refine (FW.out _).mono ?_
  rintro e w2 ⟨rfl, hb2⟩
  have HB2 := Lib.hid (HB1.out.next hb2)
  clear c0_0 c0_1 c0_2 hb2 HB1
  go_wp2_with fail
  try simp only [Hfe.out, HNe.out, HKe.out]
  clear HNe HKe
  refine (F1.out _).mono ?_
  rintro e w3 ⟨rfl, hb3⟩
  have HB3 := Lib.hid (HB2.out.next hb3)
  clear hb3 HB2
  go_wp2_with (with_reducible show wpList _ _ _ (Oper.mk _ (.store 23 _ _) _ _ _ _ :: _) _ _; refine Hid.out ?_)
  refine Lib.hid ?_
  have l4_0 : w.heap.size < w3.heap.size := (Array.getElem?_eq_some_iff.1 HB3.out.r0).1
  have lw4 : w.heap.size ≤ w3.heap.size := HB3.out.below.size
  refine wpList_put rfl 23 _ _ rfl w3.heap.size #[.int .i64 f, .int .i64 f, .int .i64 0, .int .i64 0, .int .i64 1, .int .i64 ((N : Int) - 1)] _ 23 rfl rfl (heap_alloc_new w3 _) (by kernel_rfl) rfl (by kernel_rfl) ?_
  intro w4 hr4 hg4
  have HB4 : Hid (Bx w [(w3.heap.size, .cells #[.int .i64 f, .int .i64 f, .int .i64 0, .int .i64 0, .int .i64 1, .int .i64 ((N : Int) - 1)] 23 (0, 0)), (w.heap.size, .cells #[.int .u8 x, .int .u8 y, .int .u8 z] 40 (0, 0))] w4) := Lib.hid ((HB3.out.make (heap_alloc_new w3 (.cells #[.int .i64 0, .int .i64 0, .int .i64 0, .int .i64 0, .int .i64 0, .int .i64 0] 23)) ((Below.refl w3.heap.size w3).alloc (Nat.le_refl _) _)).put HB3.out.below.size hg4.out hr4.out (by simp only [List.mem_cons, List.not_mem_nil, or_false]; rintro p (rfl | rfl) <;> simp <;> omega))
  clear hr4 hg4 HB3
  generalize w3.heap.size = gs at *
  go_wp2_with fail
  go_loopw [7] (fun vi wr => ∃ (j : Nat) (s : Rg), vi = .int .i64 j ∧ (1 ≤ j ∧ j ≤ N) ∧ s = Rg.openAt f N j ∧ Bx w [(gs, .cells #[.int .i64 s.fl, .int .i64 s.tg, .int .i64 s.lf, .int .i64 s.dd, .int .i64 s.am, .int .i64 s.tk] 23 (0, 0)), (w.heap.size, .cells #[.int .u8 x, .int .u8 y, .int .u8 z] 40 (0, 0))] wr) (fun vi _ => 30 - (intOf vi).toNat)
  case atStart => exact ⟨1, ⟨f, f, 0, 0, 1, (N : Int) - 1⟩, rfl, by have := HN.out; omega, by unfold Rg.openAt; have := HN.out; rw [if_neg (by omega), if_pos (by omega)]; rfl, HB4.out⟩
  case round =>
    obtain ⟨j, s, rfl, hj, hs, hbr⟩ := hrel
    clear HB4
    by_cases hlt : j < N
    · have hlti : (j : Int) < (N : Int) := by omega
      have hltB : decide ((j : Int) < (N : Int)) = true := decide_eq_true hlti
      by_cases hlq : j < Q
      · have hlqi : (j : Int) < 1 + (z : Int) % 20 := by have := HQe.out; omega
        have hlqB : decide ((j : Int) < 1 + (z : Int) % 20) = true := decide_eq_true hlqi
        have hst : Rg.anyF 9 s 3 N = Rg.openAt f N ((j : Int) + 1) := by
          have h := HN.out
          rw [hs, Rg.anyF_ok (Rg.openAt_ok (by decide) Hf.out (by omega) (by omega)), Rg.lim_id (by omega)]
          exact Rg.openAt_step (by omega)
        have hwj : IntKind.i64.wrap ((j : Int) + 1) = ((j + 1 : Nat) : Int) := by rw [IntKind.wrap_i64]; have := HN.out; omega
        obtain ⟨s1, s2, s3, s4, s5, s6⟩ := s
        simp only at hbr
        have HBR := Lib.hid hbr
        have FS := Lib.hid (fun wx => rigStep_any 9 ⟨s1, s2, s3, s4, s5, s6⟩ 3 N wx)
        rw [hst] at FS
        obtain ⟨X, hX⟩ : ∃ X, Rg.openAt f N ((j : Int) + 1) = X := ⟨_, rfl⟩
        rw [hX] at FS
        obtain ⟨a1, a2, a3, a4, a5, a6⟩ := X
        simp only [Rg.agg] at FS
        have HX := Lib.hid hX
        clear hst hX hs hbr hlt hlq
        have c0_0 : wr.cell? ⟨gs, 0, none⟩ = some (.int .i64 s1) := cell_of_row _ _ _ _ _ (0, 0) HBR.out.r0
        have c0_1 : wr.cell? ⟨gs, 1, none⟩ = some (.int .i64 s2) := cell_of_row _ _ _ _ _ (0, 0) HBR.out.r0
        have c0_2 : wr.cell? ⟨gs, 2, none⟩ = some (.int .i64 s3) := cell_of_row _ _ _ _ _ (0, 0) HBR.out.r0
        have c0_3 : wr.cell? ⟨gs, 3, none⟩ = some (.int .i64 s4) := cell_of_row _ _ _ _ _ (0, 0) HBR.out.r0
        have c0_4 : wr.cell? ⟨gs, 4, none⟩ = some (.int .i64 s5) := cell_of_row _ _ _ _ _ (0, 0) HBR.out.r0
        have c0_5 : wr.cell? ⟨gs, 5, none⟩ = some (.int .i64 s6) := cell_of_row _ _ _ _ _ (0, 0) HBR.out.r0
        have c1_2 : wr.cell? ⟨w.heap.size, 2, none⟩ = some (.int .u8 z) := cell_of_row _ _ _ _ _ (0, 0) HBR.out.r1
        go_wp2_with fail
        refine (FS.out _).mono ?_
        rintro e w5 ⟨rfl, hb5⟩
        have HB5 := Lib.hid (HBR.out.next hb5)
        clear c0_0 c0_1 c0_2 c0_3 c0_4 c0_5 c1_2 hb5 HBR
        have c0_0 : w5.cell? ⟨gs, 0, none⟩ = some (.int .i64 s1) := cell_of_row _ _ _ _ _ (0, 0) HB5.out.r0
        have c0_1 : w5.cell? ⟨gs, 1, none⟩ = some (.int .i64 s2) := cell_of_row _ _ _ _ _ (0, 0) HB5.out.r0
        have c0_2 : w5.cell? ⟨gs, 2, none⟩ = some (.int .i64 s3) := cell_of_row _ _ _ _ _ (0, 0) HB5.out.r0
        have c0_3 : w5.cell? ⟨gs, 3, none⟩ = some (.int .i64 s4) := cell_of_row _ _ _ _ _ (0, 0) HB5.out.r0
        have c0_4 : w5.cell? ⟨gs, 4, none⟩ = some (.int .i64 s5) := cell_of_row _ _ _ _ _ (0, 0) HB5.out.r0
        have c0_5 : w5.cell? ⟨gs, 5, none⟩ = some (.int .i64 s6) := cell_of_row _ _ _ _ _ (0, 0) HB5.out.r0
        have c1_2 : w5.cell? ⟨w.heap.size, 2, none⟩ = some (.int .u8 z) := cell_of_row _ _ _ _ _ (0, 0) HB5.out.r1
        go_wp2_with (with_reducible show wpList _ _ _ (Oper.mk _ (.store 23 _ _) _ _ _ _ :: _) _ _; refine Hid.out ?_)
        refine Lib.hid ?_
        refine wpList_put rfl 23 _ _ rfl (gs) #[.int .i64 a1, .int .i64 a2, .int .i64 a3, .int .i64 a4, .int .i64 a5, .int .i64 a6] _ 23 rfl rfl HB5.out.r0 (by kernel_rfl) rfl (by kernel_rfl) ?_
        intro w6 hr6 hg6
        have HB6 : Hid (Bx w [(gs, .cells #[.int .i64 a1, .int .i64 a2, .int .i64 a3, .int .i64 a4, .int .i64 a5, .int .i64 a6] 23 (0, 0)), (w.heap.size, .cells #[.int .u8 x, .int .u8 y, .int .u8 z] 40 (0, 0))] w6) := Lib.hid (HB5.out.put (by omega) hg6.out hr6.out (by simp only [List.mem_cons, List.not_mem_nil, or_false]; rintro p (rfl | rfl) <;> simp <;> omega))
        clear c0_0 c0_1 c0_2 c0_3 c0_4 c0_5 c1_2 hr6 hg6 HB5
        go_wp2_with fail
        go_roundw
        case rel => exact ⟨j + 1, ⟨a1, a2, a3, a4, a5, a6⟩, by go_num, by omega, HX.out.symm, (HB6.out.less (by simp only [List.mem_cons, List.not_mem_nil, or_false]; rintro p (rfl | rfl) <;> simp))⟩
        case measure => simp [intOf]; have := HN.out; omega
      · have hlqi : ¬ (j : Int) < 1 + (z : Int) % 20 := by have := HQe.out; omega
        have hlqB : decide ((j : Int) < 1 + (z : Int) % 20) = false := decide_eq_false hlqi
        obtain ⟨D, hD, hD1⟩ : ∃ D : Int, (N : Int) - (j : Int) = D ∧ (1 ≤ D ∧ D ≤ 20) := ⟨_, rfl, by have := HN.out; omega⟩
        have hX : s = ⟨f, f, 0, 0, 1, D⟩ := by rw [hs]; unfold Rg.openAt; rw [if_neg (by omega), if_pos (by omega), hD]
        subst hX
        simp only at hbr
        have HBR := Lib.hid hbr
        have HD1 := Lib.hid hD1
        clear hbr hs hD hD1 hlt hlq
        have c0_0 : wr.cell? ⟨gs, 0, none⟩ = some (.int .i64 f) := cell_of_row _ _ _ _ _ (0, 0) HBR.out.r0
        have c0_1 : wr.cell? ⟨gs, 1, none⟩ = some (.int .i64 f) := cell_of_row _ _ _ _ _ (0, 0) HBR.out.r0
        have c0_2 : wr.cell? ⟨gs, 2, none⟩ = some (.int .i64 0) := cell_of_row _ _ _ _ _ (0, 0) HBR.out.r0
        have c0_3 : wr.cell? ⟨gs, 3, none⟩ = some (.int .i64 0) := cell_of_row _ _ _ _ _ (0, 0) HBR.out.r0
        have c0_4 : wr.cell? ⟨gs, 4, none⟩ = some (.int .i64 1) := cell_of_row _ _ _ _ _ (0, 0) HBR.out.r0
        have c0_5 : wr.cell? ⟨gs, 5, none⟩ = some (.int .i64 D) := cell_of_row _ _ _ _ _ (0, 0) HBR.out.r0
        have c1_2 : wr.cell? ⟨w.heap.size, 2, none⟩ = some (.int .u8 z) := cell_of_row _ _ _ _ _ (0, 0) HBR.out.r1
        go_wp2_with fail
        clear hlti hltB hlqi hlqB
        clear c0_0 c0_1 c0_2 c0_3 c0_4 c0_5 c1_2
        go_loopw [9] (fun vi wx => ∃ (i : Nat) (t : Rg), vi = .int .i64 ((i : Int) + 1) ∧ i ≤ K ∧ t = Rg.backAt f D K i ∧ Bx w [(gs, .cells #[.int .i64 t.fl, .int .i64 t.tg, .int .i64 t.lf, .int .i64 t.dd, .int .i64 t.am, .int .i64 t.tk] 23 (0, 0)), (w.heap.size, .cells #[.int .u8 x, .int .u8 y, .int .u8 z] 40 (0, 0))] wx) (fun vi _ => 30 - (intOf vi).toNat)
        case atStart => exact ⟨0, ⟨f, f, 0, 0, 1, D⟩, rfl, Nat.zero_le _, rfl, HBR.out⟩
        case round =>
          obtain ⟨i, t, rfl, hi, ht, hbr⟩ := hrel
          clear HBR
          by_cases hlt : i < K
          · have hlti : (i : Int) + 1 ≤ (K : Int) := by omega
            have hltB : decide ((i : Int) + 1 ≤ (K : Int)) = true := decide_eq_true hlti
            have hwi : IntKind.i64.wrap ((i : Int) + 1 + 1) = ((i + 1 : Nat) : Int) + 1 := by rw [IntKind.wrap_i64]; have := HK.out; omega
            have hdd : (t.dd == 2) = false := by rw [ht]; unfold Rg.backAt; split; rfl; rw [if_pos (by omega)]; rfl
            have hst : ∀ m : Int, m = 4 ∨ m = 5 → Rg.anyF 9 t m K = Rg.backAt f D K ((i : Int) + 1) := by
              intro m hm
              have h := HK.out
              have h2 := HD1.out
              rw [ht, Rg.anyF_ok (Rg.backAt_ok (by decide) Hf.out (by omega) (by omega) (by omega)), Rg.lim_id (by omega)]
              exact Rg.backAt_step hm (by omega)
            obtain ⟨X, hX⟩ : ∃ X, Rg.backAt f D K ((i : Int) + 1) = X := ⟨_, rfl⟩
            rw [hX] at hst
            obtain ⟨s1, s2, s3, s4, s5, s6⟩ := t
            obtain ⟨a1, a2, a3, a4, a5, a6⟩ := X
            simp only at hbr hdd
            have HBS := Lib.hid hbr
            have HST := Lib.hid hst
            have HX := Lib.hid hX
            clear hst hX ht hbr hlt
            have hpar : ((i : Int) + 1) % 2 = 0 ∨ ((i : Int) + 1) % 2 = 1 := by omega
            rcases hpar with hpar | hpar
            · have FS := Lib.hid (fun wx => rigStep_any 9 ⟨s1, s2, s3, s4, s5, s6⟩ 4 K wx)
              rw [HST.out 4 (by decide)] at FS
              simp only [Rg.agg] at FS
              have htm : ((i : Int) + 1).tmod 2 = 0 := by rw [Int.tmod_eq_emod_of_nonneg (by omega)]; exact hpar
              have c0_0 : wr.cell? ⟨gs, 0, none⟩ = some (.int .i64 s1) := cell_of_row _ _ _ _ _ (0, 0) HBS.out.r0
              have c0_1 : wr.cell? ⟨gs, 1, none⟩ = some (.int .i64 s2) := cell_of_row _ _ _ _ _ (0, 0) HBS.out.r0
              have c0_2 : wr.cell? ⟨gs, 2, none⟩ = some (.int .i64 s3) := cell_of_row _ _ _ _ _ (0, 0) HBS.out.r0
              have c0_3 : wr.cell? ⟨gs, 3, none⟩ = some (.int .i64 s4) := cell_of_row _ _ _ _ _ (0, 0) HBS.out.r0
              have c0_4 : wr.cell? ⟨gs, 4, none⟩ = some (.int .i64 s5) := cell_of_row _ _ _ _ _ (0, 0) HBS.out.r0
              have c0_5 : wr.cell? ⟨gs, 5, none⟩ = some (.int .i64 s6) := cell_of_row _ _ _ _ _ (0, 0) HBS.out.r0
              go_wp2_with fail
              have q0 : gs < wr.heap.size := (Array.getElem?_eq_some_iff.1 HBS.out.r0).1
              refine ghostM [5, 7, 8] (fun p γ L wx => Gs wr gs #[.int .i64 s1, .int .i64 s2, .int .i64 s3, .int .i64 s4, .int .i64 s5, .int .i64 s6] #[.int .i64 a1, .int .i64 a2, .int .i64 a3, .int .i64 a4, .int .i64 a5, .int .i64 a6] 23 #[.int .i64 4, .int .i64 5] 3 0 (.int .i64 4) p (γ 1) (γ 4) (γ 5) (γ 7) (L 1) (L 4) wx) (by kernel_rfl) (by kernel_rfl) (fun γ => Gs.start HBS.out.r0) ?_
              apply GM.walk_plain (by kernel_rfl) (by kernel_rfl) (fun γ => by rfl)
              · intro γ L p wx h1 h2 hup hlo hS K hK
                have hp0 := hup 1 7 rfl (by kernel_rfl)
                have hZ := (hS.putZ (by omega)).row
                have z0 : wx.cell? ⟨gs, 0, none⟩ = some (.int .i64 s1) := cell_of_row _ _ _ _ _ (0, 0) hZ
                have z1 : wx.cell? ⟨gs, 1, none⟩ = some (.int .i64 s2) := cell_of_row _ _ _ _ _ (0, 0) hZ
                have z2 : wx.cell? ⟨gs, 2, none⟩ = some (.int .i64 s3) := cell_of_row _ _ _ _ _ (0, 0) hZ
                have z3 : wx.cell? ⟨gs, 3, none⟩ = some (.int .i64 s4) := cell_of_row _ _ _ _ _ (0, 0) hZ
                have z4 : wx.cell? ⟨gs, 4, none⟩ = some (.int .i64 s5) := cell_of_row _ _ _ _ _ (0, 0) hZ
                have z5 : wx.cell? ⟨gs, 5, none⟩ = some (.int .i64 s6) := cell_of_row _ _ _ _ _ (0, 0) hZ
                clear hZ hp0
                have HK2 := Lib.hid hK
                have HS := Lib.hid hS
                clear hK h1 h2 hup hlo hS
                go_simp
                exact HK2.out _ HS.out
              try simp only [Act.put, List.setIfInBounds_toArray, List.set_cons_succ, List.set_cons_zero]
              apply GM.walk_ghost (by kernel_rfl) (by kernel_rfl) (fun γ => by rfl)
              · intro γ L p wx h1 h2 hup hlo hS K hK
                have HK2 := Lib.hid hK
                have HS := Lib.hid hS
                have HH := Lib.hid h1
                clear hK h1 h2 hS hup hlo
                go_simp
                exact HK2.out _ _ (HS.out.make HH.out)
              try simp only [Act.put, List.setIfInBounds_toArray, List.set_cons_succ, List.set_cons_zero]
              apply GM.walk_plain (by kernel_rfl) (by kernel_rfl) (fun γ => by rfl)
              · intro γ L p wx h1 h2 hup hlo hS K hK
                have HK2 := Lib.hid hK
                have HS := Lib.hid hS
                clear hK h1 h2 hup hlo hS
                go_simp
                exact HK2.out _ HS.out
              try simp only [Act.put, List.setIfInBounds_toArray, List.set_cons_succ, List.set_cons_zero]
              apply GM.walk_plain (by kernel_rfl) (by kernel_rfl) (fun γ => by rfl)
              · intro γ L p wx h1 h2 hup hlo hS K hK
                have HK2 := Lib.hid hK
                have HS := Lib.hid hS
                clear hK h1 h2 hup hlo hS
                go_simp
                exact HK2.out _ HS.out
              try simp only [Act.put, List.setIfInBounds_toArray, List.set_cons_succ, List.set_cons_zero]
              apply GM.walk_ghost (by kernel_rfl) (by kernel_rfl) (fun γ => by rfl)
              · intro γ L p wx h1 h2 hup hlo hS K hK
                have hp0 := hup 0 5 rfl (by kernel_rfl)
                obtain ⟨g, -, g2, -, -⟩ := hS.lit (h2 1 (by kernel_rfl)) (by omega)
                have HH := Lib.hid (hS.index (h2 1 (by kernel_rfl)) g2)
                simp only [g2] at hK ⊢
                have HK2 := Lib.hid hK
                clear hK h1 h2 hS hup hlo hp0 g2
                go_simp
                exact HK2.out _ _ HH.out
              try simp only [Act.put, List.setIfInBounds_toArray, List.set_cons_succ, List.set_cons_zero]
              apply GM.walk_turn 0 rfl (by kernel_rfl) (by decide) (.inl rfl) (fun γ => by rfl)
              · intro γ L wx h1 h2 hS K hK
                obtain ⟨g, -, -, g3, g4⟩ := hS.lit (hS.dep (h2 4 (by kernel_rfl))) (by decide)
                replace g4 := g4 (h2 4 (by kernel_rfl))
                have z0 : wx.cell? ⟨g, 0, none⟩ = some (.int .i64 4) := cell_of_row _ _ _ _ _ (0, 0) g3
                simp only [g4] at hK ⊢
                have HK2 := Lib.hid hK
                have HS := Lib.hid hS
                clear hK h1 h2 hS g3 g4
                go_simp
                exact HK2.out (.int .i64 4) _ HS.out.loaded
              try simp only [Act.put, List.setIfInBounds_toArray, List.set_cons_succ, List.set_cons_zero]
              apply GM.walk_plain (by kernel_rfl) (by kernel_rfl) (fun γ => by rfl)
              · intro γ L p wx h1 h2 hup hlo hS K hK
                have HK2 := Lib.hid hK
                have HS := Lib.hid hS
                clear hK h1 h2 hup hlo hS
                go_simp
                exact HK2.out _ HS.out
              try simp only [Act.put, List.setIfInBounds_toArray, List.set_cons_succ, List.set_cons_zero]
              apply GM.walk_turn 1 rfl (by kernel_rfl) (by decide) (.inr ⟨5, rfl, by kernel_rfl⟩) (fun γ => by rfl)
              · intro γ L wx h1 h2 hS K hK
                have h5 := hS.v5 (by decide)
                simp only [h5] at hK ⊢
                have HK2 := Lib.hid hK
                have HS := Lib.hid hS
                clear hK h1 h2 hS h5
                go_simp
                go_at_call 10
                refine (FS.out _).mono ?_
                rintro e w' ⟨rfl, hb'⟩
                exact HK2.out _ _ (HS.out.called hb')
              try simp only [Act.put, List.setIfInBounds_toArray, List.set_cons_succ, List.set_cons_zero]
              apply GM.walk_turn 2 rfl (by kernel_rfl) (by decide) (.inr ⟨7, rfl, by kernel_rfl⟩) (fun γ => by rfl)
              · intro γ L wx h1 h2 hS K hK
                have h7 := hS.v7 (by decide)
                have hZ := hS.putZ (by decide)
                exact wp_put 23 _ _ rfl gs #[.int .i64 a1, .int .i64 a2, .int .i64 a3, .int .i64 a4, .int .i64 a5, .int .i64 a6] #[.int .i64 s1, .int .i64 s2, .int .i64 s3, .int .i64 s4, .int .i64 s5, .int .i64 s6] 23 rfl h7 hZ.row (by kernel_rfl) rfl (by kernel_rfl) (fun w' hr hgr => hK undef w' (hS.stored hr.out hgr.out))
              try simp only [Act.put]
              refine GhostV.walk_nil (fun γ L w4 hall hx => ?_)
              have hG := hx.done (fun t ht => hall t (by simp only [List.mem_cons, List.not_mem_nil, or_false] at ht; rcases ht with rfl | rfl | rfl <;> decide))
              have hp4 := Gs.putR hG
              clear hx hall hG
              have HB4 : Hid (Bx w [(gs, .cells #[.int .i64 a1, .int .i64 a2, .int .i64 a3, .int .i64 a4, .int .i64 a5, .int .i64 a6] 23 (0, 0)), (w.heap.size, .cells #[.int .u8 x, .int .u8 y, .int .u8 z] 40 (0, 0))] w4) := Lib.hid (HBS.out.ofPut (by omega) hp4 (by simp only [List.mem_cons, List.not_mem_nil, or_false]; rintro p (rfl | rfl) <;> simp <;> omega))
              clear hp4 HBS
              clear c0_0 c0_1 c0_2 c0_3 c0_4 c0_5
              generalize γ 1 = y1 at *
              generalize γ 4 = y4 at *
              generalize γ 5 = y5 at *
              generalize γ 7 = y7 at *
              generalize γ 8 = y8 at *
              go_wp2_with fail
              go_roundw
              case rel => exact ⟨i + 1, ⟨a1, a2, a3, a4, a5, a6⟩, by go_num, by omega, HX.out.symm, HB4.out⟩
              case measure => simp [intOf]; have := HK.out; omega
            · have FS := Lib.hid (fun wx => rigStep_any 9 ⟨s1, s2, s3, s4, s5, s6⟩ 5 K wx)
              rw [HST.out 5 (by decide)] at FS
              simp only [Rg.agg] at FS
              have htm : ((i : Int) + 1).tmod 2 = 1 := by rw [Int.tmod_eq_emod_of_nonneg (by omega)]; exact hpar
              have c0_0 : wr.cell? ⟨gs, 0, none⟩ = some (.int .i64 s1) := cell_of_row _ _ _ _ _ (0, 0) HBS.out.r0
              have c0_1 : wr.cell? ⟨gs, 1, none⟩ = some (.int .i64 s2) := cell_of_row _ _ _ _ _ (0, 0) HBS.out.r0
              have c0_2 : wr.cell? ⟨gs, 2, none⟩ = some (.int .i64 s3) := cell_of_row _ _ _ _ _ (0, 0) HBS.out.r0
              have c0_3 : wr.cell? ⟨gs, 3, none⟩ = some (.int .i64 s4) := cell_of_row _ _ _ _ _ (0, 0) HBS.out.r0
              have c0_4 : wr.cell? ⟨gs, 4, none⟩ = some (.int .i64 s5) := cell_of_row _ _ _ _ _ (0, 0) HBS.out.r0
              have c0_5 : wr.cell? ⟨gs, 5, none⟩ = some (.int .i64 s6) := cell_of_row _ _ _ _ _ (0, 0) HBS.out.r0
              go_wp2_with fail
              have q0 : gs < wr.heap.size := (Array.getElem?_eq_some_iff.1 HBS.out.r0).1
              refine ghostM [5, 7, 8] (fun p γ L wx => Gs wr gs #[.int .i64 s1, .int .i64 s2, .int .i64 s3, .int .i64 s4, .int .i64 s5, .int .i64 s6] #[.int .i64 a1, .int .i64 a2, .int .i64 a3, .int .i64 a4, .int .i64 a5, .int .i64 a6] 23 #[.int .i64 4, .int .i64 5] 3 1 (.int .i64 5) p (γ 1) (γ 4) (γ 5) (γ 7) (L 1) (L 4) wx) (by kernel_rfl) (by kernel_rfl) (fun γ => Gs.start HBS.out.r0) ?_
              apply GM.walk_plain (by kernel_rfl) (by kernel_rfl) (fun γ => by rfl)
              · intro γ L p wx h1 h2 hup hlo hS K hK
                have hp0 := hup 1 7 rfl (by kernel_rfl)
                have hZ := (hS.putZ (by omega)).row
                have z0 : wx.cell? ⟨gs, 0, none⟩ = some (.int .i64 s1) := cell_of_row _ _ _ _ _ (0, 0) hZ
                have z1 : wx.cell? ⟨gs, 1, none⟩ = some (.int .i64 s2) := cell_of_row _ _ _ _ _ (0, 0) hZ
                have z2 : wx.cell? ⟨gs, 2, none⟩ = some (.int .i64 s3) := cell_of_row _ _ _ _ _ (0, 0) hZ
                have z3 : wx.cell? ⟨gs, 3, none⟩ = some (.int .i64 s4) := cell_of_row _ _ _ _ _ (0, 0) hZ
                have z4 : wx.cell? ⟨gs, 4, none⟩ = some (.int .i64 s5) := cell_of_row _ _ _ _ _ (0, 0) hZ
                have z5 : wx.cell? ⟨gs, 5, none⟩ = some (.int .i64 s6) := cell_of_row _ _ _ _ _ (0, 0) hZ
                clear hZ hp0
                have HK2 := Lib.hid hK
                have HS := Lib.hid hS
                clear hK h1 h2 hup hlo hS
                go_simp
                exact HK2.out _ HS.out
              try simp only [Act.put, List.setIfInBounds_toArray, List.set_cons_succ, List.set_cons_zero]
              apply GM.walk_ghost (by kernel_rfl) (by kernel_rfl) (fun γ => by rfl)
              · intro γ L p wx h1 h2 hup hlo hS K hK
                have HK2 := Lib.hid hK
                have HS := Lib.hid hS
                have HH := Lib.hid h1
                clear hK h1 h2 hS hup hlo
                go_simp
                exact HK2.out _ _ (HS.out.make HH.out)
              try simp only [Act.put, List.setIfInBounds_toArray, List.set_cons_succ, List.set_cons_zero]
              apply GM.walk_plain (by kernel_rfl) (by kernel_rfl) (fun γ => by rfl)
              · intro γ L p wx h1 h2 hup hlo hS K hK
                have HK2 := Lib.hid hK
                have HS := Lib.hid hS
                clear hK h1 h2 hup hlo hS
                go_simp
                exact HK2.out _ HS.out
              try simp only [Act.put, List.setIfInBounds_toArray, List.set_cons_succ, List.set_cons_zero]
              apply GM.walk_plain (by kernel_rfl) (by kernel_rfl) (fun γ => by rfl)
              · intro γ L p wx h1 h2 hup hlo hS K hK
                have HK2 := Lib.hid hK
                have HS := Lib.hid hS
                clear hK h1 h2 hup hlo hS
                go_simp
                exact HK2.out _ HS.out
              try simp only [Act.put, List.setIfInBounds_toArray, List.set_cons_succ, List.set_cons_zero]
              apply GM.walk_ghost (by kernel_rfl) (by kernel_rfl) (fun γ => by rfl)
              · intro γ L p wx h1 h2 hup hlo hS K hK
                have hp0 := hup 0 5 rfl (by kernel_rfl)
                obtain ⟨g, -, g2, -, -⟩ := hS.lit (h2 1 (by kernel_rfl)) (by omega)
                have HH := Lib.hid (hS.index (h2 1 (by kernel_rfl)) g2)
                simp only [g2] at hK ⊢
                have HK2 := Lib.hid hK
                clear hK h1 h2 hS hup hlo hp0 g2
                go_simp
                exact HK2.out _ _ HH.out
              try simp only [Act.put, List.setIfInBounds_toArray, List.set_cons_succ, List.set_cons_zero]
              apply GM.walk_turn 0 rfl (by kernel_rfl) (by decide) (.inl rfl) (fun γ => by rfl)
              · intro γ L wx h1 h2 hS K hK
                obtain ⟨g, -, -, g3, g4⟩ := hS.lit (hS.dep (h2 4 (by kernel_rfl))) (by decide)
                replace g4 := g4 (h2 4 (by kernel_rfl))
                have z0 : wx.cell? ⟨g, 1, none⟩ = some (.int .i64 5) := cell_of_row _ _ _ _ _ (0, 0) g3
                simp only [g4] at hK ⊢
                have HK2 := Lib.hid hK
                have HS := Lib.hid hS
                clear hK h1 h2 hS g3 g4
                go_simp
                exact HK2.out (.int .i64 5) _ HS.out.loaded
              try simp only [Act.put, List.setIfInBounds_toArray, List.set_cons_succ, List.set_cons_zero]
              apply GM.walk_plain (by kernel_rfl) (by kernel_rfl) (fun γ => by rfl)
              · intro γ L p wx h1 h2 hup hlo hS K hK
                have HK2 := Lib.hid hK
                have HS := Lib.hid hS
                clear hK h1 h2 hup hlo hS
                go_simp
                exact HK2.out _ HS.out
              try simp only [Act.put, List.setIfInBounds_toArray, List.set_cons_succ, List.set_cons_zero]
              apply GM.walk_turn 1 rfl (by kernel_rfl) (by decide) (.inr ⟨5, rfl, by kernel_rfl⟩) (fun γ => by rfl)
              · intro γ L wx h1 h2 hS K hK
                have h5 := hS.v5 (by decide)
                simp only [h5] at hK ⊢
                have HK2 := Lib.hid hK
                have HS := Lib.hid hS
                clear hK h1 h2 hS h5
                go_simp
                go_at_call 10
                refine (FS.out _).mono ?_
                rintro e w' ⟨rfl, hb'⟩
                exact HK2.out _ _ (HS.out.called hb')
              try simp only [Act.put, List.setIfInBounds_toArray, List.set_cons_succ, List.set_cons_zero]
              apply GM.walk_turn 2 rfl (by kernel_rfl) (by decide) (.inr ⟨7, rfl, by kernel_rfl⟩) (fun γ => by rfl)
              · intro γ L wx h1 h2 hS K hK
                have h7 := hS.v7 (by decide)
                have hZ := hS.putZ (by decide)
                exact wp_put 23 _ _ rfl gs #[.int .i64 a1, .int .i64 a2, .int .i64 a3, .int .i64 a4, .int .i64 a5, .int .i64 a6] #[.int .i64 s1, .int .i64 s2, .int .i64 s3, .int .i64 s4, .int .i64 s5, .int .i64 s6] 23 rfl h7 hZ.row (by kernel_rfl) rfl (by kernel_rfl) (fun w' hr hgr => hK undef w' (hS.stored hr.out hgr.out))
              try simp only [Act.put]
              refine GhostV.walk_nil (fun γ L w4 hall hx => ?_)
              have hG := hx.done (fun t ht => hall t (by simp only [List.mem_cons, List.not_mem_nil, or_false] at ht; rcases ht with rfl | rfl | rfl <;> decide))
              have hp4 := Gs.putR hG
              clear hx hall hG
              have HB4 : Hid (Bx w [(gs, .cells #[.int .i64 a1, .int .i64 a2, .int .i64 a3, .int .i64 a4, .int .i64 a5, .int .i64 a6] 23 (0, 0)), (w.heap.size, .cells #[.int .u8 x, .int .u8 y, .int .u8 z] 40 (0, 0))] w4) := Lib.hid (HBS.out.ofPut (by omega) hp4 (by simp only [List.mem_cons, List.not_mem_nil, or_false]; rintro p (rfl | rfl) <;> simp <;> omega))
              clear hp4 HBS
              clear c0_0 c0_1 c0_2 c0_3 c0_4 c0_5
              generalize γ 1 = y1 at *
              generalize γ 4 = y4 at *
              generalize γ 5 = y5 at *
              generalize γ 7 = y7 at *
              generalize γ 8 = y8 at *
              go_wp2_with fail
              go_roundw
              case rel => exact ⟨i + 1, ⟨a1, a2, a3, a4, a5, a6⟩, by go_num, by omega, HX.out.symm, HB4.out⟩
              case measure => simp [intOf]; have := HK.out; omega
          · obtain rfl : i = K := by omega
            have hX : t = ⟨f, f, 0, 2, 0, 0⟩ := by rw [ht]; unfold Rg.backAt; have := HK.out; rw [if_neg (by omega), if_neg (by omega)]; rfl
            subst hX
            simp only at hbr
            have HBS := Lib.hid hbr
            clear hbr ht hlt
            have hlti : ¬ (i : Int) + 1 ≤ (i : Int) := by omega
            have hltB : decide ((i : Int) + 1 ≤ (i : Int)) = false := decide_eq_false hlti
            have qe := fun wx => eqlRg ⟨f, f, 0, 2, 0, 0⟩ ⟨f, f, 0, 2, 0, 0⟩ wx
            rw [Rg.eqB_self] at qe
            simp only [Rg.agg] at qe
            have hfe2 : (n : Int) % 9 = f := Hfe.out
            have hfe4 : (n : Int).tmod 9 = f := by rw [Int.tmod_eq_emod_of_nonneg (by omega)]; exact Hfe.out
            have hf9 := Hf.out
            have hw9 : IntKind.i64.wrap f = f := by rw [IntKind.wrap_i64]; omega
            clear hf9
            go_wp2_with fail
            refine Bag.region (fun wx => Below wr.heap.size wr wx) (by kernel_rfl) (by kernel_rfl) (Below.refl _ _).drew ?_
            iterate 10 (first
                | (apply Bag.walk_yes (by rfl)
                   (intro wx hx K hK
                    have HXx := HBS.out.next hx
                    have z0_0 : wx.cell? ⟨gs, 0, none⟩ = some (.int .i64 f) := cell_of_row _ _ _ _ _ (0, 0) HXx.r0
                    have z0_1 : wx.cell? ⟨gs, 1, none⟩ = some (.int .i64 f) := cell_of_row _ _ _ _ _ (0, 0) HXx.r0
                    have z0_2 : wx.cell? ⟨gs, 2, none⟩ = some (.int .i64 0) := cell_of_row _ _ _ _ _ (0, 0) HXx.r0
                    have z0_3 : wx.cell? ⟨gs, 3, none⟩ = some (.int .i64 2) := cell_of_row _ _ _ _ _ (0, 0) HXx.r0
                    have z0_4 : wx.cell? ⟨gs, 4, none⟩ = some (.int .i64 0) := cell_of_row _ _ _ _ _ (0, 0) HXx.r0
                    have z0_5 : wx.cell? ⟨gs, 5, none⟩ = some (.int .i64 0) := cell_of_row _ _ _ _ _ (0, 0) HXx.r0
                    first
                      | (go_simp
                         first
                          | (go_at_call 8; (with_reducible refine (FW.out _).mono ?_); rintro e x1 ⟨rfl, hb⟩; exact hK _ (hx.trans (hb.mono hx.size)))
                          | (go_at_call 7; (with_reducible refine (FN.out _).mono ?_); rintro e x1 ⟨rfl, hb⟩; exact hK _ (hx.trans (hb.mono hx.size)))
                          | (go_at_K; exact hK _ hx)))
                   rfl)
                | (refine Bag.walk_no (by rfl) ?_; simp only [Act.put, List.setIfInBounds_toArray, List.set_cons_succ, List.set_cons_zero]))
            refine Bag.walk_nil (fun w61 hb61 => ?_)
            have HB61 := Lib.hid (HBS.out.next hb61)
            clear hb61 HBS
            go_wp2_with fail
            go_ret
            exact ⟨rfl, HB61.out.below⟩
    · obtain rfl : j = N := by omega
      have hX : s = ⟨f, f, 0, 1, 0, 0⟩ := by rw [hs]; unfold Rg.openAt; have := HN.out; rw [if_neg (by omega), if_neg (by omega)]
      subst hX
      simp only at hbr
      have HBR := Lib.hid hbr
      clear hbr hs hlt
      have hlti : ¬ (j : Int) < (j : Int) := by omega
      have hltB : decide ((j : Int) < (j : Int)) = false := decide_eq_false hlti
      have c0_0 : wr.cell? ⟨gs, 0, none⟩ = some (.int .i64 f) := cell_of_row _ _ _ _ _ (0, 0) HBR.out.r0
      have c0_1 : wr.cell? ⟨gs, 1, none⟩ = some (.int .i64 f) := cell_of_row _ _ _ _ _ (0, 0) HBR.out.r0
      have c0_2 : wr.cell? ⟨gs, 2, none⟩ = some (.int .i64 0) := cell_of_row _ _ _ _ _ (0, 0) HBR.out.r0
      have c0_3 : wr.cell? ⟨gs, 3, none⟩ = some (.int .i64 1) := cell_of_row _ _ _ _ _ (0, 0) HBR.out.r0
      have c0_4 : wr.cell? ⟨gs, 4, none⟩ = some (.int .i64 0) := cell_of_row _ _ _ _ _ (0, 0) HBR.out.r0
      have c0_5 : wr.cell? ⟨gs, 5, none⟩ = some (.int .i64 0) := cell_of_row _ _ _ _ _ (0, 0) HBR.out.r0
      have c1_0 : wr.cell? ⟨w.heap.size, 0, none⟩ = some (.int .u8 x) := cell_of_row _ _ _ _ _ (0, 0) HBR.out.r1
      have c1_1 : wr.cell? ⟨w.heap.size, 1, none⟩ = some (.int .u8 y) := cell_of_row _ _ _ _ _ (0, 0) HBR.out.r1
      have c1_2 : wr.cell? ⟨w.heap.size, 2, none⟩ = some (.int .u8 z) := cell_of_row _ _ _ _ _ (0, 0) HBR.out.r1
      go_wp2_with fail
      refine (FN.out _).mono ?_
      rintro e w81 ⟨rfl, hb81⟩
      have HB81 := Lib.hid (HBR.out.next hb81)
      clear c0_0 c0_1 c0_2 c0_3 c0_4 c0_5 c1_0 c1_1 c1_2 hb81 HBR
      go_wp2_with fail
      go_ret
      exact ⟨rfl, HB81.out.below⟩
set_option maxHeartbeats 4000000
set_option maxRecDepth 100000 in
theorem lawRigReverses_lifted (os : Os) (started : os.Started) (H : Type) (enc : TypeId × Value → H) :
    ReturnsInHanded {} Try.checked os 6 .any (Rows.rigReversesSpec.pre6 enc Try.prog Try.f6 Rows.rigReversesRow.domain false) (Rows.rigReversesSpec.post enc Try.prog Try.f6 false true false false) := by
  refine returnsInHanded_of_change (C := Try.checked) own started (by kernel_rfl) Try.func6
    (ChangeSpec.witness6 (enc := enc) (C := Try.checked) false ⟨#[], #[.int .u8 0, .agg #[.int .u8 0, .int .u8 0, .int .u8 0]], []⟩ 8 (by kernel_rfl) (by kernel_rfl) (by kernel_rfl) (by kernel_rfl)) ?_
  intro W base args ds gs before hval0 hW hcnd _
  have hval : ∀ (j : Nat) t v, Try.f6.params[j]? = some t → args[j]? = some v → Value.okWide Try.prog W .any base t v := hval0
  have hW' := hW
  obtain ⟨p, q, hA0, hV, rfl, hfz, hnd⟩ := hW
  have hA : DataW.TrodAll enc Try.prog W 0 (fun _ => true) true Try.f6.params.toList args.toList ds p := hA0
  rw [Try.params6] at hA hval
  obtain ⟨v0, vs0, d0, ds0, p0, q0, hargs, rfl, rfl, h0, r0⟩ := trodAll_cons hA
  obtain ⟨v1, vs1, d1, ds1, p1, q1, rfl, rfl, rfl, h1, r1⟩ := trodAll_cons r0
  obtain ⟨rfl, rfl, rfl⟩ := trodAll_nil r1
  obtain rfl : args = #[v0, v1] := by cases args; simp_all
  obtain ⟨rfl, rfl⟩ := trodVars_none hV
  obtain ⟨x0, rfl, rfl, rfl, g0⟩ := open_int Try.underlying5 (hval 0 5 v0 rfl rfl) h0
  have k1 := h1
  have lt1 : ∀ x ∈ p1, x.block < W.heap.size := by obtain ⟨m, hm⟩ := k1; exact DataW.trod_lt m _ _ _ hm
  obtain ⟨x1, y1, z1, rfl, g1, m1, n1⟩ := open_au8_3 (hval 1 40 v1 rfl rfl) h1
  clear hA0 hval0
  refine (lawRigReverses_walk x0 x1 y1 z1 W g0 g1 m1 n1).mono fun e W' ⟨he, bel⟩ => ?_
  subst he
  exact ⟨_, rfl, _, _, _, [], _, [], hW', trodAll_mk1 (shut_bool Try.underlying4 _), (trodAll_cons_mk (shut_int Try.underlying5 g0) (trodAll_cons_mk (Below.trod laidOut (by kernel_rfl) (of_decide_eq_true (by kernel_rfl)) k1 bel lt1) trodAll_mk0)), rfl, bel.frame _, fun h => by cases h⟩

theorem lawRigReverses_over : Rows.rigReversesRow.holds Try.pinned (OpenSpec.ofChange Rows.rigReversesSpec) :=
  OpenClaim.holds_of_wide 6 Try.f6 rfl rfl rfl rfl rfl rfl rfl ⟨rfl, rfl, rfl, rfl, rfl⟩ rfl rfl rfl rfl rfl (by kernel_rfl) Try.func6 (by kernel_rfl)
    (of_decide_eq_true (by kernel_rfl)) (by unfold Func.isWrapper; first | (rw [if_pos (by decide +kernel)]; kernel_rfl) | (rw [if_neg (by decide +kernel)]; exact ⟨rfl, rfl⟩))
    (fun os started H enc _ => lawRigReverses_lifted os started H enc)

theorem rigReverses_holds : Rows.RigReversesSaid := lawRigReverses_over
#print axioms rigReverses_holds
end Go.Proofs.Ytmfinebkikhceaa
