/- The law RigSteps: the state behind a command, for arbitrary states and for reached ones, and what is reported. No condition. -/
import Derived.Test.YtmfinebkikhceaaBag
import Derived.Test.YtmfinebkikhceaaRgRef
import Derived.Test.YtmfinebkikhceaaTw
import Derived.Test.YtmfinebkikhceaaRgSane
import Derived.Test.YtmfinebkikhceaaRgOpen
namespace Go.Proofs.Ytmfinebkikhceaa
open Go.RowKit Go.ChangeShapes Go.WideShapes Go.ChangeAt
set_option linter.unusedSimpArgs false
set_option linter.unusedVariables false

set_option maxRecDepth 100000 in
set_option maxHeartbeats 2400000 in
theorem lawRigSteps_walk (F0 : Int) (s : Rg) (v : Value) (l : List Od) (w : World) (_h0 : (Lit.int .i64 F0).wf = true) (hv : OV w v l) (_hlen : l.length ≤ maxLen) :
    Calls Try.prog 3 #[.int .i64 F0, s.agg, v] w fun e w' => e = .returned (.bool true) ∧ Below w.heap.size w w' := by
  obtain ⟨VA, vcap, rfl, hVA⟩ := hv
  have HVA := Lib.hid hVA
  have FN := Lib.hid (fun wx => sane16_any wx)
  clear hVA
  obtain ⟨s1, s2, s3, s4, s5, s6⟩ := s
  simp only [Rg.agg]
  by_cases hlen : 100 < l.length
  · have hli : (100 : Int) < (l.length : Int) := by omega
    have HB0 := Lib.hid (bxs1 w (.cells #[.int .i64 s1, .int .i64 s2, .int .i64 s3, .int .i64 s4, .int .i64 s5, .int .i64 s6] 23))
    go_enter Try.func3, Try.ntmps3
    go_wp2_with fail
    refine (FN.out _).mono ?_
    rintro e w1 ⟨rfl, hb1⟩
    have HB1 := Lib.hid (HB0.out.next hb1)
    clear hb1 HB0
    go_wp2_with fail
    go_ret
    exact ⟨rfl, HB1.out.below⟩
  have hli : ¬ (100 : Int) < (l.length : Int) := by omega
  obtain ⟨U, hU, hU0⟩ : ∃ U, IntKind.u64.wrap F0 = U ∧ 0 ≤ U := ⟨_, rfl, by rw [IntKind.wrap_u64]; omega⟩
  have hm1 : IntKind.i64.wrap (U % 31) = U % 31 := by rw [IntKind.wrap_i64]; omega
  have hm2 : U.tmod 31 = U % 31 := Int.tmod_eq_emod_of_nonneg hU0
  obtain ⟨n, hne, hn⟩ : ∃ n : Int, 2 + U % 31 = n ∧ (2 ≤ n ∧ n ≤ 32) := ⟨_, rfl, by omega⟩
  have hm3 : IntKind.i64.wrap n = n := by rw [IntKind.wrap_i64]; omega
  obtain ⟨h, hh1, hh2⟩ : ∃ h : Int, n / 2 = h ∧ (0 ≤ h ∧ h ≤ n - 1) := ⟨_, rfl, by omega⟩
  have hh3 : n.tdiv 2 = h := by rw [Int.tdiv_eq_ediv_of_nonneg (by omega)]; exact hh1
  have Hn := Lib.hid hn
  have Hh := Lib.hid hh2
  clear hU0 hn hh2
  have F1 := Lib.hid (fun wx => rigNew_any h wx)
  have F2 := Lib.hid (fun wx => refNew_any h wx)
  rw [show (Rg.new h).agg = .agg #[.int .i64 h, .int .i64 h, .int .i64 0, .int .i64 2, .int .i64 0, .int .i64 0] from rfl] at F1 F2
  have HB0 := Lib.hid (bxs1 w (.cells #[.int .i64 s1, .int .i64 s2, .int .i64 s3, .int .i64 s4, .int .i64 s5, .int .i64 s6] 23))
  go_enter Try.func3, Try.ntmps3
  go_wp2_with fail
  refine (F1.out _).mono ?_
  rintro e w1 ⟨rfl, hb1⟩
  have HB1 := Lib.hid (HB0.out.next hb1)
  clear hb1 HB0
  go_wp2_with fail
  refine (F2.out _).mono ?_
  rintro e w2 ⟨rfl, hb2⟩
  have HB2 := Lib.hid (HB1.out.next hb2)
  clear hb2 HB1
  go_wp2_with (with_reducible show wpList _ _ _ (Oper.mk _ (.store 23 _ _) _ _ _ _ :: _) _ _; refine Hid.out ?_)
  have lw0 : w.heap.size < w2.heap.size := (Array.getElem?_eq_some_iff.1 HB2.out.r0).1
  have HB20 := Lib.hid ((HB2.out.make (heap_alloc_new w2 (.cells #[.int .i64 0, .int .i64 0, .int .i64 0, .int .i64 0, .int .i64 0, .int .i64 0] 23)) ((Below.refl w2.heap.size w2).alloc (Nat.le_refl _) _)).make (heap_alloc_new (w2.alloc (.cells #[.int .i64 0, .int .i64 0, .int .i64 0, .int .i64 0, .int .i64 0, .int .i64 0] 23)) (.cells #[.int .i64 0, .int .i64 0, .int .i64 0, .int .i64 0, .int .i64 0, .int .i64 0] 23)) ((Below.refl _ _).alloc (Nat.le_refl _) _))
  simp only [World.size_alloc] at HB20
  generalize (w2.alloc (.cells #[.int .i64 0, .int .i64 0, .int .i64 0, .int .i64 0, .int .i64 0, .int .i64 0] 23)).alloc (.cells #[.int .i64 0, .int .i64 0, .int .i64 0, .int .i64 0, .int .i64 0, .int .i64 0] 23) = W at *
  generalize w2.heap.size = ga at *
  clear HB2
  refine Lib.hid ?_
  refine wpList_put rfl 23 _ _ rfl (ga) #[.int .i64 h, .int .i64 h, .int .i64 0, .int .i64 2, .int .i64 0, .int .i64 0] _ 23 rfl rfl HB20.out.r1 (by kernel_rfl) rfl (by kernel_rfl) ?_
  intro w21 hr21 hg21
  have HB21 : Hid (Bx w [(ga + 1, .cells #[.int .i64 0, .int .i64 0, .int .i64 0, .int .i64 0, .int .i64 0, .int .i64 0] 23 (0, 0)), (ga, .cells #[.int .i64 h, .int .i64 h, .int .i64 0, .int .i64 2, .int .i64 0, .int .i64 0] 23 (0, 0)), (w.heap.size, .cells #[.int .i64 s1, .int .i64 s2, .int .i64 s3, .int .i64 s4, .int .i64 s5, .int .i64 s6] 23 (0, 0))] w21) := Lib.hid (HB20.out.put (by omega) hg21.out hr21.out (by simp only [List.mem_cons, List.not_mem_nil, or_false]; rintro p (rfl | rfl | rfl) <;> simp <;> omega))
  clear hr21 hg21 HB20
  go_wp2_with (with_reducible show wpList _ _ _ (Oper.mk _ (.store 23 _ _) _ _ _ _ :: _) _ _; refine Hid.out ?_)
  refine Lib.hid ?_
  refine wpList_put rfl 23 _ _ rfl (ga + 1) #[.int .i64 h, .int .i64 h, .int .i64 0, .int .i64 2, .int .i64 0, .int .i64 0] _ 23 rfl rfl HB21.out.r0 (by kernel_rfl) rfl (by kernel_rfl) ?_
  intro w22 hr22 hg22
  have HB22 : Hid (Bx w [(ga + 1, .cells #[.int .i64 h, .int .i64 h, .int .i64 0, .int .i64 2, .int .i64 0, .int .i64 0] 23 (0, 0)), (ga, .cells #[.int .i64 h, .int .i64 h, .int .i64 0, .int .i64 2, .int .i64 0, .int .i64 0] 23 (0, 0)), (w.heap.size, .cells #[.int .i64 s1, .int .i64 s2, .int .i64 s3, .int .i64 s4, .int .i64 s5, .int .i64 s6] 23 (0, 0))] w22) := Lib.hid (HB21.out.put (by omega) hg22.out hr22.out (by simp only [List.mem_cons, List.not_mem_nil, or_false]; rintro p (rfl | rfl | rfl) <;> simp <;> omega))
  clear hr22 hg22 HB21
  go_wp2_with fail
  clear hU hm1 hm2 hm3 hne hh1 hh3 hli F1 F2
  go_loopw [10] (fun vi wr => ∃ (X : Rg) (i : Nat), vi = .int .i64 i ∧ i ≤ l.length ∧ Rg.Ok n X ∧ Bx w [(ga + 1, .cells #[.int .i64 X.fl, .int .i64 X.tg, .int .i64 X.lf, .int .i64 X.dd, .int .i64 X.am, .int .i64 X.tk] 23 (0, 0)), (ga, .cells #[.int .i64 X.fl, .int .i64 X.tg, .int .i64 X.lf, .int .i64 X.dd, .int .i64 X.am, .int .i64 X.tk] 23 (0, 0)), (w.heap.size, .cells #[.int .i64 s1, .int .i64 s2, .int .i64 s3, .int .i64 s4, .int .i64 s5, .int .i64 s6] 23 (0, 0))] wr) (fun vi _ => l.length - (intOf vi).toNat)
  case atStart => exact ⟨Rg.new h, 0, rfl, Nat.zero_le _, Rg.new_ok Hn.out Hh.out, HB22.out⟩
  case round =>
    obtain ⟨X, i, rfl, hil, hok, hbr⟩ := hrel
    have HOK := Lib.hid hok
    clear hok HB22
    obtain ⟨x1, x2, x3, x4, x5, x6⟩ := X
    simp only at hbr
    have HBR := Lib.hid hbr
    clear hbr
    by_cases hlt : i < l.length
    · have hlti : (i : Int) < (l.length : Int) := by omega
      have hltB : decide ((i : Int) < (l.length : Int)) = true := decide_eq_true hlti
      obtain ⟨tb, toff, rfl, htb, k0, k1⟩ := HVA.out.at_ hlt
      generalize l[i] = od at *
      obtain ⟨cm, ti⟩ := od
      simp only at k0 k1
      have HTK := Lib.hid (fun (wx : World) (h : Below w.heap.size w wx) => (⟨(h.cell (p := ⟨tb, _, none⟩) htb).trans k0, (h.cell (p := ⟨tb, _, none⟩) htb).trans k1⟩ : wx.cell? ⟨tb, toff + i * 2, none⟩ = some (.int .i64 cm) ∧ wx.cell? ⟨tb, toff + i * 2 + 1, none⟩ = some (.int .i64 ti)))
      clear k0 k1 HVA
      go_wp2_with fail
      go_loopw [11] (fun vc wx => ∃ j : Int, -1 ≤ j ∧ j ≤ 7 ∧ vc = .int .i64 j ∧ Bx w [(ga + 1, .cells #[.int .i64 x1, .int .i64 x2, .int .i64 x3, .int .i64 x4, .int .i64 x5, .int .i64 x6] 23 (0, 0)), (ga, .cells #[.int .i64 x1, .int .i64 x2, .int .i64 x3, .int .i64 x4, .int .i64 x5, .int .i64 x6] 23 (0, 0)), (w.heap.size, .cells #[.int .i64 s1, .int .i64 s2, .int .i64 s3, .int .i64 s4, .int .i64 s5, .int .i64 s6] 23 (0, 0))] wx) (fun vc _ => (7 - intOf vc).toNat)
      case atStart => exact ⟨-1, by omega, by omega, rfl, HBR.out⟩
      case round =>
        obtain ⟨j, hj1, hj2, rfl, hbr⟩ := hrel
        have HBS := Lib.hid hbr
        clear hbr HBR
        by_cases hjl : j < 7
        · have hjB : decide (j < 7) = true := decide_eq_true hjl
          have hwj : IntKind.i64.wrap (j + 1) = j + 1 := by rw [IntKind.wrap_i64]; omega
          obtain ⟨Yu, hYu⟩ : ∃ Y, Rg.anyF F0 ⟨s1, s2, s3, s4, s5, s6⟩ j ti = Y := ⟨_, rfl⟩
          have FS1 := Lib.hid (fun wx => rigStep_any F0 ⟨s1, s2, s3, s4, s5, s6⟩ j ti wx)
          have FR1 := Lib.hid (fun wx => refStep_any F0 ⟨s1, s2, s3, s4, s5, s6⟩ j ti wx)
          rw [hYu] at FS1 FR1
          obtain ⟨u1, u2, u3, u4, u5, u6⟩ := Yu
          have eq1 := fun wx => neqRg ⟨u1, u2, u3, u4, u5, u6⟩ ⟨u1, u2, u3, u4, u5, u6⟩ wx
          rw [Rg.eqB_self] at eq1
          simp only [Rg.agg] at FS1 FR1 eq1
          obtain ⟨Yv, hYv⟩ : ∃ Y, Rg.anyF n ⟨x1, x2, x3, x4, x5, x6⟩ j ti = Y := ⟨_, rfl⟩
          have FS2 := Lib.hid (fun wx => rigStep_any n ⟨x1, x2, x3, x4, x5, x6⟩ j ti wx)
          have FR2 := Lib.hid (fun wx => refStep_any n ⟨x1, x2, x3, x4, x5, x6⟩ j ti wx)
          rw [hYv] at FS2 FR2
          obtain ⟨v1, v2, v3, v4, v5, v6⟩ := Yv
          have eq2 := fun wx => neqRg ⟨v1, v2, v3, v4, v5, v6⟩ ⟨v1, v2, v3, v4, v5, v6⟩ wx
          rw [Rg.eqB_self] at eq2
          simp only [Rg.agg] at FS2 FR2 eq2
          clear hYu hYv
          go_wp2_with fail
          refine Bag.region (fun wx => Below wr.heap.size wr wx) (by kernel_rfl) (by kernel_rfl) (Below.refl _ _).drew ?_
          iterate 40 (first
              | (apply Bag.walk_yes (by rfl)
                 (intro wx hx K hK
                  have HXx := HBS.out.next hx
                  have z0_0 : wx.cell? ⟨ga + 1, 0, none⟩ = some (.int .i64 x1) := cell_of_row _ _ _ _ _ (0, 0) HXx.r0
                  have z0_1 : wx.cell? ⟨ga + 1, 1, none⟩ = some (.int .i64 x2) := cell_of_row _ _ _ _ _ (0, 0) HXx.r0
                  have z0_2 : wx.cell? ⟨ga + 1, 2, none⟩ = some (.int .i64 x3) := cell_of_row _ _ _ _ _ (0, 0) HXx.r0
                  have z0_3 : wx.cell? ⟨ga + 1, 3, none⟩ = some (.int .i64 x4) := cell_of_row _ _ _ _ _ (0, 0) HXx.r0
                  have z0_4 : wx.cell? ⟨ga + 1, 4, none⟩ = some (.int .i64 x5) := cell_of_row _ _ _ _ _ (0, 0) HXx.r0
                  have z0_5 : wx.cell? ⟨ga + 1, 5, none⟩ = some (.int .i64 x6) := cell_of_row _ _ _ _ _ (0, 0) HXx.r0
                  have z2_0 : wx.cell? ⟨w.heap.size, 0, none⟩ = some (.int .i64 s1) := cell_of_row _ _ _ _ _ (0, 0) HXx.r2
                  have z2_1 : wx.cell? ⟨w.heap.size, 1, none⟩ = some (.int .i64 s2) := cell_of_row _ _ _ _ _ (0, 0) HXx.r2
                  have z2_2 : wx.cell? ⟨w.heap.size, 2, none⟩ = some (.int .i64 s3) := cell_of_row _ _ _ _ _ (0, 0) HXx.r2
                  have z2_3 : wx.cell? ⟨w.heap.size, 3, none⟩ = some (.int .i64 s4) := cell_of_row _ _ _ _ _ (0, 0) HXx.r2
                  have z2_4 : wx.cell? ⟨w.heap.size, 4, none⟩ = some (.int .i64 s5) := cell_of_row _ _ _ _ _ (0, 0) HXx.r2
                  have z2_5 : wx.cell? ⟨w.heap.size, 5, none⟩ = some (.int .i64 s6) := cell_of_row _ _ _ _ _ (0, 0) HXx.r2
                  obtain ⟨k0, k1⟩ := HTK.out wx HXx.below
                  first
                    | (go_simp
                       first
                        | (go_at_call 10; (with_reducible refine (FS1.out _).mono ?_); rintro e x1 ⟨rfl, hb⟩; exact hK _ (hx.trans (hb.mono hx.size)))
                        | (go_at_call 11; (with_reducible refine (FR1.out _).mono ?_); rintro e x1 ⟨rfl, hb⟩; exact hK _ (hx.trans (hb.mono hx.size)))
                        | (go_at_call 10; (with_reducible refine (FS2.out _).mono ?_); rintro e x1 ⟨rfl, hb⟩; exact hK _ (hx.trans (hb.mono hx.size)))
                        | (go_at_call 11; (with_reducible refine (FR2.out _).mono ?_); rintro e x1 ⟨rfl, hb⟩; exact hK _ (hx.trans (hb.mono hx.size)))
                        | (go_at_K; exact hK _ hx)))
                 rfl)
              | (refine Bag.walk_no (by rfl) ?_; simp only [Act.put, List.setIfInBounds_toArray, List.set_cons_succ, List.set_cons_zero]))
          refine Bag.walk_nil (fun w23 hb23 => ?_)
          have HB23 := Lib.hid (HBS.out.next hb23)
          clear hb23 HBS
          go_wp2_with fail
          go_roundw
          case rel => exact ⟨j + 1, by omega, by omega, by go_num, HB23.out⟩
          case measure => simp [intOf]; omega
        · have hjB : decide (j < 7) = false := decide_eq_false hjl
          obtain ⟨V, hV, hV0⟩ : ∃ V, IntKind.u64.wrap cm = V ∧ 0 ≤ V := ⟨_, rfl, by rw [IntKind.wrap_u64]; omega⟩
          have hv1 : IntKind.i64.wrap (V % 6) = V % 6 := by rw [IntKind.wrap_i64]; omega
          have hv2 : V.tmod 6 = V % 6 := Int.tmod_eq_emod_of_nonneg hV0
          obtain ⟨m, hm⟩ : ∃ m : Int, V % 6 = m := ⟨_, rfl⟩
          obtain ⟨tb7, ht7⟩ : ∃ t7, bits .and .i64 ti 7 = t7 := ⟨_, rfl⟩
          obtain ⟨k0, k1⟩ := HTK.out wr HBS.out.below
          clear hV0
          have c2_0 : wr.cell? ⟨w.heap.size, 0, none⟩ = some (.int .i64 s1) := cell_of_row _ _ _ _ _ (0, 0) HBS.out.r2
          have c2_1 : wr.cell? ⟨w.heap.size, 1, none⟩ = some (.int .i64 s2) := cell_of_row _ _ _ _ _ (0, 0) HBS.out.r2
          have c2_2 : wr.cell? ⟨w.heap.size, 2, none⟩ = some (.int .i64 s3) := cell_of_row _ _ _ _ _ (0, 0) HBS.out.r2
          have c2_3 : wr.cell? ⟨w.heap.size, 3, none⟩ = some (.int .i64 s4) := cell_of_row _ _ _ _ _ (0, 0) HBS.out.r2
          have c2_4 : wr.cell? ⟨w.heap.size, 4, none⟩ = some (.int .i64 s5) := cell_of_row _ _ _ _ _ (0, 0) HBS.out.r2
          have c2_5 : wr.cell? ⟨w.heap.size, 5, none⟩ = some (.int .i64 s6) := cell_of_row _ _ _ _ _ (0, 0) HBS.out.r2
          go_wp2_with fail
          try simp only [hm]
          clear hV hv1 hv2 k0 k1 hm
          clear c2_0 c2_1 c2_2 c2_3 c2_4 c2_5
          obtain ⟨Yy, hYy⟩ : ∃ Y, Rg.anyF n ⟨x1, x2, x3, x4, x5, x6⟩ m tb7 = Y := ⟨_, rfl⟩
          have FS3 := Lib.hid (fun wx => rigStep_any n ⟨x1, x2, x3, x4, x5, x6⟩ m tb7 wx)
          have FR3 := Lib.hid (fun wx => refStep_any n ⟨x1, x2, x3, x4, x5, x6⟩ m tb7 wx)
          rw [hYy] at FS3 FR3
          obtain ⟨y1, y2, y3, y4, y5, y6⟩ := Yy
          have eq3 := fun wx => neqRg ⟨y1, y2, y3, y4, y5, y6⟩ ⟨y1, y2, y3, y4, y5, y6⟩ wx
          rw [Rg.eqB_self] at eq3
          simp only [Rg.agg] at FS3 FR3 eq3
          have HOK2 := Lib.hid (show Rg.Ok n ⟨y1, y2, y3, y4, y5, y6⟩ from hYy ▸ Rg.anyF_good HOK.out)
          clear hYy
          have hwb : wrap64 ti = wrap64 ti := rfl
          have q1x : ga < ga + 1 := by omega
          go_wp2_with fail
          have q0 : ga + 1 < wr.heap.size := (Array.getElem?_eq_some_iff.1 HBS.out.r0).1
          have q1 : ga < wr.heap.size := (Array.getElem?_eq_some_iff.1 HBS.out.r1).1
          have q2 : w.heap.size < wr.heap.size := (Array.getElem?_eq_some_iff.1 HBS.out.r2).1
          refine Chain.chain (fun p wx => Tw (wr) (ga) #[.int .i64 x1, .int .i64 x2, .int .i64 x3, .int .i64 x4, .int .i64 x5, .int .i64 x6] #[.int .i64 y1, .int .i64 y2, .int .i64 y3, .int .i64 y4, .int .i64 y5, .int .i64 y6] 23 (ga + 1) #[.int .i64 x1, .int .i64 x2, .int .i64 x3, .int .i64 x4, .int .i64 x5, .int .i64 x6] #[.int .i64 y1, .int .i64 y2, .int .i64 y3, .int .i64 y4, .int .i64 y5, .int .i64 y6] 23 p wx) (fun _ _ => False) [20, 21] (by kernel_rfl) (by kernel_rfl) (fun _ _ _ _ h => h.elim) (Tw.start (HBS.out.r1) (HBS.out.r0)) ?_
          apply Chain.walk_quiet (by rfl) (by decide)
          · intro p wx hp hwn hx K hK
            obtain ⟨k0, k1⟩ := HTK.out wx (HBS.out.below.trans (hx.below HBS.out.below.size (by omega) (by omega)))
            go_simp
            first
              | (go_at_call 10; (with_reducible refine (FS3.out _).mono ?_); rintro e x1 ⟨rfl, hb⟩; exact hK _ (hx.next hb))
              | (go_at_call 11; (with_reducible refine (FR3.out _).mono ?_); rintro e x1 ⟨rfl, hb⟩; exact hK _ (hx.next hb))
              | (go_at_K; exact hK _ hx)
          · exact ⟨_, rfl⟩
          try simp only [Act.put, List.setIfInBounds_toArray, List.set_cons_succ, List.set_cons_zero]
          apply Chain.walk_quiet (by rfl) (by decide)
          · intro p wx hp hwn hx K hK
            obtain rfl : p = 0 := by have h : p ≤ 2 := hp; rcases (show p = 0 ∨ p = 1 ∨ p = 2 by omega) with h | h | h; exact h; (subst h; exact absurd ((Eq.symm (show _ = false by kernel_rfl)).trans hwn) Bool.false_ne_true); (subst h; exact absurd ((Eq.symm (show _ = false by kernel_rfl)).trans hwn) Bool.false_ne_true)
            have z1_0 : wx.cell? ⟨ga, 0, none⟩ = some (.int .i64 x1) := cell_of_row _ _ _ _ _ (0, 0) hx.first
            have z1_1 : wx.cell? ⟨ga, 1, none⟩ = some (.int .i64 x2) := cell_of_row _ _ _ _ _ (0, 0) hx.first
            have z1_2 : wx.cell? ⟨ga, 2, none⟩ = some (.int .i64 x3) := cell_of_row _ _ _ _ _ (0, 0) hx.first
            have z1_3 : wx.cell? ⟨ga, 3, none⟩ = some (.int .i64 x4) := cell_of_row _ _ _ _ _ (0, 0) hx.first
            have z1_4 : wx.cell? ⟨ga, 4, none⟩ = some (.int .i64 x5) := cell_of_row _ _ _ _ _ (0, 0) hx.first
            have z1_5 : wx.cell? ⟨ga, 5, none⟩ = some (.int .i64 x6) := cell_of_row _ _ _ _ _ (0, 0) hx.first
            obtain ⟨k0, k1⟩ := HTK.out wx (HBS.out.below.trans (hx.below HBS.out.below.size (by omega) (by omega)))
            go_simp
            first
              | (go_at_call 10; (with_reducible refine (FS3.out _).mono ?_); rintro e x1 ⟨rfl, hb⟩; exact hK _ (hx.next hb))
              | (go_at_call 11; (with_reducible refine (FR3.out _).mono ?_); rintro e x1 ⟨rfl, hb⟩; exact hK _ (hx.next hb))
              | (go_at_K; exact hK _ hx)
          · exact ⟨_, rfl⟩
          try simp only [Act.put, List.setIfInBounds_toArray, List.set_cons_succ, List.set_cons_zero]
          apply Chain.walk_quiet (by rfl) (by decide)
          · intro p wx hp hwn hx K hK
            obtain ⟨k0, k1⟩ := HTK.out wx (HBS.out.below.trans (hx.below HBS.out.below.size (by omega) (by omega)))
            go_simp
            first
              | (go_at_call 10; (with_reducible refine (FS3.out _).mono ?_); rintro e x1 ⟨rfl, hb⟩; exact hK _ (hx.next hb))
              | (go_at_call 11; (with_reducible refine (FR3.out _).mono ?_); rintro e x1 ⟨rfl, hb⟩; exact hK _ (hx.next hb))
              | (go_at_K; exact hK _ hx)
          · exact ⟨_, rfl⟩
          try simp only [Act.put, List.setIfInBounds_toArray, List.set_cons_succ, List.set_cons_zero]
          apply Chain.walk_quiet (by rfl) (by decide)
          · intro p wx hp hwn hx K hK
            obtain ⟨k0, k1⟩ := HTK.out wx (HBS.out.below.trans (hx.below HBS.out.below.size (by omega) (by omega)))
            go_simp
            first
              | (go_at_call 10; (with_reducible refine (FS3.out _).mono ?_); rintro e x1 ⟨rfl, hb⟩; exact hK _ (hx.next hb))
              | (go_at_call 11; (with_reducible refine (FR3.out _).mono ?_); rintro e x1 ⟨rfl, hb⟩; exact hK _ (hx.next hb))
              | (go_at_K; exact hK _ hx)
          · exact ⟨_, rfl⟩
          try simp only [Act.put, List.setIfInBounds_toArray, List.set_cons_succ, List.set_cons_zero]
          apply Chain.walk_quiet (by rfl) (by decide)
          · intro p wx hp hwn hx K hK
            obtain ⟨k0, k1⟩ := HTK.out wx (HBS.out.below.trans (hx.below HBS.out.below.size (by omega) (by omega)))
            go_simp
            first
              | (go_at_call 10; (with_reducible refine (FS3.out _).mono ?_); rintro e x1 ⟨rfl, hb⟩; exact hK _ (hx.next hb))
              | (go_at_call 11; (with_reducible refine (FR3.out _).mono ?_); rintro e x1 ⟨rfl, hb⟩; exact hK _ (hx.next hb))
              | (go_at_K; exact hK _ hx)
          · exact ⟨_, rfl⟩
          try simp only [Act.put, List.setIfInBounds_toArray, List.set_cons_succ, List.set_cons_zero]
          apply Chain.walk_quiet (by rfl) (by decide)
          · intro p wx hp hwn hx K hK
            obtain ⟨k0, k1⟩ := HTK.out wx (HBS.out.below.trans (hx.below HBS.out.below.size (by omega) (by omega)))
            go_simp
            first
              | (go_at_call 10; (with_reducible refine (FS3.out _).mono ?_); rintro e x1 ⟨rfl, hb⟩; exact hK _ (hx.next hb))
              | (go_at_call 11; (with_reducible refine (FR3.out _).mono ?_); rintro e x1 ⟨rfl, hb⟩; exact hK _ (hx.next hb))
              | (go_at_K; exact hK _ hx)
          · exact ⟨_, rfl⟩
          try simp only [Act.put, List.setIfInBounds_toArray, List.set_cons_succ, List.set_cons_zero]
          apply Chain.walk_quiet (by rfl) (by decide)
          · intro p wx hp hwn hx K hK
            obtain ⟨k0, k1⟩ := HTK.out wx (HBS.out.below.trans (hx.below HBS.out.below.size (by omega) (by omega)))
            go_simp
            first
              | (go_at_call 10; (with_reducible refine (FS3.out _).mono ?_); rintro e x1 ⟨rfl, hb⟩; exact hK _ (hx.next hb))
              | (go_at_call 11; (with_reducible refine (FR3.out _).mono ?_); rintro e x1 ⟨rfl, hb⟩; exact hK _ (hx.next hb))
              | (go_at_K; exact hK _ hx)
          · exact ⟨_, rfl⟩
          try simp only [Act.put, List.setIfInBounds_toArray, List.set_cons_succ, List.set_cons_zero]
          apply Chain.walk_quiet (by rfl) (by decide)
          · intro p wx hp hwn hx K hK
            obtain ⟨k0, k1⟩ := HTK.out wx (HBS.out.below.trans (hx.below HBS.out.below.size (by omega) (by omega)))
            go_simp
            first
              | (go_at_call 10; (with_reducible refine (FS3.out _).mono ?_); rintro e x1 ⟨rfl, hb⟩; exact hK _ (hx.next hb))
              | (go_at_call 11; (with_reducible refine (FR3.out _).mono ?_); rintro e x1 ⟨rfl, hb⟩; exact hK _ (hx.next hb))
              | (go_at_K; exact hK _ hx)
          · exact ⟨_, rfl⟩
          try simp only [Act.put, List.setIfInBounds_toArray, List.set_cons_succ, List.set_cons_zero]
          apply Chain.walk_quiet (by rfl) (by decide)
          · intro p wx hp hwn hx K hK
            obtain ⟨k0, k1⟩ := HTK.out wx (HBS.out.below.trans (hx.below HBS.out.below.size (by omega) (by omega)))
            go_simp
            first
              | (go_at_call 10; (with_reducible refine (FS3.out _).mono ?_); rintro e x1 ⟨rfl, hb⟩; exact hK _ (hx.next hb))
              | (go_at_call 11; (with_reducible refine (FR3.out _).mono ?_); rintro e x1 ⟨rfl, hb⟩; exact hK _ (hx.next hb))
              | (go_at_K; exact hK _ hx)
          · exact ⟨_, rfl⟩
          try simp only [Act.put, List.setIfInBounds_toArray, List.set_cons_succ, List.set_cons_zero]
          apply Chain.walk_quiet (by rfl) (by decide)
          · intro p wx hp hwn hx K hK
            obtain ⟨k0, k1⟩ := HTK.out wx (HBS.out.below.trans (hx.below HBS.out.below.size (by omega) (by omega)))
            go_simp
            first
              | (go_at_call 10; (with_reducible refine (FS3.out _).mono ?_); rintro e x1 ⟨rfl, hb⟩; exact hK _ (hx.next hb))
              | (go_at_call 11; (with_reducible refine (FR3.out _).mono ?_); rintro e x1 ⟨rfl, hb⟩; exact hK _ (hx.next hb))
              | (go_at_K; exact hK _ hx)
          · exact ⟨_, rfl⟩
          try simp only [Act.put, List.setIfInBounds_toArray, List.set_cons_succ, List.set_cons_zero]
          apply Chain.walk_quiet (by rfl) (by decide)
          · intro p wx hp hwn hx K hK
            obtain ⟨k0, k1⟩ := HTK.out wx (HBS.out.below.trans (hx.below HBS.out.below.size (by omega) (by omega)))
            go_simp
            first
              | (go_at_call 10; (with_reducible refine (FS3.out _).mono ?_); rintro e x1 ⟨rfl, hb⟩; exact hK _ (hx.next hb))
              | (go_at_call 11; (with_reducible refine (FR3.out _).mono ?_); rintro e x1 ⟨rfl, hb⟩; exact hK _ (hx.next hb))
              | (go_at_K; exact hK _ hx)
          · exact ⟨_, rfl⟩
          try simp only [Act.put, List.setIfInBounds_toArray, List.set_cons_succ, List.set_cons_zero]
          apply Chain.walk_quiet (by rfl) (by decide)
          · intro p wx hp hwn hx K hK
            have hp1 : p ≤ 1 := by have h : p ≤ 2 := hp; rcases (show p = 0 ∨ p = 1 ∨ p = 2 by omega) with h | h | h; omega; omega; subst h; exact absurd ((Eq.symm (show _ = false by kernel_rfl)).trans hwn) Bool.false_ne_true
            have z0_0 : wx.cell? ⟨ga + 1, 0, none⟩ = some (.int .i64 x1) := cell_of_row _ _ _ _ _ (0, 0) (hx.second hp1)
            have z0_1 : wx.cell? ⟨ga + 1, 1, none⟩ = some (.int .i64 x2) := cell_of_row _ _ _ _ _ (0, 0) (hx.second hp1)
            have z0_2 : wx.cell? ⟨ga + 1, 2, none⟩ = some (.int .i64 x3) := cell_of_row _ _ _ _ _ (0, 0) (hx.second hp1)
            have z0_3 : wx.cell? ⟨ga + 1, 3, none⟩ = some (.int .i64 x4) := cell_of_row _ _ _ _ _ (0, 0) (hx.second hp1)
            have z0_4 : wx.cell? ⟨ga + 1, 4, none⟩ = some (.int .i64 x5) := cell_of_row _ _ _ _ _ (0, 0) (hx.second hp1)
            have z0_5 : wx.cell? ⟨ga + 1, 5, none⟩ = some (.int .i64 x6) := cell_of_row _ _ _ _ _ (0, 0) (hx.second hp1)
            obtain ⟨k0, k1⟩ := HTK.out wx (HBS.out.below.trans (hx.below HBS.out.below.size (by omega) (by omega)))
            go_simp
            first
              | (go_at_call 10; (with_reducible refine (FS3.out _).mono ?_); rintro e x1 ⟨rfl, hb⟩; exact hK _ (hx.next hb))
              | (go_at_call 11; (with_reducible refine (FR3.out _).mono ?_); rintro e x1 ⟨rfl, hb⟩; exact hK _ (hx.next hb))
              | (go_at_K; exact hK _ hx)
          · exact ⟨_, rfl⟩
          try simp only [Act.put, List.setIfInBounds_toArray, List.set_cons_succ, List.set_cons_zero]
          apply Chain.walk_quiet (by rfl) (by decide)
          · intro p wx hp hwn hx K hK
            obtain ⟨k0, k1⟩ := HTK.out wx (HBS.out.below.trans (hx.below HBS.out.below.size (by omega) (by omega)))
            go_simp
            first
              | (go_at_call 10; (with_reducible refine (FS3.out _).mono ?_); rintro e x1 ⟨rfl, hb⟩; exact hK _ (hx.next hb))
              | (go_at_call 11; (with_reducible refine (FR3.out _).mono ?_); rintro e x1 ⟨rfl, hb⟩; exact hK _ (hx.next hb))
              | (go_at_K; exact hK _ hx)
          · exact ⟨_, rfl⟩
          try simp only [Act.put, List.setIfInBounds_toArray, List.set_cons_succ, List.set_cons_zero]
          apply Chain.walk_quiet (by rfl) (by decide)
          · intro p wx hp hwn hx K hK
            obtain ⟨k0, k1⟩ := HTK.out wx (HBS.out.below.trans (hx.below HBS.out.below.size (by omega) (by omega)))
            go_simp
            first
              | (go_at_call 10; (with_reducible refine (FS3.out _).mono ?_); rintro e x1 ⟨rfl, hb⟩; exact hK _ (hx.next hb))
              | (go_at_call 11; (with_reducible refine (FR3.out _).mono ?_); rintro e x1 ⟨rfl, hb⟩; exact hK _ (hx.next hb))
              | (go_at_K; exact hK _ hx)
          · exact ⟨_, rfl⟩
          try simp only [Act.put, List.setIfInBounds_toArray, List.set_cons_succ, List.set_cons_zero]
          apply Chain.walk_quiet (by rfl) (by decide)
          · intro p wx hp hwn hx K hK
            obtain ⟨k0, k1⟩ := HTK.out wx (HBS.out.below.trans (hx.below HBS.out.below.size (by omega) (by omega)))
            go_simp
            first
              | (go_at_call 10; (with_reducible refine (FS3.out _).mono ?_); rintro e x1 ⟨rfl, hb⟩; exact hK _ (hx.next hb))
              | (go_at_call 11; (with_reducible refine (FR3.out _).mono ?_); rintro e x1 ⟨rfl, hb⟩; exact hK _ (hx.next hb))
              | (go_at_K; exact hK _ hx)
          · exact ⟨_, rfl⟩
          try simp only [Act.put, List.setIfInBounds_toArray, List.set_cons_succ, List.set_cons_zero]
          apply Chain.walk_quiet (by rfl) (by decide)
          · intro p wx hp hwn hx K hK
            obtain ⟨k0, k1⟩ := HTK.out wx (HBS.out.below.trans (hx.below HBS.out.below.size (by omega) (by omega)))
            go_simp
            first
              | (go_at_call 10; (with_reducible refine (FS3.out _).mono ?_); rintro e x1 ⟨rfl, hb⟩; exact hK _ (hx.next hb))
              | (go_at_call 11; (with_reducible refine (FR3.out _).mono ?_); rintro e x1 ⟨rfl, hb⟩; exact hK _ (hx.next hb))
              | (go_at_K; exact hK _ hx)
          · exact ⟨_, rfl⟩
          try simp only [Act.put, List.setIfInBounds_toArray, List.set_cons_succ, List.set_cons_zero]
          apply Chain.walk_quiet (by rfl) (by decide)
          · intro p wx hp hwn hx K hK
            obtain ⟨k0, k1⟩ := HTK.out wx (HBS.out.below.trans (hx.below HBS.out.below.size (by omega) (by omega)))
            go_simp
            first
              | (go_at_call 10; (with_reducible refine (FS3.out _).mono ?_); rintro e x1 ⟨rfl, hb⟩; exact hK _ (hx.next hb))
              | (go_at_call 11; (with_reducible refine (FR3.out _).mono ?_); rintro e x1 ⟨rfl, hb⟩; exact hK _ (hx.next hb))
              | (go_at_K; exact hK _ hx)
          · exact ⟨_, rfl⟩
          try simp only [Act.put, List.setIfInBounds_toArray, List.set_cons_succ, List.set_cons_zero]
          apply Chain.walk_quiet (by rfl) (by decide)
          · intro p wx hp hwn hx K hK
            obtain ⟨k0, k1⟩ := HTK.out wx (HBS.out.below.trans (hx.below HBS.out.below.size (by omega) (by omega)))
            go_simp
            first
              | (go_at_call 10; (with_reducible refine (FS3.out _).mono ?_); rintro e x1 ⟨rfl, hb⟩; exact hK _ (hx.next hb))
              | (go_at_call 11; (with_reducible refine (FR3.out _).mono ?_); rintro e x1 ⟨rfl, hb⟩; exact hK _ (hx.next hb))
              | (go_at_K; exact hK _ hx)
          · exact ⟨_, rfl⟩
          try simp only [Act.put, List.setIfInBounds_toArray, List.set_cons_succ, List.set_cons_zero]
          apply Chain.walk_quiet (by rfl) (by decide)
          · intro p wx hp hwn hx K hK
            obtain ⟨k0, k1⟩ := HTK.out wx (HBS.out.below.trans (hx.below HBS.out.below.size (by omega) (by omega)))
            go_simp
            first
              | (go_at_call 10; (with_reducible refine (FS3.out _).mono ?_); rintro e x1 ⟨rfl, hb⟩; exact hK _ (hx.next hb))
              | (go_at_call 11; (with_reducible refine (FR3.out _).mono ?_); rintro e x1 ⟨rfl, hb⟩; exact hK _ (hx.next hb))
              | (go_at_K; exact hK _ hx)
          · exact ⟨_, rfl⟩
          try simp only [Act.put, List.setIfInBounds_toArray, List.set_cons_succ, List.set_cons_zero]
          apply Chain.walk_quiet (by rfl) (by decide)
          · intro p wx hp hwn hx K hK
            obtain ⟨k0, k1⟩ := HTK.out wx (HBS.out.below.trans (hx.below HBS.out.below.size (by omega) (by omega)))
            go_simp
            first
              | (go_at_call 10; (with_reducible refine (FS3.out _).mono ?_); rintro e x1 ⟨rfl, hb⟩; exact hK _ (hx.next hb))
              | (go_at_call 11; (with_reducible refine (FR3.out _).mono ?_); rintro e x1 ⟨rfl, hb⟩; exact hK _ (hx.next hb))
              | (go_at_K; exact hK _ hx)
          · exact ⟨_, rfl⟩
          try simp only [Act.put, List.setIfInBounds_toArray, List.set_cons_succ, List.set_cons_zero]
          apply Chain.walk_turn 0 (by rfl) (by rfl)
          · intro wx hx K hK
            exact Tw.store1 hx (by omega) 23 _ _ rfl rfl rfl (by kernel_rfl) rfl (by kernel_rfl) (fun w2 h => hK w2 h)
          · exact ⟨undef, rfl⟩
          try simp only [Act.put, List.setIfInBounds_toArray, List.set_cons_succ, List.set_cons_zero]
          apply Chain.walk_turn 1 (by rfl) (by rfl)
          · intro wx hx K hK
            exact Tw.store2 hx (by omega) 23 _ _ rfl rfl rfl (by kernel_rfl) rfl (by kernel_rfl) (fun w2 h => hK w2 h)
          · exact ⟨undef, rfl⟩
          try simp only [Act.put, List.setIfInBounds_toArray, List.set_cons_succ, List.set_cons_zero]
          refine Chain.walk_nil (fun w23 hT23 => ?_)
          replace hT23 : Tw (wr) (ga) #[.int .i64 x1, .int .i64 x2, .int .i64 x3, .int .i64 x4, .int .i64 x5, .int .i64 x6] #[.int .i64 y1, .int .i64 y2, .int .i64 y3, .int .i64 y4, .int .i64 y5, .int .i64 y6] 23 (ga + 1) #[.int .i64 x1, .int .i64 x2, .int .i64 x3, .int .i64 x4, .int .i64 x5, .int .i64 x6] #[.int .i64 y1, .int .i64 y2, .int .i64 y3, .int .i64 y4, .int .i64 y5, .int .i64 y6] 23 2 w23 := hT23
          try simp only [Act.put, List.setIfInBounds_toArray, List.set_cons_succ, List.set_cons_zero]
          have HB23 : Hid (Bx w [(ga + 1, .cells #[.int .i64 y1, .int .i64 y2, .int .i64 y3, .int .i64 y4, .int .i64 y5, .int .i64 y6] 23 (0, 0)), (ga, .cells #[.int .i64 y1, .int .i64 y2, .int .i64 y3, .int .i64 y4, .int .i64 y5, .int .i64 y6] 23 (0, 0)), (w.heap.size, .cells #[.int .i64 s1, .int .i64 s2, .int .i64 s3, .int .i64 s4, .int .i64 s5, .int .i64 s6] 23 (0, 0))] w23) := Lib.hid (hT23.done HBS.out (by omega) (by omega) (by simp only [List.mem_cons, List.not_mem_nil, or_false]; rintro p (rfl | rfl | rfl) <;> simp <;> omega))
          clear hT23 HBS q0 q1 q2
          obtain ⟨e, he⟩ : ∃ e : Int, (i : Int) % 2 = e := ⟨_, rfl⟩
          have het : (i : Int).tmod 2 = e := by rw [Int.tmod_eq_emod_of_nonneg (by omega)]; exact he
          obtain ⟨q, hq⟩ : ∃ q, (e == 0) = q := ⟨_, rfl⟩
          have FP := Lib.hid (fun wx => rigReport_any ⟨y1, y2, y3, y4, y5, y6⟩ q wx)
          have FQ := Lib.hid (fun wx => refReport_any ⟨y1, y2, y3, y4, y5, y6⟩ q wx)
          obtain ⟨g, hg⟩ : ∃ g, Rg.report ⟨y1, y2, y3, y4, y5, y6⟩ q = g := ⟨_, rfl⟩
          rw [hg] at FP FQ
          obtain ⟨g1, g2, g3, g4⟩ := g
          have eqf := fun wx => neqFb ⟨g1, g2, g3, g4⟩ ⟨g1, g2, g3, g4⟩ wx
          rw [Fb.eqB_self] at eqf
          have FI := Lib.hid (fun wx => rigIs_any n ⟨y1, y2, y3, y4, y5, y6⟩ wx)
          rw [Rg.isB_iff.2 HOK2.out] at FI
          simp only [Rg.agg, Fb.agg] at FP FQ FI eqf
          clear hg
          go_wp2_with fail
          refine Bag.region (fun wx => Below w23.heap.size w23 wx) (by kernel_rfl) (by kernel_rfl) (Below.refl _ _).drew ?_
          iterate 22 (first
              | (apply Bag.walk_yes (by rfl)
                 (intro wx hx K hK
                  have HXx := HB23.out.next hx
                  have z0_0 : wx.cell? ⟨ga + 1, 0, none⟩ = some (.int .i64 y1) := cell_of_row _ _ _ _ _ (0, 0) HXx.r0
                  have z0_1 : wx.cell? ⟨ga + 1, 1, none⟩ = some (.int .i64 y2) := cell_of_row _ _ _ _ _ (0, 0) HXx.r0
                  have z0_2 : wx.cell? ⟨ga + 1, 2, none⟩ = some (.int .i64 y3) := cell_of_row _ _ _ _ _ (0, 0) HXx.r0
                  have z0_3 : wx.cell? ⟨ga + 1, 3, none⟩ = some (.int .i64 y4) := cell_of_row _ _ _ _ _ (0, 0) HXx.r0
                  have z0_4 : wx.cell? ⟨ga + 1, 4, none⟩ = some (.int .i64 y5) := cell_of_row _ _ _ _ _ (0, 0) HXx.r0
                  have z0_5 : wx.cell? ⟨ga + 1, 5, none⟩ = some (.int .i64 y6) := cell_of_row _ _ _ _ _ (0, 0) HXx.r0
                  have z1_0 : wx.cell? ⟨ga, 0, none⟩ = some (.int .i64 y1) := cell_of_row _ _ _ _ _ (0, 0) HXx.r1
                  have z1_1 : wx.cell? ⟨ga, 1, none⟩ = some (.int .i64 y2) := cell_of_row _ _ _ _ _ (0, 0) HXx.r1
                  have z1_2 : wx.cell? ⟨ga, 2, none⟩ = some (.int .i64 y3) := cell_of_row _ _ _ _ _ (0, 0) HXx.r1
                  have z1_3 : wx.cell? ⟨ga, 3, none⟩ = some (.int .i64 y4) := cell_of_row _ _ _ _ _ (0, 0) HXx.r1
                  have z1_4 : wx.cell? ⟨ga, 4, none⟩ = some (.int .i64 y5) := cell_of_row _ _ _ _ _ (0, 0) HXx.r1
                  have z1_5 : wx.cell? ⟨ga, 5, none⟩ = some (.int .i64 y6) := cell_of_row _ _ _ _ _ (0, 0) HXx.r1
                  first
                    | (go_simp
                       first
                        | (go_at_call 12; (with_reducible refine (FP.out _).mono ?_); rintro e x1 ⟨rfl, hb⟩; exact hK _ (hx.trans (hb.mono hx.size)))
                        | (go_at_call 13; (with_reducible refine (FQ.out _).mono ?_); rintro e x1 ⟨rfl, hb⟩; exact hK _ (hx.trans (hb.mono hx.size)))
                        | (go_at_call 14; (with_reducible refine (FI.out _).mono ?_); rintro e x1 ⟨rfl, hb⟩; exact hK _ (hx.trans (hb.mono hx.size)))
                        | (go_at_K; exact hK _ hx)))
                 rfl)
              | (refine Bag.walk_no (by rfl) ?_; simp only [Act.put, List.setIfInBounds_toArray, List.set_cons_succ, List.set_cons_zero]))
          refine Bag.walk_nil (fun w24 hb24 => ?_)
          have HB24 := Lib.hid (HB23.out.next hb24)
          clear hb24 HB23
          have hwi : IntKind.i64.wrap ((i : Int) + 1) = ((i + 1 : Nat) : Int) := by rw [IntKind.wrap_i64]; omega
          clear he het hq
          go_wp2_with fail
          go_roundw
          case rel => exact ⟨⟨y1, y2, y3, y4, y5, y6⟩, i + 1, by go_num, by omega, HOK2.out, HB24.out⟩
          case measure => simp [intOf]; omega
    · obtain rfl : i = l.length := by omega
      have hlti : ¬ (l.length : Int) < (l.length : Int) := by omega
      have hltB : decide ((l.length : Int) < (l.length : Int)) = false := decide_eq_false hlti
      have FI1 := Lib.hid (fun wx => rigIs_any F0 ⟨s1, s2, s3, s4, s5, s6⟩ wx)
      have FI2 := Lib.hid (fun wx => refIs_any F0 ⟨s1, s2, s3, s4, s5, s6⟩ wx)
      have FI3 := Lib.hid (fun wx => rigIs_any n ⟨s1, s2, s3, s4, s5, s6⟩ wx)
      have FI4 := Lib.hid (fun wx => refIs_any n ⟨s1, s2, s3, s4, s5, s6⟩ wx)
      generalize Rg.isB F0 ⟨s1, s2, s3, s4, s5, s6⟩ = p1 at *
      generalize Rg.isB n ⟨s1, s2, s3, s4, s5, s6⟩ = p2 at *
      have e1 : (p1 == p1) = true := by simp
      have e2 : (p2 == p2) = true := by simp
      have FA := Lib.hid (fun wx => rigNew_any F0 wx)
      have FB := Lib.hid (fun wx => refNew_any F0 wx)
      have eqn := fun wx => eqlRg (Rg.new F0) (Rg.new F0) wx
      rw [Rg.eqB_self] at eqn
      rw [show (Rg.new F0).agg = .agg #[.int .i64 F0, .int .i64 F0, .int .i64 0, .int .i64 2, .int .i64 0, .int .i64 0] from rfl] at FA FB
      simp only [Rg.new, Rg.agg] at eqn FI1 FI2 FI3 FI4
      go_wp2_with fail
      refine Bag.region (fun wx => Below wr.heap.size wr wx) (by kernel_rfl) (by kernel_rfl) (Below.refl _ _).drew ?_
      iterate 27 (first
          | (apply Bag.walk_yes (by rfl)
             (intro wx hx K hK
              have HXx := HBR.out.next hx
              have z2_0 : wx.cell? ⟨w.heap.size, 0, none⟩ = some (.int .i64 s1) := cell_of_row _ _ _ _ _ (0, 0) HXx.r2
              have z2_1 : wx.cell? ⟨w.heap.size, 1, none⟩ = some (.int .i64 s2) := cell_of_row _ _ _ _ _ (0, 0) HXx.r2
              have z2_2 : wx.cell? ⟨w.heap.size, 2, none⟩ = some (.int .i64 s3) := cell_of_row _ _ _ _ _ (0, 0) HXx.r2
              have z2_3 : wx.cell? ⟨w.heap.size, 3, none⟩ = some (.int .i64 s4) := cell_of_row _ _ _ _ _ (0, 0) HXx.r2
              have z2_4 : wx.cell? ⟨w.heap.size, 4, none⟩ = some (.int .i64 s5) := cell_of_row _ _ _ _ _ (0, 0) HXx.r2
              have z2_5 : wx.cell? ⟨w.heap.size, 5, none⟩ = some (.int .i64 s6) := cell_of_row _ _ _ _ _ (0, 0) HXx.r2
              first
                | (go_simp
                   first
                    | (go_at_call 14; (with_reducible refine (FI1.out _).mono ?_); rintro e x1 ⟨rfl, hb⟩; exact hK _ (hx.trans (hb.mono hx.size)))
                    | (go_at_call 15; (with_reducible refine (FI2.out _).mono ?_); rintro e x1 ⟨rfl, hb⟩; exact hK _ (hx.trans (hb.mono hx.size)))
                    | (go_at_call 14; (with_reducible refine (FI3.out _).mono ?_); rintro e x1 ⟨rfl, hb⟩; exact hK _ (hx.trans (hb.mono hx.size)))
                    | (go_at_call 15; (with_reducible refine (FI4.out _).mono ?_); rintro e x1 ⟨rfl, hb⟩; exact hK _ (hx.trans (hb.mono hx.size)))
                    | (go_at_call 8; (with_reducible refine (FA.out _).mono ?_); rintro e x1 ⟨rfl, hb⟩; exact hK _ (hx.trans (hb.mono hx.size)))
                    | (go_at_call 9; (with_reducible refine (FB.out _).mono ?_); rintro e x1 ⟨rfl, hb⟩; exact hK _ (hx.trans (hb.mono hx.size)))
                    | (go_at_call 7; (with_reducible refine (FN.out _).mono ?_); rintro e x1 ⟨rfl, hb⟩; exact hK _ (hx.trans (hb.mono hx.size)))
                    | (go_at_K; exact hK _ hx)))
             rfl)
          | (refine Bag.walk_no (by rfl) ?_; simp only [Act.put, List.setIfInBounds_toArray, List.set_cons_succ, List.set_cons_zero]))
      refine Bag.walk_nil (fun w81 hb81 => ?_)
      have HB81 := Lib.hid (HBR.out.next hb81)
      clear hb81 HBR
      go_wp2_with fail
      go_ret
      exact ⟨rfl, HB81.out.below⟩
set_option maxHeartbeats 4000000
set_option maxRecDepth 100000 in
theorem lawRigSteps_lifted (os : Os) (started : os.Started) (H : Type) (enc : TypeId × Value → H) :
    ReturnsInHanded {} Try.checked os 3 .any (Rows.rigStepsSpec.pre6 enc Try.prog Try.f3 Rows.rigStepsRow.domain false) (Rows.rigStepsSpec.post enc Try.prog Try.f3 false true false false) := by
  refine returnsInHanded_of_change (C := Try.checked) own started (by kernel_rfl) Try.func3
    (ChangeSpec.witness6 (enc := enc) (C := Try.checked) false ⟨#[], #[.int .i64 0, .agg #[.int .i64 0, .int .i64 0, .int .i64 0, .int .i64 0, .int .i64 0, .int .i64 0], .slice none 0 0], []⟩ 8 (by kernel_rfl) (by kernel_rfl) (by kernel_rfl) (by kernel_rfl)) ?_
  intro W base args ds gs before hval0 hW hcnd _
  have hval : ∀ (j : Nat) t v, Try.f3.params[j]? = some t → args[j]? = some v → Value.okWide Try.prog W .any base t v := hval0
  have hW' := hW
  obtain ⟨p, q, hA0, hV, rfl, hfz, hnd⟩ := hW
  have hA : DataW.TrodAll enc Try.prog W 0 (fun _ => true) true Try.f3.params.toList args.toList ds p := hA0
  rw [Try.params3] at hA hval
  obtain ⟨v0, vs0, d0, ds0, p0, q0, hargs, rfl, rfl, h0, r0⟩ := trodAll_cons hA
  obtain ⟨v1, vs1, d1, ds1, p1, q1, rfl, rfl, rfl, h1, r1⟩ := trodAll_cons r0
  obtain ⟨v2, vs2, d2, ds2, p2, q2, rfl, rfl, rfl, h2, r2⟩ := trodAll_cons r1
  obtain ⟨rfl, rfl, rfl⟩ := trodAll_nil r2
  obtain rfl : args = #[v0, v1, v2] := by cases args; simp_all
  obtain ⟨rfl, rfl⟩ := trodVars_none hV
  obtain ⟨x0, rfl, rfl, rfl, g0⟩ := open_int Try.underlying3 (hval 0 3 v0 rfl rfl) h0
  have k1 := h1
  have lt1 : ∀ x ∈ p1, x.block < W.heap.size := by obtain ⟨m, hm⟩ := k1; exact DataW.trod_lt m _ _ _ hm
  obtain ⟨x1, rfl⟩ := open_rg (hval 1 23 v1 rfl rfl) h1
  have k2 := h2
  have lt2 : ∀ x ∈ p2, x.block < W.heap.size := by obtain ⟨m, hm⟩ := k2; exact DataW.trod_lt m _ _ _ hm
  obtain ⟨a2, l2, c2, rfl⟩ := okWide_slice Try.underlying24 (hval 2 24 v2 rfl rfl)
  obtain ⟨fuel2, hf2⟩ := h2
  obtain ⟨x2, g2, m2⟩ := open_ods hf2
  clear hA0 hval0
  refine (lawRigSteps_walk x0 x1 _ x2 W g0 g2 m2).mono fun e W' ⟨he, bel⟩ => ?_
  subst he
  exact ⟨_, rfl, _, _, _, [], _, [], hW', trodAll_mk1 (shut_bool Try.underlying4 _), (trodAll_cons_mk (shut_int Try.underlying3 g0) (trodAll_cons_mk (Below.trod laidOut (by kernel_rfl) (of_decide_eq_true (by kernel_rfl)) k1 bel lt1) (trodAll_cons_mk (Below.trod laidOut (by kernel_rfl) (of_decide_eq_true (by kernel_rfl)) k2 bel lt2) trodAll_mk0))), rfl, bel.frame _, fun h => by cases h⟩

theorem lawRigSteps_over : Rows.rigStepsRow.holds Try.pinned (OpenSpec.ofChange Rows.rigStepsSpec) :=
  OpenClaim.holds_of_wide 3 Try.f3 rfl rfl rfl rfl rfl rfl rfl ⟨rfl, rfl, rfl, rfl, rfl⟩ rfl rfl rfl rfl rfl (by kernel_rfl) Try.func3 (by kernel_rfl)
    (of_decide_eq_true (by kernel_rfl)) (by unfold Func.isWrapper; first | (rw [if_pos (by decide +kernel)]; kernel_rfl) | (rw [if_neg (by decide +kernel)]; exact ⟨rfl, rfl⟩))
    (fun os started H enc _ => lawRigSteps_lifted os started H enc)

theorem rigSteps_holds : Rows.RigStepsSaid := lawRigSteps_over
#print axioms rigSteps_holds
end Go.Proofs.Ytmfinebkikhceaa
