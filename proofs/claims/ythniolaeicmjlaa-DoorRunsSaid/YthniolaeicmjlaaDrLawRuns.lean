/- The law DoorRuns: the states and commands of a row of ticks. No condition. -/
import Derived.Test.YthniolaeicmjlaaDrSane
import Derived.Test.YthniolaeicmjlaaDrRefStep
import Derived.Test.YthniolaeicmjlaaDrOpen
import Derived.Test.YthniolaeicmjlaaDecl1
import Derived.Test.YthniolaeicmjlaaPut2
namespace Go.Proofs.Ythniolaeicmjlaa
open Go.RowKit Go.ChangeShapes Go.WideShapes Go.ChangeAt Ghost

theorem rstep_to (t0 t1 t2 t3 t4 t5 t6 t7 t8 : Int) (a b c : Int) (d : Bool) (e : Int) (k : Int) (bl wt : Bool) (a' b' c' : Int) (d' : Bool) (e' m : Int) (w : World) (h : Dr.stepF t6 t7 ⟨a, b, c, d, e⟩ k bl wt = (⟨a', b', c', d', e'⟩, m)) :
    Calls Try.prog 8 #[.agg #[.int .i64 t0, .int .i64 t1, .int .i64 t2, .int .i64 t3, .int .i64 t4, .int .i64 t5, .int .i64 t6, .int .i64 t7, .int .i64 t8], .agg #[.int .i64 a, .int .i64 b, .int .i64 c, .bool d, .int .i64 e], .int .i64 k, .bool bl, .bool wt] w fun ee w' => ee = .returned (.tuple #[.agg #[.int .i64 a', .int .i64 b', .int .i64 c', .bool d', .int .i64 e'], .int .i64 m]) ∧ Below w.heap.size w w' := by
  have := rstep_any t0 t1 t2 t3 t4 t5 t6 t7 t8 a b c d e k bl wt w
  rw [h] at this
  exact this
set_option maxRecDepth 100000 in
set_option maxHeartbeats 8000000 in
theorem lawDoorRuns_walk (cd : CarD) (v : Value) (l : List Tk) (w : World) (hv : TV w v l) (_hlen : l.length ≤ maxLen) :
    Calls Try.prog 4 #[cd.ag, v] w fun e w' => e = .returned (.bool true) ∧ Below w.heap.size w w' := by
  obtain ⟨t0, t1, t2, t3, t4, t5, t6, t7, t8⟩ := cd
  obtain ⟨VA, vcap, rfl, hVA⟩ := hv
  change Calls Try.prog 4 #[.agg #[.int .i64 t0, .int .i64 t1, .int .i64 t2, .int .i64 t3, .int .i64 t4, .int .i64 t5, .int .i64 t6, .int .i64 t7, .int .i64 t8], .slice VA l.length vcap] w _
  have HVA := Lib.hid hVA
  have FN := Lib.hid (fun wx => sane12_any wx)
  clear hVA
  by_cases hlen : 300 < l.length
  · have hli : (300 : Int) < (l.length : Int) := by omega
    go_enter Try.func4, Try.ntmps4
    go_wp2_with fail
    refine (FN.out _).mono ?_
    rintro e w1 ⟨rfl, hb⟩
    go_wp2_with fail
    go_ret
    exact ⟨rfl, ((bxs1 w _).next hb).below⟩
  have hli : ¬ (300 : Int) < (l.length : Int) := by omega
  obtain ⟨b6, hb6⟩ : ∃ b6, bits .and .i64 t6 7 = b6 := ⟨_, rfl⟩
  obtain ⟨e6, he6⟩ : ∃ e6, wrap64 (b6 + 1) = e6 := ⟨_, rfl⟩
  obtain ⟨b7, hb7⟩ : ∃ b7, bits .and .i64 t7 31 = b7 := ⟨_, rfl⟩
  obtain ⟨b5, hb5⟩ : ∃ b5, bits .and .i64 t5 7 = b5 := ⟨_, rfl⟩
  have HB0 := Lib.hid (bxs1 w (.cells #[.int .i64 t0, .int .i64 t1, .int .i64 t2, .int .i64 t3, .int .i64 t4, .int .i64 t5, .int .i64 t6, .int .i64 t7, .int .i64 t8] 23))
  go_enter Try.func4, Try.ntmps4
  go_wp2_with (with_reducible show wpList _ _ _ (Oper.mk _ (.store 3 _ _) _ _ _ _ :: _) _ _; refine Hid.out ?_)
  refine Lib.hid ?_
  refine wpList_putCell rfl 3 _ _ rfl (w.heap.size) 6 (.int .i64 e6) _ _ 23 rfl rfl HB0.out.r0 (by kernel_rfl) (by simp) rfl rfl rfl ?_
  intro w1 hr1 hg1
  have HB1 : Hid (Bx w [(w.heap.size, .cells #[.int .i64 t0, .int .i64 t1, .int .i64 t2, .int .i64 t3, .int .i64 t4, .int .i64 t5, .int .i64 e6, .int .i64 t7, .int .i64 t8] 23 (0, 0))] w1) := Lib.hid (HB0.out.put (by omega) hg1.out hr1.out (by simp only [List.mem_cons, List.not_mem_nil, or_false]; rintro p rfl <;> simp <;> omega))
  clear hr1 hg1 HB0
  have c0_0 : w1.cell? ⟨w.heap.size, 0, none⟩ = some (.int .i64 t0) := cell_of_row _ _ _ _ _ (0, 0) HB1.out.r0
  have c0_1 : w1.cell? ⟨w.heap.size, 1, none⟩ = some (.int .i64 t1) := cell_of_row _ _ _ _ _ (0, 0) HB1.out.r0
  have c0_2 : w1.cell? ⟨w.heap.size, 2, none⟩ = some (.int .i64 t2) := cell_of_row _ _ _ _ _ (0, 0) HB1.out.r0
  have c0_3 : w1.cell? ⟨w.heap.size, 3, none⟩ = some (.int .i64 t3) := cell_of_row _ _ _ _ _ (0, 0) HB1.out.r0
  have c0_4 : w1.cell? ⟨w.heap.size, 4, none⟩ = some (.int .i64 t4) := cell_of_row _ _ _ _ _ (0, 0) HB1.out.r0
  have c0_5 : w1.cell? ⟨w.heap.size, 5, none⟩ = some (.int .i64 t5) := cell_of_row _ _ _ _ _ (0, 0) HB1.out.r0
  have c0_6 : w1.cell? ⟨w.heap.size, 6, none⟩ = some (.int .i64 e6) := cell_of_row _ _ _ _ _ (0, 0) HB1.out.r0
  have c0_7 : w1.cell? ⟨w.heap.size, 7, none⟩ = some (.int .i64 t7) := cell_of_row _ _ _ _ _ (0, 0) HB1.out.r0
  have c0_8 : w1.cell? ⟨w.heap.size, 8, none⟩ = some (.int .i64 t8) := cell_of_row _ _ _ _ _ (0, 0) HB1.out.r0
  go_wp2_with (with_reducible show wpList _ _ _ (Oper.mk _ (.store 3 _ _) _ _ _ _ :: _) _ _; refine Hid.out ?_)
  refine Lib.hid ?_
  refine wpList_putCell rfl 3 _ _ rfl (w.heap.size) 7 (.int .i64 b7) _ _ 23 rfl rfl HB1.out.r0 (by kernel_rfl) (by simp) rfl rfl rfl ?_
  intro w2 hr2 hg2
  have HB2 : Hid (Bx w [(w.heap.size, .cells #[.int .i64 t0, .int .i64 t1, .int .i64 t2, .int .i64 t3, .int .i64 t4, .int .i64 t5, .int .i64 e6, .int .i64 b7, .int .i64 t8] 23 (0, 0))] w2) := Lib.hid (HB1.out.put (by omega) hg2.out hr2.out (by simp only [List.mem_cons, List.not_mem_nil, or_false]; rintro p rfl <;> simp <;> omega))
  clear c0_0 c0_1 c0_2 c0_3 c0_4 c0_5 c0_6 c0_7 c0_8 hr2 hg2 HB1
  have c0_0 : w2.cell? ⟨w.heap.size, 0, none⟩ = some (.int .i64 t0) := cell_of_row _ _ _ _ _ (0, 0) HB2.out.r0
  have c0_1 : w2.cell? ⟨w.heap.size, 1, none⟩ = some (.int .i64 t1) := cell_of_row _ _ _ _ _ (0, 0) HB2.out.r0
  have c0_2 : w2.cell? ⟨w.heap.size, 2, none⟩ = some (.int .i64 t2) := cell_of_row _ _ _ _ _ (0, 0) HB2.out.r0
  have c0_3 : w2.cell? ⟨w.heap.size, 3, none⟩ = some (.int .i64 t3) := cell_of_row _ _ _ _ _ (0, 0) HB2.out.r0
  have c0_4 : w2.cell? ⟨w.heap.size, 4, none⟩ = some (.int .i64 t4) := cell_of_row _ _ _ _ _ (0, 0) HB2.out.r0
  have c0_5 : w2.cell? ⟨w.heap.size, 5, none⟩ = some (.int .i64 t5) := cell_of_row _ _ _ _ _ (0, 0) HB2.out.r0
  have c0_6 : w2.cell? ⟨w.heap.size, 6, none⟩ = some (.int .i64 e6) := cell_of_row _ _ _ _ _ (0, 0) HB2.out.r0
  have c0_7 : w2.cell? ⟨w.heap.size, 7, none⟩ = some (.int .i64 b7) := cell_of_row _ _ _ _ _ (0, 0) HB2.out.r0
  have c0_8 : w2.cell? ⟨w.heap.size, 8, none⟩ = some (.int .i64 t8) := cell_of_row _ _ _ _ _ (0, 0) HB2.out.r0
  go_wp2_with (with_reducible show wpList _ _ _ (Oper.mk _ (.store 3 _ _) _ _ _ _ :: _) _ _; refine Hid.out ?_)
  refine Lib.hid ?_
  refine wpList_putCell rfl 3 _ _ rfl (w.heap.size) 5 (.int .i64 b5) _ _ 23 rfl rfl HB2.out.r0 (by kernel_rfl) (by simp) rfl rfl rfl ?_
  intro w3 hr3 hg3
  have HB3 : Hid (Bx w [(w.heap.size, .cells #[.int .i64 t0, .int .i64 t1, .int .i64 t2, .int .i64 t3, .int .i64 t4, .int .i64 b5, .int .i64 e6, .int .i64 b7, .int .i64 t8] 23 (0, 0))] w3) := Lib.hid (HB2.out.put (by omega) hg3.out hr3.out (by simp only [List.mem_cons, List.not_mem_nil, or_false]; rintro p rfl <;> simp <;> omega))
  clear c0_0 c0_1 c0_2 c0_3 c0_4 c0_5 c0_6 c0_7 c0_8 hr3 hg3 HB2
  have c0_0 : w3.cell? ⟨w.heap.size, 0, none⟩ = some (.int .i64 t0) := cell_of_row _ _ _ _ _ (0, 0) HB3.out.r0
  have c0_1 : w3.cell? ⟨w.heap.size, 1, none⟩ = some (.int .i64 t1) := cell_of_row _ _ _ _ _ (0, 0) HB3.out.r0
  have c0_2 : w3.cell? ⟨w.heap.size, 2, none⟩ = some (.int .i64 t2) := cell_of_row _ _ _ _ _ (0, 0) HB3.out.r0
  have c0_3 : w3.cell? ⟨w.heap.size, 3, none⟩ = some (.int .i64 t3) := cell_of_row _ _ _ _ _ (0, 0) HB3.out.r0
  have c0_4 : w3.cell? ⟨w.heap.size, 4, none⟩ = some (.int .i64 t4) := cell_of_row _ _ _ _ _ (0, 0) HB3.out.r0
  have c0_5 : w3.cell? ⟨w.heap.size, 5, none⟩ = some (.int .i64 b5) := cell_of_row _ _ _ _ _ (0, 0) HB3.out.r0
  have c0_6 : w3.cell? ⟨w.heap.size, 6, none⟩ = some (.int .i64 e6) := cell_of_row _ _ _ _ _ (0, 0) HB3.out.r0
  have c0_7 : w3.cell? ⟨w.heap.size, 7, none⟩ = some (.int .i64 b7) := cell_of_row _ _ _ _ _ (0, 0) HB3.out.r0
  have c0_8 : w3.cell? ⟨w.heap.size, 8, none⟩ = some (.int .i64 t8) := cell_of_row _ _ _ _ _ (0, 0) HB3.out.r0
  clear hb6 he6 hb7 hb5 hli
  clear c0_0 c0_1 c0_2 c0_3 c0_4 c0_5 c0_6 c0_7 c0_8
  go_wp2_with fail
  have lw0 : w.heap.size < w3.heap.size := (Array.getElem?_eq_some_iff.1 HB3.out.r0).1
  have HB20 := Lib.hid ((HB3.out.make (heap_alloc_new w3 (.cells #[.int .i64 0, .int .i64 0, .int .i64 0, .bool false, .int .i64 0] 25)) ((Below.refl w3.heap.size w3).alloc (Nat.le_refl _) _)).make (heap_alloc_new (w3.alloc (.cells #[.int .i64 0, .int .i64 0, .int .i64 0, .bool false, .int .i64 0] 25)) (.cells #[.int .i64 0, .int .i64 0, .int .i64 0, .bool false, .int .i64 0] 25)) ((Below.refl _ _).alloc (Nat.le_refl _) _))
  simp only [World.size_alloc] at HB20
  generalize (w3.alloc (.cells #[.int .i64 0, .int .i64 0, .int .i64 0, .bool false, .int .i64 0] 25)).alloc (.cells #[.int .i64 0, .int .i64 0, .int .i64 0, .bool false, .int .i64 0] 25) = W at *
  generalize w3.heap.size = ga at *
  clear HB3
  go_loopw [7] (fun vi wr => ∃ (s : Dr) (i : Nat), vi = .int .i64 i ∧ i ≤ l.length ∧ Bx w [(ga + 1, .cells #[.int .i64 s.st, .int .i64 s.ti, .int .i64 s.si, .bool s.nu, .int .i64 s.cy] 25 (0, 0)), (ga, .cells #[.int .i64 s.st, .int .i64 s.ti, .int .i64 s.si, .bool s.nu, .int .i64 s.cy] 25 (0, 0)), (w.heap.size, .cells #[.int .i64 t0, .int .i64 t1, .int .i64 t2, .int .i64 t3, .int .i64 t4, .int .i64 b5, .int .i64 e6, .int .i64 b7, .int .i64 t8] 23 (0, 0))] wr) (fun vi _ => l.length - (intOf vi).toNat)
  case atStart => exact ⟨⟨0, 0, 0, false, 0⟩, 0, rfl, Nat.zero_le _, HB20.out⟩
  case round =>
    obtain ⟨s, i, rfl, hil, hbr⟩ := hrel
    obtain ⟨s1, s2, s3, s4, s5⟩ := s
    simp only at hbr
    have HBR := Lib.hid hbr
    clear hbr HB20
    by_cases hlt : i < l.length
    · have hlti : (i : Int) < (l.length : Int) := by omega
      have hltB : decide ((i : Int) < (l.length : Int)) = true := decide_eq_true hlti
      obtain ⟨tb, toff, rfl, htb, k0, k1, k2⟩ := HVA.out.at_ hlt
      generalize l[i] = tk at *
      obtain ⟨dd, bl, wt⟩ := tk
      simp only at k0 k1 k2
      have HTK := Lib.hid (fun (wx : World) (h : Below w.heap.size w wx) => (⟨(h.cell (p := ⟨tb, _, none⟩) htb).trans k0, (h.cell (p := ⟨tb, _, none⟩) htb).trans k1, (h.cell (p := ⟨tb, _, none⟩) htb).trans k2⟩ : wx.cell? ⟨tb, toff + i * 3, none⟩ = some (.int .i64 dd) ∧ wx.cell? ⟨tb, toff + i * 3 + 1, none⟩ = some (.bool bl) ∧ wx.cell? ⟨tb, toff + i * 3 + 2, none⟩ = some (.bool wt)))
      clear k0 k1 k2 HVA
      obtain ⟨X, hX⟩ : ∃ X, Dr.stepF e6 b7 ⟨s1, s2, s3, s4, s5⟩ dd bl wt = X := ⟨_, rfl⟩
      obtain ⟨⟨a, b, c, d, e⟩, m⟩ := X
      have FS := Lib.hid (fun wx => step_to t0 t1 t2 t3 t4 b5 e6 b7 t8 s1 s2 s3 s4 s5 dd bl wt a b c d e m wx hX)
      have FR := Lib.hid (fun wx => rstep_to t0 t1 t2 t3 t4 b5 e6 b7 t8 s1 s2 s3 s4 s5 dd bl wt a b c d e m wx hX)
      clear hX
      have eqn := neqDr a b c d e a b c d e
      rw [Dr.same_self] at eqn
      go_wp2_with fail
      have q0 : ga + 1 < wr.heap.size := (Array.getElem?_eq_some_iff.1 HBR.out.r0).1
      have q1 : ga < wr.heap.size := (Array.getElem?_eq_some_iff.1 HBR.out.r1).1
      have q2 : w.heap.size < wr.heap.size := (Array.getElem?_eq_some_iff.1 HBR.out.r2).1
      refine Ghost.ghost (fun γ L wx => Decls (wr).heap.size (wr) [(⟨21, 22, 25, #[.int .i64 0, .int .i64 0, .int .i64 0, .bool false, .int .i64 0], #[.int .i64 a, .int .i64 b, .int .i64 c, .bool d, .int .i64 e]⟩ : Decl)] γ L wx) (by kernel_rfl) (by kernel_rfl) (fun γ => Decls.start _ γ (Below.refl _ _).drew (Nat.le_refl _)) ?_
      apply Ghost.walk_const (fun γ => by rfl)
      · intro γ L wx h1 h2 hx K hK
        have HXx := HBR.out.next hx.below
        have z1_0 : wx.cell? ⟨ga, 0, none⟩ = some (.int .i64 s1) := cell_of_row _ _ _ _ _ (0, 0) HXx.r1
        have z1_1 : wx.cell? ⟨ga, 1, none⟩ = some (.int .i64 s2) := cell_of_row _ _ _ _ _ (0, 0) HXx.r1
        have z1_2 : wx.cell? ⟨ga, 2, none⟩ = some (.int .i64 s3) := cell_of_row _ _ _ _ _ (0, 0) HXx.r1
        have z1_3 : wx.cell? ⟨ga, 3, none⟩ = some (.bool s4) := cell_of_row _ _ _ _ _ (0, 0) HXx.r1
        have z1_4 : wx.cell? ⟨ga, 4, none⟩ = some (.int .i64 s5) := cell_of_row _ _ _ _ _ (0, 0) HXx.r1
        have z2_0 : wx.cell? ⟨w.heap.size, 0, none⟩ = some (.int .i64 t0) := cell_of_row _ _ _ _ _ (0, 0) HXx.r2
        have z2_1 : wx.cell? ⟨w.heap.size, 1, none⟩ = some (.int .i64 t1) := cell_of_row _ _ _ _ _ (0, 0) HXx.r2
        have z2_2 : wx.cell? ⟨w.heap.size, 2, none⟩ = some (.int .i64 t2) := cell_of_row _ _ _ _ _ (0, 0) HXx.r2
        have z2_3 : wx.cell? ⟨w.heap.size, 3, none⟩ = some (.int .i64 t3) := cell_of_row _ _ _ _ _ (0, 0) HXx.r2
        have z2_4 : wx.cell? ⟨w.heap.size, 4, none⟩ = some (.int .i64 t4) := cell_of_row _ _ _ _ _ (0, 0) HXx.r2
        have z2_5 : wx.cell? ⟨w.heap.size, 5, none⟩ = some (.int .i64 b5) := cell_of_row _ _ _ _ _ (0, 0) HXx.r2
        have z2_6 : wx.cell? ⟨w.heap.size, 6, none⟩ = some (.int .i64 e6) := cell_of_row _ _ _ _ _ (0, 0) HXx.r2
        have z2_7 : wx.cell? ⟨w.heap.size, 7, none⟩ = some (.int .i64 b7) := cell_of_row _ _ _ _ _ (0, 0) HXx.r2
        have z2_8 : wx.cell? ⟨w.heap.size, 8, none⟩ = some (.int .i64 t8) := cell_of_row _ _ _ _ _ (0, 0) HXx.r2
        obtain ⟨k0, k1, k2⟩ := HTK.out wx HXx.below
        have HK2 := Lib.hid hK
        have HX := Lib.hid hx
        clear hK h1 h2 hx
        go_simp
        first
          | (go_at_call 7; refine (FS.out _).mono ?_; rintro e x1 ⟨rfl, hb⟩; exact HK2.out _ (HX.out.quiet 0 (by rfl) hb))
          | exact HK2.out _ (HX.out.quiet 0 (by rfl) (Below.refl _ _))
      simp only [Act.put, List.setIfInBounds_toArray, List.set_cons_succ, List.set_cons_zero]
      apply Ghost.walk_const (fun γ => by rfl)
      · intro γ L wx h1 h2 hx K hK
        have HXx := HBR.out.next hx.below
        have z1_0 : wx.cell? ⟨ga, 0, none⟩ = some (.int .i64 s1) := cell_of_row _ _ _ _ _ (0, 0) HXx.r1
        have z1_1 : wx.cell? ⟨ga, 1, none⟩ = some (.int .i64 s2) := cell_of_row _ _ _ _ _ (0, 0) HXx.r1
        have z1_2 : wx.cell? ⟨ga, 2, none⟩ = some (.int .i64 s3) := cell_of_row _ _ _ _ _ (0, 0) HXx.r1
        have z1_3 : wx.cell? ⟨ga, 3, none⟩ = some (.bool s4) := cell_of_row _ _ _ _ _ (0, 0) HXx.r1
        have z1_4 : wx.cell? ⟨ga, 4, none⟩ = some (.int .i64 s5) := cell_of_row _ _ _ _ _ (0, 0) HXx.r1
        have z2_0 : wx.cell? ⟨w.heap.size, 0, none⟩ = some (.int .i64 t0) := cell_of_row _ _ _ _ _ (0, 0) HXx.r2
        have z2_1 : wx.cell? ⟨w.heap.size, 1, none⟩ = some (.int .i64 t1) := cell_of_row _ _ _ _ _ (0, 0) HXx.r2
        have z2_2 : wx.cell? ⟨w.heap.size, 2, none⟩ = some (.int .i64 t2) := cell_of_row _ _ _ _ _ (0, 0) HXx.r2
        have z2_3 : wx.cell? ⟨w.heap.size, 3, none⟩ = some (.int .i64 t3) := cell_of_row _ _ _ _ _ (0, 0) HXx.r2
        have z2_4 : wx.cell? ⟨w.heap.size, 4, none⟩ = some (.int .i64 t4) := cell_of_row _ _ _ _ _ (0, 0) HXx.r2
        have z2_5 : wx.cell? ⟨w.heap.size, 5, none⟩ = some (.int .i64 b5) := cell_of_row _ _ _ _ _ (0, 0) HXx.r2
        have z2_6 : wx.cell? ⟨w.heap.size, 6, none⟩ = some (.int .i64 e6) := cell_of_row _ _ _ _ _ (0, 0) HXx.r2
        have z2_7 : wx.cell? ⟨w.heap.size, 7, none⟩ = some (.int .i64 b7) := cell_of_row _ _ _ _ _ (0, 0) HXx.r2
        have z2_8 : wx.cell? ⟨w.heap.size, 8, none⟩ = some (.int .i64 t8) := cell_of_row _ _ _ _ _ (0, 0) HXx.r2
        obtain ⟨k0, k1, k2⟩ := HTK.out wx HXx.below
        have HK2 := Lib.hid hK
        have HX := Lib.hid hx
        clear hK h1 h2 hx
        go_simp
        first
          | (go_at_call 7; refine (FS.out _).mono ?_; rintro e x1 ⟨rfl, hb⟩; exact HK2.out _ (HX.out.quiet 0 (by rfl) hb))
          | exact HK2.out _ (HX.out.quiet 0 (by rfl) (Below.refl _ _))
      simp only [Act.put, List.setIfInBounds_toArray, List.set_cons_succ, List.set_cons_zero]
      apply Ghost.walk_const (fun γ => by rfl)
      · intro γ L wx h1 h2 hx K hK
        have HXx := HBR.out.next hx.below
        have z1_0 : wx.cell? ⟨ga, 0, none⟩ = some (.int .i64 s1) := cell_of_row _ _ _ _ _ (0, 0) HXx.r1
        have z1_1 : wx.cell? ⟨ga, 1, none⟩ = some (.int .i64 s2) := cell_of_row _ _ _ _ _ (0, 0) HXx.r1
        have z1_2 : wx.cell? ⟨ga, 2, none⟩ = some (.int .i64 s3) := cell_of_row _ _ _ _ _ (0, 0) HXx.r1
        have z1_3 : wx.cell? ⟨ga, 3, none⟩ = some (.bool s4) := cell_of_row _ _ _ _ _ (0, 0) HXx.r1
        have z1_4 : wx.cell? ⟨ga, 4, none⟩ = some (.int .i64 s5) := cell_of_row _ _ _ _ _ (0, 0) HXx.r1
        have z2_0 : wx.cell? ⟨w.heap.size, 0, none⟩ = some (.int .i64 t0) := cell_of_row _ _ _ _ _ (0, 0) HXx.r2
        have z2_1 : wx.cell? ⟨w.heap.size, 1, none⟩ = some (.int .i64 t1) := cell_of_row _ _ _ _ _ (0, 0) HXx.r2
        have z2_2 : wx.cell? ⟨w.heap.size, 2, none⟩ = some (.int .i64 t2) := cell_of_row _ _ _ _ _ (0, 0) HXx.r2
        have z2_3 : wx.cell? ⟨w.heap.size, 3, none⟩ = some (.int .i64 t3) := cell_of_row _ _ _ _ _ (0, 0) HXx.r2
        have z2_4 : wx.cell? ⟨w.heap.size, 4, none⟩ = some (.int .i64 t4) := cell_of_row _ _ _ _ _ (0, 0) HXx.r2
        have z2_5 : wx.cell? ⟨w.heap.size, 5, none⟩ = some (.int .i64 b5) := cell_of_row _ _ _ _ _ (0, 0) HXx.r2
        have z2_6 : wx.cell? ⟨w.heap.size, 6, none⟩ = some (.int .i64 e6) := cell_of_row _ _ _ _ _ (0, 0) HXx.r2
        have z2_7 : wx.cell? ⟨w.heap.size, 7, none⟩ = some (.int .i64 b7) := cell_of_row _ _ _ _ _ (0, 0) HXx.r2
        have z2_8 : wx.cell? ⟨w.heap.size, 8, none⟩ = some (.int .i64 t8) := cell_of_row _ _ _ _ _ (0, 0) HXx.r2
        obtain ⟨k0, k1, k2⟩ := HTK.out wx HXx.below
        have HK2 := Lib.hid hK
        have HX := Lib.hid hx
        clear hK h1 h2 hx
        go_simp
        first
          | (go_at_call 7; refine (FS.out _).mono ?_; rintro e x1 ⟨rfl, hb⟩; exact HK2.out _ (HX.out.quiet 0 (by rfl) hb))
          | exact HK2.out _ (HX.out.quiet 0 (by rfl) (Below.refl _ _))
      simp only [Act.put, List.setIfInBounds_toArray, List.set_cons_succ, List.set_cons_zero]
      apply Ghost.walk_const (fun γ => by rfl)
      · intro γ L wx h1 h2 hx K hK
        have HXx := HBR.out.next hx.below
        have z1_0 : wx.cell? ⟨ga, 0, none⟩ = some (.int .i64 s1) := cell_of_row _ _ _ _ _ (0, 0) HXx.r1
        have z1_1 : wx.cell? ⟨ga, 1, none⟩ = some (.int .i64 s2) := cell_of_row _ _ _ _ _ (0, 0) HXx.r1
        have z1_2 : wx.cell? ⟨ga, 2, none⟩ = some (.int .i64 s3) := cell_of_row _ _ _ _ _ (0, 0) HXx.r1
        have z1_3 : wx.cell? ⟨ga, 3, none⟩ = some (.bool s4) := cell_of_row _ _ _ _ _ (0, 0) HXx.r1
        have z1_4 : wx.cell? ⟨ga, 4, none⟩ = some (.int .i64 s5) := cell_of_row _ _ _ _ _ (0, 0) HXx.r1
        have z2_0 : wx.cell? ⟨w.heap.size, 0, none⟩ = some (.int .i64 t0) := cell_of_row _ _ _ _ _ (0, 0) HXx.r2
        have z2_1 : wx.cell? ⟨w.heap.size, 1, none⟩ = some (.int .i64 t1) := cell_of_row _ _ _ _ _ (0, 0) HXx.r2
        have z2_2 : wx.cell? ⟨w.heap.size, 2, none⟩ = some (.int .i64 t2) := cell_of_row _ _ _ _ _ (0, 0) HXx.r2
        have z2_3 : wx.cell? ⟨w.heap.size, 3, none⟩ = some (.int .i64 t3) := cell_of_row _ _ _ _ _ (0, 0) HXx.r2
        have z2_4 : wx.cell? ⟨w.heap.size, 4, none⟩ = some (.int .i64 t4) := cell_of_row _ _ _ _ _ (0, 0) HXx.r2
        have z2_5 : wx.cell? ⟨w.heap.size, 5, none⟩ = some (.int .i64 b5) := cell_of_row _ _ _ _ _ (0, 0) HXx.r2
        have z2_6 : wx.cell? ⟨w.heap.size, 6, none⟩ = some (.int .i64 e6) := cell_of_row _ _ _ _ _ (0, 0) HXx.r2
        have z2_7 : wx.cell? ⟨w.heap.size, 7, none⟩ = some (.int .i64 b7) := cell_of_row _ _ _ _ _ (0, 0) HXx.r2
        have z2_8 : wx.cell? ⟨w.heap.size, 8, none⟩ = some (.int .i64 t8) := cell_of_row _ _ _ _ _ (0, 0) HXx.r2
        obtain ⟨k0, k1, k2⟩ := HTK.out wx HXx.below
        have HK2 := Lib.hid hK
        have HX := Lib.hid hx
        clear hK h1 h2 hx
        go_simp
        first
          | (go_at_call 7; refine (FS.out _).mono ?_; rintro e x1 ⟨rfl, hb⟩; exact HK2.out _ (HX.out.quiet 0 (by rfl) hb))
          | exact HK2.out _ (HX.out.quiet 0 (by rfl) (Below.refl _ _))
      simp only [Act.put, List.setIfInBounds_toArray, List.set_cons_succ, List.set_cons_zero]
      apply Ghost.walk_const (fun γ => by rfl)
      · intro γ L wx h1 h2 hx K hK
        have HXx := HBR.out.next hx.below
        have z1_0 : wx.cell? ⟨ga, 0, none⟩ = some (.int .i64 s1) := cell_of_row _ _ _ _ _ (0, 0) HXx.r1
        have z1_1 : wx.cell? ⟨ga, 1, none⟩ = some (.int .i64 s2) := cell_of_row _ _ _ _ _ (0, 0) HXx.r1
        have z1_2 : wx.cell? ⟨ga, 2, none⟩ = some (.int .i64 s3) := cell_of_row _ _ _ _ _ (0, 0) HXx.r1
        have z1_3 : wx.cell? ⟨ga, 3, none⟩ = some (.bool s4) := cell_of_row _ _ _ _ _ (0, 0) HXx.r1
        have z1_4 : wx.cell? ⟨ga, 4, none⟩ = some (.int .i64 s5) := cell_of_row _ _ _ _ _ (0, 0) HXx.r1
        have z2_0 : wx.cell? ⟨w.heap.size, 0, none⟩ = some (.int .i64 t0) := cell_of_row _ _ _ _ _ (0, 0) HXx.r2
        have z2_1 : wx.cell? ⟨w.heap.size, 1, none⟩ = some (.int .i64 t1) := cell_of_row _ _ _ _ _ (0, 0) HXx.r2
        have z2_2 : wx.cell? ⟨w.heap.size, 2, none⟩ = some (.int .i64 t2) := cell_of_row _ _ _ _ _ (0, 0) HXx.r2
        have z2_3 : wx.cell? ⟨w.heap.size, 3, none⟩ = some (.int .i64 t3) := cell_of_row _ _ _ _ _ (0, 0) HXx.r2
        have z2_4 : wx.cell? ⟨w.heap.size, 4, none⟩ = some (.int .i64 t4) := cell_of_row _ _ _ _ _ (0, 0) HXx.r2
        have z2_5 : wx.cell? ⟨w.heap.size, 5, none⟩ = some (.int .i64 b5) := cell_of_row _ _ _ _ _ (0, 0) HXx.r2
        have z2_6 : wx.cell? ⟨w.heap.size, 6, none⟩ = some (.int .i64 e6) := cell_of_row _ _ _ _ _ (0, 0) HXx.r2
        have z2_7 : wx.cell? ⟨w.heap.size, 7, none⟩ = some (.int .i64 b7) := cell_of_row _ _ _ _ _ (0, 0) HXx.r2
        have z2_8 : wx.cell? ⟨w.heap.size, 8, none⟩ = some (.int .i64 t8) := cell_of_row _ _ _ _ _ (0, 0) HXx.r2
        obtain ⟨k0, k1, k2⟩ := HTK.out wx HXx.below
        have HK2 := Lib.hid hK
        have HX := Lib.hid hx
        clear hK h1 h2 hx
        go_simp
        first
          | (go_at_call 7; refine (FS.out _).mono ?_; rintro e x1 ⟨rfl, hb⟩; exact HK2.out _ (HX.out.quiet 0 (by rfl) hb))
          | exact HK2.out _ (HX.out.quiet 0 (by rfl) (Below.refl _ _))
      simp only [Act.put, List.setIfInBounds_toArray, List.set_cons_succ, List.set_cons_zero]
      apply Ghost.walk_const (fun γ => by rfl)
      · intro γ L wx h1 h2 hx K hK
        have HXx := HBR.out.next hx.below
        have z1_0 : wx.cell? ⟨ga, 0, none⟩ = some (.int .i64 s1) := cell_of_row _ _ _ _ _ (0, 0) HXx.r1
        have z1_1 : wx.cell? ⟨ga, 1, none⟩ = some (.int .i64 s2) := cell_of_row _ _ _ _ _ (0, 0) HXx.r1
        have z1_2 : wx.cell? ⟨ga, 2, none⟩ = some (.int .i64 s3) := cell_of_row _ _ _ _ _ (0, 0) HXx.r1
        have z1_3 : wx.cell? ⟨ga, 3, none⟩ = some (.bool s4) := cell_of_row _ _ _ _ _ (0, 0) HXx.r1
        have z1_4 : wx.cell? ⟨ga, 4, none⟩ = some (.int .i64 s5) := cell_of_row _ _ _ _ _ (0, 0) HXx.r1
        have z2_0 : wx.cell? ⟨w.heap.size, 0, none⟩ = some (.int .i64 t0) := cell_of_row _ _ _ _ _ (0, 0) HXx.r2
        have z2_1 : wx.cell? ⟨w.heap.size, 1, none⟩ = some (.int .i64 t1) := cell_of_row _ _ _ _ _ (0, 0) HXx.r2
        have z2_2 : wx.cell? ⟨w.heap.size, 2, none⟩ = some (.int .i64 t2) := cell_of_row _ _ _ _ _ (0, 0) HXx.r2
        have z2_3 : wx.cell? ⟨w.heap.size, 3, none⟩ = some (.int .i64 t3) := cell_of_row _ _ _ _ _ (0, 0) HXx.r2
        have z2_4 : wx.cell? ⟨w.heap.size, 4, none⟩ = some (.int .i64 t4) := cell_of_row _ _ _ _ _ (0, 0) HXx.r2
        have z2_5 : wx.cell? ⟨w.heap.size, 5, none⟩ = some (.int .i64 b5) := cell_of_row _ _ _ _ _ (0, 0) HXx.r2
        have z2_6 : wx.cell? ⟨w.heap.size, 6, none⟩ = some (.int .i64 e6) := cell_of_row _ _ _ _ _ (0, 0) HXx.r2
        have z2_7 : wx.cell? ⟨w.heap.size, 7, none⟩ = some (.int .i64 b7) := cell_of_row _ _ _ _ _ (0, 0) HXx.r2
        have z2_8 : wx.cell? ⟨w.heap.size, 8, none⟩ = some (.int .i64 t8) := cell_of_row _ _ _ _ _ (0, 0) HXx.r2
        obtain ⟨k0, k1, k2⟩ := HTK.out wx HXx.below
        have HK2 := Lib.hid hK
        have HX := Lib.hid hx
        clear hK h1 h2 hx
        go_simp
        first
          | (go_at_call 7; refine (FS.out _).mono ?_; rintro e x1 ⟨rfl, hb⟩; exact HK2.out _ (HX.out.quiet 0 (by rfl) hb))
          | exact HK2.out _ (HX.out.quiet 0 (by rfl) (Below.refl _ _))
      simp only [Act.put, List.setIfInBounds_toArray, List.set_cons_succ, List.set_cons_zero]
      apply Ghost.walk_const (fun γ => by rfl)
      · intro γ L wx h1 h2 hx K hK
        have HXx := HBR.out.next hx.below
        have z1_0 : wx.cell? ⟨ga, 0, none⟩ = some (.int .i64 s1) := cell_of_row _ _ _ _ _ (0, 0) HXx.r1
        have z1_1 : wx.cell? ⟨ga, 1, none⟩ = some (.int .i64 s2) := cell_of_row _ _ _ _ _ (0, 0) HXx.r1
        have z1_2 : wx.cell? ⟨ga, 2, none⟩ = some (.int .i64 s3) := cell_of_row _ _ _ _ _ (0, 0) HXx.r1
        have z1_3 : wx.cell? ⟨ga, 3, none⟩ = some (.bool s4) := cell_of_row _ _ _ _ _ (0, 0) HXx.r1
        have z1_4 : wx.cell? ⟨ga, 4, none⟩ = some (.int .i64 s5) := cell_of_row _ _ _ _ _ (0, 0) HXx.r1
        have z2_0 : wx.cell? ⟨w.heap.size, 0, none⟩ = some (.int .i64 t0) := cell_of_row _ _ _ _ _ (0, 0) HXx.r2
        have z2_1 : wx.cell? ⟨w.heap.size, 1, none⟩ = some (.int .i64 t1) := cell_of_row _ _ _ _ _ (0, 0) HXx.r2
        have z2_2 : wx.cell? ⟨w.heap.size, 2, none⟩ = some (.int .i64 t2) := cell_of_row _ _ _ _ _ (0, 0) HXx.r2
        have z2_3 : wx.cell? ⟨w.heap.size, 3, none⟩ = some (.int .i64 t3) := cell_of_row _ _ _ _ _ (0, 0) HXx.r2
        have z2_4 : wx.cell? ⟨w.heap.size, 4, none⟩ = some (.int .i64 t4) := cell_of_row _ _ _ _ _ (0, 0) HXx.r2
        have z2_5 : wx.cell? ⟨w.heap.size, 5, none⟩ = some (.int .i64 b5) := cell_of_row _ _ _ _ _ (0, 0) HXx.r2
        have z2_6 : wx.cell? ⟨w.heap.size, 6, none⟩ = some (.int .i64 e6) := cell_of_row _ _ _ _ _ (0, 0) HXx.r2
        have z2_7 : wx.cell? ⟨w.heap.size, 7, none⟩ = some (.int .i64 b7) := cell_of_row _ _ _ _ _ (0, 0) HXx.r2
        have z2_8 : wx.cell? ⟨w.heap.size, 8, none⟩ = some (.int .i64 t8) := cell_of_row _ _ _ _ _ (0, 0) HXx.r2
        obtain ⟨k0, k1, k2⟩ := HTK.out wx HXx.below
        have HK2 := Lib.hid hK
        have HX := Lib.hid hx
        clear hK h1 h2 hx
        go_simp
        first
          | (go_at_call 7; refine (FS.out _).mono ?_; rintro e x1 ⟨rfl, hb⟩; exact HK2.out _ (HX.out.quiet 0 (by rfl) hb))
          | exact HK2.out _ (HX.out.quiet 0 (by rfl) (Below.refl _ _))
      simp only [Act.put, List.setIfInBounds_toArray, List.set_cons_succ, List.set_cons_zero]
      apply Ghost.walk_const (fun γ => by rfl)
      · intro γ L wx h1 h2 hx K hK
        have HXx := HBR.out.next hx.below
        have z1_0 : wx.cell? ⟨ga, 0, none⟩ = some (.int .i64 s1) := cell_of_row _ _ _ _ _ (0, 0) HXx.r1
        have z1_1 : wx.cell? ⟨ga, 1, none⟩ = some (.int .i64 s2) := cell_of_row _ _ _ _ _ (0, 0) HXx.r1
        have z1_2 : wx.cell? ⟨ga, 2, none⟩ = some (.int .i64 s3) := cell_of_row _ _ _ _ _ (0, 0) HXx.r1
        have z1_3 : wx.cell? ⟨ga, 3, none⟩ = some (.bool s4) := cell_of_row _ _ _ _ _ (0, 0) HXx.r1
        have z1_4 : wx.cell? ⟨ga, 4, none⟩ = some (.int .i64 s5) := cell_of_row _ _ _ _ _ (0, 0) HXx.r1
        have z2_0 : wx.cell? ⟨w.heap.size, 0, none⟩ = some (.int .i64 t0) := cell_of_row _ _ _ _ _ (0, 0) HXx.r2
        have z2_1 : wx.cell? ⟨w.heap.size, 1, none⟩ = some (.int .i64 t1) := cell_of_row _ _ _ _ _ (0, 0) HXx.r2
        have z2_2 : wx.cell? ⟨w.heap.size, 2, none⟩ = some (.int .i64 t2) := cell_of_row _ _ _ _ _ (0, 0) HXx.r2
        have z2_3 : wx.cell? ⟨w.heap.size, 3, none⟩ = some (.int .i64 t3) := cell_of_row _ _ _ _ _ (0, 0) HXx.r2
        have z2_4 : wx.cell? ⟨w.heap.size, 4, none⟩ = some (.int .i64 t4) := cell_of_row _ _ _ _ _ (0, 0) HXx.r2
        have z2_5 : wx.cell? ⟨w.heap.size, 5, none⟩ = some (.int .i64 b5) := cell_of_row _ _ _ _ _ (0, 0) HXx.r2
        have z2_6 : wx.cell? ⟨w.heap.size, 6, none⟩ = some (.int .i64 e6) := cell_of_row _ _ _ _ _ (0, 0) HXx.r2
        have z2_7 : wx.cell? ⟨w.heap.size, 7, none⟩ = some (.int .i64 b7) := cell_of_row _ _ _ _ _ (0, 0) HXx.r2
        have z2_8 : wx.cell? ⟨w.heap.size, 8, none⟩ = some (.int .i64 t8) := cell_of_row _ _ _ _ _ (0, 0) HXx.r2
        obtain ⟨k0, k1, k2⟩ := HTK.out wx HXx.below
        have HK2 := Lib.hid hK
        have HX := Lib.hid hx
        clear hK h1 h2 hx
        go_simp
        first
          | (go_at_call 7; refine (FS.out _).mono ?_; rintro e x1 ⟨rfl, hb⟩; exact HK2.out _ (HX.out.quiet 0 (by rfl) hb))
          | exact HK2.out _ (HX.out.quiet 0 (by rfl) (Below.refl _ _))
      simp only [Act.put, List.setIfInBounds_toArray, List.set_cons_succ, List.set_cons_zero]
      apply Ghost.walk_const (fun γ => by rfl)
      · intro γ L wx h1 h2 hx K hK
        have HXx := HBR.out.next hx.below
        have z1_0 : wx.cell? ⟨ga, 0, none⟩ = some (.int .i64 s1) := cell_of_row _ _ _ _ _ (0, 0) HXx.r1
        have z1_1 : wx.cell? ⟨ga, 1, none⟩ = some (.int .i64 s2) := cell_of_row _ _ _ _ _ (0, 0) HXx.r1
        have z1_2 : wx.cell? ⟨ga, 2, none⟩ = some (.int .i64 s3) := cell_of_row _ _ _ _ _ (0, 0) HXx.r1
        have z1_3 : wx.cell? ⟨ga, 3, none⟩ = some (.bool s4) := cell_of_row _ _ _ _ _ (0, 0) HXx.r1
        have z1_4 : wx.cell? ⟨ga, 4, none⟩ = some (.int .i64 s5) := cell_of_row _ _ _ _ _ (0, 0) HXx.r1
        have z2_0 : wx.cell? ⟨w.heap.size, 0, none⟩ = some (.int .i64 t0) := cell_of_row _ _ _ _ _ (0, 0) HXx.r2
        have z2_1 : wx.cell? ⟨w.heap.size, 1, none⟩ = some (.int .i64 t1) := cell_of_row _ _ _ _ _ (0, 0) HXx.r2
        have z2_2 : wx.cell? ⟨w.heap.size, 2, none⟩ = some (.int .i64 t2) := cell_of_row _ _ _ _ _ (0, 0) HXx.r2
        have z2_3 : wx.cell? ⟨w.heap.size, 3, none⟩ = some (.int .i64 t3) := cell_of_row _ _ _ _ _ (0, 0) HXx.r2
        have z2_4 : wx.cell? ⟨w.heap.size, 4, none⟩ = some (.int .i64 t4) := cell_of_row _ _ _ _ _ (0, 0) HXx.r2
        have z2_5 : wx.cell? ⟨w.heap.size, 5, none⟩ = some (.int .i64 b5) := cell_of_row _ _ _ _ _ (0, 0) HXx.r2
        have z2_6 : wx.cell? ⟨w.heap.size, 6, none⟩ = some (.int .i64 e6) := cell_of_row _ _ _ _ _ (0, 0) HXx.r2
        have z2_7 : wx.cell? ⟨w.heap.size, 7, none⟩ = some (.int .i64 b7) := cell_of_row _ _ _ _ _ (0, 0) HXx.r2
        have z2_8 : wx.cell? ⟨w.heap.size, 8, none⟩ = some (.int .i64 t8) := cell_of_row _ _ _ _ _ (0, 0) HXx.r2
        obtain ⟨k0, k1, k2⟩ := HTK.out wx HXx.below
        have HK2 := Lib.hid hK
        have HX := Lib.hid hx
        clear hK h1 h2 hx
        go_simp
        first
          | (go_at_call 7; refine (FS.out _).mono ?_; rintro e x1 ⟨rfl, hb⟩; exact HK2.out _ (HX.out.quiet 0 (by rfl) hb))
          | exact HK2.out _ (HX.out.quiet 0 (by rfl) (Below.refl _ _))
      simp only [Act.put, List.setIfInBounds_toArray, List.set_cons_succ, List.set_cons_zero]
      apply Ghost.walk_const (fun γ => by rfl)
      · intro γ L wx h1 h2 hx K hK
        have HXx := HBR.out.next hx.below
        have z1_0 : wx.cell? ⟨ga, 0, none⟩ = some (.int .i64 s1) := cell_of_row _ _ _ _ _ (0, 0) HXx.r1
        have z1_1 : wx.cell? ⟨ga, 1, none⟩ = some (.int .i64 s2) := cell_of_row _ _ _ _ _ (0, 0) HXx.r1
        have z1_2 : wx.cell? ⟨ga, 2, none⟩ = some (.int .i64 s3) := cell_of_row _ _ _ _ _ (0, 0) HXx.r1
        have z1_3 : wx.cell? ⟨ga, 3, none⟩ = some (.bool s4) := cell_of_row _ _ _ _ _ (0, 0) HXx.r1
        have z1_4 : wx.cell? ⟨ga, 4, none⟩ = some (.int .i64 s5) := cell_of_row _ _ _ _ _ (0, 0) HXx.r1
        have z2_0 : wx.cell? ⟨w.heap.size, 0, none⟩ = some (.int .i64 t0) := cell_of_row _ _ _ _ _ (0, 0) HXx.r2
        have z2_1 : wx.cell? ⟨w.heap.size, 1, none⟩ = some (.int .i64 t1) := cell_of_row _ _ _ _ _ (0, 0) HXx.r2
        have z2_2 : wx.cell? ⟨w.heap.size, 2, none⟩ = some (.int .i64 t2) := cell_of_row _ _ _ _ _ (0, 0) HXx.r2
        have z2_3 : wx.cell? ⟨w.heap.size, 3, none⟩ = some (.int .i64 t3) := cell_of_row _ _ _ _ _ (0, 0) HXx.r2
        have z2_4 : wx.cell? ⟨w.heap.size, 4, none⟩ = some (.int .i64 t4) := cell_of_row _ _ _ _ _ (0, 0) HXx.r2
        have z2_5 : wx.cell? ⟨w.heap.size, 5, none⟩ = some (.int .i64 b5) := cell_of_row _ _ _ _ _ (0, 0) HXx.r2
        have z2_6 : wx.cell? ⟨w.heap.size, 6, none⟩ = some (.int .i64 e6) := cell_of_row _ _ _ _ _ (0, 0) HXx.r2
        have z2_7 : wx.cell? ⟨w.heap.size, 7, none⟩ = some (.int .i64 b7) := cell_of_row _ _ _ _ _ (0, 0) HXx.r2
        have z2_8 : wx.cell? ⟨w.heap.size, 8, none⟩ = some (.int .i64 t8) := cell_of_row _ _ _ _ _ (0, 0) HXx.r2
        obtain ⟨k0, k1, k2⟩ := HTK.out wx HXx.below
        have HK2 := Lib.hid hK
        have HX := Lib.hid hx
        clear hK h1 h2 hx
        go_simp
        first
          | (go_at_call 7; refine (FS.out _).mono ?_; rintro e x1 ⟨rfl, hb⟩; exact HK2.out _ (HX.out.quiet 0 (by rfl) hb))
          | exact HK2.out _ (HX.out.quiet 0 (by rfl) (Below.refl _ _))
      simp only [Act.put, List.setIfInBounds_toArray, List.set_cons_succ, List.set_cons_zero]
      apply Ghost.walk_const (fun γ => by rfl)
      · intro γ L wx h1 h2 hx K hK
        have HXx := HBR.out.next hx.below
        have z1_0 : wx.cell? ⟨ga, 0, none⟩ = some (.int .i64 s1) := cell_of_row _ _ _ _ _ (0, 0) HXx.r1
        have z1_1 : wx.cell? ⟨ga, 1, none⟩ = some (.int .i64 s2) := cell_of_row _ _ _ _ _ (0, 0) HXx.r1
        have z1_2 : wx.cell? ⟨ga, 2, none⟩ = some (.int .i64 s3) := cell_of_row _ _ _ _ _ (0, 0) HXx.r1
        have z1_3 : wx.cell? ⟨ga, 3, none⟩ = some (.bool s4) := cell_of_row _ _ _ _ _ (0, 0) HXx.r1
        have z1_4 : wx.cell? ⟨ga, 4, none⟩ = some (.int .i64 s5) := cell_of_row _ _ _ _ _ (0, 0) HXx.r1
        have z2_0 : wx.cell? ⟨w.heap.size, 0, none⟩ = some (.int .i64 t0) := cell_of_row _ _ _ _ _ (0, 0) HXx.r2
        have z2_1 : wx.cell? ⟨w.heap.size, 1, none⟩ = some (.int .i64 t1) := cell_of_row _ _ _ _ _ (0, 0) HXx.r2
        have z2_2 : wx.cell? ⟨w.heap.size, 2, none⟩ = some (.int .i64 t2) := cell_of_row _ _ _ _ _ (0, 0) HXx.r2
        have z2_3 : wx.cell? ⟨w.heap.size, 3, none⟩ = some (.int .i64 t3) := cell_of_row _ _ _ _ _ (0, 0) HXx.r2
        have z2_4 : wx.cell? ⟨w.heap.size, 4, none⟩ = some (.int .i64 t4) := cell_of_row _ _ _ _ _ (0, 0) HXx.r2
        have z2_5 : wx.cell? ⟨w.heap.size, 5, none⟩ = some (.int .i64 b5) := cell_of_row _ _ _ _ _ (0, 0) HXx.r2
        have z2_6 : wx.cell? ⟨w.heap.size, 6, none⟩ = some (.int .i64 e6) := cell_of_row _ _ _ _ _ (0, 0) HXx.r2
        have z2_7 : wx.cell? ⟨w.heap.size, 7, none⟩ = some (.int .i64 b7) := cell_of_row _ _ _ _ _ (0, 0) HXx.r2
        have z2_8 : wx.cell? ⟨w.heap.size, 8, none⟩ = some (.int .i64 t8) := cell_of_row _ _ _ _ _ (0, 0) HXx.r2
        obtain ⟨k0, k1, k2⟩ := HTK.out wx HXx.below
        have HK2 := Lib.hid hK
        have HX := Lib.hid hx
        clear hK h1 h2 hx
        go_simp
        first
          | (go_at_call 7; refine (FS.out _).mono ?_; rintro e x1 ⟨rfl, hb⟩; exact HK2.out _ (HX.out.quiet 0 (by rfl) hb))
          | exact HK2.out _ (HX.out.quiet 0 (by rfl) (Below.refl _ _))
      simp only [Act.put, List.setIfInBounds_toArray, List.set_cons_succ, List.set_cons_zero]
      apply Ghost.walk_const (fun γ => by rfl)
      · intro γ L wx h1 h2 hx K hK
        have HXx := HBR.out.next hx.below
        have z1_0 : wx.cell? ⟨ga, 0, none⟩ = some (.int .i64 s1) := cell_of_row _ _ _ _ _ (0, 0) HXx.r1
        have z1_1 : wx.cell? ⟨ga, 1, none⟩ = some (.int .i64 s2) := cell_of_row _ _ _ _ _ (0, 0) HXx.r1
        have z1_2 : wx.cell? ⟨ga, 2, none⟩ = some (.int .i64 s3) := cell_of_row _ _ _ _ _ (0, 0) HXx.r1
        have z1_3 : wx.cell? ⟨ga, 3, none⟩ = some (.bool s4) := cell_of_row _ _ _ _ _ (0, 0) HXx.r1
        have z1_4 : wx.cell? ⟨ga, 4, none⟩ = some (.int .i64 s5) := cell_of_row _ _ _ _ _ (0, 0) HXx.r1
        have z2_0 : wx.cell? ⟨w.heap.size, 0, none⟩ = some (.int .i64 t0) := cell_of_row _ _ _ _ _ (0, 0) HXx.r2
        have z2_1 : wx.cell? ⟨w.heap.size, 1, none⟩ = some (.int .i64 t1) := cell_of_row _ _ _ _ _ (0, 0) HXx.r2
        have z2_2 : wx.cell? ⟨w.heap.size, 2, none⟩ = some (.int .i64 t2) := cell_of_row _ _ _ _ _ (0, 0) HXx.r2
        have z2_3 : wx.cell? ⟨w.heap.size, 3, none⟩ = some (.int .i64 t3) := cell_of_row _ _ _ _ _ (0, 0) HXx.r2
        have z2_4 : wx.cell? ⟨w.heap.size, 4, none⟩ = some (.int .i64 t4) := cell_of_row _ _ _ _ _ (0, 0) HXx.r2
        have z2_5 : wx.cell? ⟨w.heap.size, 5, none⟩ = some (.int .i64 b5) := cell_of_row _ _ _ _ _ (0, 0) HXx.r2
        have z2_6 : wx.cell? ⟨w.heap.size, 6, none⟩ = some (.int .i64 e6) := cell_of_row _ _ _ _ _ (0, 0) HXx.r2
        have z2_7 : wx.cell? ⟨w.heap.size, 7, none⟩ = some (.int .i64 b7) := cell_of_row _ _ _ _ _ (0, 0) HXx.r2
        have z2_8 : wx.cell? ⟨w.heap.size, 8, none⟩ = some (.int .i64 t8) := cell_of_row _ _ _ _ _ (0, 0) HXx.r2
        obtain ⟨k0, k1, k2⟩ := HTK.out wx HXx.below
        have HK2 := Lib.hid hK
        have HX := Lib.hid hx
        clear hK h1 h2 hx
        go_simp
        first
          | (go_at_call 7; refine (FS.out _).mono ?_; rintro e x1 ⟨rfl, hb⟩; exact HK2.out _ (HX.out.quiet 0 (by rfl) hb))
          | exact HK2.out _ (HX.out.quiet 0 (by rfl) (Below.refl _ _))
      simp only [Act.put, List.setIfInBounds_toArray, List.set_cons_succ, List.set_cons_zero]
      apply Ghost.walk_const (fun γ => by rfl)
      · intro γ L wx h1 h2 hx K hK
        have HXx := HBR.out.next hx.below
        have z1_0 : wx.cell? ⟨ga, 0, none⟩ = some (.int .i64 s1) := cell_of_row _ _ _ _ _ (0, 0) HXx.r1
        have z1_1 : wx.cell? ⟨ga, 1, none⟩ = some (.int .i64 s2) := cell_of_row _ _ _ _ _ (0, 0) HXx.r1
        have z1_2 : wx.cell? ⟨ga, 2, none⟩ = some (.int .i64 s3) := cell_of_row _ _ _ _ _ (0, 0) HXx.r1
        have z1_3 : wx.cell? ⟨ga, 3, none⟩ = some (.bool s4) := cell_of_row _ _ _ _ _ (0, 0) HXx.r1
        have z1_4 : wx.cell? ⟨ga, 4, none⟩ = some (.int .i64 s5) := cell_of_row _ _ _ _ _ (0, 0) HXx.r1
        have z2_0 : wx.cell? ⟨w.heap.size, 0, none⟩ = some (.int .i64 t0) := cell_of_row _ _ _ _ _ (0, 0) HXx.r2
        have z2_1 : wx.cell? ⟨w.heap.size, 1, none⟩ = some (.int .i64 t1) := cell_of_row _ _ _ _ _ (0, 0) HXx.r2
        have z2_2 : wx.cell? ⟨w.heap.size, 2, none⟩ = some (.int .i64 t2) := cell_of_row _ _ _ _ _ (0, 0) HXx.r2
        have z2_3 : wx.cell? ⟨w.heap.size, 3, none⟩ = some (.int .i64 t3) := cell_of_row _ _ _ _ _ (0, 0) HXx.r2
        have z2_4 : wx.cell? ⟨w.heap.size, 4, none⟩ = some (.int .i64 t4) := cell_of_row _ _ _ _ _ (0, 0) HXx.r2
        have z2_5 : wx.cell? ⟨w.heap.size, 5, none⟩ = some (.int .i64 b5) := cell_of_row _ _ _ _ _ (0, 0) HXx.r2
        have z2_6 : wx.cell? ⟨w.heap.size, 6, none⟩ = some (.int .i64 e6) := cell_of_row _ _ _ _ _ (0, 0) HXx.r2
        have z2_7 : wx.cell? ⟨w.heap.size, 7, none⟩ = some (.int .i64 b7) := cell_of_row _ _ _ _ _ (0, 0) HXx.r2
        have z2_8 : wx.cell? ⟨w.heap.size, 8, none⟩ = some (.int .i64 t8) := cell_of_row _ _ _ _ _ (0, 0) HXx.r2
        obtain ⟨k0, k1, k2⟩ := HTK.out wx HXx.below
        have HK2 := Lib.hid hK
        have HX := Lib.hid hx
        clear hK h1 h2 hx
        go_simp
        first
          | (go_at_call 7; refine (FS.out _).mono ?_; rintro e x1 ⟨rfl, hb⟩; exact HK2.out _ (HX.out.quiet 0 (by rfl) hb))
          | exact HK2.out _ (HX.out.quiet 0 (by rfl) (Below.refl _ _))
      simp only [Act.put, List.setIfInBounds_toArray, List.set_cons_succ, List.set_cons_zero]
      apply Ghost.walk_const (fun γ => by rfl)
      · intro γ L wx h1 h2 hx K hK
        have HXx := HBR.out.next hx.below
        have z1_0 : wx.cell? ⟨ga, 0, none⟩ = some (.int .i64 s1) := cell_of_row _ _ _ _ _ (0, 0) HXx.r1
        have z1_1 : wx.cell? ⟨ga, 1, none⟩ = some (.int .i64 s2) := cell_of_row _ _ _ _ _ (0, 0) HXx.r1
        have z1_2 : wx.cell? ⟨ga, 2, none⟩ = some (.int .i64 s3) := cell_of_row _ _ _ _ _ (0, 0) HXx.r1
        have z1_3 : wx.cell? ⟨ga, 3, none⟩ = some (.bool s4) := cell_of_row _ _ _ _ _ (0, 0) HXx.r1
        have z1_4 : wx.cell? ⟨ga, 4, none⟩ = some (.int .i64 s5) := cell_of_row _ _ _ _ _ (0, 0) HXx.r1
        have z2_0 : wx.cell? ⟨w.heap.size, 0, none⟩ = some (.int .i64 t0) := cell_of_row _ _ _ _ _ (0, 0) HXx.r2
        have z2_1 : wx.cell? ⟨w.heap.size, 1, none⟩ = some (.int .i64 t1) := cell_of_row _ _ _ _ _ (0, 0) HXx.r2
        have z2_2 : wx.cell? ⟨w.heap.size, 2, none⟩ = some (.int .i64 t2) := cell_of_row _ _ _ _ _ (0, 0) HXx.r2
        have z2_3 : wx.cell? ⟨w.heap.size, 3, none⟩ = some (.int .i64 t3) := cell_of_row _ _ _ _ _ (0, 0) HXx.r2
        have z2_4 : wx.cell? ⟨w.heap.size, 4, none⟩ = some (.int .i64 t4) := cell_of_row _ _ _ _ _ (0, 0) HXx.r2
        have z2_5 : wx.cell? ⟨w.heap.size, 5, none⟩ = some (.int .i64 b5) := cell_of_row _ _ _ _ _ (0, 0) HXx.r2
        have z2_6 : wx.cell? ⟨w.heap.size, 6, none⟩ = some (.int .i64 e6) := cell_of_row _ _ _ _ _ (0, 0) HXx.r2
        have z2_7 : wx.cell? ⟨w.heap.size, 7, none⟩ = some (.int .i64 b7) := cell_of_row _ _ _ _ _ (0, 0) HXx.r2
        have z2_8 : wx.cell? ⟨w.heap.size, 8, none⟩ = some (.int .i64 t8) := cell_of_row _ _ _ _ _ (0, 0) HXx.r2
        obtain ⟨k0, k1, k2⟩ := HTK.out wx HXx.below
        have HK2 := Lib.hid hK
        have HX := Lib.hid hx
        clear hK h1 h2 hx
        go_simp
        first
          | (go_at_call 7; refine (FS.out _).mono ?_; rintro e x1 ⟨rfl, hb⟩; exact HK2.out _ (HX.out.quiet 0 (by rfl) hb))
          | exact HK2.out _ (HX.out.quiet 0 (by rfl) (Below.refl _ _))
      simp only [Act.put, List.setIfInBounds_toArray, List.set_cons_succ, List.set_cons_zero]
      apply Ghost.walk_const (fun γ => by rfl)
      · intro γ L wx h1 h2 hx K hK
        have HXx := HBR.out.next hx.below
        have z1_0 : wx.cell? ⟨ga, 0, none⟩ = some (.int .i64 s1) := cell_of_row _ _ _ _ _ (0, 0) HXx.r1
        have z1_1 : wx.cell? ⟨ga, 1, none⟩ = some (.int .i64 s2) := cell_of_row _ _ _ _ _ (0, 0) HXx.r1
        have z1_2 : wx.cell? ⟨ga, 2, none⟩ = some (.int .i64 s3) := cell_of_row _ _ _ _ _ (0, 0) HXx.r1
        have z1_3 : wx.cell? ⟨ga, 3, none⟩ = some (.bool s4) := cell_of_row _ _ _ _ _ (0, 0) HXx.r1
        have z1_4 : wx.cell? ⟨ga, 4, none⟩ = some (.int .i64 s5) := cell_of_row _ _ _ _ _ (0, 0) HXx.r1
        have z2_0 : wx.cell? ⟨w.heap.size, 0, none⟩ = some (.int .i64 t0) := cell_of_row _ _ _ _ _ (0, 0) HXx.r2
        have z2_1 : wx.cell? ⟨w.heap.size, 1, none⟩ = some (.int .i64 t1) := cell_of_row _ _ _ _ _ (0, 0) HXx.r2
        have z2_2 : wx.cell? ⟨w.heap.size, 2, none⟩ = some (.int .i64 t2) := cell_of_row _ _ _ _ _ (0, 0) HXx.r2
        have z2_3 : wx.cell? ⟨w.heap.size, 3, none⟩ = some (.int .i64 t3) := cell_of_row _ _ _ _ _ (0, 0) HXx.r2
        have z2_4 : wx.cell? ⟨w.heap.size, 4, none⟩ = some (.int .i64 t4) := cell_of_row _ _ _ _ _ (0, 0) HXx.r2
        have z2_5 : wx.cell? ⟨w.heap.size, 5, none⟩ = some (.int .i64 b5) := cell_of_row _ _ _ _ _ (0, 0) HXx.r2
        have z2_6 : wx.cell? ⟨w.heap.size, 6, none⟩ = some (.int .i64 e6) := cell_of_row _ _ _ _ _ (0, 0) HXx.r2
        have z2_7 : wx.cell? ⟨w.heap.size, 7, none⟩ = some (.int .i64 b7) := cell_of_row _ _ _ _ _ (0, 0) HXx.r2
        have z2_8 : wx.cell? ⟨w.heap.size, 8, none⟩ = some (.int .i64 t8) := cell_of_row _ _ _ _ _ (0, 0) HXx.r2
        obtain ⟨k0, k1, k2⟩ := HTK.out wx HXx.below
        have HK2 := Lib.hid hK
        have HX := Lib.hid hx
        clear hK h1 h2 hx
        go_simp
        first
          | (go_at_call 7; refine (FS.out _).mono ?_; rintro e x1 ⟨rfl, hb⟩; exact HK2.out _ (HX.out.quiet 0 (by rfl) hb))
          | exact HK2.out _ (HX.out.quiet 0 (by rfl) (Below.refl _ _))
      simp only [Act.put, List.setIfInBounds_toArray, List.set_cons_succ, List.set_cons_zero]
      apply Ghost.walk_const (fun γ => by rfl)
      · intro γ L wx h1 h2 hx K hK
        have HXx := HBR.out.next hx.below
        have z1_0 : wx.cell? ⟨ga, 0, none⟩ = some (.int .i64 s1) := cell_of_row _ _ _ _ _ (0, 0) HXx.r1
        have z1_1 : wx.cell? ⟨ga, 1, none⟩ = some (.int .i64 s2) := cell_of_row _ _ _ _ _ (0, 0) HXx.r1
        have z1_2 : wx.cell? ⟨ga, 2, none⟩ = some (.int .i64 s3) := cell_of_row _ _ _ _ _ (0, 0) HXx.r1
        have z1_3 : wx.cell? ⟨ga, 3, none⟩ = some (.bool s4) := cell_of_row _ _ _ _ _ (0, 0) HXx.r1
        have z1_4 : wx.cell? ⟨ga, 4, none⟩ = some (.int .i64 s5) := cell_of_row _ _ _ _ _ (0, 0) HXx.r1
        have z2_0 : wx.cell? ⟨w.heap.size, 0, none⟩ = some (.int .i64 t0) := cell_of_row _ _ _ _ _ (0, 0) HXx.r2
        have z2_1 : wx.cell? ⟨w.heap.size, 1, none⟩ = some (.int .i64 t1) := cell_of_row _ _ _ _ _ (0, 0) HXx.r2
        have z2_2 : wx.cell? ⟨w.heap.size, 2, none⟩ = some (.int .i64 t2) := cell_of_row _ _ _ _ _ (0, 0) HXx.r2
        have z2_3 : wx.cell? ⟨w.heap.size, 3, none⟩ = some (.int .i64 t3) := cell_of_row _ _ _ _ _ (0, 0) HXx.r2
        have z2_4 : wx.cell? ⟨w.heap.size, 4, none⟩ = some (.int .i64 t4) := cell_of_row _ _ _ _ _ (0, 0) HXx.r2
        have z2_5 : wx.cell? ⟨w.heap.size, 5, none⟩ = some (.int .i64 b5) := cell_of_row _ _ _ _ _ (0, 0) HXx.r2
        have z2_6 : wx.cell? ⟨w.heap.size, 6, none⟩ = some (.int .i64 e6) := cell_of_row _ _ _ _ _ (0, 0) HXx.r2
        have z2_7 : wx.cell? ⟨w.heap.size, 7, none⟩ = some (.int .i64 b7) := cell_of_row _ _ _ _ _ (0, 0) HXx.r2
        have z2_8 : wx.cell? ⟨w.heap.size, 8, none⟩ = some (.int .i64 t8) := cell_of_row _ _ _ _ _ (0, 0) HXx.r2
        obtain ⟨k0, k1, k2⟩ := HTK.out wx HXx.below
        have HK2 := Lib.hid hK
        have HX := Lib.hid hx
        clear hK h1 h2 hx
        go_simp
        first
          | (go_at_call 7; refine (FS.out _).mono ?_; rintro e x1 ⟨rfl, hb⟩; exact HK2.out _ (HX.out.quiet 0 (by rfl) hb))
          | exact HK2.out _ (HX.out.quiet 0 (by rfl) (Below.refl _ _))
      simp only [Act.put, List.setIfInBounds_toArray, List.set_cons_succ, List.set_cons_zero]
      apply Ghost.walk_const (fun γ => by rfl)
      · intro γ L wx h1 h2 hx K hK
        have HXx := HBR.out.next hx.below
        have z1_0 : wx.cell? ⟨ga, 0, none⟩ = some (.int .i64 s1) := cell_of_row _ _ _ _ _ (0, 0) HXx.r1
        have z1_1 : wx.cell? ⟨ga, 1, none⟩ = some (.int .i64 s2) := cell_of_row _ _ _ _ _ (0, 0) HXx.r1
        have z1_2 : wx.cell? ⟨ga, 2, none⟩ = some (.int .i64 s3) := cell_of_row _ _ _ _ _ (0, 0) HXx.r1
        have z1_3 : wx.cell? ⟨ga, 3, none⟩ = some (.bool s4) := cell_of_row _ _ _ _ _ (0, 0) HXx.r1
        have z1_4 : wx.cell? ⟨ga, 4, none⟩ = some (.int .i64 s5) := cell_of_row _ _ _ _ _ (0, 0) HXx.r1
        have z2_0 : wx.cell? ⟨w.heap.size, 0, none⟩ = some (.int .i64 t0) := cell_of_row _ _ _ _ _ (0, 0) HXx.r2
        have z2_1 : wx.cell? ⟨w.heap.size, 1, none⟩ = some (.int .i64 t1) := cell_of_row _ _ _ _ _ (0, 0) HXx.r2
        have z2_2 : wx.cell? ⟨w.heap.size, 2, none⟩ = some (.int .i64 t2) := cell_of_row _ _ _ _ _ (0, 0) HXx.r2
        have z2_3 : wx.cell? ⟨w.heap.size, 3, none⟩ = some (.int .i64 t3) := cell_of_row _ _ _ _ _ (0, 0) HXx.r2
        have z2_4 : wx.cell? ⟨w.heap.size, 4, none⟩ = some (.int .i64 t4) := cell_of_row _ _ _ _ _ (0, 0) HXx.r2
        have z2_5 : wx.cell? ⟨w.heap.size, 5, none⟩ = some (.int .i64 b5) := cell_of_row _ _ _ _ _ (0, 0) HXx.r2
        have z2_6 : wx.cell? ⟨w.heap.size, 6, none⟩ = some (.int .i64 e6) := cell_of_row _ _ _ _ _ (0, 0) HXx.r2
        have z2_7 : wx.cell? ⟨w.heap.size, 7, none⟩ = some (.int .i64 b7) := cell_of_row _ _ _ _ _ (0, 0) HXx.r2
        have z2_8 : wx.cell? ⟨w.heap.size, 8, none⟩ = some (.int .i64 t8) := cell_of_row _ _ _ _ _ (0, 0) HXx.r2
        obtain ⟨k0, k1, k2⟩ := HTK.out wx HXx.below
        have HK2 := Lib.hid hK
        have HX := Lib.hid hx
        clear hK h1 h2 hx
        go_simp
        first
          | (go_at_call 7; refine (FS.out _).mono ?_; rintro e x1 ⟨rfl, hb⟩; exact HK2.out _ (HX.out.quiet 0 (by rfl) hb))
          | exact HK2.out _ (HX.out.quiet 0 (by rfl) (Below.refl _ _))
      simp only [Act.put, List.setIfInBounds_toArray, List.set_cons_succ, List.set_cons_zero]
      apply Ghost.walk_const (fun γ => by rfl)
      · intro γ L wx h1 h2 hx K hK
        have HXx := HBR.out.next hx.below
        have z1_0 : wx.cell? ⟨ga, 0, none⟩ = some (.int .i64 s1) := cell_of_row _ _ _ _ _ (0, 0) HXx.r1
        have z1_1 : wx.cell? ⟨ga, 1, none⟩ = some (.int .i64 s2) := cell_of_row _ _ _ _ _ (0, 0) HXx.r1
        have z1_2 : wx.cell? ⟨ga, 2, none⟩ = some (.int .i64 s3) := cell_of_row _ _ _ _ _ (0, 0) HXx.r1
        have z1_3 : wx.cell? ⟨ga, 3, none⟩ = some (.bool s4) := cell_of_row _ _ _ _ _ (0, 0) HXx.r1
        have z1_4 : wx.cell? ⟨ga, 4, none⟩ = some (.int .i64 s5) := cell_of_row _ _ _ _ _ (0, 0) HXx.r1
        have z2_0 : wx.cell? ⟨w.heap.size, 0, none⟩ = some (.int .i64 t0) := cell_of_row _ _ _ _ _ (0, 0) HXx.r2
        have z2_1 : wx.cell? ⟨w.heap.size, 1, none⟩ = some (.int .i64 t1) := cell_of_row _ _ _ _ _ (0, 0) HXx.r2
        have z2_2 : wx.cell? ⟨w.heap.size, 2, none⟩ = some (.int .i64 t2) := cell_of_row _ _ _ _ _ (0, 0) HXx.r2
        have z2_3 : wx.cell? ⟨w.heap.size, 3, none⟩ = some (.int .i64 t3) := cell_of_row _ _ _ _ _ (0, 0) HXx.r2
        have z2_4 : wx.cell? ⟨w.heap.size, 4, none⟩ = some (.int .i64 t4) := cell_of_row _ _ _ _ _ (0, 0) HXx.r2
        have z2_5 : wx.cell? ⟨w.heap.size, 5, none⟩ = some (.int .i64 b5) := cell_of_row _ _ _ _ _ (0, 0) HXx.r2
        have z2_6 : wx.cell? ⟨w.heap.size, 6, none⟩ = some (.int .i64 e6) := cell_of_row _ _ _ _ _ (0, 0) HXx.r2
        have z2_7 : wx.cell? ⟨w.heap.size, 7, none⟩ = some (.int .i64 b7) := cell_of_row _ _ _ _ _ (0, 0) HXx.r2
        have z2_8 : wx.cell? ⟨w.heap.size, 8, none⟩ = some (.int .i64 t8) := cell_of_row _ _ _ _ _ (0, 0) HXx.r2
        obtain ⟨k0, k1, k2⟩ := HTK.out wx HXx.below
        have HK2 := Lib.hid hK
        have HX := Lib.hid hx
        clear hK h1 h2 hx
        go_simp
        first
          | (go_at_call 7; refine (FS.out _).mono ?_; rintro e x1 ⟨rfl, hb⟩; exact HK2.out _ (HX.out.quiet 0 (by rfl) hb))
          | exact HK2.out _ (HX.out.quiet 0 (by rfl) (Below.refl _ _))
      simp only [Act.put, List.setIfInBounds_toArray, List.set_cons_succ, List.set_cons_zero]
      apply Ghost.walk_const (fun γ => by rfl)
      · intro γ L wx h1 h2 hx K hK
        have HXx := HBR.out.next hx.below
        have z1_0 : wx.cell? ⟨ga, 0, none⟩ = some (.int .i64 s1) := cell_of_row _ _ _ _ _ (0, 0) HXx.r1
        have z1_1 : wx.cell? ⟨ga, 1, none⟩ = some (.int .i64 s2) := cell_of_row _ _ _ _ _ (0, 0) HXx.r1
        have z1_2 : wx.cell? ⟨ga, 2, none⟩ = some (.int .i64 s3) := cell_of_row _ _ _ _ _ (0, 0) HXx.r1
        have z1_3 : wx.cell? ⟨ga, 3, none⟩ = some (.bool s4) := cell_of_row _ _ _ _ _ (0, 0) HXx.r1
        have z1_4 : wx.cell? ⟨ga, 4, none⟩ = some (.int .i64 s5) := cell_of_row _ _ _ _ _ (0, 0) HXx.r1
        have z2_0 : wx.cell? ⟨w.heap.size, 0, none⟩ = some (.int .i64 t0) := cell_of_row _ _ _ _ _ (0, 0) HXx.r2
        have z2_1 : wx.cell? ⟨w.heap.size, 1, none⟩ = some (.int .i64 t1) := cell_of_row _ _ _ _ _ (0, 0) HXx.r2
        have z2_2 : wx.cell? ⟨w.heap.size, 2, none⟩ = some (.int .i64 t2) := cell_of_row _ _ _ _ _ (0, 0) HXx.r2
        have z2_3 : wx.cell? ⟨w.heap.size, 3, none⟩ = some (.int .i64 t3) := cell_of_row _ _ _ _ _ (0, 0) HXx.r2
        have z2_4 : wx.cell? ⟨w.heap.size, 4, none⟩ = some (.int .i64 t4) := cell_of_row _ _ _ _ _ (0, 0) HXx.r2
        have z2_5 : wx.cell? ⟨w.heap.size, 5, none⟩ = some (.int .i64 b5) := cell_of_row _ _ _ _ _ (0, 0) HXx.r2
        have z2_6 : wx.cell? ⟨w.heap.size, 6, none⟩ = some (.int .i64 e6) := cell_of_row _ _ _ _ _ (0, 0) HXx.r2
        have z2_7 : wx.cell? ⟨w.heap.size, 7, none⟩ = some (.int .i64 b7) := cell_of_row _ _ _ _ _ (0, 0) HXx.r2
        have z2_8 : wx.cell? ⟨w.heap.size, 8, none⟩ = some (.int .i64 t8) := cell_of_row _ _ _ _ _ (0, 0) HXx.r2
        obtain ⟨k0, k1, k2⟩ := HTK.out wx HXx.below
        have HK2 := Lib.hid hK
        have HX := Lib.hid hx
        clear hK h1 h2 hx
        go_simp
        first
          | (go_at_call 7; refine (FS.out _).mono ?_; rintro e x1 ⟨rfl, hb⟩; exact HK2.out _ (HX.out.quiet 0 (by rfl) hb))
          | exact HK2.out _ (HX.out.quiet 0 (by rfl) (Below.refl _ _))
      simp only [Act.put, List.setIfInBounds_toArray, List.set_cons_succ, List.set_cons_zero]
      apply Ghost.walk_const (fun γ => by rfl)
      · intro γ L wx h1 h2 hx K hK
        have HXx := HBR.out.next hx.below
        have z1_0 : wx.cell? ⟨ga, 0, none⟩ = some (.int .i64 s1) := cell_of_row _ _ _ _ _ (0, 0) HXx.r1
        have z1_1 : wx.cell? ⟨ga, 1, none⟩ = some (.int .i64 s2) := cell_of_row _ _ _ _ _ (0, 0) HXx.r1
        have z1_2 : wx.cell? ⟨ga, 2, none⟩ = some (.int .i64 s3) := cell_of_row _ _ _ _ _ (0, 0) HXx.r1
        have z1_3 : wx.cell? ⟨ga, 3, none⟩ = some (.bool s4) := cell_of_row _ _ _ _ _ (0, 0) HXx.r1
        have z1_4 : wx.cell? ⟨ga, 4, none⟩ = some (.int .i64 s5) := cell_of_row _ _ _ _ _ (0, 0) HXx.r1
        have z2_0 : wx.cell? ⟨w.heap.size, 0, none⟩ = some (.int .i64 t0) := cell_of_row _ _ _ _ _ (0, 0) HXx.r2
        have z2_1 : wx.cell? ⟨w.heap.size, 1, none⟩ = some (.int .i64 t1) := cell_of_row _ _ _ _ _ (0, 0) HXx.r2
        have z2_2 : wx.cell? ⟨w.heap.size, 2, none⟩ = some (.int .i64 t2) := cell_of_row _ _ _ _ _ (0, 0) HXx.r2
        have z2_3 : wx.cell? ⟨w.heap.size, 3, none⟩ = some (.int .i64 t3) := cell_of_row _ _ _ _ _ (0, 0) HXx.r2
        have z2_4 : wx.cell? ⟨w.heap.size, 4, none⟩ = some (.int .i64 t4) := cell_of_row _ _ _ _ _ (0, 0) HXx.r2
        have z2_5 : wx.cell? ⟨w.heap.size, 5, none⟩ = some (.int .i64 b5) := cell_of_row _ _ _ _ _ (0, 0) HXx.r2
        have z2_6 : wx.cell? ⟨w.heap.size, 6, none⟩ = some (.int .i64 e6) := cell_of_row _ _ _ _ _ (0, 0) HXx.r2
        have z2_7 : wx.cell? ⟨w.heap.size, 7, none⟩ = some (.int .i64 b7) := cell_of_row _ _ _ _ _ (0, 0) HXx.r2
        have z2_8 : wx.cell? ⟨w.heap.size, 8, none⟩ = some (.int .i64 t8) := cell_of_row _ _ _ _ _ (0, 0) HXx.r2
        obtain ⟨k0, k1, k2⟩ := HTK.out wx HXx.below
        have HK2 := Lib.hid hK
        have HX := Lib.hid hx
        clear hK h1 h2 hx
        go_simp
        first
          | (go_at_call 7; refine (FS.out _).mono ?_; rintro e x1 ⟨rfl, hb⟩; exact HK2.out _ (HX.out.quiet 0 (by rfl) hb))
          | exact HK2.out _ (HX.out.quiet 0 (by rfl) (Below.refl _ _))
      simp only [Act.put, List.setIfInBounds_toArray, List.set_cons_succ, List.set_cons_zero]
      apply Ghost.walk_const (fun γ => by rfl)
      · intro γ L wx h1 h2 hx K hK
        have HXx := HBR.out.next hx.below
        have z1_0 : wx.cell? ⟨ga, 0, none⟩ = some (.int .i64 s1) := cell_of_row _ _ _ _ _ (0, 0) HXx.r1
        have z1_1 : wx.cell? ⟨ga, 1, none⟩ = some (.int .i64 s2) := cell_of_row _ _ _ _ _ (0, 0) HXx.r1
        have z1_2 : wx.cell? ⟨ga, 2, none⟩ = some (.int .i64 s3) := cell_of_row _ _ _ _ _ (0, 0) HXx.r1
        have z1_3 : wx.cell? ⟨ga, 3, none⟩ = some (.bool s4) := cell_of_row _ _ _ _ _ (0, 0) HXx.r1
        have z1_4 : wx.cell? ⟨ga, 4, none⟩ = some (.int .i64 s5) := cell_of_row _ _ _ _ _ (0, 0) HXx.r1
        have z2_0 : wx.cell? ⟨w.heap.size, 0, none⟩ = some (.int .i64 t0) := cell_of_row _ _ _ _ _ (0, 0) HXx.r2
        have z2_1 : wx.cell? ⟨w.heap.size, 1, none⟩ = some (.int .i64 t1) := cell_of_row _ _ _ _ _ (0, 0) HXx.r2
        have z2_2 : wx.cell? ⟨w.heap.size, 2, none⟩ = some (.int .i64 t2) := cell_of_row _ _ _ _ _ (0, 0) HXx.r2
        have z2_3 : wx.cell? ⟨w.heap.size, 3, none⟩ = some (.int .i64 t3) := cell_of_row _ _ _ _ _ (0, 0) HXx.r2
        have z2_4 : wx.cell? ⟨w.heap.size, 4, none⟩ = some (.int .i64 t4) := cell_of_row _ _ _ _ _ (0, 0) HXx.r2
        have z2_5 : wx.cell? ⟨w.heap.size, 5, none⟩ = some (.int .i64 b5) := cell_of_row _ _ _ _ _ (0, 0) HXx.r2
        have z2_6 : wx.cell? ⟨w.heap.size, 6, none⟩ = some (.int .i64 e6) := cell_of_row _ _ _ _ _ (0, 0) HXx.r2
        have z2_7 : wx.cell? ⟨w.heap.size, 7, none⟩ = some (.int .i64 b7) := cell_of_row _ _ _ _ _ (0, 0) HXx.r2
        have z2_8 : wx.cell? ⟨w.heap.size, 8, none⟩ = some (.int .i64 t8) := cell_of_row _ _ _ _ _ (0, 0) HXx.r2
        obtain ⟨k0, k1, k2⟩ := HTK.out wx HXx.below
        have HK2 := Lib.hid hK
        have HX := Lib.hid hx
        clear hK h1 h2 hx
        go_simp
        first
          | (go_at_call 7; refine (FS.out _).mono ?_; rintro e x1 ⟨rfl, hb⟩; exact HK2.out _ (HX.out.quiet 0 (by rfl) hb))
          | exact HK2.out _ (HX.out.quiet 0 (by rfl) (Below.refl _ _))
      simp only [Act.put, List.setIfInBounds_toArray, List.set_cons_succ, List.set_cons_zero]
      refine Ghost.walk_yes (fun b => .pointer (some ⟨b, 0, none⟩)) (fun γ => by rfl) ?_ ?_
      · intro γ L wx h1 h2 hx K hK
        have HK2 := Lib.hid hK
        clear hK h2
        have hL : L (⟨21, 22, 25, #[.int .i64 0, .int .i64 0, .int .i64 0, .bool false, .int .i64 0], #[.int .i64 a, .int .i64 b, .int .i64 c, .bool d, .int .i64 e]⟩ : Decl).al = false := h1
        clear h1
        go_simp
        exact HK2.out wx.heap.size _ (hx.alloc (⟨21, 22, 25, #[.int .i64 0, .int .i64 0, .int .i64 0, .bool false, .int .i64 0], #[.int .i64 a, .int .i64 b, .int .i64 c, .bool d, .int .i64 e]⟩ : Decl) (decl_mem _) hL (by rfl) (decl_al _))
      simp only [Act.put, List.setIfInBounds_toArray, List.set_cons_succ, List.set_cons_zero]
      refine Ghost.walk_yes (fun _ => undef) (fun γ => by rfl) ?_ ?_
      · intro γ L wx h1 h2 hx K hK
        have hA : L (⟨21, 22, 25, #[.int .i64 0, .int .i64 0, .int .i64 0, .bool false, .int .i64 0], #[.int .i64 a, .int .i64 b, .int .i64 c, .bool d, .int .i64 e]⟩ : Decl).al = true := h2 21 (by kernel_rfl)
        exact hx.wp_store (⟨21, 22, 25, #[.int .i64 0, .int .i64 0, .int .i64 0, .bool false, .int .i64 0], #[.int .i64 a, .int .i64 b, .int .i64 c, .bool d, .int .i64 e]⟩ : Decl) (decl_mem _) h1 hA _ _ rfl rfl rfl (by kernel_rfl) rfl (by kernel_rfl) (hK 0 _ (hx.store (⟨21, 22, 25, #[.int .i64 0, .int .i64 0, .int .i64 0, .bool false, .int .i64 0], #[.int .i64 a, .int .i64 b, .int .i64 c, .bool d, .int .i64 e]⟩ : Decl) (decl_mem _) hA (by rfl) (decl_st _) (decl_al _) 0))
      simp only [Act.put]
      apply Ghost.walk_const (fun γ => by rfl)
      · intro γ L wx h1 h2 hx K hK
        have HXx := HBR.out.next hx.below
        have z1_0 : wx.cell? ⟨ga, 0, none⟩ = some (.int .i64 s1) := cell_of_row _ _ _ _ _ (0, 0) HXx.r1
        have z1_1 : wx.cell? ⟨ga, 1, none⟩ = some (.int .i64 s2) := cell_of_row _ _ _ _ _ (0, 0) HXx.r1
        have z1_2 : wx.cell? ⟨ga, 2, none⟩ = some (.int .i64 s3) := cell_of_row _ _ _ _ _ (0, 0) HXx.r1
        have z1_3 : wx.cell? ⟨ga, 3, none⟩ = some (.bool s4) := cell_of_row _ _ _ _ _ (0, 0) HXx.r1
        have z1_4 : wx.cell? ⟨ga, 4, none⟩ = some (.int .i64 s5) := cell_of_row _ _ _ _ _ (0, 0) HXx.r1
        have z2_0 : wx.cell? ⟨w.heap.size, 0, none⟩ = some (.int .i64 t0) := cell_of_row _ _ _ _ _ (0, 0) HXx.r2
        have z2_1 : wx.cell? ⟨w.heap.size, 1, none⟩ = some (.int .i64 t1) := cell_of_row _ _ _ _ _ (0, 0) HXx.r2
        have z2_2 : wx.cell? ⟨w.heap.size, 2, none⟩ = some (.int .i64 t2) := cell_of_row _ _ _ _ _ (0, 0) HXx.r2
        have z2_3 : wx.cell? ⟨w.heap.size, 3, none⟩ = some (.int .i64 t3) := cell_of_row _ _ _ _ _ (0, 0) HXx.r2
        have z2_4 : wx.cell? ⟨w.heap.size, 4, none⟩ = some (.int .i64 t4) := cell_of_row _ _ _ _ _ (0, 0) HXx.r2
        have z2_5 : wx.cell? ⟨w.heap.size, 5, none⟩ = some (.int .i64 b5) := cell_of_row _ _ _ _ _ (0, 0) HXx.r2
        have z2_6 : wx.cell? ⟨w.heap.size, 6, none⟩ = some (.int .i64 e6) := cell_of_row _ _ _ _ _ (0, 0) HXx.r2
        have z2_7 : wx.cell? ⟨w.heap.size, 7, none⟩ = some (.int .i64 b7) := cell_of_row _ _ _ _ _ (0, 0) HXx.r2
        have z2_8 : wx.cell? ⟨w.heap.size, 8, none⟩ = some (.int .i64 t8) := cell_of_row _ _ _ _ _ (0, 0) HXx.r2
        obtain ⟨k0, k1, k2⟩ := HTK.out wx HXx.below
        have HK2 := Lib.hid hK
        have HX := Lib.hid hx
        clear hK h1 h2 hx
        go_simp
        first
          | (go_at_call 7; refine (FS.out _).mono ?_; rintro e x1 ⟨rfl, hb⟩; exact HK2.out _ (HX.out.quiet 0 (by rfl) hb))
          | exact HK2.out _ (HX.out.quiet 0 (by rfl) (Below.refl _ _))
      simp only [Act.put, List.setIfInBounds_toArray, List.set_cons_succ, List.set_cons_zero]
      refine Ghost.walk_nil (fun γ L w4 hall hD => ?_)
      obtain ⟨hd4, hr4, hb4⟩ := hD.done1 hall (by show 21 < 24; decide) (by show 22 < 24; decide)
      clear hall hD
      simp only [Nat.zero_add, Nat.reduceAdd] at hd4 hr4 ⊢
      generalize γ 21 = gx at *
      have HB4 := Lib.hid (HBR.out.make hr4 hb4)
      have l4_0 : ga + 1 < gx := by omega
      have l4_1 : ga < gx := by omega
      have l4_2 : w.heap.size < gx := by omega
      have lw4 : w.heap.size ≤ gx := by have := HBR.out.below.size; omega
      clear hd4 hr4 hb4 HBR q0 q1 q2
      go_wp2_with fail
      have q0 : gx < w4.heap.size := (Array.getElem?_eq_some_iff.1 HB4.out.r0).1
      have q1 : ga + 1 < w4.heap.size := (Array.getElem?_eq_some_iff.1 HB4.out.r1).1
      have q2 : ga < w4.heap.size := (Array.getElem?_eq_some_iff.1 HB4.out.r2).1
      have q3 : w.heap.size < w4.heap.size := (Array.getElem?_eq_some_iff.1 HB4.out.r3).1
      refine Ghost.ghost (fun γ L wx => Decls (w4).heap.size (w4) [(⟨21, 22, 25, #[.int .i64 0, .int .i64 0, .int .i64 0, .bool false, .int .i64 0], #[.int .i64 a, .int .i64 b, .int .i64 c, .bool d, .int .i64 e]⟩ : Decl)] γ L wx) (by kernel_rfl) (by kernel_rfl) (fun γ => Decls.start _ γ (Below.refl _ _).drew (Nat.le_refl _)) ?_
      apply Ghost.walk_const (fun γ => by rfl)
      · intro γ L wx h1 h2 hx K hK
        have HXx := HB4.out.next hx.below
        have z1_0 : wx.cell? ⟨ga + 1, 0, none⟩ = some (.int .i64 s1) := cell_of_row _ _ _ _ _ (0, 0) HXx.r1
        have z1_1 : wx.cell? ⟨ga + 1, 1, none⟩ = some (.int .i64 s2) := cell_of_row _ _ _ _ _ (0, 0) HXx.r1
        have z1_2 : wx.cell? ⟨ga + 1, 2, none⟩ = some (.int .i64 s3) := cell_of_row _ _ _ _ _ (0, 0) HXx.r1
        have z1_3 : wx.cell? ⟨ga + 1, 3, none⟩ = some (.bool s4) := cell_of_row _ _ _ _ _ (0, 0) HXx.r1
        have z1_4 : wx.cell? ⟨ga + 1, 4, none⟩ = some (.int .i64 s5) := cell_of_row _ _ _ _ _ (0, 0) HXx.r1
        have z3_0 : wx.cell? ⟨w.heap.size, 0, none⟩ = some (.int .i64 t0) := cell_of_row _ _ _ _ _ (0, 0) HXx.r3
        have z3_1 : wx.cell? ⟨w.heap.size, 1, none⟩ = some (.int .i64 t1) := cell_of_row _ _ _ _ _ (0, 0) HXx.r3
        have z3_2 : wx.cell? ⟨w.heap.size, 2, none⟩ = some (.int .i64 t2) := cell_of_row _ _ _ _ _ (0, 0) HXx.r3
        have z3_3 : wx.cell? ⟨w.heap.size, 3, none⟩ = some (.int .i64 t3) := cell_of_row _ _ _ _ _ (0, 0) HXx.r3
        have z3_4 : wx.cell? ⟨w.heap.size, 4, none⟩ = some (.int .i64 t4) := cell_of_row _ _ _ _ _ (0, 0) HXx.r3
        have z3_5 : wx.cell? ⟨w.heap.size, 5, none⟩ = some (.int .i64 b5) := cell_of_row _ _ _ _ _ (0, 0) HXx.r3
        have z3_6 : wx.cell? ⟨w.heap.size, 6, none⟩ = some (.int .i64 e6) := cell_of_row _ _ _ _ _ (0, 0) HXx.r3
        have z3_7 : wx.cell? ⟨w.heap.size, 7, none⟩ = some (.int .i64 b7) := cell_of_row _ _ _ _ _ (0, 0) HXx.r3
        have z3_8 : wx.cell? ⟨w.heap.size, 8, none⟩ = some (.int .i64 t8) := cell_of_row _ _ _ _ _ (0, 0) HXx.r3
        obtain ⟨k0, k1, k2⟩ := HTK.out wx HXx.below
        have HK2 := Lib.hid hK
        have HX := Lib.hid hx
        clear hK h1 h2 hx
        go_simp
        first
          | (go_at_call 8; refine (FR.out _).mono ?_; rintro e x1 ⟨rfl, hb⟩; exact HK2.out _ (HX.out.quiet 0 (by rfl) hb))
          | exact HK2.out _ (HX.out.quiet 0 (by rfl) (Below.refl _ _))
      simp only [Act.put, List.setIfInBounds_toArray, List.set_cons_succ, List.set_cons_zero]
      apply Ghost.walk_const (fun γ => by rfl)
      · intro γ L wx h1 h2 hx K hK
        have HXx := HB4.out.next hx.below
        have z1_0 : wx.cell? ⟨ga + 1, 0, none⟩ = some (.int .i64 s1) := cell_of_row _ _ _ _ _ (0, 0) HXx.r1
        have z1_1 : wx.cell? ⟨ga + 1, 1, none⟩ = some (.int .i64 s2) := cell_of_row _ _ _ _ _ (0, 0) HXx.r1
        have z1_2 : wx.cell? ⟨ga + 1, 2, none⟩ = some (.int .i64 s3) := cell_of_row _ _ _ _ _ (0, 0) HXx.r1
        have z1_3 : wx.cell? ⟨ga + 1, 3, none⟩ = some (.bool s4) := cell_of_row _ _ _ _ _ (0, 0) HXx.r1
        have z1_4 : wx.cell? ⟨ga + 1, 4, none⟩ = some (.int .i64 s5) := cell_of_row _ _ _ _ _ (0, 0) HXx.r1
        have z3_0 : wx.cell? ⟨w.heap.size, 0, none⟩ = some (.int .i64 t0) := cell_of_row _ _ _ _ _ (0, 0) HXx.r3
        have z3_1 : wx.cell? ⟨w.heap.size, 1, none⟩ = some (.int .i64 t1) := cell_of_row _ _ _ _ _ (0, 0) HXx.r3
        have z3_2 : wx.cell? ⟨w.heap.size, 2, none⟩ = some (.int .i64 t2) := cell_of_row _ _ _ _ _ (0, 0) HXx.r3
        have z3_3 : wx.cell? ⟨w.heap.size, 3, none⟩ = some (.int .i64 t3) := cell_of_row _ _ _ _ _ (0, 0) HXx.r3
        have z3_4 : wx.cell? ⟨w.heap.size, 4, none⟩ = some (.int .i64 t4) := cell_of_row _ _ _ _ _ (0, 0) HXx.r3
        have z3_5 : wx.cell? ⟨w.heap.size, 5, none⟩ = some (.int .i64 b5) := cell_of_row _ _ _ _ _ (0, 0) HXx.r3
        have z3_6 : wx.cell? ⟨w.heap.size, 6, none⟩ = some (.int .i64 e6) := cell_of_row _ _ _ _ _ (0, 0) HXx.r3
        have z3_7 : wx.cell? ⟨w.heap.size, 7, none⟩ = some (.int .i64 b7) := cell_of_row _ _ _ _ _ (0, 0) HXx.r3
        have z3_8 : wx.cell? ⟨w.heap.size, 8, none⟩ = some (.int .i64 t8) := cell_of_row _ _ _ _ _ (0, 0) HXx.r3
        obtain ⟨k0, k1, k2⟩ := HTK.out wx HXx.below
        have HK2 := Lib.hid hK
        have HX := Lib.hid hx
        clear hK h1 h2 hx
        go_simp
        first
          | (go_at_call 8; refine (FR.out _).mono ?_; rintro e x1 ⟨rfl, hb⟩; exact HK2.out _ (HX.out.quiet 0 (by rfl) hb))
          | exact HK2.out _ (HX.out.quiet 0 (by rfl) (Below.refl _ _))
      simp only [Act.put, List.setIfInBounds_toArray, List.set_cons_succ, List.set_cons_zero]
      apply Ghost.walk_const (fun γ => by rfl)
      · intro γ L wx h1 h2 hx K hK
        have HXx := HB4.out.next hx.below
        have z1_0 : wx.cell? ⟨ga + 1, 0, none⟩ = some (.int .i64 s1) := cell_of_row _ _ _ _ _ (0, 0) HXx.r1
        have z1_1 : wx.cell? ⟨ga + 1, 1, none⟩ = some (.int .i64 s2) := cell_of_row _ _ _ _ _ (0, 0) HXx.r1
        have z1_2 : wx.cell? ⟨ga + 1, 2, none⟩ = some (.int .i64 s3) := cell_of_row _ _ _ _ _ (0, 0) HXx.r1
        have z1_3 : wx.cell? ⟨ga + 1, 3, none⟩ = some (.bool s4) := cell_of_row _ _ _ _ _ (0, 0) HXx.r1
        have z1_4 : wx.cell? ⟨ga + 1, 4, none⟩ = some (.int .i64 s5) := cell_of_row _ _ _ _ _ (0, 0) HXx.r1
        have z3_0 : wx.cell? ⟨w.heap.size, 0, none⟩ = some (.int .i64 t0) := cell_of_row _ _ _ _ _ (0, 0) HXx.r3
        have z3_1 : wx.cell? ⟨w.heap.size, 1, none⟩ = some (.int .i64 t1) := cell_of_row _ _ _ _ _ (0, 0) HXx.r3
        have z3_2 : wx.cell? ⟨w.heap.size, 2, none⟩ = some (.int .i64 t2) := cell_of_row _ _ _ _ _ (0, 0) HXx.r3
        have z3_3 : wx.cell? ⟨w.heap.size, 3, none⟩ = some (.int .i64 t3) := cell_of_row _ _ _ _ _ (0, 0) HXx.r3
        have z3_4 : wx.cell? ⟨w.heap.size, 4, none⟩ = some (.int .i64 t4) := cell_of_row _ _ _ _ _ (0, 0) HXx.r3
        have z3_5 : wx.cell? ⟨w.heap.size, 5, none⟩ = some (.int .i64 b5) := cell_of_row _ _ _ _ _ (0, 0) HXx.r3
        have z3_6 : wx.cell? ⟨w.heap.size, 6, none⟩ = some (.int .i64 e6) := cell_of_row _ _ _ _ _ (0, 0) HXx.r3
        have z3_7 : wx.cell? ⟨w.heap.size, 7, none⟩ = some (.int .i64 b7) := cell_of_row _ _ _ _ _ (0, 0) HXx.r3
        have z3_8 : wx.cell? ⟨w.heap.size, 8, none⟩ = some (.int .i64 t8) := cell_of_row _ _ _ _ _ (0, 0) HXx.r3
        obtain ⟨k0, k1, k2⟩ := HTK.out wx HXx.below
        have HK2 := Lib.hid hK
        have HX := Lib.hid hx
        clear hK h1 h2 hx
        go_simp
        first
          | (go_at_call 8; refine (FR.out _).mono ?_; rintro e x1 ⟨rfl, hb⟩; exact HK2.out _ (HX.out.quiet 0 (by rfl) hb))
          | exact HK2.out _ (HX.out.quiet 0 (by rfl) (Below.refl _ _))
      simp only [Act.put, List.setIfInBounds_toArray, List.set_cons_succ, List.set_cons_zero]
      apply Ghost.walk_const (fun γ => by rfl)
      · intro γ L wx h1 h2 hx K hK
        have HXx := HB4.out.next hx.below
        have z1_0 : wx.cell? ⟨ga + 1, 0, none⟩ = some (.int .i64 s1) := cell_of_row _ _ _ _ _ (0, 0) HXx.r1
        have z1_1 : wx.cell? ⟨ga + 1, 1, none⟩ = some (.int .i64 s2) := cell_of_row _ _ _ _ _ (0, 0) HXx.r1
        have z1_2 : wx.cell? ⟨ga + 1, 2, none⟩ = some (.int .i64 s3) := cell_of_row _ _ _ _ _ (0, 0) HXx.r1
        have z1_3 : wx.cell? ⟨ga + 1, 3, none⟩ = some (.bool s4) := cell_of_row _ _ _ _ _ (0, 0) HXx.r1
        have z1_4 : wx.cell? ⟨ga + 1, 4, none⟩ = some (.int .i64 s5) := cell_of_row _ _ _ _ _ (0, 0) HXx.r1
        have z3_0 : wx.cell? ⟨w.heap.size, 0, none⟩ = some (.int .i64 t0) := cell_of_row _ _ _ _ _ (0, 0) HXx.r3
        have z3_1 : wx.cell? ⟨w.heap.size, 1, none⟩ = some (.int .i64 t1) := cell_of_row _ _ _ _ _ (0, 0) HXx.r3
        have z3_2 : wx.cell? ⟨w.heap.size, 2, none⟩ = some (.int .i64 t2) := cell_of_row _ _ _ _ _ (0, 0) HXx.r3
        have z3_3 : wx.cell? ⟨w.heap.size, 3, none⟩ = some (.int .i64 t3) := cell_of_row _ _ _ _ _ (0, 0) HXx.r3
        have z3_4 : wx.cell? ⟨w.heap.size, 4, none⟩ = some (.int .i64 t4) := cell_of_row _ _ _ _ _ (0, 0) HXx.r3
        have z3_5 : wx.cell? ⟨w.heap.size, 5, none⟩ = some (.int .i64 b5) := cell_of_row _ _ _ _ _ (0, 0) HXx.r3
        have z3_6 : wx.cell? ⟨w.heap.size, 6, none⟩ = some (.int .i64 e6) := cell_of_row _ _ _ _ _ (0, 0) HXx.r3
        have z3_7 : wx.cell? ⟨w.heap.size, 7, none⟩ = some (.int .i64 b7) := cell_of_row _ _ _ _ _ (0, 0) HXx.r3
        have z3_8 : wx.cell? ⟨w.heap.size, 8, none⟩ = some (.int .i64 t8) := cell_of_row _ _ _ _ _ (0, 0) HXx.r3
        obtain ⟨k0, k1, k2⟩ := HTK.out wx HXx.below
        have HK2 := Lib.hid hK
        have HX := Lib.hid hx
        clear hK h1 h2 hx
        go_simp
        first
          | (go_at_call 8; refine (FR.out _).mono ?_; rintro e x1 ⟨rfl, hb⟩; exact HK2.out _ (HX.out.quiet 0 (by rfl) hb))
          | exact HK2.out _ (HX.out.quiet 0 (by rfl) (Below.refl _ _))
      simp only [Act.put, List.setIfInBounds_toArray, List.set_cons_succ, List.set_cons_zero]
      apply Ghost.walk_const (fun γ => by rfl)
      · intro γ L wx h1 h2 hx K hK
        have HXx := HB4.out.next hx.below
        have z1_0 : wx.cell? ⟨ga + 1, 0, none⟩ = some (.int .i64 s1) := cell_of_row _ _ _ _ _ (0, 0) HXx.r1
        have z1_1 : wx.cell? ⟨ga + 1, 1, none⟩ = some (.int .i64 s2) := cell_of_row _ _ _ _ _ (0, 0) HXx.r1
        have z1_2 : wx.cell? ⟨ga + 1, 2, none⟩ = some (.int .i64 s3) := cell_of_row _ _ _ _ _ (0, 0) HXx.r1
        have z1_3 : wx.cell? ⟨ga + 1, 3, none⟩ = some (.bool s4) := cell_of_row _ _ _ _ _ (0, 0) HXx.r1
        have z1_4 : wx.cell? ⟨ga + 1, 4, none⟩ = some (.int .i64 s5) := cell_of_row _ _ _ _ _ (0, 0) HXx.r1
        have z3_0 : wx.cell? ⟨w.heap.size, 0, none⟩ = some (.int .i64 t0) := cell_of_row _ _ _ _ _ (0, 0) HXx.r3
        have z3_1 : wx.cell? ⟨w.heap.size, 1, none⟩ = some (.int .i64 t1) := cell_of_row _ _ _ _ _ (0, 0) HXx.r3
        have z3_2 : wx.cell? ⟨w.heap.size, 2, none⟩ = some (.int .i64 t2) := cell_of_row _ _ _ _ _ (0, 0) HXx.r3
        have z3_3 : wx.cell? ⟨w.heap.size, 3, none⟩ = some (.int .i64 t3) := cell_of_row _ _ _ _ _ (0, 0) HXx.r3
        have z3_4 : wx.cell? ⟨w.heap.size, 4, none⟩ = some (.int .i64 t4) := cell_of_row _ _ _ _ _ (0, 0) HXx.r3
        have z3_5 : wx.cell? ⟨w.heap.size, 5, none⟩ = some (.int .i64 b5) := cell_of_row _ _ _ _ _ (0, 0) HXx.r3
        have z3_6 : wx.cell? ⟨w.heap.size, 6, none⟩ = some (.int .i64 e6) := cell_of_row _ _ _ _ _ (0, 0) HXx.r3
        have z3_7 : wx.cell? ⟨w.heap.size, 7, none⟩ = some (.int .i64 b7) := cell_of_row _ _ _ _ _ (0, 0) HXx.r3
        have z3_8 : wx.cell? ⟨w.heap.size, 8, none⟩ = some (.int .i64 t8) := cell_of_row _ _ _ _ _ (0, 0) HXx.r3
        obtain ⟨k0, k1, k2⟩ := HTK.out wx HXx.below
        have HK2 := Lib.hid hK
        have HX := Lib.hid hx
        clear hK h1 h2 hx
        go_simp
        first
          | (go_at_call 8; refine (FR.out _).mono ?_; rintro e x1 ⟨rfl, hb⟩; exact HK2.out _ (HX.out.quiet 0 (by rfl) hb))
          | exact HK2.out _ (HX.out.quiet 0 (by rfl) (Below.refl _ _))
      simp only [Act.put, List.setIfInBounds_toArray, List.set_cons_succ, List.set_cons_zero]
      apply Ghost.walk_const (fun γ => by rfl)
      · intro γ L wx h1 h2 hx K hK
        have HXx := HB4.out.next hx.below
        have z1_0 : wx.cell? ⟨ga + 1, 0, none⟩ = some (.int .i64 s1) := cell_of_row _ _ _ _ _ (0, 0) HXx.r1
        have z1_1 : wx.cell? ⟨ga + 1, 1, none⟩ = some (.int .i64 s2) := cell_of_row _ _ _ _ _ (0, 0) HXx.r1
        have z1_2 : wx.cell? ⟨ga + 1, 2, none⟩ = some (.int .i64 s3) := cell_of_row _ _ _ _ _ (0, 0) HXx.r1
        have z1_3 : wx.cell? ⟨ga + 1, 3, none⟩ = some (.bool s4) := cell_of_row _ _ _ _ _ (0, 0) HXx.r1
        have z1_4 : wx.cell? ⟨ga + 1, 4, none⟩ = some (.int .i64 s5) := cell_of_row _ _ _ _ _ (0, 0) HXx.r1
        have z3_0 : wx.cell? ⟨w.heap.size, 0, none⟩ = some (.int .i64 t0) := cell_of_row _ _ _ _ _ (0, 0) HXx.r3
        have z3_1 : wx.cell? ⟨w.heap.size, 1, none⟩ = some (.int .i64 t1) := cell_of_row _ _ _ _ _ (0, 0) HXx.r3
        have z3_2 : wx.cell? ⟨w.heap.size, 2, none⟩ = some (.int .i64 t2) := cell_of_row _ _ _ _ _ (0, 0) HXx.r3
        have z3_3 : wx.cell? ⟨w.heap.size, 3, none⟩ = some (.int .i64 t3) := cell_of_row _ _ _ _ _ (0, 0) HXx.r3
        have z3_4 : wx.cell? ⟨w.heap.size, 4, none⟩ = some (.int .i64 t4) := cell_of_row _ _ _ _ _ (0, 0) HXx.r3
        have z3_5 : wx.cell? ⟨w.heap.size, 5, none⟩ = some (.int .i64 b5) := cell_of_row _ _ _ _ _ (0, 0) HXx.r3
        have z3_6 : wx.cell? ⟨w.heap.size, 6, none⟩ = some (.int .i64 e6) := cell_of_row _ _ _ _ _ (0, 0) HXx.r3
        have z3_7 : wx.cell? ⟨w.heap.size, 7, none⟩ = some (.int .i64 b7) := cell_of_row _ _ _ _ _ (0, 0) HXx.r3
        have z3_8 : wx.cell? ⟨w.heap.size, 8, none⟩ = some (.int .i64 t8) := cell_of_row _ _ _ _ _ (0, 0) HXx.r3
        obtain ⟨k0, k1, k2⟩ := HTK.out wx HXx.below
        have HK2 := Lib.hid hK
        have HX := Lib.hid hx
        clear hK h1 h2 hx
        go_simp
        first
          | (go_at_call 8; refine (FR.out _).mono ?_; rintro e x1 ⟨rfl, hb⟩; exact HK2.out _ (HX.out.quiet 0 (by rfl) hb))
          | exact HK2.out _ (HX.out.quiet 0 (by rfl) (Below.refl _ _))
      simp only [Act.put, List.setIfInBounds_toArray, List.set_cons_succ, List.set_cons_zero]
      apply Ghost.walk_const (fun γ => by rfl)
      · intro γ L wx h1 h2 hx K hK
        have HXx := HB4.out.next hx.below
        have z1_0 : wx.cell? ⟨ga + 1, 0, none⟩ = some (.int .i64 s1) := cell_of_row _ _ _ _ _ (0, 0) HXx.r1
        have z1_1 : wx.cell? ⟨ga + 1, 1, none⟩ = some (.int .i64 s2) := cell_of_row _ _ _ _ _ (0, 0) HXx.r1
        have z1_2 : wx.cell? ⟨ga + 1, 2, none⟩ = some (.int .i64 s3) := cell_of_row _ _ _ _ _ (0, 0) HXx.r1
        have z1_3 : wx.cell? ⟨ga + 1, 3, none⟩ = some (.bool s4) := cell_of_row _ _ _ _ _ (0, 0) HXx.r1
        have z1_4 : wx.cell? ⟨ga + 1, 4, none⟩ = some (.int .i64 s5) := cell_of_row _ _ _ _ _ (0, 0) HXx.r1
        have z3_0 : wx.cell? ⟨w.heap.size, 0, none⟩ = some (.int .i64 t0) := cell_of_row _ _ _ _ _ (0, 0) HXx.r3
        have z3_1 : wx.cell? ⟨w.heap.size, 1, none⟩ = some (.int .i64 t1) := cell_of_row _ _ _ _ _ (0, 0) HXx.r3
        have z3_2 : wx.cell? ⟨w.heap.size, 2, none⟩ = some (.int .i64 t2) := cell_of_row _ _ _ _ _ (0, 0) HXx.r3
        have z3_3 : wx.cell? ⟨w.heap.size, 3, none⟩ = some (.int .i64 t3) := cell_of_row _ _ _ _ _ (0, 0) HXx.r3
        have z3_4 : wx.cell? ⟨w.heap.size, 4, none⟩ = some (.int .i64 t4) := cell_of_row _ _ _ _ _ (0, 0) HXx.r3
        have z3_5 : wx.cell? ⟨w.heap.size, 5, none⟩ = some (.int .i64 b5) := cell_of_row _ _ _ _ _ (0, 0) HXx.r3
        have z3_6 : wx.cell? ⟨w.heap.size, 6, none⟩ = some (.int .i64 e6) := cell_of_row _ _ _ _ _ (0, 0) HXx.r3
        have z3_7 : wx.cell? ⟨w.heap.size, 7, none⟩ = some (.int .i64 b7) := cell_of_row _ _ _ _ _ (0, 0) HXx.r3
        have z3_8 : wx.cell? ⟨w.heap.size, 8, none⟩ = some (.int .i64 t8) := cell_of_row _ _ _ _ _ (0, 0) HXx.r3
        obtain ⟨k0, k1, k2⟩ := HTK.out wx HXx.below
        have HK2 := Lib.hid hK
        have HX := Lib.hid hx
        clear hK h1 h2 hx
        go_simp
        first
          | (go_at_call 8; refine (FR.out _).mono ?_; rintro e x1 ⟨rfl, hb⟩; exact HK2.out _ (HX.out.quiet 0 (by rfl) hb))
          | exact HK2.out _ (HX.out.quiet 0 (by rfl) (Below.refl _ _))
      simp only [Act.put, List.setIfInBounds_toArray, List.set_cons_succ, List.set_cons_zero]
      apply Ghost.walk_const (fun γ => by rfl)
      · intro γ L wx h1 h2 hx K hK
        have HXx := HB4.out.next hx.below
        have z1_0 : wx.cell? ⟨ga + 1, 0, none⟩ = some (.int .i64 s1) := cell_of_row _ _ _ _ _ (0, 0) HXx.r1
        have z1_1 : wx.cell? ⟨ga + 1, 1, none⟩ = some (.int .i64 s2) := cell_of_row _ _ _ _ _ (0, 0) HXx.r1
        have z1_2 : wx.cell? ⟨ga + 1, 2, none⟩ = some (.int .i64 s3) := cell_of_row _ _ _ _ _ (0, 0) HXx.r1
        have z1_3 : wx.cell? ⟨ga + 1, 3, none⟩ = some (.bool s4) := cell_of_row _ _ _ _ _ (0, 0) HXx.r1
        have z1_4 : wx.cell? ⟨ga + 1, 4, none⟩ = some (.int .i64 s5) := cell_of_row _ _ _ _ _ (0, 0) HXx.r1
        have z3_0 : wx.cell? ⟨w.heap.size, 0, none⟩ = some (.int .i64 t0) := cell_of_row _ _ _ _ _ (0, 0) HXx.r3
        have z3_1 : wx.cell? ⟨w.heap.size, 1, none⟩ = some (.int .i64 t1) := cell_of_row _ _ _ _ _ (0, 0) HXx.r3
        have z3_2 : wx.cell? ⟨w.heap.size, 2, none⟩ = some (.int .i64 t2) := cell_of_row _ _ _ _ _ (0, 0) HXx.r3
        have z3_3 : wx.cell? ⟨w.heap.size, 3, none⟩ = some (.int .i64 t3) := cell_of_row _ _ _ _ _ (0, 0) HXx.r3
        have z3_4 : wx.cell? ⟨w.heap.size, 4, none⟩ = some (.int .i64 t4) := cell_of_row _ _ _ _ _ (0, 0) HXx.r3
        have z3_5 : wx.cell? ⟨w.heap.size, 5, none⟩ = some (.int .i64 b5) := cell_of_row _ _ _ _ _ (0, 0) HXx.r3
        have z3_6 : wx.cell? ⟨w.heap.size, 6, none⟩ = some (.int .i64 e6) := cell_of_row _ _ _ _ _ (0, 0) HXx.r3
        have z3_7 : wx.cell? ⟨w.heap.size, 7, none⟩ = some (.int .i64 b7) := cell_of_row _ _ _ _ _ (0, 0) HXx.r3
        have z3_8 : wx.cell? ⟨w.heap.size, 8, none⟩ = some (.int .i64 t8) := cell_of_row _ _ _ _ _ (0, 0) HXx.r3
        obtain ⟨k0, k1, k2⟩ := HTK.out wx HXx.below
        have HK2 := Lib.hid hK
        have HX := Lib.hid hx
        clear hK h1 h2 hx
        go_simp
        first
          | (go_at_call 8; refine (FR.out _).mono ?_; rintro e x1 ⟨rfl, hb⟩; exact HK2.out _ (HX.out.quiet 0 (by rfl) hb))
          | exact HK2.out _ (HX.out.quiet 0 (by rfl) (Below.refl _ _))
      simp only [Act.put, List.setIfInBounds_toArray, List.set_cons_succ, List.set_cons_zero]
      apply Ghost.walk_const (fun γ => by rfl)
      · intro γ L wx h1 h2 hx K hK
        have HXx := HB4.out.next hx.below
        have z1_0 : wx.cell? ⟨ga + 1, 0, none⟩ = some (.int .i64 s1) := cell_of_row _ _ _ _ _ (0, 0) HXx.r1
        have z1_1 : wx.cell? ⟨ga + 1, 1, none⟩ = some (.int .i64 s2) := cell_of_row _ _ _ _ _ (0, 0) HXx.r1
        have z1_2 : wx.cell? ⟨ga + 1, 2, none⟩ = some (.int .i64 s3) := cell_of_row _ _ _ _ _ (0, 0) HXx.r1
        have z1_3 : wx.cell? ⟨ga + 1, 3, none⟩ = some (.bool s4) := cell_of_row _ _ _ _ _ (0, 0) HXx.r1
        have z1_4 : wx.cell? ⟨ga + 1, 4, none⟩ = some (.int .i64 s5) := cell_of_row _ _ _ _ _ (0, 0) HXx.r1
        have z3_0 : wx.cell? ⟨w.heap.size, 0, none⟩ = some (.int .i64 t0) := cell_of_row _ _ _ _ _ (0, 0) HXx.r3
        have z3_1 : wx.cell? ⟨w.heap.size, 1, none⟩ = some (.int .i64 t1) := cell_of_row _ _ _ _ _ (0, 0) HXx.r3
        have z3_2 : wx.cell? ⟨w.heap.size, 2, none⟩ = some (.int .i64 t2) := cell_of_row _ _ _ _ _ (0, 0) HXx.r3
        have z3_3 : wx.cell? ⟨w.heap.size, 3, none⟩ = some (.int .i64 t3) := cell_of_row _ _ _ _ _ (0, 0) HXx.r3
        have z3_4 : wx.cell? ⟨w.heap.size, 4, none⟩ = some (.int .i64 t4) := cell_of_row _ _ _ _ _ (0, 0) HXx.r3
        have z3_5 : wx.cell? ⟨w.heap.size, 5, none⟩ = some (.int .i64 b5) := cell_of_row _ _ _ _ _ (0, 0) HXx.r3
        have z3_6 : wx.cell? ⟨w.heap.size, 6, none⟩ = some (.int .i64 e6) := cell_of_row _ _ _ _ _ (0, 0) HXx.r3
        have z3_7 : wx.cell? ⟨w.heap.size, 7, none⟩ = some (.int .i64 b7) := cell_of_row _ _ _ _ _ (0, 0) HXx.r3
        have z3_8 : wx.cell? ⟨w.heap.size, 8, none⟩ = some (.int .i64 t8) := cell_of_row _ _ _ _ _ (0, 0) HXx.r3
        obtain ⟨k0, k1, k2⟩ := HTK.out wx HXx.below
        have HK2 := Lib.hid hK
        have HX := Lib.hid hx
        clear hK h1 h2 hx
        go_simp
        first
          | (go_at_call 8; refine (FR.out _).mono ?_; rintro e x1 ⟨rfl, hb⟩; exact HK2.out _ (HX.out.quiet 0 (by rfl) hb))
          | exact HK2.out _ (HX.out.quiet 0 (by rfl) (Below.refl _ _))
      simp only [Act.put, List.setIfInBounds_toArray, List.set_cons_succ, List.set_cons_zero]
      apply Ghost.walk_const (fun γ => by rfl)
      · intro γ L wx h1 h2 hx K hK
        have HXx := HB4.out.next hx.below
        have z1_0 : wx.cell? ⟨ga + 1, 0, none⟩ = some (.int .i64 s1) := cell_of_row _ _ _ _ _ (0, 0) HXx.r1
        have z1_1 : wx.cell? ⟨ga + 1, 1, none⟩ = some (.int .i64 s2) := cell_of_row _ _ _ _ _ (0, 0) HXx.r1
        have z1_2 : wx.cell? ⟨ga + 1, 2, none⟩ = some (.int .i64 s3) := cell_of_row _ _ _ _ _ (0, 0) HXx.r1
        have z1_3 : wx.cell? ⟨ga + 1, 3, none⟩ = some (.bool s4) := cell_of_row _ _ _ _ _ (0, 0) HXx.r1
        have z1_4 : wx.cell? ⟨ga + 1, 4, none⟩ = some (.int .i64 s5) := cell_of_row _ _ _ _ _ (0, 0) HXx.r1
        have z3_0 : wx.cell? ⟨w.heap.size, 0, none⟩ = some (.int .i64 t0) := cell_of_row _ _ _ _ _ (0, 0) HXx.r3
        have z3_1 : wx.cell? ⟨w.heap.size, 1, none⟩ = some (.int .i64 t1) := cell_of_row _ _ _ _ _ (0, 0) HXx.r3
        have z3_2 : wx.cell? ⟨w.heap.size, 2, none⟩ = some (.int .i64 t2) := cell_of_row _ _ _ _ _ (0, 0) HXx.r3
        have z3_3 : wx.cell? ⟨w.heap.size, 3, none⟩ = some (.int .i64 t3) := cell_of_row _ _ _ _ _ (0, 0) HXx.r3
        have z3_4 : wx.cell? ⟨w.heap.size, 4, none⟩ = some (.int .i64 t4) := cell_of_row _ _ _ _ _ (0, 0) HXx.r3
        have z3_5 : wx.cell? ⟨w.heap.size, 5, none⟩ = some (.int .i64 b5) := cell_of_row _ _ _ _ _ (0, 0) HXx.r3
        have z3_6 : wx.cell? ⟨w.heap.size, 6, none⟩ = some (.int .i64 e6) := cell_of_row _ _ _ _ _ (0, 0) HXx.r3
        have z3_7 : wx.cell? ⟨w.heap.size, 7, none⟩ = some (.int .i64 b7) := cell_of_row _ _ _ _ _ (0, 0) HXx.r3
        have z3_8 : wx.cell? ⟨w.heap.size, 8, none⟩ = some (.int .i64 t8) := cell_of_row _ _ _ _ _ (0, 0) HXx.r3
        obtain ⟨k0, k1, k2⟩ := HTK.out wx HXx.below
        have HK2 := Lib.hid hK
        have HX := Lib.hid hx
        clear hK h1 h2 hx
        go_simp
        first
          | (go_at_call 8; refine (FR.out _).mono ?_; rintro e x1 ⟨rfl, hb⟩; exact HK2.out _ (HX.out.quiet 0 (by rfl) hb))
          | exact HK2.out _ (HX.out.quiet 0 (by rfl) (Below.refl _ _))
      simp only [Act.put, List.setIfInBounds_toArray, List.set_cons_succ, List.set_cons_zero]
      apply Ghost.walk_const (fun γ => by rfl)
      · intro γ L wx h1 h2 hx K hK
        have HXx := HB4.out.next hx.below
        have z1_0 : wx.cell? ⟨ga + 1, 0, none⟩ = some (.int .i64 s1) := cell_of_row _ _ _ _ _ (0, 0) HXx.r1
        have z1_1 : wx.cell? ⟨ga + 1, 1, none⟩ = some (.int .i64 s2) := cell_of_row _ _ _ _ _ (0, 0) HXx.r1
        have z1_2 : wx.cell? ⟨ga + 1, 2, none⟩ = some (.int .i64 s3) := cell_of_row _ _ _ _ _ (0, 0) HXx.r1
        have z1_3 : wx.cell? ⟨ga + 1, 3, none⟩ = some (.bool s4) := cell_of_row _ _ _ _ _ (0, 0) HXx.r1
        have z1_4 : wx.cell? ⟨ga + 1, 4, none⟩ = some (.int .i64 s5) := cell_of_row _ _ _ _ _ (0, 0) HXx.r1
        have z3_0 : wx.cell? ⟨w.heap.size, 0, none⟩ = some (.int .i64 t0) := cell_of_row _ _ _ _ _ (0, 0) HXx.r3
        have z3_1 : wx.cell? ⟨w.heap.size, 1, none⟩ = some (.int .i64 t1) := cell_of_row _ _ _ _ _ (0, 0) HXx.r3
        have z3_2 : wx.cell? ⟨w.heap.size, 2, none⟩ = some (.int .i64 t2) := cell_of_row _ _ _ _ _ (0, 0) HXx.r3
        have z3_3 : wx.cell? ⟨w.heap.size, 3, none⟩ = some (.int .i64 t3) := cell_of_row _ _ _ _ _ (0, 0) HXx.r3
        have z3_4 : wx.cell? ⟨w.heap.size, 4, none⟩ = some (.int .i64 t4) := cell_of_row _ _ _ _ _ (0, 0) HXx.r3
        have z3_5 : wx.cell? ⟨w.heap.size, 5, none⟩ = some (.int .i64 b5) := cell_of_row _ _ _ _ _ (0, 0) HXx.r3
        have z3_6 : wx.cell? ⟨w.heap.size, 6, none⟩ = some (.int .i64 e6) := cell_of_row _ _ _ _ _ (0, 0) HXx.r3
        have z3_7 : wx.cell? ⟨w.heap.size, 7, none⟩ = some (.int .i64 b7) := cell_of_row _ _ _ _ _ (0, 0) HXx.r3
        have z3_8 : wx.cell? ⟨w.heap.size, 8, none⟩ = some (.int .i64 t8) := cell_of_row _ _ _ _ _ (0, 0) HXx.r3
        obtain ⟨k0, k1, k2⟩ := HTK.out wx HXx.below
        have HK2 := Lib.hid hK
        have HX := Lib.hid hx
        clear hK h1 h2 hx
        go_simp
        first
          | (go_at_call 8; refine (FR.out _).mono ?_; rintro e x1 ⟨rfl, hb⟩; exact HK2.out _ (HX.out.quiet 0 (by rfl) hb))
          | exact HK2.out _ (HX.out.quiet 0 (by rfl) (Below.refl _ _))
      simp only [Act.put, List.setIfInBounds_toArray, List.set_cons_succ, List.set_cons_zero]
      apply Ghost.walk_const (fun γ => by rfl)
      · intro γ L wx h1 h2 hx K hK
        have HXx := HB4.out.next hx.below
        have z1_0 : wx.cell? ⟨ga + 1, 0, none⟩ = some (.int .i64 s1) := cell_of_row _ _ _ _ _ (0, 0) HXx.r1
        have z1_1 : wx.cell? ⟨ga + 1, 1, none⟩ = some (.int .i64 s2) := cell_of_row _ _ _ _ _ (0, 0) HXx.r1
        have z1_2 : wx.cell? ⟨ga + 1, 2, none⟩ = some (.int .i64 s3) := cell_of_row _ _ _ _ _ (0, 0) HXx.r1
        have z1_3 : wx.cell? ⟨ga + 1, 3, none⟩ = some (.bool s4) := cell_of_row _ _ _ _ _ (0, 0) HXx.r1
        have z1_4 : wx.cell? ⟨ga + 1, 4, none⟩ = some (.int .i64 s5) := cell_of_row _ _ _ _ _ (0, 0) HXx.r1
        have z3_0 : wx.cell? ⟨w.heap.size, 0, none⟩ = some (.int .i64 t0) := cell_of_row _ _ _ _ _ (0, 0) HXx.r3
        have z3_1 : wx.cell? ⟨w.heap.size, 1, none⟩ = some (.int .i64 t1) := cell_of_row _ _ _ _ _ (0, 0) HXx.r3
        have z3_2 : wx.cell? ⟨w.heap.size, 2, none⟩ = some (.int .i64 t2) := cell_of_row _ _ _ _ _ (0, 0) HXx.r3
        have z3_3 : wx.cell? ⟨w.heap.size, 3, none⟩ = some (.int .i64 t3) := cell_of_row _ _ _ _ _ (0, 0) HXx.r3
        have z3_4 : wx.cell? ⟨w.heap.size, 4, none⟩ = some (.int .i64 t4) := cell_of_row _ _ _ _ _ (0, 0) HXx.r3
        have z3_5 : wx.cell? ⟨w.heap.size, 5, none⟩ = some (.int .i64 b5) := cell_of_row _ _ _ _ _ (0, 0) HXx.r3
        have z3_6 : wx.cell? ⟨w.heap.size, 6, none⟩ = some (.int .i64 e6) := cell_of_row _ _ _ _ _ (0, 0) HXx.r3
        have z3_7 : wx.cell? ⟨w.heap.size, 7, none⟩ = some (.int .i64 b7) := cell_of_row _ _ _ _ _ (0, 0) HXx.r3
        have z3_8 : wx.cell? ⟨w.heap.size, 8, none⟩ = some (.int .i64 t8) := cell_of_row _ _ _ _ _ (0, 0) HXx.r3
        obtain ⟨k0, k1, k2⟩ := HTK.out wx HXx.below
        have HK2 := Lib.hid hK
        have HX := Lib.hid hx
        clear hK h1 h2 hx
        go_simp
        first
          | (go_at_call 8; refine (FR.out _).mono ?_; rintro e x1 ⟨rfl, hb⟩; exact HK2.out _ (HX.out.quiet 0 (by rfl) hb))
          | exact HK2.out _ (HX.out.quiet 0 (by rfl) (Below.refl _ _))
      simp only [Act.put, List.setIfInBounds_toArray, List.set_cons_succ, List.set_cons_zero]
      apply Ghost.walk_const (fun γ => by rfl)
      · intro γ L wx h1 h2 hx K hK
        have HXx := HB4.out.next hx.below
        have z1_0 : wx.cell? ⟨ga + 1, 0, none⟩ = some (.int .i64 s1) := cell_of_row _ _ _ _ _ (0, 0) HXx.r1
        have z1_1 : wx.cell? ⟨ga + 1, 1, none⟩ = some (.int .i64 s2) := cell_of_row _ _ _ _ _ (0, 0) HXx.r1
        have z1_2 : wx.cell? ⟨ga + 1, 2, none⟩ = some (.int .i64 s3) := cell_of_row _ _ _ _ _ (0, 0) HXx.r1
        have z1_3 : wx.cell? ⟨ga + 1, 3, none⟩ = some (.bool s4) := cell_of_row _ _ _ _ _ (0, 0) HXx.r1
        have z1_4 : wx.cell? ⟨ga + 1, 4, none⟩ = some (.int .i64 s5) := cell_of_row _ _ _ _ _ (0, 0) HXx.r1
        have z3_0 : wx.cell? ⟨w.heap.size, 0, none⟩ = some (.int .i64 t0) := cell_of_row _ _ _ _ _ (0, 0) HXx.r3
        have z3_1 : wx.cell? ⟨w.heap.size, 1, none⟩ = some (.int .i64 t1) := cell_of_row _ _ _ _ _ (0, 0) HXx.r3
        have z3_2 : wx.cell? ⟨w.heap.size, 2, none⟩ = some (.int .i64 t2) := cell_of_row _ _ _ _ _ (0, 0) HXx.r3
        have z3_3 : wx.cell? ⟨w.heap.size, 3, none⟩ = some (.int .i64 t3) := cell_of_row _ _ _ _ _ (0, 0) HXx.r3
        have z3_4 : wx.cell? ⟨w.heap.size, 4, none⟩ = some (.int .i64 t4) := cell_of_row _ _ _ _ _ (0, 0) HXx.r3
        have z3_5 : wx.cell? ⟨w.heap.size, 5, none⟩ = some (.int .i64 b5) := cell_of_row _ _ _ _ _ (0, 0) HXx.r3
        have z3_6 : wx.cell? ⟨w.heap.size, 6, none⟩ = some (.int .i64 e6) := cell_of_row _ _ _ _ _ (0, 0) HXx.r3
        have z3_7 : wx.cell? ⟨w.heap.size, 7, none⟩ = some (.int .i64 b7) := cell_of_row _ _ _ _ _ (0, 0) HXx.r3
        have z3_8 : wx.cell? ⟨w.heap.size, 8, none⟩ = some (.int .i64 t8) := cell_of_row _ _ _ _ _ (0, 0) HXx.r3
        obtain ⟨k0, k1, k2⟩ := HTK.out wx HXx.below
        have HK2 := Lib.hid hK
        have HX := Lib.hid hx
        clear hK h1 h2 hx
        go_simp
        first
          | (go_at_call 8; refine (FR.out _).mono ?_; rintro e x1 ⟨rfl, hb⟩; exact HK2.out _ (HX.out.quiet 0 (by rfl) hb))
          | exact HK2.out _ (HX.out.quiet 0 (by rfl) (Below.refl _ _))
      simp only [Act.put, List.setIfInBounds_toArray, List.set_cons_succ, List.set_cons_zero]
      apply Ghost.walk_const (fun γ => by rfl)
      · intro γ L wx h1 h2 hx K hK
        have HXx := HB4.out.next hx.below
        have z1_0 : wx.cell? ⟨ga + 1, 0, none⟩ = some (.int .i64 s1) := cell_of_row _ _ _ _ _ (0, 0) HXx.r1
        have z1_1 : wx.cell? ⟨ga + 1, 1, none⟩ = some (.int .i64 s2) := cell_of_row _ _ _ _ _ (0, 0) HXx.r1
        have z1_2 : wx.cell? ⟨ga + 1, 2, none⟩ = some (.int .i64 s3) := cell_of_row _ _ _ _ _ (0, 0) HXx.r1
        have z1_3 : wx.cell? ⟨ga + 1, 3, none⟩ = some (.bool s4) := cell_of_row _ _ _ _ _ (0, 0) HXx.r1
        have z1_4 : wx.cell? ⟨ga + 1, 4, none⟩ = some (.int .i64 s5) := cell_of_row _ _ _ _ _ (0, 0) HXx.r1
        have z3_0 : wx.cell? ⟨w.heap.size, 0, none⟩ = some (.int .i64 t0) := cell_of_row _ _ _ _ _ (0, 0) HXx.r3
        have z3_1 : wx.cell? ⟨w.heap.size, 1, none⟩ = some (.int .i64 t1) := cell_of_row _ _ _ _ _ (0, 0) HXx.r3
        have z3_2 : wx.cell? ⟨w.heap.size, 2, none⟩ = some (.int .i64 t2) := cell_of_row _ _ _ _ _ (0, 0) HXx.r3
        have z3_3 : wx.cell? ⟨w.heap.size, 3, none⟩ = some (.int .i64 t3) := cell_of_row _ _ _ _ _ (0, 0) HXx.r3
        have z3_4 : wx.cell? ⟨w.heap.size, 4, none⟩ = some (.int .i64 t4) := cell_of_row _ _ _ _ _ (0, 0) HXx.r3
        have z3_5 : wx.cell? ⟨w.heap.size, 5, none⟩ = some (.int .i64 b5) := cell_of_row _ _ _ _ _ (0, 0) HXx.r3
        have z3_6 : wx.cell? ⟨w.heap.size, 6, none⟩ = some (.int .i64 e6) := cell_of_row _ _ _ _ _ (0, 0) HXx.r3
        have z3_7 : wx.cell? ⟨w.heap.size, 7, none⟩ = some (.int .i64 b7) := cell_of_row _ _ _ _ _ (0, 0) HXx.r3
        have z3_8 : wx.cell? ⟨w.heap.size, 8, none⟩ = some (.int .i64 t8) := cell_of_row _ _ _ _ _ (0, 0) HXx.r3
        obtain ⟨k0, k1, k2⟩ := HTK.out wx HXx.below
        have HK2 := Lib.hid hK
        have HX := Lib.hid hx
        clear hK h1 h2 hx
        go_simp
        first
          | (go_at_call 8; refine (FR.out _).mono ?_; rintro e x1 ⟨rfl, hb⟩; exact HK2.out _ (HX.out.quiet 0 (by rfl) hb))
          | exact HK2.out _ (HX.out.quiet 0 (by rfl) (Below.refl _ _))
      simp only [Act.put, List.setIfInBounds_toArray, List.set_cons_succ, List.set_cons_zero]
      apply Ghost.walk_const (fun γ => by rfl)
      · intro γ L wx h1 h2 hx K hK
        have HXx := HB4.out.next hx.below
        have z1_0 : wx.cell? ⟨ga + 1, 0, none⟩ = some (.int .i64 s1) := cell_of_row _ _ _ _ _ (0, 0) HXx.r1
        have z1_1 : wx.cell? ⟨ga + 1, 1, none⟩ = some (.int .i64 s2) := cell_of_row _ _ _ _ _ (0, 0) HXx.r1
        have z1_2 : wx.cell? ⟨ga + 1, 2, none⟩ = some (.int .i64 s3) := cell_of_row _ _ _ _ _ (0, 0) HXx.r1
        have z1_3 : wx.cell? ⟨ga + 1, 3, none⟩ = some (.bool s4) := cell_of_row _ _ _ _ _ (0, 0) HXx.r1
        have z1_4 : wx.cell? ⟨ga + 1, 4, none⟩ = some (.int .i64 s5) := cell_of_row _ _ _ _ _ (0, 0) HXx.r1
        have z3_0 : wx.cell? ⟨w.heap.size, 0, none⟩ = some (.int .i64 t0) := cell_of_row _ _ _ _ _ (0, 0) HXx.r3
        have z3_1 : wx.cell? ⟨w.heap.size, 1, none⟩ = some (.int .i64 t1) := cell_of_row _ _ _ _ _ (0, 0) HXx.r3
        have z3_2 : wx.cell? ⟨w.heap.size, 2, none⟩ = some (.int .i64 t2) := cell_of_row _ _ _ _ _ (0, 0) HXx.r3
        have z3_3 : wx.cell? ⟨w.heap.size, 3, none⟩ = some (.int .i64 t3) := cell_of_row _ _ _ _ _ (0, 0) HXx.r3
        have z3_4 : wx.cell? ⟨w.heap.size, 4, none⟩ = some (.int .i64 t4) := cell_of_row _ _ _ _ _ (0, 0) HXx.r3
        have z3_5 : wx.cell? ⟨w.heap.size, 5, none⟩ = some (.int .i64 b5) := cell_of_row _ _ _ _ _ (0, 0) HXx.r3
        have z3_6 : wx.cell? ⟨w.heap.size, 6, none⟩ = some (.int .i64 e6) := cell_of_row _ _ _ _ _ (0, 0) HXx.r3
        have z3_7 : wx.cell? ⟨w.heap.size, 7, none⟩ = some (.int .i64 b7) := cell_of_row _ _ _ _ _ (0, 0) HXx.r3
        have z3_8 : wx.cell? ⟨w.heap.size, 8, none⟩ = some (.int .i64 t8) := cell_of_row _ _ _ _ _ (0, 0) HXx.r3
        obtain ⟨k0, k1, k2⟩ := HTK.out wx HXx.below
        have HK2 := Lib.hid hK
        have HX := Lib.hid hx
        clear hK h1 h2 hx
        go_simp
        first
          | (go_at_call 8; refine (FR.out _).mono ?_; rintro e x1 ⟨rfl, hb⟩; exact HK2.out _ (HX.out.quiet 0 (by rfl) hb))
          | exact HK2.out _ (HX.out.quiet 0 (by rfl) (Below.refl _ _))
      simp only [Act.put, List.setIfInBounds_toArray, List.set_cons_succ, List.set_cons_zero]
      apply Ghost.walk_const (fun γ => by rfl)
      · intro γ L wx h1 h2 hx K hK
        have HXx := HB4.out.next hx.below
        have z1_0 : wx.cell? ⟨ga + 1, 0, none⟩ = some (.int .i64 s1) := cell_of_row _ _ _ _ _ (0, 0) HXx.r1
        have z1_1 : wx.cell? ⟨ga + 1, 1, none⟩ = some (.int .i64 s2) := cell_of_row _ _ _ _ _ (0, 0) HXx.r1
        have z1_2 : wx.cell? ⟨ga + 1, 2, none⟩ = some (.int .i64 s3) := cell_of_row _ _ _ _ _ (0, 0) HXx.r1
        have z1_3 : wx.cell? ⟨ga + 1, 3, none⟩ = some (.bool s4) := cell_of_row _ _ _ _ _ (0, 0) HXx.r1
        have z1_4 : wx.cell? ⟨ga + 1, 4, none⟩ = some (.int .i64 s5) := cell_of_row _ _ _ _ _ (0, 0) HXx.r1
        have z3_0 : wx.cell? ⟨w.heap.size, 0, none⟩ = some (.int .i64 t0) := cell_of_row _ _ _ _ _ (0, 0) HXx.r3
        have z3_1 : wx.cell? ⟨w.heap.size, 1, none⟩ = some (.int .i64 t1) := cell_of_row _ _ _ _ _ (0, 0) HXx.r3
        have z3_2 : wx.cell? ⟨w.heap.size, 2, none⟩ = some (.int .i64 t2) := cell_of_row _ _ _ _ _ (0, 0) HXx.r3
        have z3_3 : wx.cell? ⟨w.heap.size, 3, none⟩ = some (.int .i64 t3) := cell_of_row _ _ _ _ _ (0, 0) HXx.r3
        have z3_4 : wx.cell? ⟨w.heap.size, 4, none⟩ = some (.int .i64 t4) := cell_of_row _ _ _ _ _ (0, 0) HXx.r3
        have z3_5 : wx.cell? ⟨w.heap.size, 5, none⟩ = some (.int .i64 b5) := cell_of_row _ _ _ _ _ (0, 0) HXx.r3
        have z3_6 : wx.cell? ⟨w.heap.size, 6, none⟩ = some (.int .i64 e6) := cell_of_row _ _ _ _ _ (0, 0) HXx.r3
        have z3_7 : wx.cell? ⟨w.heap.size, 7, none⟩ = some (.int .i64 b7) := cell_of_row _ _ _ _ _ (0, 0) HXx.r3
        have z3_8 : wx.cell? ⟨w.heap.size, 8, none⟩ = some (.int .i64 t8) := cell_of_row _ _ _ _ _ (0, 0) HXx.r3
        obtain ⟨k0, k1, k2⟩ := HTK.out wx HXx.below
        have HK2 := Lib.hid hK
        have HX := Lib.hid hx
        clear hK h1 h2 hx
        go_simp
        first
          | (go_at_call 8; refine (FR.out _).mono ?_; rintro e x1 ⟨rfl, hb⟩; exact HK2.out _ (HX.out.quiet 0 (by rfl) hb))
          | exact HK2.out _ (HX.out.quiet 0 (by rfl) (Below.refl _ _))
      simp only [Act.put, List.setIfInBounds_toArray, List.set_cons_succ, List.set_cons_zero]
      apply Ghost.walk_const (fun γ => by rfl)
      · intro γ L wx h1 h2 hx K hK
        have HXx := HB4.out.next hx.below
        have z1_0 : wx.cell? ⟨ga + 1, 0, none⟩ = some (.int .i64 s1) := cell_of_row _ _ _ _ _ (0, 0) HXx.r1
        have z1_1 : wx.cell? ⟨ga + 1, 1, none⟩ = some (.int .i64 s2) := cell_of_row _ _ _ _ _ (0, 0) HXx.r1
        have z1_2 : wx.cell? ⟨ga + 1, 2, none⟩ = some (.int .i64 s3) := cell_of_row _ _ _ _ _ (0, 0) HXx.r1
        have z1_3 : wx.cell? ⟨ga + 1, 3, none⟩ = some (.bool s4) := cell_of_row _ _ _ _ _ (0, 0) HXx.r1
        have z1_4 : wx.cell? ⟨ga + 1, 4, none⟩ = some (.int .i64 s5) := cell_of_row _ _ _ _ _ (0, 0) HXx.r1
        have z3_0 : wx.cell? ⟨w.heap.size, 0, none⟩ = some (.int .i64 t0) := cell_of_row _ _ _ _ _ (0, 0) HXx.r3
        have z3_1 : wx.cell? ⟨w.heap.size, 1, none⟩ = some (.int .i64 t1) := cell_of_row _ _ _ _ _ (0, 0) HXx.r3
        have z3_2 : wx.cell? ⟨w.heap.size, 2, none⟩ = some (.int .i64 t2) := cell_of_row _ _ _ _ _ (0, 0) HXx.r3
        have z3_3 : wx.cell? ⟨w.heap.size, 3, none⟩ = some (.int .i64 t3) := cell_of_row _ _ _ _ _ (0, 0) HXx.r3
        have z3_4 : wx.cell? ⟨w.heap.size, 4, none⟩ = some (.int .i64 t4) := cell_of_row _ _ _ _ _ (0, 0) HXx.r3
        have z3_5 : wx.cell? ⟨w.heap.size, 5, none⟩ = some (.int .i64 b5) := cell_of_row _ _ _ _ _ (0, 0) HXx.r3
        have z3_6 : wx.cell? ⟨w.heap.size, 6, none⟩ = some (.int .i64 e6) := cell_of_row _ _ _ _ _ (0, 0) HXx.r3
        have z3_7 : wx.cell? ⟨w.heap.size, 7, none⟩ = some (.int .i64 b7) := cell_of_row _ _ _ _ _ (0, 0) HXx.r3
        have z3_8 : wx.cell? ⟨w.heap.size, 8, none⟩ = some (.int .i64 t8) := cell_of_row _ _ _ _ _ (0, 0) HXx.r3
        obtain ⟨k0, k1, k2⟩ := HTK.out wx HXx.below
        have HK2 := Lib.hid hK
        have HX := Lib.hid hx
        clear hK h1 h2 hx
        go_simp
        first
          | (go_at_call 8; refine (FR.out _).mono ?_; rintro e x1 ⟨rfl, hb⟩; exact HK2.out _ (HX.out.quiet 0 (by rfl) hb))
          | exact HK2.out _ (HX.out.quiet 0 (by rfl) (Below.refl _ _))
      simp only [Act.put, List.setIfInBounds_toArray, List.set_cons_succ, List.set_cons_zero]
      apply Ghost.walk_const (fun γ => by rfl)
      · intro γ L wx h1 h2 hx K hK
        have HXx := HB4.out.next hx.below
        have z1_0 : wx.cell? ⟨ga + 1, 0, none⟩ = some (.int .i64 s1) := cell_of_row _ _ _ _ _ (0, 0) HXx.r1
        have z1_1 : wx.cell? ⟨ga + 1, 1, none⟩ = some (.int .i64 s2) := cell_of_row _ _ _ _ _ (0, 0) HXx.r1
        have z1_2 : wx.cell? ⟨ga + 1, 2, none⟩ = some (.int .i64 s3) := cell_of_row _ _ _ _ _ (0, 0) HXx.r1
        have z1_3 : wx.cell? ⟨ga + 1, 3, none⟩ = some (.bool s4) := cell_of_row _ _ _ _ _ (0, 0) HXx.r1
        have z1_4 : wx.cell? ⟨ga + 1, 4, none⟩ = some (.int .i64 s5) := cell_of_row _ _ _ _ _ (0, 0) HXx.r1
        have z3_0 : wx.cell? ⟨w.heap.size, 0, none⟩ = some (.int .i64 t0) := cell_of_row _ _ _ _ _ (0, 0) HXx.r3
        have z3_1 : wx.cell? ⟨w.heap.size, 1, none⟩ = some (.int .i64 t1) := cell_of_row _ _ _ _ _ (0, 0) HXx.r3
        have z3_2 : wx.cell? ⟨w.heap.size, 2, none⟩ = some (.int .i64 t2) := cell_of_row _ _ _ _ _ (0, 0) HXx.r3
        have z3_3 : wx.cell? ⟨w.heap.size, 3, none⟩ = some (.int .i64 t3) := cell_of_row _ _ _ _ _ (0, 0) HXx.r3
        have z3_4 : wx.cell? ⟨w.heap.size, 4, none⟩ = some (.int .i64 t4) := cell_of_row _ _ _ _ _ (0, 0) HXx.r3
        have z3_5 : wx.cell? ⟨w.heap.size, 5, none⟩ = some (.int .i64 b5) := cell_of_row _ _ _ _ _ (0, 0) HXx.r3
        have z3_6 : wx.cell? ⟨w.heap.size, 6, none⟩ = some (.int .i64 e6) := cell_of_row _ _ _ _ _ (0, 0) HXx.r3
        have z3_7 : wx.cell? ⟨w.heap.size, 7, none⟩ = some (.int .i64 b7) := cell_of_row _ _ _ _ _ (0, 0) HXx.r3
        have z3_8 : wx.cell? ⟨w.heap.size, 8, none⟩ = some (.int .i64 t8) := cell_of_row _ _ _ _ _ (0, 0) HXx.r3
        obtain ⟨k0, k1, k2⟩ := HTK.out wx HXx.below
        have HK2 := Lib.hid hK
        have HX := Lib.hid hx
        clear hK h1 h2 hx
        go_simp
        first
          | (go_at_call 8; refine (FR.out _).mono ?_; rintro e x1 ⟨rfl, hb⟩; exact HK2.out _ (HX.out.quiet 0 (by rfl) hb))
          | exact HK2.out _ (HX.out.quiet 0 (by rfl) (Below.refl _ _))
      simp only [Act.put, List.setIfInBounds_toArray, List.set_cons_succ, List.set_cons_zero]
      apply Ghost.walk_const (fun γ => by rfl)
      · intro γ L wx h1 h2 hx K hK
        have HXx := HB4.out.next hx.below
        have z1_0 : wx.cell? ⟨ga + 1, 0, none⟩ = some (.int .i64 s1) := cell_of_row _ _ _ _ _ (0, 0) HXx.r1
        have z1_1 : wx.cell? ⟨ga + 1, 1, none⟩ = some (.int .i64 s2) := cell_of_row _ _ _ _ _ (0, 0) HXx.r1
        have z1_2 : wx.cell? ⟨ga + 1, 2, none⟩ = some (.int .i64 s3) := cell_of_row _ _ _ _ _ (0, 0) HXx.r1
        have z1_3 : wx.cell? ⟨ga + 1, 3, none⟩ = some (.bool s4) := cell_of_row _ _ _ _ _ (0, 0) HXx.r1
        have z1_4 : wx.cell? ⟨ga + 1, 4, none⟩ = some (.int .i64 s5) := cell_of_row _ _ _ _ _ (0, 0) HXx.r1
        have z3_0 : wx.cell? ⟨w.heap.size, 0, none⟩ = some (.int .i64 t0) := cell_of_row _ _ _ _ _ (0, 0) HXx.r3
        have z3_1 : wx.cell? ⟨w.heap.size, 1, none⟩ = some (.int .i64 t1) := cell_of_row _ _ _ _ _ (0, 0) HXx.r3
        have z3_2 : wx.cell? ⟨w.heap.size, 2, none⟩ = some (.int .i64 t2) := cell_of_row _ _ _ _ _ (0, 0) HXx.r3
        have z3_3 : wx.cell? ⟨w.heap.size, 3, none⟩ = some (.int .i64 t3) := cell_of_row _ _ _ _ _ (0, 0) HXx.r3
        have z3_4 : wx.cell? ⟨w.heap.size, 4, none⟩ = some (.int .i64 t4) := cell_of_row _ _ _ _ _ (0, 0) HXx.r3
        have z3_5 : wx.cell? ⟨w.heap.size, 5, none⟩ = some (.int .i64 b5) := cell_of_row _ _ _ _ _ (0, 0) HXx.r3
        have z3_6 : wx.cell? ⟨w.heap.size, 6, none⟩ = some (.int .i64 e6) := cell_of_row _ _ _ _ _ (0, 0) HXx.r3
        have z3_7 : wx.cell? ⟨w.heap.size, 7, none⟩ = some (.int .i64 b7) := cell_of_row _ _ _ _ _ (0, 0) HXx.r3
        have z3_8 : wx.cell? ⟨w.heap.size, 8, none⟩ = some (.int .i64 t8) := cell_of_row _ _ _ _ _ (0, 0) HXx.r3
        obtain ⟨k0, k1, k2⟩ := HTK.out wx HXx.below
        have HK2 := Lib.hid hK
        have HX := Lib.hid hx
        clear hK h1 h2 hx
        go_simp
        first
          | (go_at_call 8; refine (FR.out _).mono ?_; rintro e x1 ⟨rfl, hb⟩; exact HK2.out _ (HX.out.quiet 0 (by rfl) hb))
          | exact HK2.out _ (HX.out.quiet 0 (by rfl) (Below.refl _ _))
      simp only [Act.put, List.setIfInBounds_toArray, List.set_cons_succ, List.set_cons_zero]
      apply Ghost.walk_const (fun γ => by rfl)
      · intro γ L wx h1 h2 hx K hK
        have HXx := HB4.out.next hx.below
        have z1_0 : wx.cell? ⟨ga + 1, 0, none⟩ = some (.int .i64 s1) := cell_of_row _ _ _ _ _ (0, 0) HXx.r1
        have z1_1 : wx.cell? ⟨ga + 1, 1, none⟩ = some (.int .i64 s2) := cell_of_row _ _ _ _ _ (0, 0) HXx.r1
        have z1_2 : wx.cell? ⟨ga + 1, 2, none⟩ = some (.int .i64 s3) := cell_of_row _ _ _ _ _ (0, 0) HXx.r1
        have z1_3 : wx.cell? ⟨ga + 1, 3, none⟩ = some (.bool s4) := cell_of_row _ _ _ _ _ (0, 0) HXx.r1
        have z1_4 : wx.cell? ⟨ga + 1, 4, none⟩ = some (.int .i64 s5) := cell_of_row _ _ _ _ _ (0, 0) HXx.r1
        have z3_0 : wx.cell? ⟨w.heap.size, 0, none⟩ = some (.int .i64 t0) := cell_of_row _ _ _ _ _ (0, 0) HXx.r3
        have z3_1 : wx.cell? ⟨w.heap.size, 1, none⟩ = some (.int .i64 t1) := cell_of_row _ _ _ _ _ (0, 0) HXx.r3
        have z3_2 : wx.cell? ⟨w.heap.size, 2, none⟩ = some (.int .i64 t2) := cell_of_row _ _ _ _ _ (0, 0) HXx.r3
        have z3_3 : wx.cell? ⟨w.heap.size, 3, none⟩ = some (.int .i64 t3) := cell_of_row _ _ _ _ _ (0, 0) HXx.r3
        have z3_4 : wx.cell? ⟨w.heap.size, 4, none⟩ = some (.int .i64 t4) := cell_of_row _ _ _ _ _ (0, 0) HXx.r3
        have z3_5 : wx.cell? ⟨w.heap.size, 5, none⟩ = some (.int .i64 b5) := cell_of_row _ _ _ _ _ (0, 0) HXx.r3
        have z3_6 : wx.cell? ⟨w.heap.size, 6, none⟩ = some (.int .i64 e6) := cell_of_row _ _ _ _ _ (0, 0) HXx.r3
        have z3_7 : wx.cell? ⟨w.heap.size, 7, none⟩ = some (.int .i64 b7) := cell_of_row _ _ _ _ _ (0, 0) HXx.r3
        have z3_8 : wx.cell? ⟨w.heap.size, 8, none⟩ = some (.int .i64 t8) := cell_of_row _ _ _ _ _ (0, 0) HXx.r3
        obtain ⟨k0, k1, k2⟩ := HTK.out wx HXx.below
        have HK2 := Lib.hid hK
        have HX := Lib.hid hx
        clear hK h1 h2 hx
        go_simp
        first
          | (go_at_call 8; refine (FR.out _).mono ?_; rintro e x1 ⟨rfl, hb⟩; exact HK2.out _ (HX.out.quiet 0 (by rfl) hb))
          | exact HK2.out _ (HX.out.quiet 0 (by rfl) (Below.refl _ _))
      simp only [Act.put, List.setIfInBounds_toArray, List.set_cons_succ, List.set_cons_zero]
      apply Ghost.walk_const (fun γ => by rfl)
      · intro γ L wx h1 h2 hx K hK
        have HXx := HB4.out.next hx.below
        have z1_0 : wx.cell? ⟨ga + 1, 0, none⟩ = some (.int .i64 s1) := cell_of_row _ _ _ _ _ (0, 0) HXx.r1
        have z1_1 : wx.cell? ⟨ga + 1, 1, none⟩ = some (.int .i64 s2) := cell_of_row _ _ _ _ _ (0, 0) HXx.r1
        have z1_2 : wx.cell? ⟨ga + 1, 2, none⟩ = some (.int .i64 s3) := cell_of_row _ _ _ _ _ (0, 0) HXx.r1
        have z1_3 : wx.cell? ⟨ga + 1, 3, none⟩ = some (.bool s4) := cell_of_row _ _ _ _ _ (0, 0) HXx.r1
        have z1_4 : wx.cell? ⟨ga + 1, 4, none⟩ = some (.int .i64 s5) := cell_of_row _ _ _ _ _ (0, 0) HXx.r1
        have z3_0 : wx.cell? ⟨w.heap.size, 0, none⟩ = some (.int .i64 t0) := cell_of_row _ _ _ _ _ (0, 0) HXx.r3
        have z3_1 : wx.cell? ⟨w.heap.size, 1, none⟩ = some (.int .i64 t1) := cell_of_row _ _ _ _ _ (0, 0) HXx.r3
        have z3_2 : wx.cell? ⟨w.heap.size, 2, none⟩ = some (.int .i64 t2) := cell_of_row _ _ _ _ _ (0, 0) HXx.r3
        have z3_3 : wx.cell? ⟨w.heap.size, 3, none⟩ = some (.int .i64 t3) := cell_of_row _ _ _ _ _ (0, 0) HXx.r3
        have z3_4 : wx.cell? ⟨w.heap.size, 4, none⟩ = some (.int .i64 t4) := cell_of_row _ _ _ _ _ (0, 0) HXx.r3
        have z3_5 : wx.cell? ⟨w.heap.size, 5, none⟩ = some (.int .i64 b5) := cell_of_row _ _ _ _ _ (0, 0) HXx.r3
        have z3_6 : wx.cell? ⟨w.heap.size, 6, none⟩ = some (.int .i64 e6) := cell_of_row _ _ _ _ _ (0, 0) HXx.r3
        have z3_7 : wx.cell? ⟨w.heap.size, 7, none⟩ = some (.int .i64 b7) := cell_of_row _ _ _ _ _ (0, 0) HXx.r3
        have z3_8 : wx.cell? ⟨w.heap.size, 8, none⟩ = some (.int .i64 t8) := cell_of_row _ _ _ _ _ (0, 0) HXx.r3
        obtain ⟨k0, k1, k2⟩ := HTK.out wx HXx.below
        have HK2 := Lib.hid hK
        have HX := Lib.hid hx
        clear hK h1 h2 hx
        go_simp
        first
          | (go_at_call 8; refine (FR.out _).mono ?_; rintro e x1 ⟨rfl, hb⟩; exact HK2.out _ (HX.out.quiet 0 (by rfl) hb))
          | exact HK2.out _ (HX.out.quiet 0 (by rfl) (Below.refl _ _))
      simp only [Act.put, List.setIfInBounds_toArray, List.set_cons_succ, List.set_cons_zero]
      refine Ghost.walk_yes (fun b => .pointer (some ⟨b, 0, none⟩)) (fun γ => by rfl) ?_ ?_
      · intro γ L wx h1 h2 hx K hK
        have HK2 := Lib.hid hK
        clear hK h2
        have hL : L (⟨21, 22, 25, #[.int .i64 0, .int .i64 0, .int .i64 0, .bool false, .int .i64 0], #[.int .i64 a, .int .i64 b, .int .i64 c, .bool d, .int .i64 e]⟩ : Decl).al = false := h1
        clear h1
        go_simp
        exact HK2.out wx.heap.size _ (hx.alloc (⟨21, 22, 25, #[.int .i64 0, .int .i64 0, .int .i64 0, .bool false, .int .i64 0], #[.int .i64 a, .int .i64 b, .int .i64 c, .bool d, .int .i64 e]⟩ : Decl) (decl_mem _) hL (by rfl) (decl_al _))
      simp only [Act.put, List.setIfInBounds_toArray, List.set_cons_succ, List.set_cons_zero]
      refine Ghost.walk_yes (fun _ => undef) (fun γ => by rfl) ?_ ?_
      · intro γ L wx h1 h2 hx K hK
        have hA : L (⟨21, 22, 25, #[.int .i64 0, .int .i64 0, .int .i64 0, .bool false, .int .i64 0], #[.int .i64 a, .int .i64 b, .int .i64 c, .bool d, .int .i64 e]⟩ : Decl).al = true := h2 21 (by kernel_rfl)
        exact hx.wp_store (⟨21, 22, 25, #[.int .i64 0, .int .i64 0, .int .i64 0, .bool false, .int .i64 0], #[.int .i64 a, .int .i64 b, .int .i64 c, .bool d, .int .i64 e]⟩ : Decl) (decl_mem _) h1 hA _ _ rfl rfl rfl (by kernel_rfl) rfl (by kernel_rfl) (hK 0 _ (hx.store (⟨21, 22, 25, #[.int .i64 0, .int .i64 0, .int .i64 0, .bool false, .int .i64 0], #[.int .i64 a, .int .i64 b, .int .i64 c, .bool d, .int .i64 e]⟩ : Decl) (decl_mem _) hA (by rfl) (decl_st _) (decl_al _) 0))
      simp only [Act.put]
      apply Ghost.walk_const (fun γ => by rfl)
      · intro γ L wx h1 h2 hx K hK
        have HXx := HB4.out.next hx.below
        have z1_0 : wx.cell? ⟨ga + 1, 0, none⟩ = some (.int .i64 s1) := cell_of_row _ _ _ _ _ (0, 0) HXx.r1
        have z1_1 : wx.cell? ⟨ga + 1, 1, none⟩ = some (.int .i64 s2) := cell_of_row _ _ _ _ _ (0, 0) HXx.r1
        have z1_2 : wx.cell? ⟨ga + 1, 2, none⟩ = some (.int .i64 s3) := cell_of_row _ _ _ _ _ (0, 0) HXx.r1
        have z1_3 : wx.cell? ⟨ga + 1, 3, none⟩ = some (.bool s4) := cell_of_row _ _ _ _ _ (0, 0) HXx.r1
        have z1_4 : wx.cell? ⟨ga + 1, 4, none⟩ = some (.int .i64 s5) := cell_of_row _ _ _ _ _ (0, 0) HXx.r1
        have z3_0 : wx.cell? ⟨w.heap.size, 0, none⟩ = some (.int .i64 t0) := cell_of_row _ _ _ _ _ (0, 0) HXx.r3
        have z3_1 : wx.cell? ⟨w.heap.size, 1, none⟩ = some (.int .i64 t1) := cell_of_row _ _ _ _ _ (0, 0) HXx.r3
        have z3_2 : wx.cell? ⟨w.heap.size, 2, none⟩ = some (.int .i64 t2) := cell_of_row _ _ _ _ _ (0, 0) HXx.r3
        have z3_3 : wx.cell? ⟨w.heap.size, 3, none⟩ = some (.int .i64 t3) := cell_of_row _ _ _ _ _ (0, 0) HXx.r3
        have z3_4 : wx.cell? ⟨w.heap.size, 4, none⟩ = some (.int .i64 t4) := cell_of_row _ _ _ _ _ (0, 0) HXx.r3
        have z3_5 : wx.cell? ⟨w.heap.size, 5, none⟩ = some (.int .i64 b5) := cell_of_row _ _ _ _ _ (0, 0) HXx.r3
        have z3_6 : wx.cell? ⟨w.heap.size, 6, none⟩ = some (.int .i64 e6) := cell_of_row _ _ _ _ _ (0, 0) HXx.r3
        have z3_7 : wx.cell? ⟨w.heap.size, 7, none⟩ = some (.int .i64 b7) := cell_of_row _ _ _ _ _ (0, 0) HXx.r3
        have z3_8 : wx.cell? ⟨w.heap.size, 8, none⟩ = some (.int .i64 t8) := cell_of_row _ _ _ _ _ (0, 0) HXx.r3
        obtain ⟨k0, k1, k2⟩ := HTK.out wx HXx.below
        have HK2 := Lib.hid hK
        have HX := Lib.hid hx
        clear hK h1 h2 hx
        go_simp
        first
          | (go_at_call 8; refine (FR.out _).mono ?_; rintro e x1 ⟨rfl, hb⟩; exact HK2.out _ (HX.out.quiet 0 (by rfl) hb))
          | exact HK2.out _ (HX.out.quiet 0 (by rfl) (Below.refl _ _))
      simp only [Act.put, List.setIfInBounds_toArray, List.set_cons_succ, List.set_cons_zero]
      refine Ghost.walk_nil (fun γ L w5 hall hD => ?_)
      obtain ⟨hd5, hr5, hb5⟩ := hD.done1 hall (by show 21 < 24; decide) (by show 22 < 24; decide)
      clear hall hD
      simp only [Nat.zero_add, Nat.reduceAdd] at hd5 hr5 ⊢
      generalize γ 21 = gy at *
      have HB5 := Lib.hid (HB4.out.make hr5 hb5)
      have l5_0 : gx < gy := by omega
      have l5_1 : ga + 1 < gy := by omega
      have l5_2 : ga < gy := by omega
      have l5_3 : w.heap.size < gy := by omega
      have lw5 : w.heap.size ≤ gy := by have := HB4.out.below.size; omega
      clear hd5 hr5 hb5 HB4 q0 q1 q2 q3
      have c0_0 : w5.cell? ⟨gy, 0, none⟩ = some (.int .i64 a) := cell_of_row _ _ _ _ _ (0, 0) HB5.out.r0
      have c0_1 : w5.cell? ⟨gy, 1, none⟩ = some (.int .i64 b) := cell_of_row _ _ _ _ _ (0, 0) HB5.out.r0
      have c0_2 : w5.cell? ⟨gy, 2, none⟩ = some (.int .i64 c) := cell_of_row _ _ _ _ _ (0, 0) HB5.out.r0
      have c0_3 : w5.cell? ⟨gy, 3, none⟩ = some (.bool d) := cell_of_row _ _ _ _ _ (0, 0) HB5.out.r0
      have c0_4 : w5.cell? ⟨gy, 4, none⟩ = some (.int .i64 e) := cell_of_row _ _ _ _ _ (0, 0) HB5.out.r0
      have c1_0 : w5.cell? ⟨gx, 0, none⟩ = some (.int .i64 a) := cell_of_row _ _ _ _ _ (0, 0) HB5.out.r1
      have c1_1 : w5.cell? ⟨gx, 1, none⟩ = some (.int .i64 b) := cell_of_row _ _ _ _ _ (0, 0) HB5.out.r1
      have c1_2 : w5.cell? ⟨gx, 2, none⟩ = some (.int .i64 c) := cell_of_row _ _ _ _ _ (0, 0) HB5.out.r1
      have c1_3 : w5.cell? ⟨gx, 3, none⟩ = some (.bool d) := cell_of_row _ _ _ _ _ (0, 0) HB5.out.r1
      have c1_4 : w5.cell? ⟨gx, 4, none⟩ = some (.int .i64 e) := cell_of_row _ _ _ _ _ (0, 0) HB5.out.r1
      go_wp2_with fail
      have q0 : gy < w5.heap.size := (Array.getElem?_eq_some_iff.1 HB5.out.r0).1
      have q1 : gx < w5.heap.size := (Array.getElem?_eq_some_iff.1 HB5.out.r1).1
      have q2 : ga + 1 < w5.heap.size := (Array.getElem?_eq_some_iff.1 HB5.out.r2).1
      have q3 : ga < w5.heap.size := (Array.getElem?_eq_some_iff.1 HB5.out.r3).1
      have q4 : w.heap.size < w5.heap.size := (Array.getElem?_eq_some_iff.1 HB5.out.r4).1
      refine GhostV.ghost (fun γ L wx => P2 (w5) (ga) #[.int .i64 s1, .int .i64 s2, .int .i64 s3, .bool s4, .int .i64 s5] #[.int .i64 a, .int .i64 b, .int .i64 c, .bool d, .int .i64 e] 25 2 (ga + 1) #[.int .i64 s1, .int .i64 s2, .int .i64 s3, .bool s4, .int .i64 s5] #[.int .i64 a, .int .i64 b, .int .i64 c, .bool d, .int .i64 e] 25 3 γ L wx) (by kernel_rfl) (by kernel_rfl) (fun γ => P2.start γ (HB5.out.r3) (HB5.out.r2)) ?_
      apply GhostV.walk_const (fun γ => by rfl)
      · intro γ L wx h1 h2 hx K hK
        have z0_0 : wx.cell? ⟨gy, 0, none⟩ = some (.int .i64 a) := cell_of_row _ _ _ _ _ (0, 0) ((hx.other (gy) q0 (by omega) (by omega)).trans HB5.out.r0)
        have z0_1 : wx.cell? ⟨gy, 1, none⟩ = some (.int .i64 b) := cell_of_row _ _ _ _ _ (0, 0) ((hx.other (gy) q0 (by omega) (by omega)).trans HB5.out.r0)
        have z0_2 : wx.cell? ⟨gy, 2, none⟩ = some (.int .i64 c) := cell_of_row _ _ _ _ _ (0, 0) ((hx.other (gy) q0 (by omega) (by omega)).trans HB5.out.r0)
        have z0_3 : wx.cell? ⟨gy, 3, none⟩ = some (.bool d) := cell_of_row _ _ _ _ _ (0, 0) ((hx.other (gy) q0 (by omega) (by omega)).trans HB5.out.r0)
        have z0_4 : wx.cell? ⟨gy, 4, none⟩ = some (.int .i64 e) := cell_of_row _ _ _ _ _ (0, 0) ((hx.other (gy) q0 (by omega) (by omega)).trans HB5.out.r0)
        have z1_0 : wx.cell? ⟨gx, 0, none⟩ = some (.int .i64 a) := cell_of_row _ _ _ _ _ (0, 0) ((hx.other (gx) q1 (by omega) (by omega)).trans HB5.out.r1)
        have z1_1 : wx.cell? ⟨gx, 1, none⟩ = some (.int .i64 b) := cell_of_row _ _ _ _ _ (0, 0) ((hx.other (gx) q1 (by omega) (by omega)).trans HB5.out.r1)
        have z1_2 : wx.cell? ⟨gx, 2, none⟩ = some (.int .i64 c) := cell_of_row _ _ _ _ _ (0, 0) ((hx.other (gx) q1 (by omega) (by omega)).trans HB5.out.r1)
        have z1_3 : wx.cell? ⟨gx, 3, none⟩ = some (.bool d) := cell_of_row _ _ _ _ _ (0, 0) ((hx.other (gx) q1 (by omega) (by omega)).trans HB5.out.r1)
        have z1_4 : wx.cell? ⟨gx, 4, none⟩ = some (.int .i64 e) := cell_of_row _ _ _ _ _ (0, 0) ((hx.other (gx) q1 (by omega) (by omega)).trans HB5.out.r1)
        have HH := Lib.hid hx
        have HK2 := Lib.hid hK
        clear hK h1 h2 hx
        go_simp
        first
          | exact HK2.out _ (HH.out.next _ (by decide) (by decide) (Below.refl _ _))
      try simp only [Act.put, List.setIfInBounds_toArray, List.set_cons_succ, List.set_cons_zero]
      apply GhostV.walk_const (fun γ => by rfl)
      · intro γ L wx h1 h2 hx K hK
        have z0_0 : wx.cell? ⟨gy, 0, none⟩ = some (.int .i64 a) := cell_of_row _ _ _ _ _ (0, 0) ((hx.other (gy) q0 (by omega) (by omega)).trans HB5.out.r0)
        have z0_1 : wx.cell? ⟨gy, 1, none⟩ = some (.int .i64 b) := cell_of_row _ _ _ _ _ (0, 0) ((hx.other (gy) q0 (by omega) (by omega)).trans HB5.out.r0)
        have z0_2 : wx.cell? ⟨gy, 2, none⟩ = some (.int .i64 c) := cell_of_row _ _ _ _ _ (0, 0) ((hx.other (gy) q0 (by omega) (by omega)).trans HB5.out.r0)
        have z0_3 : wx.cell? ⟨gy, 3, none⟩ = some (.bool d) := cell_of_row _ _ _ _ _ (0, 0) ((hx.other (gy) q0 (by omega) (by omega)).trans HB5.out.r0)
        have z0_4 : wx.cell? ⟨gy, 4, none⟩ = some (.int .i64 e) := cell_of_row _ _ _ _ _ (0, 0) ((hx.other (gy) q0 (by omega) (by omega)).trans HB5.out.r0)
        have z1_0 : wx.cell? ⟨gx, 0, none⟩ = some (.int .i64 a) := cell_of_row _ _ _ _ _ (0, 0) ((hx.other (gx) q1 (by omega) (by omega)).trans HB5.out.r1)
        have z1_1 : wx.cell? ⟨gx, 1, none⟩ = some (.int .i64 b) := cell_of_row _ _ _ _ _ (0, 0) ((hx.other (gx) q1 (by omega) (by omega)).trans HB5.out.r1)
        have z1_2 : wx.cell? ⟨gx, 2, none⟩ = some (.int .i64 c) := cell_of_row _ _ _ _ _ (0, 0) ((hx.other (gx) q1 (by omega) (by omega)).trans HB5.out.r1)
        have z1_3 : wx.cell? ⟨gx, 3, none⟩ = some (.bool d) := cell_of_row _ _ _ _ _ (0, 0) ((hx.other (gx) q1 (by omega) (by omega)).trans HB5.out.r1)
        have z1_4 : wx.cell? ⟨gx, 4, none⟩ = some (.int .i64 e) := cell_of_row _ _ _ _ _ (0, 0) ((hx.other (gx) q1 (by omega) (by omega)).trans HB5.out.r1)
        have HH := Lib.hid hx
        have HK2 := Lib.hid hK
        clear hK h1 h2 hx
        go_simp
        first
          | exact HK2.out _ (HH.out.next _ (by decide) (by decide) (Below.refl _ _))
      try simp only [Act.put, List.setIfInBounds_toArray, List.set_cons_succ, List.set_cons_zero]
      refine GhostV.walk_const (v := undef) (fun γ => by rfl) ?_ ?_
      · intro γ L wx h1 h2 hx K hK
        exact P2.store1 hx h1 (by decide) (by omega) 25 _ _ rfl rfl rfl (by kernel_rfl) rfl (by kernel_rfl) (fun w2 h => hK _ (h _))
      try simp only [Act.put]
      refine GhostV.walk_const (v := undef) (fun γ => by rfl) ?_ ?_
      · intro γ L wx h1 h2 hx K hK
        exact P2.store2 hx h1 (by decide) (by omega) 25 _ _ rfl rfl rfl (by kernel_rfl) rfl (by kernel_rfl) (fun w2 h => hK _ (h _))
      try simp only [Act.put]
      refine GhostV.walk_nil (fun γ L w6 hall hx => ?_)
      have HB6 : Hid (Bx w [(gy, .cells #[.int .i64 a, .int .i64 b, .int .i64 c, .bool d, .int .i64 e] 25 (0, 0)), (gx, .cells #[.int .i64 a, .int .i64 b, .int .i64 c, .bool d, .int .i64 e] 25 (0, 0)), (ga + 1, .cells #[.int .i64 a, .int .i64 b, .int .i64 c, .bool d, .int .i64 e] 25 (0, 0)), (ga, .cells #[.int .i64 a, .int .i64 b, .int .i64 c, .bool d, .int .i64 e] 25 (0, 0)), (w.heap.size, .cells #[.int .i64 t0, .int .i64 t1, .int .i64 t2, .int .i64 t3, .int .i64 t4, .int .i64 b5, .int .i64 e6, .int .i64 b7, .int .i64 t8] 23 (0, 0))] w6) := Lib.hid (hx.done (hall 2 (by decide)) (hall 3 (by decide)) HB5.out (by omega) (by omega) (by simp only [List.mem_cons, List.not_mem_nil, or_false]; rintro p (rfl | rfl | rfl | rfl | rfl) <;> simp <;> omega))
      clear hall hx
      clear c0_0 c0_1 c0_2 c0_3 c0_4 c1_0 c1_1 c1_2 c1_3 c1_4 HB5 q0 q1 q2 q3 q4
      go_wp2_with fail
      go_roundw
      case rel => exact ⟨⟨a, b, c, d, e⟩, i + 1, by go_num, by omega, (HB6.out.less (by simp only [List.mem_cons, List.not_mem_nil, or_false]; rintro p (rfl | rfl | rfl) <;> simp))⟩
      case measure => simp [intOf]; omega
    · have hlti : ¬ (i : Int) < (l.length : Int) := by omega
      have hltB : decide ((i : Int) < (l.length : Int)) = false := decide_eq_false hlti
      go_wp2_with fail
      refine (FN.out _).mono ?_
      rintro e w81 ⟨rfl, hb81⟩
      have HB81 := Lib.hid (HBR.out.next hb81)
      clear hb81 HBR
      go_wp2_with fail
      go_ret
      exact ⟨rfl, HB81.out.below⟩
set_option maxRecDepth 100000 in
theorem lawDoorRuns_lifted (os : Os) (started : os.Started) (H : Type) (enc : TypeId × Value → H) :
    ReturnsInHanded {} Try.checked os 4 .any (Rows.doorRunsSpec.pre6 enc Try.prog Try.f4 Rows.doorRunsRow.domain false) (Rows.doorRunsSpec.post enc Try.prog Try.f4 false true false false) := by
  refine returnsInHanded_of_change (C := Try.checked) own started (by kernel_rfl) Try.func4
    (ChangeSpec.witness6 (enc := enc) (C := Try.checked) false ⟨#[], #[.agg #[.int .i64 0, .int .i64 0, .int .i64 0, .int .i64 0, .int .i64 0, .int .i64 0, .int .i64 0, .int .i64 0, .int .i64 0], .slice none 0 0], []⟩ 8 (by kernel_rfl) (by kernel_rfl) (by kernel_rfl) (by kernel_rfl)) ?_
  intro W base args ds gs before hval0 hW hcnd _
  have hval : ∀ (j : Nat) t v, Try.f4.params[j]? = some t → args[j]? = some v → Value.okWide Try.prog W .any base t v := hval0
  have hW' := hW
  obtain ⟨p, q, hA0, hV, rfl, hfz, hnd⟩ := hW
  have hA : DataW.TrodAll enc Try.prog W 0 (fun _ => true) true Try.f4.params.toList args.toList ds p := hA0
  rw [Try.params4] at hA hval
  obtain ⟨v0, vs0, d0, ds0, p0, q0, hargs, rfl, rfl, h0, r0⟩ := trodAll_cons hA
  obtain ⟨v1, vs1, d1, ds1, p1, q1, rfl, rfl, rfl, h1, r1⟩ := trodAll_cons r0
  obtain ⟨rfl, rfl, rfl⟩ := trodAll_nil r1
  obtain rfl : args = #[v0, v1] := by cases args; simp_all
  obtain ⟨rfl, rfl⟩ := trodVars_none hV
  have k0 := h0
  have lt0 : ∀ x ∈ p0, x.block < W.heap.size := by obtain ⟨m, hm⟩ := k0; exact DataW.trod_lt m _ _ _ hm
  obtain ⟨x0, rfl⟩ := open_car (hval 0 23 v0 rfl rfl) h0
  have k1 := h1
  have lt1 : ∀ x ∈ p1, x.block < W.heap.size := by obtain ⟨m, hm⟩ := k1; exact DataW.trod_lt m _ _ _ hm
  obtain ⟨a1, l1, c1, rfl⟩ := okWide_slice Try.underlying35 (hval 1 35 v1 rfl rfl)
  obtain ⟨fuel1, hf1⟩ := h1
  obtain ⟨x1, g1, m1⟩ := open_tks hf1
  clear hA0 hval0
  refine (lawDoorRuns_walk x0 _ x1 W g1 m1).mono fun e W' ⟨he, bel⟩ => ?_
  subst he
  exact ⟨_, rfl, _, _, _, [], _, [], hW', trodAll_mk1 (shut_bool Try.underlying4 _), (trodAll_cons_mk (Below.trod laidOut (by kernel_rfl) (of_decide_eq_true (by kernel_rfl)) k0 bel lt0) (trodAll_cons_mk (Below.trod laidOut (by kernel_rfl) (of_decide_eq_true (by kernel_rfl)) k1 bel lt1) trodAll_mk0)), rfl, bel.frame _, fun h => by cases h⟩

theorem lawDoorRuns_over : Rows.doorRunsRow.holds Try.pinned (OpenSpec.ofChange Rows.doorRunsSpec) :=
  OpenClaim.holds_of_wide 4 Try.f4 rfl rfl rfl rfl rfl rfl rfl ⟨rfl, rfl, rfl, rfl, rfl⟩ rfl rfl rfl rfl rfl (by kernel_rfl) Try.func4 (by kernel_rfl)
    (of_decide_eq_true (by kernel_rfl)) (by unfold Func.isWrapper; first | (rw [if_pos (by decide +kernel)]; kernel_rfl) | (rw [if_neg (by decide +kernel)]; exact ⟨rfl, rfl⟩))
    (fun os started H enc _ => lawDoorRuns_lifted os started H enc)

theorem doorRuns_holds : Rows.DoorRunsSaid := lawDoorRuns_over
#print axioms doorRuns_holds
end Go.Proofs.Ythniolaeicmjlaa
