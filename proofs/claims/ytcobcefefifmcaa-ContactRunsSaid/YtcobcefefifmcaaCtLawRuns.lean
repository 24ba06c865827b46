/- The law ContactRuns: what counts behind each of some readings, or the first error. No condition. -/
import Derived.Test.YtcobcefefifmcaaCtPack
namespace Go.Proofs.Ytcobcefefifmcaa
open Go.RowKit Go.ChangeShapes Go.WideShapes Go.ChangeAt

set_option maxHeartbeats 4000000 in
theorem lawContactRuns_walk (n : Int) (s : Db) (v : Value) (l : List Ct) (w : World) (_hn : (Lit.int .i64 n).wf = true) (hs : s.ok) (hv : LV w v l) (hl : ∀ c ∈ l, c.ok) (hmax : l.length ≤ maxLen) :
    Calls Try.prog 5 #[.int .i64 n, .agg s.cells, v] w fun e w' => e = .returned (.bool true) ∧ Below w.heap.size w w' := by
  unfold maxLen at hmax
  have HV := Lib.hid hv
  obtain ⟨A, cap, rfl, -⟩ := hv
  have FS := Lib.hid (fun wx => sane_any wx)
  have hi := infoDb (Db.size hs)
  by_cases hlen : 200 < l.length
  · clear HV hl
    generalize s.cells = C at *
    go_enter Try.func5, Try.ntmps5
    go_wp2_with fail
    refine (FS.out _).mono ?_
    rintro e w2 ⟨rfl, hb2⟩
    go_wp2_with fail
    go_ret
    exact ⟨rfl, ((Below.refl _ _).alloc (Nat.le_refl _) _).trans (hb2.mono (by simp))⟩
  · obtain ⟨k, hk, hkm⟩ := u64_mod n
    have F1 := Lib.hid (fun wx (h : Below w.heap.size w wx) => runAll_any n s l _ wx hs hl (by omega) (HV.out.below h))
    have F2 := Lib.hid (fun wx (h : Below w.heap.size w wx) => refRunAll_any n s l _ wx hs hl (by omega) (HV.out.below h))
    have F3 := Lib.hid (fun wx (h : Below w.heap.size w wx) => runAll_any (1 + (k : Int)) Db.zero l _ wx Db.zero_okD hl (by omega) (HV.out.below h))
    have F4 := Lib.hid (fun wx (h : Below w.heap.size w wx) => refRunAll_any (1 + (k : Int)) Db.zero l _ wx Db.zero_okD hl (by omega) (HV.out.below h))
    have ok1 := runS_ok (n := n) (l := l) hs
    have ok2 := runS_ok (n := 1 + (k : Int)) (l := l) Db.zero_okD
    have hl1 : (runL n s l).length ≤ 200 := by unfold runL; split; (· rw [Db.outs_len]; omega); (· simp)
    have hl2 : (runL (1 + (k : Int)) Db.zero l).length ≤ 200 := by unfold runL; split; (· rw [Db.outs_len]; omega); (· simp)
    generalize runS n s l = S1 at *
    generalize runS (1 + (k : Int)) Db.zero l = S2 at *
    generalize runL n s l = L1 at *
    generalize runL (1 + (k : Int)) Db.zero l = L2 at *
    generalize runE n s = E1 at *
    generalize runE (1 + (k : Int)) Db.zero = E2 at *
    have e1 := fun wx => eqlDb S1 ok1 wx
    have e2 := fun wx => eqlDb S2 ok2 wx
    have hi1 := infoDb (Db.size ok1)
    have hi2 := infoDb (Db.size ok2)
    clear hl HV hs
    generalize s.cells = C at *
    go_enter Try.func5, Try.ntmps5
    go_wp2_with (with_reducible show wpList _ _ _ (Oper.mk _ (.load 31 _) _ _ _ _ :: _) _ _; refine wpList_load_row rfl 31 _ rfl _ rfl _ _ _ _ (heap_alloc_new _ _) Try.underlying31 rfl hi ?_)
    refine (F1.out _ (by go_grown)).mono ?_
    rintro e x1 ⟨v1, rfl, hv1, hb1⟩
    have B1 := Lib.hid (below_of_new (hb1.mono (by simp)))
    have hs1 : w.heap.size < x1.heap.size := by have := hb1.size; simp at this; omega
    have hq1 : ∀ o, (x1.alloc o).heap[w.heap.size]? = some (.cells C 31 (0, 0)) := fun o => (Below.heap_alloc _ _ _ (by omega)).trans ((hb1.block _ (by simp)).trans (heap_alloc_new _ _))
    have V1 := Lib.hid hv1
    clear hv1 hb1
    go_wp2_with (first | (refine wpList_new_db rfl rfl rfl _ _ rfl S1 ok1 rfl rfl ?_) | (with_reducible show wpList _ _ _ (Oper.mk _ (.load 31 _) _ _ _ _ :: _) _ _; refine wpList_load_row rfl 31 _ rfl _ rfl _ _ _ _ (hq1 _) Try.underlying31 rfl hi ?_))
    refine (F2.out _ (B1.out.alloc (by omega) _)).mono ?_
    rintro e x2 ⟨v2, rfl, hv2, hb2⟩
    have h21 : Below (x1.heap.size + 1) (x1.alloc (.cells S1.cells 31)) x2 := hb2.mono (by simp)
    have hs2 : x1.heap.size + 1 ≤ x2.heap.size := box_sz h21
    have q1 := Lib.hid ((h21.block x1.heap.size (by omega)).trans (heap_alloc_new _ _))
    have B2 := Lib.hid (below_of_new h21)
    have V2 := Lib.hid hv2
    clear hq1 hv2 hb2 h21
    go_wp2_with (first | (refine wpList_new_db rfl rfl rfl _ _ rfl S1 ok1 rfl rfl ?_) | (with_reducible show wpList _ _ _ (Oper.mk _ (.build 31 _) _ _ _ _ :: _) _ _; refine wpList_build_zero rfl rfl ?_))
    refine (F3.out _ ((B1.out.trans (B2.out.mono (by omega))).alloc (by omega) _)).mono ?_
    rintro e x3 ⟨v3, rfl, hv3, hb3⟩
    have h32 : Below (x2.heap.size + 1) (x2.alloc (.cells S1.cells 31)) x3 := hb3.mono (by simp)
    have hs3 : x2.heap.size + 1 ≤ x3.heap.size := box_sz h32
    have q2 := Lib.hid ((h32.block x2.heap.size (by omega)).trans (heap_alloc_new _ _))
    have B3 := Lib.hid (below_of_new h32)
    have V3 := Lib.hid hv3
    clear hv3 hb3 h32
    go_wp2_with (first | (refine wpList_new_db rfl rfl rfl _ _ rfl S2 ok2 rfl rfl ?_) | (with_reducible show wpList _ _ _ (Oper.mk _ (.build 31 _) _ _ _ _ :: _) _ _; refine wpList_build_zero rfl rfl ?_))
    refine (F4.out _ ((B1.out.trans ((B2.out.mono (by omega)).trans (B3.out.mono (by omega)))).alloc (by omega) _)).mono ?_
    rintro e x4 ⟨v4, rfl, hv4, hb4⟩
    have h43 : Below (x3.heap.size + 1) (x3.alloc (.cells S2.cells 31)) x4 := hb4.mono (by simp)
    have hs4 : x3.heap.size + 1 ≤ x4.heap.size := box_sz h43
    have q3 := Lib.hid ((h43.block x3.heap.size (by omega)).trans (heap_alloc_new _ _))
    have B4 := Lib.hid (below_of_new h43)
    have V4 := Lib.hid hv4
    clear hv4 hb4 h43
    obtain ⟨W, hW⟩ : ∃ W, W = x4.alloc (.cells S2.cells 31) := ⟨_, rfl⟩
    have B5 : Hid (Below x4.heap.size x4 W) := by show Below _ _ _; rw [hW]; exact (Below.refl _ _).alloc (Nat.le_refl _) _
    have r4 : Hid (W.heap[x4.heap.size]? = some (.cells S2.cells 31 (0, 0))) := by show _ = _; rw [hW]; exact heap_alloc_new _ _
    have hsW : x4.heap.size < W.heap.size := by rw [hW]; simp
    have r3 := (B5.out.block x3.heap.size (by omega)).trans q3.out
    have r2 := ((B4.out.trans (B5.out.mono (by omega))).block x2.heap.size (by omega)).trans q2.out
    have r1 := ((B3.out.trans ((B4.out.trans (B5.out.mono (by omega))).mono (by omega))).block x1.heap.size (by omega)).trans q1.out
    have BW := Lib.hid (B1.out.trans ((B2.out.mono (by omega)).trans ((B3.out.mono (by omega)).trans ((B4.out.mono (by omega)).trans (B5.out.mono (by omega))))))
    have U4 := Lib.hid (V4.out.below B5.out)
    have U3 := Lib.hid (V3.out.below (B4.out.trans (B5.out.mono (by omega))))
    have U2 := Lib.hid (V2.out.below (B3.out.trans ((B4.out.trans (B5.out.mono (by omega))).mono (by omega))))
    have U1 := Lib.hid (V1.out.below (B2.out.trans ((B3.out.trans ((B4.out.trans (B5.out.mono (by omega))).mono (by omega))).mono (by omega))))
    have R3 := Lib.hid r3
    have FM1 := Lib.hid (fun wx (h : Below W.heap.size W wx) => same_any L1 v1 v2 wx (U1.out.below h) (U2.out.below h) (by omega))
    have FM2 := Lib.hid (fun wx (h : Below W.heap.size W wx) => same_any L2 v3 v4 wx (U3.out.below h) (U4.out.below h) (by omega))
    have HW := Lib.hid hW
    clear hW q1 q2 q3 B1 B2 B3 B4 B5 V1 V2 V3 V4 r3 F1 F2 F3 F4 U1 U2 U3 U4
    go_wp2_with (first | (refine wpList_new_db' rfl rfl rfl _ _ rfl S2 ok2 rfl rfl W HW ?_) | (with_reducible show wpList _ _ _ (Oper.mk _ (.load 31 _) _ _ _ _ :: _) _ _; refine wpList_load_row rfl 31 _ rfl _ rfl _ _ _ _ (r1) Try.underlying31 rfl hi1 ?_) | (with_reducible show wpList _ _ _ (Oper.mk _ (.load 31 _) _ _ _ _ :: _) _ _; refine wpList_load_row rfl 31 _ rfl _ rfl _ _ _ _ (r2) Try.underlying31 rfl hi1 ?_))
    refine (FM1.out _ (Below.refl _ _)).mono ?_
    rintro e x5 ⟨rfl, hb5⟩
    have t3 := (hb5.block _ (by omega)).trans R3.out
    have t4 := (hb5.block _ (by omega)).trans r4.out
    have B6 := Lib.hid hb5
    clear hb5 r1 r2
    go_wp2_with (first | (with_reducible show wpList _ _ _ (Oper.mk _ (.load 31 _) _ _ _ _ :: _) _ _; refine wpList_load_row_g rfl 31 _ rfl _ rfl _ _ _ _ (t3) Try.underlying31 rfl hi2 ?_) | (with_reducible show wpList _ _ _ (Oper.mk _ (.load 31 _) _ _ _ _ :: _) _ _; refine wpList_load_row_g rfl 31 _ rfl _ rfl _ _ _ _ (t4) Try.underlying31 rfl hi2 ?_))
    refine (FM2.out _ B6.out).mono ?_
    rintro e x6 ⟨rfl, hb6⟩
    have B7 := Lib.hid (B6.out.trans (hb6.mono B6.out.size))
    clear hb6 t3 t4
    go_wp2_with fail
    refine (FS.out _).mono ?_
    rintro e x7 ⟨rfl, hb7⟩
    have B8 := Lib.hid (B7.out.trans (hb7.mono B7.out.size))
    clear hb7
    go_wp2_with fail
    go_ret
    exact ⟨rfl, BW.out.trans (B8.out.mono BW.out.size)⟩

set_option maxRecDepth 100000 in
theorem lawContactRuns_lifted (os : Os) (started : os.Started) (H : Type) (enc : TypeId × Value → H) :
    ReturnsInHanded {} Try.checked os 5 .any (Rows.contactRunsSpec.pre6 enc Try.prog Try.f5 Rows.contactRunsRow.domain false) (Rows.contactRunsSpec.post enc Try.prog Try.f5 false true false false) := by
  refine returnsInHanded_of_change (C := Try.checked) own started (by kernel_rfl) Try.func5
    (ChangeSpec.witness6 (enc := enc) (C := Try.checked) false ⟨#[], #[.int .i64 0, .agg #[.int .u32 0, .bool false, .bool false, .bool false, .bool false, .int .i64 0, .int .i64 0, .int .i64 0, .int .i64 0, .int .i64 0, .int .i64 0, .int .i64 0, .int .i64 0, .int .i64 0, .int .i64 0, .int .i64 0, .int .i64 0, .int .i64 0, .int .i64 0, .int .i64 0, .int .i64 0, .int .i64 0, .int .i64 0, .int .i64 0, .int .i64 0, .int .i64 0, .int .i64 0, .int .i64 0, .int .i64 0, .int .i64 0, .int .i64 0, .int .i64 0, .int .i64 0, .int .i64 0, .int .i64 0, .int .i64 0, .int .i64 0, .int .i64 0, .int .i64 0, .int .i64 0, .int .i64 0], .slice none 0 0], []⟩ 8 (by kernel_rfl) (by kernel_rfl) (by kernel_rfl) (by kernel_rfl)) ?_
  intro W base args ds gs before hval0 hW hcnd _
  have hval : ∀ (j : Nat) t v, Try.f5.params[j]? = some t → args[j]? = some v → Value.okWide Try.prog W .any base t v := hval0
  have hW' := hW
  obtain ⟨p, q, hA0, hV, rfl, hfz, hnd⟩ := hW
  have hA : DataW.TrodAll enc Try.prog W 0 (fun _ => true) true Try.f5.params.toList args.toList ds p := hA0
  rw [Try.params5] at hA hval
  obtain ⟨v0, vs0, d0, ds0, p0, q0, hargs, rfl, rfl, h0, r0⟩ := trodAll_cons hA
  obtain ⟨v1, vs1, d1, ds1, p1, q1, rfl, rfl, rfl, h1, r1⟩ := trodAll_cons r0
  obtain ⟨v2, vs2, d2, ds2, p2, q2, rfl, rfl, rfl, h2, r2⟩ := trodAll_cons r1
  obtain ⟨rfl, rfl, rfl⟩ := trodAll_nil r2
  obtain rfl : args = #[v0, v1, v2] := by cases args; simp_all
  obtain ⟨rfl, rfl⟩ := trodVars_none hV
  obtain ⟨x0, rfl, rfl, rfl, g0⟩ := open_int Try.underlying3 (hval 0 3 v0 rfl rfl) h0
  have k1 := h1
  have lt1 : ∀ x ∈ p1, x.block < W.heap.size := by obtain ⟨m, hm⟩ := k1; exact DataW.trod_lt m _ _ _ hm
  obtain ⟨x1, rfl, g1⟩ := open_db (hval 1 31 v1 rfl rfl) h1
  have k2 := h2
  have lt2 : ∀ x ∈ p2, x.block < W.heap.size := by obtain ⟨m, hm⟩ := k2; exact DataW.trod_lt m _ _ _ hm
  obtain ⟨a2, l2, c2, rfl⟩ := okWide_slice Try.underlying39 (hval 2 39 v2 rfl rfl)
  obtain ⟨fuel2, hf2⟩ := h2
  obtain ⟨x2, g2, m2, n2⟩ := open_cts hf2
  clear hA0 hval0
  refine (lawContactRuns_walk x0 x1 _ x2 W g0 g1 g2 m2 n2).mono fun e W' ⟨he, bel⟩ => ?_
  subst he
  exact ⟨_, rfl, _, _, _, [], _, [], hW', trodAll_mk1 (shut_bool Try.underlying4 _), (trodAll_cons_mk (shut_int Try.underlying3 g0) (trodAll_cons_mk (Below.trod laidOut (by kernel_rfl) (of_decide_eq_true (by kernel_rfl)) k1 bel lt1) (trodAll_cons_mk (Below.trod laidOut (by kernel_rfl) (of_decide_eq_true (by kernel_rfl)) k2 bel lt2) trodAll_mk0))), rfl, bel.frame _, fun h => by cases h⟩

theorem lawContactRuns_over : Rows.contactRunsRow.holds Try.pinned (OpenSpec.ofChange Rows.contactRunsSpec) :=
  OpenClaim.holds_of_wide 5 Try.f5 rfl rfl rfl rfl rfl rfl rfl ⟨rfl, rfl, rfl, rfl, rfl⟩ rfl rfl rfl rfl rfl (by kernel_rfl) Try.func5 (by kernel_rfl)
    (of_decide_eq_true (by kernel_rfl)) (by unfold Func.isWrapper; first | (rw [if_pos (by decide +kernel)]; kernel_rfl) | (rw [if_neg (by decide +kernel)]; exact ⟨rfl, rfl⟩))
    (fun os started H enc _ => lawContactRuns_lifted os started H enc)

theorem contactRuns_holds : Rows.ContactRunsSaid := lawContactRuns_over
#print axioms contactRuns_holds
end Go.Proofs.Ytcobcefefifmcaa
