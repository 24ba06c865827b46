/- The law ContactLimits: how many readings a run may have, at the limit and one more. No condition. -/
import Derived.Test.YtcobcefefifmcaaCtOpen
namespace Go.Proofs.Ytcobcefefifmcaa
open Go.RowKit Go.ChangeShapes Go.WideShapes Go.ChangeAt

theorem zeros_at (w : World) (n : Nat) : LAt (w.alloc (.cells (flat (List.replicate n Ct.zero)).toArray 24)) (some ⟨w.heap.size, 0, none⟩) (List.replicate n Ct.zero) :=
  .inr ⟨w.heap.size, 0, rfl, fun j v hv => by rw [Nat.zero_add, cell_of_row _ _ _ _ _ (0, 0) (heap_alloc_new w _)]; simpa using hv⟩
theorem zeros_run (n : Nat) (hn : n ≤ 5000) (w : World) :
    Calls Try.prog 18 #[.int .i64 3, .agg Db.zero.cells, .slice (some ⟨w.heap.size, 0, none⟩) n n] (w.alloc (.cells (flat (List.replicate n Ct.zero)).toArray 24)) fun e w' => ∃ S g, Db.ok S ∧ e = .returned (.tuple #[.agg S.cells, .slice (some ⟨g, 0, none⟩) n n, .int .i64 0]) ∧ Below w.heap.size w w' := by
  have h := run_good 3 Db.zero (List.replicate n Ct.zero) (some ⟨w.heap.size, 0, none⟩) n (w.alloc (.cells (flat (List.replicate n Ct.zero)).toArray 24)) Db.zero_okD (by intro c hc; rw [(List.mem_replicate.1 hc).2]; exact Ct.zero_ok) (Db.isB_zero (by decide) (by decide)) (by rw [List.length_replicate]; exact hn) (zeros_at w n)
  rw [List.length_replicate] at h
  exact h.mono fun e w' ⟨g, he, _, _, hb⟩ => ⟨_, g, Db.ok_run Db.zero_okD _, he, below_of_new (hb.mono (by simp))⟩
theorem zeros_long (n : Nat) (hn : 5000 < n) (hl : n ≤ 10000) (w : World) :
    Calls Try.prog 18 #[.int .i64 3, .agg Db.zero.cells, .slice (some ⟨w.heap.size, 0, none⟩) n n] (w.alloc (.cells (flat (List.replicate n Ct.zero)).toArray 24)) fun e w' => e = .returned (.tuple #[.agg Db.zero.cells, .slice none 0 0, .int .i64 3]) ∧ Below w.heap.size w w' :=
  (run_long 3 Db.zero (some ⟨w.heap.size, 0, none⟩) n n (w.alloc (.cells (flat (List.replicate n Ct.zero)).toArray 24)) Db.zero_okD (Db.isB_zero (by decide) (by decide)) hn (by omega)).mono fun e w' ⟨he, hb⟩ => ⟨he, below_of_new (hb.mono (by simp))⟩

set_option maxHeartbeats 4000000 in
theorem lawContactLimits_walk (x : Int) (w : World) (hx : (Lit.int .u8 x).wf = true) :
    Calls Try.prog 8 #[.int .u8 x] w fun e w' => e = .returned (.bool true) ∧ Below w.heap.size w w' := by
  obtain ⟨n, rfl, hn⟩ := u8_nat hx
  have hz0 := Db.zero_okD
  have h3 : n % 3 = 0 ∨ n % 3 = 1 ∨ n % 3 = 2 := by omega
  rcases h3 with h3 | h3 | h3
  · have hm : (n : Int).tmod 3 = 0 := by rw [Int.tmod_eq_emod_of_nonneg (by omega)]; omega
    have hm2 : (n : Int) % 3 = 0 := by omega
    have hmk : ∀ w, (Instr.makeSlice 39 (.int .i64 4999) (.int .i64 4999)).run Try.prog w = .ok (.slice (some ⟨w.heap.size, 0, none⟩) 4999 4999) (w.alloc (.cells (flat (List.replicate 4999 Ct.zero)).toArray 24)) := make_cts 4999 (by decide)
    have FR := Lib.hid (fun w => zeros_run 4999 (by decide) w)
    generalize (flat (List.replicate 4999 Ct.zero)).toArray = M at *
    clear h3
    go_enter Try.func8, Try.ntmps8
    go_wp2_with (with_reducible show wpList _ _ _ (Oper.mk _ (.build 31 _) _ _ _ _ :: _) _ _; refine wpList_build_zero rfl rfl ?_)
    refine (FR.out _).mono ?_
    rintro e w1 ⟨S, g, hS, rfl, hb⟩
    have HB := Lib.hid hb
    have hsz := hb.size
    clear hb
    go_wp2_with (refine wpList_new_db rfl rfl rfl _ _ rfl S hS rfl rfl ?_)
    refine (sane_any _).mono ?_
    rintro e w2 ⟨rfl, hb2⟩
    have HB2 := Lib.hid ((HB.out.alloc (by omega) (.cells _ 31)).trans (hb2.mono (by simp; omega)))
    clear hb2
    go_wp2_with fail
    go_ret
    exact ⟨rfl, HB2.out⟩
  · have hm : (n : Int).tmod 3 = 1 := by rw [Int.tmod_eq_emod_of_nonneg (by omega)]; omega
    have hm2 : (n : Int) % 3 = 1 := by omega
    have hmk : ∀ w, (Instr.makeSlice 39 (.int .i64 5000) (.int .i64 5000)).run Try.prog w = .ok (.slice (some ⟨w.heap.size, 0, none⟩) 5000 5000) (w.alloc (.cells (flat (List.replicate 5000 Ct.zero)).toArray 24)) := make_cts 5000 (by decide)
    have FR := Lib.hid (fun w => zeros_run 5000 (by decide) w)
    generalize (flat (List.replicate 5000 Ct.zero)).toArray = M at *
    clear h3
    go_enter Try.func8, Try.ntmps8
    go_wp2_with (with_reducible show wpList _ _ _ (Oper.mk _ (.build 31 _) _ _ _ _ :: _) _ _; refine wpList_build_zero rfl rfl ?_)
    refine (FR.out _).mono ?_
    rintro e w1 ⟨S, g, hS, rfl, hb⟩
    have HB := Lib.hid hb
    have hsz := hb.size
    clear hb
    go_wp2_with (refine wpList_new_db rfl rfl rfl _ _ rfl S hS rfl rfl ?_)
    refine (sane_any _).mono ?_
    rintro e w2 ⟨rfl, hb2⟩
    have HB2 := Lib.hid ((HB.out.alloc (by omega) (.cells _ 31)).trans (hb2.mono (by simp; omega)))
    clear hb2
    go_wp2_with fail
    go_ret
    exact ⟨rfl, HB2.out⟩
  · have hm : (n : Int).tmod 3 = 2 := by rw [Int.tmod_eq_emod_of_nonneg (by omega)]; omega
    have hm2 : (n : Int) % 3 = 2 := by omega
    have hmk : ∀ w, (Instr.makeSlice 39 (.int .i64 5001) (.int .i64 5001)).run Try.prog w = .ok (.slice (some ⟨w.heap.size, 0, none⟩) 5001 5001) (w.alloc (.cells (flat (List.replicate 5001 Ct.zero)).toArray 24)) := make_cts 5001 (by decide)
    have FR := Lib.hid (fun w => zeros_long 5001 (by decide) (by decide) w)
    generalize (flat (List.replicate 5001 Ct.zero)).toArray = M at *
    clear h3
    go_enter Try.func8, Try.ntmps8
    go_wp2_with (with_reducible show wpList _ _ _ (Oper.mk _ (.build 31 _) _ _ _ _ :: _) _ _; refine wpList_build_zero rfl rfl ?_)
    refine (FR.out _).mono ?_
    rintro e w1 ⟨rfl, hb⟩
    have HB := Lib.hid hb
    have hsz := hb.size
    clear hb
    go_wp2_with (refine wpList_new_db rfl rfl rfl _ _ rfl Db.zero hz0 rfl rfl ?_)
    refine (sane_any _).mono ?_
    rintro e w2 ⟨rfl, hb2⟩
    have HB2 := Lib.hid ((HB.out.alloc (by omega) (.cells _ 31)).trans (hb2.mono (by simp; omega)))
    clear hb2
    go_wp2_with fail
    go_ret
    exact ⟨rfl, HB2.out⟩

set_option maxRecDepth 100000 in
theorem lawContactLimits_lifted (os : Os) (started : os.Started) (H : Type) (enc : TypeId × Value → H) :
    ReturnsInHanded {} Try.checked os 8 .any (Rows.contactLimitsSpec.pre6 enc Try.prog Try.f8 Rows.contactLimitsRow.domain false) (Rows.contactLimitsSpec.post enc Try.prog Try.f8 false true false false) := by
  refine returnsInHanded_of_change (C := Try.checked) own started (by kernel_rfl) Try.func8
    (ChangeSpec.witness6 (enc := enc) (C := Try.checked) false ⟨#[], #[.int .u8 0], []⟩ 8 (by kernel_rfl) (by kernel_rfl) (by kernel_rfl) (by kernel_rfl)) ?_
  intro W base args ds gs before hval0 hW hcnd _
  have hval : ∀ (j : Nat) t v, Try.f8.params[j]? = some t → args[j]? = some v → Value.okWide Try.prog W .any base t v := hval0
  have hW' := hW
  obtain ⟨p, q, hA0, hV, rfl, hfz, hnd⟩ := hW
  have hA : DataW.TrodAll enc Try.prog W 0 (fun _ => true) true Try.f8.params.toList args.toList ds p := hA0
  rw [Try.params8] at hA hval
  obtain ⟨v0, vs0, d0, ds0, p0, q0, hargs, rfl, rfl, h0, r0⟩ := trodAll_cons hA
  obtain ⟨rfl, rfl, rfl⟩ := trodAll_nil r0
  obtain rfl : args = #[v0] := by cases args; simp_all
  obtain ⟨rfl, rfl⟩ := trodVars_none hV
  obtain ⟨x0, rfl, rfl, rfl, g0⟩ := open_int Try.underlying5 (hval 0 5 v0 rfl rfl) h0
  clear hA0 hval0
  refine (lawContactLimits_walk x0 W g0).mono fun e W' ⟨he, bel⟩ => ?_
  subst he
  exact ⟨_, rfl, _, _, _, [], _, [], hW', trodAll_mk1 (shut_bool Try.underlying4 _), (trodAll_cons_mk (shut_int Try.underlying5 g0) trodAll_mk0), rfl, bel.frame _, fun h => by cases h⟩

theorem lawContactLimits_over : Rows.contactLimitsRow.holds Try.pinned (OpenSpec.ofChange Rows.contactLimitsSpec) :=
  OpenClaim.holds_of_wide 8 Try.f8 rfl rfl rfl rfl rfl rfl rfl ⟨rfl, rfl, rfl, rfl, rfl⟩ rfl rfl rfl rfl rfl (by kernel_rfl) Try.func8 (by kernel_rfl)
    (of_decide_eq_true (by kernel_rfl)) (by unfold Func.isWrapper; first | (rw [if_pos (by decide +kernel)]; kernel_rfl) | (rw [if_neg (by decide +kernel)]; exact ⟨rfl, rfl⟩))
    (fun os started H enc _ => lawContactLimits_lifted os started H enc)

theorem contactLimits_holds : Rows.ContactLimitsSaid := lawContactLimits_over
#print axioms contactLimits_holds
end Go.Proofs.Ytcobcefefifmcaa
