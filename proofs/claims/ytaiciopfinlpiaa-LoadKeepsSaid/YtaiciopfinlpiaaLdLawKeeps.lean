/- The law LoadKeeps: a full car stays full while its load is not more than a sixteenth below the threshold. No condition. -/
import Derived.Test.YtaiciopfinlpiaaLdPack
import Derived.Test.YtaiciopfinlpiaaLdOrder
namespace Go.Proofs.Ytaiciopfinlpiaa
open Go.RowKit Go.ChangeShapes Go.WideShapes Go.ChangeAt

set_option maxHeartbeats 4000000 in
theorem lawLoadKeeps_walk (v : Value) (l : List Nat) (w : World) (hv : VV w v (flts l)) (hmax : l.length ≤ maxLen) :
    Calls Try.prog 7 #[v] w fun e w' => e = .returned (.bool true) ∧ Below w.heap.size w w' := by
  unfold maxLen at hmax
  have HV := Lib.hid hv
  obtain ⟨L, lcap, rfl, hL⟩ := hv
  rw [flts_len]
  have HL := Lib.hid hL
  clear hL
  have FSN := Lib.hid (fun wx => sane_any wx)
  have hB := bld_any 4593671619917905920 4604930618986332160 4607182418800017408
  rw [usual_bld] at hB
  have hK := fun x s full => usual_keeps (x := x) (s := s) (full := full)
  have hcl : usual.cars.length ≤ 140737488355328 := by simp [usual, bldX, sampleCars_length]
  change ∀ w, Calls _ _ _ w fun e w' => ∃ A cap, e = .returned (usual.agg A cap) ∧ CarsAt w' w'.heap.size A usual.cars ∧ Below w.heap.size w w' at hB
  have hS := fun A cap x s wx => step_any usual A cap x s wx hcl
  generalize usual = b at *
  have FB := Lib.hid hB
  have FS := Lib.hid hS
  have KEEP := Lib.hid hK
  clear hB hS hK hcl
  obtain ⟨f, d, r, p, e1, e2, e3, cs⟩ := b
  simp only [BldD.agg] at FB FS
  generalize hst : stepF _ = ST at *
  clear hst
  go_enter Try.func7, Try.ntmps7
  go_wp2_with fail
  refine (FB.out _).mono ?_
  rintro e w1 ⟨A, cap, rfl, hcars, hb1⟩
  have HBX := Lib.hid (BX.new (f := f) (d := d) (r := r) (p := p) (e1 := e1) (e2 := e2) (e3 := e3) (cap := cap) hcars)
  have HB1 := Lib.hid hb1
  clear hcars
  by_cases hlen : 300 < l.length
  · go_wp2_with fail
    refine (FSN.out _).mono ?_
    rintro e w2 ⟨rfl, hb2⟩
    go_wp2_with fail
    go_ret
    exact ⟨rfl, HB1.out.trans (((Below.refl _ _).alloc (Nat.le_refl _) _).trans (hb2.mono (by simp)) |>.mono hb1.size)⟩
  · obtain ⟨g, hg⟩ : ∃ g, g = w1.heap.size := ⟨_, rfl⟩
    obtain ⟨W, hW⟩ : ∃ W, W = (w1.alloc (.cells #[.int .i64 f, .int .i64 d, .int .i64 r, .int .i64 p, .float .f64 e1, .float .f64 e2, .float .f64 e3, .slice A cs.length cap] 25)).alloc (.cells #[.int .i64 0] 34) := ⟨_, rfl⟩
    have h0 : BX W g f d r p e1 e2 e3 A cs cap ∧ W.heap[g + 1]? = some (.cells #[.int .i64 0] 34 (0, 0)) ∧ Below w.heap.size w W ∧ w.heap.size ≤ g := by
      rw [hW, hg]
      refine ⟨HBX.out.below ((Below.refl _ _).alloc (Nat.le_refl _) _), ?_, (HB1.out.alloc hb1.size _).alloc (by simp; exact Nat.le_succ_of_le hb1.size) _, hb1.size⟩
      have := heap_alloc_new (w1.alloc (.cells #[.int .i64 f, .int .i64 d, .int .i64 r, .int .i64 p, .float .f64 e1, .float .f64 e2, .float .f64 e3, .slice A cs.length cap] 25)) (.cells #[.int .i64 0] 34)
      simpa using this
    have H0 := Lib.hid h0
    clear h0
    have r1 : (FloatKind.f64.format.order 4604367669032910848 4604930618986332160 == some .gt || FloatKind.f64.format.order 4604367669032910848 4604930618986332160 == some .eq) = false := by decide +kernel
    have r2 : (FloatKind.f64.format.order 4604367669032910848 4604367669032910848 == some .gt || FloatKind.f64.format.order 4604367669032910848 4604367669032910848 == some .eq) = true := by decide +kernel
    go_wp2_with fail
    simp only [← hg, ← hW]
    clear hg hW
    go_loopw [4, 6] (fun b i wr => ∃ (k : Nat) (full : Bool) (sc : Int), k ≤ l.length ∧ b = .bool full ∧ i = .int .i64 k ∧ BX wr g f d r p e1 e2 e3 A cs cap ∧ wr.heap[g + 1]? = some (.cells #[.int .i64 sc] 34 (0, 0)) ∧ Below w.heap.size w wr ∧ Hid (sc = 0 ∨ sc = 2 ∨ sc = 3) ∧ Hid (full = decide (sc = 3))) (fun _ i _ => l.length - (intOf i).toNat)
    case atStart =>
      refine ⟨0, false, 0, Nat.zero_le _, rfl, rfl, H0.out.1, H0.out.2.1, H0.out.2.2.1, Lib.hid (Or.inl rfl), ?_⟩
      show _ = _
      rfl
    case round =>
      obtain ⟨k, full, sc, hk, rfl, rfl, hbx, hrow, hbw, hsc, hfull⟩ := hrel
      by_cases hlt : k < l.length
      · obtain ⟨bx, off, rfl, hbl, hx⟩ := (HL.out.below hbw).flt hlt
        generalize l[k] = x at *
        have hgs := hbx.lt
        have hgs1 : g + 1 < wr.heap.size := by
          rcases Nat.lt_or_ge (g + 1) wr.heap.size with h | h
          · exact h
          · rw [Array.getElem?_eq_none h] at hrow; cases hrow
        have hge := H0.out.2.2.2
        have HH := Lib.hid (And.intro hbx (And.intro hrow hbw))
        clear hbx hrow hbw
        rcases Bool.eq_false_or_eq_true (FloatKind.f64.format.order x 4602678819172646912 == some .gt || FloatKind.f64.format.order x 4602678819172646912 == some .eq) with q1 | q1
        · rcases Bool.eq_false_or_eq_true (FloatKind.f64.format.order x 4607182418800017408 == some .lt) with q2 | q2
          · have hst := KEEP.out x sc full q1 q2 hsc.out hfull.out
            unfold geB at hst
            have F1 := Lib.hid (fun wx h => FS.out A cap x sc wx h)
            have HST := Lib.hid hst
            clear hst
            rcases Bool.eq_false_or_eq_true (FloatKind.f64.format.order x 4604930618986332160 == some .gt || FloatKind.f64.format.order x 4604930618986332160 == some .eq) with q3 | q3 <;>
            rcases Bool.eq_false_or_eq_true (FloatKind.f64.format.order x 4604367669032910848 == some .gt || FloatKind.f64.format.order x 4604367669032910848 == some .eq) with q4 | q4 <;>
            cases full
            all_goals
              have hst := HST.out
              rw [q3, q4] at hst
              simp at hst
              rw [hst] at F1
              clear hst
              obtain ⟨c0, c1, c2, c3, c4, c5, c6, c7⟩ := HH.out.1.cells
              have k0 : wr.cell? ⟨g + 1, 0, none⟩ = some (.int .i64 sc) := cell_of_row _ _ _ _ _ (0, 0) HH.out.2.1
              go_wp2_with fail
              refine (F1.out _ HH.out.1.cars).mono ?_
              rintro e w2 ⟨rfl, hb2⟩
              clear c0 c1 c2 c3 c4 c5 c6 c7 k0
              have hrow2 := (hb2.block _ hgs1).trans HH.out.2.1
              have k0 : w2.cell? ⟨g + 1, 0, none⟩ = some (.int .i64 sc) := cell_of_row _ _ _ _ _ (0, 0) hrow2
              have q0 : w2.frozen? ⟨g + 1, 0, none⟩ = false := frozen_of_row _ _ _ _ _ hrow2
              have HR := Lib.hid (And.intro hrow2 (And.intro (HH.out.1.below hb2) (HH.out.2.2.trans (hb2.mono HH.out.2.2.size))))
              clear hrow2 hb2
              go_wp2_with fail
              go_roundw
              case rel =>
                refine ⟨k + 1, _, _, by omega, rfl, by go_num, ?_, row_set HR.out.1 0 _, HR.out.2.2.setCell (by show w.heap.size ≤ g + 1; omega) _, Lib.hid (by simp), ?_⟩
                · exact HR.out.2.1.put (by omega) 0 _
                · show _ = _
                  rfl
              case measure => simp [intOf]; omega
          · have hst := KEEP.out 4604367669032910848 sc full rest_load.1 rest_load.2 hsc.out hfull.out
            unfold geB at hst
            rw [r1, r2] at hst
            have F1 := Lib.hid (fun wx h => FS.out A cap 4604367669032910848 sc wx h)
            cases full
            all_goals
              simp at hst
              rw [hst] at F1
              clear hst
              obtain ⟨c0, c1, c2, c3, c4, c5, c6, c7⟩ := HH.out.1.cells
              have k0 : wr.cell? ⟨g + 1, 0, none⟩ = some (.int .i64 sc) := cell_of_row _ _ _ _ _ (0, 0) HH.out.2.1
              go_wp2_with fail
              refine (F1.out _ HH.out.1.cars).mono ?_
              rintro e w2 ⟨rfl, hb2⟩
              clear c0 c1 c2 c3 c4 c5 c6 c7 k0
              have hrow2 := (hb2.block _ hgs1).trans HH.out.2.1
              have k0 : w2.cell? ⟨g + 1, 0, none⟩ = some (.int .i64 sc) := cell_of_row _ _ _ _ _ (0, 0) hrow2
              have q0 : w2.frozen? ⟨g + 1, 0, none⟩ = false := frozen_of_row _ _ _ _ _ hrow2
              have HR := Lib.hid (And.intro hrow2 (And.intro (HH.out.1.below hb2) (HH.out.2.2.trans (hb2.mono HH.out.2.2.size))))
              clear hrow2 hb2
              go_wp2_with fail
              go_roundw
              case rel =>
                refine ⟨k + 1, _, _, by omega, rfl, by go_num, ?_, row_set HR.out.1 0 _, HR.out.2.2.setCell (by show w.heap.size ≤ g + 1; omega) _, Lib.hid (by simp), ?_⟩
                · exact HR.out.2.1.put (by omega) 0 _
                · show _ = _
                  rfl
              case measure => simp [intOf]; omega
        · have hst := KEEP.out 4604367669032910848 sc full rest_load.1 rest_load.2 hsc.out hfull.out
          unfold geB at hst
          rw [r1, r2] at hst
          have F1 := Lib.hid (fun wx h => FS.out A cap 4604367669032910848 sc wx h)
          cases full
          all_goals
            simp at hst
            rw [hst] at F1
            clear hst
            obtain ⟨c0, c1, c2, c3, c4, c5, c6, c7⟩ := HH.out.1.cells
            have k0 : wr.cell? ⟨g + 1, 0, none⟩ = some (.int .i64 sc) := cell_of_row _ _ _ _ _ (0, 0) HH.out.2.1
            go_wp2_with fail
            refine (F1.out _ HH.out.1.cars).mono ?_
            rintro e w2 ⟨rfl, hb2⟩
            clear c0 c1 c2 c3 c4 c5 c6 c7 k0
            have hrow2 := (hb2.block _ hgs1).trans HH.out.2.1
            have k0 : w2.cell? ⟨g + 1, 0, none⟩ = some (.int .i64 sc) := cell_of_row _ _ _ _ _ (0, 0) hrow2
            have q0 : w2.frozen? ⟨g + 1, 0, none⟩ = false := frozen_of_row _ _ _ _ _ hrow2
            have HR := Lib.hid (And.intro hrow2 (And.intro (HH.out.1.below hb2) (HH.out.2.2.trans (hb2.mono HH.out.2.2.size))))
            clear hrow2 hb2
            go_wp2_with fail
            go_roundw
            case rel =>
              refine ⟨k + 1, _, _, by omega, rfl, by go_num, ?_, row_set HR.out.1 0 _, HR.out.2.2.setCell (by show w.heap.size ≤ g + 1; omega) _, Lib.hid (by simp), ?_⟩
              · exact HR.out.2.1.put (by omega) 0 _
              · show _ = _
                rfl
            case measure => simp [intOf]; omega
      · obtain rfl : k = l.length := by omega
        have HH := Lib.hid (And.intro hbx (And.intro hrow hbw))
        clear hbx hrow hbw
        go_wp2_with fail
        refine (FSN.out _).mono ?_
        rintro e w2 ⟨rfl, hb2⟩
        go_wp2_with fail
        go_ret
        exact ⟨rfl, HH.out.2.2.trans (hb2.mono HH.out.2.2.size)⟩
set_option maxRecDepth 100000 in
theorem lawLoadKeeps_lifted (os : Os) (started : os.Started) (H : Type) (enc : TypeId × Value → H) :
    ReturnsInHanded {} Try.checked os 7 .any (Rows.loadKeepsSpec.pre6 enc Try.prog Try.f7 Rows.loadKeepsRow.domain false) (Rows.loadKeepsSpec.post enc Try.prog Try.f7 false true false false) := by
  refine returnsInHanded_of_change (C := Try.checked) own started (by kernel_rfl) Try.func7
    (ChangeSpec.witness6 (enc := enc) (C := Try.checked) false ⟨#[], #[.slice none 0 0], []⟩ 8 (by kernel_rfl) (by kernel_rfl) (by kernel_rfl) (by kernel_rfl)) ?_
  intro W base args ds gs before hval0 hW hcnd _
  have hval : ∀ (j : Nat) t v, Try.f7.params[j]? = some t → args[j]? = some v → Value.okWide Try.prog W .any base t v := hval0
  have hW' := hW
  obtain ⟨p, q, hA0, hV, rfl, hfz, hnd⟩ := hW
  have hA : DataW.TrodAll enc Try.prog W 0 (fun _ => true) true Try.f7.params.toList args.toList ds p := hA0
  rw [Try.params7] at hA hval
  obtain ⟨v0, vs0, d0, ds0, p0, q0, hargs, rfl, rfl, h0, r0⟩ := trodAll_cons hA
  obtain ⟨rfl, rfl, rfl⟩ := trodAll_nil r0
  obtain rfl : args = #[v0] := by cases args; simp_all
  obtain ⟨rfl, rfl⟩ := trodVars_none hV
  have k0 := h0
  have lt0 : ∀ x ∈ p0, x.block < W.heap.size := by obtain ⟨m, hm⟩ := k0; exact DataW.trod_lt m _ _ _ hm
  obtain ⟨a0, l0, c0, rfl⟩ := okWide_slice Try.underlying29 (hval 0 29 v0 rfl rfl)
  obtain ⟨fuel0, hf0⟩ := h0
  obtain ⟨x0, g0, m0⟩ := open_flts hf0
  clear hA0 hval0
  refine (lawLoadKeeps_walk _ x0 W g0 m0).mono fun e W' ⟨he, bel⟩ => ?_
  subst he
  exact ⟨_, rfl, _, _, _, [], _, [], hW', trodAll_mk1 (shut_bool Try.underlying4 _), (trodAll_cons_mk (Below.trod laidOut (by kernel_rfl) (of_decide_eq_true (by kernel_rfl)) k0 bel lt0) trodAll_mk0), rfl, bel.frame _, fun h => by cases h⟩

theorem lawLoadKeeps_over : Rows.loadKeepsRow.holds Try.pinned (OpenSpec.ofChange Rows.loadKeepsSpec) :=
  OpenClaim.holds_of_wide 7 Try.f7 rfl rfl rfl rfl rfl rfl rfl ⟨rfl, rfl, rfl, rfl, rfl⟩ rfl rfl rfl rfl rfl (by kernel_rfl) Try.func7 (by kernel_rfl)
    (of_decide_eq_true (by kernel_rfl)) (by unfold Func.isWrapper; first | (rw [if_pos (by decide +kernel)]; kernel_rfl) | (rw [if_neg (by decide +kernel)]; exact ⟨rfl, rfl⟩))
    (fun os started H enc _ => lawLoadKeeps_lifted os started H enc)

theorem loadKeeps_holds : Rows.LoadKeepsSaid := lawLoadKeeps_over
#print axioms loadKeeps_holds
end Go.Proofs.Ytaiciopfinlpiaa
