/- The law CallsSets: unions, intersections, differences, and what is above and below any floor, for any sets. No condition. -/
import Derived.Test.YtclkfclbnapamaaCsOpen
namespace Go.Proofs.Ytclkfclbnapamaa
open Go.RowKit Go.ChangeShapes Go.WideShapes Go.ChangeAt

/-- Two boxes. -/
theorem box2 {w wx : World} {a b : Cs} (h : Below (w.heap.size + 2) ((w.alloc (.cells #[.int .u32 a.up, .int .u32 a.dn] 24)).alloc (.cells #[.int .u32 b.up, .int .u32 b.dn] 24)) wx) :
    wx.cell? ⟨w.heap.size, 0, none⟩ = some (.int .u32 a.up) ∧ wx.cell? ⟨w.heap.size, 1, none⟩ = some (.int .u32 a.dn) ∧ wx.cell? ⟨w.heap.size + 1, 0, none⟩ = some (.int .u32 b.up) ∧ wx.cell? ⟨w.heap.size + 1, 1, none⟩ = some (.int .u32 b.dn) := by
  have h2 : Below ((w.alloc (.cells #[.int .u32 a.up, .int .u32 a.dn] 24)).heap.size + 1) ((w.alloc (.cells #[.int .u32 a.up, .int .u32 a.dn] 24)).alloc (.cells #[.int .u32 b.up, .int .u32 b.dn] 24)) wx := h.mono (by simp)
  have h1 : Below (w.heap.size + 1) (w.alloc (.cells #[.int .u32 a.up, .int .u32 a.dn] 24)) wx := ((Below.refl _ _).alloc (by simp) _).trans (h.mono (by omega))
  have e := fun i => cell_new_below h2 i
  rw [World.size_alloc] at e
  exact ⟨cell_new_below h1 0, cell_new_below h1 1, e 0, e 1⟩
theorem size2 {w wx : World} {A B : Obj} (h : Below (w.heap.size + 2) ((w.alloc A).alloc B) wx) : w.heap.size + 2 ≤ wx.heap.size := by
  have := h.size
  simpa using this
theorem below2 {w wx : World} {A B : Obj} (h : Below (w.heap.size + 2) ((w.alloc A).alloc B) wx) : Below w.heap.size w wx :=
  (((Below.refl _ w).alloc (Nat.le_refl _) A).alloc (by simp) B).trans (h.mono (by omega))

set_option maxRecDepth 100000 in
set_option maxHeartbeats 4000000 in
theorem lawCallsSets_walk (a b : Cs) (f : Int) (w : World) (ha : a.ok) (hb : b.ok) (_ : (Lit.int .i64 f).wf = true) :
    Calls Try.prog 3 #[a.agg, b.agg, .int .i64 f] w fun e w' => e = .returned (.bool true) ∧ Below w.heap.size w w' := by
  have FU := Lib.hid (fun w => union_any a b w ha hb)
  have GU := Lib.hid (fun w => refUnion_any a b w ha hb)
  have FB := Lib.hid (fun w => both_any a b w ha hb)
  have GB := Lib.hid (fun w => refBoth_any a b w ha hb)
  have FM := Lib.hid (fun w => minus_any a b w ha hb)
  have GM := Lib.hid (fun w => refMinus_any a b w ha hb)
  have FA := Lib.hid (fun f w => above_any a f w ha)
  have GA := Lib.hid (fun f w => refAbove_any a f w ha)
  have FL := Lib.hid (fun f w => below_any a f w ha)
  have GL := Lib.hid (fun f w => refBelow_any a f w ha)
  have FS := Lib.hid (fun w => sane_any w)
  have HBX := Lib.hid (fun (wx : World) (h : Below (w.heap.size + 2) ((w.alloc (.cells #[.int .u32 a.up, .int .u32 a.dn] 24)).alloc (.cells #[.int .u32 b.up, .int .u32 b.dn] 24)) wx) => box2 h)
  have hnq := fun (x : Cs) wx => neqSame x wx
  have heq := fun (x : Cs) wx => eqlSame x wx
  have HNQ := Lib.hid hnq
  have HEQ := Lib.hid heq
  clear hnq heq
  generalize Cs.union a b = U at *
  generalize Cs.both a b = I at *
  generalize Cs.minus a b = M at *
  generalize Cs.above a = AB at *
  generalize Cs.below a = BE at *
  obtain ⟨a1, a2⟩ := a
  obtain ⟨b1, b2⟩ := b
  simp only [Cs.agg] at *
  clear ha hb
  go_enter Try.func3, Try.ntmps3
  go_wp2_with fail
  have n1 := HNQ.out U
  have n2 := HNQ.out I
  have n3 := HNQ.out M
  obtain ⟨u1, u2⟩ := U
  obtain ⟨i1, i2⟩ := I
  obtain ⟨m1, m2⟩ := M
  simp only at n1 n2 n3
  refine Bag.region (fun wx => Below (w.heap.size + 2) ((w.alloc (.cells #[.int .u32 a1, .int .u32 a2] 24)).alloc (.cells #[.int .u32 b1, .int .u32 b2] 24)) wx) (by kernel_rfl) (by kernel_rfl) (Below.refl _ _).drew ?_
  iterate 25 (first
      | (apply Bag.walk_yes (by rfl)
         (intro wx hx K hK
          obtain ⟨k0, k1, k2, k3⟩ := HBX.out _ hx
          first
            | (go_simp
               first
                | (go_at_call 7; refine (FU.out _).mono ?_; rintro e x1 ⟨rfl, hb⟩; exact hK _ (hx.trans (hb.mono (size2 hx))))
                | (go_at_call 8; refine (GU.out _).mono ?_; rintro e x1 ⟨rfl, hb⟩; exact hK _ (hx.trans (hb.mono (size2 hx))))
                | (go_at_call 9; refine (FB.out _).mono ?_; rintro e x1 ⟨rfl, hb⟩; exact hK _ (hx.trans (hb.mono (size2 hx))))
                | (go_at_call 10; refine (GB.out _).mono ?_; rintro e x1 ⟨rfl, hb⟩; exact hK _ (hx.trans (hb.mono (size2 hx))))
                | (go_at_call 11; refine (FM.out _).mono ?_; rintro e x1 ⟨rfl, hb⟩; exact hK _ (hx.trans (hb.mono (size2 hx))))
                | (go_at_call 12; refine (GM.out _).mono ?_; rintro e x1 ⟨rfl, hb⟩; exact hK _ (hx.trans (hb.mono (size2 hx))))
                | (go_at_K; exact hK _ hx)))
         rfl)
      | (refine Bag.walk_no (by rfl) ?_; simp only [Act.put, List.setIfInBounds_toArray, List.set_cons_succ, List.set_cons_zero]))
  refine Bag.walk_nil (fun w1 hB => ?_)
  clear n1 n2 n3
  have HB := Lib.hid hB
  clear hB
  go_wp2_with fail
  go_loopw [7] (fun v wr => ∃ k : Nat, k ≤ 35 ∧ v = .int .i64 ((k : Int) - 1) ∧ Below (w.heap.size + 2) ((w.alloc (.cells #[.int .u32 a1, .int .u32 a2] 24)).alloc (.cells #[.int .u32 b1, .int .u32 b2] 24)) wr) (fun v _ => 35 - (intOf v + 1).toNat)
  case atStart => exact ⟨0, by omega, rfl, HB.out⟩
  case round =>
    obtain ⟨k, hk, rfl, hB⟩ := hrel
    have HBr := Lib.hid hB
    clear hB
    by_cases hlt : k < 35
    · have FA1 := Lib.hid (fun w => FA.out ((k : Int) - 1) w)
      have GA1 := Lib.hid (fun w => GA.out ((k : Int) - 1) w)
      have FL1 := Lib.hid (fun w => FL.out ((k : Int) - 1) w)
      have GL1 := Lib.hid (fun w => GL.out ((k : Int) - 1) w)
      have n1 := HNQ.out (AB ((k : Int) - 1))
      have n2 := HNQ.out (BE ((k : Int) - 1))
      generalize AB ((k : Int) - 1) = A1 at *
      generalize BE ((k : Int) - 1) = B1 at *
      obtain ⟨p1, p2⟩ := A1
      obtain ⟨q1, q2⟩ := B1
      simp only at n1 n2 FA1 GA1 FL1 GL1
      have hd : decide ((k : Int) - 1 < 34) = true := decide_eq_true (by omega)
      have hw : wrap64 ((k : Int) - 1 + 1) = ((k + 1 : Nat) : Int) - 1 := by unfold wrap64; omega
      have HW := Lib.hid hw
      clear hw
      generalize hz : (k : Int) - 1 = z at *
      have HZ := Lib.hid hz
      clear hz
      go_wp2_with fail
      refine Bag.region (fun wx => Below (w.heap.size + 2) ((w.alloc (.cells #[.int .u32 a1, .int .u32 a2] 24)).alloc (.cells #[.int .u32 b1, .int .u32 b2] 24)) wx) (by kernel_rfl) (by kernel_rfl) HBr.out.drew ?_
      iterate 16 (first
          | (apply Bag.walk_yes (by rfl)
             (intro wx hx K hK
              obtain ⟨k0, k1, k2, k3⟩ := HBX.out _ hx
              first
                | (go_simp
                   first
                    | (go_at_call 13; refine (FA1.out _).mono ?_; rintro e x1 ⟨rfl, hb⟩; exact hK _ (hx.trans (hb.mono (size2 hx))))
                    | (go_at_call 14; refine (GA1.out _).mono ?_; rintro e x1 ⟨rfl, hb⟩; exact hK _ (hx.trans (hb.mono (size2 hx))))
                    | (go_at_call 15; refine (FL1.out _).mono ?_; rintro e x1 ⟨rfl, hb⟩; exact hK _ (hx.trans (hb.mono (size2 hx))))
                    | (go_at_call 16; refine (GL1.out _).mono ?_; rintro e x1 ⟨rfl, hb⟩; exact hK _ (hx.trans (hb.mono (size2 hx))))
                    | (go_at_K; exact hK _ hx)))
             rfl)
          | (refine Bag.walk_no (by rfl) ?_; simp only [Act.put, List.setIfInBounds_toArray, List.set_cons_succ, List.set_cons_zero]))
      refine Bag.walk_nil (fun w2 hB => ?_)
      have HB2 := Lib.hid hB
      clear hB n1 n2
      go_wp2_with fail
      go_roundw
      case rel => exact ⟨k + 1, by omega, congrArg _ HW.out, HB2.out⟩
      case measure =>
        have h1 := HZ.out
        have h2 : wrap64 (z + 1) = ((k + 1 : Nat) : Int) - 1 := HW.out
        rw [h2]
        simp [intOf]; omega
    · obtain rfl : k = 35 := by omega
      have n1 := HEQ.out (AB f)
      have n2 := HEQ.out (BE f)
      have FA1 := Lib.hid (fun w => FA.out f w)
      have GA1 := Lib.hid (fun w => GA.out f w)
      have FL1 := Lib.hid (fun w => FL.out f w)
      have GL1 := Lib.hid (fun w => GL.out f w)
      generalize AB f = A1 at *
      generalize BE f = B1 at *
      obtain ⟨p1, p2⟩ := A1
      obtain ⟨q1, q2⟩ := B1
      simp only at n1 n2 FA1 GA1 FL1 GL1
      go_wp2_with fail
      refine Bag.region (fun wx => Below (w.heap.size + 2) ((w.alloc (.cells #[.int .u32 a1, .int .u32 a2] 24)).alloc (.cells #[.int .u32 b1, .int .u32 b2] 24)) wx) (by kernel_rfl) (by kernel_rfl) HBr.out.drew ?_
      iterate 20 (first
          | (apply Bag.walk_yes (by rfl)
             (intro wx hx K hK
              obtain ⟨k0, k1, k2, k3⟩ := HBX.out _ hx
              first
                | (go_simp
                   first
                    | (go_at_call 13; refine (FA1.out _).mono ?_; rintro e x1 ⟨rfl, hb⟩; exact hK _ (hx.trans (hb.mono (size2 hx))))
                    | (go_at_call 14; refine (GA1.out _).mono ?_; rintro e x1 ⟨rfl, hb⟩; exact hK _ (hx.trans (hb.mono (size2 hx))))
                    | (go_at_call 15; refine (FL1.out _).mono ?_; rintro e x1 ⟨rfl, hb⟩; exact hK _ (hx.trans (hb.mono (size2 hx))))
                    | (go_at_call 16; refine (GL1.out _).mono ?_; rintro e x1 ⟨rfl, hb⟩; exact hK _ (hx.trans (hb.mono (size2 hx))))
                    | (go_at_call 17; refine (FS.out _).mono ?_; rintro e x1 ⟨rfl, hb⟩; exact hK _ (hx.trans (hb.mono (size2 hx))))
                    | (go_at_K; exact hK _ hx)))
             rfl)
          | (refine Bag.walk_no (by rfl) ?_; simp only [Act.put, List.setIfInBounds_toArray, List.set_cons_succ, List.set_cons_zero]))
      refine Bag.walk_nil (fun w2 hB => ?_)
      have HB2 := Lib.hid hB
      clear hB n1 n2
      go_wp2_with fail
      go_ret
      exact ⟨rfl, below2 HB2.out⟩
set_option maxRecDepth 100000 in
theorem lawCallsSets_lifted (os : Os) (started : os.Started) (H : Type) (enc : TypeId × Value → H) :
    ReturnsInHanded {} Try.checked os 3 .any (Rows.callsSetsSpec.pre6 enc Try.prog Try.f3 Rows.callsSetsRow.domain false) (Rows.callsSetsSpec.post enc Try.prog Try.f3 false true false false) := by
  refine returnsInHanded_of_change (C := Try.checked) own started (by kernel_rfl) Try.func3
    (ChangeSpec.witness6 (enc := enc) (C := Try.checked) false ⟨#[], #[.agg #[.int .u32 0, .int .u32 0], .agg #[.int .u32 0, .int .u32 0], .int .i64 0], []⟩ 8 (by kernel_rfl) (by kernel_rfl) (by kernel_rfl) (by kernel_rfl)) ?_
  intro W base args ds gs before hval0 hW hcnd _
  have hval : ∀ (j : Nat) t v, Try.f3.params[j]? = some t → args[j]? = some v → Value.okWide Try.prog W .any base t v := hval0
  have hW' := hW
  obtain ⟨p, q, hA0, hV, rfl, hfz, hnd⟩ := hW
  have hA : DataW.TrodAll enc Try.prog W 0 (fun _ => true) true Try.f3.params.toList args.toList ds p := hA0
  rw [Try.params3] at hA hval
  obtain ⟨v0, vs0, d0, ds0, p0, q0, hargs, rfl, rfl, h0, r0⟩ := trodAll_cons hA
  obtain ⟨v1, vs1, d1, ds1, p1, q1, rfl, rfl, rfl, h1, r1⟩ := trodAll_cons r0
  obtain ⟨v2, vs2, d2, ds2, p2, q2, rfl, rfl, rfl, h2, r2⟩ := trodAll_cons r1
  obtain ⟨rfl, rfl, rfl⟩ := trodAll_nil r2
  obtain rfl : args = #[v0, v1, v2] := by cases args; simp_all
  obtain ⟨rfl, rfl⟩ := trodVars_none hV
  have k0 := h0
  have lt0 : ∀ x ∈ p0, x.block < W.heap.size := by obtain ⟨m, hm⟩ := k0; exact DataW.trod_lt m _ _ _ hm
  obtain ⟨x0, rfl, g0⟩ := open_cs (hval 0 24 v0 rfl rfl) h0
  have k1 := h1
  have lt1 : ∀ x ∈ p1, x.block < W.heap.size := by obtain ⟨m, hm⟩ := k1; exact DataW.trod_lt m _ _ _ hm
  obtain ⟨x1, rfl, g1⟩ := open_cs (hval 1 24 v1 rfl rfl) h1
  obtain ⟨x2, rfl, rfl, rfl, g2⟩ := open_int Try.underlying3 (hval 2 3 v2 rfl rfl) h2
  clear hA0 hval0
  refine (lawCallsSets_walk x0 x1 x2 W g0 g1 g2).mono fun e W' ⟨he, bel⟩ => ?_
  subst he
  exact ⟨_, rfl, _, _, _, [], _, [], hW', trodAll_mk1 (shut_bool Try.underlying4 _), (trodAll_cons_mk (Below.trod laidOut (by kernel_rfl) (of_decide_eq_true (by kernel_rfl)) k0 bel lt0) (trodAll_cons_mk (Below.trod laidOut (by kernel_rfl) (of_decide_eq_true (by kernel_rfl)) k1 bel lt1) (trodAll_cons_mk (shut_int Try.underlying3 g2) trodAll_mk0))), rfl, bel.frame _, fun h => by cases h⟩

theorem lawCallsSets_over : Rows.callsSetsRow.holds Try.pinned (OpenSpec.ofChange Rows.callsSetsSpec) :=
  OpenClaim.holds_of_wide 3 Try.f3 rfl rfl rfl rfl rfl rfl rfl ⟨rfl, rfl, rfl, rfl, rfl⟩ rfl rfl rfl rfl rfl (by kernel_rfl) Try.func3 (by kernel_rfl)
    (of_decide_eq_true (by kernel_rfl)) (by unfold Func.isWrapper; first | (rw [if_pos (by decide +kernel)]; kernel_rfl) | (rw [if_neg (by decide +kernel)]; exact ⟨rfl, rfl⟩))
    (fun os started H enc _ => lawCallsSets_lifted os started H enc)

theorem callsSets_holds : Rows.CallsSetsSaid := lawCallsSets_over
#print axioms callsSets_holds
end Go.Proofs.Ytclkfclbnapamaa
