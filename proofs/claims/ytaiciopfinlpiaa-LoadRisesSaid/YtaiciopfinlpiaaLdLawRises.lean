/- The law LoadRises: a class never rises without a load at its threshold; a load that is no number makes it unknown, and this does not outlast the next reading. No condition. -/
import Derived.Test.YtaiciopfinlpiaaLdPack
namespace Go.Proofs.Ytaiciopfinlpiaa
open Go.RowKit Go.ChangeShapes Go.WideShapes Go.ChangeAt

theorem stepF_04 {b : BldD} {s : Int} (x : Nat) (h0 : 0 ≤ s) (h1 : s ≤ 4) : 0 ≤ stepF b s x ∧ stepF b s x ≤ 4 := by
  have := classF_range b x
  unfold stepF
  split <;> omega
theorem runF_04 {b : BldD} (l : List Nat) : ∀ {s : Int}, 0 ≤ s → s ≤ 4 → 0 ≤ runF b s l ∧ runF b s l ≤ 4 := by
  induction l with
  | nil => intro s h0 h1; exact ⟨h0, h1⟩
  | cons y l ih => intro s h0 h1; have := stepF_04 (b := b) y h0 h1; exact ih this.1 this.2
/-- What a step in a valid building says. -/
theorem step_facts {b : BldD} (hv : validE b = 0) {L : Int} (x : Nat) (_h0 : 0 ≤ L) (_h1 : L ≤ 4) :
    (stepF b L x = 0 ∧ nanB x = true) ∨ (stepF b L x = 0 ∧ nanB x = false ∧ fltB x 0 = true) ∨
    (nanB x = false ∧ fltB x 0 = false ∧ 0 < stepF b L x ∧ (L < stepF b L x → (stepF b L x = 1 ∨ (stepF b L x = 2 ∧ fltB x b.empty = false) ∨ (stepF b L x = 3 ∧ fltB x b.full = false) ∨ (stepF b L x = 4 ∧ fltB x b.over = false)))) := by
  have hst : stayB b L x = true → 0 < L := by
    unfold stayB
    split
    · omega
    · split
      · omega
      · intro h; cases h
  cases hN : nanB x with
  | true =>
    refine .inl ⟨?_, rfl⟩
    have hc : classF b x = 0 := by unfold classF; rw [if_pos hv, if_pos (ge_nan hN)]
    unfold stepF
    rw [hc, if_neg (by simp)]
  | false =>
    have hg := ge_not hN nan_zero
    cases hz : fltB x 0 with
    | true =>
      have hg' : geB x 0 = false := by rw [hg, hz]; rfl
      refine .inr (.inl ⟨?_, rfl, rfl⟩)
      have hc : classF b x = 0 := by unfold classF; rw [if_pos hv, if_pos hg']
      unfold stepF
      rw [hc, if_neg (by simp)]
    | false =>
      rw [hz] at hg
      have hc : classF b x = if fltB x b.empty = true then 1 else if fltB x b.full = true then 2 else if fltB x b.over = true then 3 else 4 := by unfold classF; rw [if_pos hv, hg, if_neg (by simp)]
      have hc0 : 0 < classF b x := by rw [hc]; repeat' split; all_goals omega
      refine .inr (.inr ⟨rfl, rfl, ?_, ?_⟩)
      · unfold stepF
        split
        · rename_i h; exact hst h.2.2
        · exact hc0
      · intro hL
        have hs : stepF b L x = classF b x := by
          unfold stepF at hL ⊢
          split
          · rename_i h; rw [if_pos h] at hL; omega
          · rfl
        rw [hs, hc]
        cases fltB x b.empty <;> cases fltB x b.full <;> cases fltB x b.over <;> simp
theorem step_zero (b : BldD) (x : Nat) : stepF b 0 x = classF b x := by
  have hr := classF_range b x
  unfold stepF
  rw [if_neg (by omega)]

set_option maxRecDepth 100000 in
set_option maxHeartbeats 8000000 in
theorem lawLoadRises_walk (v : Value) (l : List Nat) (t0 t1 t2 : Nat) (w : World) (hv : VV w v (flts l)) (hmax : l.length ≤ maxLen) :
    Calls Try.prog 6 #[v, .agg #[.float .f64 t0, .float .f64 t1, .float .f64 t2]] w fun e w' => e = .returned (.bool true) ∧ Below w.heap.size w w' := by
  unfold maxLen at hmax
  obtain ⟨L, lcap, rfl, hL⟩ := hv
  rw [flts_len]
  have HL := Lib.hid hL
  clear hL
  have FSN := Lib.hid (fun wx => sane_any wx)
  have hcl : (bldD t0 t1 t2).cars.length ≤ 140737488355328 := by
    unfold bldD
    split <;> simp [bldX, sampleCars_length]
  have hB := bld_any t0 t1 t2
  have hR := fun A cap wx (h : CarsAt wx wx.heap.size A (bldD t0 t1 t2).cars) (hl : l.length ≤ 5000) (hA : VAt wx L (flts l)) => run_any (bldD t0 t1 t2) A cap 0 l L lcap wx hcl h hl hA
  have hC := fun A cap y wx => class_any (bldD t0 t1 t2) A cap y wx hcl
  have hF := fun L' y h0 h1 => step_facts (b := bldD t0 t1 t2) (bld_valid t0 t1 t2) (L := L') y h0 h1
  have hz := step_zero (bldD t0 t1 t2)
  have ht := fun k (h : k < l.length) => runF_take (bldD t0 t1 t2) 0 l h
  have ha : ∀ k, k < l.length → (outsF (bldD t0 t1 t2) 0 l)[k]? = some (runF (bldD t0 t1 t2) 0 (l.take (k + 1))) := fun k h => by rw [List.getElem?_eq_getElem (by rw [outsF_len]; exact h), outsF_at _ _ _ h]
  have hol := outsF_len (bldD t0 t1 t2) 0 l
  have hrg := fun k => runF_04 (b := bldD t0 t1 t2) (l.take k) (s := 0) (by omega) (by omega)
  generalize bldD t0 t1 t2 = b at *
  generalize outsF b 0 l = O at *
  obtain ⟨RF, hRF⟩ : ∃ RF : Nat → Int, ∀ k, RF k = runF b 0 (l.take k) := ⟨_, fun _ => rfl⟩
  have hr0 : RF 0 = 0 := by rw [hRF]; rfl
  simp only [← hRF] at ht ha hrg
  clear hRF
  generalize stepF b = ST at *
  generalize classF b = CL at *
  have FB := Lib.hid hB
  have FR := Lib.hid hR
  have FC := Lib.hid hC
  have FF := Lib.hid hF
  have HZ := Lib.hid hz
  have HT := Lib.hid ht
  have HA := Lib.hid ha
  have HRG := Lib.hid hrg
  have HR0 := Lib.hid hr0
  clear hB hR hC hF hz ht ha hrg hcl hr0
  obtain ⟨f, d, r, p, e1, e2, e3, cs⟩ := b
  simp only [BldD.agg] at FB FR FC FF
  unfold fltB at FF
  go_enter Try.func6, Try.ntmps6
  go_wp2_with fail
  refine (FB.out _).mono ?_
  rintro e w1 ⟨A, cap, rfl, hcars, hb1⟩
  have HBX := Lib.hid (BX.new (f := f) (d := d) (r := r) (p := p) (e1 := e1) (e2 := e2) (e3 := e3) (cap := cap) hcars)
  have HB1 := Lib.hid (below_of_new (hb1.mono (by simp)))
  have h1z : w.heap.size ≤ w1.heap.size := HB1.out.size
  have HL1 := Lib.hid ((HL.out.below ((Below.refl _ _).alloc (Nat.le_refl _) (.cells #[.float .f64 t0, .float .f64 t1, .float .f64 t2] 26))).below hb1)
  clear hcars hb1
  by_cases hlen : 300 < l.length
  · go_wp2_with fail
    refine (FSN.out _).mono ?_
    rintro e w2 ⟨rfl, hb2⟩
    go_wp2_with fail
    go_ret
    exact ⟨rfl, HB1.out.trans (((Below.refl _ _).alloc (Nat.le_refl _) _).trans (hb2.mono (by simp)) |>.mono h1z)⟩
  · go_wp2_with fail
    refine (FR.out A cap _ HBX.out.cars (by omega) (HL1.out.below ((Below.refl _ _).alloc (Nat.le_refl _) _))).mono ?_
    rintro e w2 ⟨rfl, hrow, hb2⟩
    have HBX2 := Lib.hid (HBX.out.below hb2)
    have HL2 := Lib.hid ((HL1.out.below ((Below.refl _ _).alloc (Nat.le_refl _) _)).below hb2)
    have hrow' : w2.heap[w1.heap.size + 3]? = some (.cells (nums O).toArray 3 (0, 0)) := by simpa using hrow
    have HROW := Lib.hid hrow'
    have HB2 := Lib.hid (HB1.out.trans ((((Below.refl w1.heap.size w1).alloc (Nat.le_refl _) _).trans (hb2.mono (by simp))).mono h1z))
    have h3z : w1.heap.size + 3 < w2.heap.size := by
      rcases Nat.lt_or_ge (w1.heap.size + 3) w2.heap.size with h | h
      · exact h
      · rw [Array.getElem?_eq_none h] at hrow'; cases hrow'
    clear hrow hrow' hb2 HBX HL1 HL HB1 FB FR
    go_wp2_with fail
    go_loopw [7, 8] (fun c i wr => ∃ k : Nat, k ≤ l.length ∧ c = .int .i64 (RF k) ∧ i = .int .i64 k ∧ Below w2.heap.size w2 wr) (fun _ i _ => l.length - (intOf i).toNat)
    case atStart => exact ⟨0, Nat.zero_le _, by rw [HR0.out], rfl, Below.refl _ _⟩
    case round =>
      obtain ⟨k, hk, rfl, rfl, hbw⟩ := hrel
      by_cases hlt : k < l.length
      · obtain ⟨g, off, rfl, hgb, hx⟩ := (HL2.out.below hbw).flt hlt
        have hj : wr.cell? ⟨w1.heap.size + 3, k, none⟩ = some (.int .i64 (RF (k + 1))) := by
          rw [cell_of_row _ _ _ _ _ (0, 0) ((hbw.block _ h3z).trans HROW.out), List.getElem?_toArray]
          unfold nums
          rw [List.getElem?_map, HA.out k hlt]
          rfl
        have hstp := HT.out k hlt
        generalize l[k] = x at *
        have hfx := FF.out (RF k) x (HRG.out k).1 (HRG.out k).2
        have hzx : RF k = 0 → CL x = RF (k + 1) := fun h => by rw [hstp, h]; exact (HZ.out x).symm
        rw [← hstp] at hfx
        have hrg0 := (HRG.out k).1
        have HZX := Lib.hid hzx
        have HNE := Lib.hid (ne_self x)
        have HBR := Lib.hid (HBX2.out.below hbw)
        have HBW := Lib.hid hbw
        have HRS := Lib.hid (show Hid (RF (k + 1) = RF (k + 1)) from rfl)
        obtain ⟨SN, hSN⟩ : ∃ SN, SN = RF (k + 1) := ⟨_, rfl⟩
        have HSN := Lib.hid hSN
        simp only [← hSN] at hfx hj HZX
        obtain ⟨LA, hLA⟩ : ∃ LA, LA = RF k := ⟨_, rfl⟩
        simp only [← hLA] at hfx hrg0 HZX
        rw [← hLA]
        clear hSN hLA hstp hzx hbw HRS
        have hkz : w1.heap.size + 3 < wr.heap.size := Nat.lt_of_lt_of_le h3z HBW.out.size
        have HJ := Lib.hid (fun wx (h : Below wr.heap.size wr wx) => (h.cell (p := ⟨w1.heap.size + 3, k, none⟩) hkz).trans hj)
        have hcase : LA = 0 ∨ ¬ LA = 0 := by omega
        have hcases : ∃ n1 n2 q1 q2 q3 : Bool, (FloatKind.f64.format.order x x != some .eq) = n1 ∧ (n1 = false → (FloatKind.f64.format.order x 0 == some .lt) = n2) ∧ ((SN = 0 ∧ (n1 = true ∨ (n1 = false ∧ n2 = true))) ∨ (n1 = false ∧ n2 = false ∧ 0 < SN ∧ (¬ LA < SN ∨ LA < SN ∧ (SN = 1 ∨ SN = 2 ∧ (FloatKind.f64.format.order x e1 == some .lt) = false ∨ SN = 3 ∧ (FloatKind.f64.format.order x e2 == some .lt) = false ∨ SN = 4 ∧ (FloatKind.f64.format.order x e3 == some .lt) = false)))) := by
          rw [HNE.out]
          rcases hfx with ⟨h1, h2⟩ | ⟨h1, h2, h3⟩ | ⟨h1, h2, h3, h4⟩
          · exact ⟨true, true, true, true, true, h2, by simp, .inl ⟨h1, .inl rfl⟩⟩
          · exact ⟨false, true, true, true, true, h2, fun _ => h3, .inl ⟨h1, .inr ⟨rfl, rfl⟩⟩⟩
          · refine ⟨false, false, true, true, true, h1, fun _ => h2, .inr ⟨rfl, rfl, h3, ?_⟩⟩
            by_cases h : LA < SN
            · exact .inr ⟨h, h4 h⟩
            · exact .inl h
        obtain ⟨n1, n2, -, -, -, hn1, hn2, hcs⟩ := hcases
        clear hfx HNE
        rcases hcase with hla | hla
        all_goals
          rcases hcs with ⟨hs0, hn | ⟨hn, hm⟩⟩ | ⟨hn, hm, hs0, hq | ⟨hq, hs | ⟨hs, hq2⟩ | ⟨hs, hq2⟩ | ⟨hs, hq2⟩⟩⟩
          all_goals try (exfalso; omega)
          all_goals
            try have hx0 := hn2 hn
            clear hn2
            try subst hm
            subst hn
            try subst hs0
            try subst hs
            try subst hla
            try have hcx := HZX.out rfl
            try have hb1 : (LA == (0 : Int)) = false := by simp [hla]
            try have hb2 : decide (LA = 0) = false := by simp [hla]
            obtain ⟨c0, c1, c2, c3, c4, c5, c6, c7⟩ := HBR.out.cells
            go_wp2_with fail
            refine Bag.region (fun wx => Below wr.heap.size wr wx) (by kernel_rfl) (by kernel_rfl) (Below.refl _ _).drew ?_
            iterate 12 (first
                | (apply Bag.walk_yes (by rfl)
                   (intro wx hx K hK
                    have hj2 := HJ.out wx hx
                    obtain ⟨c0, c1, c2, c3, c4, c5, c6, c7⟩ := (HBR.out.below hx).cells
                    first
                      | (go_simp
                         first
                          | (go_at_call 11; (with_reducible refine (FC.out A cap x wx (HBR.out.below hx).cars).mono ?_); rintro e w' ⟨rfl, hb⟩; exact hK _ (hx.trans (hb.mono hx.size)))
                          | (go_at_K; exact hK _ hx)))
                   rfl)
                | (refine Bag.walk_no (by rfl) ?_; simp only [Act.put, List.setIfInBounds_toArray, List.set_cons_succ, List.set_cons_zero]))
            refine Bag.walk_nil (fun w4 hB4 => ?_)
            have hj2 := HJ.out w4 hB4
            clear hj
            go_wp2_with fail
            go_roundw
            case rel => exact ⟨k + 1, by omega, by rw [← HSN.out], by go_num, HBW.out.trans (hB4.mono HBW.out.size)⟩
            case measure => simp [intOf]; omega
      · obtain rfl : k = l.length := by omega
        have HBW := Lib.hid hbw
        clear hbw
        go_wp2_with fail
        refine (FSN.out _).mono ?_
        rintro e w3 ⟨rfl, hb3⟩
        go_wp2_with fail
        go_ret
        exact ⟨rfl, HB2.out.trans ((HBW.out.trans (hb3.mono HBW.out.size)).mono HB2.out.size)⟩
set_option maxRecDepth 100000 in
theorem lawLoadRises_lifted (os : Os) (started : os.Started) (H : Type) (enc : TypeId × Value → H) :
    ReturnsInHanded {} Try.checked os 6 .any (Rows.loadRisesSpec.pre6 enc Try.prog Try.f6 Rows.loadRisesRow.domain false) (Rows.loadRisesSpec.post enc Try.prog Try.f6 false true false false) := by
  refine returnsInHanded_of_change (C := Try.checked) own started (by kernel_rfl) Try.func6
    (ChangeSpec.witness6 (enc := enc) (C := Try.checked) false ⟨#[], #[.slice none 0 0, .agg #[.float .f64 0, .float .f64 0, .float .f64 0]], []⟩ 8 (by kernel_rfl) (by kernel_rfl) (by kernel_rfl) (by kernel_rfl)) ?_
  intro W base args ds gs before hval0 hW hcnd _
  have hval : ∀ (j : Nat) t v, Try.f6.params[j]? = some t → args[j]? = some v → Value.okWide Try.prog W .any base t v := hval0
  have hW' := hW
  obtain ⟨p, q, hA0, hV, rfl, hfz, hnd⟩ := hW
  have hA : DataW.TrodAll enc Try.prog W 0 (fun _ => true) true Try.f6.params.toList args.toList ds p := hA0
  rw [Try.params6] at hA hval
  obtain ⟨v0, vs0, d0, ds0, p0, q0, hargs, rfl, rfl, h0, r0⟩ := trodAll_cons hA
  obtain ⟨v1, vs1, d1, ds1, p1, q1, rfl, rfl, rfl, h1, r1⟩ := trodAll_cons r0
  obtain ⟨rfl, rfl, rfl⟩ := trodAll_nil r1
  obtain rfl : args = #[v0, v1] := by cases args; simp_all
  obtain ⟨rfl, rfl⟩ := trodVars_none hV
  have k0 := h0
  have lt0 : ∀ x ∈ p0, x.block < W.heap.size := by obtain ⟨m, hm⟩ := k0; exact DataW.trod_lt m _ _ _ hm
  obtain ⟨a0, l0, c0, rfl⟩ := okWide_slice Try.underlying29 (hval 0 29 v0 rfl rfl)
  obtain ⟨fuel0, hf0⟩ := h0
  obtain ⟨x0, g0, m0⟩ := open_flts hf0
  have k1 := h1
  have lt1 : ∀ x ∈ p1, x.block < W.heap.size := by obtain ⟨m, hm⟩ := k1; exact DataW.trod_lt m _ _ _ hm
  obtain ⟨x1, y1, z1, rfl⟩ := open_af3 (hval 1 26 v1 rfl rfl) h1
  clear hA0 hval0
  refine (lawLoadRises_walk _ x0 x1 y1 z1 W g0 m0).mono fun e W' ⟨he, bel⟩ => ?_
  subst he
  exact ⟨_, rfl, _, _, _, [], _, [], hW', trodAll_mk1 (shut_bool Try.underlying4 _), (trodAll_cons_mk (Below.trod laidOut (by kernel_rfl) (of_decide_eq_true (by kernel_rfl)) k0 bel lt0) (trodAll_cons_mk (Below.trod laidOut (by kernel_rfl) (of_decide_eq_true (by kernel_rfl)) k1 bel lt1) trodAll_mk0)), rfl, bel.frame _, fun h => by cases h⟩

theorem lawLoadRises_over : Rows.loadRisesRow.holds Try.pinned (OpenSpec.ofChange Rows.loadRisesSpec) :=
  OpenClaim.holds_of_wide 6 Try.f6 rfl rfl rfl rfl rfl rfl rfl ⟨rfl, rfl, rfl, rfl, rfl⟩ rfl rfl rfl rfl rfl (by kernel_rfl) Try.func6 (by kernel_rfl)
    (of_decide_eq_true (by kernel_rfl)) (by unfold Func.isWrapper; first | (rw [if_pos (by decide +kernel)]; kernel_rfl) | (rw [if_neg (by decide +kernel)]; exact ⟨rfl, rfl⟩))
    (fun os started H enc _ => lawLoadRises_lifted os started H enc)

theorem loadRises_holds : Rows.LoadRisesSaid := lawLoadRises_over
#print axioms loadRises_holds
end Go.Proofs.Ytaiciopfinlpiaa
