/- The law LoadRuns: the classes behind some loads, and that there are none for too many. No condition. -/
import Derived.Test.YtaiciopfinlpiaaLdPack
namespace Go.Proofs.Ytaiciopfinlpiaa
open Go.RowKit Go.ChangeShapes Go.WideShapes Go.ChangeAt

theorem u8_rem {x : Int} (h : (Lit.int .u8 x).wf = true) : ∃ m : Nat, m < 3 ∧ x.tmod 3 = (m : Int) ∧ 0 ≤ x ∧ x < 256 := by
  simp [Lit.wf, IntKind.min, IntKind.max, IntKind.bits, IntKind.signed] at h
  refine ⟨(x % 3).toNat, by omega, ?_, h.1, by omega⟩
  rw [Int.tmod_eq_emod_of_nonneg h.1]
  omega
/-- What Run gives for so many loads of nought. -/
def longF (b : BldD) (K : Nat) : List Int := if K ≤ 5000 then outsF b 0 (List.replicate K 0) else []
theorem longF_len (b : BldD) (K : Nat) : (longF b K).length = if K ≤ 5000 then K else 0 := by
  unfold longF
  split
  · rw [outsF_len, List.length_replicate]
  · rfl
theorem run_zeros (b : BldD) (A : Option Addr) (cap K : Nat) (v : Value) (w : World) (hn : b.cars.length ≤ 140737488355328) (hc : CarsAt w w.heap.size A b.cars) (hK : K ≤ 5001) (hL : VV w v (flts (List.replicate K 0))) :
    Calls Try.prog 15 #[b.agg A cap, .agg #[.int .i64 0], v] w fun e w' => ∃ u, e = .returned u ∧ VV w' u (nums (longF b K)) ∧ Below w.heap.size w w' := by
  unfold longF
  by_cases h : K ≤ 5000
  · rw [if_pos h]
    exact run_row b A cap 0 _ v w hn hc (by rw [List.length_replicate]; exact h) hL
  · rw [if_neg h]
    obtain ⟨L, lcap, rfl, -⟩ := hL
    rw [flts_len, List.length_replicate]
    exact (run_long b A L cap K lcap 0 w (by omega) (by omega)).mono fun e w' h => ⟨_, h.1, ⟨none, 0, rfl, .inl rfl⟩, h.2⟩

set_option maxHeartbeats 8000000 in
theorem lawLoadRuns_walk (v : Value) (l : List Nat) (t0 t1 t2 : Nat) (n : Int) (w : World) (hv : VV w v (flts l)) (hmax : l.length ≤ maxLen) (hn : (Lit.int .u8 n).wf = true) :
    Calls Try.prog 5 #[v, .agg #[.float .f64 t0, .float .f64 t1, .float .f64 t2], .int .u8 n] w fun e w' => e = .returned (.bool true) ∧ Below w.heap.size w w' := by
  unfold maxLen at hmax
  have HV := Lib.hid hv
  obtain ⟨LAd, lcap, rfl, hL⟩ := hv
  rw [flts_len] at HV ⊢
  clear hL
  obtain ⟨m, hm3, hmod, hn0, hn1⟩ := u8_rem hn
  clear hn
  have FSN := Lib.hid (fun wx => sane_any wx)
  have hcl : (bldD t0 t1 t2).cars.length ≤ 140737488355328 := by
    unfold bldD
    split <;> simp [bldX, sampleCars_length]
  have hB := bld_any t0 t1 t2
  have hR := fun A cap u wx (h : CarsAt wx wx.heap.size A (bldD t0 t1 t2).cars) (hl : l.length ≤ 5000) (hA : VV wx u (flts l)) => run_row (bldD t0 t1 t2) A cap 0 l u wx hcl h hl hA
  have hR2 := fun A cap u wx (h : CarsAt wx wx.heap.size A (bldD t0 t1 t2).cars) (hl : l.length ≤ 5000) (hA : VV wx u (flts l)) => refRun_row (bldD t0 t1 t2) A cap 0 l u wx hcl h hl hA
  have hZ := fun A cap u wx (h : CarsAt wx wx.heap.size A (bldD t0 t1 t2).cars) (hA : VV wx u (flts (List.replicate (4999 + m) 0))) => run_zeros (bldD t0 t1 t2) A cap (4999 + m) u wx hcl h (by omega) hA
  have hol := outsF_len (bldD t0 t1 t2) 0 l
  have hll := longF_len (bldD t0 t1 t2) (4999 + m)
  have hmk := make_flts (4999 + m) (by omega)
  generalize bldD t0 t1 t2 = b at *
  generalize outsF b 0 l = O at *
  generalize longF b (4999 + m) = LO at *
  have FB := Lib.hid hB
  have FR := Lib.hid hR
  have FR2 := Lib.hid hR2
  have FZ := Lib.hid hZ
  clear hB hR hR2 hZ hcl
  obtain ⟨f, d, r, p, e1, e2, e3, cs⟩ := b
  simp only [BldD.agg] at FB FR FR2 FZ
  have hk1 : (5000 : Int) + (m : Int) - 1 = ((4999 + m : Nat) : Int) := by omega
  go_enter Try.func5, Try.ntmps5
  go_wp2_with fail
  refine (FB.out _).mono ?_
  rintro e w1 ⟨A, cap, rfl, hcars, hb1⟩
  have HBX := Lib.hid (BX.new (f := f) (d := d) (r := r) (p := p) (e1 := e1) (e2 := e2) (e3 := e3) (cap := cap) hcars)
  have HB1 := Lib.hid (below_of_new (hb1.mono (by simp)))
  have h1z : w.heap.size ≤ w1.heap.size := HB1.out.size
  have HV1 := Lib.hid (((HV.out.below ((Below.refl _ _).alloc (Nat.le_refl _) (.cells #[.float .f64 t0, .float .f64 t1, .float .f64 t2] 26))).below hb1).below ((Below.refl _ _).alloc (Nat.le_refl _) (.cells #[.int .i64 f, .int .i64 d, .int .i64 r, .int .i64 p, .float .f64 e1, .float .f64 e2, .float .f64 e3, .slice A cs.length cap] 25)))
  clear hcars hb1
  have hgz : w1.heap.size < (w1.alloc (.cells #[.int .i64 f, .int .i64 d, .int .i64 r, .int .i64 p, .float .f64 e1, .float .f64 e2, .float .f64 e3, .slice A cs.length cap] 25)).heap.size := by simp
  have HBW := Lib.hid (HB1.out.trans (((Below.refl w1.heap.size w1).alloc (Nat.le_refl _) (.cells #[.int .i64 f, .int .i64 d, .int .i64 r, .int .i64 p, .float .f64 e1, .float .f64 e2, .float .f64 e3, .slice A cs.length cap] 25)).mono h1z))
  have hwz : w.heap.size ≤ (w1.alloc (.cells #[.int .i64 f, .int .i64 d, .int .i64 r, .int .i64 p, .float .f64 e1, .float .f64 e2, .float .f64 e3, .slice A cs.length cap] 25)).heap.size := HBW.out.size
  obtain ⟨KN, hK⟩ : ∃ KN, KN = 4999 + m := ⟨_, rfl⟩
  rw [← hK] at FZ hll hmk
  have hKi : (5000 : Int) + (m : Int) - 1 = (KN : Int) := by omega
  have hKb : 4999 ≤ KN ∧ KN ≤ 5001 := by omega
  have HKI := Lib.hid hKi
  clear hK hKi hk1
  have HMK := Lib.hid hmk
  clear hmk
  go_wp2_with fail
  generalize w1.alloc (.cells #[.int .i64 f, .int .i64 d, .int .i64 r, .int .i64 p, .float .f64 e1, .float .f64 e2, .float .f64 e3, .slice A cs.length cap] 25) = W at *
  rw [HKI.out]
  have HVR := Lib.hid (fun wx : World => (vv_row (heap_alloc_new wx (.cells (flts (List.replicate KN 0)).toArray 22)) (by rw [flts_len, List.length_replicate]) : VV (wx.alloc (.cells (flts (List.replicate KN 0)).toArray 22)) (.slice (some ⟨wx.heap.size, 0, none⟩) KN KN) (flts (List.replicate KN 0))))
  refine GhostV.ghost (fun γ L wx => GV (W) [(3, flts (List.replicate KN 0)), (4, nums LO), (5, nums LO)] γ L wx) (by kernel_rfl) (by kernel_rfl) (fun γ => GV.start _ _ γ) ?_
  apply GhostV.walk_const (fun γ => by rfl)
  · intro γ L wx h1 h2 hx K hK
    obtain ⟨c0, c1, c2, c3, c4, c5, c6, c7⟩ := (HBX.out.below hx.below).cells
    have hmk := HMK.out
    have HK2 := Lib.hid hK
    have HX := Lib.hid hx
    have H2 := Lib.hid h2
    clear hK h1 h2 hx
    go_simp
    first
      | exact HK2.out _ (HX.out.next _ (by rfl) (Below.refl _ _))
  try simp only [Act.put, List.setIfInBounds_toArray, List.set_cons_succ, List.set_cons_zero]
  apply GhostV.walk_const (fun γ => by rfl)
  · intro γ L wx h1 h2 hx K hK
    obtain ⟨c0, c1, c2, c3, c4, c5, c6, c7⟩ := (HBX.out.below hx.below).cells
    have hmk := HMK.out
    have HK2 := Lib.hid hK
    have HX := Lib.hid hx
    have H2 := Lib.hid h2
    clear hK h1 h2 hx
    go_simp
    first
      | exact HK2.out _ (HX.out.next _ (by rfl) (Below.refl _ _))
  try simp only [Act.put, List.setIfInBounds_toArray, List.set_cons_succ, List.set_cons_zero]
  apply GhostV.walk_const (fun γ => by rfl)
  · intro γ L wx h1 h2 hx K hK
    obtain ⟨c0, c1, c2, c3, c4, c5, c6, c7⟩ := (HBX.out.below hx.below).cells
    have hmk := HMK.out
    have HK2 := Lib.hid hK
    have HX := Lib.hid hx
    have H2 := Lib.hid h2
    clear hK h1 h2 hx
    go_simp
    first
      | exact HK2.out _ (HX.out.next _ (by rfl) (Below.refl _ _))
  try simp only [Act.put, List.setIfInBounds_toArray, List.set_cons_succ, List.set_cons_zero]
  refine GhostV.walk_yes (fun b => b) (fun γ => by rfl) ?_ ?_
  · intro γ L wx h1 h2 hx K hK
    obtain ⟨c0, c1, c2, c3, c4, c5, c6, c7⟩ := (HBX.out.below hx.below).cells
    have hmk := HMK.out
    have HK2 := Lib.hid hK
    have HX := Lib.hid hx
    have H2 := Lib.hid h2
    clear hK h1 h2 hx
    go_simp
    (exact HK2.out _ _ (HX.out.make (by simp only [List.mem_cons, List.not_mem_nil, or_false]; rintro d (rfl | rfl | rfl) h; (· exact HVR.out _); (· cases h); (· cases h)) ((Below.refl _ _).alloc (Nat.le_refl _) _)))
  try simp only [Act.put, List.setIfInBounds_toArray, List.set_cons_succ, List.set_cons_zero]
  refine GhostV.walk_yes (fun b => b) (fun γ => by rfl) ?_ ?_
  · intro γ L wx h1 h2 hx K hK
    obtain ⟨c0, c1, c2, c3, c4, c5, c6, c7⟩ := (HBX.out.below hx.below).cells
    have hmk := HMK.out
    have HK2 := Lib.hid hK
    have HX := Lib.hid hx
    have H2 := Lib.hid h2
    clear hK h1 h2 hx
    go_simp
    (go_at_call 15; refine (FZ.out A cap (γ 3) wx (HBX.out.below HX.out.below).cars (HX.out.row (3, flts (List.replicate KN 0)) (by simp) (H2.out 3 (by kernel_rfl)))).mono ?_; rintro e w' ⟨u, rfl, hu, hb⟩; exact HK2.out _ _ (HX.out.make (by simp only [List.mem_cons, List.not_mem_nil, or_false]; rintro d (rfl | rfl | rfl) h; (· cases h); (· exact hu); (· cases h)) hb))
  try simp only [Act.put, List.setIfInBounds_toArray, List.set_cons_succ, List.set_cons_zero]
  refine GhostV.walk_yes (fun b => b) (fun γ => by rfl) ?_ ?_
  · intro γ L wx h1 h2 hx K hK
    obtain ⟨c0, c1, c2, c3, c4, c5, c6, c7⟩ := (HBX.out.below hx.below).cells
    have hmk := HMK.out
    have HK2 := Lib.hid hK
    have HX := Lib.hid hx
    have H2 := Lib.hid h2
    clear hK h1 h2 hx
    go_simp
    (exact HK2.out _ _ (HX.out.make (by simp only [List.mem_cons, List.not_mem_nil, or_false]; rintro d (rfl | rfl | rfl) h; (· cases h); (· cases h); (· exact HX.out.row (4, nums LO) (by simp) (H2.out 4 (by kernel_rfl)))) (Below.refl _ _)))
  try simp only [Act.put, List.setIfInBounds_toArray, List.set_cons_succ, List.set_cons_zero]
  refine GhostV.walk_nil (fun γ L w2 hall hG => ?_)
  obtain ⟨A5, c5, h5, -⟩ := hG.row (5, nums LO) (by simp) (hall 5 (by decide))
  have h5' : γ (0 + 1 + 1 + 1 + 1 + 1) = .slice A5 LO.length c5 := by rw [← nums_len]; exact h5
  have HB2 := Lib.hid hG.below
  rw [h5']
  generalize γ (0 + 1 + 1 + 1) = v3 at *
  generalize γ (0 + 1 + 1 + 1 + 1) = v4 at *
  clear h5 h5' hall hG
  have HBX2 := Lib.hid (HBX.out.below HB2.out)
  have HV2 := Lib.hid (HV1.out.below HB2.out)
  have HBW2 := Lib.hid (HBW.out.trans (HB2.out.mono hwz))
  have hw2 := HBW2.out.size
  have hz : (((LO.length : Nat) : Int) = 0 ↔ ¬ KN ≤ 5000) ∧ (KN ≤ 5000 → ((LO.length : Nat) : Int) = (KN : Int)) := by
    rw [hll]
    split <;> omega
  have HKK : (KN ≤ 5000 ∧ (KN : Int) ≤ 5000 ∧ ¬ (5000 < (KN : Int)) ∧ ((LO.length : Nat) : Int) = (KN : Int) ∧ ¬ ((KN : Int) = 0)) ∨ (¬ KN ≤ 5000 ∧ 5000 < (KN : Int) ∧ ¬ ((KN : Int) ≤ 5000) ∧ ((LO.length : Nat) : Int) = 0) := by
    by_cases h : KN ≤ 5000
    · exact .inl ⟨h, by omega, by omega, hz.2 h, by omega⟩
    · exact .inr ⟨h, by omega, by omega, hz.1.2 h⟩
  clear hz hll
  generalize LO.length = ln at *
  have hfin : True := trivial
  rcases HKK with ⟨-, hk1, hk2, hk3, hk4⟩ | ⟨-, hk1, hk2, hk3⟩
  all_goals
    by_cases hlen : 300 < l.length
    · have hli : (300 : Int) < (l.length : Int) := by omega
      go_wp2_with fail
      refine Bag.region (fun wx => Below w2.heap.size w2 wx) (by kernel_rfl) (by kernel_rfl) (Below.refl _ _).drew ?_
      iterate 18 (first
          | (apply Bag.walk_yes (by rfl)
             (intro wx hx K hK
              have hli2 := hli
              first
                | (go_simp
                   first
                    | (go_at_K; exact hK _ hx)))
             rfl)
          | (refine Bag.walk_no (by rfl) ?_; simp only [Act.put, List.setIfInBounds_toArray, List.set_cons_succ, List.set_cons_zero]))
      refine Bag.walk_nil (fun w4 hB4 => ?_)
      go_wp2_with fail
      go_ret
      exact ⟨rfl, HBW2.out.trans (hB4.mono hw2)⟩
    · have hli : ¬ (300 : Int) < (l.length : Int) := by omega
      have hdl : decide ((300 : Int) < (l.length : Int)) = false := decide_eq_false hli
      have hO : O.length ≤ 1000000 := by omega
      have FSM := Lib.hid (fun u1 u2 wx h1 h2 => by
        have h := same_any O O u1 u2 wx h1 h2 hO hO
        rw [show decide (O = O) = true from by simp] at h
        exact h)
      go_wp2_with fail
      refine GhostV.ghost (fun γ L wx => GV (w2) [(7, nums O), (11, nums O)] γ L wx) (by kernel_rfl) (by kernel_rfl) (fun γ => GV.start _ _ γ) ?_
      apply GhostV.walk_const (fun γ => by rfl)
      · intro γ L wx h1 h2 hx K hK
        obtain ⟨c0, c1, c2, c3, c4, c5, c6, c7⟩ := (HBX2.out.below hx.below).cells
        have HK2 := Lib.hid hK
        have HX := Lib.hid hx
        have H2 := Lib.hid h2
        clear hK h1 h2 hx
        go_simp
        first
          | (go_at_call 16; refine (FSM.out (γ 7) (γ 11) wx (HX.out.row (7, nums O) (by simp) (H2.out 7 (by kernel_rfl))) (HX.out.row (11, nums O) (by simp) (H2.out 11 (by kernel_rfl)))).mono ?_; rintro e w' ⟨rfl, hb⟩; exact HK2.out _ (HX.out.next _ (by rfl) hb))
          | (go_at_call 8; refine (FSN.out wx).mono ?_; rintro e w' ⟨rfl, hb⟩; exact HK2.out _ (HX.out.next _ (by rfl) hb))
          | exact HK2.out _ (HX.out.next _ (by rfl) (Below.refl _ _))
      try simp only [Act.put, List.setIfInBounds_toArray, List.set_cons_succ, List.set_cons_zero]
      apply GhostV.walk_const (fun γ => by rfl)
      · intro γ L wx h1 h2 hx K hK
        obtain ⟨c0, c1, c2, c3, c4, c5, c6, c7⟩ := (HBX2.out.below hx.below).cells
        have HK2 := Lib.hid hK
        have HX := Lib.hid hx
        have H2 := Lib.hid h2
        clear hK h1 h2 hx
        go_simp
        first
          | (go_at_call 16; refine (FSM.out (γ 7) (γ 11) wx (HX.out.row (7, nums O) (by simp) (H2.out 7 (by kernel_rfl))) (HX.out.row (11, nums O) (by simp) (H2.out 11 (by kernel_rfl)))).mono ?_; rintro e w' ⟨rfl, hb⟩; exact HK2.out _ (HX.out.next _ (by rfl) hb))
          | (go_at_call 8; refine (FSN.out wx).mono ?_; rintro e w' ⟨rfl, hb⟩; exact HK2.out _ (HX.out.next _ (by rfl) hb))
          | exact HK2.out _ (HX.out.next _ (by rfl) (Below.refl _ _))
      try simp only [Act.put, List.setIfInBounds_toArray, List.set_cons_succ, List.set_cons_zero]
      apply GhostV.walk_const (fun γ => by rfl)
      · intro γ L wx h1 h2 hx K hK
        obtain ⟨c0, c1, c2, c3, c4, c5, c6, c7⟩ := (HBX2.out.below hx.below).cells
        have HK2 := Lib.hid hK
        have HX := Lib.hid hx
        have H2 := Lib.hid h2
        clear hK h1 h2 hx
        go_simp
        first
          | (go_at_call 16; refine (FSM.out (γ 7) (γ 11) wx (HX.out.row (7, nums O) (by simp) (H2.out 7 (by kernel_rfl))) (HX.out.row (11, nums O) (by simp) (H2.out 11 (by kernel_rfl)))).mono ?_; rintro e w' ⟨rfl, hb⟩; exact HK2.out _ (HX.out.next _ (by rfl) hb))
          | (go_at_call 8; refine (FSN.out wx).mono ?_; rintro e w' ⟨rfl, hb⟩; exact HK2.out _ (HX.out.next _ (by rfl) hb))
          | exact HK2.out _ (HX.out.next _ (by rfl) (Below.refl _ _))
      try simp only [Act.put, List.setIfInBounds_toArray, List.set_cons_succ, List.set_cons_zero]
      apply GhostV.walk_const (fun γ => by rfl)
      · intro γ L wx h1 h2 hx K hK
        obtain ⟨c0, c1, c2, c3, c4, c5, c6, c7⟩ := (HBX2.out.below hx.below).cells
        have HK2 := Lib.hid hK
        have HX := Lib.hid hx
        have H2 := Lib.hid h2
        clear hK h1 h2 hx
        go_simp
        first
          | (go_at_call 16; refine (FSM.out (γ 7) (γ 11) wx (HX.out.row (7, nums O) (by simp) (H2.out 7 (by kernel_rfl))) (HX.out.row (11, nums O) (by simp) (H2.out 11 (by kernel_rfl)))).mono ?_; rintro e w' ⟨rfl, hb⟩; exact HK2.out _ (HX.out.next _ (by rfl) hb))
          | (go_at_call 8; refine (FSN.out wx).mono ?_; rintro e w' ⟨rfl, hb⟩; exact HK2.out _ (HX.out.next _ (by rfl) hb))
          | exact HK2.out _ (HX.out.next _ (by rfl) (Below.refl _ _))
      try simp only [Act.put, List.setIfInBounds_toArray, List.set_cons_succ, List.set_cons_zero]
      apply GhostV.walk_const (fun γ => by rfl)
      · intro γ L wx h1 h2 hx K hK
        obtain ⟨c0, c1, c2, c3, c4, c5, c6, c7⟩ := (HBX2.out.below hx.below).cells
        have HK2 := Lib.hid hK
        have HX := Lib.hid hx
        have H2 := Lib.hid h2
        clear hK h1 h2 hx
        go_simp
        first
          | (go_at_call 16; refine (FSM.out (γ 7) (γ 11) wx (HX.out.row (7, nums O) (by simp) (H2.out 7 (by kernel_rfl))) (HX.out.row (11, nums O) (by simp) (H2.out 11 (by kernel_rfl)))).mono ?_; rintro e w' ⟨rfl, hb⟩; exact HK2.out _ (HX.out.next _ (by rfl) hb))
          | (go_at_call 8; refine (FSN.out wx).mono ?_; rintro e w' ⟨rfl, hb⟩; exact HK2.out _ (HX.out.next _ (by rfl) hb))
          | exact HK2.out _ (HX.out.next _ (by rfl) (Below.refl _ _))
      try simp only [Act.put, List.setIfInBounds_toArray, List.set_cons_succ, List.set_cons_zero]
      apply GhostV.walk_const (fun γ => by rfl)
      · intro γ L wx h1 h2 hx K hK
        obtain ⟨c0, c1, c2, c3, c4, c5, c6, c7⟩ := (HBX2.out.below hx.below).cells
        have HK2 := Lib.hid hK
        have HX := Lib.hid hx
        have H2 := Lib.hid h2
        clear hK h1 h2 hx
        go_simp
        first
          | (go_at_call 16; refine (FSM.out (γ 7) (γ 11) wx (HX.out.row (7, nums O) (by simp) (H2.out 7 (by kernel_rfl))) (HX.out.row (11, nums O) (by simp) (H2.out 11 (by kernel_rfl)))).mono ?_; rintro e w' ⟨rfl, hb⟩; exact HK2.out _ (HX.out.next _ (by rfl) hb))
          | (go_at_call 8; refine (FSN.out wx).mono ?_; rintro e w' ⟨rfl, hb⟩; exact HK2.out _ (HX.out.next _ (by rfl) hb))
          | exact HK2.out _ (HX.out.next _ (by rfl) (Below.refl _ _))
      try simp only [Act.put, List.setIfInBounds_toArray, List.set_cons_succ, List.set_cons_zero]
      apply GhostV.walk_const (fun γ => by rfl)
      · intro γ L wx h1 h2 hx K hK
        obtain ⟨c0, c1, c2, c3, c4, c5, c6, c7⟩ := (HBX2.out.below hx.below).cells
        have HK2 := Lib.hid hK
        have HX := Lib.hid hx
        have H2 := Lib.hid h2
        clear hK h1 h2 hx
        go_simp
        first
          | (go_at_call 16; refine (FSM.out (γ 7) (γ 11) wx (HX.out.row (7, nums O) (by simp) (H2.out 7 (by kernel_rfl))) (HX.out.row (11, nums O) (by simp) (H2.out 11 (by kernel_rfl)))).mono ?_; rintro e w' ⟨rfl, hb⟩; exact HK2.out _ (HX.out.next _ (by rfl) hb))
          | (go_at_call 8; refine (FSN.out wx).mono ?_; rintro e w' ⟨rfl, hb⟩; exact HK2.out _ (HX.out.next _ (by rfl) hb))
          | exact HK2.out _ (HX.out.next _ (by rfl) (Below.refl _ _))
      try simp only [Act.put, List.setIfInBounds_toArray, List.set_cons_succ, List.set_cons_zero]
      refine GhostV.walk_yes (fun b => b) (fun γ => by rfl) ?_ ?_
      · intro γ L wx h1 h2 hx K hK
        obtain ⟨c0, c1, c2, c3, c4, c5, c6, c7⟩ := (HBX2.out.below hx.below).cells
        have HK2 := Lib.hid hK
        have HX := Lib.hid hx
        have H2 := Lib.hid h2
        clear hK h1 h2 hx
        go_simp
        (go_at_call 15; refine (FR.out A cap _ wx (HBX2.out.below HX.out.below).cars (by omega) (HV2.out.below HX.out.below)).mono ?_; rintro e w' ⟨u, rfl, hu, hb⟩; exact HK2.out _ _ (HX.out.make (by simp only [List.mem_cons, List.not_mem_nil, or_false]; rintro d (rfl | rfl) h; (· exact hu); (· cases h)) hb))
      try simp only [Act.put, List.setIfInBounds_toArray, List.set_cons_succ, List.set_cons_zero]
      apply GhostV.walk_const (fun γ => by rfl)
      · intro γ L wx h1 h2 hx K hK
        obtain ⟨c0, c1, c2, c3, c4, c5, c6, c7⟩ := (HBX2.out.below hx.below).cells
        have HK2 := Lib.hid hK
        have HX := Lib.hid hx
        have H2 := Lib.hid h2
        clear hK h1 h2 hx
        go_simp
        first
          | (go_at_call 16; refine (FSM.out (γ 7) (γ 11) wx (HX.out.row (7, nums O) (by simp) (H2.out 7 (by kernel_rfl))) (HX.out.row (11, nums O) (by simp) (H2.out 11 (by kernel_rfl)))).mono ?_; rintro e w' ⟨rfl, hb⟩; exact HK2.out _ (HX.out.next _ (by rfl) hb))
          | (go_at_call 8; refine (FSN.out wx).mono ?_; rintro e w' ⟨rfl, hb⟩; exact HK2.out _ (HX.out.next _ (by rfl) hb))
          | exact HK2.out _ (HX.out.next _ (by rfl) (Below.refl _ _))
      try simp only [Act.put, List.setIfInBounds_toArray, List.set_cons_succ, List.set_cons_zero]
      apply GhostV.walk_const (fun γ => by rfl)
      · intro γ L wx h1 h2 hx K hK
        obtain ⟨c0, c1, c2, c3, c4, c5, c6, c7⟩ := (HBX2.out.below hx.below).cells
        have HK2 := Lib.hid hK
        have HX := Lib.hid hx
        have H2 := Lib.hid h2
        clear hK h1 h2 hx
        go_simp
        first
          | (go_at_call 16; refine (FSM.out (γ 7) (γ 11) wx (HX.out.row (7, nums O) (by simp) (H2.out 7 (by kernel_rfl))) (HX.out.row (11, nums O) (by simp) (H2.out 11 (by kernel_rfl)))).mono ?_; rintro e w' ⟨rfl, hb⟩; exact HK2.out _ (HX.out.next _ (by rfl) hb))
          | (go_at_call 8; refine (FSN.out wx).mono ?_; rintro e w' ⟨rfl, hb⟩; exact HK2.out _ (HX.out.next _ (by rfl) hb))
          | exact HK2.out _ (HX.out.next _ (by rfl) (Below.refl _ _))
      try simp only [Act.put, List.setIfInBounds_toArray, List.set_cons_succ, List.set_cons_zero]
      apply GhostV.walk_const (fun γ => by rfl)
      · intro γ L wx h1 h2 hx K hK
        obtain ⟨c0, c1, c2, c3, c4, c5, c6, c7⟩ := (HBX2.out.below hx.below).cells
        have HK2 := Lib.hid hK
        have HX := Lib.hid hx
        have H2 := Lib.hid h2
        clear hK h1 h2 hx
        go_simp
        first
          | (go_at_call 16; refine (FSM.out (γ 7) (γ 11) wx (HX.out.row (7, nums O) (by simp) (H2.out 7 (by kernel_rfl))) (HX.out.row (11, nums O) (by simp) (H2.out 11 (by kernel_rfl)))).mono ?_; rintro e w' ⟨rfl, hb⟩; exact HK2.out _ (HX.out.next _ (by rfl) hb))
          | (go_at_call 8; refine (FSN.out wx).mono ?_; rintro e w' ⟨rfl, hb⟩; exact HK2.out _ (HX.out.next _ (by rfl) hb))
          | exact HK2.out _ (HX.out.next _ (by rfl) (Below.refl _ _))
      try simp only [Act.put, List.setIfInBounds_toArray, List.set_cons_succ, List.set_cons_zero]
      refine GhostV.walk_yes (fun b => b) (fun γ => by rfl) ?_ ?_
      · intro γ L wx h1 h2 hx K hK
        obtain ⟨c0, c1, c2, c3, c4, c5, c6, c7⟩ := (HBX2.out.below hx.below).cells
        have HK2 := Lib.hid hK
        have HX := Lib.hid hx
        have H2 := Lib.hid h2
        clear hK h1 h2 hx
        go_simp
        (go_at_call 17; refine (FR2.out A cap _ wx (HBX2.out.below HX.out.below).cars (by omega) (HV2.out.below HX.out.below)).mono ?_; rintro e w' ⟨u, rfl, hu, hb⟩; exact HK2.out _ _ (HX.out.make (by simp only [List.mem_cons, List.not_mem_nil, or_false]; rintro d (rfl | rfl) h; (· cases h); (· exact hu)) hb))
      try simp only [Act.put, List.setIfInBounds_toArray, List.set_cons_succ, List.set_cons_zero]
      apply GhostV.walk_const (fun γ => by rfl)
      · intro γ L wx h1 h2 hx K hK
        obtain ⟨c0, c1, c2, c3, c4, c5, c6, c7⟩ := (HBX2.out.below hx.below).cells
        have HK2 := Lib.hid hK
        have HX := Lib.hid hx
        have H2 := Lib.hid h2
        clear hK h1 h2 hx
        go_simp
        first
          | (go_at_call 16; refine (FSM.out (γ 7) (γ 11) wx (HX.out.row (7, nums O) (by simp) (H2.out 7 (by kernel_rfl))) (HX.out.row (11, nums O) (by simp) (H2.out 11 (by kernel_rfl)))).mono ?_; rintro e w' ⟨rfl, hb⟩; exact HK2.out _ (HX.out.next _ (by rfl) hb))
          | (go_at_call 8; refine (FSN.out wx).mono ?_; rintro e w' ⟨rfl, hb⟩; exact HK2.out _ (HX.out.next _ (by rfl) hb))
          | exact HK2.out _ (HX.out.next _ (by rfl) (Below.refl _ _))
      try simp only [Act.put, List.setIfInBounds_toArray, List.set_cons_succ, List.set_cons_zero]
      apply GhostV.walk_const (fun γ => by rfl)
      · intro γ L wx h1 h2 hx K hK
        obtain ⟨c0, c1, c2, c3, c4, c5, c6, c7⟩ := (HBX2.out.below hx.below).cells
        have HK2 := Lib.hid hK
        have HX := Lib.hid hx
        have H2 := Lib.hid h2
        clear hK h1 h2 hx
        go_simp
        first
          | (go_at_call 16; refine (FSM.out (γ 7) (γ 11) wx (HX.out.row (7, nums O) (by simp) (H2.out 7 (by kernel_rfl))) (HX.out.row (11, nums O) (by simp) (H2.out 11 (by kernel_rfl)))).mono ?_; rintro e w' ⟨rfl, hb⟩; exact HK2.out _ (HX.out.next _ (by rfl) hb))
          | (go_at_call 8; refine (FSN.out wx).mono ?_; rintro e w' ⟨rfl, hb⟩; exact HK2.out _ (HX.out.next _ (by rfl) hb))
          | exact HK2.out _ (HX.out.next _ (by rfl) (Below.refl _ _))
      try simp only [Act.put, List.setIfInBounds_toArray, List.set_cons_succ, List.set_cons_zero]
      apply GhostV.walk_const (fun γ => by rfl)
      · intro γ L wx h1 h2 hx K hK
        obtain ⟨c0, c1, c2, c3, c4, c5, c6, c7⟩ := (HBX2.out.below hx.below).cells
        have HK2 := Lib.hid hK
        have HX := Lib.hid hx
        have H2 := Lib.hid h2
        clear hK h1 h2 hx
        go_simp
        first
          | (go_at_call 16; refine (FSM.out (γ 7) (γ 11) wx (HX.out.row (7, nums O) (by simp) (H2.out 7 (by kernel_rfl))) (HX.out.row (11, nums O) (by simp) (H2.out 11 (by kernel_rfl)))).mono ?_; rintro e w' ⟨rfl, hb⟩; exact HK2.out _ (HX.out.next _ (by rfl) hb))
          | (go_at_call 8; refine (FSN.out wx).mono ?_; rintro e w' ⟨rfl, hb⟩; exact HK2.out _ (HX.out.next _ (by rfl) hb))
          | exact HK2.out _ (HX.out.next _ (by rfl) (Below.refl _ _))
      try simp only [Act.put, List.setIfInBounds_toArray, List.set_cons_succ, List.set_cons_zero]
      apply GhostV.walk_const (fun γ => by rfl)
      · intro γ L wx h1 h2 hx K hK
        obtain ⟨c0, c1, c2, c3, c4, c5, c6, c7⟩ := (HBX2.out.below hx.below).cells
        have HK2 := Lib.hid hK
        have HX := Lib.hid hx
        have H2 := Lib.hid h2
        clear hK h1 h2 hx
        go_simp
        first
          | (go_at_call 16; refine (FSM.out (γ 7) (γ 11) wx (HX.out.row (7, nums O) (by simp) (H2.out 7 (by kernel_rfl))) (HX.out.row (11, nums O) (by simp) (H2.out 11 (by kernel_rfl)))).mono ?_; rintro e w' ⟨rfl, hb⟩; exact HK2.out _ (HX.out.next _ (by rfl) hb))
          | (go_at_call 8; refine (FSN.out wx).mono ?_; rintro e w' ⟨rfl, hb⟩; exact HK2.out _ (HX.out.next _ (by rfl) hb))
          | exact HK2.out _ (HX.out.next _ (by rfl) (Below.refl _ _))
      try simp only [Act.put, List.setIfInBounds_toArray, List.set_cons_succ, List.set_cons_zero]
      apply GhostV.walk_const (fun γ => by rfl)
      · intro γ L wx h1 h2 hx K hK
        obtain ⟨c0, c1, c2, c3, c4, c5, c6, c7⟩ := (HBX2.out.below hx.below).cells
        have HK2 := Lib.hid hK
        have HX := Lib.hid hx
        have H2 := Lib.hid h2
        clear hK h1 h2 hx
        go_simp
        first
          | (go_at_call 16; refine (FSM.out (γ 7) (γ 11) wx (HX.out.row (7, nums O) (by simp) (H2.out 7 (by kernel_rfl))) (HX.out.row (11, nums O) (by simp) (H2.out 11 (by kernel_rfl)))).mono ?_; rintro e w' ⟨rfl, hb⟩; exact HK2.out _ (HX.out.next _ (by rfl) hb))
          | (go_at_call 8; refine (FSN.out wx).mono ?_; rintro e w' ⟨rfl, hb⟩; exact HK2.out _ (HX.out.next _ (by rfl) hb))
          | exact HK2.out _ (HX.out.next _ (by rfl) (Below.refl _ _))
      try simp only [Act.put, List.setIfInBounds_toArray, List.set_cons_succ, List.set_cons_zero]
      apply GhostV.walk_const (fun γ => by rfl)
      · intro γ L wx h1 h2 hx K hK
        obtain ⟨c0, c1, c2, c3, c4, c5, c6, c7⟩ := (HBX2.out.below hx.below).cells
        have HK2 := Lib.hid hK
        have HX := Lib.hid hx
        have H2 := Lib.hid h2
        clear hK h1 h2 hx
        go_simp
        first
          | (go_at_call 16; refine (FSM.out (γ 7) (γ 11) wx (HX.out.row (7, nums O) (by simp) (H2.out 7 (by kernel_rfl))) (HX.out.row (11, nums O) (by simp) (H2.out 11 (by kernel_rfl)))).mono ?_; rintro e w' ⟨rfl, hb⟩; exact HK2.out _ (HX.out.next _ (by rfl) hb))
          | (go_at_call 8; refine (FSN.out wx).mono ?_; rintro e w' ⟨rfl, hb⟩; exact HK2.out _ (HX.out.next _ (by rfl) hb))
          | exact HK2.out _ (HX.out.next _ (by rfl) (Below.refl _ _))
      try simp only [Act.put, List.setIfInBounds_toArray, List.set_cons_succ, List.set_cons_zero]
      refine GhostV.walk_nil (fun γ L w4 hall hG4 => ?_)
      have hB4 := hG4.below
      go_wp2_with fail
      go_ret
      exact ⟨rfl, HBW2.out.trans (hB4.mono hw2)⟩
set_option maxRecDepth 100000 in
theorem lawLoadRuns_lifted (os : Os) (started : os.Started) (H : Type) (enc : TypeId × Value → H) :
    ReturnsInHanded {} Try.checked os 5 .any (Rows.loadRunsSpec.pre6 enc Try.prog Try.f5 Rows.loadRunsRow.domain false) (Rows.loadRunsSpec.post enc Try.prog Try.f5 false true false false) := by
  refine returnsInHanded_of_change (C := Try.checked) own started (by kernel_rfl) Try.func5
    (ChangeSpec.witness6 (enc := enc) (C := Try.checked) false ⟨#[], #[.slice none 0 0, .agg #[.float .f64 0, .float .f64 0, .float .f64 0], .int .u8 0], []⟩ 8 (by kernel_rfl) (by kernel_rfl) (by kernel_rfl) (by kernel_rfl)) ?_
  intro W base args ds gs before hval0 hW hcnd _
  have hval : ∀ (j : Nat) t v, Try.f5.params[j]? = some t → args[j]? = some v → Value.okWide Try.prog W .any base t v := hval0
  have hW' := hW
  obtain ⟨p, q, hA0, hV, rfl, hfz, hnd⟩ := hW
  have hA : DataW.TrodAll enc Try.prog W 0 (fun _ => true) true Try.f5.params.toList args.toList ds p := hA0
  rw [Try.params5] at hA hval
  obtain ⟨v0, vs0, d0, ds0, p0, q0, hargs, rfl, rfl, h0, r0⟩ := trodAll_cons hA
  obtain ⟨v1, vs1, d1, ds1, p1, q1, rfl, rfl, rfl, h1, r1⟩ := trodAll_cons r0
  obtain ⟨v2, vs2, d2, ds2, p2, q2, rfl, rfl, rfl, h2, r2⟩ := trodAll_cons r1
  obtain ⟨rfl, rfl, rfl⟩ := trodAll_nil r2
  obtain rfl : args = #[v0, v1, v2] := by cases args; simp_all
  obtain ⟨rfl, rfl⟩ := trodVars_none hV
  have k0 := h0
  have lt0 : ∀ x ∈ p0, x.block < W.heap.size := by obtain ⟨m, hm⟩ := k0; exact DataW.trod_lt m _ _ _ hm
  obtain ⟨a0, l0, c0, rfl⟩ := okWide_slice Try.underlying29 (hval 0 29 v0 rfl rfl)
  obtain ⟨fuel0, hf0⟩ := h0
  obtain ⟨x0, g0, m0⟩ := open_flts hf0
  have k1 := h1
  have lt1 : ∀ x ∈ p1, x.block < W.heap.size := by obtain ⟨m, hm⟩ := k1; exact DataW.trod_lt m _ _ _ hm
  obtain ⟨x1, y1, z1, rfl⟩ := open_af3 (hval 1 26 v1 rfl rfl) h1
  obtain ⟨x2, rfl, rfl, rfl, g2⟩ := open_int Try.underlying5 (hval 2 5 v2 rfl rfl) h2
  clear hA0 hval0
  refine (lawLoadRuns_walk _ x0 x1 y1 z1 x2 W g0 m0 g2).mono fun e W' ⟨he, bel⟩ => ?_
  subst he
  exact ⟨_, rfl, _, _, _, [], _, [], hW', trodAll_mk1 (shut_bool Try.underlying4 _), (trodAll_cons_mk (Below.trod laidOut (by kernel_rfl) (of_decide_eq_true (by kernel_rfl)) k0 bel lt0) (trodAll_cons_mk (Below.trod laidOut (by kernel_rfl) (of_decide_eq_true (by kernel_rfl)) k1 bel lt1) (trodAll_cons_mk (shut_int Try.underlying5 g2) trodAll_mk0))), rfl, bel.frame _, fun h => by cases h⟩

theorem lawLoadRuns_over : Rows.loadRunsRow.holds Try.pinned (OpenSpec.ofChange Rows.loadRunsSpec) :=
  OpenClaim.holds_of_wide 5 Try.f5 rfl rfl rfl rfl rfl rfl rfl ⟨rfl, rfl, rfl, rfl, rfl⟩ rfl rfl rfl rfl rfl (by kernel_rfl) Try.func5 (by kernel_rfl)
    (of_decide_eq_true (by kernel_rfl)) (by unfold Func.isWrapper; first | (rw [if_pos (by decide +kernel)]; kernel_rfl) | (rw [if_neg (by decide +kernel)]; exact ⟨rfl, rfl⟩))
    (fun os started H enc _ => lawLoadRuns_lifted os started H enc)

theorem loadRuns_holds : Rows.LoadRunsSaid := lawLoadRuns_over
#print axioms loadRuns_holds
end Go.Proofs.Ytaiciopfinlpiaa
