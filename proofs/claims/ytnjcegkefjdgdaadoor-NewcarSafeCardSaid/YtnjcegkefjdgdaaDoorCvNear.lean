/- The nearer direction; what is asked for in a direction. No statement of the seat is proved here. -/
import Derived.Test.YtnjcegkefjdgdaaDoorG10
import Derived.Lib.BitFns
namespace Go.Proofs.YtnjcegkefjdgdaaDoor
open Go.RowKit
set_option maxRecDepth 4000

theorem ret_i64 {a b : Int} (h : a = b) : Ending.returned (.int .i64 a) = .returned (.int .i64 b) := by rw [h]
theorem tzkey (x : Nat) (h0 : x ≠ 0) (hx : x < 4294967296) : bits BinOp.and IntKind.u32 (x : Int) (-(x : Int) % 4294967296) * 125613361 % 4294967296 / 134217728 = ((2 ^ tzN x * 125613361 % 4294967296 / 134217728 : Nat) : Int) := by
  have e1 : -(x : Int) % 4294967296 = ((2 ^ 32 - x : Nat) : Int) := by
    have : (2 : Nat) ^ 32 = 4294967296 := rfl
    omega
  obtain ⟨h1, h2⟩ := Go.Lib.lowest_bit 32 x h0 hx
  rw [e1, u32_and_nat x (2 ^ 32 - x) hx (by have : (2 : Nat) ^ 32 = 4294967296 := rfl; omega), h1]
  show ((2 ^ tzN x : Nat) : Int) * 125613361 % 4294967296 / 134217728 = _
  generalize 2 ^ tzN x = y
  omega
theorem tzN_lt {x : Nat} (h0 : x ≠ 0) (hx : x < 4294967296) : tzN x < 32 := (Go.Lib.lowest_bit 32 x h0 hx).2
theorem tz_core (x k idx : Nat) (w : World) (hx0 : ((x : Int) == 0) = false)
    (key : bits BinOp.and IntKind.u32 (x : Int) (-(x : Int) % 4294967296) * 125613361 % 4294967296 / 134217728 = (idx : Int))
    (hi : idx < 32) (hk : k < 32) (hcell : w.cell? ⟨3, idx, none⟩ = some (.int .u8 k)) :
    Calls Tryd.prog 94 #[.int .u32 x] w fun e w' => e = .returned (.int .i64 k) ∧ w' = w := by
  go_enter Tryd.func94, Tryd.ntmps94
  go_wp2_with (simp only [key])
  go_ret
  exact ⟨rfl, rfl⟩
theorem tz32_any (x : Nat) (hx : x < 4294967296) (w : World) (hT : Tabs w) :
    Calls Tryd.prog 94 #[.int .u32 x] w fun e w' => e = .returned (.int .i64 (tzN x)) ∧ w' = w := by
  by_cases h0 : x = 0
  · subst h0
    have e : (tzN 0 : Nat) = 32 := rfl
    rw [e]
    go_enter Tryd.func94, Tryd.ntmps94
    go_wp2
    go_ret
    exact ⟨rfl, rfl⟩
  · have hk := tzN_lt h0 hx
    obtain ⟨hi, htab⟩ := Go.Lib.deBruijn32_at (tzN x) hk
    have hcell := hT.tz _ hi
    rw [htab] at hcell
    exact tz_core x _ _ w (beq_eq_false_iff_ne.2 (by omega)) (tzkey x h0 hx) hi hk hcell
theorem len8_nat (b : Nat) (hb : b < 256) : Go.Lib.len8 (b : Int) = (Go.Lib.bitLen b : Int) := Go.Lib.len8_eq ⟨b, hb⟩
theorem len8_bd (b : Nat) (hb : b < 256) : Go.Lib.bitLen b ≤ 8 := Go.Lib.bitLen_le8 ⟨b, hb⟩
set_option maxHeartbeats 1000000 in
theorem len32_any (x : Nat) (hx : x < 4294967296) (w : World) :
    Calls Tryd.prog 97 #[.int .u32 x] w fun e w' => e = .returned (.int .i64 (Go.Lib.bitLen x)) ∧ w' = w := by
  have i1 : (x : Int) / 65536 = ((x / 65536 : Nat) : Int) := by omega
  have i2 : (x : Int) / 256 = ((x / 256 : Nat) : Int) := by omega
  by_cases h1 : 65536 ≤ x
  · have g1 : decide ((x : Int) ≥ 65536) = true := decide_eq_true (by omega)
    have e1 := Go.Lib.bitLen_shift16 x h1 (by omega)
    generalize hy : x / 65536 = y at *
    have hy2 : y < 65536 := by omega
    rw [e1]
    clear e1 hy h1
    by_cases h2 : 256 ≤ y
    · have g2 : decide ((y : Int) ≥ 256) = true := decide_eq_true (by omega)
      have e2 := Go.Lib.bitLen_shift8 y h2 (by omega)
      have i3 : (y : Int) / 256 = ((y / 256 : Nat) : Int) := by omega
      generalize hz : y / 256 = z at *
      have hz2 : z < 256 := by omega
      have l := len8_nat z hz2
      have lb := len8_bd z hz2
      have m : IntKind.u8.wrap (z : Int) = z := by rw [IntKind.wrap_u8]; omega
      rw [e2]
      generalize Go.Lib.bitLen z = c at *
      have j1 : (0 : Int) ≤ (z : Int) ∧ (z : Int) ≤ 255 := by omega
      go_enter Tryd.func97, Tryd.ntmps97
      go_wp2
      go_ret
      exact ⟨ret_i64 (by omega), rfl⟩
    · have g2 : decide ((y : Int) ≥ 256) = false := decide_eq_false (by omega)
      have hz2 : y < 256 := by omega
      have l := len8_nat y hz2
      have lb := len8_bd y hz2
      generalize Go.Lib.bitLen y = c at *
      have j1 : (0 : Int) ≤ (y : Int) ∧ (y : Int) ≤ 255 := by omega
      go_enter Tryd.func97, Tryd.ntmps97
      go_wp2
      go_ret
      exact ⟨ret_i64 (by omega), rfl⟩
  · have g1 : decide ((x : Int) ≥ 65536) = false := decide_eq_false (by omega)
    by_cases h2 : 256 ≤ x
    · have g2 : decide ((x : Int) ≥ 256) = true := decide_eq_true (by omega)
      have e2 := Go.Lib.bitLen_shift8 x h2 (by omega)
      generalize hz : x / 256 = z at *
      have hz2 : z < 256 := by omega
      have l := len8_nat z hz2
      have lb := len8_bd z hz2
      rw [e2]
      generalize Go.Lib.bitLen z = c at *
      have j1 : (0 : Int) ≤ (z : Int) ∧ (z : Int) ≤ 255 := by omega
      go_enter Tryd.func97, Tryd.ntmps97
      go_wp2
      go_ret
      exact ⟨ret_i64 (by omega), rfl⟩
    · have g2 : decide ((x : Int) ≥ 256) = false := decide_eq_false (by omega)
      have hz2 : x < 256 := by omega
      have l := len8_nat x hz2
      have lb := len8_bd x hz2
      generalize Go.Lib.bitLen x = c at *
      have j1 : (0 : Int) ≤ (x : Int) ∧ (x : Int) ≤ 255 := by omega
      go_enter Tryd.func97, Tryd.ntmps97
      go_wp2
      go_ret
      exact ⟨ret_i64 (by omega), rfl⟩
theorem bitLen32 {x : Nat} (hx : x < 4294967296) : Go.Lib.bitLen x ≤ 32 := Go.Lib.bitLen_le x 32 (by decide) hx
theorem lz32_any (x : Nat) (hx : x < 4294967296) (w : World) :
    Calls Tryd.prog 95 #[.int .u32 x] w fun e w' => e = .returned (.int .i64 (lzN x)) ∧ w' = w := by
  have F := Lib.hid (fun wx => len32_any x hx wx)
  have hb := bitLen32 hx
  unfold lzN
  generalize Go.Lib.bitLen x = c at *
  have e : (32 : Int) - (c : Int) = ((32 - c : Nat) : Int) := by omega
  have hw : IntKind.i64.wrap ((32 : Int) - (c : Int)) = ((32 - c : Nat) : Int) := by rw [IntKind.wrap_i64]; omega
  go_enter Tryd.func95, Tryd.ntmps95
  go_wp2_with (go_at_call 97; refine (F.out _).mono ?_; rintro e w1 ⟨rfl, rfl⟩)
  go_ret
  exact ⟨ret_i64 (by omega), rfl⟩

theorem asks_any (p : Pl) (d : Nat) (w : World) (hd : d = 1 ∨ d = 2) :
    Calls Tryd.prog 96 #[p.agg, .int .i64 (d : Int)] w fun e w' => e = .returned (.bool (Cv.asks p.sc d)) ∧ Below w.heap.size w w' := by
  obtain ⟨o, ⟨s1, s2, s3⟩, car, up, dn, ab, be⟩ := p
  have ha : ((ab : Int) != 0) = !decide (ab = 0) := int_ne0 _
  have hb : ((be : Int) != 0) = !decide (be = 0) := int_ne0 _
  simp only [Pl.agg, Pl.sc, Cv.asks]
  rcases hd with rfl | rfl
  · cases up
    all_goals
      go_enter Tryd.func96, Tryd.ntmps96
      go_wp2
      go_ret
      exact ⟨ret_bool (by simp), by go_grown⟩
  · cases dn
    all_goals
      go_enter Tryd.func96, Tryd.ntmps96
      go_wp2
      go_ret
      exact ⟨ret_bool (by simp), by go_grown⟩
theorem first_any (p : Pl) (a b : Nat) (w : World) (ha : a = 1 ∨ a = 2) (hb : b = 1 ∨ b = 2) :
    Calls Tryd.prog 92 #[p.agg, .int .i64 (a : Int), .int .i64 (b : Int)] w fun e w' => e = .returned (.int .i64 (Cv.first p.sc a b : Nat)) ∧ Below w.heap.size w w' := by
  have F1 := Lib.hid (fun wx => asks_any p a wx ha)
  have F2 := Lib.hid (fun wx => asks_any p b wx hb)
  unfold Cv.first
  generalize hx : Cv.asks p.sc a = x at *
  generalize hy : Cv.asks p.sc b = y at *
  clear hx hy ha hb
  obtain ⟨o, ⟨s1, s2, s3⟩, car, up, dn, ab, be⟩ := p
  simp only [Pl.agg] at *
  cases x <;> cases y
  all_goals
    go_enter Tryd.func92, Tryd.ntmps92
    go_wp2_with fail
    first
      | (refine (F1.out _).mono ?_
         rintro e w1 ⟨rfl, hb1⟩
         have b1 := hb1.block w.heap.size (by simp)
         have b2 := b1.trans (heap_alloc_new w _)
         obtain ⟨c0, c1, c2, c3, c4, c5, c6, c7, c8⟩ := plRow b2
         go_wp2_with fail)
    try
      (refine (F2.out _).mono ?_
       rintro e w2 ⟨rfl, hb2⟩
       go_wp2_with fail)
    go_ret
    refine ⟨rfl, ?_⟩
    first
      | exact below_box (hb1.trans (hb2.mono hb1.size))
      | exact below_box hb1
theorem nearP_b (ab be : Nat) : nearP ab be = if (!decide (ab = 0) && decide (tzN ab ≤ lzN be)) = true then 1 else if (!decide (be = 0)) = true then 2 else 0 := by
  unfold nearP
  simp
set_option maxHeartbeats 1000000 in
theorem nearer_any (p : Pl) (w : World) (hp : p.ok) (hT : Tabs w) :
    Calls Tryd.prog 90 #[p.agg] w fun e w' => e = .returned (.int .i64 (p.sc.nr : Nat)) ∧ Below w.heap.size w w' := by
  obtain ⟨o, ⟨s1, s2, s3⟩, car, up, dn, ab, be⟩ := p
  have F1 := Lib.hid (fun wx (hb : Below w.heap.size w wx) => tz32_any ab hp.1 wx (hT.below hb))
  have F2 := Lib.hid (fun wx => lz32_any be hp.2 wx)
  have ha := int_ne0 ab
  have hb := int_ne0 be
  simp only [Pl.agg, Pl.sc, nearP_b]
  generalize tzN ab = t at *
  generalize lzN be = z at *
  have hle : decide ((t : Int) ≤ (z : Int)) = decide (t ≤ z) := by rw [decide_eq_decide]; omega
  obtain ⟨c, hc⟩ : ∃ c, decide (t ≤ z) = c := ⟨_, rfl⟩
  rw [hc] at hle ⊢
  generalize decide (ab = 0) = a at *
  generalize decide (be = 0) = b at *
  clear hT hp
  cases a <;> cases b <;> cases c
  all_goals
    simp only [Bool.not_true, Bool.not_false, Bool.true_and, Bool.false_and, if_true, if_false, Bool.false_eq_true] at ha hb ⊢
    go_enter Tryd.func90, Tryd.ntmps90
    go_wp2_with fail
    refine Bag.region (fun wx => Below (w.heap.size + 1) (w.alloc (.cells #[.int .i64 (o : Int), .int .u32 s1, .int .u32 s2, .int .u32 s3, .bool car, .bool up, .bool dn, .int .u32 ab, .int .u32 be] 120)) wx) (by kernel_rfl) (by kernel_rfl) (Below.refl _ _).drew ?_
    iterate 8 (first
        | (apply Bag.walk_yes (by rfl)
           (intro wx hx K hK
            obtain ⟨c0, c1, c2, c3, c4, c5, c6, c7, c8⟩ := plRow ((hx.block w.heap.size (by simp)).trans (heap_alloc_new w _))
            first
              | (go_simp
                 first
                  | (go_at_call 94; refine (F1.out _ (below_of_new hx)).mono ?_; rintro e x1 ⟨rfl, rfl⟩; exact hK _ hx)
                  | (go_at_call 95; refine (F2.out _).mono ?_; rintro e x1 ⟨rfl, rfl⟩; exact hK _ hx)
                  | (go_at_K; exact hK _ hx)))
           rfl)
        | (refine Bag.walk_no (by rfl) ?_; simp only [Act.put, List.setIfInBounds_toArray, List.set_cons_succ, List.set_cons_zero]))
    refine Bag.walk_nil (fun w4 hb4 => ?_)
    obtain ⟨c0, c1, c2, c3, c4, c5, c6, c7, c8⟩ := plRow ((hb4.block w.heap.size (by simp)).trans (heap_alloc_new w _))
    go_wp2_with fail
    go_ret
    exact ⟨rfl, below_of_new hb4⟩
end Go.Proofs.YtnjcegkefjdgdaaDoor
