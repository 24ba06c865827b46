/- The law CrcPairs: a sealed string in which two bits have been changed is not opened. No condition. -/
import Derived.Test.YtebfdijdffmenaaCrcLawBursts
namespace Go.Proofs.Ytebfdijdffmenaa
open Go.RowKit Go.ChangeShapes Go.WideShapes Go.ChangeAt

/-- A mask of one bit: one flip. -/
theorem flips_one (at_ : Nat) (l : List UInt8) (h : at_ < 8 * l.length) : ∀ i, Crc.flips at_ 1 (i + 1) l = Crc.flip1 l at_
  | 0 => by simp only [Crc.flips]; rw [if_pos ⟨by decide, by simpa using h⟩]; rfl
  | i + 1 => by
    have ih := flips_one at_ l h i
    have hb : ¬ ((1 : Nat).testBit (i + 1) = true ∧ at_ + (i + 1) < 8 * l.length) := by
      rintro ⟨hb, -⟩
      rw [Nat.testBit_succ] at hb
      simp at hb
    rw [Crc.flips, if_neg hb, ih]
theorem flip1L_any (l : List UInt8) (a : Int) (w : World) (hl : l.length ≤ 1000000) (ha : 0 ≤ a) (ha' : a < 8 * (l.length : Int)) :
    Calls Try.prog 18 #[.string ⟨l.toArray⟩, .int .i64 a, .int .i64 1] w fun e w' => e = .returned (.string ⟨(Crc.flip1 l a.toNat).toArray⟩) ∧ Below w.heap.size w w' := by
  refine (flippedL_any l a 1 w hl ha (by omega) (by omega) (by omega)).mono ?_
  rintro e w' ⟨rfl, hb⟩
  rw [show (1 : Int).toNat = 1 from rfl, flips_one a.toNat l (by omega) 15]
  exact ⟨rfl, hb⟩
theorem pair_open {l : List UInt8} {x y : Nat} (hl : l.length ≤ 1000) (hx : x < 8 * (l.length + 2)) (hy : y < 8 * (l.length + 2)) (hxy : x ≠ y) :
    openE (Crc.flip1 (Crc.flip1 (sealL l) x) y) = 5 := by
  refine openE_bad (by rw [Crc.flip1_length, Crc.flip1_length, sealL_length]; omega) fun h => ?_
  refine Crc.pair_ne (r := 65535) (l := sealL l) (x := x) (y := y) (by omega) (by rw [sealL_length]; omega) (by rw [sealL_length]; exact hx) (by rw [sealL_length]; exact hy) hxy ?_
  show sum16 _ = sum16 _
  rw [h, sum16_seal]

set_option maxRecDepth 100000 in
set_option maxHeartbeats 2000000 in
theorem lawPairs_nat (s : ByteArray) (x y : Nat) (w : World) (hs : s.size ≤ maxLen) (hx : x < 65536) (hy : y < 65536) :
    Calls Try.prog 5 #[.string s, .int .u16 x, .int .u16 y] w fun e w' => e = .returned (.bool true) ∧ Below w.heap.size w w' := by
  unfold maxLen at hs
  by_cases hl : 1000 < s.size
  · have hd : decide ((1000 : Int) < (s.size : Int)) = true := by simp; omega
    go_enter Try.func5, Try.ntmps5
    go_wp2_with fail
    refine Bag.region (fun wx => Below w.heap.size w wx) (by kernel_rfl) (by kernel_rfl) (Below.refl _ _).drew ?_
    iterate 14 (first
        | (apply Bag.walk_yes (by rfl)
           (intro wx hx K hK
            go_simp
            go_at_K; exact hK _ hx)
           rfl)
        | (refine Bag.walk_no (by rfl) ?_; simp only [Act.put, List.setIfInBounds_toArray, List.set_cons_succ, List.set_cons_zero]))
    refine Bag.walk_nil (fun w1 hB => ?_)
    go_wp2_with (go_at_call 9; refine (sane_any _).mono ?_; rintro e w3 ⟨rfl, hb⟩)
    go_ret
    exact ⟨rfl, hB.trans (hb.mono hB.size)⟩
  · have hd : decide ((1000 : Int) < (s.size : Int)) = false := by simp; omega
    have hx0 : 0 ≤ (x : Int) % (8 * (s.size + 2)) := Int.emod_nonneg _ (by omega)
    have hx1 : (x : Int) % (8 * (s.size + 2)) < 8 * (s.size + 2) := Int.emod_lt_of_pos _ (by omega)
    have hy0 : 0 ≤ (y : Int) % (8 * (s.size + 2)) := Int.emod_nonneg _ (by omega)
    have hy1 : (y : Int) % (8 * (s.size + 2)) < 8 * (s.size + 2) := Int.emod_lt_of_pos _ (by omega)
    have hn0 : ¬ (8 * ((s.size : Int) + 2)) = 0 := by omega
    by_cases hxy : (x : Int) % (8 * (s.size + 2)) = (y : Int) % (8 * (s.size + 2))
    · have hq : ((x : Int) % (8 * (s.size + 2)) == (y : Int) % (8 * (s.size + 2))) = true := beq_iff_eq.2 hxy
      clear hxy
      have hwx : IntKind.i64.wrap (x : Int) = (x : Int) := IntWalk.i64_in _ (by omega)
      have hwy : IntKind.i64.wrap (y : Int) = (y : Int) := IntWalk.i64_in _ (by omega)
      have htx : (x : Int).tmod (8 * ((s.size : Int) + 2)) = (x : Int) % (8 * (s.size + 2)) := Int.tmod_eq_emod_of_nonneg (by omega)
      have hty : (y : Int).tmod (8 * ((s.size : Int) + 2)) = (y : Int) % (8 * (s.size + 2)) := Int.tmod_eq_emod_of_nonneg (by omega)
      go_enter Try.func5, Try.ntmps5
      go_wp2_with fail
      refine Bag.region (fun wx => Below w.heap.size w wx) (by kernel_rfl) (by kernel_rfl) (Below.refl _ _).drew ?_
      iterate 14 (first
          | (apply Bag.walk_yes (by rfl)
             (intro wx hx K hK
              go_simp
              go_at_K; exact hK _ hx)
             rfl)
          | (refine Bag.walk_no (by rfl) ?_; simp only [Act.put, List.setIfInBounds_toArray, List.set_cons_succ, List.set_cons_zero]))
      refine Bag.walk_nil (fun w1 hB => ?_)
      go_wp2_with (go_at_call 9; refine (sane_any _).mono ?_; rintro e w3 ⟨rfl, hb⟩)
      go_ret
      exact ⟨rfl, hB.trans (hb.mono hB.size)⟩
    · have hq : ((x : Int) % (8 * (s.size + 2)) == (y : Int) % (8 * (s.size + 2))) = false := beq_eq_false_iff_ne.2 hxy
      have h5 := pair_open (l := bl s) (x := ((x : Int) % (8 * (s.size + 2))).toNat) (y := ((y : Int) % (8 * (s.size + 2))).toNat) (by rw [bl_len]; omega) (by rw [bl_len]; omega) (by rw [bl_len]; omega) (by omega)
      have hA : (sealL (bl s)).length = s.size + 2 := by rw [sealL_length, bl_len]
      have FS := Lib.hid (fun w => seal_any s w (by omega))
      have FA := Lib.hid (fun w => flip1L_any (sealL (bl s)) _ w (by omega) hx0 (by omega))
      have FB := Lib.hid (fun w => flip1L_any (Crc.flip1 (sealL (bl s)) ((x : Int) % (8 * (s.size + 2))).toNat) _ w (by rw [Crc.flip1_length]; omega) hy0 (by rw [Crc.flip1_length]; omega))
      have FO := Lib.hid (fun w => openBad_any _ w (by rw [Crc.flip1_length, Crc.flip1_length]; omega) h5)
      clear h5 hxy hA
      have hwx : IntKind.i64.wrap (x : Int) = (x : Int) := IntWalk.i64_in _ (by omega)
      have hwy : IntKind.i64.wrap (y : Int) = (y : Int) := IntWalk.i64_in _ (by omega)
      have htx : (x : Int).tmod (8 * ((s.size : Int) + 2)) = (x : Int) % (8 * (s.size + 2)) := Int.tmod_eq_emod_of_nonneg (by omega)
      have hty : (y : Int).tmod (8 * ((s.size : Int) + 2)) = (y : Int) % (8 * (s.size + 2)) := Int.tmod_eq_emod_of_nonneg (by omega)
      go_enter Try.func5, Try.ntmps5
      go_wp2_with fail
      refine Bag.region (fun wx => Below w.heap.size w wx) (by kernel_rfl) (by kernel_rfl) (Below.refl _ _).drew ?_
      iterate 14 (first
          | (apply Bag.walk_yes (by rfl)
             (intro wx hx K hK
              go_simp
              first
                | (go_at_K; exact hK _ hx))
             rfl)
          | (refine Bag.walk_no (by rfl) ?_; simp only [Act.put, List.setIfInBounds_toArray, List.set_cons_succ, List.set_cons_zero]))
      refine Bag.walk_nil (fun w1 hB => ?_)
      go_wp2_with fail
      refine Bag.region (fun wx => Below w.heap.size w wx) (by kernel_rfl) (by kernel_rfl) hB.drew ?_
      clear hB
      iterate 18 (first
          | (apply Bag.walk_yes (by rfl)
             (intro wx hx K hK
              go_simp
              first
                | (go_at_call 12; refine (FS.out _).mono ?_; rintro e x1 ⟨rfl, hb⟩; exact hK _ (hx.trans (hb.mono hx.size)))
                | (go_at_call 18; (with_reducible refine (FA.out _).mono ?_); rintro e x1 ⟨rfl, hb⟩; exact hK _ (hx.trans (hb.mono hx.size)))
                | (go_at_call 18; (with_reducible refine (FB.out _).mono ?_); rintro e x1 ⟨rfl, hb⟩; exact hK _ (hx.trans (hb.mono hx.size)))
                | (go_at_call 10; refine (FO.out _).mono ?_; rintro e x1 ⟨rfl, hb⟩; exact hK _ (hx.trans (hb.mono hx.size)))
                | (go_at_K; exact hK _ hx))
             rfl)
          | (refine Bag.walk_no (by rfl) ?_; simp only [Act.put, List.setIfInBounds_toArray, List.set_cons_succ, List.set_cons_zero]))
      refine Bag.walk_nil (fun w2 hC => ?_)
      go_wp2_with (go_at_call 9; refine (sane_any _).mono ?_; rintro e w3 ⟨rfl, hb⟩)
      go_ret
      exact ⟨rfl, hC.trans (hb.mono hC.size)⟩

theorem lawPairs_walk (s : ByteArray) (x y : Int) (w : World) (hs : s.size ≤ maxLen) (hx : (Lit.int .u16 x).wf = true) (hy : (Lit.int .u16 y).wf = true) :
    Calls Try.prog 5 #[.string s, .int .u16 x, .int .u16 y] w fun e w' => e = .returned (.bool true) ∧ Below w.heap.size w w' := by
  obtain ⟨x, rfl, hx2⟩ := u16_nat hx
  obtain ⟨y, rfl, hy2⟩ := u16_nat hy
  exact lawPairs_nat s x y w hs hx2 hy2

set_option maxRecDepth 100000 in
theorem lawPairs_lifted (os : Os) (started : os.Started) (H : Type) (enc : TypeId × Value → H) :
    ReturnsInHanded {} Try.checked os 5 .any (Rows.crcPairsSpec.pre6 enc Try.prog Try.f5 Rows.crcPairsRow.domain false) (Rows.crcPairsSpec.post enc Try.prog Try.f5 false true false false) := by
  refine returnsInHanded_of_change (C := Try.checked) own started (by kernel_rfl) Try.func5
    (ChangeSpec.witness6 (enc := enc) (C := Try.checked) false ⟨#[], #[.string ⟨#[]⟩, .int .u16 0, .int .u16 0], []⟩ 8 (by kernel_rfl) (by kernel_rfl) (by kernel_rfl) (by kernel_rfl)) ?_
  intro W base args ds gs before hval0 hW hcnd _
  have hval : ∀ (j : Nat) t v, Try.f5.params[j]? = some t → args[j]? = some v → Value.okWide Try.prog W .any base t v := hval0
  have hW' := hW
  obtain ⟨p, q, hA0, hV, rfl, hfz, hnd⟩ := hW
  have hA : DataW.TrodAll enc Try.prog W 0 (fun _ => true) true Try.f5.params.toList args.toList ds p := hA0
  rw [Try.params5] at hA hval
  obtain ⟨v0, vs0, d0, ds0, p0, q0, hargs, rfl, rfl, h0, r0⟩ := trodAll_cons hA
  obtain ⟨v1, vs1, d1, ds1, p1, q1, rfl, rfl, rfl, h1, r1⟩ := trodAll_cons r0
  obtain ⟨v2, vs2, d2, ds2, p2, q2, rfl, rfl, rfl, h2, r2⟩ := trodAll_cons r1
  obtain ⟨rfl, rfl, rfl⟩ := trodAll_nil r2
  obtain rfl : args = #[v0, v1, v2] := by cases args; simp_all
  obtain ⟨rfl, rfl⟩ := trodVars_none hV
  obtain ⟨s, rfl, rfl, rfl, g0⟩ := ChangeMaps.open_string Try.underlying9 (hval 0 9 v0 rfl rfl) h0
  obtain ⟨x, rfl, rfl, rfl, g1⟩ := open_int Try.underlying27 (hval 1 27 v1 rfl rfl) h1
  obtain ⟨y, rfl, rfl, rfl, g2⟩ := open_int Try.underlying27 (hval 2 27 v2 rfl rfl) h2
  clear hA0 hval0
  refine (lawPairs_walk s x y W g0 g1 g2).mono fun e W' ⟨he, bel⟩ => ?_
  subst he
  exact ⟨_, rfl, _, _, _, [], _, [], hW', trodAll_mk1 (shut_bool Try.underlying4 _), (trodAll_cons_mk (ChangeMaps.shut_string Try.underlying9 g0) (trodAll_cons_mk (shut_int Try.underlying27 g1) (trodAll_cons_mk (shut_int Try.underlying27 g2) trodAll_mk0))), rfl, bel.frame _, fun h => by cases h⟩

theorem lawPairs_over : Rows.crcPairsRow.holds Try.pinned (OpenSpec.ofChange Rows.crcPairsSpec) :=
  OpenClaim.holds_of_wide 5 Try.f5 rfl rfl rfl rfl rfl rfl rfl ⟨rfl, rfl, rfl, rfl, rfl⟩ rfl rfl rfl rfl rfl (by kernel_rfl) Try.func5 (by kernel_rfl)
    (of_decide_eq_true (by kernel_rfl)) (by unfold Func.isWrapper; first | (rw [if_pos (by decide +kernel)]; kernel_rfl) | (rw [if_neg (by decide +kernel)]; exact ⟨rfl, rfl⟩))
    (fun os started H enc _ => lawPairs_lifted os started H enc)

theorem crcPairs_holds : Rows.CrcPairsSaid := lawPairs_over
#print axioms crcPairs_holds
end Go.Proofs.Ytebfdijdffmenaa
