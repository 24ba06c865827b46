/- The law CrcBursts: a sealed string of which only some of 16 neighbouring bits have been changed is not opened. No condition. -/
import Derived.Test.YtebfdijdffmenaaCrcSane
namespace Go.Proofs.Ytebfdijdffmenaa
open Go.RowKit Go.ChangeShapes Go.WideShapes Go.ChangeAt

theorem burst_open {l : List UInt8} {at_ mask : Nat} (hne : Crc.flips at_ mask 16 (sealL l) ≠ sealL l) : openE (Crc.flips at_ mask 16 (sealL l)) = 5 := by
  refine openE_bad (by rw [Crc.flips_length, sealL_length]; omega) fun h => ?_
  refine Crc.burst (r := 65535) (by omega) hne ?_
  show sum16 _ = sum16 _
  rw [h, sum16_seal]

theorem flippedL_any (l : List UInt8) (a m : Int) (w : World) (hl : l.length ≤ 1000000) (ha : 0 ≤ a) (ha' : a ≤ 100000000) (hm : 0 ≤ m) (hm' : m < 65536) :
    Calls Try.prog 18 #[.string ⟨l.toArray⟩, .int .i64 a, .int .i64 m] w fun e w' => e = .returned (.string ⟨(Crc.flips a.toNat m.toNat 16 l).toArray⟩) ∧ Below w.heap.size w w' := by
  obtain ⟨a, rfl⟩ := Int.eq_ofNat_of_zero_le ha
  obtain ⟨m, rfl⟩ := Int.eq_ofNat_of_zero_le hm
  rw [Int.toNat_natCast, Int.toNat_natCast]
  refine (flipped_any ⟨l.toArray⟩ a m w (by show l.toArray.size ≤ 1000000; rw [List.size_toArray]; exact hl) (by omega) (by omega)).mono ?_
  rintro e w' ⟨rfl, hb⟩
  exact ⟨rfl, hb⟩
theorem openL_any (l : List UInt8) (w : World) (hl : l.length ≤ 1000000) :
    Calls Try.prog 10 #[.string ⟨l.toArray⟩] w fun e w' => e = .returned (.tuple #[.string ⟨(openS l).toArray⟩, .int .i64 (openE l)]) ∧ Below w.heap.size w w' := by
  refine (open_any ⟨l.toArray⟩ w (by show l.toArray.size ≤ 1000000; rw [List.size_toArray]; exact hl)).mono ?_
  rintro e w' ⟨rfl, hb⟩
  exact ⟨rfl, hb⟩
theorem openBad_any (l : List UInt8) (w : World) (hl : l.length ≤ 1000000) (h5 : openE l = 5) :
    Calls Try.prog 10 #[.string ⟨l.toArray⟩] w fun e w' => e = .returned (.tuple #[.string ⟨(openS l).toArray⟩, .int .i64 5]) ∧ Below w.heap.size w w' := by
  have := openL_any l w hl
  rw [h5] at this
  exact this

set_option maxRecDepth 100000 in
set_option maxHeartbeats 2000000 in
theorem lawBursts_nat (s : ByteArray) (x m : Nat) (w : World) (hs : s.size ≤ maxLen) (hx : x < 65536) (hm : m < 65536) :
    Calls Try.prog 4 #[.string s, .int .u16 x, .int .u16 m] w fun e w' => e = .returned (.bool true) ∧ Below w.heap.size w w' := by
  unfold maxLen at hs
  by_cases hl : 1000 < s.size
  · have hd : decide ((1000 : Int) < (s.size : Int)) = true := by simp; omega
    go_enter Try.func4, Try.ntmps4
    go_wp2_with (go_at_call 9; refine (sane_any _).mono ?_; rintro e w1 ⟨rfl, hb⟩)
    go_ret
    exact ⟨rfl, hb⟩
  · have hd : decide ((1000 : Int) < (s.size : Int)) = false := by simp; omega
    by_cases hm0 : m = 0
    · subst hm0
      go_enter Try.func4, Try.ntmps4
      go_wp2_with (go_at_call 9; refine (sane_any _).mono ?_; rintro e w1 ⟨rfl, hb⟩)
      go_ret
      exact ⟨rfl, hb⟩
    · have hd0 : ((m : Int) == 0) = false := beq_eq_false_iff_ne.2 (by omega)
      go_enter Try.func4, Try.ntmps4
      go_wp2_with fail
      refine (seal_any s _ (by omega)).mono ?_
      rintro e w1 ⟨rfl, hb1⟩
      go_wp2_with fail
      have hx0 : 0 ≤ (x : Int) % (8 * (s.size + 2)) := Int.emod_nonneg _ (by omega)
      have hx1 : (x : Int) % (8 * (s.size + 2)) < 8 * (s.size + 2) := Int.emod_lt_of_pos _ (by omega)
      have hlen : (sealL (bl s)).length = s.size + 2 := by rw [sealL_length, bl_len]
      refine (flippedL_any (sealL (bl s)) _ _ _ (by omega) (by omega) (by omega) (by omega) (by omega)).mono ?_
      have hul := Crc.flips_length ((x : Int) % (8 * (s.size + 2))).toNat (m : Int).toNat 16 (sealL (bl s))
      have hbo : Crc.flips ((x : Int) % (8 * (s.size + 2))).toNat (m : Int).toNat 16 (sealL (bl s)) ≠ sealL (bl s) → openE (Crc.flips ((x : Int) % (8 * (s.size + 2))).toNat (m : Int).toNat 16 (sealL (bl s))) = 5 := burst_open
      generalize Crc.flips ((x : Int) % (8 * (s.size + 2))).toNat (m : Int).toNat 16 (sealL (bl s)) = u at *
      rintro e w2 ⟨rfl, hb2⟩
      have hu : u.length ≤ 1000000 := by omega
      clear hlen hul hx0 hx1
      have h12 := hb1.trans (hb2.mono hb1.size)
      by_cases hq : u = sealL (bl s)
      · have hqq : (u == sealL (bl s)) = true := by rw [hq]; exact beq_self_eq_true _
        clear hq hbo
        go_wp2_with (go_at_call 9; refine (sane_any _).mono ?_; rintro e w3 ⟨rfl, hb3⟩)
        go_ret
        exact ⟨rfl, h12.trans (hb3.mono h12.size)⟩
      · have hqq : (u == sealL (bl s)) = false := beq_eq_false_iff_ne.2 hq
        have h5 := hbo hq
        have H5 := Lib.hid h5
        clear hq hbo h5
        go_wp2_with fail
        refine (openBad_any u _ hu H5.out).mono ?_
        rintro e w3 ⟨rfl, hb3⟩
        have h13 := h12.trans (hb3.mono h12.size)
        go_wp2_with (go_at_call 9; refine (sane_any _).mono ?_; rintro e w4 ⟨rfl, hb4⟩)
        go_ret
        exact ⟨rfl, h13.trans (hb4.mono h13.size)⟩

theorem lawBursts_walk (s : ByteArray) (x m : Int) (w : World) (hs : s.size ≤ maxLen) (hx : (Lit.int .u16 x).wf = true) (hm : (Lit.int .u16 m).wf = true) :
    Calls Try.prog 4 #[.string s, .int .u16 x, .int .u16 m] w fun e w' => e = .returned (.bool true) ∧ Below w.heap.size w w' := by
  obtain ⟨x, rfl, hx2⟩ := u16_nat hx
  obtain ⟨m, rfl, hm2⟩ := u16_nat hm
  exact lawBursts_nat s x m w hs hx2 hm2

set_option maxRecDepth 100000 in
theorem lawBursts_lifted (os : Os) (started : os.Started) (H : Type) (enc : TypeId × Value → H) :
    ReturnsInHanded {} Try.checked os 4 .any (Rows.crcBurstsSpec.pre6 enc Try.prog Try.f4 Rows.crcBurstsRow.domain false) (Rows.crcBurstsSpec.post enc Try.prog Try.f4 false true false false) := by
  refine returnsInHanded_of_change (C := Try.checked) own started (by kernel_rfl) Try.func4
    (ChangeSpec.witness6 (enc := enc) (C := Try.checked) false ⟨#[], #[.string ⟨#[]⟩, .int .u16 0, .int .u16 0], []⟩ 8 (by kernel_rfl) (by kernel_rfl) (by kernel_rfl) (by kernel_rfl)) ?_
  intro W base args ds gs before hval0 hW hcnd _
  have hval : ∀ (j : Nat) t v, Try.f4.params[j]? = some t → args[j]? = some v → Value.okWide Try.prog W .any base t v := hval0
  have hW' := hW
  obtain ⟨p, q, hA0, hV, rfl, hfz, hnd⟩ := hW
  have hA : DataW.TrodAll enc Try.prog W 0 (fun _ => true) true Try.f4.params.toList args.toList ds p := hA0
  rw [Try.params4] at hA hval
  obtain ⟨v0, vs0, d0, ds0, p0, q0, hargs, rfl, rfl, h0, r0⟩ := trodAll_cons hA
  obtain ⟨v1, vs1, d1, ds1, p1, q1, rfl, rfl, rfl, h1, r1⟩ := trodAll_cons r0
  obtain ⟨v2, vs2, d2, ds2, p2, q2, rfl, rfl, rfl, h2, r2⟩ := trodAll_cons r1
  obtain ⟨rfl, rfl, rfl⟩ := trodAll_nil r2
  obtain rfl : args = #[v0, v1, v2] := by cases args; simp_all
  obtain ⟨rfl, rfl⟩ := trodVars_none hV
  obtain ⟨s, rfl, rfl, rfl, g0⟩ := ChangeMaps.open_string Try.underlying9 (hval 0 9 v0 rfl rfl) h0
  obtain ⟨x, rfl, rfl, rfl, g1⟩ := open_int Try.underlying27 (hval 1 27 v1 rfl rfl) h1
  obtain ⟨m, rfl, rfl, rfl, g2⟩ := open_int Try.underlying27 (hval 2 27 v2 rfl rfl) h2
  clear hA0 hval0
  refine (lawBursts_walk s x m W g0 g1 g2).mono fun e W' ⟨he, bel⟩ => ?_
  subst he
  exact ⟨_, rfl, _, _, _, [], _, [], hW', trodAll_mk1 (shut_bool Try.underlying4 _), (trodAll_cons_mk (ChangeMaps.shut_string Try.underlying9 g0) (trodAll_cons_mk (shut_int Try.underlying27 g1) (trodAll_cons_mk (shut_int Try.underlying27 g2) trodAll_mk0))), rfl, bel.frame _, fun h => by cases h⟩

theorem lawBursts_over : Rows.crcBurstsRow.holds Try.pinned (OpenSpec.ofChange Rows.crcBurstsSpec) :=
  OpenClaim.holds_of_wide 4 Try.f4 rfl rfl rfl rfl rfl rfl rfl ⟨rfl, rfl, rfl, rfl, rfl⟩ rfl rfl rfl rfl rfl (by kernel_rfl) Try.func4 (by kernel_rfl)
    (of_decide_eq_true (by kernel_rfl)) (by unfold Func.isWrapper; first | (rw [if_pos (by decide +kernel)]; kernel_rfl) | (rw [if_neg (by decide +kernel)]; exact ⟨rfl, rfl⟩))
    (fun os started H enc _ => lawBursts_lifted os started H enc)

theorem crcBursts_holds : Rows.CrcBurstsSaid := lawBursts_over
#print axioms crcBursts_holds
end Go.Proofs.Ytebfdijdffmenaa
