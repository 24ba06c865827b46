/- The law CrcBits: strings that differ in one bit have different sums. No condition. -/
import Derived.Test.YtebfdijdffmenaaCrcLawPairs
namespace Go.Proofs.Ytebfdijdffmenaa
open Go.RowKit Go.ChangeShapes Go.WideShapes Go.ChangeAt

theorem flip1S_any (s : ByteArray) (a : Int) (w : World) (hl : s.size ≤ 1000000) (ha : 0 ≤ a) (ha' : a < 8 * (s.size : Int)) :
    Calls Try.prog 18 #[.string s, .int .i64 a, .int .i64 1] w fun e w' => e = .returned (.string ⟨(Crc.flip1 (bl s) a.toNat).toArray⟩) ∧ Below w.heap.size w w' := by
  have := flip1L_any (bl s) a w (by rw [bl_len]; exact hl) ha (by rw [bl_len]; exact ha')
  rwa [bl_mk] at this
theorem sum16L_any (l : List UInt8) (w : World) (hl : l.length ≤ 1000000) :
    Calls Try.prog 13 #[.string ⟨l.toArray⟩] w fun e w' => e = .returned (.int .u16 (sum16 l : Nat)) ∧ w = w' := by
  refine (sum16_any ⟨l.toArray⟩ w (by show l.toArray.size ≤ maxLen; unfold maxLen; rw [List.size_toArray]; omega)).mono ?_
  rintro e w' ⟨rfl, hb⟩
  exact ⟨rfl, hb⟩
theorem sum8L_any (l : List UInt8) (w : World) (hl : l.length ≤ 1000000) :
    Calls Try.prog 15 #[.string ⟨l.toArray⟩] w fun e w' => e = .returned (.int .u8 (sum8 l : Nat)) ∧ w = w' := by
  refine (sum8_any ⟨l.toArray⟩ w (by show l.toArray.size ≤ maxLen; unfold maxLen; rw [List.size_toArray]; omega)).mono ?_
  rintro e w' ⟨rfl, hb⟩
  exact ⟨rfl, hb⟩

set_option maxRecDepth 100000 in
set_option maxHeartbeats 2000000 in
theorem lawBits_nat (s : ByteArray) (x : Nat) (w : World) (hs : s.size ≤ maxLen) (hx : x < 65536) :
    Calls Try.prog 7 #[.string s, .int .u16 x] w fun e w' => e = .returned (.bool true) ∧ Below w.heap.size w w' := by
  unfold maxLen at hs
  by_cases h0 : s.size = 0
  · have hd0 : ((s.size : Int) == 0) = true := beq_iff_eq.2 (by omega)
    clear h0
    go_enter Try.func7, Try.ntmps7
    go_wp2_with (go_at_call 9; refine (sane_any _).mono ?_; rintro e w1 ⟨rfl, hb⟩)
    go_ret
    exact ⟨rfl, hb⟩
  · have hd0 : ((s.size : Int) == 0) = false := beq_eq_false_iff_ne.2 (by omega)
    by_cases hl : 2000 < s.size
    · have hd : decide ((2000 : Int) < (s.size : Int)) = true := by simp; omega
      go_enter Try.func7, Try.ntmps7
      go_wp2_with (go_at_call 9; refine (sane_any _).mono ?_; rintro e w1 ⟨rfl, hb⟩)
      go_ret
      exact ⟨rfl, hb⟩
    · have hd : decide ((2000 : Int) < (s.size : Int)) = false := by simp; omega
      have hx0 : 0 ≤ (x : Int) % (8 * s.size) := Int.emod_nonneg _ (by omega)
      have hx1 : (x : Int) % (8 * s.size) < 8 * s.size := Int.emod_lt_of_pos _ (by omega)
      have hn0 : ¬ (8 * (s.size : Int)) = 0 := by omega
      have FF := Lib.hid (fun w => flip1S_any s _ w (by omega) hx0 hx1)
      have h8 := Crc.flip1_reg_ne (m := 0) (d := 7) (by decide) (by decide) (r := 0) (by decide) (bl s) ((x : Int) % (8 * s.size)).toNat (by rw [bl_len]; omega)
      have h16 := Crc.flip1_reg_ne (m := 8) (d := 4129) (by decide) (by decide) (r := 65535) (by decide) (bl s) ((x : Int) % (8 * s.size)).toNat (by rw [bl_len]; omega)
      have F8 := Lib.hid (fun w => sum8_any s w (by unfold maxLen; omega))
      have F16 := Lib.hid (fun w => sum16_any s w (by unfold maxLen; omega))
      have G8 := Lib.hid (fun w => sum8L_any (Crc.flip1 (bl s) ((x : Int) % (8 * s.size)).toNat) w (by rw [Crc.flip1_length, bl_len]; omega))
      have G16 := Lib.hid (fun w => sum16L_any (Crc.flip1 (bl s) ((x : Int) % (8 * s.size)).toNat) w (by rw [Crc.flip1_length, bl_len]; omega))
      replace h8 : sum8 (Crc.flip1 (bl s) ((x : Int) % (8 * s.size)).toNat) ≠ sum8 (bl s) := h8
      replace h16 : sum16 (Crc.flip1 (bl s) ((x : Int) % (8 * s.size)).toNat) ≠ sum16 (bl s) := h16
      generalize sum8 (Crc.flip1 (bl s) ((x : Int) % (8 * s.size)).toNat) = q8 at *
      generalize sum16 (Crc.flip1 (bl s) ((x : Int) % (8 * s.size)).toNat) = q16 at *
      generalize Crc.flip1 (bl s) ((x : Int) % (8 * s.size)).toNat = t at *
      generalize sum8 (bl s) = p8 at *
      generalize sum16 (bl s) = p16 at *
      have e8 : ((p8 : Int) != (q8 : Int)) = true := by rw [bne_iff_ne]; omega
      have e16 : ((p16 : Int) != (q16 : Int)) = true := by rw [bne_iff_ne]; omega
      have f8 : ((p8 : Int) == (q8 : Int)) = false := beq_eq_false_iff_ne.2 (by omega)
      have f16 : ((p16 : Int) == (q16 : Int)) = false := beq_eq_false_iff_ne.2 (by omega)
      clear h8 h16 h0
      go_enter Try.func7, Try.ntmps7
      go_wp2_with fail
      refine (FF.out _).mono ?_
      rintro e w1 ⟨rfl, hb1⟩
      go_wp2_with fail
      refine (F8.out _).mono ?_
      rintro e w2 ⟨rfl, rfl⟩
      go_wp2_with fail
      refine (G8.out _).mono ?_
      rintro e w2 ⟨rfl, rfl⟩
      go_wp2_with fail
      refine (F16.out _).mono ?_
      rintro e w2 ⟨rfl, rfl⟩
      go_wp2_with fail
      refine (G16.out _).mono ?_
      rintro e w2 ⟨rfl, rfl⟩
      go_wp2_with (go_at_call 9; refine (sane_any _).mono ?_; rintro e w3 ⟨rfl, hb⟩)
      go_ret
      exact ⟨rfl, hb1.trans (hb.mono hb1.size)⟩

theorem lawBits_walk (s : ByteArray) (x : Int) (w : World) (hs : s.size ≤ maxLen) (hx : (Lit.int .u16 x).wf = true) :
    Calls Try.prog 7 #[.string s, .int .u16 x] w fun e w' => e = .returned (.bool true) ∧ Below w.heap.size w w' := by
  obtain ⟨x, rfl, hx2⟩ := u16_nat hx
  exact lawBits_nat s x w hs hx2

set_option maxRecDepth 100000 in
theorem lawBits_lifted (os : Os) (started : os.Started) (H : Type) (enc : TypeId × Value → H) :
    ReturnsInHanded {} Try.checked os 7 .any (Rows.crcBitsSpec.pre6 enc Try.prog Try.f7 Rows.crcBitsRow.domain false) (Rows.crcBitsSpec.post enc Try.prog Try.f7 false true false false) := by
  refine returnsInHanded_of_change (C := Try.checked) own started (by kernel_rfl) Try.func7
    (ChangeSpec.witness6 (enc := enc) (C := Try.checked) false ⟨#[], #[.string ⟨#[]⟩, .int .u16 0], []⟩ 8 (by kernel_rfl) (by kernel_rfl) (by kernel_rfl) (by kernel_rfl)) ?_
  intro W base args ds gs before hval0 hW hcnd _
  have hval : ∀ (j : Nat) t v, Try.f7.params[j]? = some t → args[j]? = some v → Value.okWide Try.prog W .any base t v := hval0
  have hW' := hW
  obtain ⟨p, q, hA0, hV, rfl, hfz, hnd⟩ := hW
  have hA : DataW.TrodAll enc Try.prog W 0 (fun _ => true) true Try.f7.params.toList args.toList ds p := hA0
  rw [Try.params7] at hA hval
  obtain ⟨v0, vs0, d0, ds0, p0, q0, hargs, rfl, rfl, h0, r0⟩ := trodAll_cons hA
  obtain ⟨v1, vs1, d1, ds1, p1, q1, rfl, rfl, rfl, h1, r1⟩ := trodAll_cons r0
  obtain ⟨rfl, rfl, rfl⟩ := trodAll_nil r1
  obtain rfl : args = #[v0, v1] := by cases args; simp_all
  obtain ⟨rfl, rfl⟩ := trodVars_none hV
  obtain ⟨s, rfl, rfl, rfl, g0⟩ := ChangeMaps.open_string Try.underlying9 (hval 0 9 v0 rfl rfl) h0
  obtain ⟨x, rfl, rfl, rfl, g1⟩ := open_int Try.underlying27 (hval 1 27 v1 rfl rfl) h1
  clear hA0 hval0
  refine (lawBits_walk s x W g0 g1).mono fun e W' ⟨he, bel⟩ => ?_
  subst he
  exact ⟨_, rfl, _, _, _, [], _, [], hW', trodAll_mk1 (shut_bool Try.underlying4 _), (trodAll_cons_mk (ChangeMaps.shut_string Try.underlying9 g0) (trodAll_cons_mk (shut_int Try.underlying27 g1) trodAll_mk0)), rfl, bel.frame _, fun h => by cases h⟩

theorem lawBits_over : Rows.crcBitsRow.holds Try.pinned (OpenSpec.ofChange Rows.crcBitsSpec) :=
  OpenClaim.holds_of_wide 7 Try.f7 rfl rfl rfl rfl rfl rfl rfl ⟨rfl, rfl, rfl, rfl, rfl⟩ rfl rfl rfl rfl rfl (by kernel_rfl) Try.func7 (by kernel_rfl)
    (of_decide_eq_true (by kernel_rfl)) (by unfold Func.isWrapper; first | (rw [if_pos (by decide +kernel)]; kernel_rfl) | (rw [if_neg (by decide +kernel)]; exact ⟨rfl, rfl⟩))
    (fun os started H enc _ => lawBits_lifted os started H enc)

theorem crcBits_holds : Rows.CrcBitsSaid := lawBits_over
#print axioms crcBits_holds
end Go.Proofs.Ytebfdijdffmenaa
