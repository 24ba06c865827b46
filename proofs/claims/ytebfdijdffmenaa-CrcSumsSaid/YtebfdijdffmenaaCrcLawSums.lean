/- The law CrcSums: both sums, and what is sealed and opened, are the reference's. No condition. -/
import Derived.Test.YtebfdijdffmenaaCrcLawBits
namespace Go.Proofs.Ytebfdijdffmenaa
open Go.RowKit Go.ChangeShapes Go.WideShapes Go.ChangeAt

theorem seal_eq_iff {l : List UInt8} (h : 2 ≤ l.length) : (sealL (l.take (l.length - 2)) == l) = openOk l := by
  rw [openOk_at h, Bool.eq_iff_iff, beq_iff_eq, beq_iff_eq]
  constructor
  · intro he
    have hl : (l.take (l.length - 2)).length = l.length - 2 := by rw [List.length_take]; omega
    have h2 : (sealL (l.take (l.length - 2))).drop (l.length - 2) = endL (l.take (l.length - 2)) := List.drop_left' hl
    rw [he] at h2
    exact h2
  · intro he
    unfold sealL
    rw [← he, List.take_append_drop]

set_option maxRecDepth 100000 in
set_option maxHeartbeats 400000 in
theorem refOpen_any (s : ByteArray) (w : World) (hs : s.size ≤ 1000000) :
    Calls Try.prog 11 #[.string s] w fun e w' => e = .returned (.tuple #[.string ⟨(openS (bl s)).toArray⟩, .int .i64 (openE (bl s))]) ∧ Below w.heap.size w w' := by
  by_cases h2 : s.size < 2
  · have hd : decide ((s.size : Int) < 2) = true := by simp; omega
    go_enter Try.func11, Try.ntmps11
    go_wp2
    go_ret2
    have hl : (bl s).length < 2 := by rw [bl_len]; exact h2
    refine ⟨ret_open (a := ⟨#[]⟩) (b := 4) ?_ ?_, Below.refl _ _⟩
    · simp [openS, openOk_small hl]
    · unfold openE; rw [if_pos hl]
  · have hd : decide ((s.size : Int) < 2) = false := by simp; omega
    have c1 : (2 : Int) ≤ s.size := by omega
    have c2 : (s.size : Int) - 2 ≤ s.size := by omega
    have c3 : (0 : Int) ≤ (s.size : Int) - 2 := by omega
    have hcut : ((s.size : Int) - 2).toNat = s.size - 2 := by omega
    have hl : 2 ≤ (bl s).length := by rw [bl_len]; omega
    have hk := seal_eq_iff hl
    rw [bl_len, ← bl_take] at hk
    have FS := Lib.hid (fun w => refSeal_any (s.extract 0 (s.size - 2)) w (by simp; omega))
    have HL := Lib.hid hl
    have HK := Lib.hid hk
    clear hl hk
    go_enter Try.func11, Try.ntmps11
    go_wp2_with fail
    refine (FS.out _).mono ?_
    rintro e w1 ⟨rfl, hb⟩
    clear hcut
    go_wp2_with fail
    all_goals
      rename_i h
      rw [ByteArray.toList_eq] at h
      have hk := HK.out
      have h' := hk.symm.trans h
      go_ret2
    · refine ⟨ret_open (a := s.extract 0 (s.size - 2)) (b := 0) ?_ ?_, hb⟩
      · simp only [openS, h', if_true]; rw [← bl_mk (s.extract 0 (s.size - 2)), bl_take, bl_len]
      · unfold openE; rw [if_neg (by have := HL.out; omega), h']; rfl
    · refine ⟨ret_open (a := ⟨#[]⟩) (b := 5) ?_ ?_, hb⟩
      · simp [openS, h']
      · unfold openE; rw [if_neg (by have := HL.out; omega), h']; rfl
set_option maxRecDepth 100000 in
set_option maxHeartbeats 2000000 in
theorem lawSums_walk (s : ByteArray) (w : World) (hs : s.size ≤ maxLen) :
    Calls Try.prog 3 #[.string s] w fun e w' => e = .returned (.bool true) ∧ Below w.heap.size w w' := by
  have hsm := hs
  unfold maxLen at hs
  by_cases hl : 5000 < s.size
  · have hd : decide ((5000 : Int) < (s.size : Int)) = true := by simp; omega
    go_enter Try.func3, Try.ntmps3
    go_wp2_with (go_at_call 9; refine (sane_any _).mono ?_; rintro e w1 ⟨rfl, hb⟩)
    go_ret
    exact ⟨rfl, hb⟩
  · have hd : decide ((5000 : Int) < (s.size : Int)) = false := by simp; omega
    have hq : ((sum16 (bl s) : Int) == (sum16 (bl s) : Int)) = true := beq_self_eq_true _
    have hq8 : ((sum8 (bl s) : Int) == (sum8 (bl s) : Int)) = true := beq_self_eq_true _
    have F0 := Lib.hid (fun w => open_any s w (by omega))
    have F1 := Lib.hid (fun w => refOpen_any s w (by omega))
    have F2 := Lib.hid (fun w => seal_any s w (by omega))
    have F3 := Lib.hid (fun w => refSeal_any s w (by omega))
    have F4 := Lib.hid (fun w => openSeal_any (bl s) w (by rw [bl_len]; omega))
    rw [bl_mk] at F4
    have F5 := Lib.hid (fun w => sum16_any s w hsm)
    have F6 := Lib.hid (fun w => refSum16_any s w hsm)
    have F7 := Lib.hid (fun w => sum8_any s w hsm)
    have F8 := Lib.hid (fun w => refSum8_any s w hsm)
    have F9 := Lib.hid (fun w => sum16L_any (sealL (bl s)) w (by rw [sealL_length, bl_len]; omega))
    rw [sum16_seal] at F9
    generalize openS (bl s) = os_ at *
    generalize openE (bl s) = oe at *
    go_enter Try.func3, Try.ntmps3
    go_wp2_with fail
    refine (F0.out _).mono ?_
    rintro e w1 ⟨rfl, hb1⟩
    go_wp2_with fail
    refine (F1.out _).mono ?_
    rintro e w2 ⟨rfl, hb2⟩
    have h2 := hb1.trans (hb2.mono hb1.size)
    go_wp2_with fail
    refine (F2.out _).mono ?_
    rintro e w3 ⟨rfl, hb3⟩
    have h3 := h2.trans (hb3.mono h2.size)
    go_wp2_with fail
    refine (F4.out _).mono ?_
    rintro e w4 ⟨rfl, hb4⟩
    have h4 := h3.trans (hb4.mono h3.size)
    clear hb1 hb2 hb3 hb4 h2 h3
    go_wp2_with fail
    refine (F5.out _).mono ?_
    rintro e w5 ⟨rfl, rfl⟩
    go_wp2_with fail
    refine (F6.out _).mono ?_
    rintro e w5 ⟨rfl, rfl⟩
    go_wp2_with fail
    refine (F7.out _).mono ?_
    rintro e w5 ⟨rfl, rfl⟩
    go_wp2_with fail
    refine (F8.out _).mono ?_
    rintro e w5 ⟨rfl, rfl⟩
    go_wp2_with fail
    refine (F2.out _).mono ?_
    rintro e w6 ⟨rfl, hb6⟩
    have h6 := h4.trans (hb6.mono h4.size)
    go_wp2_with fail
    refine (F3.out _).mono ?_
    rintro e w7 ⟨rfl, hb7⟩
    have h7 := h6.trans (hb7.mono h6.size)
    go_wp2_with fail
    refine (F2.out _).mono ?_
    rintro e w8 ⟨rfl, hb8⟩
    have h8 := h7.trans (hb8.mono h7.size)
    go_wp2_with fail
    refine (F9.out _).mono ?_
    rintro e w9 ⟨rfl, rfl⟩
    go_wp2_with (go_at_call 9; refine (sane_any _).mono ?_; rintro e w9 ⟨rfl, hb⟩)
    go_ret
    exact ⟨rfl, h8.trans (hb.mono h8.size)⟩

set_option maxRecDepth 100000 in
theorem lawSums_lifted (os : Os) (started : os.Started) (H : Type) (enc : TypeId × Value → H) :
    ReturnsInHanded {} Try.checked os 3 .any (Rows.crcSumsSpec.pre6 enc Try.prog Try.f3 Rows.crcSumsRow.domain false) (Rows.crcSumsSpec.post enc Try.prog Try.f3 false true false false) := by
  refine returnsInHanded_of_change (C := Try.checked) own started (by kernel_rfl) Try.func3
    (ChangeSpec.witness6 (enc := enc) (C := Try.checked) false ⟨#[], #[.string ⟨#[]⟩], []⟩ 8 (by kernel_rfl) (by kernel_rfl) (by kernel_rfl) (by kernel_rfl)) ?_
  intro W base args ds gs before hval0 hW hcnd _
  have hval : ∀ (j : Nat) t v, Try.f3.params[j]? = some t → args[j]? = some v → Value.okWide Try.prog W .any base t v := hval0
  have hW' := hW
  obtain ⟨p, q, hA0, hV, rfl, hfz, hnd⟩ := hW
  have hA : DataW.TrodAll enc Try.prog W 0 (fun _ => true) true Try.f3.params.toList args.toList ds p := hA0
  rw [Try.params3] at hA hval
  obtain ⟨v0, vs0, d0, ds0, p0, q0, hargs, rfl, rfl, h0, r0⟩ := trodAll_cons hA
  obtain ⟨rfl, rfl, rfl⟩ := trodAll_nil r0
  obtain rfl : args = #[v0] := by cases args; simp_all
  obtain ⟨rfl, rfl⟩ := trodVars_none hV
  obtain ⟨s, rfl, rfl, rfl, g0⟩ := ChangeMaps.open_string Try.underlying9 (hval 0 9 v0 rfl rfl) h0
  clear hA0 hval0
  refine (lawSums_walk s W g0).mono fun e W' ⟨he, bel⟩ => ?_
  subst he
  exact ⟨_, rfl, _, _, _, [], _, [], hW', trodAll_mk1 (shut_bool Try.underlying4 _), (trodAll_cons_mk (ChangeMaps.shut_string Try.underlying9 g0) trodAll_mk0), rfl, bel.frame _, fun h => by cases h⟩

theorem lawSums_over : Rows.crcSumsRow.holds Try.pinned (OpenSpec.ofChange Rows.crcSumsSpec) :=
  OpenClaim.holds_of_wide 3 Try.f3 rfl rfl rfl rfl rfl rfl rfl ⟨rfl, rfl, rfl, rfl, rfl⟩ rfl rfl rfl rfl rfl (by kernel_rfl) Try.func3 (by kernel_rfl)
    (of_decide_eq_true (by kernel_rfl)) (by unfold Func.isWrapper; first | (rw [if_pos (by decide +kernel)]; kernel_rfl) | (rw [if_neg (by decide +kernel)]; exact ⟨rfl, rfl⟩))
    (fun os started H enc _ => lawSums_lifted os started H enc)

theorem crcSums_holds : Rows.CrcSumsSaid := lawSums_over
#print axioms crcSums_holds
end Go.Proofs.Ytebfdijdffmenaa
