/- The law CrcSwaps: a sealed string in which two different neighbouring bytes have been exchanged is not opened. No condition. -/
import Derived.Test.YtebfdijdffmenaaCrcLawBits
namespace Go.Proofs.Ytebfdijdffmenaa
open Go.RowKit Go.ChangeShapes Go.WideShapes Go.ChangeAt

theorem FlipRel.drew {w W : World} {g : Nat} {l : List UInt8} (h : FlipRel w g l W) : FlipRel w g l W.drew := ⟨h.1, h.2.1.drew, h.2.2⟩
theorem conv_bytes (w : World) (l : List UInt8) : ∃ c R fr, (convert 9 33 (.string ⟨l.toArray⟩)).run Try.prog w = .ok (.slice (some ⟨w.heap.size, 0, none⟩) l.length c) (w.drew.alloc (.cells R 5 (fr, fr + 1))) ∧
    FlipRel w w.heap.size l (w.alloc (.cells R 5 (fr, fr + 1))) := by
  have hz : (⟨l.toArray⟩ : ByteArray).size = l.length := List.size_toArray ..
  have hconv := run_bytes_of_string (P := Try.prog) w 9 33 5 ⟨l.toArray⟩ (by kernel_rfl) (by kernel_rfl) (by kernel_rfl)
  have hnew := flipRel_new w ⟨l.toArray⟩ 5 (grownCap w (⟨l.toArray⟩ : ByteArray).size 0 5) (bytesRow ⟨l.toArray⟩ (grownCap w (⟨l.toArray⟩ : ByteArray).size 0 5)).size (by simp only [bytesRow, Array.size_append, Array.size_map, Array.size_replicate]; show l.toArray.size ≤ l.toArray.size + _; omega)
  rw [hz] at hconv hnew
  exact ⟨_, _, _, hconv, hnew.1, (Below.refl _ _).alloc (Nat.le_refl _) _, hnew.2.2⟩

theorem swap_cells {w W : World} {g k n : Nat} {l : List UInt8} {a b : UInt8} (hx : FlipRel w g l W) (hn : l.length = n) (hk : k + 1 < n) (ha : a = l.getD k 0) (hb : b = l.getD (k + 1) 0) :
    W.cell? ⟨g, k, none⟩ = some (.int .u8 ((a.toNat : Nat) : Int)) ∧ W.cell? ⟨g, k + 1, none⟩ = some (.int .u8 ((b.toNat : Nat) : Int)) ∧ W.frozen? ⟨g, k, none⟩ = false ∧ W.frozen? ⟨g, k + 1, none⟩ = false := by
  have h1 := hx.1 k (by omega)
  have h2 := hx.1 (k + 1) (by omega)
  rw [← ha] at h1
  rw [← hb] at h2
  exact ⟨h1.1, h2.1, h1.2, h2.2⟩

theorem swap_open {l : List UInt8} {k : Nat} {a b : UInt8} (hk : k + 1 < l.length + 2) (ha : a = (sealL l).getD k 0) (hb : b = (sealL l).getD (k + 1) 0) (hab : a ≠ b) :
    openE (((sealL l).set k b).set (k + 1) a) = 5 := by
  have hl := sealL_length l
  refine openE_bad (by rw [List.length_set, List.length_set, hl]; omega) fun h => ?_
  have hk' : k + 1 < (sealL l).length := by omega
  have ea : a = (sealL l)[k] := by rw [ha]; simp [List.getD, show k < (sealL l).length from by omega]
  have eb : b = (sealL l)[k + 1] := by rw [hb]; simp [List.getD, hk']
  have := Crc.swap_ne (r := 65535) (l := sealL l) (k := k) (by omega) hk' (by rw [← ea, ← eb]; exact hab)
  rw [← ea, ← eb] at this
  refine this ?_
  show sum16 _ = sum16 _
  rw [h, sum16_seal]

set_option maxRecDepth 100000 in
set_option maxHeartbeats 2000000 in
theorem lawSwaps_nat (s : ByteArray) (x : Nat) (w : World) (hs : s.size ≤ maxLen) (hx : x < 65536) :
    Calls Try.prog 8 #[.string s, .int .u16 x] w fun e w' => e = .returned (.bool true) ∧ Below w.heap.size w w' := by
  unfold maxLen at hs
  by_cases hl : 1000 < s.size
  · have hd : decide ((1000 : Int) < (s.size : Int)) = true := by simp; omega
    go_enter Try.func8, Try.ntmps8
    go_wp2_with (go_at_call 9; refine (sane_any _).mono ?_; rintro e w1 ⟨rfl, hb⟩)
    go_ret
    exact ⟨rfl, hb⟩
  · have hd : decide ((1000 : Int) < (s.size : Int)) = false := by simp; omega
    have hd2 : decide ((s.size : Int) + 2 < 2) = false := by simp; omega
    have hn0 : ¬ ((s.size : Int) + 2 - 1) = 0 := by omega
    obtain ⟨k, hk⟩ : ∃ k : Nat, (x : Int) % ((s.size : Int) + 2 - 1) = (k : Int) := ⟨((x : Int) % ((s.size : Int) + 2 - 1)).toNat, by rw [Int.toNat_of_nonneg]; exact Int.emod_nonneg _ (by omega)⟩
    have hk1 : k + 1 < s.size + 2 := by have := Int.emod_lt_of_pos (x : Int) (show (0 : Int) < (s.size : Int) + 2 - 1 by omega); omega
    go_enter Try.func8, Try.ntmps8
    go_wp2_with fail
    refine (seal_any s _ (by omega)).mono ?_
    rintro e w1 ⟨rfl, hb1⟩
    obtain ⟨c, R, fr, hconv, hrel⟩ := conv_bytes w1 (sealL (bl s))
    have hlen : (sealL (bl s)).length = s.size + 2 := by rw [sealL_length, bl_len]
    rw [hlen] at hconv
    have HR := Lib.hid hrel
    have HL := Lib.hid hlen
    clear hrel hlen
    go_wp2_with fail
    rw [hk]
    clear hk hconv
    obtain ⟨A, hA⟩ : ∃ A, A = (sealL (bl s)).getD k 0 := ⟨_, rfl⟩
    obtain ⟨B, hB⟩ : ∃ B, B = (sealL (bl s)).getD (k + 1) 0 := ⟨_, rfl⟩
    have HA := Lib.hid hA
    have HB := Lib.hid hB
    clear hA hB
    have hi0 : (0 : Int) ≤ (k : Int) + 1 := by omega
    have hi1 : (k : Int) + 1 < (s.size : Int) + 2 := by omega
    have hi2 : (k : Int) < (s.size : Int) + 2 := by omega
    have hi3 : ((k : Int) + 1).toNat = k + 1 := by omega
    have hi4 : IntKind.i64.wrap ((k : Int) + 1) = (k : Int) + 1 := IntWalk.i64_in _ (by omega)
    by_cases hAB : A = B
    · have hq : ((A.toNat : Int) == (B.toNat : Int)) = true := by rw [hAB]; exact beq_self_eq_true _
      clear hAB
      refine Bag.region (fun wx => FlipRel w1 w1.heap.size (sealL (bl s)) wx) (by kernel_rfl) (by kernel_rfl) HR.out.drew.drew ?_
      iterate 10 (first
          | (apply Bag.walk_yes (by rfl)
             (intro wx hx K hK
              obtain ⟨c0, c1, z0, z1⟩ := swap_cells hx HL.out hk1 HA.out HB.out
              go_simp
              go_at_K; exact hK _ hx)
             rfl)
          | (refine Bag.walk_no (by rfl) ?_; simp only [Act.put, List.setIfInBounds_toArray, List.set_cons_succ, List.set_cons_zero]))
      refine Bag.walk_nil (fun w3 hx => ?_)
      go_wp2_with (go_at_call 9; refine (sane_any _).mono ?_; rintro e w4 ⟨rfl, hb⟩)
      go_ret
      have h3 := hb1.trans (hx.2.1.mono hb1.size)
      exact ⟨rfl, h3.trans (hb.mono h3.size)⟩
    · have hq : ((A.toNat : Int) == (B.toNat : Int)) = false := beq_eq_false_iff_ne.2 (fun h => hAB (UInt8.toNat_inj.1 (by omega)))
      refine Bag.region (fun wx => FlipRel w1 w1.heap.size (sealL (bl s)) wx) (by kernel_rfl) (by kernel_rfl) HR.out.drew.drew ?_
      iterate 10 (first
          | (apply Bag.walk_yes (by rfl)
             (intro wx hx K hK
              obtain ⟨c0, c1, z0, z1⟩ := swap_cells hx HL.out hk1 HA.out HB.out
              go_simp
              go_at_K; exact hK _ hx)
             rfl)
          | (refine Bag.walk_no (by rfl) ?_; simp only [Act.put, List.setIfInBounds_toArray, List.set_cons_succ, List.set_cons_zero]))
      refine Bag.walk_nil (fun w3 hx => ?_)
      obtain ⟨c0, c1, z0, z1⟩ := swap_cells hx HL.out hk1 HA.out HB.out
      have HX := Lib.hid hx
      clear hx
      go_wp2_with fail
      go_region
      have h5 := swap_open (l := bl s) (k := k) (by rw [bl_len]; exact hk1) HA.out HB.out hAB
      have hrel2 := (flipRel_set (j := k + 1) (flipRel_set (j := k) HX.out (by rw [HL.out]; omega) B) (by rw [List.length_set, HL.out]; omega) A).drew
      have hlen : (((sealL (bl s)).set k B).set (k + 1) A).length = s.size + 2 := by rw [List.length_set, List.length_set, HL.out]
      generalize ((sealL (bl s)).set k B).set (k + 1) A = u at *
      have FO := Lib.hid (fun w => openBad_any u w (by omega) h5)
      have hback := bytes_back (P := Try.prog) hrel2.1 33 9 5 (s.size + 2) c hlen.symm (by kernel_rfl) (by kernel_rfl) (by kernel_rfl)
      have HY := Lib.hid hrel2
      clear hrel2 hlen h5
      go_wp2_with fail
      refine (FO.out _).mono ?_
      rintro e w4 ⟨rfl, hb4⟩
      go_wp2_with (go_at_call 9; refine (sane_any _).mono ?_; rintro e w5 ⟨rfl, hb5⟩)
      go_ret
      have h3 := hb1.trans (HY.out.2.1.mono hb1.size)
      have h4 := h3.trans (hb4.mono h3.size)
      exact ⟨rfl, h4.trans (hb5.mono h4.size)⟩

theorem lawSwaps_walk (s : ByteArray) (x : Int) (w : World) (hs : s.size ≤ maxLen) (hx : (Lit.int .u16 x).wf = true) :
    Calls Try.prog 8 #[.string s, .int .u16 x] w fun e w' => e = .returned (.bool true) ∧ Below w.heap.size w w' := by
  obtain ⟨x, rfl, hx2⟩ := u16_nat hx
  exact lawSwaps_nat s x w hs hx2

set_option maxRecDepth 100000 in
theorem lawSwaps_lifted (os : Os) (started : os.Started) (H : Type) (enc : TypeId × Value → H) :
    ReturnsInHanded {} Try.checked os 8 .any (Rows.crcSwapsSpec.pre6 enc Try.prog Try.f8 Rows.crcSwapsRow.domain false) (Rows.crcSwapsSpec.post enc Try.prog Try.f8 false true false false) := by
  refine returnsInHanded_of_change (C := Try.checked) own started (by kernel_rfl) Try.func8
    (ChangeSpec.witness6 (enc := enc) (C := Try.checked) false ⟨#[], #[.string ⟨#[]⟩, .int .u16 0], []⟩ 8 (by kernel_rfl) (by kernel_rfl) (by kernel_rfl) (by kernel_rfl)) ?_
  intro W base args ds gs before hval0 hW hcnd _
  have hval : ∀ (j : Nat) t v, Try.f8.params[j]? = some t → args[j]? = some v → Value.okWide Try.prog W .any base t v := hval0
  have hW' := hW
  obtain ⟨p, q, hA0, hV, rfl, hfz, hnd⟩ := hW
  have hA : DataW.TrodAll enc Try.prog W 0 (fun _ => true) true Try.f8.params.toList args.toList ds p := hA0
  rw [Try.params8] at hA hval
  obtain ⟨v0, vs0, d0, ds0, p0, q0, hargs, rfl, rfl, h0, r0⟩ := trodAll_cons hA
  obtain ⟨v1, vs1, d1, ds1, p1, q1, rfl, rfl, rfl, h1, r1⟩ := trodAll_cons r0
  obtain ⟨rfl, rfl, rfl⟩ := trodAll_nil r1
  obtain rfl : args = #[v0, v1] := by cases args; simp_all
  obtain ⟨rfl, rfl⟩ := trodVars_none hV
  obtain ⟨s, rfl, rfl, rfl, g0⟩ := ChangeMaps.open_string Try.underlying9 (hval 0 9 v0 rfl rfl) h0
  obtain ⟨x, rfl, rfl, rfl, g1⟩ := open_int Try.underlying27 (hval 1 27 v1 rfl rfl) h1
  clear hA0 hval0
  refine (lawSwaps_walk s x W g0 g1).mono fun e W' ⟨he, bel⟩ => ?_
  subst he
  exact ⟨_, rfl, _, _, _, [], _, [], hW', trodAll_mk1 (shut_bool Try.underlying4 _), (trodAll_cons_mk (ChangeMaps.shut_string Try.underlying9 g0) (trodAll_cons_mk (shut_int Try.underlying27 g1) trodAll_mk0)), rfl, bel.frame _, fun h => by cases h⟩

theorem lawSwaps_over : Rows.crcSwapsRow.holds Try.pinned (OpenSpec.ofChange Rows.crcSwapsSpec) :=
  OpenClaim.holds_of_wide 8 Try.f8 rfl rfl rfl rfl rfl rfl rfl ⟨rfl, rfl, rfl, rfl, rfl⟩ rfl rfl rfl rfl rfl (by kernel_rfl) Try.func8 (by kernel_rfl)
    (of_decide_eq_true (by kernel_rfl)) (by unfold Func.isWrapper; first | (rw [if_pos (by decide +kernel)]; kernel_rfl) | (rw [if_neg (by decide +kernel)]; exact ⟨rfl, rfl⟩))
    (fun os started H enc _ => lawSwaps_lifted os started H enc)

theorem crcSwaps_holds : Rows.CrcSwapsSaid := lawSwaps_over
#print axioms crcSwaps_holds
end Go.Proofs.Ytebfdijdffmenaa
