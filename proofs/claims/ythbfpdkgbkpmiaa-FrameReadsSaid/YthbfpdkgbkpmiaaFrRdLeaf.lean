/- What the reference reads out of a text: numbers, bits, sets, and the first error. No statement of the seat is proved here. -/
import Derived.Test.YthbfpdkgbkpmiaaG30
import Derived.Test.YthbfpdkgbkpmiaaG12
import Derived.Test.YthbfpdkgbkpmiaaG10
import Derived.Test.YthbfpdkgbkpmiaaBag
import Derived.Test.YthbfpdkgbkpmiaaG21
namespace Go.Proofs.Ythbfpdkgbkpmiaa
open Go.RowKit Frm

theorem seal_eq_iff {l : List UInt8} (h : 2 ≤ l.length) : (sealL (l.take (l.length - 2)) == l) = openOk l := by
  rw [openOk_at h, Bool.eq_iff_iff, beq_iff_eq, beq_iff_eq]
  constructor
  · intro he
    have hl : (l.take (l.length - 2)).length = l.length - 2 := by rw [List.length_take]; omega
    have h2 : (sealL (l.take (l.length - 2))).drop (l.length - 2) = endL (l.take (l.length - 2)) := List.drop_left' hl
    rw [he] at h2
    exact h2
  · intro he
    unfold sealL
    rw [← he, List.take_append_drop]

set_option maxRecDepth 100000 in
set_option maxHeartbeats 400000 in
theorem refOpen_any (s : ByteArray) (w : World) (hs : s.size ≤ 1000000) :
    Calls Try.prog 72 #[.string s] w fun e w' => e = .returned (.tuple #[.string ⟨(openS (bl s)).toArray⟩, .int .i64 (openE (bl s))]) ∧ Below w.heap.size w w' := by
  by_cases h2 : s.size < 2
  · have hd : decide ((s.size : Int) < 2) = true := by simp; omega
    go_enter Try.func72, Try.ntmps72
    go_wp2
    go_ret2
    have hl : (bl s).length < 2 := by rw [bl_len]; exact h2
    refine ⟨ret_open (a := ⟨#[]⟩) (b := 4) ?_ ?_, Below.refl _ _⟩
    · simp [openS, openOk_small hl]
    · unfold openE; rw [if_pos hl]
  · have hd : decide ((s.size : Int) < 2) = false := by simp; omega
    have c1 : (2 : Int) ≤ s.size := by omega
    have c2 : (s.size : Int) - 2 ≤ s.size := by omega
    have c3 : (0 : Int) ≤ (s.size : Int) - 2 := by omega
    have hcut : ((s.size : Int) - 2).toNat = s.size - 2 := by omega
    have hl : 2 ≤ (bl s).length := by rw [bl_len]; omega
    have hk := seal_eq_iff hl
    rw [bl_len, ← bl_take] at hk
    have FS := Lib.hid (fun w => refSeal_any (s.extract 0 (s.size - 2)) w (by simp; omega))
    have HL := Lib.hid hl
    have HK := Lib.hid hk
    clear hl hk
    go_enter Try.func72, Try.ntmps72
    go_wp2_with fail
    refine (FS.out _).mono ?_
    rintro e w1 ⟨rfl, hb⟩
    clear hcut
    go_wp2_with fail
    all_goals
      rename_i h
      rw [ByteArray.toList_eq] at h
      have hk := HK.out
      have h' := hk.symm.trans h
      go_ret2
    · refine ⟨ret_open (a := s.extract 0 (s.size - 2)) (b := 0) ?_ ?_, hb⟩
      · simp only [openS, h', if_true]; rw [← bl_mk (s.extract 0 (s.size - 2)), bl_take, bl_len]
      · unfold openE; rw [if_neg (by have := HL.out; omega), h']; rfl
    · refine ⟨ret_open (a := ⟨#[]⟩) (b := 5) ?_ ?_, hb⟩
      · simp [openS, h']
      · unfold openE; rw [if_neg (by have := HL.out; omega), h']; rfl

set_option maxRecDepth 100000 in
set_option maxHeartbeats 1000000 in
theorem refValue_any (s : ByteArray) (at_ size : Nat) (w : World) (hs : size ≤ 8) (hl : at_ + size ≤ s.size) (hm : s.size ≤ 1000000) :
    Calls Try.prog 48 #[.string s, .int .i64 at_, .int .i64 size] w fun e w' => e = .returned (.int .u64 (val (bl s) at_ size : Nat)) ∧ w = w' := by
  obtain ⟨⟨l⟩⟩ := s
  have hll : (⟨⟨l⟩⟩ : ByteArray).size = l.length := rfl
  rw [hll] at hl hm
  have hbl : bl ⟨⟨l⟩⟩ = l := rfl
  rw [hbl]
  go_enter Try.func48, Try.ntmps48
  go_wp2_with fail
  go_loopw [7, 8] (fun r v wr => ∃ k : Nat, k ≤ size ∧ v = .int .i64 k ∧ r = .int .u64 (valL ((l.drop at_).take k) : Nat) ∧ w = wr) (fun _ v _ => size - (intOf v).toNat)
  case atStart => exact ⟨0, Nat.zero_le _, rfl, by simp [valL], rfl⟩
  case round =>
    obtain ⟨k, hk, rfl, rfl, hww⟩ := hrel
    subst hww
    by_cases hlt : k < size
    · have hkl : at_ + k < l.length := by omega
      have hkl2 : at_ + k < (⟨⟨l⟩⟩ : ByteArray).size := hkl
      have hkd : k < (l.drop at_).length := by rw [List.length_drop]; omega
      have hw8 : IntKind.i64.wrap (8 * (k : Int)) = 8 * (k : Int) := IntWalk.i64_in _ (by omega)
      have h80 : (0 : Int) ≤ 8 * (k : Int) := by omega
      have h81 : 8 * (k : Int) ≤ 64 := by omega
      have h82 : (8 * (k : Int)).toNat = 8 * k := by omega
      have h83 : ((at_ : Int) + (k : Int)).toNat = at_ + k := by omega
      have HB := Lib.hid (byte_or (l.drop at_) k hkd (by omega))
      go_wp2_with fail
      go_roundw
      case rel =>
        refine ⟨k + 1, by omega, by go_num, ?_, by first | rfl | trivial⟩
        have e2 : (l.drop at_)[k] = l[at_ + k] := by rw [List.getElem_drop]
        have e : IntKind.u64.wrap ((l[at_ + k].toNat : Nat) : Int) = ((l[at_ + k].toNat : Nat) : Int) := by rw [IntKind.wrap_u64]; have := l[at_ + k].toNat_lt; omega
        have e3 : ((⟨⟨l⟩⟩ : ByteArray)[at_ + k]'hkl2) = l[at_ + k] := rfl
        rw [e3, e, ← e2, HB.out]
      case measure => simp [intOf]; omega
    · obtain rfl : k = size := by omega
      go_wp2_with fail
      go_ret
      exact ⟨rfl, rfl⟩
theorem bit8_and (b : UInt8) (k : Nat) : (bits .and .u8 (((b.toNat : Nat) : Int) / 2 ^ k) 1 == 1) = b.toNat.testBit k := by
  have h : ∀ x : Fin 256, (bits .and .u8 ((x.val : Nat) : Int) 1 == 1) = x.val.testBit 0 := by decide +kernel
  have hb := b.toNat_lt
  have hq : b.toNat / 2 ^ k < 256 := Nat.lt_of_le_of_lt (Nat.div_le_self _ _) hb
  have e : (((b.toNat : Nat) : Int) / 2 ^ k) = ((b.toNat / 2 ^ k : Nat) : Int) := by rw [Int.natCast_ediv, Int.natCast_pow]; rfl
  rw [e, h ⟨b.toNat / 2 ^ k, hq⟩]
  show (b.toNat / 2 ^ k).testBit 0 = _
  rw [Nat.testBit_div_two_pow]
  congr 1
  omega
set_option maxRecDepth 100000 in
theorem refBit_any (s : ByteArray) (at_ k : Nat) (w : World) (hk : k < 8) (hl : at_ < s.size) (hm : s.size ≤ 1000000) :
    Calls Try.prog 49 #[.string s, .int .i64 at_, .int .i64 k] w fun e w' => e = .returned (.bool (bit (bl s) at_ k)) ∧ w = w' := by
  obtain ⟨⟨l⟩⟩ := s
  have hll : (⟨⟨l⟩⟩ : ByteArray).size = l.length := rfl
  rw [hll] at hl hm
  have hbl : bl ⟨⟨l⟩⟩ = l := rfl
  rw [hbl]
  have hkl2 : at_ < (⟨⟨l⟩⟩ : ByteArray).size := hl
  go_enter Try.func49, Try.ntmps49
  go_wp2_with fail
  have e3 : ((⟨⟨l⟩⟩ : ByteArray)[at_]'hkl2) = l[at_] := rfl
  have HB := Lib.hid (bit8_and l[at_] k)
  have HG : Hid (l.getD at_ 0 = l[at_]) := by simp [Hid, List.getD, hl]
  go_ret
  refine ⟨ret_bool ?_, rfl⟩
  unfold bit
  rw [HG.out, ← HB.out, e3]
/-- What sets reads. -/
theorem wrap_u32_val (s : List UInt8) (a : Nat) : IntKind.u32.wrap ((val s a 4 : Nat) : Int) = ((val s a 4 : Nat) : Int) := by
  have := val_lt s a 4
  rw [IntKind.wrap_u32]
  omega
set_option maxRecDepth 100000 in
theorem refSets_any (s : ByteArray) (at_ : Nat) (w : World) (hl : at_ + 8 ≤ s.size) (hm : s.size ≤ 1000000) :
    Calls Try.prog 47 #[.string s, .int .i64 at_] w fun e w' => e = .returned (.agg #[.int .u32 (val (bl s) at_ 4 : Nat), .int .u32 (val (bl s) (at_ + 4) 4 : Nat)]) ∧ Below w.heap.size w w' := by
  have F1 := Lib.hid (fun wx => refValue_any s at_ 4 wx (by omega) (by omega) hm)
  have F2 := Lib.hid (fun wx => refValue_any s (at_ + 4) 4 wx (by omega) (by omega) hm)
  have h1 := wrap_u32_val (bl s) at_
  have h2 := wrap_u32_val (bl s) (at_ + 4)
  generalize val (bl s) at_ 4 = v1 at *
  generalize val (bl s) (at_ + 4) 4 = v2 at *
  go_enter Try.func47, Try.ntmps47
  go_wp2_with fail
  refine (F1.out _).mono ?_
  rintro e w1 ⟨rfl, rfl⟩
  go_wp2_with fail
  rw [show ((at_ : Int) + 4) = ((at_ + 4 : Nat) : Int) from by omega]
  refine (F2.out _).mono ?_
  rintro e w1 ⟨rfl, rfl⟩
  go_wp2_with fail
  exact bodyPost_ret (results_cell_row Try.results47 _ _ _ _ _ (0, 0) _ rfl (heap_alloc_new w _) Try.underlying28 rfl (by kernel_rfl)) rfl (⟨rfl, by go_grown⟩)

theorem head_two (l : List UInt8) (m C : Nat) (hm : m < 256) (hC : C < 256) (h2 : 2 ≤ l.length) : (l.take 2 = headL m C) ↔ (l.getD 0 0).toNat = m ∧ (l.getD 1 0).toNat = C := by
  match l, h2 with
  | a :: b :: r, _ =>
    simp only [List.take_succ_cons, List.take_zero, headL, List.cons.injEq, and_true, List.getD_cons_zero, List.getD_cons_succ]
    constructor
    · rintro ⟨rfl, rfl⟩
      exact ⟨by simp; omega, by simp; omega⟩
    · rintro ⟨rfl, rfl⟩
      exact ⟨by simp, by simp⟩
set_option maxRecDepth 100000 in
set_option maxHeartbeats 2000000 in
theorem refOpenF_any (x : BldD) (A : Option Addr) (cap : Nat) (s : ByteArray) (k : Int) (m : Nat) (w : World) (hxn : x.cars.length ≤ 140737488355328) (hc : CarsAt w w.heap.size A x.cars) (hs : s.size ≤ maxLen) (hm : m < 256) (hk : validE x = 0 → 14 ≤ k ∧ k ≤ 1000) :
    Calls Try.prog 46 #[x.agg A cap, .string s, .int .i64 k, .int .i64 m] w fun e w' => e = .returned (.int .i64 (openEF x s k m)) ∧ Below w.heap.size w w' := by
  have FV := Lib.hid (fun wx (h : Below w.heap.size w wx) => refValid_any x A cap wx hxn ((hc.below h).more h.size))
  clear hc
  have HC := openEF_cases x s k m
  generalize openEF x s k m = E at *
  unfold maxLen at hs
  by_cases hv : validE x = 0
  · have hC := (fine_of hv).cars
    obtain ⟨hk1, hk2⟩ := hk hv
    rw [hv] at FV
    by_cases h1 : (s.size : Int) = k
    · have FO := Lib.hid (fun wx => refOpen_any s wx (by omega))
      have h2l : 2 ≤ (bl s).length := by rw [bl_len]; omega
      have HH := head_two (bl s) m x.cars.length hm (by omega) h2l
      have hoe : openE (bl s) = if openOk (bl s) = true then 0 else 5 := by unfold openE; rw [if_neg (by omega)]
      have i0 : 0 < s.size := by omega
      have i1 : 1 < s.size := by omega
      have g0 : s[0] = (bl s).getD 0 0 := by obtain ⟨⟨l⟩⟩ := s; show l[0]'i0 = l.getD 0 0; have : 0 < l.length := i0; simp [List.getD, this]
      have g1 : s[1] = (bl s).getD 1 0 := by obtain ⟨⟨l⟩⟩ := s; show l[1]'i1 = l.getD 1 0; have : 1 < l.length := i1; simp [List.getD, this]
      rw [← g0, ← g1] at HH
      have i0z : (0 : Int) < (s.size : Int) := by omega
      have i1z : (1 : Int) < (s.size : Int) := by omega
      have hHC : Hid (((bl s).take 2 ≠ headL m x.cars.length ∧ E = 30) ∨ ((bl s).take 2 = headL m x.cars.length ∧ E = openE (bl s))) := by
        rcases HC with ⟨a1, -⟩ | ⟨-, a2, -⟩ | ⟨-, -, a3, e⟩ | ⟨-, -, a3, a4, e⟩ | ⟨-, -, a3, a4, e⟩
        · exact absurd hv a1
        · exact absurd h1 a2
        · exact .inl ⟨a3, e⟩
        · exact .inr ⟨a3, by rw [hoe, a4, e]; rfl⟩
        · exact .inr ⟨a3, by rw [hoe, a4, e]; rfl⟩
      have HHH := Lib.hid HH
      clear HC hoe HH g0 g1
      have wz0 : IntKind.i64.wrap ((s[0].toNat : Nat) : Int) = ((s[0].toNat : Nat) : Int) := IntWalk.i64_in _ (by have := s[0].toNat_lt; omega)
      have wz1 : IntKind.i64.wrap ((s[1].toNat : Nat) : Int) = ((s[1].toNat : Nat) : Int) := IntWalk.i64_in _ (by have := s[1].toNat_lt; omega)
      subst h1
      by_cases hb0 : s[0].toNat = m
      · have d0 : (((s[0].toNat : Nat) : Int) != (m : Int)) = false := by simp [hb0]
        by_cases hb1 : s[1].toNat = x.cars.length
        · have d1 : (((s[1].toNat : Nat) : Int) != ((x.cars.length : Nat) : Int)) = false := by simp [hb1]
          have hEE : Hid (openE (bl s) = E) := by
            rcases hHC.out with ⟨a, -⟩ | ⟨-, e⟩
            · exact absurd (HHH.out.2 ⟨hb0, hb1⟩) a
            · exact e.symm
          clear hb0 hb1 HHH hHC
          obtain ⟨f, d, r, p, e1, e2, e3, cs⟩ := x
          simp only [BldD.agg] at *
          go_enter Try.func46, Try.ntmps46
          go_wp2_with fail
          refine (FV.out _ (by go_grown)).mono ?_
          rintro e w1 ⟨rfl, hb1⟩
          have hx1 : Below (w.heap.size + 1) (w.alloc (.cells #[.int .i64 f, .int .i64 d, .int .i64 r, .int .i64 p, .float .f64 e1, .float .f64 e2, .float .f64 e3, .slice A cs.length cap] 25)) w1 := hb1.mono (by simp)
          have HX := Lib.hid hx1
          have HB := Lib.hid (below_of_new hx1)
          clear hb1 hx1 FV
          go_wp2_with fail
          refine Bag.region (fun wx => Below w1.heap.size w1 wx) (by kernel_rfl) (by kernel_rfl) (Below.refl _ _).drew ?_
          iterate 14 (first
              | (apply Bag.walk_yes (by rfl)
                 (intro wx hx K hK
                  have c7 := (boxS (HX.out.trans (hx.mono (by have := box_size HX.out; omega)))).2.2.2.2.2.2.2.2
                  first
                    | (go_simp
                       first
                        | (go_at_K; exact hK _ hx)))
                 rfl)
              | (refine Bag.walk_no (by rfl) ?_; simp only [Act.put, List.setIfInBounds_toArray, List.set_cons_succ, List.set_cons_zero]))
          refine Bag.walk_nil (fun w2 hb2 => ?_)
          have HB2 := Lib.hid (HB.out.trans (hb2.mono HB.out.size))
          clear hb2
          go_wp2_with fail
          refine (FO.out _).mono ?_
          rintro e w3 ⟨rfl, hb3⟩
          go_wp2_with fail
          go_ret
          exact ⟨ret_int hEE.out, HB2.out.trans (hb3.mono HB2.out.size)⟩
        · have d1 : (((s[1].toNat : Nat) : Int) != ((x.cars.length : Nat) : Int)) = true := by simp; omega
          have hEE : Hid ((30 : Int) = E) := by
            rcases hHC.out with ⟨-, e⟩ | ⟨a, -⟩
            · exact e.symm
            · exact absurd (HHH.out.1 a).2 hb1
          clear hb0 hb1 HHH hHC
          obtain ⟨f, d, r, p, e1, e2, e3, cs⟩ := x
          simp only [BldD.agg] at *
          go_enter Try.func46, Try.ntmps46
          go_wp2_with fail
          refine (FV.out _ (by go_grown)).mono ?_
          rintro e w1 ⟨rfl, hb1⟩
          have hx1 : Below (w.heap.size + 1) (w.alloc (.cells #[.int .i64 f, .int .i64 d, .int .i64 r, .int .i64 p, .float .f64 e1, .float .f64 e2, .float .f64 e3, .slice A cs.length cap] 25)) w1 := hb1.mono (by simp)
          have HX := Lib.hid hx1
          have HB := Lib.hid (below_of_new hx1)
          clear hb1 hx1 FV
          go_wp2_with fail
          refine Bag.region (fun wx => Below w1.heap.size w1 wx) (by kernel_rfl) (by kernel_rfl) (Below.refl _ _).drew ?_
          iterate 14 (first
              | (apply Bag.walk_yes (by rfl)
                 (intro wx hx K hK
                  have c7 := (boxS (HX.out.trans (hx.mono (by have := box_size HX.out; omega)))).2.2.2.2.2.2.2.2
                  first
                    | (go_simp
                       first
                        | (go_at_K; exact hK _ hx)))
                 rfl)
              | (refine Bag.walk_no (by rfl) ?_; simp only [Act.put, List.setIfInBounds_toArray, List.set_cons_succ, List.set_cons_zero]))
          refine Bag.walk_nil (fun w2 hb2 => ?_)
          have HB2 := Lib.hid (HB.out.trans (hb2.mono HB.out.size))
          clear hb2
          go_wp2_with fail
          go_ret
          exact ⟨ret_int hEE.out, HB2.out⟩
      · have d0 : (((s[0].toNat : Nat) : Int) != (m : Int)) = true := by simp; omega
        have hEE : Hid ((30 : Int) = E) := by
          rcases hHC.out with ⟨-, e⟩ | ⟨a, -⟩
          · exact e.symm
          · exact absurd (HHH.out.1 a).1 hb0
        clear hb0 HHH hHC
        obtain ⟨f, d, r, p, e1, e2, e3, cs⟩ := x
        simp only [BldD.agg] at *
        go_enter Try.func46, Try.ntmps46
        go_wp2_with fail
        refine (FV.out _ (by go_grown)).mono ?_
        rintro e w1 ⟨rfl, hb1⟩
        have hx1 : Below (w.heap.size + 1) (w.alloc (.cells #[.int .i64 f, .int .i64 d, .int .i64 r, .int .i64 p, .float .f64 e1, .float .f64 e2, .float .f64 e3, .slice A cs.length cap] 25)) w1 := hb1.mono (by simp)
        have HX := Lib.hid hx1
        have HB := Lib.hid (below_of_new hx1)
        clear hb1 hx1 FV
        go_wp2_with fail
        refine Bag.region (fun wx => Below w1.heap.size w1 wx) (by kernel_rfl) (by kernel_rfl) (Below.refl _ _).drew ?_
        iterate 14 (first
            | (apply Bag.walk_yes (by rfl)
               (intro wx hx K hK
                have c7 := (boxS (HX.out.trans (hx.mono (by have := box_size HX.out; omega)))).2.2.2.2.2.2.2.2
                first
                  | (go_simp
                     first
                      | (go_at_K; exact hK _ hx)))
               rfl)
            | (refine Bag.walk_no (by rfl) ?_; simp only [Act.put, List.setIfInBounds_toArray, List.set_cons_succ, List.set_cons_zero]))
        refine Bag.walk_nil (fun w2 hb2 => ?_)
        have HB2 := Lib.hid (HB.out.trans (hb2.mono HB.out.size))
        clear hb2
        go_wp2_with fail
        go_ret
        exact ⟨ret_int hEE.out, HB2.out⟩
    · have hE : Hid ((4 : Int) = E) := by
        rcases HC with ⟨a1, -⟩ | ⟨-, -, e⟩ | ⟨-, a2, -⟩ | ⟨-, a2, -⟩ | ⟨-, a2, -⟩
        · exact absurd hv a1
        · exact e.symm
        all_goals exact absurd a2 h1
      have hsk : ((s.size : Int) != k) = true := by simp [h1]
      clear HC
      obtain ⟨f, d, r, p, e1, e2, e3, cs⟩ := x
      simp only [BldD.agg] at *
      go_enter Try.func46, Try.ntmps46
      go_wp2_with fail
      refine (FV.out _ (by go_grown)).mono ?_
      rintro e w1 ⟨rfl, hb1⟩
      have hx1 : Below (w.heap.size + 1) (w.alloc (.cells #[.int .i64 f, .int .i64 d, .int .i64 r, .int .i64 p, .float .f64 e1, .float .f64 e2, .float .f64 e3, .slice A cs.length cap] 25)) w1 := hb1.mono (by simp)
      have HX := Lib.hid hx1
      have HB := Lib.hid (below_of_new hx1)
      clear hb1 hx1 FV
      go_wp2_with fail
      go_ret
      exact ⟨ret_int hE.out, HB.out⟩
  · have hE : Hid ((1 : Int) = E) := by
      rcases HC with ⟨-, e⟩ | ⟨a1, -⟩ | ⟨a1, -⟩ | ⟨a1, -⟩ | ⟨a1, -⟩
      · exact e.symm
      all_goals exact absurd a1 hv
    have hne : (validE x != 0) = true := bne_iff_ne.2 hv
    clear HC hk
    generalize validE x = V at *
    obtain ⟨f, d, r, p, e1, e2, e3, cs⟩ := x
    simp only [BldD.agg] at *
    go_enter Try.func46, Try.ntmps46
    go_wp2_with fail
    refine (FV.out _ (by go_grown)).mono ?_
    rintro e w1 ⟨rfl, hb1⟩
    have hx1 : Below (w.heap.size + 1) (w.alloc (.cells #[.int .i64 f, .int .i64 d, .int .i64 r, .int .i64 p, .float .f64 e1, .float .f64 e2, .float .f64 e3, .slice A cs.length cap] 25)) w1 := hb1.mono (by simp)
    have HX := Lib.hid hx1
    have HB := Lib.hid (below_of_new hx1)
    clear hb1 hx1 FV
    go_wp2_with fail
    go_ret
    exact ⟨ret_int hE.out, HB.out⟩
end Go.Proofs.Ythbfpdkgbkpmiaa
