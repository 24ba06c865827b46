/- frame's flags: a byte of bits. No statement of the seat is proved here. -/
import Derived.Test.YthbfpdkgbkpmiaaG13
namespace Go.Proofs.Ythbfpdkgbkpmiaa
open Go.RowKit Frm

theorem flg_snoc : ∀ (l : List Bool) (b : Bool), flg (l ++ [b]) = flg l + 2 ^ l.length * b.toNat
  | [], b => by simp [flg]
  | a :: l, b => by
    rw [List.cons_append, flg, flg_snoc l b, flg, List.length_cons, Nat.pow_succ, Nat.mul_add, Nat.mul_comm (2 ^ l.length) 2, Nat.mul_assoc, Nat.add_assoc]
theorem flg_take {l : List Bool} {k : Nat} (h : k < l.length) : flg (l.take (k + 1)) = flg (l.take k) + 2 ^ k * (l.getD k false).toNat := by
  rw [List.take_succ_eq_append_getElem h, flg_snoc, List.length_take, Nat.min_eq_left (by omega)]
  simp [List.getD, h]
/-- One flag more. -/
theorem flag_or (l : List Bool) (k : Nat) (h : k < l.length) (hk : k < 8) (hv : l.getD k false = true) :
    bits .or .u64 ((flg (l.take k) : Nat) : Int) (IntKind.u64.wrap (2 ^ k)) = ((flg (l.take (k + 1)) : Nat) : Int) := by
  have h1 := flg_lt (l.take k)
  rw [List.length_take, Nat.min_eq_left (by omega)] at h1
  have h4 : 2 ^ k ≤ 2 ^ 7 := Nat.pow_le_pow_right (by omega) (by omega)
  rw [show ((2 : Int) ^ k) = ((2 ^ k * 1 : Nat) : Int) from by simp, IntKind.wrap_u64, show ((2 ^ k * 1 : Nat) : Int) % 18446744073709551616 = ((2 ^ k * 1 : Nat) : Int) from by omega,
    u64_or_nat _ _ (by omega) (by omega), flg_take h, or_add _ _ _ h1, hv]
  rfl
theorem bit_and (q k : Nat) (hq : q < 256) : (bits .and .u64 ((q : Int) / 2 ^ k) 1 == 1) = q.testBit k := by
  have e : ((q : Int) / 2 ^ k) = ((q / 2 ^ k : Nat) : Int) := by simp
  have hle : q / 2 ^ k ≤ q := Nat.div_le_self _ _
  rw [e]
  have hb : ∀ c : Fin 256, bits .and .u64 ((c.val : Nat) : Int) 1 = (((c.val % 2 : Nat)) : Int) := by decide +kernel
  rw [hb ⟨q / 2 ^ k, by omega⟩, Nat.testBit_eq_decide_div_mod_eq]
  simp only
  rw [Bool.eq_iff_iff]
  simp
  omega

theorem nodup_inj {α : Type} {l : List α} (h : l.Nodup) {i j : Nat} (hi : i < l.length) (hj : j < l.length) (e : l[i] = l[j]) : i = j := by
  have hp := List.pairwise_iff_getElem.1 h
  rcases Nat.lt_trichotomy i j with hlt | heq | hgt
  · exact absurd e (hp i j hi hj hlt)
  · exact heq
  · exact absurd e.symm (hp j i hj hi hgt)

set_option maxRecDepth 100000 in
set_option maxHeartbeats 2000000 in
theorem flags_any (k : Kind) (N b g gcap : Nat) (ps : List Addr) (vs : List Bool) (l : List UInt8) (x : BldD) (A : Option Addr) (cap u d : Nat) (code : Int) (w : World) (hlen : ps.length = vs.length) (hn : vs.length ≤ 8) (hN : N ≤ w.heap.size)
    (hC : k.At N w b l) (hR : k.Room l 1) (hps : ∀ j (h : j < ps.length), w.cell? ⟨g, j, none⟩ = some (.pointer (some ps[j]))) (hv : ∀ j (h : j < ps.length), w.cell? ps[j] = some (.bool (vs.getD j false)) ∧ w.frozen? ps[j] = false ∧ ps[j].block ≠ b ∧ N ≤ ps[j].block ∧ ps[j].block ≠ g) (hd : ps.Nodup) (hgb : g ≠ b) :
    Calls Try.prog 64 #[.agg (fieldsA (k.v b) x A cap u d code), .slice (some ⟨g, 0, none⟩) vs.length gcap] w fun e w' => Kept N (fun p => p.block = b ∨ p ∈ ps) w w' ∧
      ((k.num l (flg vs) 1 < 2 ^ vs.length ∧ e = .returned (.tuple #[]) ∧ k.At N w' b (k.next l (flg vs) 1) ∧ ∀ j (h : j < ps.length), w'.cell? ps[j] = some (.bool ((k.num l (flg vs) 1).testBit j))) ∨ (¬ k.num l (flg vs) 1 < 2 ^ vs.length ∧ e = refusedP code)) := by
  obtain ⟨hbw, hNb⟩ := Kind.lt hC
  have hcv : plainV (k.v b) = true := by cases k <;> rfl
  have hk0 : Kept N (fun p => p.block = b) w (w.alloc (.cells (fieldsA (k.v b) x A cap u d code) 77)) := (Kept.refl _ _ _).alloc hN _
  have hbox := fun wx (h : Kept N (fun p => p.block = b ∨ p ∈ ps) (w.alloc (.cells (fieldsA (k.v b) x A cap u d code) 77)) wx) => boxF (wx := wx) hcv (fun o => by
    intro hh
    rcases hh with hh | hh
    · exact absurd hh (by show ¬ w.heap.size = b; omega)
    · obtain ⟨j, hj, he⟩ := List.mem_iff_getElem.1 hh
      have := World.block_lt_of_cell? w _ (hv j hj).1
      rw [he] at this; simp at this) h
  have hpt := fun wx (h : Kept N (fun p => p.block = b ∨ p ∈ ps) w wx) j (hj : j < ps.length) => h.cell _ _ (hps j hj) rfl (by
    intro hh
    rcases hh with hh | hh
    · exact hgb hh
    · obtain ⟨i, hi, he⟩ := List.mem_iff_getElem.1 hh
      have := (hv i hi).2.2.2.2
      rw [he] at this; exact this rfl)
  have HB := Lib.hid hbox
  have HK0 := Lib.hid hk0
  have HP := Lib.hid hpt
  have HV := Lib.hid hv
  have HD := Lib.hid hd
  have hbk : ∀ j (h : j < ps.length), (w.alloc (.cells (fieldsA (k.v b) x A cap u d code) 77)).cell? ps[j] = some (.bool (vs.getD j false)) := fun j h => hk0.cell _ _ (hv j h).1 rfl (hv j h).2.2.1
  have HBK := Lib.hid hbk
  clear hbox hk0 hpt hv hd hps hbk
  go_enter Try.func64, Try.ntmps64
  go_wp2_with fail
  have hz0 : (w.alloc (.cells (fieldsA (k.v b) x A cap u d code) 77)).heap.size = w.heap.size + 1 := by simp
  have hC0 := Lib.hid (hC.alloc (.cells (fieldsA (k.v b) x A cap u d code) 77))
  generalize w.alloc (.cells (fieldsA (k.v b) x A cap u d code) 77) = W0 at *
  go_loop [4, 11] (fun r v => ∃ i : Nat, i ≤ vs.length ∧ v = .int .i64 i ∧ r = .int .u64 (flg (vs.take i) : Nat)) (fun _ v => vs.length - (intOf v).toNat)
  case atStart => exact ⟨0, Nat.zero_le _, rfl, by simp [flg]⟩
  case round =>
    obtain ⟨i, hi, rfl, rfl⟩ := hrel
    by_cases hlt : i < vs.length
    · have hip : i < ps.length := by omega
      have c1 := HP.out _ (HK0.out.mono (fun p hp => .inl hp)) i hip
      have c2 := HBK.out i hip
      have h81 : (i : Int) ≤ 64 := by omega
      have h80 : (0 : Int) ≤ i := by omega
      rcases Bool.eq_false_or_eq_true (vs.getD i false) with hvi | hvi
      · have HO := Lib.hid (flag_or vs i hlt (by omega) hvi)
        rw [hvi] at c2
        clear hvi
        go_wp2_with fail
        go_round
        case rel => exact ⟨i + 1, by omega, by go_num, by rw [← HO.out]⟩
        case measure => simp [intOf]; omega
      · have HO : Hid (flg (vs.take (i + 1)) = flg (vs.take i)) := by
          rw [flg_take hlt, hvi]; simp [Hid]
        rw [hvi] at c2
        clear hvi
        go_wp2_with fail
        go_round
        case rel => exact ⟨i + 1, by omega, by go_num, by rw [HO.out]⟩
        case measure => simp [intOf]; omega
    · obtain rfl : i = vs.length := by omega
      rw [List.take_length]
      cases k
      · obtain ⟨c0, c1, c2, c3, c4, c5, c6, c7, c8, c9, c10, c11⟩ := HB.out _ (Kept.refl _ _ _)
        simp only [Kind.v] at c0
        have hm := meth_wr b W0
        go_wp2_with fail
        refine (carry_wr N b (flg vs) 1 l W0 (by omega) (by omega) hR hC0.out).mono ?_
        rintro e w1 ⟨rfl, hA1, hK1⟩
        clear c0 c1 c2 c3 c4 c5 c6 c7 c8 c9 c10 c11 hm
        have hq : Kind.num .wr l (flg vs) 1 < 256 := Kind.num_lt (k := .wr) (size := 1) (Nat.lt_of_lt_of_le (flg_lt vs) (Nat.pow_le_pow_right (n := 2) (by omega) hn))
        have HK1 := Lib.hid (hK1.mono (S' := fun p => p.block = b ∨ p ∈ ps) (fun p hp => .inl hp))
        have HA1 := Lib.hid hA1
        have HV1 : Hid (∀ j (h : j < ps.length), w1.cell? ps[j] = some (.bool (vs.getD j false))) := fun j h => hK1.cell _ _ (HBK.out j h) rfl (HV.out j h).2.2.1
        clear hA1 hK1
        generalize hqe : Kind.num .wr l (flg vs) 1 = q at *
        have HQE := Lib.hid hqe
        clear hqe
        go_wp2_with fail
        have h81 : (vs.length : Int) ≤ 64 := by omega
        have h80 : (0 : Int) ≤ vs.length := by omega
        have hw1 : W0.heap.size ≤ w1.heap.size := HK1.out.below.size
        by_cases hq2 : q < 2 ^ vs.length
        · have hz : (((q : Int) / 2 ^ vs.length) == 0) = true := by
            rw [show ((q : Int) / 2 ^ vs.length) = ((q / 2 ^ vs.length : Nat) : Int) from by simp, Nat.div_eq_of_lt hq2]; rfl
          have HQ2 := Lib.hid hq2
          clear hq2
          refine Chain.chain (fun _ wx => Below w1.heap.size w1 wx) (fun _ _ => False) [6] (by kernel_rfl) (by kernel_rfl) (fun _ _ _ _ h => h.elim) (Below.refl _ _).drew ?_
          iterate 6
            (apply Chain.walk_quiet (by rfl) (by decide)
             (intro p wx _ _ hx K hK
              obtain ⟨c0, c1, c2, c3, c4, c5, c6, c7, c8, c9, c10, c11⟩ := HB.out wx (HK1.out.trans (Kept.of_below (N := N) hx (by omega) _))
              have HX := Lib.hid hx
              clear hx
              go_simp
              go_at_K
              exact hK _ HX.out)
             exact ⟨_, rfl⟩)
          apply Chain.walk_turn 0 (by rfl) (by rfl)
          · intro wx hx K hK
            have HX := Lib.hid hx
            clear hx
            go_simp
            go_at_call 55
            refine (expect_yes (Kind.v .wr b) x A cap u d code _).mono ?_
            rintro e w3 ⟨rfl, hb3⟩
            exact hK _ (HX.out.trans (hb3.mono HX.out.size))
          · exact ⟨undef, rfl⟩
          refine Chain.walk_nil (fun w2 hx => ?_)
          replace hx : Below w1.heap.size w1 w2 := hx
          have HK2 := Lib.hid (HK1.out.trans (Kept.of_below (N := N) hx (by omega) (fun p => p.block = b ∨ p ∈ ps)))
          have HA2 := Lib.hid (HA1.out.below hx)
          have HV2 : Hid (∀ j (h : j < ps.length), w2.cell? ps[j] = some (.bool (vs.getD j false))) := fun j h => (hx.cell (World.block_lt_of_cell? w1 _ (HV1.out j h))).trans (HV1.out j h)
          clear hx hz
          go_wp2_with fail
          go_loopw [37] (fun v wr => ∃ i : Nat, i ≤ vs.length ∧ v = .int .i64 i ∧ Kept N (fun p => p.block = b ∨ p ∈ ps) W0 wr ∧ Kind.At .wr N wr b (Kind.next .wr l (flg vs) 1) ∧ ∀ j (h : j < ps.length), wr.cell? ps[j] = some (.bool (if j < i then q.testBit j else vs.getD j false))) (fun v _ => vs.length - (intOf v).toNat)
          case atStart => exact ⟨0, Nat.zero_le _, rfl, HK2.out, HA2.out, fun j h => by rw [if_neg (by omega)]; exact HV2.out j h⟩
          case round =>
            obtain ⟨i, hi2, rfl, hkr, har, hvr⟩ := hrel
            by_cases hlt2 : i < vs.length
            · have hip : i < ps.length := by omega
              have d1 := HP.out _ ((HK0.out.mono (fun p hp => .inl hp)).trans hkr) i hip
              have d2 : wr.cell? ps[i] = some (.bool (vs.getD i false)) := by have := hvr i hip; rwa [if_neg (by omega)] at this
              have hpb := (HV.out i hip).2.2.1
              have hpN := (HV.out i hip).2.2.2.1
              have hpw := World.block_lt_of_cell? w _ (HV.out i hip).1
              have d3 : wr.frozen? ps[i] = false := (hkr.froz _ (by omega)).trans ((HK0.out.froz _ hpw).trans (HV.out i hip).2.1)
              have h91 : (i : Int) ≤ 64 := by omega
              have h90 : (0 : Int) ≤ i := by omega
              have hba := bit_and q i hq
              have HKR := Lib.hid hkr
              have HAR := Lib.hid har
              have HVR := Lib.hid hvr
              clear hkr har hvr
              generalize hpe : ps[i] = pi at *
              have HPE := Lib.hid hpe
              clear hpe
              go_wp2_with fail
              go_roundw
              case rel =>
                refine ⟨i + 1, by omega, by go_num, HKR.out.setCell hpN (.inr (by rw [← HPE.out]; exact List.getElem_mem hip)) _, HAR.out.setCell d2 rfl hpb _, fun j h => ?_⟩
                by_cases hij : j = i
                · subst hij
                  rw [HPE.out, World.cell?_setCell_same _ _ _ d2, if_pos (by omega)]
                · rw [World.cell?_setCell_other _ _ _ _ (by rw [← HPE.out]; intro he; exact hij (nodup_inj HD.out h hip he.symm)), HVR.out j h]
                  by_cases hji : j < i
                  · rw [if_pos hji, if_pos (by omega)]
                  · rw [if_neg hji, if_neg (by omega)]
              case measure => simp [intOf]; omega
            · obtain rfl : i = vs.length := by omega
              have HKR := Lib.hid hkr
              have HAR := Lib.hid har
              have HVR := Lib.hid hvr
              clear hkr har hvr
              go_wp2_with fail
              go_end0
              exact ⟨(HK0.out.mono (fun p hp => .inl hp)).trans HKR.out, .inl ⟨by rw [HQE.out]; exact HQ2.out, rfl, HAR.out, fun j h => by rw [HQE.out]; have := HVR.out j h; rwa [if_pos (by omega)] at this⟩⟩
        · have hz : (((q : Int) / 2 ^ vs.length) == 0) = false := by
            rw [show ((q : Int) / 2 ^ vs.length) = ((q / 2 ^ vs.length : Nat) : Int) from by simp]
            have : 1 ≤ q / 2 ^ vs.length := (Nat.one_le_div_iff (Nat.two_pow_pos _)).2 (by omega)
            exact beq_eq_false_iff_ne.2 (by omega)
          have HQ2 := Lib.hid hq2
          clear hq2
          refine Chain.chain (fun p wx => p = 0 ∧ Below w1.heap.size w1 wx) (fun e wx => e = Exit.panic [{ v := .iface 138 (.agg #[.int .i64 code]), recovered := false }] ∧ Below w1.heap.size w1 wx) [6] (by kernel_rfl) (by kernel_rfl) (fun e a' w' hdf he => ?_) ⟨rfl, (Below.refl _ _).drew⟩ ?_
          · obtain ⟨rfl, hx⟩ := he
            exact ⟨hdf, ((HK0.out.mono (fun p hp => .inl hp)).trans HK1.out).trans (Kept.of_below (N := N) hx (by omega) _), .inr ⟨by rw [HQE.out]; exact HQ2.out, rfl⟩⟩
          iterate 6
            (apply Chain.walk_quiet (by rfl) (by decide)
             (intro p wx _ _ hx K hK
              obtain ⟨c0, c1, c2, c3, c4, c5, c6, c7, c8, c9, c10, c11⟩ := HB.out wx (HK1.out.trans (Kept.of_below (N := N) hx.2 (by omega) _))
              have HX := Lib.hid hx
              clear hx
              go_simp
              go_at_K
              exact hK _ HX.out)
             exact ⟨_, rfl⟩)
          apply Chain.walk_turn 0 (by rfl) (by rfl) (a1 := Act.put _ none undef)
          · intro wx hx K hK
            have HX := Lib.hid hx
            clear hx
            go_simp
            go_at_call 55
            refine (expect_no (Kind.v .wr b) x A cap u d code _).mono ?_
            rintro e w3 ⟨rfl, hb3⟩
            exact ⟨rfl, HX.out.2.trans (hb3.mono HX.out.2.size)⟩
          · exact ⟨undef, rfl⟩
          refine Chain.walk_nil (fun w2 hx => absurd hx.1 (by decide))
      · obtain ⟨c0, c1, c2, c3, c4, c5, c6, c7, c8, c9, c10, c11⟩ := HB.out _ (Kept.refl _ _ _)
        simp only [Kind.v] at c0
        have hm := meth_rd b W0
        go_wp2_with fail
        refine (carry_rd N b (flg vs) 1 l W0 (by omega) hR hC0.out).mono ?_
        rintro e w1 ⟨rfl, hA1, hK1⟩
        clear c0 c1 c2 c3 c4 c5 c6 c7 c8 c9 c10 c11 hm
        have hq : Kind.num .rd l (flg vs) 1 < 256 := Kind.num_lt (k := .rd) (size := 1) (Nat.lt_of_lt_of_le (flg_lt vs) (Nat.pow_le_pow_right (n := 2) (by omega) hn))
        have HK1 := Lib.hid (hK1.mono (S' := fun p => p.block = b ∨ p ∈ ps) (fun p hp => .inl hp))
        have HA1 := Lib.hid hA1
        have HV1 : Hid (∀ j (h : j < ps.length), w1.cell? ps[j] = some (.bool (vs.getD j false))) := fun j h => hK1.cell _ _ (HBK.out j h) rfl (HV.out j h).2.2.1
        clear hA1 hK1
        generalize hqe : Kind.num .rd l (flg vs) 1 = q at *
        have HQE := Lib.hid hqe
        clear hqe
        go_wp2_with fail
        have h81 : (vs.length : Int) ≤ 64 := by omega
        have h80 : (0 : Int) ≤ vs.length := by omega
        have hw1 : W0.heap.size ≤ w1.heap.size := HK1.out.below.size
        by_cases hq2 : q < 2 ^ vs.length
        · have hz : (((q : Int) / 2 ^ vs.length) == 0) = true := by
            rw [show ((q : Int) / 2 ^ vs.length) = ((q / 2 ^ vs.length : Nat) : Int) from by simp, Nat.div_eq_of_lt hq2]; rfl
          have HQ2 := Lib.hid hq2
          clear hq2
          refine Chain.chain (fun _ wx => Below w1.heap.size w1 wx) (fun _ _ => False) [6] (by kernel_rfl) (by kernel_rfl) (fun _ _ _ _ h => h.elim) (Below.refl _ _).drew ?_
          iterate 6
            (apply Chain.walk_quiet (by rfl) (by decide)
             (intro p wx _ _ hx K hK
              obtain ⟨c0, c1, c2, c3, c4, c5, c6, c7, c8, c9, c10, c11⟩ := HB.out wx (HK1.out.trans (Kept.of_below (N := N) hx (by omega) _))
              have HX := Lib.hid hx
              clear hx
              go_simp
              go_at_K
              exact hK _ HX.out)
             exact ⟨_, rfl⟩)
          apply Chain.walk_turn 0 (by rfl) (by rfl)
          · intro wx hx K hK
            have HX := Lib.hid hx
            clear hx
            go_simp
            go_at_call 55
            refine (expect_yes (Kind.v .rd b) x A cap u d code _).mono ?_
            rintro e w3 ⟨rfl, hb3⟩
            exact hK _ (HX.out.trans (hb3.mono HX.out.size))
          · exact ⟨undef, rfl⟩
          refine Chain.walk_nil (fun w2 hx => ?_)
          replace hx : Below w1.heap.size w1 w2 := hx
          have HK2 := Lib.hid (HK1.out.trans (Kept.of_below (N := N) hx (by omega) (fun p => p.block = b ∨ p ∈ ps)))
          have HA2 := Lib.hid (HA1.out.below hx)
          have HV2 : Hid (∀ j (h : j < ps.length), w2.cell? ps[j] = some (.bool (vs.getD j false))) := fun j h => (hx.cell (World.block_lt_of_cell? w1 _ (HV1.out j h))).trans (HV1.out j h)
          clear hx hz
          go_wp2_with fail
          go_loopw [37] (fun v wr => ∃ i : Nat, i ≤ vs.length ∧ v = .int .i64 i ∧ Kept N (fun p => p.block = b ∨ p ∈ ps) W0 wr ∧ Kind.At .rd N wr b (Kind.next .rd l (flg vs) 1) ∧ ∀ j (h : j < ps.length), wr.cell? ps[j] = some (.bool (if j < i then q.testBit j else vs.getD j false))) (fun v _ => vs.length - (intOf v).toNat)
          case atStart => exact ⟨0, Nat.zero_le _, rfl, HK2.out, HA2.out, fun j h => by rw [if_neg (by omega)]; exact HV2.out j h⟩
          case round =>
            obtain ⟨i, hi2, rfl, hkr, har, hvr⟩ := hrel
            by_cases hlt2 : i < vs.length
            · have hip : i < ps.length := by omega
              have d1 := HP.out _ ((HK0.out.mono (fun p hp => .inl hp)).trans hkr) i hip
              have d2 : wr.cell? ps[i] = some (.bool (vs.getD i false)) := by have := hvr i hip; rwa [if_neg (by omega)] at this
              have hpb := (HV.out i hip).2.2.1
              have hpN := (HV.out i hip).2.2.2.1
              have hpw := World.block_lt_of_cell? w _ (HV.out i hip).1
              have d3 : wr.frozen? ps[i] = false := (hkr.froz _ (by omega)).trans ((HK0.out.froz _ hpw).trans (HV.out i hip).2.1)
              have h91 : (i : Int) ≤ 64 := by omega
              have h90 : (0 : Int) ≤ i := by omega
              have hba := bit_and q i hq
              have HKR := Lib.hid hkr
              have HAR := Lib.hid har
              have HVR := Lib.hid hvr
              clear hkr har hvr
              generalize hpe : ps[i] = pi at *
              have HPE := Lib.hid hpe
              clear hpe
              go_wp2_with fail
              go_roundw
              case rel =>
                refine ⟨i + 1, by omega, by go_num, HKR.out.setCell hpN (.inr (by rw [← HPE.out]; exact List.getElem_mem hip)) _, HAR.out.setCell d2 rfl hpb _, fun j h => ?_⟩
                by_cases hij : j = i
                · subst hij
                  rw [HPE.out, World.cell?_setCell_same _ _ _ d2, if_pos (by omega)]
                · rw [World.cell?_setCell_other _ _ _ _ (by rw [← HPE.out]; intro he; exact hij (nodup_inj HD.out h hip he.symm)), HVR.out j h]
                  by_cases hji : j < i
                  · rw [if_pos hji, if_pos (by omega)]
                  · rw [if_neg hji, if_neg (by omega)]
              case measure => simp [intOf]; omega
            · obtain rfl : i = vs.length := by omega
              have HKR := Lib.hid hkr
              have HAR := Lib.hid har
              have HVR := Lib.hid hvr
              clear hkr har hvr
              go_wp2_with fail
              go_end0
              exact ⟨(HK0.out.mono (fun p hp => .inl hp)).trans HKR.out, .inl ⟨by rw [HQE.out]; exact HQ2.out, rfl, HAR.out, fun j h => by rw [HQE.out]; have := HVR.out j h; rwa [if_pos (by omega)] at this⟩⟩
        · have hz : (((q : Int) / 2 ^ vs.length) == 0) = false := by
            rw [show ((q : Int) / 2 ^ vs.length) = ((q / 2 ^ vs.length : Nat) : Int) from by simp]
            have : 1 ≤ q / 2 ^ vs.length := (Nat.one_le_div_iff (Nat.two_pow_pos _)).2 (by omega)
            exact beq_eq_false_iff_ne.2 (by omega)
          have HQ2 := Lib.hid hq2
          clear hq2
          refine Chain.chain (fun p wx => p = 0 ∧ Below w1.heap.size w1 wx) (fun e wx => e = Exit.panic [{ v := .iface 138 (.agg #[.int .i64 code]), recovered := false }] ∧ Below w1.heap.size w1 wx) [6] (by kernel_rfl) (by kernel_rfl) (fun e a' w' hdf he => ?_) ⟨rfl, (Below.refl _ _).drew⟩ ?_
          · obtain ⟨rfl, hx⟩ := he
            exact ⟨hdf, ((HK0.out.mono (fun p hp => .inl hp)).trans HK1.out).trans (Kept.of_below (N := N) hx (by omega) _), .inr ⟨by rw [HQE.out]; exact HQ2.out, rfl⟩⟩
          iterate 6
            (apply Chain.walk_quiet (by rfl) (by decide)
             (intro p wx _ _ hx K hK
              obtain ⟨c0, c1, c2, c3, c4, c5, c6, c7, c8, c9, c10, c11⟩ := HB.out wx (HK1.out.trans (Kept.of_below (N := N) hx.2 (by omega) _))
              have HX := Lib.hid hx
              clear hx
              go_simp
              go_at_K
              exact hK _ HX.out)
             exact ⟨_, rfl⟩)
          apply Chain.walk_turn 0 (by rfl) (by rfl) (a1 := Act.put _ none undef)
          · intro wx hx K hK
            have HX := Lib.hid hx
            clear hx
            go_simp
            go_at_call 55
            refine (expect_no (Kind.v .rd b) x A cap u d code _).mono ?_
            rintro e w3 ⟨rfl, hb3⟩
            exact ⟨rfl, HX.out.2.trans (hb3.mono HX.out.2.size)⟩
          · exact ⟨undef, rfl⟩
          refine Chain.walk_nil (fun w2 hx => absurd hx.1 (by decide))
end Go.Proofs.Ythbfpdkgbkpmiaa
