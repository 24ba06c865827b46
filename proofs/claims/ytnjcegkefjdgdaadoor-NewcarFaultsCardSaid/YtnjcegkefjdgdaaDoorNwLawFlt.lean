/- The law NewcarFaults: a car whose movement takes longer than it may is faulty in the tick behind, gets no command any more, and stays so. No condition but the listed tables. -/
import Derived.Test.YtnjcegkefjdgdaaDoorG21
import Derived.Test.YtnjcegkefjdgdaaDoorNwSane
import Derived.Test.YtnjcegkefjdgdaaDoorG23
import Derived.Test.YtnjcegkefjdgdaaDoorCards
import Derived.Test.YtnjcegkefjdgdaaDoorTie
import Derived.SevenTiedAt
namespace Go.Proofs.YtnjcegkefjdgdaaDoor
open Go.RowKit Go.ChangeShapes Go.WideShapes Go.ChangeAt
set_option linter.unusedSimpArgs false

theorem nw_agg (n t : Nat) (g cap : Nat) : (nwD n t).agg (some ⟨g, 0, none⟩) cap = .agg #[.int .i64 (nwF n : Int), .int .i64 1, .int .i64 4000, .int .i64 (1 + (t : Int) % 7), .float .f64 4591870180066957722, .float .f64 4605380978949069210, .float .f64 4607632778762754458, .slice (some ⟨g, 0, none⟩) (nwC n) cap] := by
  unfold BldD.agg
  rw [nwD_len, show (nwD n t).park = 1 + (t : Int) % 7 by show ((1 + t % 7 : Nat) : Int) = _; omega]
  rfl
theorem flt_agg0 (t : Nat) : (fltS false (fltL t) 0).agg = .agg #[.int .i64 1, .int .i64 0, .int .i64 0, .int .i64 0, .int .i64 0, .bool false, .int .i64 0, .int .i64 1, .int .i64 0, .int .i64 0, .int .u32 0, .int .i64 0, .int .i64 0, .bool false] := by
  unfold fltS
  rw [if_pos (Nat.zero_le _)]
  rfl
theorem flt_c0 (n t g cap : Nat) (wx : World) (h : NcW (nwD n t) (some ⟨g, 0, none⟩) wx) : Calls Tryd.prog 7 #[.agg #[.int .i64 (nwF n : Int), .int .i64 1, .int .i64 4000, .int .i64 (1 + (t : Int) % 7), .float .f64 4591870180066957722, .float .f64 4605380978949069210, .float .f64 4607632778762754458, .slice (some ⟨g, 0, none⟩) (nwC n) cap], .int .i64 0, .agg #[.int .i64 0, .int .i64 0, .int .i64 0, .int .i64 0, .int .i64 0, .bool false, .int .i64 0, .int .i64 0, .int .i64 0, .int .i64 0, .int .u32 0, .int .i64 0, .int .i64 0, .bool false], .agg #[.int .i64 0, .bool true, .int .i64 2, .bool false], .int .u32 0, .agg #[.int .u32 0, .int .u32 (2 ^ (nwF n - 1) : Nat)]] wx fun e w2 => e = .returned (.tuple #[.agg #[.int .i64 1, .int .i64 0, .int .i64 0, .int .i64 0, .int .i64 0, .bool false, .int .i64 0, .int .i64 1, .int .i64 0, .int .i64 0, .int .u32 0, .int .i64 0, .int .i64 0, .bool false], .int .i64 1, .int .i64 0]) ∧ Below wx.heap.size wx w2 := by
  have hF := nwF_range n
  have hp : 2 ^ (nwF n - 1) < 4294967296 := Nat.lt_of_le_of_lt (Nat.pow_le_pow_right (by decide) (show nwF n - 1 ≤ 5 by omega)) (by decide)
  have := ncStep_any (nwD n t) (some ⟨g, 0, none⟩) cap 0 Nc.zero ⟨0, true, 2, false⟩ 0 ⟨0, 2 ^ (nwF n - 1)⟩ wx h (by rw [nwD_len]; have := nwC_range n; omega) (by decide) (by decide) ⟨(by show (0 : Nat) < 4294967296; decide), hp⟩
  rw [flt_first, nw_agg] at this
  simp only [flt_agg0] at this
  exact this
theorem flt_ct (n t i g cap : Nat) (wx : World) (h : NcW (nwD n t) (some ⟨g, 0, none⟩) wx) : Calls Tryd.prog 7 #[.agg #[.int .i64 (nwF n : Int), .int .i64 1, .int .i64 4000, .int .i64 (1 + (t : Int) % 7), .float .f64 4591870180066957722, .float .f64 4605380978949069210, .float .f64 4607632778762754458, .slice (some ⟨g, 0, none⟩) (nwC n) cap], .int .i64 0, (fltS false (fltL t) i).agg, .agg #[.int .i64 0, .bool false, .int .i64 2, .bool false], .int .u32 1, .agg #[.int .u32 0, .int .u32 0]] wx fun e w2 => e = .returned (.tuple #[(fltS false (fltL t) (i + 1)).agg, .int .i64 (fltC false (fltL t) (i + 1)), .int .i64 0]) ∧ Below wx.heap.size wx w2 := by
  have hca : (fltS false (fltL t) i).ca < 4294967296 := by unfold fltS; split; (simp only; split <;> decide); decide
  have := ncStep_any (nwD n t) (some ⟨g, 0, none⟩) cap 0 (fltS false (fltL t) i) ⟨0, false, 2, false⟩ 1 ⟨0, 0⟩ wx h (by rw [nwD_len]; have := nwC_range n; omega) hca (by decide) ⟨by decide, by decide⟩
  rw [flt_tick, nw_agg] at this
  exact this
/-- A step's answer where it does not matter. -/
theorem flt_cx (n t g cap : Nat) (s : Nc) (hca : s.ca < 4294967296) : ∃ (x : Nc) (m e : Int), ∀ wx, NcW (nwD n t) (some ⟨g, 0, none⟩) wx → Calls Tryd.prog 7 #[.agg #[.int .i64 (nwF n : Int), .int .i64 1, .int .i64 4000, .int .i64 (1 + (t : Int) % 7), .float .f64 4591870180066957722, .float .f64 4605380978949069210, .float .f64 4607632778762754458, .slice (some ⟨g, 0, none⟩) (nwC n) cap], .int .i64 0, s.agg, .agg #[.int .i64 0, .bool false, .int .i64 2, .bool false], .int .u32 1, .agg #[.int .u32 0, .int .u32 0]] wx fun e' w2 => e' = .returned (.tuple #[x.agg, .int .i64 m, .int .i64 e]) ∧ Below wx.heap.size wx w2 := by
  refine ⟨(Nc.stepF (nwD n t) 0 s ⟨0, false, 2, false⟩ 1 ⟨0, 0⟩).1, (Nc.stepF (nwD n t) 0 s ⟨0, false, 2, false⟩ 1 ⟨0, 0⟩).2.1, (Nc.stepF (nwD n t) 0 s ⟨0, false, 2, false⟩ 1 ⟨0, 0⟩).2.2, fun wx h => ?_⟩
  have := ncStep_any (nwD n t) (some ⟨g, 0, none⟩) cap 0 s ⟨0, false, 2, false⟩ 1 ⟨0, 0⟩ wx h (by rw [nwD_len]; have := nwC_range n; omega) hca (by decide) ⟨by decide, by decide⟩
  rw [nw_agg] at this
  exact this
theorem flt_cb (n t i g cap : Nat) (wx : World) (h : NcW (nwD n t) (some ⟨g, 0, none⟩) wx) : Calls Tryd.prog 8 #[.agg #[.int .i64 (nwF n : Int), .int .i64 1, .int .i64 4000, .int .i64 (1 + (t : Int) % 7), .float .f64 4591870180066957722, .float .f64 4605380978949069210, .float .f64 4607632778762754458, .slice (some ⟨g, 0, none⟩) (nwC n) cap], .int .i64 0, (fltS true (fltL t) i).agg] wx fun e w2 => e = .returned (.tuple #[(fltS true (fltL t) (i + 1)).agg, .int .i64 (fltC true (fltL t) (i + 1)), .int .i64 0]) ∧ Below wx.heap.size wx w2 := by
  have hca : (fltS true (fltL t) i).ca < 4294967296 := by unfold fltS; split; (simp only; split <;> decide); decide
  have := ncBlind_any (nwD n t) (some ⟨g, 0, none⟩) cap 0 (fltS true (fltL t) i) wx h (by rw [nwD_len]; have := nwC_range n; omega) hca
  rw [flt_blind, nw_agg] at this
  exact this
theorem fltS_cases (bl : Bool) (lim i : Nat) : (i ≤ lim ∧ ∃ q : Nat, (fltS bl lim i) = ⟨1, 0, Dr.zero, ⟨1, (i : Int), 0⟩, q, 0, 0, false⟩) ∨ (lim < i ∧ fltS bl lim i = Nc.faulty ∧ fltC bl lim i = 0) := by
  by_cases h : i ≤ lim
  · exact .inl ⟨h, _, by unfold fltS; rw [if_pos h]⟩
  · refine .inr ⟨by omega, by unfold fltS; rw [if_neg h], ?_⟩
    unfold fltC
    rw [if_neg (fun e => h e.1)]

set_option maxRecDepth 100000 in
set_option maxHeartbeats 16000000 in
theorem lawNewcarFaults_walk (n0 t0 m0 : Int) (bl : Bool) (w : World) (hT : Tabs w) (h0 : (Lit.int .u8 n0).wf = true ∧ (Lit.int .u8 t0).wf = true) (hm : (Lit.int .u8 m0).wf = true) :
    Calls Tryd.prog 4 #[.agg #[.int .u8 n0, .int .u8 t0], .int .u8 m0, .bool bl] w fun e w' => e = .returned (.bool true) ∧ Below w.heap.size w w' := by
  obtain ⟨n, rfl, hn1⟩ := u8_nat h0.1
  obtain ⟨t, rfl, hn2⟩ := u8_nat h0.2
  have hn : n < 256 ∧ t < 256 := ⟨hn1, hn2⟩
  clear h0 hn1 hn2
  obtain ⟨m, rfl, hm⟩ := u8_nat hm
  have FB := Lib.hid (fun wx => building15_any n t wx hn.1 hn.2)
  have hF := nwF_range n
  have hl1 : fltL t ≤ 3 := by unfold fltL; omega
  have em : (m : Int).tmod 20 = ((m % 20 : Nat) : Int) := by rw [Int.tmod_eq_emod_of_nonneg (by omega)]; omega
  have hm20 : m % 20 < 20 := Nat.mod_lt _ (by decide)
  generalize m % 20 = mq at *
  have um : IntKind.u8.wrap (mq : Int) = (mq : Int) := by rw [IntKind.wrap_u8]; omega
  have HB0 := Lib.hid (bxs1 w (.cells #[.int .u8 (n : Int), .int .u8 (t : Int)] 22))
  go_enter Tryd.func4, Tryd.ntmps4
  go_wp2_with fail
  refine (FB.out _).mono ?_
  rintro e w1 ⟨g, cap, rfl, hcb, hgw, hb1⟩
  have HB1 := Lib.hid (HB0.out.next hb1)
  have HCT : Hid (∀ wx, Kw w1 wx → NcW (nwD n t) (some ⟨g, 0, none⟩) wx) := Lib.hid (fun wx hb => ⟨((hcb.at_).below hb).more hb.size, hT.below (HB1.out.below.trans (hb.mono HB1.out.below.size))⟩)
  have HLM : Hid (∀ wx, Kw w1 wx → wx.cell? ⟨g, 4, none⟩ = some (.int .i64 (fltL t : Int))) := Lib.hid (fun wx hb => by
    have hC := nwC_range n
    have h4 := hcb.cell (k := 0) (by rw [nwD_len]; omega) (j := 4) (by decide)
    rw [show (nwD n t).cars.getD 0 default = nwCar (nwF n : Int) t 0 from nw_car0 n t] at h4
    exact (hb.cell (p := ⟨g, 4, none⟩) hcb.lt).trans h4)
  have FS := Lib.hid (fun wx => sane15_any wx)
  have HTW := Lib.hid (fun wx (hb : Kw w1 wx) => hT.below (HB1.out.below.trans (hb.mono HB1.out.below.size)))
  have hC := nwC_range n
  clear FB HB0 hcb hgw hT hb1 hn
  rw [nw_agg]
  have HBW1 := Lib.hid HB1.out.below
  clear HB1
  have HBR1 : Hid (Bx w1 [] w1) := Lib.hid ⟨Below.refl _ _, fun p hp => by simp at hp⟩
  go_wp2_with (with_reducible show wpList _ _ _ (Oper.mk _ (.store 27 _ _) _ _ _ _ :: _) _ _; refine Hid.out ?_)
  refine Lib.hid ?_
  have lw2 : w1.heap.size ≤ w1.heap.size := HBR1.out.below.size
  refine wpList_put rfl 27 _ _ rfl w1.heap.size #[.int .i64 (nwF n : Int), .int .i64 1, .int .i64 4000, .int .i64 (1 + (t : Int) % 7), .float .f64 4591870180066957722, .float .f64 4605380978949069210, .float .f64 4607632778762754458, .slice (some ⟨g, 0, none⟩) (nwC n) cap] _ 27 rfl rfl (heap_alloc_new w1 _) (by kernel_rfl) rfl (by kernel_rfl) ?_
  intro w2 hr2 hg2
  have HB2 : Hid (Bx w1 [(w1.heap.size, .cells #[.int .i64 (nwF n : Int), .int .i64 1, .int .i64 4000, .int .i64 (1 + (t : Int) % 7), .float .f64 4591870180066957722, .float .f64 4605380978949069210, .float .f64 4607632778762754458, .slice (some ⟨g, 0, none⟩) (nwC n) cap] 27 (0, 0))] w2) := Lib.hid ((HBR1.out.make (heap_alloc_new w1 (.cells #[.int .i64 0, .int .i64 0, .int .i64 0, .int .i64 0, .float .f64 0, .float .f64 0, .float .f64 0, .slice none 0 0] 27)) ((Below.refl w1.heap.size w1).alloc (Nat.le_refl _) _)).put HBR1.out.below.size hg2.out hr2.out (by simp only [List.mem_cons, List.not_mem_nil, or_false]; rintro p rfl <;> simp <;> omega))
  clear hr2 hg2 HBR1
  generalize w1.heap.size = gb at *
  obtain ⟨c0_0, c0_1, c0_2, c0_3, c0_4, c0_5, c0_6, c0_7⟩ := row8 (b := gb) HB2.out.r0
  have xl : w2.cell? ⟨g, 4, none⟩ = some (.int .i64 (fltL t : Int)) := HLM.out _ HB2.out.below
  have hC0 : (0 : Int) < (nwC n : Int) := by omega
  have hFw : IntKind.i64.wrap ((nwF n : Int) - 1) = ((nwF n - 1 : Nat) : Int) := by rw [IntKind.wrap_i64]; omega
  have hFu : IntKind.u64.wrap ((nwF n - 1 : Nat) : Int) = ((nwF n - 1 : Nat) : Int) := by rw [IntKind.wrap_u64]; omega
  have hsh := u32_shl (k := nwF n - 1) (by omega)
  have FC0 := Lib.hid (fun wx h => flt_c0 n t g cap wx h)
  generalize 2 ^ (nwF n - 1) = P2 at *
  have hmn : min (nwF n - 1) 32 = nwF n - 1 := by omega
  go_wp2_with fail
  refine (FC0.out _ (HCT.out _ HB2.out.below)).mono ?_
  rintro e w3 ⟨rfl, hb3⟩
  have HB3 := Lib.hid (HB2.out.next hb3)
  clear c0_0 c0_1 c0_2 c0_3 c0_4 c0_5 c0_6 c0_7 hb3 xl FC0 hsh hmn hFw hFu HB2
  go_wp2_with (with_reducible show wpList _ _ _ (Oper.mk _ (.store 38 _ _) _ _ _ _ :: _) _ _; refine Hid.out ?_)
  refine Lib.hid ?_
  have l4_0 : gb < w3.heap.size := (Array.getElem?_eq_some_iff.1 HB3.out.r0).1
  have lw4 : w1.heap.size ≤ w3.heap.size := HB3.out.below.size
  refine wpList_put rfl 38 _ _ rfl w3.heap.size #[.int .i64 1, .int .i64 0, .int .i64 0, .int .i64 0, .int .i64 0, .bool false, .int .i64 0, .int .i64 1, .int .i64 0, .int .i64 0, .int .u32 0, .int .i64 0, .int .i64 0, .bool false] _ 38 rfl rfl (heap_alloc_new w3 _) (by kernel_rfl) rfl (by kernel_rfl) ?_
  intro w4 hr4 hg4
  have HB4 : Hid (Bx w1 [(w3.heap.size, .cells #[.int .i64 1, .int .i64 0, .int .i64 0, .int .i64 0, .int .i64 0, .bool false, .int .i64 0, .int .i64 1, .int .i64 0, .int .i64 0, .int .u32 0, .int .i64 0, .int .i64 0, .bool false] 38 (0, 0)), (gb, .cells #[.int .i64 (nwF n : Int), .int .i64 1, .int .i64 4000, .int .i64 (1 + (t : Int) % 7), .float .f64 4591870180066957722, .float .f64 4605380978949069210, .float .f64 4607632778762754458, .slice (some ⟨g, 0, none⟩) (nwC n) cap] 27 (0, 0))] w4) := Lib.hid ((HB3.out.make (heap_alloc_new w3 (.cells #[.int .i64 0, .int .i64 0, .int .i64 0, .int .i64 0, .int .i64 0, .bool false, .int .i64 0, .int .i64 0, .int .i64 0, .int .i64 0, .int .u32 0, .int .i64 0, .int .i64 0, .bool false] 38)) ((Below.refl w3.heap.size w3).alloc (Nat.le_refl _) _)).put HB3.out.below.size hg4.out hr4.out (by simp only [List.mem_cons, List.not_mem_nil, or_false]; rintro p (rfl | rfl) <;> simp <;> omega))
  clear hr4 hg4 HB3
  generalize w3.heap.size = gs at *
  obtain ⟨c1_0, c1_1, c1_2, c1_3, c1_4, c1_5, c1_6, c1_7⟩ := row8 (b := gb) HB4.out.r1
  have hS0 : fltS bl (fltL t) 0 = fltS false (fltL t) 0 := by unfold fltS; rw [if_pos (Nat.zero_le _), if_pos (Nat.zero_le _)]; cases bl <;> rfl
  have hlq : gb < gs := by omega
  go_wp2_with fail
  go_loopw [12] (fun v wr => ∃ k : Nat, k ≤ fltL t + 1 + mq ∧ v = .int .i64 ((k : Int) + 1) ∧ Hid (Bx w1 [(gs, .cells #[.int .i64 (fltS bl (fltL t) k).sd, .int .i64 (fltS bl (fltL t) k).so, .int .i64 (fltS bl (fltL t) k).dr.st, .int .i64 (fltS bl (fltL t) k).dr.ti, .int .i64 (fltS bl (fltL t) k).dr.si, .bool (fltS bl (fltL t) k).dr.nu, .int .i64 (fltS bl (fltL t) k).dr.cy, .int .i64 (fltS bl (fltL t) k).mo.c, .int .i64 (fltS bl (fltL t) k).mo.t, .int .i64 (fltS bl (fltL t) k).mo.f, .int .u32 (fltS bl (fltL t) k).ca, .int .i64 (fltS bl (fltL t) k).sh, .int .i64 (fltS bl (fltL t) k).il, .bool (fltS bl (fltL t) k).fa] 38 (0, 0)), (gb, .cells #[.int .i64 (nwF n : Int), .int .i64 1, .int .i64 4000, .int .i64 (1 + (t : Int) % 7), .float .f64 4591870180066957722, .float .f64 4605380978949069210, .float .f64 4607632778762754458, .slice (some ⟨g, 0, none⟩) (nwC n) cap] 27 (0, 0))] wr)) (fun v _ => fltL t + 3 + mq - (intOf v).toNat)
  case atStart =>
    refine ⟨0, Nat.zero_le _, rfl, ?_⟩
    rw [hS0]
    have h0 := flt_agg0 t
    unfold fltS
    rw [if_pos (Nat.zero_le _)]
    exact HB4
  case round =>
    obtain ⟨k, hk, rfl, HR⟩ := hrel
    clear HB4
    have hw1 : IntKind.i64.wrap ((fltL t : Int) + 1) = (fltL t : Int) + 1 := by rw [IntKind.wrap_i64]; omega
    have hw2 : IntKind.i64.wrap ((fltL t : Int) + 1 + (mq : Int)) = (fltL t : Int) + 1 + (mq : Int) := by rw [IntKind.wrap_i64]; omega
    have hw3 : IntKind.i64.wrap ((k : Int) + 1 + 1) = ((k + 1 : Nat) : Int) + 1 := by rw [IntKind.wrap_i64]; omega
    have hca : (fltS bl (fltL t) k).ca < 4294967296 := by unfold fltS; split; (simp only; split <;> decide); decide
    by_cases hlt : (k : Int) + 1 ≤ (fltL t : Int) + 1 + (mq : Int)
    · cases bl
      · by_cases hfl : k + 1 ≤ fltL t
        · have FT := Lib.hid (fun wx h => flt_ct n t k g cap wx h)
          have hcs := fltS_cases false (fltL t) (k + 1)
          obtain ⟨h2, q, h3⟩ := hcs.resolve_right (fun e => by omega)
          rw [h3] at FT
          generalize fltC false (fltL t) (k + 1) = cm at *
          clear hcs hca
          have hrel2 := Lib.hid h3
          clear h3
          generalize fltS false (fltL t) k = s at *
          obtain ⟨sd, so, ⟨d1, d2, d3, d4, d5⟩, ⟨m1, m2, m3⟩, ca, sh, il, fa⟩ := s
          simp only [Nc.agg, Nc.faulty, Dr.zero, Mo.zero] at *
          obtain ⟨c0_0, c0_1, c0_2, c0_3, c0_4, c0_5, c0_6, c0_7, c0_8, c0_9, c0_10, c0_11, c0_12, c0_13⟩ := row14 (b := gs) HR.out.r0
          obtain ⟨c1_0, c1_1, c1_2, c1_3, c1_4, c1_5, c1_6, c1_7⟩ := row8 (b := gb) HR.out.r1
          go_wp2_with fail
          refine (FT.out _ (HCT.out _ HR.out.below)).mono ?_
          rintro e w5 ⟨rfl, hb5⟩
          have HB5 := Lib.hid (HR.out.next hb5)
          clear c0_0 c0_1 c0_2 c0_3 c0_4 c0_5 c0_6 c0_7 c0_8 c0_9 c0_10 c0_11 c0_12 c0_13 c1_0 c1_1 c1_2 c1_3 c1_4 c1_5 c1_6 c1_7 hb5 FT HR
          go_wp2_with (with_reducible show wpList _ _ _ (Oper.mk _ (.store 38 _ _) _ _ _ _ :: _) _ _; refine Hid.out ?_)
          refine Lib.hid ?_
          have l6_0 : gs < w5.heap.size := (Array.getElem?_eq_some_iff.1 HB5.out.r0).1
          have l6_1 : gb < w5.heap.size := (Array.getElem?_eq_some_iff.1 HB5.out.r1).1
          have lw6 : w1.heap.size ≤ w5.heap.size := HB5.out.below.size
          refine wpList_put rfl 38 _ _ rfl w5.heap.size #[.int .i64 1, .int .i64 0, .int .i64 0, .int .i64 0, .int .i64 0, .bool false, .int .i64 0, .int .i64 1, .int .i64 ((k + 1 : Nat) : Int), .int .i64 0, .int .u32 (q : Nat), .int .i64 0, .int .i64 0, .bool false] _ 38 rfl rfl (heap_alloc_new w5 _) (by kernel_rfl) rfl (by kernel_rfl) ?_
          intro w6 hr6 hg6
          have HB6 : Hid (Bx w1 [(w5.heap.size, .cells #[.int .i64 1, .int .i64 0, .int .i64 0, .int .i64 0, .int .i64 0, .bool false, .int .i64 0, .int .i64 1, .int .i64 ((k + 1 : Nat) : Int), .int .i64 0, .int .u32 (q : Nat), .int .i64 0, .int .i64 0, .bool false] 38 (0, 0)), (gs, .cells #[.int .i64 sd, .int .i64 so, .int .i64 d1, .int .i64 d2, .int .i64 d3, .bool d4, .int .i64 d5, .int .i64 m1, .int .i64 m2, .int .i64 m3, .int .u32 (ca : Nat), .int .i64 sh, .int .i64 il, .bool fa] 38 (0, 0)), (gb, .cells #[.int .i64 (nwF n : Int), .int .i64 1, .int .i64 4000, .int .i64 (1 + (t : Int) % 7), .float .f64 4591870180066957722, .float .f64 4605380978949069210, .float .f64 4607632778762754458, .slice (some ⟨g, 0, none⟩) (nwC n) cap] 27 (0, 0))] w6) := Lib.hid ((HB5.out.make (heap_alloc_new w5 (.cells #[.int .i64 0, .int .i64 0, .int .i64 0, .int .i64 0, .int .i64 0, .bool false, .int .i64 0, .int .i64 0, .int .i64 0, .int .i64 0, .int .u32 0, .int .i64 0, .int .i64 0, .bool false] 38)) ((Below.refl w5.heap.size w5).alloc (Nat.le_refl _) _)).put HB5.out.below.size hg6.out hr6.out (by simp only [List.mem_cons, List.not_mem_nil, or_false]; rintro p (rfl | rfl | rfl) <;> simp <;> omega))
          clear hr6 hg6 HB5
          generalize w5.heap.size = gt at *
          obtain ⟨c0_0, c0_1, c0_2, c0_3, c0_4, c0_5, c0_6, c0_7, c0_8, c0_9, c0_10, c0_11, c0_12, c0_13⟩ := row14 (b := gt) HB6.out.r0
          have hgt : decide ((fltL t : Int) < (k : Int) + 1) = false := decide_eq_false (by omega)
          go_wp2_with (with_reducible show wpList _ _ _ (Oper.mk _ (.store 38 _ _) _ _ _ _ :: _) _ _; refine Hid.out ?_)
          refine Lib.hid ?_
          refine wpList_put rfl 38 _ _ rfl (gs) #[.int .i64 1, .int .i64 0, .int .i64 0, .int .i64 0, .int .i64 0, .bool false, .int .i64 0, .int .i64 1, .int .i64 ((k + 1 : Nat) : Int), .int .i64 0, .int .u32 (q : Nat), .int .i64 0, .int .i64 0, .bool false] _ 38 rfl rfl HB6.out.r1 (by kernel_rfl) rfl (by kernel_rfl) ?_
          intro w7 hr7 hg7
          have HB7 : Hid (Bx w1 [(gt, .cells #[.int .i64 1, .int .i64 0, .int .i64 0, .int .i64 0, .int .i64 0, .bool false, .int .i64 0, .int .i64 1, .int .i64 ((k + 1 : Nat) : Int), .int .i64 0, .int .u32 (q : Nat), .int .i64 0, .int .i64 0, .bool false] 38 (0, 0)), (gs, .cells #[.int .i64 1, .int .i64 0, .int .i64 0, .int .i64 0, .int .i64 0, .bool false, .int .i64 0, .int .i64 1, .int .i64 ((k + 1 : Nat) : Int), .int .i64 0, .int .u32 (q : Nat), .int .i64 0, .int .i64 0, .bool false] 38 (0, 0)), (gb, .cells #[.int .i64 (nwF n : Int), .int .i64 1, .int .i64 4000, .int .i64 (1 + (t : Int) % 7), .float .f64 4591870180066957722, .float .f64 4605380978949069210, .float .f64 4607632778762754458, .slice (some ⟨g, 0, none⟩) (nwC n) cap] 27 (0, 0))] w7) := Lib.hid (HB6.out.put (by omega) hg7.out hr7.out (by simp only [List.mem_cons, List.not_mem_nil, or_false]; rintro p (rfl | rfl | rfl) <;> simp <;> omega))
          clear c0_0 c0_1 c0_2 c0_3 c0_4 c0_5 c0_6 c0_7 c0_8 c0_9 c0_10 c0_11 c0_12 c0_13 hr7 hg7 HB6
          go_wp2_with fail
          go_roundw
          case rel =>
            refine ⟨k + 1, by omega, by go_num, ?_⟩
            rw [hrel2.out]
            exact Lib.hid (HB7.out.less (by simp only [List.mem_cons, List.not_mem_nil, or_false]; rintro p (rfl | rfl) <;> simp))
          case measure => simp [intOf]; omega
        · have FT := Lib.hid (fun wx h => flt_ct n t k g cap wx h)
          have hcs := fltS_cases false (fltL t) (k + 1)
          obtain ⟨h2, h3, h4⟩ := hcs.resolve_left (fun e => by omega)
          rw [h3, h4] at FT
          clear hcs hca
          have hrel2 := Lib.hid h3
          clear h3
          generalize fltS false (fltL t) k = s at *
          obtain ⟨sd, so, ⟨d1, d2, d3, d4, d5⟩, ⟨m1, m2, m3⟩, ca, sh, il, fa⟩ := s
          simp only [Nc.agg, Nc.faulty, Dr.zero, Mo.zero] at *
          obtain ⟨c0_0, c0_1, c0_2, c0_3, c0_4, c0_5, c0_6, c0_7, c0_8, c0_9, c0_10, c0_11, c0_12, c0_13⟩ := row14 (b := gs) HR.out.r0
          obtain ⟨c1_0, c1_1, c1_2, c1_3, c1_4, c1_5, c1_6, c1_7⟩ := row8 (b := gb) HR.out.r1
          go_wp2_with fail
          refine (FT.out _ (HCT.out _ HR.out.below)).mono ?_
          rintro e w5 ⟨rfl, hb5⟩
          have HB5 := Lib.hid (HR.out.next hb5)
          clear c0_0 c0_1 c0_2 c0_3 c0_4 c0_5 c0_6 c0_7 c0_8 c0_9 c0_10 c0_11 c0_12 c0_13 c1_0 c1_1 c1_2 c1_3 c1_4 c1_5 c1_6 c1_7 hb5 FT HR
          go_wp2_with (with_reducible show wpList _ _ _ (Oper.mk _ (.store 38 _ _) _ _ _ _ :: _) _ _; refine Hid.out ?_)
          refine Lib.hid ?_
          have l6_0 : gs < w5.heap.size := (Array.getElem?_eq_some_iff.1 HB5.out.r0).1
          have l6_1 : gb < w5.heap.size := (Array.getElem?_eq_some_iff.1 HB5.out.r1).1
          have lw6 : w1.heap.size ≤ w5.heap.size := HB5.out.below.size
          refine wpList_put rfl 38 _ _ rfl w5.heap.size #[.int .i64 0, .int .i64 0, .int .i64 0, .int .i64 0, .int .i64 0, .bool false, .int .i64 0, .int .i64 0, .int .i64 0, .int .i64 0, .int .u32 0, .int .i64 0, .int .i64 0, .bool true] _ 38 rfl rfl (heap_alloc_new w5 _) (by kernel_rfl) rfl (by kernel_rfl) ?_
          intro w6 hr6 hg6
          have HB6 : Hid (Bx w1 [(w5.heap.size, .cells #[.int .i64 0, .int .i64 0, .int .i64 0, .int .i64 0, .int .i64 0, .bool false, .int .i64 0, .int .i64 0, .int .i64 0, .int .i64 0, .int .u32 0, .int .i64 0, .int .i64 0, .bool true] 38 (0, 0)), (gs, .cells #[.int .i64 sd, .int .i64 so, .int .i64 d1, .int .i64 d2, .int .i64 d3, .bool d4, .int .i64 d5, .int .i64 m1, .int .i64 m2, .int .i64 m3, .int .u32 (ca : Nat), .int .i64 sh, .int .i64 il, .bool fa] 38 (0, 0)), (gb, .cells #[.int .i64 (nwF n : Int), .int .i64 1, .int .i64 4000, .int .i64 (1 + (t : Int) % 7), .float .f64 4591870180066957722, .float .f64 4605380978949069210, .float .f64 4607632778762754458, .slice (some ⟨g, 0, none⟩) (nwC n) cap] 27 (0, 0))] w6) := Lib.hid ((HB5.out.make (heap_alloc_new w5 (.cells #[.int .i64 0, .int .i64 0, .int .i64 0, .int .i64 0, .int .i64 0, .bool false, .int .i64 0, .int .i64 0, .int .i64 0, .int .i64 0, .int .u32 0, .int .i64 0, .int .i64 0, .bool false] 38)) ((Below.refl w5.heap.size w5).alloc (Nat.le_refl _) _)).put HB5.out.below.size hg6.out hr6.out (by simp only [List.mem_cons, List.not_mem_nil, or_false]; rintro p (rfl | rfl | rfl) <;> simp <;> omega))
          clear hr6 hg6 HB5
          generalize w5.heap.size = gt at *
          obtain ⟨c0_0, c0_1, c0_2, c0_3, c0_4, c0_5, c0_6, c0_7, c0_8, c0_9, c0_10, c0_11, c0_12, c0_13⟩ := row14 (b := gt) HB6.out.r0
          have hgt : decide ((fltL t : Int) < (k : Int) + 1) = true := decide_eq_true (by omega)
          have qN := fun wx => neqNc Nc.faulty Nc.faulty wx
          rw [Nc.same_self] at qN
          simp only [show Nc.faulty.agg = .agg #[.int .i64 0, .int .i64 0, .int .i64 0, .int .i64 0, .int .i64 0, .bool false, .int .i64 0, .int .i64 0, .int .i64 0, .int .i64 0, .int .u32 0, .int .i64 0, .int .i64 0, .bool true] from rfl, Bool.not_true] at qN
          go_wp2_with (with_reducible show wpList _ _ _ (Oper.mk _ (.store 38 _ _) _ _ _ _ :: _) _ _; refine Hid.out ?_)
          refine Lib.hid ?_
          refine wpList_put rfl 38 _ _ rfl (gs) #[.int .i64 0, .int .i64 0, .int .i64 0, .int .i64 0, .int .i64 0, .bool false, .int .i64 0, .int .i64 0, .int .i64 0, .int .i64 0, .int .u32 0, .int .i64 0, .int .i64 0, .bool true] _ 38 rfl rfl HB6.out.r1 (by kernel_rfl) rfl (by kernel_rfl) ?_
          intro w7 hr7 hg7
          have HB7 : Hid (Bx w1 [(gt, .cells #[.int .i64 0, .int .i64 0, .int .i64 0, .int .i64 0, .int .i64 0, .bool false, .int .i64 0, .int .i64 0, .int .i64 0, .int .i64 0, .int .u32 0, .int .i64 0, .int .i64 0, .bool true] 38 (0, 0)), (gs, .cells #[.int .i64 0, .int .i64 0, .int .i64 0, .int .i64 0, .int .i64 0, .bool false, .int .i64 0, .int .i64 0, .int .i64 0, .int .i64 0, .int .u32 0, .int .i64 0, .int .i64 0, .bool true] 38 (0, 0)), (gb, .cells #[.int .i64 (nwF n : Int), .int .i64 1, .int .i64 4000, .int .i64 (1 + (t : Int) % 7), .float .f64 4591870180066957722, .float .f64 4605380978949069210, .float .f64 4607632778762754458, .slice (some ⟨g, 0, none⟩) (nwC n) cap] 27 (0, 0))] w7) := Lib.hid (HB6.out.put (by omega) hg7.out hr7.out (by simp only [List.mem_cons, List.not_mem_nil, or_false]; rintro p (rfl | rfl | rfl) <;> simp <;> omega))
          clear c0_0 c0_1 c0_2 c0_3 c0_4 c0_5 c0_6 c0_7 c0_8 c0_9 c0_10 c0_11 c0_12 c0_13 hr7 hg7 HB6
          go_wp2_with fail
          go_roundw
          case rel =>
            refine ⟨k + 1, by omega, by go_num, ?_⟩
            rw [hrel2.out]
            exact Lib.hid (HB7.out.less (by simp only [List.mem_cons, List.not_mem_nil, or_false]; rintro p (rfl | rfl) <;> simp))
          case measure => simp [intOf]; omega
      · by_cases hfl : k + 1 ≤ fltL t
        · obtain ⟨x, xm, xe0, hcx⟩ := flt_cx n t g cap (fltS true (fltL t) k) hca
          have FX := Lib.hid hcx
          clear hcx
          have FT := Lib.hid (fun wx h => flt_cb n t k g cap wx h)
          obtain ⟨xa, xb, ⟨x1, x2, x3, x4, x5⟩, ⟨xc, xd, xe⟩, xf, xg, xh, xi⟩ := x
          have hcs := fltS_cases true (fltL t) (k + 1)
          obtain ⟨h2, q, h3⟩ := hcs.resolve_right (fun e => by omega)
          rw [h3] at FT
          generalize fltC true (fltL t) (k + 1) = cm at *
          clear hcs hca
          have hrel2 := Lib.hid h3
          clear h3
          generalize fltS true (fltL t) k = s at *
          obtain ⟨sd, so, ⟨d1, d2, d3, d4, d5⟩, ⟨m1, m2, m3⟩, ca, sh, il, fa⟩ := s
          simp only [Nc.agg, Nc.faulty, Dr.zero, Mo.zero] at *
          obtain ⟨c0_0, c0_1, c0_2, c0_3, c0_4, c0_5, c0_6, c0_7, c0_8, c0_9, c0_10, c0_11, c0_12, c0_13⟩ := row14 (b := gs) HR.out.r0
          obtain ⟨c1_0, c1_1, c1_2, c1_3, c1_4, c1_5, c1_6, c1_7⟩ := row8 (b := gb) HR.out.r1
          go_wp2_with fail
          refine (FX.out _ (HCT.out _ HR.out.below)).mono ?_
          rintro e w5 ⟨rfl, hb5⟩
          have HB5 := Lib.hid (HR.out.next hb5)
          clear c0_0 c0_1 c0_2 c0_3 c0_4 c0_5 c0_6 c0_7 c0_8 c0_9 c0_10 c0_11 c0_12 c0_13 c1_0 c1_1 c1_2 c1_3 c1_4 c1_5 c1_6 c1_7 hb5 FX HR
          go_wp2_with (with_reducible show wpList _ _ _ (Oper.mk _ (.store 38 _ _) _ _ _ _ :: _) _ _; refine Hid.out ?_)
          refine Lib.hid ?_
          have l6_0 : gs < w5.heap.size := (Array.getElem?_eq_some_iff.1 HB5.out.r0).1
          have l6_1 : gb < w5.heap.size := (Array.getElem?_eq_some_iff.1 HB5.out.r1).1
          have lw6 : w1.heap.size ≤ w5.heap.size := HB5.out.below.size
          refine wpList_put rfl 38 _ _ rfl w5.heap.size #[.int .i64 xa, .int .i64 xb, .int .i64 x1, .int .i64 x2, .int .i64 x3, .bool x4, .int .i64 x5, .int .i64 xc, .int .i64 xd, .int .i64 xe, .int .u32 (xf : Nat), .int .i64 xg, .int .i64 xh, .bool xi] _ 38 rfl rfl (heap_alloc_new w5 _) (by kernel_rfl) rfl (by kernel_rfl) ?_
          intro w6 hr6 hg6
          have HB6 : Hid (Bx w1 [(w5.heap.size, .cells #[.int .i64 xa, .int .i64 xb, .int .i64 x1, .int .i64 x2, .int .i64 x3, .bool x4, .int .i64 x5, .int .i64 xc, .int .i64 xd, .int .i64 xe, .int .u32 (xf : Nat), .int .i64 xg, .int .i64 xh, .bool xi] 38 (0, 0)), (gs, .cells #[.int .i64 sd, .int .i64 so, .int .i64 d1, .int .i64 d2, .int .i64 d3, .bool d4, .int .i64 d5, .int .i64 m1, .int .i64 m2, .int .i64 m3, .int .u32 (ca : Nat), .int .i64 sh, .int .i64 il, .bool fa] 38 (0, 0)), (gb, .cells #[.int .i64 (nwF n : Int), .int .i64 1, .int .i64 4000, .int .i64 (1 + (t : Int) % 7), .float .f64 4591870180066957722, .float .f64 4605380978949069210, .float .f64 4607632778762754458, .slice (some ⟨g, 0, none⟩) (nwC n) cap] 27 (0, 0))] w6) := Lib.hid ((HB5.out.make (heap_alloc_new w5 (.cells #[.int .i64 0, .int .i64 0, .int .i64 0, .int .i64 0, .int .i64 0, .bool false, .int .i64 0, .int .i64 0, .int .i64 0, .int .i64 0, .int .u32 0, .int .i64 0, .int .i64 0, .bool false] 38)) ((Below.refl w5.heap.size w5).alloc (Nat.le_refl _) _)).put HB5.out.below.size hg6.out hr6.out (by simp only [List.mem_cons, List.not_mem_nil, or_false]; rintro p (rfl | rfl | rfl) <;> simp <;> omega))
          clear hr6 hg6 HB5
          generalize w5.heap.size = gt at *
          obtain ⟨c1_0, c1_1, c1_2, c1_3, c1_4, c1_5, c1_6, c1_7, c1_8, c1_9, c1_10, c1_11, c1_12, c1_13⟩ := row14 (b := gs) HB6.out.r1
          obtain ⟨c2_0, c2_1, c2_2, c2_3, c2_4, c2_5, c2_6, c2_7⟩ := row8 (b := gb) HB6.out.r2
          go_wp2_with fail
          refine (FT.out _ (HCT.out _ HB6.out.below)).mono ?_
          rintro e w7 ⟨rfl, hb7⟩
          have HB7 := Lib.hid (HB6.out.next hb7)
          clear c1_0 c1_1 c1_2 c1_3 c1_4 c1_5 c1_6 c1_7 c1_8 c1_9 c1_10 c1_11 c1_12 c1_13 c2_0 c2_1 c2_2 c2_3 c2_4 c2_5 c2_6 c2_7 hb7 FT HB6
          go_wp2_with (with_reducible show wpList _ _ _ (Oper.mk _ (.store 38 _ _) _ _ _ _ :: _) _ _; refine Hid.out ?_)
          refine Lib.hid ?_
          refine wpList_put rfl 38 _ _ rfl (gt) #[.int .i64 1, .int .i64 0, .int .i64 0, .int .i64 0, .int .i64 0, .bool false, .int .i64 0, .int .i64 1, .int .i64 ((k + 1 : Nat) : Int), .int .i64 0, .int .u32 (q : Nat), .int .i64 0, .int .i64 0, .bool false] _ 38 rfl rfl HB7.out.r0 (by kernel_rfl) rfl (by kernel_rfl) ?_
          intro w8 hr8 hg8
          have HB8 : Hid (Bx w1 [(gt, .cells #[.int .i64 1, .int .i64 0, .int .i64 0, .int .i64 0, .int .i64 0, .bool false, .int .i64 0, .int .i64 1, .int .i64 ((k + 1 : Nat) : Int), .int .i64 0, .int .u32 (q : Nat), .int .i64 0, .int .i64 0, .bool false] 38 (0, 0)), (gs, .cells #[.int .i64 sd, .int .i64 so, .int .i64 d1, .int .i64 d2, .int .i64 d3, .bool d4, .int .i64 d5, .int .i64 m1, .int .i64 m2, .int .i64 m3, .int .u32 (ca : Nat), .int .i64 sh, .int .i64 il, .bool fa] 38 (0, 0)), (gb, .cells #[.int .i64 (nwF n : Int), .int .i64 1, .int .i64 4000, .int .i64 (1 + (t : Int) % 7), .float .f64 4591870180066957722, .float .f64 4605380978949069210, .float .f64 4607632778762754458, .slice (some ⟨g, 0, none⟩) (nwC n) cap] 27 (0, 0))] w8) := Lib.hid (HB7.out.put (by omega) hg8.out hr8.out (by simp only [List.mem_cons, List.not_mem_nil, or_false]; rintro p (rfl | rfl | rfl) <;> simp <;> omega))
          clear hr8 hg8 HB7
          obtain ⟨c0_0, c0_1, c0_2, c0_3, c0_4, c0_5, c0_6, c0_7, c0_8, c0_9, c0_10, c0_11, c0_12, c0_13⟩ := row14 (b := gt) HB8.out.r0
          have hgt : decide ((fltL t : Int) < (k : Int) + 1) = false := decide_eq_false (by omega)
          go_wp2_with (with_reducible show wpList _ _ _ (Oper.mk _ (.store 38 _ _) _ _ _ _ :: _) _ _; refine Hid.out ?_)
          refine Lib.hid ?_
          refine wpList_put rfl 38 _ _ rfl (gs) #[.int .i64 1, .int .i64 0, .int .i64 0, .int .i64 0, .int .i64 0, .bool false, .int .i64 0, .int .i64 1, .int .i64 ((k + 1 : Nat) : Int), .int .i64 0, .int .u32 (q : Nat), .int .i64 0, .int .i64 0, .bool false] _ 38 rfl rfl HB8.out.r1 (by kernel_rfl) rfl (by kernel_rfl) ?_
          intro w9 hr9 hg9
          have HB9 : Hid (Bx w1 [(gt, .cells #[.int .i64 1, .int .i64 0, .int .i64 0, .int .i64 0, .int .i64 0, .bool false, .int .i64 0, .int .i64 1, .int .i64 ((k + 1 : Nat) : Int), .int .i64 0, .int .u32 (q : Nat), .int .i64 0, .int .i64 0, .bool false] 38 (0, 0)), (gs, .cells #[.int .i64 1, .int .i64 0, .int .i64 0, .int .i64 0, .int .i64 0, .bool false, .int .i64 0, .int .i64 1, .int .i64 ((k + 1 : Nat) : Int), .int .i64 0, .int .u32 (q : Nat), .int .i64 0, .int .i64 0, .bool false] 38 (0, 0)), (gb, .cells #[.int .i64 (nwF n : Int), .int .i64 1, .int .i64 4000, .int .i64 (1 + (t : Int) % 7), .float .f64 4591870180066957722, .float .f64 4605380978949069210, .float .f64 4607632778762754458, .slice (some ⟨g, 0, none⟩) (nwC n) cap] 27 (0, 0))] w9) := Lib.hid (HB8.out.put (by omega) hg9.out hr9.out (by simp only [List.mem_cons, List.not_mem_nil, or_false]; rintro p (rfl | rfl | rfl) <;> simp <;> omega))
          clear c0_0 c0_1 c0_2 c0_3 c0_4 c0_5 c0_6 c0_7 c0_8 c0_9 c0_10 c0_11 c0_12 c0_13 hr9 hg9 HB8
          go_wp2_with fail
          go_roundw
          case rel =>
            refine ⟨k + 1, by omega, by go_num, ?_⟩
            rw [hrel2.out]
            exact Lib.hid (HB9.out.less (by simp only [List.mem_cons, List.not_mem_nil, or_false]; rintro p (rfl | rfl) <;> simp))
          case measure => simp [intOf]; omega
        · obtain ⟨x, xm, xe0, hcx⟩ := flt_cx n t g cap (fltS true (fltL t) k) hca
          have FX := Lib.hid hcx
          clear hcx
          have FT := Lib.hid (fun wx h => flt_cb n t k g cap wx h)
          obtain ⟨xa, xb, ⟨x1, x2, x3, x4, x5⟩, ⟨xc, xd, xe⟩, xf, xg, xh, xi⟩ := x
          have hcs := fltS_cases true (fltL t) (k + 1)
          obtain ⟨h2, h3, h4⟩ := hcs.resolve_left (fun e => by omega)
          rw [h3, h4] at FT
          clear hcs hca
          have hrel2 := Lib.hid h3
          clear h3
          generalize fltS true (fltL t) k = s at *
          obtain ⟨sd, so, ⟨d1, d2, d3, d4, d5⟩, ⟨m1, m2, m3⟩, ca, sh, il, fa⟩ := s
          simp only [Nc.agg, Nc.faulty, Dr.zero, Mo.zero] at *
          obtain ⟨c0_0, c0_1, c0_2, c0_3, c0_4, c0_5, c0_6, c0_7, c0_8, c0_9, c0_10, c0_11, c0_12, c0_13⟩ := row14 (b := gs) HR.out.r0
          obtain ⟨c1_0, c1_1, c1_2, c1_3, c1_4, c1_5, c1_6, c1_7⟩ := row8 (b := gb) HR.out.r1
          go_wp2_with fail
          refine (FX.out _ (HCT.out _ HR.out.below)).mono ?_
          rintro e w5 ⟨rfl, hb5⟩
          have HB5 := Lib.hid (HR.out.next hb5)
          clear c0_0 c0_1 c0_2 c0_3 c0_4 c0_5 c0_6 c0_7 c0_8 c0_9 c0_10 c0_11 c0_12 c0_13 c1_0 c1_1 c1_2 c1_3 c1_4 c1_5 c1_6 c1_7 hb5 FX HR
          go_wp2_with (with_reducible show wpList _ _ _ (Oper.mk _ (.store 38 _ _) _ _ _ _ :: _) _ _; refine Hid.out ?_)
          refine Lib.hid ?_
          have l6_0 : gs < w5.heap.size := (Array.getElem?_eq_some_iff.1 HB5.out.r0).1
          have l6_1 : gb < w5.heap.size := (Array.getElem?_eq_some_iff.1 HB5.out.r1).1
          have lw6 : w1.heap.size ≤ w5.heap.size := HB5.out.below.size
          refine wpList_put rfl 38 _ _ rfl w5.heap.size #[.int .i64 xa, .int .i64 xb, .int .i64 x1, .int .i64 x2, .int .i64 x3, .bool x4, .int .i64 x5, .int .i64 xc, .int .i64 xd, .int .i64 xe, .int .u32 (xf : Nat), .int .i64 xg, .int .i64 xh, .bool xi] _ 38 rfl rfl (heap_alloc_new w5 _) (by kernel_rfl) rfl (by kernel_rfl) ?_
          intro w6 hr6 hg6
          have HB6 : Hid (Bx w1 [(w5.heap.size, .cells #[.int .i64 xa, .int .i64 xb, .int .i64 x1, .int .i64 x2, .int .i64 x3, .bool x4, .int .i64 x5, .int .i64 xc, .int .i64 xd, .int .i64 xe, .int .u32 (xf : Nat), .int .i64 xg, .int .i64 xh, .bool xi] 38 (0, 0)), (gs, .cells #[.int .i64 sd, .int .i64 so, .int .i64 d1, .int .i64 d2, .int .i64 d3, .bool d4, .int .i64 d5, .int .i64 m1, .int .i64 m2, .int .i64 m3, .int .u32 (ca : Nat), .int .i64 sh, .int .i64 il, .bool fa] 38 (0, 0)), (gb, .cells #[.int .i64 (nwF n : Int), .int .i64 1, .int .i64 4000, .int .i64 (1 + (t : Int) % 7), .float .f64 4591870180066957722, .float .f64 4605380978949069210, .float .f64 4607632778762754458, .slice (some ⟨g, 0, none⟩) (nwC n) cap] 27 (0, 0))] w6) := Lib.hid ((HB5.out.make (heap_alloc_new w5 (.cells #[.int .i64 0, .int .i64 0, .int .i64 0, .int .i64 0, .int .i64 0, .bool false, .int .i64 0, .int .i64 0, .int .i64 0, .int .i64 0, .int .u32 0, .int .i64 0, .int .i64 0, .bool false] 38)) ((Below.refl w5.heap.size w5).alloc (Nat.le_refl _) _)).put HB5.out.below.size hg6.out hr6.out (by simp only [List.mem_cons, List.not_mem_nil, or_false]; rintro p (rfl | rfl | rfl) <;> simp <;> omega))
          clear hr6 hg6 HB5
          generalize w5.heap.size = gt at *
          obtain ⟨c1_0, c1_1, c1_2, c1_3, c1_4, c1_5, c1_6, c1_7, c1_8, c1_9, c1_10, c1_11, c1_12, c1_13⟩ := row14 (b := gs) HB6.out.r1
          obtain ⟨c2_0, c2_1, c2_2, c2_3, c2_4, c2_5, c2_6, c2_7⟩ := row8 (b := gb) HB6.out.r2
          go_wp2_with fail
          refine (FT.out _ (HCT.out _ HB6.out.below)).mono ?_
          rintro e w7 ⟨rfl, hb7⟩
          have HB7 := Lib.hid (HB6.out.next hb7)
          clear c1_0 c1_1 c1_2 c1_3 c1_4 c1_5 c1_6 c1_7 c1_8 c1_9 c1_10 c1_11 c1_12 c1_13 c2_0 c2_1 c2_2 c2_3 c2_4 c2_5 c2_6 c2_7 hb7 FT HB6
          go_wp2_with (with_reducible show wpList _ _ _ (Oper.mk _ (.store 38 _ _) _ _ _ _ :: _) _ _; refine Hid.out ?_)
          refine Lib.hid ?_
          refine wpList_put rfl 38 _ _ rfl (gt) #[.int .i64 0, .int .i64 0, .int .i64 0, .int .i64 0, .int .i64 0, .bool false, .int .i64 0, .int .i64 0, .int .i64 0, .int .i64 0, .int .u32 0, .int .i64 0, .int .i64 0, .bool true] _ 38 rfl rfl HB7.out.r0 (by kernel_rfl) rfl (by kernel_rfl) ?_
          intro w8 hr8 hg8
          have HB8 : Hid (Bx w1 [(gt, .cells #[.int .i64 0, .int .i64 0, .int .i64 0, .int .i64 0, .int .i64 0, .bool false, .int .i64 0, .int .i64 0, .int .i64 0, .int .i64 0, .int .u32 0, .int .i64 0, .int .i64 0, .bool true] 38 (0, 0)), (gs, .cells #[.int .i64 sd, .int .i64 so, .int .i64 d1, .int .i64 d2, .int .i64 d3, .bool d4, .int .i64 d5, .int .i64 m1, .int .i64 m2, .int .i64 m3, .int .u32 (ca : Nat), .int .i64 sh, .int .i64 il, .bool fa] 38 (0, 0)), (gb, .cells #[.int .i64 (nwF n : Int), .int .i64 1, .int .i64 4000, .int .i64 (1 + (t : Int) % 7), .float .f64 4591870180066957722, .float .f64 4605380978949069210, .float .f64 4607632778762754458, .slice (some ⟨g, 0, none⟩) (nwC n) cap] 27 (0, 0))] w8) := Lib.hid (HB7.out.put (by omega) hg8.out hr8.out (by simp only [List.mem_cons, List.not_mem_nil, or_false]; rintro p (rfl | rfl | rfl) <;> simp <;> omega))
          clear hr8 hg8 HB7
          obtain ⟨c0_0, c0_1, c0_2, c0_3, c0_4, c0_5, c0_6, c0_7, c0_8, c0_9, c0_10, c0_11, c0_12, c0_13⟩ := row14 (b := gt) HB8.out.r0
          have hgt : decide ((fltL t : Int) < (k : Int) + 1) = true := decide_eq_true (by omega)
          have qN := fun wx => neqNc Nc.faulty Nc.faulty wx
          rw [Nc.same_self] at qN
          simp only [show Nc.faulty.agg = .agg #[.int .i64 0, .int .i64 0, .int .i64 0, .int .i64 0, .int .i64 0, .bool false, .int .i64 0, .int .i64 0, .int .i64 0, .int .i64 0, .int .u32 0, .int .i64 0, .int .i64 0, .bool true] from rfl, Bool.not_true] at qN
          go_wp2_with (with_reducible show wpList _ _ _ (Oper.mk _ (.store 38 _ _) _ _ _ _ :: _) _ _; refine Hid.out ?_)
          refine Lib.hid ?_
          refine wpList_put rfl 38 _ _ rfl (gs) #[.int .i64 0, .int .i64 0, .int .i64 0, .int .i64 0, .int .i64 0, .bool false, .int .i64 0, .int .i64 0, .int .i64 0, .int .i64 0, .int .u32 0, .int .i64 0, .int .i64 0, .bool true] _ 38 rfl rfl HB8.out.r1 (by kernel_rfl) rfl (by kernel_rfl) ?_
          intro w9 hr9 hg9
          have HB9 : Hid (Bx w1 [(gt, .cells #[.int .i64 0, .int .i64 0, .int .i64 0, .int .i64 0, .int .i64 0, .bool false, .int .i64 0, .int .i64 0, .int .i64 0, .int .i64 0, .int .u32 0, .int .i64 0, .int .i64 0, .bool true] 38 (0, 0)), (gs, .cells #[.int .i64 0, .int .i64 0, .int .i64 0, .int .i64 0, .int .i64 0, .bool false, .int .i64 0, .int .i64 0, .int .i64 0, .int .i64 0, .int .u32 0, .int .i64 0, .int .i64 0, .bool true] 38 (0, 0)), (gb, .cells #[.int .i64 (nwF n : Int), .int .i64 1, .int .i64 4000, .int .i64 (1 + (t : Int) % 7), .float .f64 4591870180066957722, .float .f64 4605380978949069210, .float .f64 4607632778762754458, .slice (some ⟨g, 0, none⟩) (nwC n) cap] 27 (0, 0))] w9) := Lib.hid (HB8.out.put (by omega) hg9.out hr9.out (by simp only [List.mem_cons, List.not_mem_nil, or_false]; rintro p (rfl | rfl | rfl) <;> simp <;> omega))
          clear c0_0 c0_1 c0_2 c0_3 c0_4 c0_5 c0_6 c0_7 c0_8 c0_9 c0_10 c0_11 c0_12 c0_13 hr9 hg9 HB8
          go_wp2_with fail
          go_roundw
          case rel =>
            refine ⟨k + 1, by omega, by go_num, ?_⟩
            rw [hrel2.out]
            exact Lib.hid (HB9.out.less (by simp only [List.mem_cons, List.not_mem_nil, or_false]; rintro p (rfl | rfl) <;> simp))
          case measure => simp [intOf]; omega
    · have HTR := HTW.out _ HR.out.below
      go_wp2_with fail
      refine (FS.out _ HTR).mono ?_
      rintro e w9 ⟨rfl, hb9⟩
      have HB9 := Lib.hid (HR.out.next hb9)
      go_wp2_with fail
      go_ret
      exact ⟨rfl, HBW1.out.trans (HB9.out.below.mono HBW1.out.size)⟩
set_option maxHeartbeats 4000000 in
set_option maxRecDepth 100000 in
theorem lawNewcarFaults_lifted (os : Os) (started : os.Started) (H : Type) (enc : TypeId × Value → H) :
    ReturnsInHanded {} Tryd.checked os 4 .any (fun w args => (Rows.newcarFaultsSpec.pre enc Tryd.prog Tryd.f4 [] false w args ∧ laidMetH Tryd.prog laidAll w) ∧ sizedMet enc Tryd.prog Tryd.f4 (OpenSpec.ofChange Rows.newcarFaultsSpec) false w args) (Rows.newcarFaultsSpec.post enc Tryd.prog Tryd.f4 false true false false) := by
  refine returnsInHanded_of_change_and (C := Tryd.checked) (X := fun w _ => laidMetH Tryd.prog laidAll w) (fun _ _ _ hh h => h.of_heap hh) own started (by kernel_rfl) Tryd.func4
    (ChangeSpec.witness_shaped (enc := enc) (C := Tryd.checked) (os := os) (X := fun w _ => laidMetH Tryd.prog laidAll w) false (World.doorLaid Tryd.prog 24 os) #[.agg #[.int .u8 0, .int .u8 0], .int .u8 0, .bool false] 8 rfl (World.shaped_of_RefB (by kernel_rfl) (by kernel_rfl)) (by kernel_rfl) (by kernel_rfl) (by kernel_rfl) (door_met os _)) ?_
  intro W base args ds gs before hval0 hW _ _ hL _
  have hval : ∀ (j : Nat) t v, Tryd.f4.params[j]? = some t → args[j]? = some v → Value.okWide Tryd.prog W .any base t v := hval0
  have hW' := hW
  obtain ⟨p, q, hA0, hV, rfl, hfz, hnd⟩ := hW
  have hA : DataW.TrodAll enc Tryd.prog W 0 (fun _ => true) true Tryd.f4.params.toList args.toList ds p := hA0
  rw [Tryd.params4] at hA hval
  obtain ⟨v0, vs0, d0, ds0, p0, q0, hargs, rfl, rfl, h0, r0⟩ := trodAll_cons hA
  obtain ⟨v1, vs1, d1, ds1, p1, q1, rfl, rfl, rfl, h1, r1⟩ := trodAll_cons r0
  obtain ⟨v2, vs2, d2, ds2, p2, q2, rfl, rfl, rfl, h2, r2⟩ := trodAll_cons r1
  obtain ⟨rfl, rfl, rfl⟩ := trodAll_nil r2
  obtain rfl : args = #[v0, v1, v2] := by cases args; simp_all
  obtain ⟨rfl, rfl⟩ := trodVars_none hV
  have k0 := h0
  have lt0 : ∀ x ∈ p0, x.block < W.heap.size := by obtain ⟨m, hm⟩ := k0; exact DataW.trod_lt m _ _ _ hm
  obtain ⟨x0, y0, rfl, g0⟩ := open_au8_2 (hval 0 22 v0 rfl rfl) h0
  obtain ⟨x1, rfl, rfl, rfl, g1⟩ := open_int Tryd.underlying5 (hval 1 5 v1 rfl rfl) h1
  obtain ⟨x2, rfl, rfl, rfl⟩ := open_bool Tryd.underlying4 (hval 2 4 v2 rfl rfl) h2
  clear hA0 hval0
  refine (lawNewcarFaults_walk x0 y0 x1 x2 W (tabs_of_laid hL) g0 g1).mono fun e W' ⟨he, bel⟩ => ?_
  subst he
  exact ⟨_, rfl, _, _, _, [], _, [], hW', trodAll_mk1 (shut_bool Tryd.underlying4 _), (trodAll_cons_mk (Below.trod laidOut (by kernel_rfl) (of_decide_eq_true (by kernel_rfl)) k0 bel lt0) (trodAll_cons_mk (shut_int Tryd.underlying5 g1) (trodAll_cons_mk (shut_bool Tryd.underlying4 x2) trodAll_mk0))), rfl, bel.frame _, fun h => by cases h⟩

set_option maxHeartbeats 4000000 in
theorem lawNewcarFaults_over : Rows.newcarFaultsRow.holds Tryd.pinned (OpenSpec.ofChange Rows.newcarFaultsSpec) :=
  OpenClaim.holds_of_wide 4 Tryd.f4 rfl rfl rfl rfl rfl rfl rfl ⟨rfl, rfl, rfl, rfl, rfl⟩ rfl rfl rfl rfl rfl (by kernel_rfl) Tryd.func4 (by kernel_rfl)
    (of_decide_eq_true (by kernel_rfl)) (by unfold Func.isWrapper; first | (rw [if_pos (by decide +kernel)]; kernel_rfl) | (rw [if_neg (by decide +kernel)]; exact ⟨rfl, rfl⟩))
    (fun os started H enc _ => lawNewcarFaults_lifted os started H enc)

set_option maxHeartbeats 4000000 in
theorem newcarFaults_card : Rows.NewcarFaultsCardSaid :=
  Claim7.holds_tied_plain_at .later [] _ _ _ _ lawNewcarFaults_over (fun _ h => by cases h) (by kernel_rfl) (fun _ h => by cases h) newcarFaults_row_tie rfl ⟨rfl, rfl⟩ (by kernel_rfl) rfl
    (fun f fn hf hfn => by
      obtain rfl : f = 4 := Option.some.inj ((show Tryd.prog.funcNamed "overlay/overlaylaw15.NewcarFaults" = some 4 by kernel_rfl).symm.trans hf) |>.symm
      obtain rfl : fn = Tryd.f4 := (Option.some.inj (Tryd.func4.symm.trans hfn)).symm
      exact ⟨by kernel_rfl, fun j t ht => by
        rw [Tryd.params4] at ht
        have hm : t ∈ [22, 5, 4] := by simpa using Array.mem_of_getElem? ht
        have hall : ([22, 5, 4].all fun u => !Tryd.prog.wantsStandIn u) = true := by kernel_rfl
        exact (show Tryd.prog.wantsStandIn t = false by simpa using List.all_eq_true.1 hall t hm)⟩)
    (by kernel_rfl)
#print axioms newcarFaults_card
end Go.Proofs.YtnjcegkefjdgdaaDoor
