/- The building of stage 15's laws is made. No statement of the seat is proved here. -/
import Derived.Test.YtnjcegkefjdgdaaDoorG21
import Derived.Test.YtnjcegkefjdgdaaDoorG8
namespace Go.Proofs.YtnjcegkefjdgdaaDoor
open Go.RowKit
set_option maxRecDepth 4000
set_option linter.unusedSimpArgs false

/-- A store into a car's row, seen from the other rows. -/
theorem Bx.setOther {w wx : World} {L : List (Nat × Obj)} (h : Bx w L wx) {g o : Nat} (v : Value) (hb : w.heap.size ≤ g) (hne : ∀ p ∈ L, p.1 ≠ g) : Bx w L (wx.setCell ⟨g, o, none⟩ v) :=
  ⟨h.below.setCell hb v, fun p hp => (Below.heap_setCell _ _ _ _ (hne p hp)).trans (h.rows p hp)⟩
theorem set_getD {L : List CarD} {k : Nat} (hk : k < L.length) (c : CarD) : (L.set k c).getD k default = c := by simp [List.getD, hk]
theorem CarBlk.put2 {w : World} {g k j : Nat} {L : List CarD} {c : CarD} (h : CarBlk w g (L.set k c)) (hk : k < L.length) (hj : 4 ≤ j ∧ j ≤ 8) (v : Int) : CarBlk (w.setCell ⟨g, k * 9 + j, none⟩ (.int .i64 v)) g (L.set k (c.setj j v)) := by
  have h1 := h.put (by rw [List.length_set]; exact hk) hj v
  rw [set_getD hk, List.set_set] at h1
  exact h1
theorem nwCars_next (F : Int) (t C k : Nat) : (nwCars F t C k).set k (((((sampleCar F k).setj 4 ((1 + t % 3 : Nat) : Int)).setj 5 ((1 + t / 3 % 3 : Nat) : Int)).setj 6 ((1 + t / 9 % 3 : Nat) : Int)).setj 7 ((1 + t / 9 % 3 + t / 27 % 5 : Nat) : Int) |>.setj 8 (((k + t : Nat) : Int) % F)) = nwCars F t C (k + 1) := by
  apply List.ext_getElem
  · simp [nwCars_len]
  · intro i h1 h2
    rw [nwCars_len] at h2
    rw [List.getElem_set]
    by_cases hik : k = i
    · subst hik
      rw [if_pos rfl]
      simp only [nwCars, List.getElem_map, List.getElem_range, if_pos (Nat.lt_succ_self k)]
      rfl
    · rw [if_neg hik]
      simp only [nwCars, List.getElem_map, List.getElem_range]
      by_cases h3 : i < k
      · rw [if_pos h3, if_pos (by omega)]
      · rw [if_neg h3, if_neg (by omega)]

set_option maxHeartbeats 4000000 in
theorem building15_any (n t : Nat) (w : World) (hn : n < 256) (ht : t < 256) :
    Calls Tryd.prog 5 #[.int .u8 (n : Int), .int .u8 (t : Int)] w fun e w' => ∃ g cap, e = .returned ((nwD n t).agg (some ⟨g, 0, none⟩) cap) ∧ CarBlk w' g (nwD n t).cars ∧ w.heap.size ≤ g ∧ Below w.heap.size w w' := by
  have hFr := nwF_range n
  have hCr := nwC_range n
  obtain ⟨a, h_a⟩ : ∃ a, a = n % 5 := ⟨_, rfl⟩
  have b_a : a < 5 := by omega
  obtain ⟨qn, h_qn⟩ : ∃ qn, qn = n / 5 := ⟨_, rfl⟩
  have b_qn : qn < 52 := by omega
  obtain ⟨c, h_c⟩ : ∃ c, c = n / 5 % 3 := ⟨_, rfl⟩
  have b_c : c < 3 := by omega
  obtain ⟨t1, h_t1⟩ : ∃ t1, t1 = t % 3 := ⟨_, rfl⟩
  have b_t1 : t1 < 3 := by omega
  obtain ⟨qa, h_qa⟩ : ∃ qa, qa = t / 3 := ⟨_, rfl⟩
  have b_qa : qa < 86 := by omega
  obtain ⟨t2, h_t2⟩ : ∃ t2, t2 = t / 3 % 3 := ⟨_, rfl⟩
  have b_t2 : t2 < 3 := by omega
  obtain ⟨qb, h_qb⟩ : ∃ qb, qb = t / 9 := ⟨_, rfl⟩
  have b_qb : qb < 29 := by omega
  obtain ⟨t3, h_t3⟩ : ∃ t3, t3 = t / 9 % 3 := ⟨_, rfl⟩
  have b_t3 : t3 < 3 := by omega
  obtain ⟨qc, h_qc⟩ : ∃ qc, qc = t / 27 := ⟨_, rfl⟩
  have b_qc : qc < 10 := by omega
  obtain ⟨t4, h_t4⟩ : ∃ t4, t4 = t / 27 % 5 := ⟨_, rfl⟩
  have b_t4 : t4 < 5 := by omega
  obtain ⟨t5, h_t5⟩ : ∃ t5, t5 = t % 7 := ⟨_, rfl⟩
  have b_t5 : t5 < 7 := by omega
  have e_a : (n : Int).tmod 5 = (a : Int) := by rw [Int.tmod_eq_emod_of_nonneg (by omega)]; omega
  have e_qn : (n : Int).tdiv 5 = (qn : Int) := by rw [Int.tdiv_eq_ediv_of_nonneg (by omega)]; omega
  have e_c : (qn : Int).tmod 3 = (c : Int) := by rw [Int.tmod_eq_emod_of_nonneg (by omega)]; omega
  have e_t1 : (t : Int).tmod 3 = (t1 : Int) := by rw [Int.tmod_eq_emod_of_nonneg (by omega)]; omega
  have e_qa : (t : Int).tdiv 3 = (qa : Int) := by rw [Int.tdiv_eq_ediv_of_nonneg (by omega)]; omega
  have e_t2 : (qa : Int).tmod 3 = (t2 : Int) := by rw [Int.tmod_eq_emod_of_nonneg (by omega)]; omega
  have e_qb : (t : Int).tdiv 9 = (qb : Int) := by rw [Int.tdiv_eq_ediv_of_nonneg (by omega)]; omega
  have e_t3 : (qb : Int).tmod 3 = (t3 : Int) := by rw [Int.tmod_eq_emod_of_nonneg (by omega)]; omega
  have e_qc : (t : Int).tdiv 27 = (qc : Int) := by rw [Int.tdiv_eq_ediv_of_nonneg (by omega)]; omega
  have e_t4 : (qc : Int).tmod 5 = (t4 : Int) := by rw [Int.tmod_eq_emod_of_nonneg (by omega)]; omega
  have e_t5 : (t : Int).tmod 7 = (t5 : Int) := by rw [Int.tmod_eq_emod_of_nonneg (by omega)]; omega
  have u_a : IntKind.u8.wrap (a : Int) = (a : Int) := by rw [IntKind.wrap_u8]; omega
  have u_qn : IntKind.u8.wrap (qn : Int) = (qn : Int) := by rw [IntKind.wrap_u8]; omega
  have u_c : IntKind.u8.wrap (c : Int) = (c : Int) := by rw [IntKind.wrap_u8]; omega
  have u_t1 : IntKind.u8.wrap (t1 : Int) = (t1 : Int) := by rw [IntKind.wrap_u8]; omega
  have u_qa : IntKind.u8.wrap (qa : Int) = (qa : Int) := by rw [IntKind.wrap_u8]; omega
  have u_t2 : IntKind.u8.wrap (t2 : Int) = (t2 : Int) := by rw [IntKind.wrap_u8]; omega
  have u_qb : IntKind.u8.wrap (qb : Int) = (qb : Int) := by rw [IntKind.wrap_u8]; omega
  have u_t3 : IntKind.u8.wrap (t3 : Int) = (t3 : Int) := by rw [IntKind.wrap_u8]; omega
  have u_qc : IntKind.u8.wrap (qc : Int) = (qc : Int) := by rw [IntKind.wrap_u8]; omega
  have u_t4 : IntKind.u8.wrap (t4 : Int) = (t4 : Int) := by rw [IntKind.wrap_u8]; omega
  have u_t5 : IntKind.u8.wrap (t5 : Int) = (t5 : Int) := by rw [IntKind.wrap_u8]; omega
  have HF := Lib.hid (show nwF n = 2 + a by unfold nwF; omega)
  have HC := Lib.hid (show nwC n = 1 + c by unfold nwC; omega)
  have HD := Lib.hid (show nwD n t = ⟨(nwF n : Int), 1, 4000, ((1 + t5 : Nat) : Int), 4591870180066957722, 4605380978949069210, 4607632778762754458, (nwD n t).cars⟩ by unfold nwD; rw [h_t5])
  have HN := Lib.hid (nwCars_next (nwF n : Int) t (nwC n))
  rw [← h_t1, ← h_t2, ← h_t3, ← h_t4] at HN
  have HALL := Lib.hid (nwCars_all n t)
  have HLEN := Lib.hid (nwD_len n t)
  have hz := nwCars_zero (nwF n : Int) t (nwC n)
  clear h_a h_qn h_c h_t1 h_qa h_t2 h_qb h_t3 h_qc h_t4 h_t5
  generalize nwF n = F at *
  generalize nwC n = C at *
  go_enter Tryd.func5, Tryd.ntmps5
  go_wp2_with fail
  rw [show (2 + (a : Int)) = (F : Int) by have := HF.out; omega, show (1 + (c : Int)) = ((C : Nat) : Int) by have := HC.out; omega]
  refine (sample_own (F : Int) C _ (by omega) (by omega) (by omega)).mono ?_
  rintro e w1 ⟨A, cap, rfl, hown, hb1⟩
  obtain ⟨g, rfl, hg, hcb⟩ := CarBlk.of_own hown (sampleCars_length _ _) (by omega)
  rw [← hz] at hcb
  clear hown hz
  have hr0 : w1.heap[w.heap.size]? = some (.cells #[.int .i64 0, .int .i64 0, .int .i64 0, .int .i64 0, .float .f64 0, .float .f64 0, .float .f64 0, .slice none 0 0] 27 (0, 0)) := (hb1.block _ (by simp)).trans (heap_alloc_new w _)
  have hbw1 : Below w.heap.size w w1 := ((Below.refl _ _).alloc (Nat.le_refl _) _).trans (hb1.mono (by simp))
  have hg : w.heap.size + 1 ≤ g := by simp at hg; omega
  have hgl := hcb.lt
  have HB1 : Hid (Bx w [(w.heap.size, .cells #[.int .i64 0, .int .i64 0, .int .i64 0, .int .i64 0, .float .f64 0, .float .f64 0, .float .f64 0, .slice none 0 0] 27 (0, 0))] w1) := Lib.hid ⟨hbw1, fun p hp => by simp only [List.mem_cons, List.not_mem_nil, or_false] at hp; rw [hp]; exact hr0⟩
  have HCB := Lib.hid hcb
  clear hcb hb1 hbw1 hr0
  simp only [sampleD, BldD.agg, sampleCars_length]
  go_wp2_with (with_reducible show wpList _ _ _ (Oper.mk _ (.store 27 _ _) _ _ _ _ :: _) _ _; refine Hid.out ?_)
  refine Lib.hid ?_
  have l2_0 : w.heap.size < w1.heap.size := (Array.getElem?_eq_some_iff.1 HB1.out.r0).1
  have lw2 : w.heap.size ≤ w1.heap.size := HB1.out.below.size
  refine wpList_put rfl 27 _ _ rfl w1.heap.size #[.int .i64 (F : Int), .int .i64 1, .int .i64 4000, .int .i64 30, .float .f64 4591870180066957722, .float .f64 4605380978949069210, .float .f64 4607632778762754458, .slice (some ⟨g, 0, none⟩) C cap] _ 27 rfl rfl (heap_alloc_new w1 _) (by kernel_rfl) rfl (by kernel_rfl) ?_
  intro w2 hr2 hg2
  have HCB2 := Lib.hid (HCB.out.same (hg2.out.block g (by have := hgl; simp; omega) (by simp; omega) |>.trans (Below.heap_alloc _ _ _ hgl)))
  have HB2 : Hid (Bx w [(w1.heap.size, .cells #[.int .i64 (F : Int), .int .i64 1, .int .i64 4000, .int .i64 30, .float .f64 4591870180066957722, .float .f64 4605380978949069210, .float .f64 4607632778762754458, .slice (some ⟨g, 0, none⟩) C cap] 27 (0, 0)), (w.heap.size, .cells #[.int .i64 0, .int .i64 0, .int .i64 0, .int .i64 0, .float .f64 0, .float .f64 0, .float .f64 0, .slice none 0 0] 27 (0, 0))] w2) := Lib.hid ((HB1.out.make (heap_alloc_new w1 (.cells #[.int .i64 0, .int .i64 0, .int .i64 0, .int .i64 0, .float .f64 0, .float .f64 0, .float .f64 0, .slice none 0 0] 27)) ((Below.refl w1.heap.size w1).alloc (Nat.le_refl _) _)).put HB1.out.below.size hg2.out hr2.out (by simp only [List.mem_cons, List.not_mem_nil, or_false]; rintro p (rfl | rfl) <;> simp <;> omega))
  clear hr2 hg2 HB1
  generalize w1.heap.size = gb at *
  clear HCB
  have hgb : g < gb := hgl
  have hsb : w.heap.size < gb := by omega
  have hne : ∀ p ∈ ([(gb, .cells #[.int .i64 (F : Int), .int .i64 1, .int .i64 4000, .int .i64 30, .float .f64 4591870180066957722, .float .f64 4605380978949069210, .float .f64 4607632778762754458, .slice (some ⟨g, 0, none⟩) C cap] 27 (0, 0)), (w.heap.size, .cells #[.int .i64 0, .int .i64 0, .int .i64 0, .int .i64 0, .float .f64 0, .float .f64 0, .float .f64 0, .slice none 0 0] 27 (0, 0))] : List (Nat × Obj)), p.1 ≠ g := by simp only [List.mem_cons, List.not_mem_nil, or_false]; rintro p (rfl | rfl) <;> simp only <;> omega
  go_wp2_with fail
  go_loopw [6] (fun v wr => ∃ k : Nat, k ≤ C ∧ v = .int .i64 k ∧ Hid (CarBlk wr g (nwCars (F : Int) t C k)) ∧ Hid (Bx w [(gb, .cells #[.int .i64 (F : Int), .int .i64 1, .int .i64 4000, .int .i64 30, .float .f64 4591870180066957722, .float .f64 4605380978949069210, .float .f64 4607632778762754458, .slice (some ⟨g, 0, none⟩) C cap] 27 (0, 0)), (w.heap.size, .cells #[.int .i64 0, .int .i64 0, .int .i64 0, .int .i64 0, .float .f64 0, .float .f64 0, .float .f64 0, .slice none 0 0] 27 (0, 0))] wr)) (fun v _ => C - (intOf v).toNat)
  case atStart =>
    exact ⟨0, Nat.zero_le _, rfl, HCB2, HB2⟩
  case round =>
    obtain ⟨k, hk, rfl, HK, HR⟩ := hrel
    clear HCB2 HB2
    by_cases hlt : k < C
    · have c0_0 : wr.cell? ⟨gb, 0, none⟩ = some (.int .i64 (F : Int)) := cell_of_row _ _ _ _ _ (0, 0) HR.out.r0
      obtain ⟨-, -, -, -, -, -, -, c0_7⟩ := row8 (b := gb) HR.out.r0
      have hkl : k < (nwCars (F : Int) t C k).length := by rw [nwCars_len]; exact hlt
      have hgd := nwCars_getD (F : Int) t C k k hlt
      rw [if_neg (Nat.lt_irrefl k)] at hgd
      have x4 : wr.cell? ⟨g, k * 9 + 4, none⟩ = some (.int .i64 ((sampleCar (F : Int) k).vals.getD 4 0)) := by rw [← hgd]; exact HK.out.cell hkl (by omega)
      have y4 : wr.frozen? ⟨g, k * 9 + 4, none⟩ = false := HK.out.free _
      have x5 : wr.cell? ⟨g, k * 9 + 5, none⟩ = some (.int .i64 ((sampleCar (F : Int) k).vals.getD 5 0)) := by rw [← hgd]; exact HK.out.cell hkl (by omega)
      have y5 : wr.frozen? ⟨g, k * 9 + 5, none⟩ = false := HK.out.free _
      have x6 : wr.cell? ⟨g, k * 9 + 6, none⟩ = some (.int .i64 ((sampleCar (F : Int) k).vals.getD 6 0)) := by rw [← hgd]; exact HK.out.cell hkl (by omega)
      have y6 : wr.frozen? ⟨g, k * 9 + 6, none⟩ = false := HK.out.free _
      have x7 : wr.cell? ⟨g, k * 9 + 7, none⟩ = some (.int .i64 ((sampleCar (F : Int) k).vals.getD 7 0)) := by rw [← hgd]; exact HK.out.cell hkl (by omega)
      have y7 : wr.frozen? ⟨g, k * 9 + 7, none⟩ = false := HK.out.free _
      have x8 : wr.cell? ⟨g, k * 9 + 8, none⟩ = some (.int .i64 ((sampleCar (F : Int) k).vals.getD 8 0)) := by rw [← hgd]; exact HK.out.cell hkl (by omega)
      have y8 : wr.frozen? ⟨g, k * 9 + 8, none⟩ = false := HK.out.free _
      simp only [sampleCar, CarD.vals, List.getD_cons_succ, List.getD_cons_zero] at x4 x5 x6 x7 x8
      have hF0 : ¬ (F : Int) = 0 := by omega
      have hmod : ((k : Int) + (t : Int)).tmod (F : Int) = ((k + t : Nat) : Int) % (F : Int) := by rw [Int.tmod_eq_emod_of_nonneg (by omega), Int.natCast_add]
      have hgd2 := Lib.hid hgd
      have hkl2 := Lib.hid hkl
      clear hgd hkl
      have hcw : IntKind.i64.wrap ((k : Int) + (t : Int)) = (k : Int) + (t : Int) := by rw [IntKind.wrap_i64]; omega
      have hd1 : (k : Int) < (C : Int) := by omega
      go_wp2_with fail
      go_roundw
      case rel =>
        refine ⟨k + 1, by omega, by go_num, ?_, ?_⟩
        · have h4 := HK.out.put hkl2.out (j := 4) (by omega) ((1 + t1 : Nat) : Int)
          rw [hgd2.out] at h4
          have h8 := (((h4.put2 hkl2.out (j := 5) (by omega) ((1 + t2 : Nat) : Int)).put2 hkl2.out (j := 6) (by omega) ((1 + t3 : Nat) : Int)).put2 hkl2.out (j := 7) (by omega) ((1 + t3 + t4 : Nat) : Int)).put2 hkl2.out (j := 8) (by omega) (((k + t : Nat) : Int) % (F : Int))
          rw [HN.out k] at h8
          simp only [Int.natCast_add, Int.natCast_one] at h8
          exact Lib.hid h8
        · exact Lib.hid (((((HR.out.setOther _ (by omega) hne).setOther _ (by omega) hne).setOther _ (by omega) hne).setOther _ (by omega) hne).setOther _ (by omega) hne)
      case measure => simp [intOf]; omega
    · obtain rfl : C = k := by omega
      obtain ⟨c0_0, c0_1, c0_2, c0_3, c0_4, c0_5, c0_6, c0_7⟩ := row8 (b := gb) HR.out.r0
      have hd1 : ¬ (C : Int) < (C : Int) := by omega
      go_wp2_with (with_reducible show wpList _ _ _ (Oper.mk _ (.store 3 _ _) _ _ _ _ :: _) _ _; refine Hid.out ?_)
      refine Lib.hid ?_
      refine wpList_putCell rfl 3 _ _ rfl (gb) 3 (.int .i64 (1 + (t5 : Int))) _ _ 27 rfl rfl HR.out.r0 (by kernel_rfl) (by simp) rfl rfl rfl ?_
      intro w21 hr21 hg21
      replace HK := Lib.hid (HK.out.same (hg21.out.block g HK.out.lt (fun e => by have := Option.some.inj e; omega)))
      have HB21 : Hid (Bx w [(gb, .cells #[.int .i64 (F : Int), .int .i64 1, .int .i64 4000, .int .i64 (1 + (t5 : Int)), .float .f64 4591870180066957722, .float .f64 4605380978949069210, .float .f64 4607632778762754458, .slice (some ⟨g, 0, none⟩) C cap] 27 (0, 0)), (w.heap.size, .cells #[.int .i64 0, .int .i64 0, .int .i64 0, .int .i64 0, .float .f64 0, .float .f64 0, .float .f64 0, .slice none 0 0] 27 (0, 0))] w21) := Lib.hid (HR.out.put (by omega) hg21.out hr21.out (by simp only [List.mem_cons, List.not_mem_nil, or_false]; rintro p (rfl | rfl) <;> simp <;> omega))
      clear c0_0 c0_1 c0_2 c0_3 c0_4 c0_5 c0_6 c0_7 hr21 hg21 HR
      obtain ⟨c0_0, c0_1, c0_2, c0_3, c0_4, c0_5, c0_6, c0_7⟩ := row8 (b := gb) HB21.out.r0
      go_wp2_with (with_reducible show wpList _ _ _ (Oper.mk _ (.store 27 _ _) _ _ _ _ :: _) _ _; refine Hid.out ?_)
      refine Lib.hid ?_
      refine wpList_put rfl 27 _ _ rfl (w.heap.size) #[.int .i64 (F : Int), .int .i64 1, .int .i64 4000, .int .i64 (1 + (t5 : Int)), .float .f64 4591870180066957722, .float .f64 4605380978949069210, .float .f64 4607632778762754458, .slice (some ⟨g, 0, none⟩) C cap] _ 27 rfl rfl HB21.out.r1 (by kernel_rfl) rfl (by kernel_rfl) ?_
      intro w22 hr22 hg22
      replace HK := Lib.hid (HK.out.same (hg22.out.block g HK.out.lt (fun e => by have := Option.some.inj e; omega)))
      have HB22 : Hid (Bx w [(gb, .cells #[.int .i64 (F : Int), .int .i64 1, .int .i64 4000, .int .i64 (1 + (t5 : Int)), .float .f64 4591870180066957722, .float .f64 4605380978949069210, .float .f64 4607632778762754458, .slice (some ⟨g, 0, none⟩) C cap] 27 (0, 0)), (w.heap.size, .cells #[.int .i64 (F : Int), .int .i64 1, .int .i64 4000, .int .i64 (1 + (t5 : Int)), .float .f64 4591870180066957722, .float .f64 4605380978949069210, .float .f64 4607632778762754458, .slice (some ⟨g, 0, none⟩) C cap] 27 (0, 0))] w22) := Lib.hid (HB21.out.put (by omega) hg22.out hr22.out (by simp only [List.mem_cons, List.not_mem_nil, or_false]; rintro p (rfl | rfl) <;> simp <;> omega))
      clear c0_0 c0_1 c0_2 c0_3 c0_4 c0_5 c0_6 c0_7 hr22 hg22 HB21
      go_wp2_with fail
      refine bodyPost_ret (results_cell_row Tryd.results5 _ _ _ _ _ (0, 0) _ rfl (HB22.out.r1) Tryd.underlying27 rfl (by kernel_rfl)) rfl (⟨g, cap, ?_, ?_, by omega, HB22.out.below⟩)
      · rw [HD.out]
        simp only [BldD.agg, Int.natCast_add, Int.natCast_one]
        rw [HLEN.out]
      · rw [← HALL.out]
        exact HK.out
end Go.Proofs.YtnjcegkefjdgdaaDoor
