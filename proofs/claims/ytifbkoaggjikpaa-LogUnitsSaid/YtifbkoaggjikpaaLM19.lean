/- What the texts behind this one rest on: one text. No statement of the seat is proved here. -/
import Derived.Test.YtifbkoaggjikpaaLM08
import Derived.Test.YtifbkoaggjikpaaLM17
import Derived.Test.YtifbkoaggjikpaaLM09
import Derived.Test.YtifbkoaggjikpaaLM02
namespace Go.Proofs.Ytifbkoaggjikpaa
section
open Go.RowKit

theorem u8s_get (l : List Nat) (k : Nat) (h : k < l.length) : (u8s l)[k]'(by rw [u8s_len]; exact h) = .int .u8 (l.getD k 0 : Nat) := by
  simp [u8s, List.getD, h]
theorem VAt.u8 {w : World} {A : Option Addr} {l : List Nat} (h : VAt w A (u8s l)) {k : Nat} (hk : k < l.length) : ∃ b off, A = some ⟨b, off, none⟩ ∧ b < w.heap.size ∧ w.cell? ⟨b, off + k, none⟩ = some (.int .u8 (l.getD k 0 : Nat)) := by
  obtain ⟨b, off, h1, h2, h3⟩ := h.at_ (k := k) (by rw [u8s_len]; exact hk)
  exact ⟨b, off, h1, h2, by rw [h3, u8s_get l k hk]⟩
theorem getD_lt {l : List Nat} (h : ∀ z ∈ l, z < 256) (k : Nat) : l.getD k 0 < 256 := by
  rcases Nat.lt_or_ge k l.length with h1 | h1
  · rw [List.getD_eq_getElem?_getD, List.getElem?_eq_getElem h1]; exact h _ (List.getElem_mem h1)
  · rw [List.getD_eq_getElem?_getD, List.getElem?_eq_none h1]; decide

set_option maxRecDepth 100000 in
set_option maxHeartbeats 8000000 in
theorem records_any (b : BldD) (A : Option Addr) (cap : Nat) (F C : Nat) (hf : b.floors = F) (hcl : b.cars.length = C) (hF1 : 2 ≤ F) (hF2 : F ≤ 32) (hC1 : 1 ≤ C) (hC2 : C ≤ 8) (ns : List Nat) (hns : ∀ z ∈ ns, z < 256) (hnl : ns.length ≤ maxLen)
    (v : Value) (most : Nat) (hmo : most ≤ 1000) (w : World) (hv : VV w v (u8s ns)) :
    Calls Try.prog 15 #[b.agg A cap, v, .int .i64 most] w fun e w' => ∃ u, e = .returned u ∧ RV w' u (Rc.recL F C ns (min (ns.length / 2) most)) ∧ Below w.heap.size w w' := by
  obtain ⟨i0, hi0, hz0, hz1, hz2⟩ := info_parts rcInfo
  obtain ⟨A1, cp1, rfl, hA⟩ := hv
  rw [u8s_len]
  have HA := Lib.hid hA
  have HLT := Lib.hid (fun k => getD_lt hns k)
  have HR := Lib.hid (fun k => Rc.recL_succ F C ns k)
  have HRL := Lib.hid (fun k => Rc.recL_len F C ns k)
  have HRZ := Lib.hid (Rc.recL_zero F C ns)
  have hRK : ∀ k, Rc.recK F C ns k = Rc.recAt F C (ns.getD (2 * k) 0) (ns.getD (2 * k + 1) 0) := fun _ => rfl
  have HRK := Lib.hid hRK
  clear hA hns hRK
  generalize Rc.recL F C ns = RL at *
  generalize Rc.recK F C ns = RK at *
  unfold maxLen at hnl
  obtain ⟨f, d, r, p, e1, e2, e3, cs⟩ := b
  simp only [BldD.agg] at hf hcl ⊢
  subst hf
  generalize cs.length = CC at hcl ⊢
  subst hcl
  obtain ⟨N, hN⟩ : ∃ N, N = ns.length := ⟨_, rfl⟩
  rw [← hN] at hnl ⊢
  have HN := Lib.hid hN
  clear hN
  go_enter Try.func15, Try.ntmps15
  go_wp2_with fail
  have hst : Below (w.heap.size + 1) (w.alloc (.cells #[.int .i64 F, .int .i64 d, .int .i64 r, .int .i64 p, .float .f64 e1, .float .f64 e2, .float .f64 e3, .slice A CC cap] 26)) (w.alloc (.cells #[.int .i64 F, .int .i64 d, .int .i64 r, .int .i64 p, .float .f64 e1, .float .f64 e2, .float .f64 e3, .slice A CC cap] 26)) := Below.refl _ _
  have c0 := cell_new_below hst 0
  have c7 := cell_new_below hst 7
  have HST := Lib.hid hst
  clear hst
  go_quiet (fail)
  clear c0 c7
  go_wp2_with fail
  go_loopw [7, 10] (fun v a wr => ∃ k : Nat, 2 * k ≤ N ∧ k ≤ most ∧ a = .int .i64 ((2 * k : Nat) : Int) ∧ wr.ownsRow (w.heap.size + 1) 41 5 v k (flatR (RL k)) ∧ Below (w.heap.size + 1) (w.alloc (.cells #[.int .i64 F, .int .i64 d, .int .i64 r, .int .i64 p, .float .f64 e1, .float .f64 e2, .float .f64 e3, .slice A CC cap] 26)) wr) (fun _ a _ => N - (intOf a).toNat)
  case atStart => exact ⟨0, by omega, by omega, rfl, by rw [HRZ.out]; exact World.ownsRow_nil _ _ _ _, below_drewN HST.out _⟩
  case round =>
    obtain ⟨k, hk, hkm, rfl, hown, hbw⟩ := hrel
    have HO := Lib.hid hown
    have HB := Lib.hid hbw
    have hsz : w.heap.size + 1 ≤ wr.heap.size := by have := hbw.size; simpa using this
    clear hown hbw
    by_cases hlt : 2 * k + 1 < N
    case neg =>
      have hd : decide ((((2 * k : Nat) : Int) + 1) < (N : Int)) = false := decide_eq_false (by omega)
      go_wp2_with fail
      go_ret
      refine ⟨_, rfl, ?_, below_of_new HB.out⟩
      rw [show min (N / 2) most = k by omega]
      exact (RV.of_own (l := RL k) HO.out).2
    by_cases hlm : k < most
    case neg =>
      have hd : decide ((((2 * k : Nat) : Int) + 1) < (N : Int)) = true := decide_eq_true (by omega)
      have hd2 : decide ((k : Int) < (most : Int)) = false := decide_eq_false (by omega)
      obtain ⟨A2, cp2, hu, -⟩ := (RV.of_own (l := RL k) HO.out).2
      rw [HRL.out] at hu
      subst hu
      go_wp2_with fail
      go_ret
      refine ⟨_, rfl, ?_, below_of_new HB.out⟩
      rw [show min (N / 2) most = k by omega]
      exact (RV.of_own (l := RL k) HO.out).2
    have hd : decide ((((2 * k : Nat) : Int) + 1) < (N : Int)) = true := decide_eq_true (by omega)
    have hd2 : decide ((k : Int) < (most : Int)) = true := decide_eq_true (by omega)
    obtain ⟨A2, cp2, hu, -⟩ := (RV.of_own (l := RL k) HO.out).2
    rw [HRL.out] at hu
    subst hu
    obtain ⟨bb, off, rfl, hbb, n0⟩ := (HA.out.below (below_of_new HB.out)).u8 (k := 2 * k) (by have := HN.out; omega)
    obtain ⟨bb2, off2, hbb2, -, n1⟩ := (HA.out.below (below_of_new HB.out)).u8 (k := 2 * k + 1) (by have := HN.out; omega)
    obtain ⟨rfl, rfl, -⟩ : bb = bb2 ∧ off = off2 ∧ True := by injection hbb2 with e; injection e with e1 e2 e3; exact ⟨e1, e2, trivial⟩
    have l0 := HLT.out (2 * k)
    have l1 := HLT.out (2 * k + 1)
    have HREC := Lib.hid (HRK.out k)
    generalize ns.getD (2 * k) 0 = n at *
    generalize ns.getD (2 * k + 1) 0 = m at *
    generalize ha : 2 * k = a at *
    have HAK := Lib.hid ha
    clear ha hbb2
    have w1 : IntKind.i64.wrap ((a : Int) + 1) = (a : Int) + 1 := IntWalk.i64_in _ (by omega)
    have t1 : ((a : Int) + 1).toNat = a + 1 := by omega
    have lt0 : a < N := by omega
    have lt1 : a + 1 < N := by omega
    have wn : IntKind.i64.wrap (n : Int) = (n : Int) := IntWalk.i64_in _ (by omega)
    have wm : IntKind.i64.wrap (m : Int) = (m : Int) := IntWalk.i64_in _ (by omega)
    go_wp2_with fail
    go_quiet (fail)
    have HB1 := Lib.hid (below_drewN HB.out nq)
    have HO1 := Lib.hid (own_of_blocks (w' := wr.drewN nq) HO.out (fun j _ _ => rfl))
    have hsz1 : w.heap.size + 1 ≤ (wr.drewN nq).heap.size := hsz
    clear n0 n1 hbb hsz
    generalize wr.drewN nq = W1 at *
    obtain ⟨q, hq⟩ : ∃ q : Nat, q = n / 7 := ⟨_, rfl⟩
    have e7 : (n : Int).tdiv 7 = (q : Int) := by rw [Int.tdiv_eq_ediv_of_nonneg (by omega)]; omega
    have r7 : (n : Int).tmod 7 = ((n % 7 : Nat) : Int) := by rw [Int.tmod_eq_emod_of_nonneg (by omega)]; omega
    obtain ⟨x1, hx1⟩ : ∃ x : Nat, x = q % CC := ⟨_, rfl⟩
    have rx1 : (q : Int).tmod (CC : Int) = (x1 : Int) := by rw [Int.tmod_eq_emod_of_nonneg (by omega), hx1]; simp
    have x1b : x1 < CC := by rw [hx1]; exact Nat.mod_lt _ (by omega)
    have cz : ¬ (CC : Int) = 0 := by omega
    have cz' : ¬ CC = 0 := by omega
    have hcases : n % 7 = 0 ∨ n % 7 = 1 ∨ n % 7 = 2 ∨ n % 7 = 3 ∨ n % 7 = 4 ∨ n % 7 = 5 ∨ n % 7 = 6 := by omega
    have hm2 : m % 2 = 0 ∨ m % 2 = 1 := by omega
    have HQ := Lib.hid hq
    have HX1 := Lib.hid hx1
    clear hq hx1
    have hq256 : q < 256 := by have := HQ.out; omega
    rcases hcases with hc | hc | hc | hc | hc | hc | hc
    · rw [hc] at r7
      obtain ⟨p2, hp2⟩ : ∃ x : Nat, x = m / 2 := ⟨_, rfl⟩
      have e2 : (m : Int).tdiv 2 = (p2 : Int) := by rw [Int.tdiv_eq_ediv_of_nonneg (by omega)]; omega
      obtain ⟨x3, hx3⟩ : ∃ x : Nat, x = p2 % (F - 1) := ⟨_, rfl⟩
      have rF : (p2 : Int).tmod ((F : Int) - 1) = (x3 : Int) := by
        rw [Int.tmod_eq_emod_of_nonneg (by omega), hx3, show (F : Int) - 1 = ((F - 1 : Nat) : Int) by omega]; simp
      have x3b : x3 < F - 1 := by rw [hx3]; exact Nat.mod_lt _ (by omega)
      have wF : IntKind.i64.wrap ((F : Int) - 1) = (F : Int) - 1 := IntWalk.i64_in _ (by omega)
      have fz : ¬ (F : Int) - 1 = 0 := by omega
      have wp2 : wrap64 (p2 : Int) = (p2 : Int) := IntWalk.wrap64_in _ (by omega)
      have fz' : ¬ (F : Int) = 1 := by omega
      have HX3 := Lib.hid (And.intro hx3 hp2)
      clear hx3 hp2
      rcases hm2 with hm | hm
      · have r2 : (m : Int).tmod 2 = 0 := by rw [Int.tmod_eq_emod_of_nonneg (by omega)]; omega
        have xx := 0
        clear xx
        have HRR : Rc.recAt F CC n m = ⟨1, x3, 1, 0, 0⟩ := by
          unfold Rc.recAt
          rw [if_neg (by omega), if_neg (by omega), hc, hm, HX3.out.1, HX3.out.2]
          simp
        rw [HRR] at HREC
        clear HRR hc hm
        go_wp2_with fail
        go_region
        have hL2 : Lit W1.heap.size W1 W1.heap.size (.cells #[.int .i64 1, .int .i64 x3, .int .i64 1, .int .i64 0, .int .i64 0] 41 (0, 0)) (W1.alloc (.cells #[.int .i64 1, .int .i64 x3, .int .i64 1, .int .i64 0, .int .i64 0] 41)).drew := ⟨((Below.refl _ _).alloc (Nat.le_refl _) _).drew, by simp, heap_alloc_new W1 _⟩
        generalize (W1.alloc (.cells #[.int .i64 1, .int .i64 x3, .int .i64 1, .int .i64 0, .int .i64 0] 41)).drew = W2 at *
        obtain ⟨⟨z0, z1, z2, z3, z4⟩, f0, f1, f2, f3, f4⟩ := rowCells hL2.row
        go_wp2_with (with_reducible show wpList _ _ _ (Oper.mk _ (.load 41 _) _ _ _ _ :: _) _ _; refine Hid.out ?_)
        have hL9 := hL2
        try simp only [List.setIfInBounds_toArray, List.set_cons_succ, List.set_cons_zero] at hL9
        clear z0 z1 z2 z3 z4 f0 f1 f2 f3 f4 hL2
        generalize W2 = W9 at *
        obtain ⟨⟨z0, z1, z2, z3, z4⟩, f0, f1, f2, f3, f4⟩ := rowCells hL9.row
        have hsz9 := hL9.size
        have HB9 := Lib.hid (HB1.out.trans (hL9.below.mono hsz1))
        have HO9 := Lib.hid (own_of_blocks HO1.out (fun j _ hj => hL9.below.block j hj))
        have hlt9 : w.heap.size + 1 ≤ W9.heap.size := by omega
        clear hL9
        refine Lib.hid ?_
        have hm63 : k + 1 ≤ maxLen := by unfold maxLen; omega
        go_wp2_with (at_builtin; refine wpList_append_own _ rfl (.tmp 107) (.tmp 109) 34 rfl (w.heap.size + 1) 41 i0 _ 5 40 Try.underlying34 hi0 hz0 hz1 hz2 rfl (by decide) (.slice A2 k cp2) k (flatR (RL k)) rfl (HO9.out.alloc _) ⟨W9.heap.size, 0, none⟩ 1 1 _ rfl ?hlc0p0 (World.news_of_block (heap_alloc_new _ _)) ?h1c0p0 hm63 ?hbyc0p0 ?hbasec0p0 ?hKc0p0)
        case h1c0p0 => first | exact ⟨rfl, rfl, rfl, rfl, rfl⟩ | exact ⟨rfl, rfl, rfl, rfl⟩ | exact ⟨rfl, rfl, rfl⟩ | exact ⟨rfl, rfl⟩ | exact rfl
        case hbyc0p0 => omega
        case hbasec0p0 => simp; omega
        intro v' w' hown' hgrow _
        have hbw' := (HB9.out.alloc (by omega) _).grown hgrow (by simp; omega) (fun k hk => by have := HO9.out.lt k hk; omega)
        have hown2 : w'.ownsRow (w.heap.size + 1) 41 5 v' (k + 1) (flatR (RL (k + 1))) := by rw [HR.out, flatR_snoc, HREC.out]; exact hown'
        have HF := Lib.hid (And.intro hown2 hbw')
        clear hbw' hown2 hown' hgrow
        go_wp2_with fail
        go_roundw
        case rel => exact ⟨k + 1, by have := HAK.out; omega, by omega, by have := HAK.out; subst this; simp; omega, HF.out.1, HF.out.2⟩
        case measure => simp [intOf]; omega
      · have r2 : (m : Int).tmod 2 = 1 := by rw [Int.tmod_eq_emod_of_nonneg (by omega)]; omega
        have xx := 0
        clear xx
        have HRR : Rc.recAt F CC n m = ⟨1, (x3 : Int) + 1, 2, 0, 0⟩ := by
          unfold Rc.recAt
          rw [if_neg (by omega), if_neg (by omega), hc, hm, HX3.out.1, HX3.out.2]
          simp
        rw [HRR] at HREC
        clear HRR hc hm
        go_wp2_with fail
        go_region
        have hL2 : Lit W1.heap.size W1 W1.heap.size (.cells #[.int .i64 1, .int .i64 x3, .int .i64 2, .int .i64 0, .int .i64 0] 41 (0, 0)) (W1.alloc (.cells #[.int .i64 1, .int .i64 x3, .int .i64 2, .int .i64 0, .int .i64 0] 41)).drew := ⟨((Below.refl _ _).alloc (Nat.le_refl _) _).drew, by simp, heap_alloc_new W1 _⟩
        generalize (W1.alloc (.cells #[.int .i64 1, .int .i64 x3, .int .i64 2, .int .i64 0, .int .i64 0] 41)).drew = W2 at *
        obtain ⟨⟨z0, z1, z2, z3, z4⟩, f0, f1, f2, f3, f4⟩ := rowCells hL2.row
        go_wp2_with (with_reducible show wpList _ _ _ (Oper.mk _ (.load 41 _) _ _ _ _ :: _) _ _; refine Hid.out ?_)
        have hL9 := (hL2.put (Nat.le_refl _) 1 (.int .i64 ((x3 : Int) + 1)))
        try simp only [List.setIfInBounds_toArray, List.set_cons_succ, List.set_cons_zero] at hL9
        clear z0 z1 z2 z3 z4 f0 f1 f2 f3 f4 hL2
        generalize (W2.setCell ⟨W1.heap.size, 1, none⟩ (.int .i64 ((x3 : Int) + 1))) = W9 at *
        obtain ⟨⟨z0, z1, z2, z3, z4⟩, f0, f1, f2, f3, f4⟩ := rowCells hL9.row
        have hsz9 := hL9.size
        have HB9 := Lib.hid (HB1.out.trans (hL9.below.mono hsz1))
        have HO9 := Lib.hid (own_of_blocks HO1.out (fun j _ hj => hL9.below.block j hj))
        have hlt9 : w.heap.size + 1 ≤ W9.heap.size := by omega
        clear hL9
        refine Lib.hid ?_
        have hm63 : k + 1 ≤ maxLen := by unfold maxLen; omega
        go_wp2_with (at_builtin; refine wpList_append_own _ rfl (.tmp 107) (.tmp 109) 34 rfl (w.heap.size + 1) 41 i0 _ 5 40 Try.underlying34 hi0 hz0 hz1 hz2 rfl (by decide) (.slice A2 k cp2) k (flatR (RL k)) rfl (HO9.out.alloc _) ⟨W9.heap.size, 0, none⟩ 1 1 _ rfl ?hlc0p1 (World.news_of_block (heap_alloc_new _ _)) ?h1c0p1 hm63 ?hbyc0p1 ?hbasec0p1 ?hKc0p1)
        case h1c0p1 => first | exact ⟨rfl, rfl, rfl, rfl, rfl⟩ | exact ⟨rfl, rfl, rfl, rfl⟩ | exact ⟨rfl, rfl, rfl⟩ | exact ⟨rfl, rfl⟩ | exact rfl
        case hbyc0p1 => omega
        case hbasec0p1 => simp; omega
        intro v' w' hown' hgrow _
        have hbw' := (HB9.out.alloc (by omega) _).grown hgrow (by simp; omega) (fun k hk => by have := HO9.out.lt k hk; omega)
        have hown2 : w'.ownsRow (w.heap.size + 1) 41 5 v' (k + 1) (flatR (RL (k + 1))) := by rw [HR.out, flatR_snoc, HREC.out]; exact hown'
        have HF := Lib.hid (And.intro hown2 hbw')
        clear hbw' hown2 hown' hgrow
        go_wp2_with fail
        go_roundw
        case rel => exact ⟨k + 1, by have := HAK.out; omega, by omega, by have := HAK.out; subst this; simp; omega, HF.out.1, HF.out.2⟩
        case measure => simp [intOf]; omega
    · rw [hc] at r7
      obtain ⟨p2, hp2⟩ : ∃ x : Nat, x = m / 2 := ⟨_, rfl⟩
      have e2 : (m : Int).tdiv 2 = (p2 : Int) := by rw [Int.tdiv_eq_ediv_of_nonneg (by omega)]; omega
      obtain ⟨x3, hx3⟩ : ∃ x : Nat, x = p2 % (F - 1) := ⟨_, rfl⟩
      have rF : (p2 : Int).tmod ((F : Int) - 1) = (x3 : Int) := by
        rw [Int.tmod_eq_emod_of_nonneg (by omega), hx3, show (F : Int) - 1 = ((F - 1 : Nat) : Int) by omega]; simp
      have x3b : x3 < F - 1 := by rw [hx3]; exact Nat.mod_lt _ (by omega)
      have wF : IntKind.i64.wrap ((F : Int) - 1) = (F : Int) - 1 := IntWalk.i64_in _ (by omega)
      have fz : ¬ (F : Int) - 1 = 0 := by omega
      have wp2 : wrap64 (p2 : Int) = (p2 : Int) := IntWalk.wrap64_in _ (by omega)
      have fz' : ¬ (F : Int) = 1 := by omega
      have HX3 := Lib.hid (And.intro hx3 hp2)
      clear hx3 hp2
      rcases hm2 with hm | hm
      · have r2 : (m : Int).tmod 2 = 0 := by rw [Int.tmod_eq_emod_of_nonneg (by omega)]; omega
        have xx := 0
        clear xx
        have HRR : Rc.recAt F CC n m = ⟨2, x3, 1, 0, 0⟩ := by
          unfold Rc.recAt
          rw [if_neg (by omega), if_neg (by omega), hc, hm, HX3.out.1, HX3.out.2]
          simp
        rw [HRR] at HREC
        clear HRR hc hm
        go_wp2_with fail
        go_region
        have hL2 : Lit W1.heap.size W1 W1.heap.size (.cells #[.int .i64 2, .int .i64 x3, .int .i64 1, .int .i64 0, .int .i64 0] 41 (0, 0)) (W1.alloc (.cells #[.int .i64 2, .int .i64 x3, .int .i64 1, .int .i64 0, .int .i64 0] 41)).drew := ⟨((Below.refl _ _).alloc (Nat.le_refl _) _).drew, by simp, heap_alloc_new W1 _⟩
        generalize (W1.alloc (.cells #[.int .i64 2, .int .i64 x3, .int .i64 1, .int .i64 0, .int .i64 0] 41)).drew = W2 at *
        obtain ⟨⟨z0, z1, z2, z3, z4⟩, f0, f1, f2, f3, f4⟩ := rowCells hL2.row
        go_wp2_with (with_reducible show wpList _ _ _ (Oper.mk _ (.load 41 _) _ _ _ _ :: _) _ _; refine Hid.out ?_)
        have hL9 := hL2
        try simp only [List.setIfInBounds_toArray, List.set_cons_succ, List.set_cons_zero] at hL9
        clear z0 z1 z2 z3 z4 f0 f1 f2 f3 f4 hL2
        generalize W2 = W9 at *
        obtain ⟨⟨z0, z1, z2, z3, z4⟩, f0, f1, f2, f3, f4⟩ := rowCells hL9.row
        have hsz9 := hL9.size
        have HB9 := Lib.hid (HB1.out.trans (hL9.below.mono hsz1))
        have HO9 := Lib.hid (own_of_blocks HO1.out (fun j _ hj => hL9.below.block j hj))
        have hlt9 : w.heap.size + 1 ≤ W9.heap.size := by omega
        clear hL9
        refine Lib.hid ?_
        have hm63 : k + 1 ≤ maxLen := by unfold maxLen; omega
        go_wp2_with (at_builtin; refine wpList_append_own _ rfl (.tmp 107) (.tmp 109) 34 rfl (w.heap.size + 1) 41 i0 _ 5 40 Try.underlying34 hi0 hz0 hz1 hz2 rfl (by decide) (.slice A2 k cp2) k (flatR (RL k)) rfl (HO9.out.alloc _) ⟨W9.heap.size, 0, none⟩ 1 1 _ rfl ?hlc1p0 (World.news_of_block (heap_alloc_new _ _)) ?h1c1p0 hm63 ?hbyc1p0 ?hbasec1p0 ?hKc1p0)
        case h1c1p0 => first | exact ⟨rfl, rfl, rfl, rfl, rfl⟩ | exact ⟨rfl, rfl, rfl, rfl⟩ | exact ⟨rfl, rfl, rfl⟩ | exact ⟨rfl, rfl⟩ | exact rfl
        case hbyc1p0 => omega
        case hbasec1p0 => simp; omega
        intro v' w' hown' hgrow _
        have hbw' := (HB9.out.alloc (by omega) _).grown hgrow (by simp; omega) (fun k hk => by have := HO9.out.lt k hk; omega)
        have hown2 : w'.ownsRow (w.heap.size + 1) 41 5 v' (k + 1) (flatR (RL (k + 1))) := by rw [HR.out, flatR_snoc, HREC.out]; exact hown'
        have HF := Lib.hid (And.intro hown2 hbw')
        clear hbw' hown2 hown' hgrow
        go_wp2_with fail
        go_roundw
        case rel => exact ⟨k + 1, by have := HAK.out; omega, by omega, by have := HAK.out; subst this; simp; omega, HF.out.1, HF.out.2⟩
        case measure => simp [intOf]; omega
      · have r2 : (m : Int).tmod 2 = 1 := by rw [Int.tmod_eq_emod_of_nonneg (by omega)]; omega
        have xx := 0
        clear xx
        have HRR : Rc.recAt F CC n m = ⟨2, (x3 : Int) + 1, 2, 0, 0⟩ := by
          unfold Rc.recAt
          rw [if_neg (by omega), if_neg (by omega), hc, hm, HX3.out.1, HX3.out.2]
          simp
        rw [HRR] at HREC
        clear HRR hc hm
        go_wp2_with fail
        go_region
        have hL2 : Lit W1.heap.size W1 W1.heap.size (.cells #[.int .i64 2, .int .i64 x3, .int .i64 2, .int .i64 0, .int .i64 0] 41 (0, 0)) (W1.alloc (.cells #[.int .i64 2, .int .i64 x3, .int .i64 2, .int .i64 0, .int .i64 0] 41)).drew := ⟨((Below.refl _ _).alloc (Nat.le_refl _) _).drew, by simp, heap_alloc_new W1 _⟩
        generalize (W1.alloc (.cells #[.int .i64 2, .int .i64 x3, .int .i64 2, .int .i64 0, .int .i64 0] 41)).drew = W2 at *
        obtain ⟨⟨z0, z1, z2, z3, z4⟩, f0, f1, f2, f3, f4⟩ := rowCells hL2.row
        go_wp2_with (with_reducible show wpList _ _ _ (Oper.mk _ (.load 41 _) _ _ _ _ :: _) _ _; refine Hid.out ?_)
        have hL9 := (hL2.put (Nat.le_refl _) 1 (.int .i64 ((x3 : Int) + 1)))
        try simp only [List.setIfInBounds_toArray, List.set_cons_succ, List.set_cons_zero] at hL9
        clear z0 z1 z2 z3 z4 f0 f1 f2 f3 f4 hL2
        generalize (W2.setCell ⟨W1.heap.size, 1, none⟩ (.int .i64 ((x3 : Int) + 1))) = W9 at *
        obtain ⟨⟨z0, z1, z2, z3, z4⟩, f0, f1, f2, f3, f4⟩ := rowCells hL9.row
        have hsz9 := hL9.size
        have HB9 := Lib.hid (HB1.out.trans (hL9.below.mono hsz1))
        have HO9 := Lib.hid (own_of_blocks HO1.out (fun j _ hj => hL9.below.block j hj))
        have hlt9 : w.heap.size + 1 ≤ W9.heap.size := by omega
        clear hL9
        refine Lib.hid ?_
        have hm63 : k + 1 ≤ maxLen := by unfold maxLen; omega
        go_wp2_with (at_builtin; refine wpList_append_own _ rfl (.tmp 107) (.tmp 109) 34 rfl (w.heap.size + 1) 41 i0 _ 5 40 Try.underlying34 hi0 hz0 hz1 hz2 rfl (by decide) (.slice A2 k cp2) k (flatR (RL k)) rfl (HO9.out.alloc _) ⟨W9.heap.size, 0, none⟩ 1 1 _ rfl ?hlc1p1 (World.news_of_block (heap_alloc_new _ _)) ?h1c1p1 hm63 ?hbyc1p1 ?hbasec1p1 ?hKc1p1)
        case h1c1p1 => first | exact ⟨rfl, rfl, rfl, rfl, rfl⟩ | exact ⟨rfl, rfl, rfl, rfl⟩ | exact ⟨rfl, rfl, rfl⟩ | exact ⟨rfl, rfl⟩ | exact rfl
        case hbyc1p1 => omega
        case hbasec1p1 => simp; omega
        intro v' w' hown' hgrow _
        have hbw' := (HB9.out.alloc (by omega) _).grown hgrow (by simp; omega) (fun k hk => by have := HO9.out.lt k hk; omega)
        have hown2 : w'.ownsRow (w.heap.size + 1) 41 5 v' (k + 1) (flatR (RL (k + 1))) := by rw [HR.out, flatR_snoc, HREC.out]; exact hown'
        have HF := Lib.hid (And.intro hown2 hbw')
        clear hbw' hown2 hown' hgrow
        go_wp2_with fail
        go_roundw
        case rel => exact ⟨k + 1, by have := HAK.out; omega, by omega, by have := HAK.out; subst this; simp; omega, HF.out.1, HF.out.2⟩
        case measure => simp [intOf]; omega
    · rw [hc] at r7
      obtain ⟨p2, hp2⟩ : ∃ x : Nat, x = m / 2 := ⟨_, rfl⟩
      have e2 : (m : Int).tdiv 2 = (p2 : Int) := by rw [Int.tdiv_eq_ediv_of_nonneg (by omega)]; omega
      obtain ⟨x3, hx3⟩ : ∃ x : Nat, x = p2 % (F - 1) := ⟨_, rfl⟩
      have rF : (p2 : Int).tmod ((F : Int) - 1) = (x3 : Int) := by
        rw [Int.tmod_eq_emod_of_nonneg (by omega), hx3, show (F : Int) - 1 = ((F - 1 : Nat) : Int) by omega]; simp
      have x3b : x3 < F - 1 := by rw [hx3]; exact Nat.mod_lt _ (by omega)
      have wF : IntKind.i64.wrap ((F : Int) - 1) = (F : Int) - 1 := IntWalk.i64_in _ (by omega)
      have fz : ¬ (F : Int) - 1 = 0 := by omega
      have wp2 : wrap64 (p2 : Int) = (p2 : Int) := IntWalk.wrap64_in _ (by omega)
      have fz' : ¬ (F : Int) = 1 := by omega
      have HX3 := Lib.hid (And.intro hx3 hp2)
      clear hx3 hp2
      rcases hm2 with hm | hm
      · have r2 : (m : Int).tmod 2 = 0 := by rw [Int.tmod_eq_emod_of_nonneg (by omega)]; omega
        obtain ⟨x4, hx4⟩ : ∃ x : Nat, x = q % (CC + 2) := ⟨_, rfl⟩
        have r4 : (q : Int).tmod ((CC : Int) + 2) = (x4 : Int) := by
          rw [Int.tmod_eq_emod_of_nonneg (by omega), hx4, show (CC : Int) + 2 = ((CC + 2 : Nat) : Int) by omega]; simp
        have x4b : x4 < CC + 2 := by rw [hx4]; exact Nat.mod_lt _ (by omega)
        have cz2 : ¬ (CC : Int) + 2 = 0 := by omega
        have HRR : Rc.recAt F CC n m = ⟨3, x3, 1, (x4 : Int) - 2, 0⟩ := by
          unfold Rc.recAt
          rw [if_neg (by omega), if_neg (by omega), hc, hm, HX3.out.1, HX3.out.2, hx4, HQ.out]
          simp
        rw [HRR] at HREC
        clear HRR hc hm hx4
        go_wp2_with fail
        go_region
        have hL2 : Lit W1.heap.size W1 W1.heap.size (.cells #[.int .i64 3, .int .i64 x3, .int .i64 1, .int .i64 0, .int .i64 0] 41 (0, 0)) (W1.alloc (.cells #[.int .i64 3, .int .i64 x3, .int .i64 1, .int .i64 0, .int .i64 0] 41)).drew := ⟨((Below.refl _ _).alloc (Nat.le_refl _) _).drew, by simp, heap_alloc_new W1 _⟩
        generalize (W1.alloc (.cells #[.int .i64 3, .int .i64 x3, .int .i64 1, .int .i64 0, .int .i64 0] 41)).drew = W2 at *
        obtain ⟨⟨z0, z1, z2, z3, z4⟩, f0, f1, f2, f3, f4⟩ := rowCells hL2.row
        go_wp2_with (with_reducible show wpList _ _ _ (Oper.mk _ (.load 41 _) _ _ _ _ :: _) _ _; refine Hid.out ?_)
        have hL9 := (hL2.put (Nat.le_refl _) 3 (.int .i64 ((x4 : Int) - 2)))
        try simp only [List.setIfInBounds_toArray, List.set_cons_succ, List.set_cons_zero] at hL9
        clear z0 z1 z2 z3 z4 f0 f1 f2 f3 f4 hL2
        generalize (W2.setCell ⟨W1.heap.size, 3, none⟩ (.int .i64 ((x4 : Int) - 2))) = W9 at *
        obtain ⟨⟨z0, z1, z2, z3, z4⟩, f0, f1, f2, f3, f4⟩ := rowCells hL9.row
        have hsz9 := hL9.size
        have HB9 := Lib.hid (HB1.out.trans (hL9.below.mono hsz1))
        have HO9 := Lib.hid (own_of_blocks HO1.out (fun j _ hj => hL9.below.block j hj))
        have hlt9 : w.heap.size + 1 ≤ W9.heap.size := by omega
        clear hL9
        refine Lib.hid ?_
        have hm63 : k + 1 ≤ maxLen := by unfold maxLen; omega
        go_wp2_with (at_builtin; refine wpList_append_own _ rfl (.tmp 107) (.tmp 109) 34 rfl (w.heap.size + 1) 41 i0 _ 5 40 Try.underlying34 hi0 hz0 hz1 hz2 rfl (by decide) (.slice A2 k cp2) k (flatR (RL k)) rfl (HO9.out.alloc _) ⟨W9.heap.size, 0, none⟩ 1 1 _ rfl ?hlc2p0 (World.news_of_block (heap_alloc_new _ _)) ?h1c2p0 hm63 ?hbyc2p0 ?hbasec2p0 ?hKc2p0)
        case h1c2p0 => first | exact ⟨rfl, rfl, rfl, rfl, rfl⟩ | exact ⟨rfl, rfl, rfl, rfl⟩ | exact ⟨rfl, rfl, rfl⟩ | exact ⟨rfl, rfl⟩ | exact rfl
        case hbyc2p0 => omega
        case hbasec2p0 => simp; omega
        intro v' w' hown' hgrow _
        have hbw' := (HB9.out.alloc (by omega) _).grown hgrow (by simp; omega) (fun k hk => by have := HO9.out.lt k hk; omega)
        have hown2 : w'.ownsRow (w.heap.size + 1) 41 5 v' (k + 1) (flatR (RL (k + 1))) := by rw [HR.out, flatR_snoc, HREC.out]; exact hown'
        have HF := Lib.hid (And.intro hown2 hbw')
        clear hbw' hown2 hown' hgrow
        go_wp2_with fail
        go_roundw
        case rel => exact ⟨k + 1, by have := HAK.out; omega, by omega, by have := HAK.out; subst this; simp; omega, HF.out.1, HF.out.2⟩
        case measure => simp [intOf]; omega
      · have r2 : (m : Int).tmod 2 = 1 := by rw [Int.tmod_eq_emod_of_nonneg (by omega)]; omega
        obtain ⟨x4, hx4⟩ : ∃ x : Nat, x = q % (CC + 2) := ⟨_, rfl⟩
        have r4 : (q : Int).tmod ((CC : Int) + 2) = (x4 : Int) := by
          rw [Int.tmod_eq_emod_of_nonneg (by omega), hx4, show (CC : Int) + 2 = ((CC + 2 : Nat) : Int) by omega]; simp
        have x4b : x4 < CC + 2 := by rw [hx4]; exact Nat.mod_lt _ (by omega)
        have cz2 : ¬ (CC : Int) + 2 = 0 := by omega
        have HRR : Rc.recAt F CC n m = ⟨3, (x3 : Int) + 1, 2, (x4 : Int) - 2, 0⟩ := by
          unfold Rc.recAt
          rw [if_neg (by omega), if_neg (by omega), hc, hm, HX3.out.1, HX3.out.2, hx4, HQ.out]
          simp
        rw [HRR] at HREC
        clear HRR hc hm hx4
        go_wp2_with fail
        go_region
        have hL2 : Lit W1.heap.size W1 W1.heap.size (.cells #[.int .i64 3, .int .i64 x3, .int .i64 2, .int .i64 0, .int .i64 0] 41 (0, 0)) (W1.alloc (.cells #[.int .i64 3, .int .i64 x3, .int .i64 2, .int .i64 0, .int .i64 0] 41)).drew := ⟨((Below.refl _ _).alloc (Nat.le_refl _) _).drew, by simp, heap_alloc_new W1 _⟩
        generalize (W1.alloc (.cells #[.int .i64 3, .int .i64 x3, .int .i64 2, .int .i64 0, .int .i64 0] 41)).drew = W2 at *
        obtain ⟨⟨z0, z1, z2, z3, z4⟩, f0, f1, f2, f3, f4⟩ := rowCells hL2.row
        go_wp2_with (with_reducible show wpList _ _ _ (Oper.mk _ (.load 41 _) _ _ _ _ :: _) _ _; refine Hid.out ?_)
        have hL9 := ((hL2.put (Nat.le_refl _) 1 (.int .i64 ((x3 : Int) + 1))).put (Nat.le_refl _) 3 (.int .i64 ((x4 : Int) - 2)))
        try simp only [List.setIfInBounds_toArray, List.set_cons_succ, List.set_cons_zero] at hL9
        clear z0 z1 z2 z3 z4 f0 f1 f2 f3 f4 hL2
        generalize ((W2.setCell ⟨W1.heap.size, 1, none⟩ (.int .i64 ((x3 : Int) + 1))).setCell ⟨W1.heap.size, 3, none⟩ (.int .i64 ((x4 : Int) - 2))) = W9 at *
        obtain ⟨⟨z0, z1, z2, z3, z4⟩, f0, f1, f2, f3, f4⟩ := rowCells hL9.row
        have hsz9 := hL9.size
        have HB9 := Lib.hid (HB1.out.trans (hL9.below.mono hsz1))
        have HO9 := Lib.hid (own_of_blocks HO1.out (fun j _ hj => hL9.below.block j hj))
        have hlt9 : w.heap.size + 1 ≤ W9.heap.size := by omega
        clear hL9
        refine Lib.hid ?_
        have hm63 : k + 1 ≤ maxLen := by unfold maxLen; omega
        go_wp2_with (at_builtin; refine wpList_append_own _ rfl (.tmp 107) (.tmp 109) 34 rfl (w.heap.size + 1) 41 i0 _ 5 40 Try.underlying34 hi0 hz0 hz1 hz2 rfl (by decide) (.slice A2 k cp2) k (flatR (RL k)) rfl (HO9.out.alloc _) ⟨W9.heap.size, 0, none⟩ 1 1 _ rfl ?hlc2p1 (World.news_of_block (heap_alloc_new _ _)) ?h1c2p1 hm63 ?hbyc2p1 ?hbasec2p1 ?hKc2p1)
        case h1c2p1 => first | exact ⟨rfl, rfl, rfl, rfl, rfl⟩ | exact ⟨rfl, rfl, rfl, rfl⟩ | exact ⟨rfl, rfl, rfl⟩ | exact ⟨rfl, rfl⟩ | exact rfl
        case hbyc2p1 => omega
        case hbasec2p1 => simp; omega
        intro v' w' hown' hgrow _
        have hbw' := (HB9.out.alloc (by omega) _).grown hgrow (by simp; omega) (fun k hk => by have := HO9.out.lt k hk; omega)
        have hown2 : w'.ownsRow (w.heap.size + 1) 41 5 v' (k + 1) (flatR (RL (k + 1))) := by rw [HR.out, flatR_snoc, HREC.out]; exact hown'
        have HF := Lib.hid (And.intro hown2 hbw')
        clear hbw' hown2 hown' hgrow
        go_wp2_with fail
        go_roundw
        case rel => exact ⟨k + 1, by have := HAK.out; omega, by omega, by have := HAK.out; subst this; simp; omega, HF.out.1, HF.out.2⟩
        case measure => simp [intOf]; omega
    · rw [hc] at r7
      obtain ⟨x2, hx2⟩ : ∃ x : Nat, x = m % 5 := ⟨_, rfl⟩
      have rx2 : (m : Int).tmod 5 = (x2 : Int) := by rw [Int.tmod_eq_emod_of_nonneg (by omega), hx2]; simp
      have HRR : Rc.recAt F CC n m = ⟨4, 0, 0, x1, x2⟩ := by
        unfold Rc.recAt
        rw [if_pos hc, hx2, HX1.out, HQ.out]
      rw [HRR] at HREC
      clear hx2 HRR hc
      have hm63 : k + 1 ≤ maxLen := by unfold maxLen; omega
      go_wp2_with (at_builtin; refine wpList_append_own _ rfl (.tmp 107) (.tmp 109) 34 rfl (w.heap.size + 1) 41 i0 _ 5 40 Try.underlying34 hi0 hz0 hz1 hz2 rfl (by decide) (.slice A2 k cp2) k (flatR (RL k)) rfl ((HO1.out.alloc _).alloc _) ⟨W1.heap.size + 1, 0, none⟩ 1 1 _ rfl ?hlc3 (World.news_of_block (rows2 (start2 W1 _ _)).2) ?h1c3 hm63 ?hbyc3 ?hbasec3 ?hKc3)
      case h1c3 => first | exact ⟨rfl, rfl, rfl, rfl, rfl⟩ | exact ⟨rfl, rfl, rfl, rfl⟩ | exact ⟨rfl, rfl, rfl⟩ | exact ⟨rfl, rfl⟩ | exact rfl
      case hbyc3 => omega
      case hbasec3 => simp; omega
      intro v' w' hown' hgrow _
      have hbw' := ((HB1.out.alloc (by omega) _).alloc (by simp; omega) _).grown hgrow (by simp; omega) (fun k hk => by have := HO1.out.lt k hk; omega)
      have hown2 : w'.ownsRow (w.heap.size + 1) 41 5 v' (k + 1) (flatR (RL (k + 1))) := by rw [HR.out, flatR_snoc, HREC.out]; exact hown'
      have HF := Lib.hid (And.intro hown2 hbw')
      clear hbw' hown2 hown' hgrow
      go_wp2_with fail
      go_roundw
      case rel => exact ⟨k + 1, by have := HAK.out; omega, by omega, by have := HAK.out; subst this; simp; omega, HF.out.1, HF.out.2⟩
      case measure => simp [intOf]; omega
    · rw [hc] at r7
      obtain ⟨x2, hx2⟩ : ∃ x : Nat, x = m % 2 := ⟨_, rfl⟩
      have rx2 : (m : Int).tmod 2 = (x2 : Int) := by rw [Int.tmod_eq_emod_of_nonneg (by omega), hx2]; simp
      have HRR : Rc.recAt F CC n m = ⟨5, 0, 0, x1, x2⟩ := by
        unfold Rc.recAt
        rw [if_neg (by omega), if_pos (.inl hc), hc, hx2, HX1.out, HQ.out]
        rfl
      rw [HRR] at HREC
      clear hx2 HRR hc
      have hm63 : k + 1 ≤ maxLen := by unfold maxLen; omega
      go_wp2_with (at_builtin; refine wpList_append_own _ rfl (.tmp 107) (.tmp 109) 34 rfl (w.heap.size + 1) 41 i0 _ 5 40 Try.underlying34 hi0 hz0 hz1 hz2 rfl (by decide) (.slice A2 k cp2) k (flatR (RL k)) rfl ((HO1.out.alloc _).alloc _) ⟨W1.heap.size + 1, 0, none⟩ 1 1 _ rfl ?hlc4 (World.news_of_block (rows2 (start2 W1 _ _)).2) ?h1c4 hm63 ?hbyc4 ?hbasec4 ?hKc4)
      case h1c4 => first | exact ⟨rfl, rfl, rfl, rfl, rfl⟩ | exact ⟨rfl, rfl, rfl, rfl⟩ | exact ⟨rfl, rfl, rfl⟩ | exact ⟨rfl, rfl⟩ | exact rfl
      case hbyc4 => omega
      case hbasec4 => simp; omega
      intro v' w' hown' hgrow _
      have hbw' := ((HB1.out.alloc (by omega) _).alloc (by simp; omega) _).grown hgrow (by simp; omega) (fun k hk => by have := HO1.out.lt k hk; omega)
      have hown2 : w'.ownsRow (w.heap.size + 1) 41 5 v' (k + 1) (flatR (RL (k + 1))) := by rw [HR.out, flatR_snoc, HREC.out]; exact hown'
      have HF := Lib.hid (And.intro hown2 hbw')
      clear hbw' hown2 hown' hgrow
      go_wp2_with fail
      go_roundw
      case rel => exact ⟨k + 1, by have := HAK.out; omega, by omega, by have := HAK.out; subst this; simp; omega, HF.out.1, HF.out.2⟩
      case measure => simp [intOf]; omega
    · rw [hc] at r7
      obtain ⟨x2, hx2⟩ : ∃ x : Nat, x = m % 2 := ⟨_, rfl⟩
      have rx2 : (m : Int).tmod 2 = (x2 : Int) := by rw [Int.tmod_eq_emod_of_nonneg (by omega), hx2]; simp
      have HRR : Rc.recAt F CC n m = ⟨6, 0, 0, x1, x2⟩ := by
        unfold Rc.recAt
        rw [if_neg (by omega), if_pos (.inr hc), hc, hx2, HX1.out, HQ.out]
        rfl
      rw [HRR] at HREC
      clear hx2 HRR hc
      have hm63 : k + 1 ≤ maxLen := by unfold maxLen; omega
      go_wp2_with (at_builtin; refine wpList_append_own _ rfl (.tmp 107) (.tmp 109) 34 rfl (w.heap.size + 1) 41 i0 _ 5 40 Try.underlying34 hi0 hz0 hz1 hz2 rfl (by decide) (.slice A2 k cp2) k (flatR (RL k)) rfl ((HO1.out.alloc _).alloc _) ⟨W1.heap.size + 1, 0, none⟩ 1 1 _ rfl ?hlc5 (World.news_of_block (rows2 (start2 W1 _ _)).2) ?h1c5 hm63 ?hbyc5 ?hbasec5 ?hKc5)
      case h1c5 => first | exact ⟨rfl, rfl, rfl, rfl, rfl⟩ | exact ⟨rfl, rfl, rfl, rfl⟩ | exact ⟨rfl, rfl, rfl⟩ | exact ⟨rfl, rfl⟩ | exact rfl
      case hbyc5 => omega
      case hbasec5 => simp; omega
      intro v' w' hown' hgrow _
      have hbw' := ((HB1.out.alloc (by omega) _).alloc (by simp; omega) _).grown hgrow (by simp; omega) (fun k hk => by have := HO1.out.lt k hk; omega)
      have hown2 : w'.ownsRow (w.heap.size + 1) 41 5 v' (k + 1) (flatR (RL (k + 1))) := by rw [HR.out, flatR_snoc, HREC.out]; exact hown'
      have HF := Lib.hid (And.intro hown2 hbw')
      clear hbw' hown2 hown' hgrow
      go_wp2_with fail
      go_roundw
      case rel => exact ⟨k + 1, by have := HAK.out; omega, by omega, by have := HAK.out; subst this; simp; omega, HF.out.1, HF.out.2⟩
      case measure => simp [intOf]; omega
    · rw [hc] at r7
      obtain ⟨p2, hp2⟩ : ∃ x : Nat, x = m / 2 := ⟨_, rfl⟩
      have e2 : (m : Int).tdiv 2 = (p2 : Int) := by rw [Int.tdiv_eq_ediv_of_nonneg (by omega)]; omega
      obtain ⟨x3, hx3⟩ : ∃ x : Nat, x = p2 % (F - 1) := ⟨_, rfl⟩
      have rF : (p2 : Int).tmod ((F : Int) - 1) = (x3 : Int) := by
        rw [Int.tmod_eq_emod_of_nonneg (by omega), hx3, show (F : Int) - 1 = ((F - 1 : Nat) : Int) by omega]; simp
      have x3b : x3 < F - 1 := by rw [hx3]; exact Nat.mod_lt _ (by omega)
      have wF : IntKind.i64.wrap ((F : Int) - 1) = (F : Int) - 1 := IntWalk.i64_in _ (by omega)
      have fz : ¬ (F : Int) - 1 = 0 := by omega
      have wp2 : wrap64 (p2 : Int) = (p2 : Int) := IntWalk.wrap64_in _ (by omega)
      have fz' : ¬ (F : Int) = 1 := by omega
      have HX3 := Lib.hid (And.intro hx3 hp2)
      clear hx3 hp2
      rcases hm2 with hm | hm
      · have r2 : (m : Int).tmod 2 = 0 := by rw [Int.tmod_eq_emod_of_nonneg (by omega)]; omega
        obtain ⟨x4, hx4⟩ : ∃ x : Nat, x = q % 2 := ⟨_, rfl⟩
        have r4 : (q : Int).tmod 2 = (x4 : Int) := by rw [Int.tmod_eq_emod_of_nonneg (by omega), hx4]; simp
        have x4b : x4 < 2 := by omega
        obtain ⟨x5, hx5⟩ : ∃ x : Nat, x = n / 14 := ⟨_, rfl⟩
        have r5 : (n : Int).tdiv 14 = (x5 : Int) := by rw [Int.tdiv_eq_ediv_of_nonneg (by omega)]; omega
        have x5b : x5 < 20 := by omega
        have HRR : Rc.recAt F CC n m = ⟨7, x3, 1, x4, x5⟩ := by
          unfold Rc.recAt
          rw [if_neg (by omega), if_neg (by omega), hc, hm, HX3.out.1, HX3.out.2, hx4, hx5, HQ.out]
          simp
        rw [HRR] at HREC
        clear HRR hc hm hx4 hx5
        go_wp2_with fail
        go_region
        have hL2 : Lit W1.heap.size W1 W1.heap.size (.cells #[.int .i64 7, .int .i64 x3, .int .i64 1, .int .i64 0, .int .i64 0] 41 (0, 0)) (W1.alloc (.cells #[.int .i64 7, .int .i64 x3, .int .i64 1, .int .i64 0, .int .i64 0] 41)).drew := ⟨((Below.refl _ _).alloc (Nat.le_refl _) _).drew, by simp, heap_alloc_new W1 _⟩
        generalize (W1.alloc (.cells #[.int .i64 7, .int .i64 x3, .int .i64 1, .int .i64 0, .int .i64 0] 41)).drew = W2 at *
        obtain ⟨⟨z0, z1, z2, z3, z4⟩, f0, f1, f2, f3, f4⟩ := rowCells hL2.row
        go_wp2_with (with_reducible show wpList _ _ _ (Oper.mk _ (.load 41 _) _ _ _ _ :: _) _ _; refine Hid.out ?_)
        have hL9 := ((hL2.put (Nat.le_refl _) 3 (.int .i64 x4)).put (Nat.le_refl _) 4 (.int .i64 x5))
        try simp only [List.setIfInBounds_toArray, List.set_cons_succ, List.set_cons_zero] at hL9
        clear z0 z1 z2 z3 z4 f0 f1 f2 f3 f4 hL2
        generalize ((W2.setCell ⟨W1.heap.size, 3, none⟩ (.int .i64 x4)).setCell ⟨W1.heap.size, 4, none⟩ (.int .i64 x5)) = W9 at *
        obtain ⟨⟨z0, z1, z2, z3, z4⟩, f0, f1, f2, f3, f4⟩ := rowCells hL9.row
        have hsz9 := hL9.size
        have HB9 := Lib.hid (HB1.out.trans (hL9.below.mono hsz1))
        have HO9 := Lib.hid (own_of_blocks HO1.out (fun j _ hj => hL9.below.block j hj))
        have hlt9 : w.heap.size + 1 ≤ W9.heap.size := by omega
        clear hL9
        refine Lib.hid ?_
        have hm63 : k + 1 ≤ maxLen := by unfold maxLen; omega
        go_wp2_with (at_builtin; refine wpList_append_own _ rfl (.tmp 107) (.tmp 109) 34 rfl (w.heap.size + 1) 41 i0 _ 5 40 Try.underlying34 hi0 hz0 hz1 hz2 rfl (by decide) (.slice A2 k cp2) k (flatR (RL k)) rfl (HO9.out.alloc _) ⟨W9.heap.size, 0, none⟩ 1 1 _ rfl ?hlc6p0 (World.news_of_block (heap_alloc_new _ _)) ?h1c6p0 hm63 ?hbyc6p0 ?hbasec6p0 ?hKc6p0)
        case h1c6p0 => first | exact ⟨rfl, rfl, rfl, rfl, rfl⟩ | exact ⟨rfl, rfl, rfl, rfl⟩ | exact ⟨rfl, rfl, rfl⟩ | exact ⟨rfl, rfl⟩ | exact rfl
        case hbyc6p0 => omega
        case hbasec6p0 => simp; omega
        intro v' w' hown' hgrow _
        have hbw' := (HB9.out.alloc (by omega) _).grown hgrow (by simp; omega) (fun k hk => by have := HO9.out.lt k hk; omega)
        have hown2 : w'.ownsRow (w.heap.size + 1) 41 5 v' (k + 1) (flatR (RL (k + 1))) := by rw [HR.out, flatR_snoc, HREC.out]; exact hown'
        have HF := Lib.hid (And.intro hown2 hbw')
        clear hbw' hown2 hown' hgrow
        go_wp2_with fail
        go_roundw
        case rel => exact ⟨k + 1, by have := HAK.out; omega, by omega, by have := HAK.out; subst this; simp; omega, HF.out.1, HF.out.2⟩
        case measure => simp [intOf]; omega
      · have r2 : (m : Int).tmod 2 = 1 := by rw [Int.tmod_eq_emod_of_nonneg (by omega)]; omega
        obtain ⟨x4, hx4⟩ : ∃ x : Nat, x = q % 2 := ⟨_, rfl⟩
        have r4 : (q : Int).tmod 2 = (x4 : Int) := by rw [Int.tmod_eq_emod_of_nonneg (by omega), hx4]; simp
        have x4b : x4 < 2 := by omega
        obtain ⟨x5, hx5⟩ : ∃ x : Nat, x = n / 14 := ⟨_, rfl⟩
        have r5 : (n : Int).tdiv 14 = (x5 : Int) := by rw [Int.tdiv_eq_ediv_of_nonneg (by omega)]; omega
        have x5b : x5 < 20 := by omega
        have HRR : Rc.recAt F CC n m = ⟨7, (x3 : Int) + 1, 2, x4, x5⟩ := by
          unfold Rc.recAt
          rw [if_neg (by omega), if_neg (by omega), hc, hm, HX3.out.1, HX3.out.2, hx4, hx5, HQ.out]
          simp
        rw [HRR] at HREC
        clear HRR hc hm hx4 hx5
        go_wp2_with fail
        go_region
        have hL2 : Lit W1.heap.size W1 W1.heap.size (.cells #[.int .i64 7, .int .i64 x3, .int .i64 2, .int .i64 0, .int .i64 0] 41 (0, 0)) (W1.alloc (.cells #[.int .i64 7, .int .i64 x3, .int .i64 2, .int .i64 0, .int .i64 0] 41)).drew := ⟨((Below.refl _ _).alloc (Nat.le_refl _) _).drew, by simp, heap_alloc_new W1 _⟩
        generalize (W1.alloc (.cells #[.int .i64 7, .int .i64 x3, .int .i64 2, .int .i64 0, .int .i64 0] 41)).drew = W2 at *
        obtain ⟨⟨z0, z1, z2, z3, z4⟩, f0, f1, f2, f3, f4⟩ := rowCells hL2.row
        go_wp2_with (with_reducible show wpList _ _ _ (Oper.mk _ (.load 41 _) _ _ _ _ :: _) _ _; refine Hid.out ?_)
        have hL9 := (((hL2.put (Nat.le_refl _) 1 (.int .i64 ((x3 : Int) + 1))).put (Nat.le_refl _) 3 (.int .i64 x4)).put (Nat.le_refl _) 4 (.int .i64 x5))
        try simp only [List.setIfInBounds_toArray, List.set_cons_succ, List.set_cons_zero] at hL9
        clear z0 z1 z2 z3 z4 f0 f1 f2 f3 f4 hL2
        generalize (((W2.setCell ⟨W1.heap.size, 1, none⟩ (.int .i64 ((x3 : Int) + 1))).setCell ⟨W1.heap.size, 3, none⟩ (.int .i64 x4)).setCell ⟨W1.heap.size, 4, none⟩ (.int .i64 x5)) = W9 at *
        obtain ⟨⟨z0, z1, z2, z3, z4⟩, f0, f1, f2, f3, f4⟩ := rowCells hL9.row
        have hsz9 := hL9.size
        have HB9 := Lib.hid (HB1.out.trans (hL9.below.mono hsz1))
        have HO9 := Lib.hid (own_of_blocks HO1.out (fun j _ hj => hL9.below.block j hj))
        have hlt9 : w.heap.size + 1 ≤ W9.heap.size := by omega
        clear hL9
        refine Lib.hid ?_
        have hm63 : k + 1 ≤ maxLen := by unfold maxLen; omega
        go_wp2_with (at_builtin; refine wpList_append_own _ rfl (.tmp 107) (.tmp 109) 34 rfl (w.heap.size + 1) 41 i0 _ 5 40 Try.underlying34 hi0 hz0 hz1 hz2 rfl (by decide) (.slice A2 k cp2) k (flatR (RL k)) rfl (HO9.out.alloc _) ⟨W9.heap.size, 0, none⟩ 1 1 _ rfl ?hlc6p1 (World.news_of_block (heap_alloc_new _ _)) ?h1c6p1 hm63 ?hbyc6p1 ?hbasec6p1 ?hKc6p1)
        case h1c6p1 => first | exact ⟨rfl, rfl, rfl, rfl, rfl⟩ | exact ⟨rfl, rfl, rfl, rfl⟩ | exact ⟨rfl, rfl, rfl⟩ | exact ⟨rfl, rfl⟩ | exact rfl
        case hbyc6p1 => omega
        case hbasec6p1 => simp; omega
        intro v' w' hown' hgrow _
        have hbw' := (HB9.out.alloc (by omega) _).grown hgrow (by simp; omega) (fun k hk => by have := HO9.out.lt k hk; omega)
        have hown2 : w'.ownsRow (w.heap.size + 1) 41 5 v' (k + 1) (flatR (RL (k + 1))) := by rw [HR.out, flatR_snoc, HREC.out]; exact hown'
        have HF := Lib.hid (And.intro hown2 hbw')
        clear hbw' hown2 hown' hgrow
        go_wp2_with fail
        go_roundw
        case rel => exact ⟨k + 1, by have := HAK.out; omega, by omega, by have := HAK.out; subst this; simp; omega, HF.out.1, HF.out.2⟩
        case measure => simp [intOf]; omega
end
end Go.Proofs.Ytifbkoaggjikpaa
