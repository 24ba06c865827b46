/- Outputs made to fit a building: the law's outputs. No statement of the seat is proved here. -/
import Derived.Test.YthbfpdkgbkpmiaaG45
import Derived.Test.YthbfpdkgbkpmiaaChain
namespace Go.Proofs.Ythbfpdkgbkpmiaa
open Go Go.RowKit Frm

theorem Lit.put8O {B b : Nat} {W1 wx : World} {cs : Array Value} {t : TypeId} (h : Lit B W1 b (.cells cs t (0, 0)) wx) (hb : B ≤ b) (hs : cs.size = 8) (v0 v1 v2 v3 v4 v5 v6 v7 : Value) :
    Lit B W1 b (.cells #[v0, v1, v2, v3, v4, v5, v6, v7] t (0, 0)) ((((((((wx.setCell ⟨b, 0, none⟩ v0).setCell ⟨b, 1, none⟩ v1).setCell ⟨b, 2, none⟩ v2).setCell ⟨b, 3, none⟩ v3).setCell ⟨b, 4, none⟩ v4).setCell ⟨b, 5, none⟩ v5).setCell ⟨b, 6, none⟩ v6).setCell ⟨b, 7, none⟩ v7) := by
  obtain ⟨l⟩ := cs
  match l, hs with
  | [a0, a1, a2, a3, a4, a5, a6, a7], _ =>
    have g := (((((((h.put hb 0 v0).put hb 1 v1).put hb 2 v2).put hb 3 v3).put hb 4 v4).put hb 5 v5).put hb 6 v6).put hb 7 v7
    have e : ((((((((#[a0, a1, a2, a3, a4, a5, a6, a7] : Array Value).setIfInBounds 0 v0).setIfInBounds 1 v1).setIfInBounds 2 v2).setIfInBounds 3 v3).setIfInBounds 4 v4).setIfInBounds 5 v5).setIfInBounds 6 v6).setIfInBounds 7 v7 = #[v0, v1, v2, v3, v4, v5, v6, v7] := by simp
    rw [e] at g
    exact g
theorem other8O {B b b' : Nat} {W1 wx : World} {row : Obj} (h : Lit B W1 b row wx) (hb : B ≤ b') (hne : b ≠ b') (v0 v1 v2 v3 v4 v5 v6 v7 : Value) :
    Lit B W1 b row ((((((((wx.setCell ⟨b', 0, none⟩ v0).setCell ⟨b', 1, none⟩ v1).setCell ⟨b', 2, none⟩ v2).setCell ⟨b', 3, none⟩ v3).setCell ⟨b', 4, none⟩ v4).setCell ⟨b', 5, none⟩ v5).setCell ⟨b', 6, none⟩ v6).setCell ⟨b', 7, none⟩ v7) :=
  (((((((h.putOther hb hne 0 v0).putOther hb hne 1 v1).putOther hb hne 2 v2).putOther hb hne 3 v3).putOther hb hne 4 v4).putOther hb hne 5 v5).putOther hb hne 6 v6).putOther hb hne 7 v7
theorem Lit.zeroO {B b : Nat} {W1 wx : World} {row : Obj} (h : Lit B W1 b row wx) : Lit 0 W1 b row wx := ⟨h.below.mono (Nat.zero_le _), Nat.zero_le _, h.row⟩
theorem cosV_of_row {B b : Nat} {W1 wx : World} {t : TypeId} {l : List CarOut} (h : Lit B W1 b (.cells (flatOu l).toArray t (0, 0)) wx) : CosV wx (some ⟨b, 0, none⟩) l :=
  .inr ⟨b, 0, rfl, fun i hi j v hj => by
    have hlt : j < 9 := by
      rcases Nat.lt_or_ge j 9 with h1 | h1
      · exact h1
      · rw [List.getElem?_eq_none (by show 9 ≤ j; exact h1)] at hj; cases hj
    rw [Nat.zero_add, row_co h hi hlt]; exact hj⟩

theorem mask_numO (F : Nat) (h1 : 2 ≤ F) (h2 : F ≤ 32) : ((2 : Int) ^ F - 1) % 4294967296 = ((2 ^ F - 1 : Nat) : Int) ∧ ((2 : Int) ^ F % 4294967296 - 1) % 4294967296 = ((2 ^ F - 1 : Nat) : Int) ∧ ((2 ^ F - 1 : Nat) : Int) / 2 = ((upM F : Nat) : Int) ∧ 2 ^ F - 1 < 4294967296 ∧ upM F < 4294967296 := by
  have h : ∀ G : Fin 33, 2 ≤ G.val → ((2 : Int) ^ G.val - 1) % 4294967296 = ((2 ^ G.val - 1 : Nat) : Int) ∧ ((2 : Int) ^ G.val % 4294967296 - 1) % 4294967296 = ((2 ^ G.val - 1 : Nat) : Int) ∧ ((2 ^ G.val - 1 : Nat) : Int) / 2 = ((upM G.val : Nat) : Int) ∧ 2 ^ G.val - 1 < 4294967296 ∧ upM G.val < 4294967296 := by unfold upM; decide +kernel
  exact h ⟨F, by omega⟩ h1

set_option linter.unusedVariables false
set_option linter.unusedSimpArgs false
set_option maxRecDepth 100000 in
set_option maxHeartbeats 8000000 in
theorem ofitted_any (F C : Nat) (x : BldD) (A : Option Addr) (cap : Nat) (y : Ou) (A' : Option Addr) (cp : Nat) (w : World) (h1 : 2 ≤ F) (h2 : F ≤ 32) (h3 : 1 ≤ C) (h4 : C ≤ 8) (hxf : x.floors = (F : Int)) (hxc : x.cars.length = C) (hy : saneOu y) (hn : y.cars.length ≤ 1000) (hv : CosV w A' y.cars) :
    Calls Try.prog 15 #[x.agg A cap, ouAgg y A' cp] w fun e w' => Below w.heap.size w w' ∧ ∃ A2 cp2, e = .returned (ouAgg (fitOu F C y) A2 cp2) ∧ CosV w' A2 (fitOu F C y).cars := by
  obtain ⟨hm1, hm2, hm3, hmL, hmL2⟩ := mask_numO F h1 h2
  obtain ⟨⟨au, ad, su, sd, bad, full, st⟩, ys⟩ := y
  obtain ⟨⟨⟨sau, sad⟩, ⟨ssu, ssd⟩, _⟩, hsc⟩ := hy
  have HSC : Hid (∀ c ∈ ys, saneCo c) := hsc
  have HV := Lib.hid hv
  simp only at sau sad ssu ssd hn HV
  clear hsc hv
  have hdd0 := u32_andNot_nat (2 ^ F - 1) 1 hmL (by decide)
  have hdd1 : bits .andNot .u32 ((2 ^ F - 1 : Nat) : Int) 1 = ((dnM F : Nat) : Int) := hdd0
  have hdL : dnM F < 4294967296 := Nat.lt_of_le_of_lt Nat.and_le_left hmL
  have hg1 := u32_and_nat au (upM F) sau hmL2
  have hg2 := u32_and_nat ad (dnM F) sad hdL
  have hg3 := u32_and_nat su (upM F) ssu hmL2
  have hg4 := u32_and_nat sd (dnM F) ssd hdL
  have hFw : IntKind.u64.wrap (F : Int) = (F : Int) := by rw [IntKind.wrap_u64]; omega
  have hsw := m64_wrap st
  have hFIT : Hid (fitOu F C ⟨⟨au, ad, su, sd, bad, full, st⟩, ys⟩ = ⟨⟨au &&& upM F, ad &&& dnM F, su &&& upM F, sd &&& dnM F, bad, full, ((m64 st % 65536 : Nat) : Int)⟩, fitCos F C ys⟩) := Lib.hid rfl
  have hst1 : ((m64 st : Nat) : Int).tmod 65536 = ((m64 st % 65536 : Nat) : Int) := by rw [Int.tmod_eq_emod_of_nonneg (by omega)]; omega
  have hst2 : ((m64 st : Nat) : Int) % 65536 = ((m64 st % 65536 : Nat) : Int) := by omega
  have hst3 : m64 st % 65536 < 65536 := Nat.mod_lt _ (by decide)
  clear hdd0 sau sad ssu ssd
  obtain ⟨f, d, r, p, e1, e2, e3, cs⟩ := x
  simp only at hxf hxc
  subst hxf
  simp only [BldD.agg, ouAgg, hxc]
  clear hxc
  rw [hFIT.out]
  simp only
  clear hFIT
  have HU := Lib.hid (rfl : upM F = upM F)
  have HFC : Hid (∀ q : CarOut, fitdCo F q = { q with iu := q.iu &&& upM F, id := q.id &&& dnM F, lu := q.lu &&& upM F, ld := q.ld &&& dnM F, cmd := ((m64 q.cmd % 6 : Nat) : Int), ph := ((m64 q.ph % 5 : Nat) : Int) }) := Lib.hid (fun _ => rfl)
  clear HU
  generalize au &&& upM F = au2 at *
  generalize ad &&& dnM F = ad2 at *
  generalize su &&& upM F = su2 at *
  generalize sd &&& dnM F = sd2 at *
  generalize upM F = U at *
  generalize dnM F = D at *
  generalize hMK : (2 ^ F - 1 : Nat) = MK at *
  clear hMK
  generalize m64 st % 65536 = st2 at *
  generalize m64 st = ms at *
  have hst4 : IntKind.i64.wrap (st2 : Int) = (st2 : Int) := by rw [IntKind.wrap_i64]; omega
  go_enter Try.func15, Try.ntmps15
  go_wp2_with (with_reducible show wpList _ _ _ (Oper.mk _ (.makeSlice _ _ _) _ _ _ _ :: _) _ _; refine Hid.out ?_)
  obtain ⟨WC, hWC⟩ : ∃ WC, WC = (w.alloc (.cells #[.int .i64 (F : Int), .int .i64 d, .int .i64 r, .int .i64 p, .float .f64 e1, .float .f64 e2, .float .f64 e3, .slice A C cap] 25)).alloc (.cells #[.int .u32 (au2 : Int), .int .u32 (ad2 : Int), .int .u32 (su2 : Int), .int .u32 (sd2 : Int), .bool bad, .bool full, .int .i64 (st2 : Int), .slice A' ys.length cp] 46) := ⟨_, rfl⟩
  have K1 : Lit w.heap.size w w.heap.size (.cells #[.int .i64 (F : Int), .int .i64 d, .int .i64 r, .int .i64 p, .float .f64 e1, .float .f64 e2, .float .f64 e3, .slice A C cap] 25 (0, 0)) (WC.alloc (.cells #[.int .u32 0, .int .u32 0, .int .u32 0, .int .u32 0, .bool false, .bool false, .int .i64 0, .slice none 0 0] 46)) := by rw [hWC]; exact ((Lit.one w _).alloc _).alloc _
  have K2 : Lit (w.heap.size + 1) (w.alloc (.cells #[.int .i64 (F : Int), .int .i64 d, .int .i64 r, .int .i64 p, .float .f64 e1, .float .f64 e2, .float .f64 e3, .slice A C cap] 25)) (w.heap.size + 1) (.cells #[.int .u32 (au2 : Int), .int .u32 (ad2 : Int), .int .u32 (su2 : Int), .int .u32 (sd2 : Int), .bool bad, .bool full, .int .i64 (st2 : Int), .slice A' ys.length cp] 46 (0, 0)) (WC.alloc (.cells #[.int .u32 0, .int .u32 0, .int .u32 0, .int .u32 0, .bool false, .bool false, .int .i64 0, .slice none 0 0] 46)) := by rw [hWC]; exact (Lit.two' w _ _).alloc _
  have K3 : Lit 0 w (w.heap.size + 2) (.cells #[.int .u32 0, .int .u32 0, .int .u32 0, .int .u32 0, .bool false, .bool false, .int .i64 0, .slice none 0 0] 46 (0, 0)) (WC.alloc (.cells #[.int .u32 0, .int .u32 0, .int .u32 0, .int .u32 0, .bool false, .bool false, .int .i64 0, .slice none 0 0] 46)) := by
    have h := Lit.one WC (.cells #[.int .u32 0, .int .u32 0, .int .u32 0, .int .u32 0, .bool false, .bool false, .int .i64 0, .slice none 0 0] 46)
    have e : WC.heap.size = w.heap.size + 2 := by rw [hWC]; simp
    rw [e] at h
    refine ⟨?_, Nat.zero_le _, h.row⟩
    have hb := h.below.mono (Nat.zero_le _)
    rw [hWC] at hb ⊢
    exact ((((Below.refl 0 w).alloc (Nat.zero_le _) _).alloc (Nat.zero_le _) _)).trans hb
  rw [← hWC]
  try simp only [hm2, hdd1]
  clear hWC
  generalize WC.alloc (.cells #[.int .u32 0, .int .u32 0, .int .u32 0, .int .u32 0, .bool false, .bool false, .int .i64 0, .slice none 0 0] 46) = W2 at *
  have HK2 := Lib.hid (And.intro K1 (And.intro K2 K3))
  clear K1 K2 K3 hm1 hm2 hm3 hdd1 hg1 hg2 hg3 hg4 hsw hst1 hst2
  obtain ⟨W3, k3, hcp, hrow, hb3, hz3⟩ := copy_cos W2 A' cp ys (HV.out.below HK2.out.1.below) C
  have hmk2 := make_coins C (by omega) W2
  have HK3 := Lib.hid (And.intro (HK2.out.1.next hb3) (And.intro (HK2.out.2.1.next hb3) (And.intro (HK2.out.2.2.next hb3) (show Lit W2.heap.size W2 W2.heap.size (.cells (flatOu (padCos C ys)).toArray 93 (0, 0)) W3 from ⟨hb3, by omega, hrow⟩))))
  have bb0 := HK2.out.1.cell 0
  have bb1 := HK2.out.1.cell 1
  have bb2 := HK2.out.1.cell 2
  have bb3 := HK2.out.1.cell 3
  have bb4 := HK2.out.1.cell 4
  have bb5 := HK2.out.1.cell 5
  have bb6 := HK2.out.1.cell 6
  have bb7 := HK2.out.1.cell 7
  have xx0 := HK2.out.2.1.cell 0
  have xx1 := HK2.out.2.1.cell 1
  have xx2 := HK2.out.2.1.cell 2
  have xx3 := HK2.out.2.1.cell 3
  have xx4 := HK2.out.2.1.cell 4
  have xx5 := HK2.out.2.1.cell 5
  have xx6 := HK2.out.2.1.cell 6
  have xx7 := HK2.out.2.1.cell 7
  simp only [List.getElem?_toArray, List.getElem?_cons_zero, List.getElem?_cons_succ] at bb0 bb1 bb2 bb3 bb4 bb5 bb6 bb7 xx0 xx1 xx2 xx3 xx4 xx5 xx6 xx7
  have hlt2 := HK2.out.2.2.lt
  have hlt1 : w.heap.size + 1 < W2.heap.size := by omega
  have hlt0 : w.heap.size < W2.heap.size := by omega
  clear hrow hb3 hz3
  refine Lib.hid ?_
  go_wp2_with fail
  go_loopw [9] (fun v wr => ∃ k : Nat, k ≤ C ∧ v = .int .i64 k ∧ Lit w.heap.size w w.heap.size (.cells #[.int .i64 (F : Int), .int .i64 d, .int .i64 r, .int .i64 p, .float .f64 e1, .float .f64 e2, .float .f64 e3, .slice A C cap] 25 (0, 0)) wr ∧ Lit (w.heap.size + 1) (w.alloc (.cells #[.int .i64 (F : Int), .int .i64 d, .int .i64 r, .int .i64 p, .float .f64 e1, .float .f64 e2, .float .f64 e3, .slice A C cap] 25)) (w.heap.size + 1) (.cells #[.int .u32 (au2 : Int), .int .u32 (ad2 : Int), .int .u32 (su2 : Int), .int .u32 (sd2 : Int), .bool bad, .bool full, .int .i64 (st2 : Int), .slice A' ys.length cp] 46 (0, 0)) wr ∧ Lit 0 w (w.heap.size + 2) (.cells #[.int .u32 0, .int .u32 0, .int .u32 0, .int .u32 0, .bool false, .bool false, .int .i64 0, .slice none 0 0] 46 (0, 0)) wr ∧ Lit W2.heap.size W2 W2.heap.size (.cells (flatOu (fitToO F k (padCos C ys))).toArray 93 (0, 0)) wr) (fun v _ => C - (intOf v).toNat)
  case atStart => exact ⟨0, Nat.zero_le _, rfl, HK3.out⟩
  case round =>
    clear HK3 hcp hmk2 hlt0 hlt1 bb0 bb1 bb2 bb3 bb4 bb5 bb6 bb7 xx0 xx1 xx2 xx3 xx4 xx5 xx6 xx7
    obtain ⟨k, hk, rfl, K1, K2, K3, K4⟩ := hrel
    have hlen : (fitToO F k (padCos C ys)).length = C := by rw [fitToO_length, padCos_length]
    have bb0 := K1.cell 0
    have bb1 := K1.cell 1
    have bb2 := K1.cell 2
    have bb3 := K1.cell 3
    have bb4 := K1.cell 4
    have bb5 := K1.cell 5
    have bb6 := K1.cell 6
    have bb7 := K1.cell 7
    have xx0 := K2.cell 0
    have xx1 := K2.cell 1
    have xx2 := K2.cell 2
    have xx3 := K2.cell 3
    have xx4 := K2.cell 4
    have xx5 := K2.cell 5
    have xx6 := K2.cell 6
    have xx7 := K2.cell 7
    simp only [List.getElem?_toArray, List.getElem?_cons_zero, List.getElem?_cons_succ] at bb0 bb1 bb2 bb3 bb4 bb5 bb6 bb7 xx0 xx1 xx2 xx3 xx4 xx5 xx6 xx7
    have HK := Lib.hid (And.intro K1 (And.intro K2 (And.intro K3 K4)))
    have hM := K4.lt
    clear K1 K2 K3 K4
    by_cases hlt : k < C
    case neg =>
      have hkC : k = C := by omega
      have e : fitToO F k (padCos C ys) = fitCos F C ys := by rw [hkC, fitCos_pad, ← fitToO_all, padCos_length]
      rw [e] at HK
      have hdd : decide ((k : Int) < (C : Int)) = false := decide_eq_false (by omega)
      have ff7 := HK.out.2.1.free 7
      have rr0 := HK.out.2.2.1.cell 0
      have rr1 := HK.out.2.2.1.cell 1
      have rr2 := HK.out.2.2.1.cell 2
      have rr3 := HK.out.2.2.1.cell 3
      have rr4 := HK.out.2.2.1.cell 4
      have rr5 := HK.out.2.2.1.cell 5
      have rr6 := HK.out.2.2.1.cell 6
      have rr7 := HK.out.2.2.1.cell 7
      simp only [List.getElem?_toArray, List.getElem?_cons_zero, List.getElem?_cons_succ] at rr0 rr1 rr2 rr3 rr4 rr5 rr6 rr7
      have rf0 := HK.out.2.2.1.free 0
      have rf1 := HK.out.2.2.1.free 1
      have rf2 := HK.out.2.2.1.free 2
      have rf3 := HK.out.2.2.1.free 3
      have rf4 := HK.out.2.2.1.free 4
      have rf5 := HK.out.2.2.1.free 5
      have rf6 := HK.out.2.2.1.free 6
      have rf7 := HK.out.2.2.1.free 7
      clear e
      have hw2 : w.heap.size + 2 < wr.heap.size := HK.out.2.2.1.lt
      have hw1 : w.heap.size + 1 < wr.heap.size := by omega
      have hw0 : w.heap.size < wr.heap.size := by omega
      go_wp2_with fail
      have E3 := (HK.out.2.2.1.putOther (b' := w.heap.size + 1) (Nat.zero_le _) (by omega) 7 (.slice (some ⟨W2.heap.size, 0, none⟩) C C)).put8O (Nat.zero_le _) rfl (.int .u32 (au2 : Int)) (.int .u32 (ad2 : Int)) (.int .u32 (su2 : Int)) (.int .u32 (sd2 : Int)) (.bool bad) (.bool full) (.int .i64 (st2 : Int)) (.slice (some ⟨W2.heap.size, 0, none⟩) C C)
      have E1 := other8O (HK.out.1.putOther (b' := w.heap.size + 1) (by omega) (by omega) 7 (.slice (some ⟨W2.heap.size, 0, none⟩) C C)) (b' := w.heap.size + 2) (by omega) (by omega) (.int .u32 (au2 : Int)) (.int .u32 (ad2 : Int)) (.int .u32 (su2 : Int)) (.int .u32 (sd2 : Int)) (.bool bad) (.bool full) (.int .i64 (st2 : Int)) (.slice (some ⟨W2.heap.size, 0, none⟩) C C)
      have E4 := other8O ((Lit.zeroO HK.out.2.2.2).putOther (b' := w.heap.size + 1) (Nat.zero_le _) (by omega) 7 (.slice (some ⟨W2.heap.size, 0, none⟩) C C)) (b' := w.heap.size + 2) (Nat.zero_le _) (by omega) (.int .u32 (au2 : Int)) (.int .u32 (ad2 : Int)) (.int .u32 (su2 : Int)) (.int .u32 (sd2 : Int)) (.bool bad) (.bool full) (.int .i64 (st2 : Int)) (.slice (some ⟨W2.heap.size, 0, none⟩) C C)
      have hlC : (fitCos F C ys).length = C := by rw [fitCos_pad, List.length_map, padCos_length]
      exact bodyPost_ret (results_cell_row Try.results15 _ _ _ _ _ (0, 0) _ rfl (E3.row) Try.underlying46 rfl (by kernel_rfl)) rfl (⟨E1.below, some ⟨W2.heap.size, 0, none⟩, C, by rw [hlC], cosV_of_row E4⟩)
    have hg := fitToO_get F k (padCos C ys) (by rw [padCos_length]; exact hlt)
    have hsucc := fitToO_succ F k (padCos C ys) (by rw [padCos_length]; exact hlt)
    have hset := fun a b c d e f => set_co (fitToO F k (padCos C ys)) k (by omega) a b c d e f
    rw [hg] at hset
    have hkp : k < (padCos C ys).length := by rw [padCos_length]; exact hlt
    have hsan : saneCo ((padCos C ys)[k]'hkp) := pad_sane_co HSC.out _ (List.getElem_mem _)
    generalize (padCos C ys)[k]'hkp = q at *
    have hq_iu := u32_and_nat q.iu U hsan.1.1 hmL2
    have hq_id := u32_and_nat q.id D hsan.1.2 hdL
    have hq_lu := u32_and_nat q.lu U hsan.2.1.1 hmL2
    have hq_ld := u32_and_nat q.ld D hsan.2.1.2 hdL
    have HSET := Lib.hid hset
    have HSUC := Lib.hid hsucc
    have HCELL : Hid (((flatOu (fitToO F k (padCos C ys))).toArray)[k * 9]? = some (.int .u32 (q.iu : Int)) ∧ ((flatOu (fitToO F k (padCos C ys))).toArray)[k * 9 + 1]? = some (.int .u32 (q.id : Int)) ∧ ((flatOu (fitToO F k (padCos C ys))).toArray)[k * 9 + 3]? = some (.int .u32 (q.lu : Int)) ∧ ((flatOu (fitToO F k (padCos C ys))).toArray)[k * 9 + 4]? = some (.int .u32 (q.ld : Int)) ∧ ((flatOu (fitToO F k (padCos C ys))).toArray)[k * 9 + 6]? = some (.int .i64 q.cmd) ∧ ((flatOu (fitToO F k (padCos C ys))).toArray)[k * 9 + 7]? = some (.int .i64 q.ph)) := Lib.hid (by
      have e := fun j hj => flatOu_at (fitToO F k (padCos C ys)) k (by omega) j hj
      simp only [hg] at e
      simp only [List.getElem?_toArray]
      exact ⟨e 0 (by decide), e 1 (by decide), e 3 (by decide), e 4 (by decide), e 6 (by decide), e 7 (by decide)⟩)
    clear hset hsucc hg hlen hsan
    have hdd : decide ((k : Int) < (C : Int)) = true := decide_eq_true (by omega)
    generalize hROW : (flatOu (fitToO F k (padCos C ys))).toArray = ROW at *
    obtain ⟨r0, r1, r3, r4, r6, r7⟩ := HCELL.out
    clear HCELL
    go_wp2_with fail
    refine Chain.chain (fun ph wx => Lit w.heap.size w w.heap.size (.cells #[.int .i64 (F : Int), .int .i64 d, .int .i64 r, .int .i64 p, .float .f64 e1, .float .f64 e2, .float .f64 e3, .slice A C cap] 25 (0, 0)) wx ∧ Lit (w.heap.size + 1) (w.alloc (.cells #[.int .i64 (F : Int), .int .i64 d, .int .i64 r, .int .i64 p, .float .f64 e1, .float .f64 e2, .float .f64 e3, .slice A C cap] 25)) (w.heap.size + 1) (.cells #[.int .u32 (au2 : Int), .int .u32 (ad2 : Int), .int .u32 (su2 : Int), .int .u32 (sd2 : Int), .bool bad, .bool full, .int .i64 (st2 : Int), .slice A' ys.length cp] 46 (0, 0)) wx ∧ Lit 0 w (w.heap.size + 2) (.cells #[.int .u32 0, .int .u32 0, .int .u32 0, .int .u32 0, .bool false, .bool false, .int .i64 0, .slice none 0 0] 46 (0, 0)) wx ∧ Lit W2.heap.size W2 W2.heap.size (.cells (([ROW, ((((ROW).setIfInBounds (k * 9) (.int .u32 ((q.iu &&& U : Nat) : Int)))).setIfInBounds (k * 9 + 1) (.int .u32 ((q.id &&& D : Nat) : Int)))] : List (Array Value)).getD ph #[]) 93 (0, 0)) wx) (fun _ _ => False) [21] (by kernel_rfl) (by kernel_rfl) (fun _ _ _ _ h => h.elim) (by exact ⟨HK.out.1.next (Below.refl _ _).drew, HK.out.2.1.next (Below.refl _ _).drew, HK.out.2.2.1.next (Below.refl _ _).drew, HK.out.2.2.2.next (Below.refl _ _).drew⟩) ?_
    clear HK
    iterate 6
      apply Chain.walk_quiet (by rfl) (by decide)
      · intro ph wx hp hwn hx K hK
        rcases (show ph = 0 ∨ ph = 1 from by have h : ph ≤ 1 := hp; omega) with rfl | rfl
        · have y := (show Lit W2.heap.size W2 W2.heap.size (.cells ROW 93 (0, 0)) wx from hx.2.2.2)
          have z_0 := (y.cell (k * 9)).trans (r0)
          have z_1 := (y.cell (k * 9 + 1)).trans (r1)
          clear y
          have HX := Lib.hid hx
          clear hx hwn hp
          go_simp
          go_at_K
          exact hK _ HX.out
        · have y := (show Lit W2.heap.size W2 W2.heap.size (.cells ((((ROW).setIfInBounds (k * 9) (.int .u32 ((q.iu &&& U : Nat) : Int)))).setIfInBounds (k * 9 + 1) (.int .u32 ((q.id &&& D : Nat) : Int))) 93 (0, 0)) wx from hx.2.2.2)
          clear y
          have HX := Lib.hid hx
          clear hx hwn hp
          go_simp
          go_at_K
          exact hK _ HX.out
      · exact ⟨_, rfl⟩
    apply Chain.walk_quiet (by rfl) (by decide)
    · intro ph wx hp hwn hx K hK
      rcases (show ph = 0 ∨ ph = 1 from by have h : ph ≤ 1 := hp; omega) with rfl | rfl
      · have y := (show Lit W2.heap.size W2 W2.heap.size (.cells ROW 93 (0, 0)) wx from hx.2.2.2)
        have z_0 := (y.cell (k * 9)).trans (r0)
        have z_1 := (y.cell (k * 9 + 1)).trans (r1)
        clear y
        have HX := Lib.hid hx
        clear hx hwn hp
        go_simp
        go_at_K
        exact hK _ HX.out
      · exact absurd ((Eq.symm (show _ = false by kernel_rfl)).trans hwn) Bool.false_ne_true
    iterate 7
      · exact ⟨_, rfl⟩
      apply Chain.walk_quiet (by rfl) (by decide)
      · intro ph wx hp hwn hx K hK
        rcases (show ph = 0 ∨ ph = 1 from by have h : ph ≤ 1 := hp; omega) with rfl | rfl
        · have y := (show Lit W2.heap.size W2 W2.heap.size (.cells ROW 93 (0, 0)) wx from hx.2.2.2)
          have z_0 := (y.cell (k * 9)).trans (r0)
          have z_1 := (y.cell (k * 9 + 1)).trans (r1)
          clear y
          have HX := Lib.hid hx
          clear hx hwn hp
          go_simp
          go_at_K
          exact hK _ HX.out
        · have y := (show Lit W2.heap.size W2 W2.heap.size (.cells ((((ROW).setIfInBounds (k * 9) (.int .u32 ((q.iu &&& U : Nat) : Int)))).setIfInBounds (k * 9 + 1) (.int .u32 ((q.id &&& D : Nat) : Int))) 93 (0, 0)) wx from hx.2.2.2)
          clear y
          have HX := Lib.hid hx
          clear hx hwn hp
          go_simp
          go_at_K
          exact hK _ HX.out
    · exact ⟨_, rfl⟩
    apply Chain.walk_quiet (by rfl) (by decide)
    · intro ph wx hp hwn hx K hK
      rcases (show ph = 0 ∨ ph = 1 from by have h : ph ≤ 1 := hp; omega) with rfl | rfl
      · have y := (show Lit W2.heap.size W2 W2.heap.size (.cells ROW 93 (0, 0)) wx from hx.2.2.2)
        have z_0 := (y.cell (k * 9)).trans (r0)
        have z_1 := (y.cell (k * 9 + 1)).trans (r1)
        clear y
        have HX := Lib.hid hx
        clear hx hwn hp
        go_simp
        go_at_K
        exact hK _ HX.out
      · exact absurd ((Eq.symm (show _ = false by kernel_rfl)).trans hwn) Bool.false_ne_true
    iterate 6
      · exact ⟨_, rfl⟩
      apply Chain.walk_quiet (by rfl) (by decide)
      · intro ph wx hp hwn hx K hK
        rcases (show ph = 0 ∨ ph = 1 from by have h : ph ≤ 1 := hp; omega) with rfl | rfl
        · have y := (show Lit W2.heap.size W2 W2.heap.size (.cells ROW 93 (0, 0)) wx from hx.2.2.2)
          have z_0 := (y.cell (k * 9)).trans (r0)
          have z_1 := (y.cell (k * 9 + 1)).trans (r1)
          clear y
          have HX := Lib.hid hx
          clear hx hwn hp
          go_simp
          go_at_K
          exact hK _ HX.out
        · have y := (show Lit W2.heap.size W2 W2.heap.size (.cells ((((ROW).setIfInBounds (k * 9) (.int .u32 ((q.iu &&& U : Nat) : Int)))).setIfInBounds (k * 9 + 1) (.int .u32 ((q.id &&& D : Nat) : Int))) 93 (0, 0)) wx from hx.2.2.2)
          clear y
          have HX := Lib.hid hx
          clear hx hwn hp
          go_simp
          go_at_K
          exact hK _ HX.out
    · exact ⟨_, rfl⟩
    apply Chain.walk_turn 0 (by rfl) (by rfl)
    · intro wx hx K hK
      have y := (show Lit W2.heap.size W2 W2.heap.size (.cells ROW 93 (0, 0)) wx from hx.2.2.2)
      have z0 := (y.cell (k * 9)).trans (r0)
      have ff0 := y.free (k * 9)
      have z1 := (y.cell (k * 9 + 1)).trans (r1)
      have ff1 := y.free (k * 9 + 1)
      have g : Hid (Lit w.heap.size w w.heap.size (.cells #[.int .i64 (F : Int), .int .i64 d, .int .i64 r, .int .i64 p, .float .f64 e1, .float .f64 e2, .float .f64 e3, .slice A C cap] 25 (0, 0)) ((wx.setCell ⟨W2.heap.size, k * 9, none⟩ (.int .u32 ((q.iu &&& U : Nat) : Int))).setCell ⟨W2.heap.size, k * 9 + 1, none⟩ (.int .u32 ((q.id &&& D : Nat) : Int))) ∧ Lit (w.heap.size + 1) (w.alloc (.cells #[.int .i64 (F : Int), .int .i64 d, .int .i64 r, .int .i64 p, .float .f64 e1, .float .f64 e2, .float .f64 e3, .slice A C cap] 25)) (w.heap.size + 1) (.cells #[.int .u32 (au2 : Int), .int .u32 (ad2 : Int), .int .u32 (su2 : Int), .int .u32 (sd2 : Int), .bool bad, .bool full, .int .i64 (st2 : Int), .slice A' ys.length cp] 46 (0, 0)) ((wx.setCell ⟨W2.heap.size, k * 9, none⟩ (.int .u32 ((q.iu &&& U : Nat) : Int))).setCell ⟨W2.heap.size, k * 9 + 1, none⟩ (.int .u32 ((q.id &&& D : Nat) : Int))) ∧ Lit 0 w (w.heap.size + 2) (.cells #[.int .u32 0, .int .u32 0, .int .u32 0, .int .u32 0, .bool false, .bool false, .int .i64 0, .slice none 0 0] 46 (0, 0)) ((wx.setCell ⟨W2.heap.size, k * 9, none⟩ (.int .u32 ((q.iu &&& U : Nat) : Int))).setCell ⟨W2.heap.size, k * 9 + 1, none⟩ (.int .u32 ((q.id &&& D : Nat) : Int))) ∧ Lit W2.heap.size W2 W2.heap.size (.cells ((((ROW).setIfInBounds (k * 9) (.int .u32 ((q.iu &&& U : Nat) : Int)))).setIfInBounds (k * 9 + 1) (.int .u32 ((q.id &&& D : Nat) : Int))) 93 (0, 0)) ((wx.setCell ⟨W2.heap.size, k * 9, none⟩ (.int .u32 ((q.iu &&& U : Nat) : Int))).setCell ⟨W2.heap.size, k * 9 + 1, none⟩ (.int .u32 ((q.id &&& D : Nat) : Int)))) := Lib.hid ⟨((hx.1.putOther (by omega) (by omega) _ _).putOther (by omega) (by omega) _ _), ((hx.2.1.putOther (by omega) (by omega) _ _).putOther (by omega) (by omega) _ _), ((hx.2.2.1.putOther (Nat.zero_le _) (by omega) _ _).putOther (Nat.zero_le _) (by omega) _ _), ((y.put (Nat.le_refl _) _ _).put (Nat.le_refl _) _ _)⟩
      have HK2 := Lib.hid hK
      clear hx y hK
      go_simp
      exact HK2.out _ g.out
    · exact ⟨undef, rfl⟩
    refine Chain.walk_nil (fun W4 hx => ?_)
    have K4 := (show Lit W2.heap.size W2 W2.heap.size (.cells ((((ROW).setIfInBounds (k * 9) (.int .u32 ((q.iu &&& U : Nat) : Int)))).setIfInBounds (k * 9 + 1) (.int .u32 ((q.id &&& D : Nat) : Int))) 93 (0, 0)) W4 from hx.2.2.2)
    have HK := Lib.hid (And.intro hx.1 (And.intro hx.2.1 (And.intro hx.2.2.1 K4)))
    clear hx K4
    have t3 : (((((ROW).setIfInBounds (k * 9) (.int .u32 ((q.iu &&& U : Nat) : Int)))).setIfInBounds (k * 9 + 1) (.int .u32 ((q.id &&& D : Nat) : Int))))[k * 9 + 3]? = some (.int .u32 (q.lu : Int)) := (Array.getElem?_setIfInBounds_ne (by omega)).trans ((Array.getElem?_setIfInBounds_ne (by omega)).trans (r3))
    have t4 : (((((ROW).setIfInBounds (k * 9) (.int .u32 ((q.iu &&& U : Nat) : Int)))).setIfInBounds (k * 9 + 1) (.int .u32 ((q.id &&& D : Nat) : Int))))[k * 9 + 4]? = some (.int .u32 (q.ld : Int)) := (Array.getElem?_setIfInBounds_ne (by omega)).trans ((Array.getElem?_setIfInBounds_ne (by omega)).trans (r4))
    have t6 : (((((ROW).setIfInBounds (k * 9) (.int .u32 ((q.iu &&& U : Nat) : Int)))).setIfInBounds (k * 9 + 1) (.int .u32 ((q.id &&& D : Nat) : Int))))[k * 9 + 6]? = some (.int .i64 q.cmd) := (Array.getElem?_setIfInBounds_ne (by omega)).trans ((Array.getElem?_setIfInBounds_ne (by omega)).trans (r6))
    have t7 : (((((ROW).setIfInBounds (k * 9) (.int .u32 ((q.iu &&& U : Nat) : Int)))).setIfInBounds (k * 9 + 1) (.int .u32 ((q.id &&& D : Nat) : Int))))[k * 9 + 7]? = some (.int .i64 q.ph) := (Array.getElem?_setIfInBounds_ne (by omega)).trans ((Array.getElem?_setIfInBounds_ne (by omega)).trans (r7))
    generalize hROW1 : ((((ROW).setIfInBounds (k * 9) (.int .u32 ((q.iu &&& U : Nat) : Int)))).setIfInBounds (k * 9 + 1) (.int .u32 ((q.id &&& D : Nat) : Int))) = ROW1 at *
    have HROW1 := Lib.hid hROW1
    clear hROW1 r0 r1 r3 r4 r6 r7
    go_wp2_with fail
    refine Chain.chain (fun ph wx => Lit w.heap.size w w.heap.size (.cells #[.int .i64 (F : Int), .int .i64 d, .int .i64 r, .int .i64 p, .float .f64 e1, .float .f64 e2, .float .f64 e3, .slice A C cap] 25 (0, 0)) wx ∧ Lit (w.heap.size + 1) (w.alloc (.cells #[.int .i64 (F : Int), .int .i64 d, .int .i64 r, .int .i64 p, .float .f64 e1, .float .f64 e2, .float .f64 e3, .slice A C cap] 25)) (w.heap.size + 1) (.cells #[.int .u32 (au2 : Int), .int .u32 (ad2 : Int), .int .u32 (su2 : Int), .int .u32 (sd2 : Int), .bool bad, .bool full, .int .i64 (st2 : Int), .slice A' ys.length cp] 46 (0, 0)) wx ∧ Lit 0 w (w.heap.size + 2) (.cells #[.int .u32 0, .int .u32 0, .int .u32 0, .int .u32 0, .bool false, .bool false, .int .i64 0, .slice none 0 0] 46 (0, 0)) wx ∧ Lit W2.heap.size W2 W2.heap.size (.cells (([ROW1, ((((ROW1).setIfInBounds (k * 9 + 3) (.int .u32 ((q.lu &&& U : Nat) : Int)))).setIfInBounds (k * 9 + 4) (.int .u32 ((q.ld &&& D : Nat) : Int)))] : List (Array Value)).getD ph #[]) 93 (0, 0)) wx) (fun _ _ => False) [18] (by kernel_rfl) (by kernel_rfl) (fun _ _ _ _ h => h.elim) (by exact ⟨HK.out.1.next (Below.refl _ _).drew, HK.out.2.1.next (Below.refl _ _).drew, HK.out.2.2.1.next (Below.refl _ _).drew, HK.out.2.2.2.next (Below.refl _ _).drew⟩) ?_
    clear HK
    iterate 5
      apply Chain.walk_quiet (by rfl) (by decide)
      · intro ph wx hp hwn hx K hK
        rcases (show ph = 0 ∨ ph = 1 from by have h : ph ≤ 1 := hp; omega) with rfl | rfl
        · have y := (show Lit W2.heap.size W2 W2.heap.size (.cells ROW1 93 (0, 0)) wx from hx.2.2.2)
          have z_3 := (y.cell (k * 9 + 3)).trans (t3)
          have z_4 := (y.cell (k * 9 + 4)).trans (t4)
          clear y
          have HX := Lib.hid hx
          clear hx hwn hp
          go_simp
          go_at_K
          exact hK _ HX.out
        · have y := (show Lit W2.heap.size W2 W2.heap.size (.cells ((((ROW1).setIfInBounds (k * 9 + 3) (.int .u32 ((q.lu &&& U : Nat) : Int)))).setIfInBounds (k * 9 + 4) (.int .u32 ((q.ld &&& D : Nat) : Int))) 93 (0, 0)) wx from hx.2.2.2)
          clear y
          have HX := Lib.hid hx
          clear hx hwn hp
          go_simp
          go_at_K
          exact hK _ HX.out
      · exact ⟨_, rfl⟩
    apply Chain.walk_quiet (by rfl) (by decide)
    · intro ph wx hp hwn hx K hK
      rcases (show ph = 0 ∨ ph = 1 from by have h : ph ≤ 1 := hp; omega) with rfl | rfl
      · have y := (show Lit W2.heap.size W2 W2.heap.size (.cells ROW1 93 (0, 0)) wx from hx.2.2.2)
        have z_3 := (y.cell (k * 9 + 3)).trans (t3)
        have z_4 := (y.cell (k * 9 + 4)).trans (t4)
        clear y
        have HX := Lib.hid hx
        clear hx hwn hp
        go_simp
        go_at_K
        exact hK _ HX.out
      · exact absurd ((Eq.symm (show _ = false by kernel_rfl)).trans hwn) Bool.false_ne_true
    iterate 6
      · exact ⟨_, rfl⟩
      apply Chain.walk_quiet (by rfl) (by decide)
      · intro ph wx hp hwn hx K hK
        rcases (show ph = 0 ∨ ph = 1 from by have h : ph ≤ 1 := hp; omega) with rfl | rfl
        · have y := (show Lit W2.heap.size W2 W2.heap.size (.cells ROW1 93 (0, 0)) wx from hx.2.2.2)
          have z_3 := (y.cell (k * 9 + 3)).trans (t3)
          have z_4 := (y.cell (k * 9 + 4)).trans (t4)
          clear y
          have HX := Lib.hid hx
          clear hx hwn hp
          go_simp
          go_at_K
          exact hK _ HX.out
        · have y := (show Lit W2.heap.size W2 W2.heap.size (.cells ((((ROW1).setIfInBounds (k * 9 + 3) (.int .u32 ((q.lu &&& U : Nat) : Int)))).setIfInBounds (k * 9 + 4) (.int .u32 ((q.ld &&& D : Nat) : Int))) 93 (0, 0)) wx from hx.2.2.2)
          clear y
          have HX := Lib.hid hx
          clear hx hwn hp
          go_simp
          go_at_K
          exact hK _ HX.out
    · exact ⟨_, rfl⟩
    apply Chain.walk_quiet (by rfl) (by decide)
    · intro ph wx hp hwn hx K hK
      rcases (show ph = 0 ∨ ph = 1 from by have h : ph ≤ 1 := hp; omega) with rfl | rfl
      · have y := (show Lit W2.heap.size W2 W2.heap.size (.cells ROW1 93 (0, 0)) wx from hx.2.2.2)
        have z_3 := (y.cell (k * 9 + 3)).trans (t3)
        have z_4 := (y.cell (k * 9 + 4)).trans (t4)
        clear y
        have HX := Lib.hid hx
        clear hx hwn hp
        go_simp
        go_at_K
        exact hK _ HX.out
      · exact absurd ((Eq.symm (show _ = false by kernel_rfl)).trans hwn) Bool.false_ne_true
    iterate 5
      · exact ⟨_, rfl⟩
      apply Chain.walk_quiet (by rfl) (by decide)
      · intro ph wx hp hwn hx K hK
        rcases (show ph = 0 ∨ ph = 1 from by have h : ph ≤ 1 := hp; omega) with rfl | rfl
        · have y := (show Lit W2.heap.size W2 W2.heap.size (.cells ROW1 93 (0, 0)) wx from hx.2.2.2)
          have z_3 := (y.cell (k * 9 + 3)).trans (t3)
          have z_4 := (y.cell (k * 9 + 4)).trans (t4)
          clear y
          have HX := Lib.hid hx
          clear hx hwn hp
          go_simp
          go_at_K
          exact hK _ HX.out
        · have y := (show Lit W2.heap.size W2 W2.heap.size (.cells ((((ROW1).setIfInBounds (k * 9 + 3) (.int .u32 ((q.lu &&& U : Nat) : Int)))).setIfInBounds (k * 9 + 4) (.int .u32 ((q.ld &&& D : Nat) : Int))) 93 (0, 0)) wx from hx.2.2.2)
          clear y
          have HX := Lib.hid hx
          clear hx hwn hp
          go_simp
          go_at_K
          exact hK _ HX.out
    · exact ⟨_, rfl⟩
    apply Chain.walk_turn 0 (by rfl) (by rfl)
    · intro wx hx K hK
      have y := (show Lit W2.heap.size W2 W2.heap.size (.cells ROW1 93 (0, 0)) wx from hx.2.2.2)
      have z0 := (y.cell (k * 9 + 3)).trans (t3)
      have ff0 := y.free (k * 9 + 3)
      have z1 := (y.cell (k * 9 + 4)).trans (t4)
      have ff1 := y.free (k * 9 + 4)
      have g : Hid (Lit w.heap.size w w.heap.size (.cells #[.int .i64 (F : Int), .int .i64 d, .int .i64 r, .int .i64 p, .float .f64 e1, .float .f64 e2, .float .f64 e3, .slice A C cap] 25 (0, 0)) ((wx.setCell ⟨W2.heap.size, k * 9 + 3, none⟩ (.int .u32 ((q.lu &&& U : Nat) : Int))).setCell ⟨W2.heap.size, k * 9 + 4, none⟩ (.int .u32 ((q.ld &&& D : Nat) : Int))) ∧ Lit (w.heap.size + 1) (w.alloc (.cells #[.int .i64 (F : Int), .int .i64 d, .int .i64 r, .int .i64 p, .float .f64 e1, .float .f64 e2, .float .f64 e3, .slice A C cap] 25)) (w.heap.size + 1) (.cells #[.int .u32 (au2 : Int), .int .u32 (ad2 : Int), .int .u32 (su2 : Int), .int .u32 (sd2 : Int), .bool bad, .bool full, .int .i64 (st2 : Int), .slice A' ys.length cp] 46 (0, 0)) ((wx.setCell ⟨W2.heap.size, k * 9 + 3, none⟩ (.int .u32 ((q.lu &&& U : Nat) : Int))).setCell ⟨W2.heap.size, k * 9 + 4, none⟩ (.int .u32 ((q.ld &&& D : Nat) : Int))) ∧ Lit 0 w (w.heap.size + 2) (.cells #[.int .u32 0, .int .u32 0, .int .u32 0, .int .u32 0, .bool false, .bool false, .int .i64 0, .slice none 0 0] 46 (0, 0)) ((wx.setCell ⟨W2.heap.size, k * 9 + 3, none⟩ (.int .u32 ((q.lu &&& U : Nat) : Int))).setCell ⟨W2.heap.size, k * 9 + 4, none⟩ (.int .u32 ((q.ld &&& D : Nat) : Int))) ∧ Lit W2.heap.size W2 W2.heap.size (.cells ((((ROW1).setIfInBounds (k * 9 + 3) (.int .u32 ((q.lu &&& U : Nat) : Int)))).setIfInBounds (k * 9 + 4) (.int .u32 ((q.ld &&& D : Nat) : Int))) 93 (0, 0)) ((wx.setCell ⟨W2.heap.size, k * 9 + 3, none⟩ (.int .u32 ((q.lu &&& U : Nat) : Int))).setCell ⟨W2.heap.size, k * 9 + 4, none⟩ (.int .u32 ((q.ld &&& D : Nat) : Int)))) := Lib.hid ⟨((hx.1.putOther (by omega) (by omega) _ _).putOther (by omega) (by omega) _ _), ((hx.2.1.putOther (by omega) (by omega) _ _).putOther (by omega) (by omega) _ _), ((hx.2.2.1.putOther (Nat.zero_le _) (by omega) _ _).putOther (Nat.zero_le _) (by omega) _ _), ((y.put (Nat.le_refl _) _ _).put (Nat.le_refl _) _ _)⟩
      have HK2 := Lib.hid hK
      clear hx y hK
      go_simp
      exact HK2.out _ g.out
    · exact ⟨undef, rfl⟩
    refine Chain.walk_nil (fun W4 hx => ?_)
    have K4 := (show Lit W2.heap.size W2 W2.heap.size (.cells ((((ROW1).setIfInBounds (k * 9 + 3) (.int .u32 ((q.lu &&& U : Nat) : Int)))).setIfInBounds (k * 9 + 4) (.int .u32 ((q.ld &&& D : Nat) : Int))) 93 (0, 0)) W4 from hx.2.2.2)
    have HK := Lib.hid (And.intro hx.1 (And.intro hx.2.1 (And.intro hx.2.2.1 K4)))
    clear hx K4
    have s6 : (((((ROW1).setIfInBounds (k * 9 + 3) (.int .u32 ((q.lu &&& U : Nat) : Int)))).setIfInBounds (k * 9 + 4) (.int .u32 ((q.ld &&& D : Nat) : Int))))[k * 9 + 6]? = some (.int .i64 q.cmd) := (Array.getElem?_setIfInBounds_ne (by omega)).trans ((Array.getElem?_setIfInBounds_ne (by omega)).trans (t6))
    have s7 : (((((ROW1).setIfInBounds (k * 9 + 3) (.int .u32 ((q.lu &&& U : Nat) : Int)))).setIfInBounds (k * 9 + 4) (.int .u32 ((q.ld &&& D : Nat) : Int))))[k * 9 + 7]? = some (.int .i64 q.ph) := (Array.getElem?_setIfInBounds_ne (by omega)).trans ((Array.getElem?_setIfInBounds_ne (by omega)).trans (t7))
    generalize hROW2 : ((((ROW1).setIfInBounds (k * 9 + 3) (.int .u32 ((q.lu &&& U : Nat) : Int)))).setIfInBounds (k * 9 + 4) (.int .u32 ((q.ld &&& D : Nat) : Int))) = ROW2 at *
    have HROW2 := Lib.hid hROW2
    clear hROW2 t3 t4 t6 t7
    have hqc := m64_wrap q.cmd
    have hqp := m64_wrap q.ph
    have hFIT := HFC.out q
    have HFIT := Lib.hid hFIT
    clear hFIT
    have hq1 : ((m64 q.cmd : Nat) : Int).tmod 6 = ((m64 q.cmd % 6 : Nat) : Int) := by rw [Int.tmod_eq_emod_of_nonneg (by omega)]; omega
    have hq2 : ((m64 q.cmd : Nat) : Int) % 6 = ((m64 q.cmd % 6 : Nat) : Int) := by omega
    have hq3 : ((m64 q.ph : Nat) : Int).tmod 5 = ((m64 q.ph % 5 : Nat) : Int) := by rw [Int.tmod_eq_emod_of_nonneg (by omega)]; omega
    have hq4 : ((m64 q.ph : Nat) : Int) % 5 = ((m64 q.ph % 5 : Nat) : Int) := by omega
    have hq5 : m64 q.cmd % 6 < 6 := Nat.mod_lt _ (by decide)
    have hq6 : m64 q.ph % 5 < 5 := Nat.mod_lt _ (by decide)
    generalize hufe : m64 q.cmd % 6 = uf at *
    generalize hude : m64 q.ph % 5 = ud at *
    generalize m64 q.cmd = mf at *
    generalize m64 q.ph = md at *
    clear hufe hude
    have hq7 : IntKind.i64.wrap (uf : Int) = (uf : Int) := by rw [IntKind.wrap_i64]; omega
    have hq8 : IntKind.i64.wrap (ud : Int) = (ud : Int) := by rw [IntKind.wrap_i64]; omega
    go_wp2_with fail
    refine Chain.chain (fun ph wx => Lit w.heap.size w w.heap.size (.cells #[.int .i64 (F : Int), .int .i64 d, .int .i64 r, .int .i64 p, .float .f64 e1, .float .f64 e2, .float .f64 e3, .slice A C cap] 25 (0, 0)) wx ∧ Lit (w.heap.size + 1) (w.alloc (.cells #[.int .i64 (F : Int), .int .i64 d, .int .i64 r, .int .i64 p, .float .f64 e1, .float .f64 e2, .float .f64 e3, .slice A C cap] 25)) (w.heap.size + 1) (.cells #[.int .u32 (au2 : Int), .int .u32 (ad2 : Int), .int .u32 (su2 : Int), .int .u32 (sd2 : Int), .bool bad, .bool full, .int .i64 (st2 : Int), .slice A' ys.length cp] 46 (0, 0)) wx ∧ Lit 0 w (w.heap.size + 2) (.cells #[.int .u32 0, .int .u32 0, .int .u32 0, .int .u32 0, .bool false, .bool false, .int .i64 0, .slice none 0 0] 46 (0, 0)) wx ∧ Lit W2.heap.size W2 W2.heap.size (.cells (([ROW2, ((ROW2).setIfInBounds (k * 9 + 6) (.int .i64 (uf : Int))), ((((ROW2).setIfInBounds (k * 9 + 6) (.int .i64 (uf : Int)))).setIfInBounds (k * 9 + 7) (.int .i64 (ud : Int)))] : List (Array Value)).getD ph #[]) 93 (0, 0)) wx) (fun _ _ => False) [18, 21] (by kernel_rfl) (by kernel_rfl) (fun _ _ _ _ h => h.elim) (by exact ⟨HK.out.1.next (Below.refl _ _).drew, HK.out.2.1.next (Below.refl _ _).drew, HK.out.2.2.1.next (Below.refl _ _).drew, HK.out.2.2.2.next (Below.refl _ _).drew⟩) ?_
    clear HK
    iterate 5
      apply Chain.walk_quiet (by rfl) (by decide)
      · intro ph wx hp hwn hx K hK
        rcases (show ph = 0 ∨ ph = 1 ∨ ph = 2 from by have h : ph ≤ 2 := hp; omega) with rfl | rfl | rfl
        · have y := (show Lit W2.heap.size W2 W2.heap.size (.cells ROW2 93 (0, 0)) wx from hx.2.2.2)
          have z_6 := (y.cell (k * 9 + 6)).trans (s6)
          have z_7 := (y.cell (k * 9 + 7)).trans (s7)
          clear y
          have HX := Lib.hid hx
          clear hx hwn hp
          go_simp
          go_at_K
          exact hK _ HX.out
        · have y := (show Lit W2.heap.size W2 W2.heap.size (.cells ((ROW2).setIfInBounds (k * 9 + 6) (.int .i64 (uf : Int))) 93 (0, 0)) wx from hx.2.2.2)
          have z_7 := (y.cell (k * 9 + 7)).trans ((Array.getElem?_setIfInBounds_ne (by omega)).trans (s7))
          clear y
          have HX := Lib.hid hx
          clear hx hwn hp
          go_simp
          go_at_K
          exact hK _ HX.out
        · have y := (show Lit W2.heap.size W2 W2.heap.size (.cells ((((ROW2).setIfInBounds (k * 9 + 6) (.int .i64 (uf : Int)))).setIfInBounds (k * 9 + 7) (.int .i64 (ud : Int))) 93 (0, 0)) wx from hx.2.2.2)
          clear y
          have HX := Lib.hid hx
          clear hx hwn hp
          go_simp
          go_at_K
          exact hK _ HX.out
      · exact ⟨_, rfl⟩
    apply Chain.walk_quiet (by rfl) (by decide)
    · intro ph wx hp hwn hx K hK
      rcases (show ph = 0 ∨ ph = 1 ∨ ph = 2 from by have h : ph ≤ 2 := hp; omega) with rfl | rfl | rfl
      · have y := (show Lit W2.heap.size W2 W2.heap.size (.cells ROW2 93 (0, 0)) wx from hx.2.2.2)
        have z_6 := (y.cell (k * 9 + 6)).trans (s6)
        have z_7 := (y.cell (k * 9 + 7)).trans (s7)
        clear y
        have HX := Lib.hid hx
        clear hx hwn hp
        go_simp
        go_at_K
        exact hK _ HX.out
      · exact absurd ((Eq.symm (show _ = false by kernel_rfl)).trans hwn) Bool.false_ne_true
      · exact absurd ((Eq.symm (show _ = false by kernel_rfl)).trans hwn) Bool.false_ne_true
    iterate 6
      · exact ⟨_, rfl⟩
      apply Chain.walk_quiet (by rfl) (by decide)
      · intro ph wx hp hwn hx K hK
        rcases (show ph = 0 ∨ ph = 1 ∨ ph = 2 from by have h : ph ≤ 2 := hp; omega) with rfl | rfl | rfl
        · have y := (show Lit W2.heap.size W2 W2.heap.size (.cells ROW2 93 (0, 0)) wx from hx.2.2.2)
          have z_6 := (y.cell (k * 9 + 6)).trans (s6)
          have z_7 := (y.cell (k * 9 + 7)).trans (s7)
          clear y
          have HX := Lib.hid hx
          clear hx hwn hp
          go_simp
          go_at_K
          exact hK _ HX.out
        · have y := (show Lit W2.heap.size W2 W2.heap.size (.cells ((ROW2).setIfInBounds (k * 9 + 6) (.int .i64 (uf : Int))) 93 (0, 0)) wx from hx.2.2.2)
          have z_7 := (y.cell (k * 9 + 7)).trans ((Array.getElem?_setIfInBounds_ne (by omega)).trans (s7))
          clear y
          have HX := Lib.hid hx
          clear hx hwn hp
          go_simp
          go_at_K
          exact hK _ HX.out
        · have y := (show Lit W2.heap.size W2 W2.heap.size (.cells ((((ROW2).setIfInBounds (k * 9 + 6) (.int .i64 (uf : Int)))).setIfInBounds (k * 9 + 7) (.int .i64 (ud : Int))) 93 (0, 0)) wx from hx.2.2.2)
          clear y
          have HX := Lib.hid hx
          clear hx hwn hp
          go_simp
          go_at_K
          exact hK _ HX.out
    · exact ⟨_, rfl⟩
    apply Chain.walk_quiet (by rfl) (by decide)
    · intro ph wx hp hwn hx K hK
      rcases (show ph = 0 ∨ ph = 1 ∨ ph = 2 from by have h : ph ≤ 2 := hp; omega) with rfl | rfl | rfl
      · have y := (show Lit W2.heap.size W2 W2.heap.size (.cells ROW2 93 (0, 0)) wx from hx.2.2.2)
        have z_6 := (y.cell (k * 9 + 6)).trans (s6)
        have z_7 := (y.cell (k * 9 + 7)).trans (s7)
        clear y
        have HX := Lib.hid hx
        clear hx hwn hp
        go_simp
        go_at_K
        exact hK _ HX.out
      · have y := (show Lit W2.heap.size W2 W2.heap.size (.cells ((ROW2).setIfInBounds (k * 9 + 6) (.int .i64 (uf : Int))) 93 (0, 0)) wx from hx.2.2.2)
        have z_7 := (y.cell (k * 9 + 7)).trans ((Array.getElem?_setIfInBounds_ne (by omega)).trans (s7))
        clear y
        have HX := Lib.hid hx
        clear hx hwn hp
        go_simp
        go_at_K
        exact hK _ HX.out
      · exact absurd ((Eq.symm (show _ = false by kernel_rfl)).trans hwn) Bool.false_ne_true
    iterate 5
      · exact ⟨_, rfl⟩
      apply Chain.walk_quiet (by rfl) (by decide)
      · intro ph wx hp hwn hx K hK
        rcases (show ph = 0 ∨ ph = 1 ∨ ph = 2 from by have h : ph ≤ 2 := hp; omega) with rfl | rfl | rfl
        · have y := (show Lit W2.heap.size W2 W2.heap.size (.cells ROW2 93 (0, 0)) wx from hx.2.2.2)
          have z_6 := (y.cell (k * 9 + 6)).trans (s6)
          have z_7 := (y.cell (k * 9 + 7)).trans (s7)
          clear y
          have HX := Lib.hid hx
          clear hx hwn hp
          go_simp
          go_at_K
          exact hK _ HX.out
        · have y := (show Lit W2.heap.size W2 W2.heap.size (.cells ((ROW2).setIfInBounds (k * 9 + 6) (.int .i64 (uf : Int))) 93 (0, 0)) wx from hx.2.2.2)
          have z_7 := (y.cell (k * 9 + 7)).trans ((Array.getElem?_setIfInBounds_ne (by omega)).trans (s7))
          clear y
          have HX := Lib.hid hx
          clear hx hwn hp
          go_simp
          go_at_K
          exact hK _ HX.out
        · have y := (show Lit W2.heap.size W2 W2.heap.size (.cells ((((ROW2).setIfInBounds (k * 9 + 6) (.int .i64 (uf : Int)))).setIfInBounds (k * 9 + 7) (.int .i64 (ud : Int))) 93 (0, 0)) wx from hx.2.2.2)
          clear y
          have HX := Lib.hid hx
          clear hx hwn hp
          go_simp
          go_at_K
          exact hK _ HX.out
    · exact ⟨_, rfl⟩
    apply Chain.walk_turn 0 (by rfl) (by rfl)
    · intro wx hx K hK
      have y := (show Lit W2.heap.size W2 W2.heap.size (.cells ROW2 93 (0, 0)) wx from hx.2.2.2)
      have z0 := (y.cell (k * 9 + 6)).trans (s6)
      have ff0 := y.free (k * 9 + 6)
      have g : Hid (Lit w.heap.size w w.heap.size (.cells #[.int .i64 (F : Int), .int .i64 d, .int .i64 r, .int .i64 p, .float .f64 e1, .float .f64 e2, .float .f64 e3, .slice A C cap] 25 (0, 0)) (wx.setCell ⟨W2.heap.size, k * 9 + 6, none⟩ (.int .i64 (uf : Int))) ∧ Lit (w.heap.size + 1) (w.alloc (.cells #[.int .i64 (F : Int), .int .i64 d, .int .i64 r, .int .i64 p, .float .f64 e1, .float .f64 e2, .float .f64 e3, .slice A C cap] 25)) (w.heap.size + 1) (.cells #[.int .u32 (au2 : Int), .int .u32 (ad2 : Int), .int .u32 (su2 : Int), .int .u32 (sd2 : Int), .bool bad, .bool full, .int .i64 (st2 : Int), .slice A' ys.length cp] 46 (0, 0)) (wx.setCell ⟨W2.heap.size, k * 9 + 6, none⟩ (.int .i64 (uf : Int))) ∧ Lit 0 w (w.heap.size + 2) (.cells #[.int .u32 0, .int .u32 0, .int .u32 0, .int .u32 0, .bool false, .bool false, .int .i64 0, .slice none 0 0] 46 (0, 0)) (wx.setCell ⟨W2.heap.size, k * 9 + 6, none⟩ (.int .i64 (uf : Int))) ∧ Lit W2.heap.size W2 W2.heap.size (.cells ((ROW2).setIfInBounds (k * 9 + 6) (.int .i64 (uf : Int))) 93 (0, 0)) (wx.setCell ⟨W2.heap.size, k * 9 + 6, none⟩ (.int .i64 (uf : Int)))) := Lib.hid ⟨(hx.1.putOther (by omega) (by omega) _ _), (hx.2.1.putOther (by omega) (by omega) _ _), (hx.2.2.1.putOther (Nat.zero_le _) (by omega) _ _), (y.put (Nat.le_refl _) _ _)⟩
      have HK2 := Lib.hid hK
      clear hx y hK
      go_simp
      exact HK2.out _ g.out
    · exact ⟨undef, rfl⟩
    iterate 2
      apply Chain.walk_quiet (by rfl) (by decide)
      · intro ph wx hp hwn hx K hK
        rcases (show ph = 0 ∨ ph = 1 ∨ ph = 2 from by have h : ph ≤ 2 := hp; omega) with rfl | rfl | rfl
        · have y := (show Lit W2.heap.size W2 W2.heap.size (.cells ROW2 93 (0, 0)) wx from hx.2.2.2)
          have z_6 := (y.cell (k * 9 + 6)).trans (s6)
          have z_7 := (y.cell (k * 9 + 7)).trans (s7)
          clear y
          have HX := Lib.hid hx
          clear hx hwn hp
          go_simp
          go_at_K
          exact hK _ HX.out
        · have y := (show Lit W2.heap.size W2 W2.heap.size (.cells ((ROW2).setIfInBounds (k * 9 + 6) (.int .i64 (uf : Int))) 93 (0, 0)) wx from hx.2.2.2)
          have z_7 := (y.cell (k * 9 + 7)).trans ((Array.getElem?_setIfInBounds_ne (by omega)).trans (s7))
          clear y
          have HX := Lib.hid hx
          clear hx hwn hp
          go_simp
          go_at_K
          exact hK _ HX.out
        · have y := (show Lit W2.heap.size W2 W2.heap.size (.cells ((((ROW2).setIfInBounds (k * 9 + 6) (.int .i64 (uf : Int)))).setIfInBounds (k * 9 + 7) (.int .i64 (ud : Int))) 93 (0, 0)) wx from hx.2.2.2)
          clear y
          have HX := Lib.hid hx
          clear hx hwn hp
          go_simp
          go_at_K
          exact hK _ HX.out
      · exact ⟨_, rfl⟩
    apply Chain.walk_turn 1 (by rfl) (by rfl)
    · intro wx hx K hK
      have y := (show Lit W2.heap.size W2 W2.heap.size (.cells ((ROW2).setIfInBounds (k * 9 + 6) (.int .i64 (uf : Int))) 93 (0, 0)) wx from hx.2.2.2)
      have z0 := (y.cell (k * 9 + 7)).trans ((Array.getElem?_setIfInBounds_ne (by omega)).trans (s7))
      have ff0 := y.free (k * 9 + 7)
      have g : Hid (Lit w.heap.size w w.heap.size (.cells #[.int .i64 (F : Int), .int .i64 d, .int .i64 r, .int .i64 p, .float .f64 e1, .float .f64 e2, .float .f64 e3, .slice A C cap] 25 (0, 0)) (wx.setCell ⟨W2.heap.size, k * 9 + 7, none⟩ (.int .i64 (ud : Int))) ∧ Lit (w.heap.size + 1) (w.alloc (.cells #[.int .i64 (F : Int), .int .i64 d, .int .i64 r, .int .i64 p, .float .f64 e1, .float .f64 e2, .float .f64 e3, .slice A C cap] 25)) (w.heap.size + 1) (.cells #[.int .u32 (au2 : Int), .int .u32 (ad2 : Int), .int .u32 (su2 : Int), .int .u32 (sd2 : Int), .bool bad, .bool full, .int .i64 (st2 : Int), .slice A' ys.length cp] 46 (0, 0)) (wx.setCell ⟨W2.heap.size, k * 9 + 7, none⟩ (.int .i64 (ud : Int))) ∧ Lit 0 w (w.heap.size + 2) (.cells #[.int .u32 0, .int .u32 0, .int .u32 0, .int .u32 0, .bool false, .bool false, .int .i64 0, .slice none 0 0] 46 (0, 0)) (wx.setCell ⟨W2.heap.size, k * 9 + 7, none⟩ (.int .i64 (ud : Int))) ∧ Lit W2.heap.size W2 W2.heap.size (.cells ((((ROW2).setIfInBounds (k * 9 + 6) (.int .i64 (uf : Int)))).setIfInBounds (k * 9 + 7) (.int .i64 (ud : Int))) 93 (0, 0)) (wx.setCell ⟨W2.heap.size, k * 9 + 7, none⟩ (.int .i64 (ud : Int)))) := Lib.hid ⟨(hx.1.putOther (by omega) (by omega) _ _), (hx.2.1.putOther (by omega) (by omega) _ _), (hx.2.2.1.putOther (Nat.zero_le _) (by omega) _ _), (y.put (Nat.le_refl _) _ _)⟩
      have HK2 := Lib.hid hK
      clear hx y hK
      go_simp
      exact HK2.out _ g.out
    · exact ⟨undef, rfl⟩
    refine Chain.walk_nil (fun W4 hx => ?_)
    have K4 := (show Lit W2.heap.size W2 W2.heap.size (.cells ((((ROW2).setIfInBounds (k * 9 + 6) (.int .i64 (uf : Int)))).setIfInBounds (k * 9 + 7) (.int .i64 (ud : Int))) 93 (0, 0)) W4 from hx.2.2.2)
    have HK := Lib.hid (And.intro hx.1 (And.intro hx.2.1 (And.intro hx.2.2.1 K4)))
    clear hx K4
    go_wp2_with fail
    go_roundw
    case rel =>
      have e := HSET.out (q.iu &&& U) (q.id &&& D) (q.lu &&& U) (q.ld &&& D) (uf : Int) (ud : Int)
      rw [HROW1.out, HROW2.out, ← HFIT.out, HSUC.out] at e
      refine ⟨k + 1, by omega, by go_num, HK.out.1, HK.out.2.1, HK.out.2.2.1, ?_⟩
      rw [← e]
      exact HK.out.2.2.2
    case measure => simp [intOf]; omega
end Go.Proofs.Ythbfpdkgbkpmiaa
