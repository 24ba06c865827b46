/- Inputs made to fit a building: the law's Fitted. No statement of the seat is proved here. -/
import Derived.Test.YthbfpdkgbkpmiaaG34
import Derived.Test.YthbfpdkgbkpmiaaChain
namespace Go.Proofs.Ythbfpdkgbkpmiaa
open Go Go.RowKit Frm

theorem Lit.put5 {B b : Nat} {W1 wx : World} {cs : Array Value} {t : TypeId} (h : Lit B W1 b (.cells cs t (0, 0)) wx) (hb : B ≤ b) (hs : cs.size = 5) (v0 v1 v2 v3 v4 : Value) :
    Lit B W1 b (.cells #[v0, v1, v2, v3, v4] t (0, 0)) (((((wx.setCell ⟨b, 0, none⟩ v0).setCell ⟨b, 1, none⟩ v1).setCell ⟨b, 2, none⟩ v2).setCell ⟨b, 3, none⟩ v3).setCell ⟨b, 4, none⟩ v4) := by
  obtain ⟨l⟩ := cs
  match l, hs with
  | [a0, a1, a2, a3, a4], _ =>
    have g := ((((h.put hb 0 v0).put hb 1 v1).put hb 2 v2).put hb 3 v3).put hb 4 v4
    have e : (((((#[a0, a1, a2, a3, a4] : Array Value).setIfInBounds 0 v0).setIfInBounds 1 v1).setIfInBounds 2 v2).setIfInBounds 3 v3).setIfInBounds 4 v4 = #[v0, v1, v2, v3, v4] := by simp
    rw [e] at g
    exact g
theorem other5 {B b b' : Nat} {W1 wx : World} {row : Obj} (h : Lit B W1 b row wx) (hb : B ≤ b') (hne : b ≠ b') (v0 v1 v2 v3 v4 : Value) :
    Lit B W1 b row (((((wx.setCell ⟨b', 0, none⟩ v0).setCell ⟨b', 1, none⟩ v1).setCell ⟨b', 2, none⟩ v2).setCell ⟨b', 3, none⟩ v3).setCell ⟨b', 4, none⟩ v4) :=
  ((((h.putOther hb hne 0 v0).putOther hb hne 1 v1).putOther hb hne 2 v2).putOther hb hne 3 v3).putOther hb hne 4 v4
theorem Lit.zero {B b : Nat} {W1 wx : World} {row : Obj} (h : Lit B W1 b row wx) : Lit 0 W1 b row wx := ⟨h.below.mono (Nat.zero_le _), Nat.zero_le _, h.row⟩
theorem carsV_of_row {B b : Nat} {W1 wx : World} {t : TypeId} {l : List CarIn} (h : Lit B W1 b (.cells (flatIn l).toArray t (0, 0)) wx) : CarsV wx (some ⟨b, 0, none⟩) l :=
  .inr ⟨b, 0, rfl, fun i hi j v hj => by
    have hlt : j < 11 := by
      rcases Nat.lt_or_ge j 11 with h1 | h1
      · exact h1
      · rw [List.getElem?_eq_none (by show 11 ≤ j; exact h1)] at hj; cases hj
    rw [Nat.zero_add, row_car h hi hlt]; exact hj⟩

theorem mask_num (F : Nat) (h1 : 2 ≤ F) (h2 : F ≤ 32) : ((2 : Int) ^ F - 1) % 4294967296 = ((2 ^ F - 1 : Nat) : Int) ∧ ((2 : Int) ^ F % 4294967296 - 1) % 4294967296 = ((2 ^ F - 1 : Nat) : Int) ∧ ((2 ^ F - 1 : Nat) : Int) / 2 = ((2 ^ (F - 1) - 1 : Nat) : Int) ∧ 2 ^ F - 1 < 4294967296 ∧ 2 ^ (F - 1) - 1 < 4294967296 := by
  have h : ∀ G : Fin 33, 2 ≤ G.val → ((2 : Int) ^ G.val - 1) % 4294967296 = ((2 ^ G.val - 1 : Nat) : Int) ∧ ((2 : Int) ^ G.val % 4294967296 - 1) % 4294967296 = ((2 ^ G.val - 1 : Nat) : Int) ∧ ((2 ^ G.val - 1 : Nat) : Int) / 2 = ((2 ^ (G.val - 1) - 1 : Nat) : Int) ∧ 2 ^ G.val - 1 < 4294967296 ∧ 2 ^ (G.val - 1) - 1 < 4294967296 := by decide +kernel
  exact h ⟨F, by omega⟩ h1

set_option linter.unusedVariables false
set_option linter.unusedSimpArgs false
set_option maxRecDepth 100000 in
set_option maxHeartbeats 8000000 in
theorem fitted_any (F C : Nat) (x : BldD) (A : Option Addr) (cap : Nat) (y : In) (A' : Option Addr) (cp : Nat) (w : World) (h1 : 2 ≤ F) (h2 : F ≤ 32) (h3 : 1 ≤ C) (h4 : C ≤ 8) (hxf : x.floors = (F : Int)) (hxc : x.cars.length = C) (hy : saneIn y) (hn : y.cars.length ≤ 1000) (hv : CarsV w A' y.cars) :
    Calls Try.prog 10 #[x.agg A cap, inAgg y A' cp] w fun e w' => Below w.heap.size w w' ∧ ∃ A2 cp2, e = .returned (inAgg (fitIn F C y) A2 cp2) ∧ CarsV w' A2 (fitIn F C y).cars := by
  obtain ⟨hm1, hm2, hm3, hmL, hmL2⟩ := mask_num F h1 h2
  have hand1 := u32_and_nat y.pu (2 ^ F - 1) hy.1 hmL
  have hA1 : y.pu &&& (2 ^ F - 1) < 4294967296 := Nat.lt_of_le_of_lt Nat.and_le_left hy.1
  have hand2 := u32_and_nat (y.pu &&& (2 ^ F - 1)) (2 ^ (F - 1) - 1) hA1 hmL2
  have hand3 := u32_and_nat y.pd (2 ^ F - 1) hy.2.1 hmL
  have hB1 : y.pd &&& (2 ^ F - 1) < 4294967296 := Nat.lt_of_le_of_lt Nat.and_le_left hy.2.1
  have hand4 := u32_andNot_nat (y.pd &&& (2 ^ F - 1)) 1 hB1 (by decide)
  have hand4' : bits .andNot .u32 ((y.pd &&& (2 ^ F - 1) : Nat) : Int) 1 = (((y.pd &&& (2 ^ F - 1)) &&& 4294967294 : Nat) : Int) := hand4
  have hFw : IntKind.u64.wrap (F : Int) = (F : Int) := by rw [IntKind.wrap_u64]; omega
  have hkw := m64_wrap y.kind
  have hcw := m64_wrap y.car
  have hFIT : Hid (fitIn F C y = ⟨y.pu &&& (2 ^ F - 1) &&& (2 ^ (F - 1) - 1), (y.pd &&& (2 ^ F - 1)) &&& 4294967294, (fitKind y : Int), (fitCarN C y : Int), fitCars F C y.cars⟩) := Lib.hid rfl
  have hFK : Hid (fitKind y = m64 y.kind % 9) := Lib.hid rfl
  have hFC : Hid (fitCarN C y = if fitKind y = 0 then 0 else m64 y.car % C) := Lib.hid rfl
  have HV := Lib.hid hv
  have HSC : Hid (∀ c ∈ y.cars, saneCar c) := hy.2.2.2.2
  clear hand4 hy hv hA1 hB1 hmL2
  obtain ⟨pu, pd, kind, car, ys⟩ := y
  obtain ⟨f, d, r, p, e1, e2, e3, cs⟩ := x
  simp only at hxf hxc hFIT hFK hFC HV HSC hn hand1 hand2 hand3 hand4' hkw hcw
  subst hxf
  simp only [BldD.agg, inAgg, hxc]
  clear hxc
  rw [hFIT.out]
  simp only
  generalize fitKind ⟨pu, pd, kind, car, ys⟩ = fk at *
  generalize fitCarN C ⟨pu, pd, kind, car, ys⟩ = fc at *
  generalize (pu &&& (2 ^ F - 1)) &&& (2 ^ (F - 1) - 1) = a2 at *
  generalize (pd &&& (2 ^ F - 1)) &&& 4294967294 = b2 at *
  generalize ((pu &&& (2 ^ F - 1) : Nat) : Int) = a1 at *
  generalize ((pd &&& (2 ^ F - 1) : Nat) : Int) = b1 at *
  have hmk : Hid ((2 ^ F - 1 : Nat) = 2 ^ F - 1) := Lib.hid rfl
  generalize hMK : (2 ^ F - 1 : Nat) = MK at *
  generalize ((2 ^ (F - 1) - 1 : Nat) : Int) = MK2 at *
  have HMK := Lib.hid hMK
  clear hMK hmk hFIT
  generalize m64 kind = mk at *
  generalize m64 car = mc at *
  go_enter Try.func10, Try.ntmps10
  go_wp2_with fail
  obtain ⟨WC, hWC⟩ : ∃ WC, WC = (w.alloc (.cells #[.int .i64 (F : Int), .int .i64 d, .int .i64 r, .int .i64 p, .float .f64 e1, .float .f64 e2, .float .f64 e3, .slice A C cap] 25)).alloc (.cells #[.int .u32 (a2 : Int), .int .u32 (b2 : Int), .int .i64 kind, .int .i64 car, .slice A' ys.length cp] 33) := ⟨_, rfl⟩
  have K1 : Lit w.heap.size w w.heap.size (.cells #[.int .i64 (F : Int), .int .i64 d, .int .i64 r, .int .i64 p, .float .f64 e1, .float .f64 e2, .float .f64 e3, .slice A C cap] 25 (0, 0)) (WC.alloc (.cells #[.int .u32 0, .int .u32 0, .int .i64 0, .int .i64 0, .slice none 0 0] 33)) := by rw [hWC]; exact ((Lit.one w _).alloc _).alloc _
  have K2 : Lit (w.heap.size + 1) (w.alloc (.cells #[.int .i64 (F : Int), .int .i64 d, .int .i64 r, .int .i64 p, .float .f64 e1, .float .f64 e2, .float .f64 e3, .slice A C cap] 25)) (w.heap.size + 1) (.cells #[.int .u32 (a2 : Int), .int .u32 (b2 : Int), .int .i64 kind, .int .i64 car, .slice A' ys.length cp] 33 (0, 0)) (WC.alloc (.cells #[.int .u32 0, .int .u32 0, .int .i64 0, .int .i64 0, .slice none 0 0] 33)) := by rw [hWC]; exact (Lit.two' w _ _).alloc _
  have K3 : Lit 0 w (w.heap.size + 2) (.cells #[.int .u32 0, .int .u32 0, .int .i64 0, .int .i64 0, .slice none 0 0] 33 (0, 0)) (WC.alloc (.cells #[.int .u32 0, .int .u32 0, .int .i64 0, .int .i64 0, .slice none 0 0] 33)) := by
    have h := Lit.one WC (.cells #[.int .u32 0, .int .u32 0, .int .i64 0, .int .i64 0, .slice none 0 0] 33)
    have e : WC.heap.size = w.heap.size + 2 := by rw [hWC]; simp
    rw [e] at h
    refine ⟨?_, Nat.zero_le _, h.row⟩
    have hb := h.below.mono (Nat.zero_le _)
    rw [hWC] at hb ⊢
    exact ((((Below.refl 0 w).alloc (Nat.zero_le _) _).alloc (Nat.zero_le _) _)).trans hb
  rw [← hWC]
  try simp only [hm2]
  clear hWC hm2
  generalize WC.alloc (.cells #[.int .u32 0, .int .u32 0, .int .i64 0, .int .i64 0, .slice none 0 0] 33) = W0 at *
  have HK := Lib.hid (And.intro K1 (And.intro K2 K3))
  clear K1 K2 K3
  have hC0 : ((C : Int) == 0) = false := beq_eq_false_iff_ne.2 (by omega)
  have hCn : ¬ (C : Int) = 0 := by omega
  have hC00 : ¬ C = 0 := by omega
  have hCw : IntKind.u64.wrap (C : Int) = (C : Int) := by rw [IntKind.wrap_u64]; omega
  have hfk1 : ((mk : Int)).tmod 9 = (fk : Int) := by rw [hFK.out, Int.tmod_eq_emod_of_nonneg (by omega)]; omega
  have hfk2 : (mk : Int) % 9 = (fk : Int) := by rw [hFK.out]; omega
  have hmc1 : (mc : Int).tmod (C : Int) = ((mc % C : Nat) : Int) := by rw [Int.tmod_eq_emod_of_nonneg (by omega)]; omega
  have hmc2 : (mc : Int) % (C : Int) = ((mc % C : Nat) : Int) := by omega
  have hfk9 : fk < 9 := by rw [hFK.out]; omega
  have hmcC : mc % C < C := Nat.mod_lt _ (by omega)
  generalize hMC : mc % C = ca at *
  have hfkw : IntKind.i64.wrap (fk : Int) = (fk : Int) := by rw [IntKind.wrap_i64]; omega
  have hcaw : IntKind.i64.wrap (ca : Int) = (ca : Int) := by rw [IntKind.wrap_i64]; omega
  refine Chain.chain (fun ph wx => Lit w.heap.size w w.heap.size (.cells #[.int .i64 (F : Int), .int .i64 d, .int .i64 r, .int .i64 p, .float .f64 e1, .float .f64 e2, .float .f64 e3, .slice A C cap] 25 (0, 0)) wx ∧ Lit (w.heap.size + 1) (w.alloc (.cells #[.int .i64 (F : Int), .int .i64 d, .int .i64 r, .int .i64 p, .float .f64 e1, .float .f64 e2, .float .f64 e3, .slice A C cap] 25)) (w.heap.size + 1) (.cells (([#[.int .u32 (a2 : Int), .int .u32 (b2 : Int), .int .i64 kind, .int .i64 car, .slice A' ys.length cp], #[.int .u32 (a2 : Int), .int .u32 (b2 : Int), .int .i64 (fk : Int), .int .i64 car, .slice A' ys.length cp], #[.int .u32 (a2 : Int), .int .u32 (b2 : Int), .int .i64 (fk : Int), .int .i64 (ca : Int), .slice A' ys.length cp]] : List (Array Value)).getD ph #[]) 33 (0, 0)) wx ∧ Lit 0 w (w.heap.size + 2) (.cells #[.int .u32 0, .int .u32 0, .int .i64 0, .int .i64 0, .slice none 0 0] 33 (0, 0)) wx) (fun _ _ => False) [18, 21] (by kernel_rfl) (by kernel_rfl) (fun _ _ _ _ h => h.elim) (by exact ⟨HK.out.1.next (Below.refl _ _).drew, HK.out.2.1.next (Below.refl _ _).drew, HK.out.2.2.next (Below.refl _ _).drew⟩) ?_
  clear HK
  iterate 2
    apply Chain.walk_quiet (by rfl) (by decide)
    · intro ph wx hp hwn hx K hK
      rcases (show ph = 0 ∨ ph = 1 ∨ ph = 2 from by have h : ph ≤ 2 := hp; omega) with rfl | rfl | rfl
      · have y := (show Lit (w.heap.size + 1) (w.alloc (.cells #[.int .i64 (F : Int), .int .i64 d, .int .i64 r, .int .i64 p, .float .f64 e1, .float .f64 e2, .float .f64 e3, .slice A C cap] 25)) (w.heap.size + 1) (.cells #[.int .u32 (a2 : Int), .int .u32 (b2 : Int), .int .i64 kind, .int .i64 car, .slice A' ys.length cp] 33 (0, 0)) wx from hx.2.1)
        have bb0 := hx.1.cell 0
        have bb1 := hx.1.cell 1
        have bb2 := hx.1.cell 2
        have bb3 := hx.1.cell 3
        have bb4 := hx.1.cell 4
        have bb5 := hx.1.cell 5
        have bb6 := hx.1.cell 6
        have bb7 := hx.1.cell 7
        have xx0 := y.cell 0
        have xx1 := y.cell 1
        have xx2 := y.cell 2
        have xx3 := y.cell 3
        have xx4 := y.cell 4
        simp only [List.getElem?_toArray, List.getElem?_cons_zero, List.getElem?_cons_succ] at bb0 bb1 bb2 bb3 bb4 bb5 bb6 bb7 xx0 xx1 xx2 xx3 xx4
        clear y
        have HX := Lib.hid hx
        clear hx hwn hp
        go_simp
        go_at_K
        exact hK _ HX.out
      · have y := (show Lit (w.heap.size + 1) (w.alloc (.cells #[.int .i64 (F : Int), .int .i64 d, .int .i64 r, .int .i64 p, .float .f64 e1, .float .f64 e2, .float .f64 e3, .slice A C cap] 25)) (w.heap.size + 1) (.cells #[.int .u32 (a2 : Int), .int .u32 (b2 : Int), .int .i64 (fk : Int), .int .i64 car, .slice A' ys.length cp] 33 (0, 0)) wx from hx.2.1)
        have bb0 := hx.1.cell 0
        have bb1 := hx.1.cell 1
        have bb2 := hx.1.cell 2
        have bb3 := hx.1.cell 3
        have bb4 := hx.1.cell 4
        have bb5 := hx.1.cell 5
        have bb6 := hx.1.cell 6
        have bb7 := hx.1.cell 7
        have xx0 := y.cell 0
        have xx1 := y.cell 1
        have xx2 := y.cell 2
        have xx3 := y.cell 3
        have xx4 := y.cell 4
        simp only [List.getElem?_toArray, List.getElem?_cons_zero, List.getElem?_cons_succ] at bb0 bb1 bb2 bb3 bb4 bb5 bb6 bb7 xx0 xx1 xx2 xx3 xx4
        clear y
        have HX := Lib.hid hx
        clear hx hwn hp
        go_simp
        go_at_K
        exact hK _ HX.out
      · have y := (show Lit (w.heap.size + 1) (w.alloc (.cells #[.int .i64 (F : Int), .int .i64 d, .int .i64 r, .int .i64 p, .float .f64 e1, .float .f64 e2, .float .f64 e3, .slice A C cap] 25)) (w.heap.size + 1) (.cells #[.int .u32 (a2 : Int), .int .u32 (b2 : Int), .int .i64 (fk : Int), .int .i64 (ca : Int), .slice A' ys.length cp] 33 (0, 0)) wx from hx.2.1)
        have bb0 := hx.1.cell 0
        have bb1 := hx.1.cell 1
        have bb2 := hx.1.cell 2
        have bb3 := hx.1.cell 3
        have bb4 := hx.1.cell 4
        have bb5 := hx.1.cell 5
        have bb6 := hx.1.cell 6
        have bb7 := hx.1.cell 7
        have xx0 := y.cell 0
        have xx1 := y.cell 1
        have xx2 := y.cell 2
        have xx3 := y.cell 3
        have xx4 := y.cell 4
        simp only [List.getElem?_toArray, List.getElem?_cons_zero, List.getElem?_cons_succ] at bb0 bb1 bb2 bb3 bb4 bb5 bb6 bb7 xx0 xx1 xx2 xx3 xx4
        clear y
        have HX := Lib.hid hx
        clear hx hwn hp
        go_simp
        go_at_K
        exact hK _ HX.out
    · exact ⟨_, rfl⟩
  apply Chain.walk_quiet (by rfl) (by decide)
  · intro ph wx hp hwn hx K hK
    rcases (show ph = 0 ∨ ph = 1 ∨ ph = 2 from by have h : ph ≤ 2 := hp; omega) with rfl | rfl | rfl
    · have y := (show Lit (w.heap.size + 1) (w.alloc (.cells #[.int .i64 (F : Int), .int .i64 d, .int .i64 r, .int .i64 p, .float .f64 e1, .float .f64 e2, .float .f64 e3, .slice A C cap] 25)) (w.heap.size + 1) (.cells #[.int .u32 (a2 : Int), .int .u32 (b2 : Int), .int .i64 kind, .int .i64 car, .slice A' ys.length cp] 33 (0, 0)) wx from hx.2.1)
      have bb0 := hx.1.cell 0
      have bb1 := hx.1.cell 1
      have bb2 := hx.1.cell 2
      have bb3 := hx.1.cell 3
      have bb4 := hx.1.cell 4
      have bb5 := hx.1.cell 5
      have bb6 := hx.1.cell 6
      have bb7 := hx.1.cell 7
      have xx0 := y.cell 0
      have xx1 := y.cell 1
      have xx2 := y.cell 2
      have xx3 := y.cell 3
      have xx4 := y.cell 4
      simp only [List.getElem?_toArray, List.getElem?_cons_zero, List.getElem?_cons_succ] at bb0 bb1 bb2 bb3 bb4 bb5 bb6 bb7 xx0 xx1 xx2 xx3 xx4
      clear y
      have HX := Lib.hid hx
      clear hx hwn hp
      go_simp
      go_at_K
      exact hK _ HX.out
    · exact absurd ((Eq.symm (show _ = false by kernel_rfl)).trans hwn) Bool.false_ne_true
    · exact absurd ((Eq.symm (show _ = false by kernel_rfl)).trans hwn) Bool.false_ne_true
  iterate 5
    · exact ⟨_, rfl⟩
    apply Chain.walk_quiet (by rfl) (by decide)
    · intro ph wx hp hwn hx K hK
      rcases (show ph = 0 ∨ ph = 1 ∨ ph = 2 from by have h : ph ≤ 2 := hp; omega) with rfl | rfl | rfl
      · have y := (show Lit (w.heap.size + 1) (w.alloc (.cells #[.int .i64 (F : Int), .int .i64 d, .int .i64 r, .int .i64 p, .float .f64 e1, .float .f64 e2, .float .f64 e3, .slice A C cap] 25)) (w.heap.size + 1) (.cells #[.int .u32 (a2 : Int), .int .u32 (b2 : Int), .int .i64 kind, .int .i64 car, .slice A' ys.length cp] 33 (0, 0)) wx from hx.2.1)
        have bb0 := hx.1.cell 0
        have bb1 := hx.1.cell 1
        have bb2 := hx.1.cell 2
        have bb3 := hx.1.cell 3
        have bb4 := hx.1.cell 4
        have bb5 := hx.1.cell 5
        have bb6 := hx.1.cell 6
        have bb7 := hx.1.cell 7
        have xx0 := y.cell 0
        have xx1 := y.cell 1
        have xx2 := y.cell 2
        have xx3 := y.cell 3
        have xx4 := y.cell 4
        simp only [List.getElem?_toArray, List.getElem?_cons_zero, List.getElem?_cons_succ] at bb0 bb1 bb2 bb3 bb4 bb5 bb6 bb7 xx0 xx1 xx2 xx3 xx4
        clear y
        have HX := Lib.hid hx
        clear hx hwn hp
        go_simp
        go_at_K
        exact hK _ HX.out
      · have y := (show Lit (w.heap.size + 1) (w.alloc (.cells #[.int .i64 (F : Int), .int .i64 d, .int .i64 r, .int .i64 p, .float .f64 e1, .float .f64 e2, .float .f64 e3, .slice A C cap] 25)) (w.heap.size + 1) (.cells #[.int .u32 (a2 : Int), .int .u32 (b2 : Int), .int .i64 (fk : Int), .int .i64 car, .slice A' ys.length cp] 33 (0, 0)) wx from hx.2.1)
        have bb0 := hx.1.cell 0
        have bb1 := hx.1.cell 1
        have bb2 := hx.1.cell 2
        have bb3 := hx.1.cell 3
        have bb4 := hx.1.cell 4
        have bb5 := hx.1.cell 5
        have bb6 := hx.1.cell 6
        have bb7 := hx.1.cell 7
        have xx0 := y.cell 0
        have xx1 := y.cell 1
        have xx2 := y.cell 2
        have xx3 := y.cell 3
        have xx4 := y.cell 4
        simp only [List.getElem?_toArray, List.getElem?_cons_zero, List.getElem?_cons_succ] at bb0 bb1 bb2 bb3 bb4 bb5 bb6 bb7 xx0 xx1 xx2 xx3 xx4
        clear y
        have HX := Lib.hid hx
        clear hx hwn hp
        go_simp
        go_at_K
        exact hK _ HX.out
      · have y := (show Lit (w.heap.size + 1) (w.alloc (.cells #[.int .i64 (F : Int), .int .i64 d, .int .i64 r, .int .i64 p, .float .f64 e1, .float .f64 e2, .float .f64 e3, .slice A C cap] 25)) (w.heap.size + 1) (.cells #[.int .u32 (a2 : Int), .int .u32 (b2 : Int), .int .i64 (fk : Int), .int .i64 (ca : Int), .slice A' ys.length cp] 33 (0, 0)) wx from hx.2.1)
        have bb0 := hx.1.cell 0
        have bb1 := hx.1.cell 1
        have bb2 := hx.1.cell 2
        have bb3 := hx.1.cell 3
        have bb4 := hx.1.cell 4
        have bb5 := hx.1.cell 5
        have bb6 := hx.1.cell 6
        have bb7 := hx.1.cell 7
        have xx0 := y.cell 0
        have xx1 := y.cell 1
        have xx2 := y.cell 2
        have xx3 := y.cell 3
        have xx4 := y.cell 4
        simp only [List.getElem?_toArray, List.getElem?_cons_zero, List.getElem?_cons_succ] at bb0 bb1 bb2 bb3 bb4 bb5 bb6 bb7 xx0 xx1 xx2 xx3 xx4
        clear y
        have HX := Lib.hid hx
        clear hx hwn hp
        go_simp
        go_at_K
        exact hK _ HX.out
  · exact ⟨_, rfl⟩
  apply Chain.walk_quiet (by rfl) (by decide)
  · intro ph wx hp hwn hx K hK
    rcases (show ph = 0 ∨ ph = 1 ∨ ph = 2 from by have h : ph ≤ 2 := hp; omega) with rfl | rfl | rfl
    · have y := (show Lit (w.heap.size + 1) (w.alloc (.cells #[.int .i64 (F : Int), .int .i64 d, .int .i64 r, .int .i64 p, .float .f64 e1, .float .f64 e2, .float .f64 e3, .slice A C cap] 25)) (w.heap.size + 1) (.cells #[.int .u32 (a2 : Int), .int .u32 (b2 : Int), .int .i64 kind, .int .i64 car, .slice A' ys.length cp] 33 (0, 0)) wx from hx.2.1)
      have bb0 := hx.1.cell 0
      have bb1 := hx.1.cell 1
      have bb2 := hx.1.cell 2
      have bb3 := hx.1.cell 3
      have bb4 := hx.1.cell 4
      have bb5 := hx.1.cell 5
      have bb6 := hx.1.cell 6
      have bb7 := hx.1.cell 7
      have xx0 := y.cell 0
      have xx1 := y.cell 1
      have xx2 := y.cell 2
      have xx3 := y.cell 3
      have xx4 := y.cell 4
      simp only [List.getElem?_toArray, List.getElem?_cons_zero, List.getElem?_cons_succ] at bb0 bb1 bb2 bb3 bb4 bb5 bb6 bb7 xx0 xx1 xx2 xx3 xx4
      clear y
      have HX := Lib.hid hx
      clear hx hwn hp
      go_simp
      go_at_K
      exact hK _ HX.out
    · have y := (show Lit (w.heap.size + 1) (w.alloc (.cells #[.int .i64 (F : Int), .int .i64 d, .int .i64 r, .int .i64 p, .float .f64 e1, .float .f64 e2, .float .f64 e3, .slice A C cap] 25)) (w.heap.size + 1) (.cells #[.int .u32 (a2 : Int), .int .u32 (b2 : Int), .int .i64 (fk : Int), .int .i64 car, .slice A' ys.length cp] 33 (0, 0)) wx from hx.2.1)
      have bb0 := hx.1.cell 0
      have bb1 := hx.1.cell 1
      have bb2 := hx.1.cell 2
      have bb3 := hx.1.cell 3
      have bb4 := hx.1.cell 4
      have bb5 := hx.1.cell 5
      have bb6 := hx.1.cell 6
      have bb7 := hx.1.cell 7
      have xx0 := y.cell 0
      have xx1 := y.cell 1
      have xx2 := y.cell 2
      have xx3 := y.cell 3
      have xx4 := y.cell 4
      simp only [List.getElem?_toArray, List.getElem?_cons_zero, List.getElem?_cons_succ] at bb0 bb1 bb2 bb3 bb4 bb5 bb6 bb7 xx0 xx1 xx2 xx3 xx4
      clear y
      have HX := Lib.hid hx
      clear hx hwn hp
      go_simp
      go_at_K
      exact hK _ HX.out
    · exact absurd ((Eq.symm (show _ = false by kernel_rfl)).trans hwn) Bool.false_ne_true
  iterate 9
    · exact ⟨_, rfl⟩
    apply Chain.walk_quiet (by rfl) (by decide)
    · intro ph wx hp hwn hx K hK
      rcases (show ph = 0 ∨ ph = 1 ∨ ph = 2 from by have h : ph ≤ 2 := hp; omega) with rfl | rfl | rfl
      · have y := (show Lit (w.heap.size + 1) (w.alloc (.cells #[.int .i64 (F : Int), .int .i64 d, .int .i64 r, .int .i64 p, .float .f64 e1, .float .f64 e2, .float .f64 e3, .slice A C cap] 25)) (w.heap.size + 1) (.cells #[.int .u32 (a2 : Int), .int .u32 (b2 : Int), .int .i64 kind, .int .i64 car, .slice A' ys.length cp] 33 (0, 0)) wx from hx.2.1)
        have bb0 := hx.1.cell 0
        have bb1 := hx.1.cell 1
        have bb2 := hx.1.cell 2
        have bb3 := hx.1.cell 3
        have bb4 := hx.1.cell 4
        have bb5 := hx.1.cell 5
        have bb6 := hx.1.cell 6
        have bb7 := hx.1.cell 7
        have xx0 := y.cell 0
        have xx1 := y.cell 1
        have xx2 := y.cell 2
        have xx3 := y.cell 3
        have xx4 := y.cell 4
        simp only [List.getElem?_toArray, List.getElem?_cons_zero, List.getElem?_cons_succ] at bb0 bb1 bb2 bb3 bb4 bb5 bb6 bb7 xx0 xx1 xx2 xx3 xx4
        clear y
        have HX := Lib.hid hx
        clear hx hwn hp
        go_simp
        go_at_K
        exact hK _ HX.out
      · have y := (show Lit (w.heap.size + 1) (w.alloc (.cells #[.int .i64 (F : Int), .int .i64 d, .int .i64 r, .int .i64 p, .float .f64 e1, .float .f64 e2, .float .f64 e3, .slice A C cap] 25)) (w.heap.size + 1) (.cells #[.int .u32 (a2 : Int), .int .u32 (b2 : Int), .int .i64 (fk : Int), .int .i64 car, .slice A' ys.length cp] 33 (0, 0)) wx from hx.2.1)
        have bb0 := hx.1.cell 0
        have bb1 := hx.1.cell 1
        have bb2 := hx.1.cell 2
        have bb3 := hx.1.cell 3
        have bb4 := hx.1.cell 4
        have bb5 := hx.1.cell 5
        have bb6 := hx.1.cell 6
        have bb7 := hx.1.cell 7
        have xx0 := y.cell 0
        have xx1 := y.cell 1
        have xx2 := y.cell 2
        have xx3 := y.cell 3
        have xx4 := y.cell 4
        simp only [List.getElem?_toArray, List.getElem?_cons_zero, List.getElem?_cons_succ] at bb0 bb1 bb2 bb3 bb4 bb5 bb6 bb7 xx0 xx1 xx2 xx3 xx4
        clear y
        have HX := Lib.hid hx
        clear hx hwn hp
        go_simp
        go_at_K
        exact hK _ HX.out
      · have y := (show Lit (w.heap.size + 1) (w.alloc (.cells #[.int .i64 (F : Int), .int .i64 d, .int .i64 r, .int .i64 p, .float .f64 e1, .float .f64 e2, .float .f64 e3, .slice A C cap] 25)) (w.heap.size + 1) (.cells #[.int .u32 (a2 : Int), .int .u32 (b2 : Int), .int .i64 (fk : Int), .int .i64 (ca : Int), .slice A' ys.length cp] 33 (0, 0)) wx from hx.2.1)
        have bb0 := hx.1.cell 0
        have bb1 := hx.1.cell 1
        have bb2 := hx.1.cell 2
        have bb3 := hx.1.cell 3
        have bb4 := hx.1.cell 4
        have bb5 := hx.1.cell 5
        have bb6 := hx.1.cell 6
        have bb7 := hx.1.cell 7
        have xx0 := y.cell 0
        have xx1 := y.cell 1
        have xx2 := y.cell 2
        have xx3 := y.cell 3
        have xx4 := y.cell 4
        simp only [List.getElem?_toArray, List.getElem?_cons_zero, List.getElem?_cons_succ] at bb0 bb1 bb2 bb3 bb4 bb5 bb6 bb7 xx0 xx1 xx2 xx3 xx4
        clear y
        have HX := Lib.hid hx
        clear hx hwn hp
        go_simp
        go_at_K
        exact hK _ HX.out
  · exact ⟨_, rfl⟩
  apply Chain.walk_turn 0 (by rfl) (by rfl)
  · intro wx hx K hK
    have y := (show Lit (w.heap.size + 1) (w.alloc (.cells #[.int .i64 (F : Int), .int .i64 d, .int .i64 r, .int .i64 p, .float .f64 e1, .float .f64 e2, .float .f64 e3, .slice A C cap] 25)) (w.heap.size + 1) (.cells #[.int .u32 (a2 : Int), .int .u32 (b2 : Int), .int .i64 kind, .int .i64 car, .slice A' ys.length cp] 33 (0, 0)) wx from hx.2.1)
    have xx0 := y.cell 0
    have xx1 := y.cell 1
    have xx2 := y.cell 2
    have xx3 := y.cell 3
    have xx4 := y.cell 4
    simp only [List.getElem?_toArray, List.getElem?_cons_zero, List.getElem?_cons_succ] at xx0 xx1 xx2 xx3 xx4
    have ff := y.free 2
    have g : Hid (Lit w.heap.size w w.heap.size (.cells #[.int .i64 (F : Int), .int .i64 d, .int .i64 r, .int .i64 p, .float .f64 e1, .float .f64 e2, .float .f64 e3, .slice A C cap] 25 (0, 0)) (wx.setCell ⟨w.heap.size + 1, 2, none⟩ (.int .i64 (fk : Int))) ∧ Lit (w.heap.size + 1) (w.alloc (.cells #[.int .i64 (F : Int), .int .i64 d, .int .i64 r, .int .i64 p, .float .f64 e1, .float .f64 e2, .float .f64 e3, .slice A C cap] 25)) (w.heap.size + 1) (.cells #[.int .u32 (a2 : Int), .int .u32 (b2 : Int), .int .i64 (fk : Int), .int .i64 car, .slice A' ys.length cp] 33 (0, 0)) (wx.setCell ⟨w.heap.size + 1, 2, none⟩ (.int .i64 (fk : Int))) ∧ Lit 0 w (w.heap.size + 2) (.cells #[.int .u32 0, .int .u32 0, .int .i64 0, .int .i64 0, .slice none 0 0] 33 (0, 0)) (wx.setCell ⟨w.heap.size + 1, 2, none⟩ (.int .i64 (fk : Int)))) := Lib.hid ⟨hx.1.putOther (by omega) (by omega) 2 _, y.put (Nat.le_refl _) 2 _, hx.2.2.putOther (Nat.zero_le _) (by omega) 2 _⟩
    have HK2 := Lib.hid hK
    clear hx y hK
    go_simp
    exact HK2.out _ g.out
  · exact ⟨undef, rfl⟩
  iterate 2
    apply Chain.walk_quiet (by rfl) (by decide)
    · intro ph wx hp hwn hx K hK
      rcases (show ph = 0 ∨ ph = 1 ∨ ph = 2 from by have h : ph ≤ 2 := hp; omega) with rfl | rfl | rfl
      · have y := (show Lit (w.heap.size + 1) (w.alloc (.cells #[.int .i64 (F : Int), .int .i64 d, .int .i64 r, .int .i64 p, .float .f64 e1, .float .f64 e2, .float .f64 e3, .slice A C cap] 25)) (w.heap.size + 1) (.cells #[.int .u32 (a2 : Int), .int .u32 (b2 : Int), .int .i64 kind, .int .i64 car, .slice A' ys.length cp] 33 (0, 0)) wx from hx.2.1)
        have bb0 := hx.1.cell 0
        have bb1 := hx.1.cell 1
        have bb2 := hx.1.cell 2
        have bb3 := hx.1.cell 3
        have bb4 := hx.1.cell 4
        have bb5 := hx.1.cell 5
        have bb6 := hx.1.cell 6
        have bb7 := hx.1.cell 7
        have xx0 := y.cell 0
        have xx1 := y.cell 1
        have xx2 := y.cell 2
        have xx3 := y.cell 3
        have xx4 := y.cell 4
        simp only [List.getElem?_toArray, List.getElem?_cons_zero, List.getElem?_cons_succ] at bb0 bb1 bb2 bb3 bb4 bb5 bb6 bb7 xx0 xx1 xx2 xx3 xx4
        clear y
        have HX := Lib.hid hx
        clear hx hwn hp
        go_simp
        go_at_K
        exact hK _ HX.out
      · have y := (show Lit (w.heap.size + 1) (w.alloc (.cells #[.int .i64 (F : Int), .int .i64 d, .int .i64 r, .int .i64 p, .float .f64 e1, .float .f64 e2, .float .f64 e3, .slice A C cap] 25)) (w.heap.size + 1) (.cells #[.int .u32 (a2 : Int), .int .u32 (b2 : Int), .int .i64 (fk : Int), .int .i64 car, .slice A' ys.length cp] 33 (0, 0)) wx from hx.2.1)
        have bb0 := hx.1.cell 0
        have bb1 := hx.1.cell 1
        have bb2 := hx.1.cell 2
        have bb3 := hx.1.cell 3
        have bb4 := hx.1.cell 4
        have bb5 := hx.1.cell 5
        have bb6 := hx.1.cell 6
        have bb7 := hx.1.cell 7
        have xx0 := y.cell 0
        have xx1 := y.cell 1
        have xx2 := y.cell 2
        have xx3 := y.cell 3
        have xx4 := y.cell 4
        simp only [List.getElem?_toArray, List.getElem?_cons_zero, List.getElem?_cons_succ] at bb0 bb1 bb2 bb3 bb4 bb5 bb6 bb7 xx0 xx1 xx2 xx3 xx4
        clear y
        have HX := Lib.hid hx
        clear hx hwn hp
        go_simp
        go_at_K
        exact hK _ HX.out
      · have y := (show Lit (w.heap.size + 1) (w.alloc (.cells #[.int .i64 (F : Int), .int .i64 d, .int .i64 r, .int .i64 p, .float .f64 e1, .float .f64 e2, .float .f64 e3, .slice A C cap] 25)) (w.heap.size + 1) (.cells #[.int .u32 (a2 : Int), .int .u32 (b2 : Int), .int .i64 (fk : Int), .int .i64 (ca : Int), .slice A' ys.length cp] 33 (0, 0)) wx from hx.2.1)
        have bb0 := hx.1.cell 0
        have bb1 := hx.1.cell 1
        have bb2 := hx.1.cell 2
        have bb3 := hx.1.cell 3
        have bb4 := hx.1.cell 4
        have bb5 := hx.1.cell 5
        have bb6 := hx.1.cell 6
        have bb7 := hx.1.cell 7
        have xx0 := y.cell 0
        have xx1 := y.cell 1
        have xx2 := y.cell 2
        have xx3 := y.cell 3
        have xx4 := y.cell 4
        simp only [List.getElem?_toArray, List.getElem?_cons_zero, List.getElem?_cons_succ] at bb0 bb1 bb2 bb3 bb4 bb5 bb6 bb7 xx0 xx1 xx2 xx3 xx4
        clear y
        have HX := Lib.hid hx
        clear hx hwn hp
        go_simp
        go_at_K
        exact hK _ HX.out
    · exact ⟨_, rfl⟩
  apply Chain.walk_turn 1 (by rfl) (by rfl)
  · intro wx hx K hK
    have y := (show Lit (w.heap.size + 1) (w.alloc (.cells #[.int .i64 (F : Int), .int .i64 d, .int .i64 r, .int .i64 p, .float .f64 e1, .float .f64 e2, .float .f64 e3, .slice A C cap] 25)) (w.heap.size + 1) (.cells #[.int .u32 (a2 : Int), .int .u32 (b2 : Int), .int .i64 (fk : Int), .int .i64 car, .slice A' ys.length cp] 33 (0, 0)) wx from hx.2.1)
    have xx0 := y.cell 0
    have xx1 := y.cell 1
    have xx2 := y.cell 2
    have xx3 := y.cell 3
    have xx4 := y.cell 4
    simp only [List.getElem?_toArray, List.getElem?_cons_zero, List.getElem?_cons_succ] at xx0 xx1 xx2 xx3 xx4
    have ff := y.free 3
    have g : Hid (Lit w.heap.size w w.heap.size (.cells #[.int .i64 (F : Int), .int .i64 d, .int .i64 r, .int .i64 p, .float .f64 e1, .float .f64 e2, .float .f64 e3, .slice A C cap] 25 (0, 0)) (wx.setCell ⟨w.heap.size + 1, 3, none⟩ (.int .i64 (ca : Int))) ∧ Lit (w.heap.size + 1) (w.alloc (.cells #[.int .i64 (F : Int), .int .i64 d, .int .i64 r, .int .i64 p, .float .f64 e1, .float .f64 e2, .float .f64 e3, .slice A C cap] 25)) (w.heap.size + 1) (.cells #[.int .u32 (a2 : Int), .int .u32 (b2 : Int), .int .i64 (fk : Int), .int .i64 (ca : Int), .slice A' ys.length cp] 33 (0, 0)) (wx.setCell ⟨w.heap.size + 1, 3, none⟩ (.int .i64 (ca : Int))) ∧ Lit 0 w (w.heap.size + 2) (.cells #[.int .u32 0, .int .u32 0, .int .i64 0, .int .i64 0, .slice none 0 0] 33 (0, 0)) (wx.setCell ⟨w.heap.size + 1, 3, none⟩ (.int .i64 (ca : Int)))) := Lib.hid ⟨hx.1.putOther (by omega) (by omega) 3 _, y.put (Nat.le_refl _) 3 _, hx.2.2.putOther (Nat.zero_le _) (by omega) 3 _⟩
    have HK2 := Lib.hid hK
    clear hx y hK
    go_simp
    exact HK2.out _ g.out
  · exact ⟨undef, rfl⟩
  refine Chain.walk_nil (fun W1 hx => ?_)
  have K2 := (show Lit (w.heap.size + 1) (w.alloc (.cells #[.int .i64 (F : Int), .int .i64 d, .int .i64 r, .int .i64 p, .float .f64 e1, .float .f64 e2, .float .f64 e3, .slice A C cap] 25)) (w.heap.size + 1) (.cells #[.int .u32 (a2 : Int), .int .u32 (b2 : Int), .int .i64 (fk : Int), .int .i64 (ca : Int), .slice A' ys.length cp] 33 (0, 0)) W1 from hx.2.1)
  have HK := Lib.hid (And.intro hx.1 (And.intro K2 hx.2.2))
  clear hx K2
  have bb0 := HK.out.1.cell 0
  have bb1 := HK.out.1.cell 1
  have bb2 := HK.out.1.cell 2
  have bb3 := HK.out.1.cell 3
  have bb4 := HK.out.1.cell 4
  have bb5 := HK.out.1.cell 5
  have bb6 := HK.out.1.cell 6
  have bb7 := HK.out.1.cell 7
  have xx0 := HK.out.2.1.cell 0
  have xx1 := HK.out.2.1.cell 1
  have xx2 := HK.out.2.1.cell 2
  have xx3 := HK.out.2.1.cell 3
  have xx4 := HK.out.2.1.cell 4
  simp only [List.getElem?_toArray, List.getElem?_cons_zero, List.getElem?_cons_succ] at bb0 bb1 bb2 bb3 bb4 bb5 bb6 bb7 xx0 xx1 xx2 xx3 xx4
  have ff3 := HK.out.2.1.free 3
  have hlt2 := HK.out.2.2.lt
  have hlt1 : w.heap.size + 1 < W1.heap.size := by omega
  have hlt0 : w.heap.size < W1.heap.size := by omega
  by_cases hfk0 : fk = 0
  case pos =>
    have hfkb : ((fk : Int) == 0) = true := beq_iff_eq.2 (by omega)
    have hfc : fc = 0 := by rw [hFC.out, if_pos hfk0]
    have HFC0 := Lib.hid hfc
    clear hfc hfk0
    go_wp2_with (with_reducible show wpList _ _ _ (Oper.mk _ (.makeSlice _ _ _) _ _ _ _ :: _) _ _; refine Hid.out ?_)
    have HK2 : Hid (Lit w.heap.size w w.heap.size (.cells #[.int .i64 (F : Int), .int .i64 d, .int .i64 r, .int .i64 p, .float .f64 e1, .float .f64 e2, .float .f64 e3, .slice A C cap] 25 (0, 0)) (W1.setCell ⟨w.heap.size + 1, 3, none⟩ (.int .i64 0)) ∧ Lit (w.heap.size + 1) (w.alloc (.cells #[.int .i64 (F : Int), .int .i64 d, .int .i64 r, .int .i64 p, .float .f64 e1, .float .f64 e2, .float .f64 e3, .slice A C cap] 25)) (w.heap.size + 1) (.cells #[.int .u32 (a2 : Int), .int .u32 (b2 : Int), .int .i64 (fk : Int), .int .i64 0, .slice A' ys.length cp] 33 (0, 0)) (W1.setCell ⟨w.heap.size + 1, 3, none⟩ (.int .i64 0)) ∧ Lit 0 w (w.heap.size + 2) (.cells #[.int .u32 0, .int .u32 0, .int .i64 0, .int .i64 0, .slice none 0 0] 33 (0, 0)) (W1.setCell ⟨w.heap.size + 1, 3, none⟩ (.int .i64 0))) := Lib.hid ⟨HK.out.1.putOther (by omega) (by omega) 3 _, HK.out.2.1.put (Nat.le_refl _) 3 _, HK.out.2.2.putOther (Nat.zero_le _) (by omega) 3 _⟩
    clear HK ff3 bb0 bb1 bb2 bb3 bb4 bb5 bb6 bb7 xx0 xx1 xx2 xx3 xx4
    generalize W1.setCell ⟨w.heap.size + 1, 3, none⟩ (.int .i64 0) = W2 at *
    obtain ⟨W3, k3, hcp, hrow, hb3, hz3⟩ := copy_cars W2 A' cp ys (HV.out.below HK2.out.1.below) C
    have hmk2 := make_carins C (by omega) W2
    have HK3 := Lib.hid (And.intro (HK2.out.1.next hb3) (And.intro (HK2.out.2.1.next hb3) (And.intro (HK2.out.2.2.next hb3) (show Lit W2.heap.size W2 W2.heap.size (.cells (flatIn (padCars C ys)).toArray 71 (0, 0)) W3 from ⟨hb3, by omega, hrow⟩))))
    have bb0 := HK2.out.1.cell 0
    have bb1 := HK2.out.1.cell 1
    have bb2 := HK2.out.1.cell 2
    have bb3 := HK2.out.1.cell 3
    have bb4 := HK2.out.1.cell 4
    have bb5 := HK2.out.1.cell 5
    have bb6 := HK2.out.1.cell 6
    have bb7 := HK2.out.1.cell 7
    have xx0 := HK2.out.2.1.cell 0
    have xx1 := HK2.out.2.1.cell 1
    have xx2 := HK2.out.2.1.cell 2
    have xx3 := HK2.out.2.1.cell 3
    have xx4 := HK2.out.2.1.cell 4
    simp only [List.getElem?_toArray, List.getElem?_cons_zero, List.getElem?_cons_succ] at bb0 bb1 bb2 bb3 bb4 bb5 bb6 bb7 xx0 xx1 xx2 xx3 xx4
    have hlt2 := HK2.out.2.2.lt
    have hlt1 : w.heap.size + 1 < W2.heap.size := by omega
    have hlt0 : w.heap.size < W2.heap.size := by omega
    clear hrow hb3 hz3
    refine Lib.hid ?_
    go_wp2_with fail
    go_loopw [7] (fun v wr => ∃ k : Nat, k ≤ C ∧ v = .int .i64 k ∧ Lit w.heap.size w w.heap.size (.cells #[.int .i64 (F : Int), .int .i64 d, .int .i64 r, .int .i64 p, .float .f64 e1, .float .f64 e2, .float .f64 e3, .slice A C cap] 25 (0, 0)) wr ∧ Lit (w.heap.size + 1) (w.alloc (.cells #[.int .i64 (F : Int), .int .i64 d, .int .i64 r, .int .i64 p, .float .f64 e1, .float .f64 e2, .float .f64 e3, .slice A C cap] 25)) (w.heap.size + 1) (.cells #[.int .u32 (a2 : Int), .int .u32 (b2 : Int), .int .i64 (fk : Int), .int .i64 0, .slice A' ys.length cp] 33 (0, 0)) wr ∧ Lit 0 w (w.heap.size + 2) (.cells #[.int .u32 0, .int .u32 0, .int .i64 0, .int .i64 0, .slice none 0 0] 33 (0, 0)) wr ∧ Lit W2.heap.size W2 W2.heap.size (.cells (flatIn (fitTo F k (padCars C ys))).toArray 71 (0, 0)) wr) (fun v _ => C - (intOf v).toNat)
    case atStart => exact ⟨0, Nat.zero_le _, rfl, HK3.out⟩
    case round =>
      clear HK3 hcp hmk2 hlt0 hlt1 bb0 bb1 bb2 bb3 bb4 bb5 bb6 bb7 xx0 xx1 xx2 xx3 xx4
      obtain ⟨k, hk, rfl, K1, K2, K3, K4⟩ := hrel
      have hlen : (fitTo F k (padCars C ys)).length = C := by rw [fitTo_length, padCars_length]
      have bb0 := K1.cell 0
      have bb1 := K1.cell 1
      have bb2 := K1.cell 2
      have bb3 := K1.cell 3
      have bb4 := K1.cell 4
      have bb5 := K1.cell 5
      have bb6 := K1.cell 6
      have bb7 := K1.cell 7
      have xx0 := K2.cell 0
      have xx1 := K2.cell 1
      have xx2 := K2.cell 2
      have xx3 := K2.cell 3
      have xx4 := K2.cell 4
      simp only [List.getElem?_toArray, List.getElem?_cons_zero, List.getElem?_cons_succ] at bb0 bb1 bb2 bb3 bb4 bb5 bb6 bb7 xx0 xx1 xx2 xx3 xx4
      have HK := Lib.hid (And.intro K1 (And.intro K2 (And.intro K3 K4)))
      have hM := K4.lt
      clear K1 K2 K3 K4
      by_cases hlt : k < C
      case neg =>
        have hkC : k = C := by omega
        have e : fitTo F k (padCars C ys) = fitCars F C ys := by rw [hkC, fitCars_pad, ← fitTo_all, padCars_length]
        rw [e] at HK
        have hdd : decide ((k : Int) < (C : Int)) = false := decide_eq_false (by omega)
        have ff4 := HK.out.2.1.free 4
        have rr0 := HK.out.2.2.1.cell 0
        have rr1 := HK.out.2.2.1.cell 1
        have rr2 := HK.out.2.2.1.cell 2
        have rr3 := HK.out.2.2.1.cell 3
        have rr4 := HK.out.2.2.1.cell 4
        simp only [List.getElem?_toArray, List.getElem?_cons_zero, List.getElem?_cons_succ] at rr0 rr1 rr2 rr3 rr4
        have rf0 := HK.out.2.2.1.free 0
        have rf1 := HK.out.2.2.1.free 1
        have rf2 := HK.out.2.2.1.free 2
        have rf3 := HK.out.2.2.1.free 3
        have rf4 := HK.out.2.2.1.free 4
        clear e
        have hw2 : w.heap.size + 2 < wr.heap.size := HK.out.2.2.1.lt
        have hw1 : w.heap.size + 1 < wr.heap.size := by omega
        have hw0 : w.heap.size < wr.heap.size := by omega
        go_wp2_with fail
        have E3 := (HK.out.2.2.1.putOther (b' := w.heap.size + 1) (Nat.zero_le _) (by omega) 4 (.slice (some ⟨W2.heap.size, 0, none⟩) C C)).put5 (Nat.zero_le _) rfl (.int .u32 (a2 : Int)) (.int .u32 (b2 : Int)) (.int .i64 (fk : Int)) (.int .i64 (0)) (.slice (some ⟨W2.heap.size, 0, none⟩) C C)
        have E1 := other5 (HK.out.1.putOther (b' := w.heap.size + 1) (by omega) (by omega) 4 (.slice (some ⟨W2.heap.size, 0, none⟩) C C)) (b' := w.heap.size + 2) (by omega) (by omega) (.int .u32 (a2 : Int)) (.int .u32 (b2 : Int)) (.int .i64 (fk : Int)) (.int .i64 (0)) (.slice (some ⟨W2.heap.size, 0, none⟩) C C)
        have E4 := other5 ((Lit.zero HK.out.2.2.2).putOther (b' := w.heap.size + 1) (Nat.zero_le _) (by omega) 4 (.slice (some ⟨W2.heap.size, 0, none⟩) C C)) (b' := w.heap.size + 2) (Nat.zero_le _) (by omega) (.int .u32 (a2 : Int)) (.int .u32 (b2 : Int)) (.int .i64 (fk : Int)) (.int .i64 (0)) (.slice (some ⟨W2.heap.size, 0, none⟩) C C)
        have hlC : (fitCars F C ys).length = C := by rw [fitCars_pad, List.length_map, padCars_length]
        exact bodyPost_ret (results_cell_row Try.results10 _ _ _ _ _ (0, 0) _ rfl (E3.row) Try.underlying33 rfl (by kernel_rfl)) rfl (⟨E1.below, some ⟨W2.heap.size, 0, none⟩, C, by rw [hlC]; rw [HFC0.out]; try rfl, carsV_of_row E4⟩)
      have hg := fitTo_get F k (padCars C ys) (by rw [padCars_length]; exact hlt)
      have hsucc := fitTo_succ F k (padCars C ys) (by rw [padCars_length]; exact hlt)
      have hset := fun a d b c => set_car (fitTo F k (padCars C ys)) k (by omega) a d b c
      rw [hg] at hset
      have hkp : k < (padCars C ys).length := by rw [padCars_length]; exact hlt
      have hsan : saneCar ((padCars C ys)[k]'hkp) := pad_sane HSC.out _ (List.getElem_mem _)
      generalize (padCars C ys)[k]'hkp = q at *
      have handf := u32_and_nat q.floors MK hsan.1 (hmL)
      have handc := u32_and_nat q.calls MK hsan.2.1 (hmL)
      have HSET := Lib.hid hset
      have HSUC := Lib.hid hsucc
      have HCELL : Hid (((flatIn (fitTo F k (padCars C ys))).toArray)[k * 11]? = some (.int .u32 (q.floors : Int)) ∧ ((flatIn (fitTo F k (padCars C ys))).toArray)[k * 11 + 5]? = some (.int .i64 q.floor) ∧ ((flatIn (fitTo F k (padCars C ys))).toArray)[k * 11 + 7]? = some (.int .i64 q.door) ∧ ((flatIn (fitTo F k (padCars C ys))).toArray)[k * 11 + 9]? = some (.int .u32 (q.calls : Int))) := Lib.hid (by
        have e := fun j hj => flatIn_at (fitTo F k (padCars C ys)) k (by omega) j hj
        simp only [hg] at e
        simp only [List.getElem?_toArray]
        exact ⟨e 0 (by decide), e 5 (by decide), e 7 (by decide), e 9 (by decide)⟩)
      clear hset hsucc hg hlen hsan
      have hdd : decide ((k : Int) < (C : Int)) = true := decide_eq_true (by omega)
      generalize hROW : (flatIn (fitTo F k (padCars C ys))).toArray = ROW at *
      go_wp2_with fail
      obtain ⟨r0, r5, r7, r9⟩ := HCELL.out
      clear HCELL
      refine Chain.chain (fun ph wx => Lit w.heap.size w w.heap.size (.cells #[.int .i64 (F : Int), .int .i64 d, .int .i64 r, .int .i64 p, .float .f64 e1, .float .f64 e2, .float .f64 e3, .slice A C cap] 25 (0, 0)) wx ∧ Lit (w.heap.size + 1) (w.alloc (.cells #[.int .i64 (F : Int), .int .i64 d, .int .i64 r, .int .i64 p, .float .f64 e1, .float .f64 e2, .float .f64 e3, .slice A C cap] 25)) (w.heap.size + 1) (.cells #[.int .u32 (a2 : Int), .int .u32 (b2 : Int), .int .i64 (fk : Int), .int .i64 0, .slice A' ys.length cp] 33 (0, 0)) wx ∧ Lit 0 w (w.heap.size + 2) (.cells #[.int .u32 0, .int .u32 0, .int .i64 0, .int .i64 0, .slice none 0 0] 33 (0, 0)) wx ∧ Lit W2.heap.size W2 W2.heap.size (.cells (([ROW, ((ROW).setIfInBounds (k * 11) (.int .u32 ((q.floors &&& MK : Nat) : Int))), (((ROW).setIfInBounds (k * 11) (.int .u32 ((q.floors &&& MK : Nat) : Int))).setIfInBounds (k * 11 + 9) (.int .u32 ((q.calls &&& MK : Nat) : Int)))] : List (Array Value)).getD ph #[]) 71 (0, 0)) wx) (fun _ _ => False) [18, 21] (by kernel_rfl) (by kernel_rfl) (fun _ _ _ _ h => h.elim) (by exact ⟨HK.out.1.next (Below.refl _ _).drew, HK.out.2.1.next (Below.refl _ _).drew, HK.out.2.2.1.next (Below.refl _ _).drew, HK.out.2.2.2.next (Below.refl _ _).drew⟩) ?_
      clear HK
      iterate 6
        apply Chain.walk_quiet (by rfl) (by decide)
        · intro ph wx hp hwn hx K hK
          rcases (show ph = 0 ∨ ph = 1 ∨ ph = 2 from by have h : ph ≤ 2 := hp; omega) with rfl | rfl | rfl
          · have y := (show Lit W2.heap.size W2 W2.heap.size (.cells ROW 71 (0, 0)) wx from hx.2.2.2)
            have z1 := (y.cell (k * 11)).trans r0
            have z2 := (y.cell (k * 11 + 9)).trans r9
            clear y
            have HX := Lib.hid hx
            clear hx hwn hp
            go_simp
            go_at_K
            exact hK _ HX.out
          · have y := (show Lit W2.heap.size W2 W2.heap.size (.cells ((ROW).setIfInBounds (k * 11) (.int .u32 ((q.floors &&& MK : Nat) : Int))) 71 (0, 0)) wx from hx.2.2.2)
            have z2 := (y.cell (k * 11 + 9)).trans ((Array.getElem?_setIfInBounds_ne (by omega)).trans r9)
            clear y
            have HX := Lib.hid hx
            clear hx hwn hp
            go_simp
            go_at_K
            exact hK _ HX.out
          · have y := (show Lit W2.heap.size W2 W2.heap.size (.cells (((ROW).setIfInBounds (k * 11) (.int .u32 ((q.floors &&& MK : Nat) : Int))).setIfInBounds (k * 11 + 9) (.int .u32 ((q.calls &&& MK : Nat) : Int))) 71 (0, 0)) wx from hx.2.2.2)
            clear y
            have HX := Lib.hid hx
            clear hx hwn hp
            go_simp
            go_at_K
            exact hK _ HX.out
        · exact ⟨_, rfl⟩
      apply Chain.walk_quiet (by rfl) (by decide)
      · intro ph wx hp hwn hx K hK
        rcases (show ph = 0 ∨ ph = 1 ∨ ph = 2 from by have h : ph ≤ 2 := hp; omega) with rfl | rfl | rfl
        · have y := (show Lit W2.heap.size W2 W2.heap.size (.cells ROW 71 (0, 0)) wx from hx.2.2.2)
          have z1 := (y.cell (k * 11)).trans r0
          have z2 := (y.cell (k * 11 + 9)).trans r9
          clear y
          have HX := Lib.hid hx
          clear hx hwn hp
          go_simp
          go_at_K
          exact hK _ HX.out
        · exact absurd ((Eq.symm (show _ = false by kernel_rfl)).trans hwn) Bool.false_ne_true
        · exact absurd ((Eq.symm (show _ = false by kernel_rfl)).trans hwn) Bool.false_ne_true
      iterate 5
        · exact ⟨_, rfl⟩
        apply Chain.walk_quiet (by rfl) (by decide)
        · intro ph wx hp hwn hx K hK
          rcases (show ph = 0 ∨ ph = 1 ∨ ph = 2 from by have h : ph ≤ 2 := hp; omega) with rfl | rfl | rfl
          · have y := (show Lit W2.heap.size W2 W2.heap.size (.cells ROW 71 (0, 0)) wx from hx.2.2.2)
            have z1 := (y.cell (k * 11)).trans r0
            have z2 := (y.cell (k * 11 + 9)).trans r9
            clear y
            have HX := Lib.hid hx
            clear hx hwn hp
            go_simp
            go_at_K
            exact hK _ HX.out
          · have y := (show Lit W2.heap.size W2 W2.heap.size (.cells ((ROW).setIfInBounds (k * 11) (.int .u32 ((q.floors &&& MK : Nat) : Int))) 71 (0, 0)) wx from hx.2.2.2)
            have z2 := (y.cell (k * 11 + 9)).trans ((Array.getElem?_setIfInBounds_ne (by omega)).trans r9)
            clear y
            have HX := Lib.hid hx
            clear hx hwn hp
            go_simp
            go_at_K
            exact hK _ HX.out
          · have y := (show Lit W2.heap.size W2 W2.heap.size (.cells (((ROW).setIfInBounds (k * 11) (.int .u32 ((q.floors &&& MK : Nat) : Int))).setIfInBounds (k * 11 + 9) (.int .u32 ((q.calls &&& MK : Nat) : Int))) 71 (0, 0)) wx from hx.2.2.2)
            clear y
            have HX := Lib.hid hx
            clear hx hwn hp
            go_simp
            go_at_K
            exact hK _ HX.out
      · exact ⟨_, rfl⟩
      apply Chain.walk_quiet (by rfl) (by decide)
      · intro ph wx hp hwn hx K hK
        rcases (show ph = 0 ∨ ph = 1 ∨ ph = 2 from by have h : ph ≤ 2 := hp; omega) with rfl | rfl | rfl
        · have y := (show Lit W2.heap.size W2 W2.heap.size (.cells ROW 71 (0, 0)) wx from hx.2.2.2)
          have z1 := (y.cell (k * 11)).trans r0
          have z2 := (y.cell (k * 11 + 9)).trans r9
          clear y
          have HX := Lib.hid hx
          clear hx hwn hp
          go_simp
          go_at_K
          exact hK _ HX.out
        · have y := (show Lit W2.heap.size W2 W2.heap.size (.cells ((ROW).setIfInBounds (k * 11) (.int .u32 ((q.floors &&& MK : Nat) : Int))) 71 (0, 0)) wx from hx.2.2.2)
          have z2 := (y.cell (k * 11 + 9)).trans ((Array.getElem?_setIfInBounds_ne (by omega)).trans r9)
          clear y
          have HX := Lib.hid hx
          clear hx hwn hp
          go_simp
          go_at_K
          exact hK _ HX.out
        · exact absurd ((Eq.symm (show _ = false by kernel_rfl)).trans hwn) Bool.false_ne_true
      iterate 5
        · exact ⟨_, rfl⟩
        apply Chain.walk_quiet (by rfl) (by decide)
        · intro ph wx hp hwn hx K hK
          rcases (show ph = 0 ∨ ph = 1 ∨ ph = 2 from by have h : ph ≤ 2 := hp; omega) with rfl | rfl | rfl
          · have y := (show Lit W2.heap.size W2 W2.heap.size (.cells ROW 71 (0, 0)) wx from hx.2.2.2)
            have z1 := (y.cell (k * 11)).trans r0
            have z2 := (y.cell (k * 11 + 9)).trans r9
            clear y
            have HX := Lib.hid hx
            clear hx hwn hp
            go_simp
            go_at_K
            exact hK _ HX.out
          · have y := (show Lit W2.heap.size W2 W2.heap.size (.cells ((ROW).setIfInBounds (k * 11) (.int .u32 ((q.floors &&& MK : Nat) : Int))) 71 (0, 0)) wx from hx.2.2.2)
            have z2 := (y.cell (k * 11 + 9)).trans ((Array.getElem?_setIfInBounds_ne (by omega)).trans r9)
            clear y
            have HX := Lib.hid hx
            clear hx hwn hp
            go_simp
            go_at_K
            exact hK _ HX.out
          · have y := (show Lit W2.heap.size W2 W2.heap.size (.cells (((ROW).setIfInBounds (k * 11) (.int .u32 ((q.floors &&& MK : Nat) : Int))).setIfInBounds (k * 11 + 9) (.int .u32 ((q.calls &&& MK : Nat) : Int))) 71 (0, 0)) wx from hx.2.2.2)
            clear y
            have HX := Lib.hid hx
            clear hx hwn hp
            go_simp
            go_at_K
            exact hK _ HX.out
      · exact ⟨_, rfl⟩
      apply Chain.walk_turn 0 (by rfl) (by rfl)
      · intro wx hx K hK
        have y := (show Lit W2.heap.size W2 W2.heap.size (.cells ROW 71 (0, 0)) wx from hx.2.2.2)
        have z1 := (y.cell (k * 11)).trans r0
        have ff := y.free (k * 11)
        have g : Hid (Lit w.heap.size w w.heap.size (.cells #[.int .i64 (F : Int), .int .i64 d, .int .i64 r, .int .i64 p, .float .f64 e1, .float .f64 e2, .float .f64 e3, .slice A C cap] 25 (0, 0)) (wx.setCell ⟨W2.heap.size, k * 11, none⟩ (.int .u32 ((q.floors &&& MK : Nat) : Int))) ∧ Lit (w.heap.size + 1) (w.alloc (.cells #[.int .i64 (F : Int), .int .i64 d, .int .i64 r, .int .i64 p, .float .f64 e1, .float .f64 e2, .float .f64 e3, .slice A C cap] 25)) (w.heap.size + 1) (.cells #[.int .u32 (a2 : Int), .int .u32 (b2 : Int), .int .i64 (fk : Int), .int .i64 0, .slice A' ys.length cp] 33 (0, 0)) (wx.setCell ⟨W2.heap.size, k * 11, none⟩ (.int .u32 ((q.floors &&& MK : Nat) : Int))) ∧ Lit 0 w (w.heap.size + 2) (.cells #[.int .u32 0, .int .u32 0, .int .i64 0, .int .i64 0, .slice none 0 0] 33 (0, 0)) (wx.setCell ⟨W2.heap.size, k * 11, none⟩ (.int .u32 ((q.floors &&& MK : Nat) : Int))) ∧ Lit W2.heap.size W2 W2.heap.size (.cells ((ROW).setIfInBounds (k * 11) (.int .u32 ((q.floors &&& MK : Nat) : Int))) 71 (0, 0)) (wx.setCell ⟨W2.heap.size, k * 11, none⟩ (.int .u32 ((q.floors &&& MK : Nat) : Int)))) := Lib.hid ⟨hx.1.putOther (by omega) (by omega) _ _, hx.2.1.putOther (by omega) (by omega) _ _, hx.2.2.1.putOther (Nat.zero_le _) (by omega) _ _, y.put (Nat.le_refl _) _ _⟩
        have HK2 := Lib.hid hK
        clear hx y hK
        go_simp
        exact HK2.out _ g.out
      · exact ⟨undef, rfl⟩
      iterate 2
        apply Chain.walk_quiet (by rfl) (by decide)
        · intro ph wx hp hwn hx K hK
          rcases (show ph = 0 ∨ ph = 1 ∨ ph = 2 from by have h : ph ≤ 2 := hp; omega) with rfl | rfl | rfl
          · have y := (show Lit W2.heap.size W2 W2.heap.size (.cells ROW 71 (0, 0)) wx from hx.2.2.2)
            have z1 := (y.cell (k * 11)).trans r0
            have z2 := (y.cell (k * 11 + 9)).trans r9
            clear y
            have HX := Lib.hid hx
            clear hx hwn hp
            go_simp
            go_at_K
            exact hK _ HX.out
          · have y := (show Lit W2.heap.size W2 W2.heap.size (.cells ((ROW).setIfInBounds (k * 11) (.int .u32 ((q.floors &&& MK : Nat) : Int))) 71 (0, 0)) wx from hx.2.2.2)
            have z2 := (y.cell (k * 11 + 9)).trans ((Array.getElem?_setIfInBounds_ne (by omega)).trans r9)
            clear y
            have HX := Lib.hid hx
            clear hx hwn hp
            go_simp
            go_at_K
            exact hK _ HX.out
          · have y := (show Lit W2.heap.size W2 W2.heap.size (.cells (((ROW).setIfInBounds (k * 11) (.int .u32 ((q.floors &&& MK : Nat) : Int))).setIfInBounds (k * 11 + 9) (.int .u32 ((q.calls &&& MK : Nat) : Int))) 71 (0, 0)) wx from hx.2.2.2)
            clear y
            have HX := Lib.hid hx
            clear hx hwn hp
            go_simp
            go_at_K
            exact hK _ HX.out
        · exact ⟨_, rfl⟩
      apply Chain.walk_turn 1 (by rfl) (by rfl)
      · intro wx hx K hK
        have y := (show Lit W2.heap.size W2 W2.heap.size (.cells ((ROW).setIfInBounds (k * 11) (.int .u32 ((q.floors &&& MK : Nat) : Int))) 71 (0, 0)) wx from hx.2.2.2)
        have z1 := (y.cell (k * 11 + 9)).trans ((Array.getElem?_setIfInBounds_ne (by omega)).trans r9)
        have ff := y.free (k * 11 + 9)
        have g : Hid (Lit w.heap.size w w.heap.size (.cells #[.int .i64 (F : Int), .int .i64 d, .int .i64 r, .int .i64 p, .float .f64 e1, .float .f64 e2, .float .f64 e3, .slice A C cap] 25 (0, 0)) (wx.setCell ⟨W2.heap.size, k * 11 + 9, none⟩ (.int .u32 ((q.calls &&& MK : Nat) : Int))) ∧ Lit (w.heap.size + 1) (w.alloc (.cells #[.int .i64 (F : Int), .int .i64 d, .int .i64 r, .int .i64 p, .float .f64 e1, .float .f64 e2, .float .f64 e3, .slice A C cap] 25)) (w.heap.size + 1) (.cells #[.int .u32 (a2 : Int), .int .u32 (b2 : Int), .int .i64 (fk : Int), .int .i64 0, .slice A' ys.length cp] 33 (0, 0)) (wx.setCell ⟨W2.heap.size, k * 11 + 9, none⟩ (.int .u32 ((q.calls &&& MK : Nat) : Int))) ∧ Lit 0 w (w.heap.size + 2) (.cells #[.int .u32 0, .int .u32 0, .int .i64 0, .int .i64 0, .slice none 0 0] 33 (0, 0)) (wx.setCell ⟨W2.heap.size, k * 11 + 9, none⟩ (.int .u32 ((q.calls &&& MK : Nat) : Int))) ∧ Lit W2.heap.size W2 W2.heap.size (.cells (((ROW).setIfInBounds (k * 11) (.int .u32 ((q.floors &&& MK : Nat) : Int))).setIfInBounds (k * 11 + 9) (.int .u32 ((q.calls &&& MK : Nat) : Int))) 71 (0, 0)) (wx.setCell ⟨W2.heap.size, k * 11 + 9, none⟩ (.int .u32 ((q.calls &&& MK : Nat) : Int)))) := Lib.hid ⟨hx.1.putOther (by omega) (by omega) _ _, hx.2.1.putOther (by omega) (by omega) _ _, hx.2.2.1.putOther (Nat.zero_le _) (by omega) _ _, y.put (Nat.le_refl _) _ _⟩
        have HK2 := Lib.hid hK
        clear hx y hK
        go_simp
        exact HK2.out _ g.out
      · exact ⟨undef, rfl⟩
      refine Chain.walk_nil (fun W4 hx => ?_)
      have K4 := (show Lit W2.heap.size W2 W2.heap.size (.cells (((ROW).setIfInBounds (k * 11) (.int .u32 ((q.floors &&& MK : Nat) : Int))).setIfInBounds (k * 11 + 9) (.int .u32 ((q.calls &&& MK : Nat) : Int))) 71 (0, 0)) W4 from hx.2.2.2)
      have HK := Lib.hid (And.intro hx.1 (And.intro hx.2.1 (And.intro hx.2.2.1 K4)))
      clear hx K4
      have r5b : ((((ROW).setIfInBounds (k * 11) (.int .u32 ((q.floors &&& MK : Nat) : Int))).setIfInBounds (k * 11 + 9) (.int .u32 ((q.calls &&& MK : Nat) : Int))))[k * 11 + 5]? = some (.int .i64 q.floor) := (Array.getElem?_setIfInBounds_ne (by omega)).trans ((Array.getElem?_setIfInBounds_ne (by omega)).trans r5)
      have r7b : ((((ROW).setIfInBounds (k * 11) (.int .u32 ((q.floors &&& MK : Nat) : Int))).setIfInBounds (k * 11 + 9) (.int .u32 ((q.calls &&& MK : Nat) : Int))))[k * 11 + 7]? = some (.int .i64 q.door) := (Array.getElem?_setIfInBounds_ne (by omega)).trans ((Array.getElem?_setIfInBounds_ne (by omega)).trans r7)
      have hqf := m64_wrap q.floor
      have hqd := m64_wrap q.door
      have hFIT : Hid (fitC F q = { q with floors := q.floors &&& MK, floor := ((m64 q.floor % F : Nat) : Int), door := ((m64 q.door % 3 : Nat) : Int), calls := q.calls &&& MK }) := Lib.hid (by rw [← HMK.out]; rfl)
      have hF00 : ¬ F = 0 := by omega
      have hq1 : ((m64 q.floor : Nat) : Int).tmod (F : Int) = ((m64 q.floor % F : Nat) : Int) := by rw [Int.tmod_eq_emod_of_nonneg (by omega)]; omega
      have hq2 : ((m64 q.floor : Nat) : Int) % (F : Int) = ((m64 q.floor % F : Nat) : Int) := by omega
      have hq3 : ((m64 q.door : Nat) : Int).tmod 3 = ((m64 q.door % 3 : Nat) : Int) := by rw [Int.tmod_eq_emod_of_nonneg (by omega)]; omega
      have hq4 : ((m64 q.door : Nat) : Int) % 3 = ((m64 q.door % 3 : Nat) : Int) := by omega
      have hq5 : m64 q.floor % F < F := Nat.mod_lt _ (by omega)
      have hq6 : m64 q.door % 3 < 3 := Nat.mod_lt _ (by omega)
      generalize hufe : m64 q.floor % F = uf at *
      generalize hude : m64 q.door % 3 = ud at *
      generalize m64 q.floor = mf at *
      generalize m64 q.door = md at *
      clear hufe hude
      have hq7 : IntKind.i64.wrap (uf : Int) = (uf : Int) := by rw [IntKind.wrap_i64]; omega
      have hq8 : IntKind.i64.wrap (ud : Int) = (ud : Int) := by rw [IntKind.wrap_i64]; omega
      generalize hR2 : (((ROW).setIfInBounds (k * 11) (.int .u32 ((q.floors &&& MK : Nat) : Int))).setIfInBounds (k * 11 + 9) (.int .u32 ((q.calls &&& MK : Nat) : Int))) = ROW2 at *
      have HR2 := Lib.hid hR2
      clear hR2
      clear r0 r5 r7 r9
      go_wp2_with fail
      refine Chain.chain (fun ph wx => Lit w.heap.size w w.heap.size (.cells #[.int .i64 (F : Int), .int .i64 d, .int .i64 r, .int .i64 p, .float .f64 e1, .float .f64 e2, .float .f64 e3, .slice A C cap] 25 (0, 0)) wx ∧ Lit (w.heap.size + 1) (w.alloc (.cells #[.int .i64 (F : Int), .int .i64 d, .int .i64 r, .int .i64 p, .float .f64 e1, .float .f64 e2, .float .f64 e3, .slice A C cap] 25)) (w.heap.size + 1) (.cells #[.int .u32 (a2 : Int), .int .u32 (b2 : Int), .int .i64 (fk : Int), .int .i64 0, .slice A' ys.length cp] 33 (0, 0)) wx ∧ Lit 0 w (w.heap.size + 2) (.cells #[.int .u32 0, .int .u32 0, .int .i64 0, .int .i64 0, .slice none 0 0] 33 (0, 0)) wx ∧ Lit W2.heap.size W2 W2.heap.size (.cells (([ROW2, ((ROW2).setIfInBounds (k * 11 + 5) (.int .i64 (uf : Int))), (((ROW2).setIfInBounds (k * 11 + 5) (.int .i64 (uf : Int))).setIfInBounds (k * 11 + 7) (.int .i64 (ud : Int)))] : List (Array Value)).getD ph #[]) 71 (0, 0)) wx) (fun _ _ => False) [24, 28] (by kernel_rfl) (by kernel_rfl) (fun _ _ _ _ h => h.elim) (by exact ⟨HK.out.1.next (Below.refl _ _).drew, HK.out.2.1.next (Below.refl _ _).drew, HK.out.2.2.1.next (Below.refl _ _).drew, HK.out.2.2.2.next (Below.refl _ _).drew⟩) ?_
      clear HK
      iterate 6
        apply Chain.walk_quiet (by rfl) (by decide)
        · intro ph wx hp hwn hx K hK
          rcases (show ph = 0 ∨ ph = 1 ∨ ph = 2 from by have h : ph ≤ 2 := hp; omega) with rfl | rfl | rfl
          · have y := (show Lit W2.heap.size W2 W2.heap.size (.cells ROW2 71 (0, 0)) wx from hx.2.2.2)
            have z1 := (y.cell (k * 11 + 5)).trans r5b
            have z2 := (y.cell (k * 11 + 7)).trans r7b
            have bb0 := hx.1.cell 0
            simp only [List.getElem?_toArray, List.getElem?_cons_zero, List.getElem?_cons_succ] at bb0
            clear y
            have HX := Lib.hid hx
            clear hx hwn hp
            go_simp
            go_at_K
            exact hK _ HX.out
          · have y := (show Lit W2.heap.size W2 W2.heap.size (.cells ((ROW2).setIfInBounds (k * 11 + 5) (.int .i64 (uf : Int))) 71 (0, 0)) wx from hx.2.2.2)
            have z2 := (y.cell (k * 11 + 7)).trans ((Array.getElem?_setIfInBounds_ne (by omega)).trans r7b)
            have bb0 := hx.1.cell 0
            simp only [List.getElem?_toArray, List.getElem?_cons_zero, List.getElem?_cons_succ] at bb0
            clear y
            have HX := Lib.hid hx
            clear hx hwn hp
            go_simp
            go_at_K
            exact hK _ HX.out
          · have y := (show Lit W2.heap.size W2 W2.heap.size (.cells (((ROW2).setIfInBounds (k * 11 + 5) (.int .i64 (uf : Int))).setIfInBounds (k * 11 + 7) (.int .i64 (ud : Int))) 71 (0, 0)) wx from hx.2.2.2)
            have bb0 := hx.1.cell 0
            simp only [List.getElem?_toArray, List.getElem?_cons_zero, List.getElem?_cons_succ] at bb0
            clear y
            have HX := Lib.hid hx
            clear hx hwn hp
            go_simp
            go_at_K
            exact hK _ HX.out
        · exact ⟨_, rfl⟩
      apply Chain.walk_quiet (by rfl) (by decide)
      · intro ph wx hp hwn hx K hK
        rcases (show ph = 0 ∨ ph = 1 ∨ ph = 2 from by have h : ph ≤ 2 := hp; omega) with rfl | rfl | rfl
        · have y := (show Lit W2.heap.size W2 W2.heap.size (.cells ROW2 71 (0, 0)) wx from hx.2.2.2)
          have z1 := (y.cell (k * 11 + 5)).trans r5b
          have z2 := (y.cell (k * 11 + 7)).trans r7b
          have bb0 := hx.1.cell 0
          simp only [List.getElem?_toArray, List.getElem?_cons_zero, List.getElem?_cons_succ] at bb0
          clear y
          have HX := Lib.hid hx
          clear hx hwn hp
          go_simp
          go_at_K
          exact hK _ HX.out
        · exact absurd ((Eq.symm (show _ = false by kernel_rfl)).trans hwn) Bool.false_ne_true
        · exact absurd ((Eq.symm (show _ = false by kernel_rfl)).trans hwn) Bool.false_ne_true
      iterate 10
        · exact ⟨_, rfl⟩
        apply Chain.walk_quiet (by rfl) (by decide)
        · intro ph wx hp hwn hx K hK
          rcases (show ph = 0 ∨ ph = 1 ∨ ph = 2 from by have h : ph ≤ 2 := hp; omega) with rfl | rfl | rfl
          · have y := (show Lit W2.heap.size W2 W2.heap.size (.cells ROW2 71 (0, 0)) wx from hx.2.2.2)
            have z1 := (y.cell (k * 11 + 5)).trans r5b
            have z2 := (y.cell (k * 11 + 7)).trans r7b
            have bb0 := hx.1.cell 0
            simp only [List.getElem?_toArray, List.getElem?_cons_zero, List.getElem?_cons_succ] at bb0
            clear y
            have HX := Lib.hid hx
            clear hx hwn hp
            go_simp
            go_at_K
            exact hK _ HX.out
          · have y := (show Lit W2.heap.size W2 W2.heap.size (.cells ((ROW2).setIfInBounds (k * 11 + 5) (.int .i64 (uf : Int))) 71 (0, 0)) wx from hx.2.2.2)
            have z2 := (y.cell (k * 11 + 7)).trans ((Array.getElem?_setIfInBounds_ne (by omega)).trans r7b)
            have bb0 := hx.1.cell 0
            simp only [List.getElem?_toArray, List.getElem?_cons_zero, List.getElem?_cons_succ] at bb0
            clear y
            have HX := Lib.hid hx
            clear hx hwn hp
            go_simp
            go_at_K
            exact hK _ HX.out
          · have y := (show Lit W2.heap.size W2 W2.heap.size (.cells (((ROW2).setIfInBounds (k * 11 + 5) (.int .i64 (uf : Int))).setIfInBounds (k * 11 + 7) (.int .i64 (ud : Int))) 71 (0, 0)) wx from hx.2.2.2)
            have bb0 := hx.1.cell 0
            simp only [List.getElem?_toArray, List.getElem?_cons_zero, List.getElem?_cons_succ] at bb0
            clear y
            have HX := Lib.hid hx
            clear hx hwn hp
            go_simp
            go_at_K
            exact hK _ HX.out
      · exact ⟨_, rfl⟩
      apply Chain.walk_quiet (by rfl) (by decide)
      · intro ph wx hp hwn hx K hK
        rcases (show ph = 0 ∨ ph = 1 ∨ ph = 2 from by have h : ph ≤ 2 := hp; omega) with rfl | rfl | rfl
        · have y := (show Lit W2.heap.size W2 W2.heap.size (.cells ROW2 71 (0, 0)) wx from hx.2.2.2)
          have z1 := (y.cell (k * 11 + 5)).trans r5b
          have z2 := (y.cell (k * 11 + 7)).trans r7b
          have bb0 := hx.1.cell 0
          simp only [List.getElem?_toArray, List.getElem?_cons_zero, List.getElem?_cons_succ] at bb0
          clear y
          have HX := Lib.hid hx
          clear hx hwn hp
          go_simp
          go_at_K
          exact hK _ HX.out
        · have y := (show Lit W2.heap.size W2 W2.heap.size (.cells ((ROW2).setIfInBounds (k * 11 + 5) (.int .i64 (uf : Int))) 71 (0, 0)) wx from hx.2.2.2)
          have z2 := (y.cell (k * 11 + 7)).trans ((Array.getElem?_setIfInBounds_ne (by omega)).trans r7b)
          have bb0 := hx.1.cell 0
          simp only [List.getElem?_toArray, List.getElem?_cons_zero, List.getElem?_cons_succ] at bb0
          clear y
          have HX := Lib.hid hx
          clear hx hwn hp
          go_simp
          go_at_K
          exact hK _ HX.out
        · exact absurd ((Eq.symm (show _ = false by kernel_rfl)).trans hwn) Bool.false_ne_true
      iterate 6
        · exact ⟨_, rfl⟩
        apply Chain.walk_quiet (by rfl) (by decide)
        · intro ph wx hp hwn hx K hK
          rcases (show ph = 0 ∨ ph = 1 ∨ ph = 2 from by have h : ph ≤ 2 := hp; omega) with rfl | rfl | rfl
          · have y := (show Lit W2.heap.size W2 W2.heap.size (.cells ROW2 71 (0, 0)) wx from hx.2.2.2)
            have z1 := (y.cell (k * 11 + 5)).trans r5b
            have z2 := (y.cell (k * 11 + 7)).trans r7b
            have bb0 := hx.1.cell 0
            simp only [List.getElem?_toArray, List.getElem?_cons_zero, List.getElem?_cons_succ] at bb0
            clear y
            have HX := Lib.hid hx
            clear hx hwn hp
            go_simp
            go_at_K
            exact hK _ HX.out
          · have y := (show Lit W2.heap.size W2 W2.heap.size (.cells ((ROW2).setIfInBounds (k * 11 + 5) (.int .i64 (uf : Int))) 71 (0, 0)) wx from hx.2.2.2)
            have z2 := (y.cell (k * 11 + 7)).trans ((Array.getElem?_setIfInBounds_ne (by omega)).trans r7b)
            have bb0 := hx.1.cell 0
            simp only [List.getElem?_toArray, List.getElem?_cons_zero, List.getElem?_cons_succ] at bb0
            clear y
            have HX := Lib.hid hx
            clear hx hwn hp
            go_simp
            go_at_K
            exact hK _ HX.out
          · have y := (show Lit W2.heap.size W2 W2.heap.size (.cells (((ROW2).setIfInBounds (k * 11 + 5) (.int .i64 (uf : Int))).setIfInBounds (k * 11 + 7) (.int .i64 (ud : Int))) 71 (0, 0)) wx from hx.2.2.2)
            have bb0 := hx.1.cell 0
            simp only [List.getElem?_toArray, List.getElem?_cons_zero, List.getElem?_cons_succ] at bb0
            clear y
            have HX := Lib.hid hx
            clear hx hwn hp
            go_simp
            go_at_K
            exact hK _ HX.out
      · exact ⟨_, rfl⟩
      apply Chain.walk_turn 0 (by rfl) (by rfl)
      · intro wx hx K hK
        have y := (show Lit W2.heap.size W2 W2.heap.size (.cells ROW2 71 (0, 0)) wx from hx.2.2.2)
        have z1 := (y.cell (k * 11 + 5)).trans r5b
        have ff := y.free (k * 11 + 5)
        have g : Hid (Lit w.heap.size w w.heap.size (.cells #[.int .i64 (F : Int), .int .i64 d, .int .i64 r, .int .i64 p, .float .f64 e1, .float .f64 e2, .float .f64 e3, .slice A C cap] 25 (0, 0)) (wx.setCell ⟨W2.heap.size, k * 11 + 5, none⟩ (.int .i64 (uf : Int))) ∧ Lit (w.heap.size + 1) (w.alloc (.cells #[.int .i64 (F : Int), .int .i64 d, .int .i64 r, .int .i64 p, .float .f64 e1, .float .f64 e2, .float .f64 e3, .slice A C cap] 25)) (w.heap.size + 1) (.cells #[.int .u32 (a2 : Int), .int .u32 (b2 : Int), .int .i64 (fk : Int), .int .i64 0, .slice A' ys.length cp] 33 (0, 0)) (wx.setCell ⟨W2.heap.size, k * 11 + 5, none⟩ (.int .i64 (uf : Int))) ∧ Lit 0 w (w.heap.size + 2) (.cells #[.int .u32 0, .int .u32 0, .int .i64 0, .int .i64 0, .slice none 0 0] 33 (0, 0)) (wx.setCell ⟨W2.heap.size, k * 11 + 5, none⟩ (.int .i64 (uf : Int))) ∧ Lit W2.heap.size W2 W2.heap.size (.cells ((ROW2).setIfInBounds (k * 11 + 5) (.int .i64 (uf : Int))) 71 (0, 0)) (wx.setCell ⟨W2.heap.size, k * 11 + 5, none⟩ (.int .i64 (uf : Int)))) := Lib.hid ⟨hx.1.putOther (by omega) (by omega) _ _, hx.2.1.putOther (by omega) (by omega) _ _, hx.2.2.1.putOther (Nat.zero_le _) (by omega) _ _, y.put (Nat.le_refl _) _ _⟩
        have HK2 := Lib.hid hK
        clear hx y hK
        go_simp
        exact HK2.out _ g.out
      · exact ⟨undef, rfl⟩
      iterate 3
        apply Chain.walk_quiet (by rfl) (by decide)
        · intro ph wx hp hwn hx K hK
          rcases (show ph = 0 ∨ ph = 1 ∨ ph = 2 from by have h : ph ≤ 2 := hp; omega) with rfl | rfl | rfl
          · have y := (show Lit W2.heap.size W2 W2.heap.size (.cells ROW2 71 (0, 0)) wx from hx.2.2.2)
            have z1 := (y.cell (k * 11 + 5)).trans r5b
            have z2 := (y.cell (k * 11 + 7)).trans r7b
            have bb0 := hx.1.cell 0
            simp only [List.getElem?_toArray, List.getElem?_cons_zero, List.getElem?_cons_succ] at bb0
            clear y
            have HX := Lib.hid hx
            clear hx hwn hp
            go_simp
            go_at_K
            exact hK _ HX.out
          · have y := (show Lit W2.heap.size W2 W2.heap.size (.cells ((ROW2).setIfInBounds (k * 11 + 5) (.int .i64 (uf : Int))) 71 (0, 0)) wx from hx.2.2.2)
            have z2 := (y.cell (k * 11 + 7)).trans ((Array.getElem?_setIfInBounds_ne (by omega)).trans r7b)
            have bb0 := hx.1.cell 0
            simp only [List.getElem?_toArray, List.getElem?_cons_zero, List.getElem?_cons_succ] at bb0
            clear y
            have HX := Lib.hid hx
            clear hx hwn hp
            go_simp
            go_at_K
            exact hK _ HX.out
          · have y := (show Lit W2.heap.size W2 W2.heap.size (.cells (((ROW2).setIfInBounds (k * 11 + 5) (.int .i64 (uf : Int))).setIfInBounds (k * 11 + 7) (.int .i64 (ud : Int))) 71 (0, 0)) wx from hx.2.2.2)
            have bb0 := hx.1.cell 0
            simp only [List.getElem?_toArray, List.getElem?_cons_zero, List.getElem?_cons_succ] at bb0
            clear y
            have HX := Lib.hid hx
            clear hx hwn hp
            go_simp
            go_at_K
            exact hK _ HX.out
        · exact ⟨_, rfl⟩
      apply Chain.walk_turn 1 (by rfl) (by rfl)
      · intro wx hx K hK
        have y := (show Lit W2.heap.size W2 W2.heap.size (.cells ((ROW2).setIfInBounds (k * 11 + 5) (.int .i64 (uf : Int))) 71 (0, 0)) wx from hx.2.2.2)
        have z1 := (y.cell (k * 11 + 7)).trans ((Array.getElem?_setIfInBounds_ne (by omega)).trans r7b)
        have ff := y.free (k * 11 + 7)
        have g : Hid (Lit w.heap.size w w.heap.size (.cells #[.int .i64 (F : Int), .int .i64 d, .int .i64 r, .int .i64 p, .float .f64 e1, .float .f64 e2, .float .f64 e3, .slice A C cap] 25 (0, 0)) (wx.setCell ⟨W2.heap.size, k * 11 + 7, none⟩ (.int .i64 (ud : Int))) ∧ Lit (w.heap.size + 1) (w.alloc (.cells #[.int .i64 (F : Int), .int .i64 d, .int .i64 r, .int .i64 p, .float .f64 e1, .float .f64 e2, .float .f64 e3, .slice A C cap] 25)) (w.heap.size + 1) (.cells #[.int .u32 (a2 : Int), .int .u32 (b2 : Int), .int .i64 (fk : Int), .int .i64 0, .slice A' ys.length cp] 33 (0, 0)) (wx.setCell ⟨W2.heap.size, k * 11 + 7, none⟩ (.int .i64 (ud : Int))) ∧ Lit 0 w (w.heap.size + 2) (.cells #[.int .u32 0, .int .u32 0, .int .i64 0, .int .i64 0, .slice none 0 0] 33 (0, 0)) (wx.setCell ⟨W2.heap.size, k * 11 + 7, none⟩ (.int .i64 (ud : Int))) ∧ Lit W2.heap.size W2 W2.heap.size (.cells (((ROW2).setIfInBounds (k * 11 + 5) (.int .i64 (uf : Int))).setIfInBounds (k * 11 + 7) (.int .i64 (ud : Int))) 71 (0, 0)) (wx.setCell ⟨W2.heap.size, k * 11 + 7, none⟩ (.int .i64 (ud : Int)))) := Lib.hid ⟨hx.1.putOther (by omega) (by omega) _ _, hx.2.1.putOther (by omega) (by omega) _ _, hx.2.2.1.putOther (Nat.zero_le _) (by omega) _ _, y.put (Nat.le_refl _) _ _⟩
        have HK2 := Lib.hid hK
        clear hx y hK
        go_simp
        exact HK2.out _ g.out
      · exact ⟨undef, rfl⟩
      refine Chain.walk_nil (fun W4 hx => ?_)
      have K4 := (show Lit W2.heap.size W2 W2.heap.size (.cells (((ROW2).setIfInBounds (k * 11 + 5) (.int .i64 (uf : Int))).setIfInBounds (k * 11 + 7) (.int .i64 (ud : Int))) 71 (0, 0)) W4 from hx.2.2.2)
      have HK := Lib.hid (And.intro hx.1 (And.intro hx.2.1 (And.intro hx.2.2.1 K4)))
      clear hx K4
      go_wp2_with fail
      go_roundw
      case rel =>
        have e := HSET.out (q.floors &&& MK) (q.calls &&& MK) (uf : Int) (ud : Int)
        rw [HR2.out, ← hFIT.out, HSUC.out] at e
        refine ⟨k + 1, by omega, by go_num, HK.out.1, HK.out.2.1, HK.out.2.2.1, ?_⟩
        rw [← e]
        exact HK.out.2.2.2
      case measure => simp [intOf]; omega
  case neg =>
    have hfkb : ((fk : Int) == 0) = false := beq_eq_false_iff_ne.2 (by omega)
    have hfc : fc = ca := by rw [hFC.out, if_neg hfk0]
    have HFC0 := Lib.hid hfc
    clear hfc hfk0
    go_wp2_with (with_reducible show wpList _ _ _ (Oper.mk _ (.makeSlice _ _ _) _ _ _ _ :: _) _ _; refine Hid.out ?_)
    have HK2 := HK
    clear HK ff3 bb0 bb1 bb2 bb3 bb4 bb5 bb6 bb7 xx0 xx1 xx2 xx3 xx4
    obtain ⟨W2, hW2⟩ : ∃ W2, W2 = W1 := ⟨_, rfl⟩
    subst hW2
    obtain ⟨W3, k3, hcp, hrow, hb3, hz3⟩ := copy_cars W2 A' cp ys (HV.out.below HK2.out.1.below) C
    have hmk2 := make_carins C (by omega) W2
    have HK3 := Lib.hid (And.intro (HK2.out.1.next hb3) (And.intro (HK2.out.2.1.next hb3) (And.intro (HK2.out.2.2.next hb3) (show Lit W2.heap.size W2 W2.heap.size (.cells (flatIn (padCars C ys)).toArray 71 (0, 0)) W3 from ⟨hb3, by omega, hrow⟩))))
    have bb0 := HK2.out.1.cell 0
    have bb1 := HK2.out.1.cell 1
    have bb2 := HK2.out.1.cell 2
    have bb3 := HK2.out.1.cell 3
    have bb4 := HK2.out.1.cell 4
    have bb5 := HK2.out.1.cell 5
    have bb6 := HK2.out.1.cell 6
    have bb7 := HK2.out.1.cell 7
    have xx0 := HK2.out.2.1.cell 0
    have xx1 := HK2.out.2.1.cell 1
    have xx2 := HK2.out.2.1.cell 2
    have xx3 := HK2.out.2.1.cell 3
    have xx4 := HK2.out.2.1.cell 4
    simp only [List.getElem?_toArray, List.getElem?_cons_zero, List.getElem?_cons_succ] at bb0 bb1 bb2 bb3 bb4 bb5 bb6 bb7 xx0 xx1 xx2 xx3 xx4
    have hlt2 := HK2.out.2.2.lt
    have hlt1 : w.heap.size + 1 < W2.heap.size := by omega
    have hlt0 : w.heap.size < W2.heap.size := by omega
    clear hrow hb3 hz3
    refine Lib.hid ?_
    go_wp2_with fail
    go_loopw [7] (fun v wr => ∃ k : Nat, k ≤ C ∧ v = .int .i64 k ∧ Lit w.heap.size w w.heap.size (.cells #[.int .i64 (F : Int), .int .i64 d, .int .i64 r, .int .i64 p, .float .f64 e1, .float .f64 e2, .float .f64 e3, .slice A C cap] 25 (0, 0)) wr ∧ Lit (w.heap.size + 1) (w.alloc (.cells #[.int .i64 (F : Int), .int .i64 d, .int .i64 r, .int .i64 p, .float .f64 e1, .float .f64 e2, .float .f64 e3, .slice A C cap] 25)) (w.heap.size + 1) (.cells #[.int .u32 (a2 : Int), .int .u32 (b2 : Int), .int .i64 (fk : Int), .int .i64 (ca : Int), .slice A' ys.length cp] 33 (0, 0)) wr ∧ Lit 0 w (w.heap.size + 2) (.cells #[.int .u32 0, .int .u32 0, .int .i64 0, .int .i64 0, .slice none 0 0] 33 (0, 0)) wr ∧ Lit W2.heap.size W2 W2.heap.size (.cells (flatIn (fitTo F k (padCars C ys))).toArray 71 (0, 0)) wr) (fun v _ => C - (intOf v).toNat)
    case atStart => exact ⟨0, Nat.zero_le _, rfl, HK3.out⟩
    case round =>
      clear HK3 hcp hmk2 hlt0 hlt1 bb0 bb1 bb2 bb3 bb4 bb5 bb6 bb7 xx0 xx1 xx2 xx3 xx4
      obtain ⟨k, hk, rfl, K1, K2, K3, K4⟩ := hrel
      have hlen : (fitTo F k (padCars C ys)).length = C := by rw [fitTo_length, padCars_length]
      have bb0 := K1.cell 0
      have bb1 := K1.cell 1
      have bb2 := K1.cell 2
      have bb3 := K1.cell 3
      have bb4 := K1.cell 4
      have bb5 := K1.cell 5
      have bb6 := K1.cell 6
      have bb7 := K1.cell 7
      have xx0 := K2.cell 0
      have xx1 := K2.cell 1
      have xx2 := K2.cell 2
      have xx3 := K2.cell 3
      have xx4 := K2.cell 4
      simp only [List.getElem?_toArray, List.getElem?_cons_zero, List.getElem?_cons_succ] at bb0 bb1 bb2 bb3 bb4 bb5 bb6 bb7 xx0 xx1 xx2 xx3 xx4
      have HK := Lib.hid (And.intro K1 (And.intro K2 (And.intro K3 K4)))
      have hM := K4.lt
      clear K1 K2 K3 K4
      by_cases hlt : k < C
      case neg =>
        have hkC : k = C := by omega
        have e : fitTo F k (padCars C ys) = fitCars F C ys := by rw [hkC, fitCars_pad, ← fitTo_all, padCars_length]
        rw [e] at HK
        have hdd : decide ((k : Int) < (C : Int)) = false := decide_eq_false (by omega)
        have ff4 := HK.out.2.1.free 4
        have rr0 := HK.out.2.2.1.cell 0
        have rr1 := HK.out.2.2.1.cell 1
        have rr2 := HK.out.2.2.1.cell 2
        have rr3 := HK.out.2.2.1.cell 3
        have rr4 := HK.out.2.2.1.cell 4
        simp only [List.getElem?_toArray, List.getElem?_cons_zero, List.getElem?_cons_succ] at rr0 rr1 rr2 rr3 rr4
        have rf0 := HK.out.2.2.1.free 0
        have rf1 := HK.out.2.2.1.free 1
        have rf2 := HK.out.2.2.1.free 2
        have rf3 := HK.out.2.2.1.free 3
        have rf4 := HK.out.2.2.1.free 4
        clear e
        have hw2 : w.heap.size + 2 < wr.heap.size := HK.out.2.2.1.lt
        have hw1 : w.heap.size + 1 < wr.heap.size := by omega
        have hw0 : w.heap.size < wr.heap.size := by omega
        go_wp2_with fail
        have E3 := (HK.out.2.2.1.putOther (b' := w.heap.size + 1) (Nat.zero_le _) (by omega) 4 (.slice (some ⟨W2.heap.size, 0, none⟩) C C)).put5 (Nat.zero_le _) rfl (.int .u32 (a2 : Int)) (.int .u32 (b2 : Int)) (.int .i64 (fk : Int)) (.int .i64 ((ca : Int))) (.slice (some ⟨W2.heap.size, 0, none⟩) C C)
        have E1 := other5 (HK.out.1.putOther (b' := w.heap.size + 1) (by omega) (by omega) 4 (.slice (some ⟨W2.heap.size, 0, none⟩) C C)) (b' := w.heap.size + 2) (by omega) (by omega) (.int .u32 (a2 : Int)) (.int .u32 (b2 : Int)) (.int .i64 (fk : Int)) (.int .i64 ((ca : Int))) (.slice (some ⟨W2.heap.size, 0, none⟩) C C)
        have E4 := other5 ((Lit.zero HK.out.2.2.2).putOther (b' := w.heap.size + 1) (Nat.zero_le _) (by omega) 4 (.slice (some ⟨W2.heap.size, 0, none⟩) C C)) (b' := w.heap.size + 2) (Nat.zero_le _) (by omega) (.int .u32 (a2 : Int)) (.int .u32 (b2 : Int)) (.int .i64 (fk : Int)) (.int .i64 ((ca : Int))) (.slice (some ⟨W2.heap.size, 0, none⟩) C C)
        have hlC : (fitCars F C ys).length = C := by rw [fitCars_pad, List.length_map, padCars_length]
        exact bodyPost_ret (results_cell_row Try.results10 _ _ _ _ _ (0, 0) _ rfl (E3.row) Try.underlying33 rfl (by kernel_rfl)) rfl (⟨E1.below, some ⟨W2.heap.size, 0, none⟩, C, by rw [hlC]; rw [HFC0.out]; try rfl, carsV_of_row E4⟩)
      have hg := fitTo_get F k (padCars C ys) (by rw [padCars_length]; exact hlt)
      have hsucc := fitTo_succ F k (padCars C ys) (by rw [padCars_length]; exact hlt)
      have hset := fun a d b c => set_car (fitTo F k (padCars C ys)) k (by omega) a d b c
      rw [hg] at hset
      have hkp : k < (padCars C ys).length := by rw [padCars_length]; exact hlt
      have hsan : saneCar ((padCars C ys)[k]'hkp) := pad_sane HSC.out _ (List.getElem_mem _)
      generalize (padCars C ys)[k]'hkp = q at *
      have handf := u32_and_nat q.floors MK hsan.1 (hmL)
      have handc := u32_and_nat q.calls MK hsan.2.1 (hmL)
      have HSET := Lib.hid hset
      have HSUC := Lib.hid hsucc
      have HCELL : Hid (((flatIn (fitTo F k (padCars C ys))).toArray)[k * 11]? = some (.int .u32 (q.floors : Int)) ∧ ((flatIn (fitTo F k (padCars C ys))).toArray)[k * 11 + 5]? = some (.int .i64 q.floor) ∧ ((flatIn (fitTo F k (padCars C ys))).toArray)[k * 11 + 7]? = some (.int .i64 q.door) ∧ ((flatIn (fitTo F k (padCars C ys))).toArray)[k * 11 + 9]? = some (.int .u32 (q.calls : Int))) := Lib.hid (by
        have e := fun j hj => flatIn_at (fitTo F k (padCars C ys)) k (by omega) j hj
        simp only [hg] at e
        simp only [List.getElem?_toArray]
        exact ⟨e 0 (by decide), e 5 (by decide), e 7 (by decide), e 9 (by decide)⟩)
      clear hset hsucc hg hlen hsan
      have hdd : decide ((k : Int) < (C : Int)) = true := decide_eq_true (by omega)
      generalize hROW : (flatIn (fitTo F k (padCars C ys))).toArray = ROW at *
      go_wp2_with fail
      obtain ⟨r0, r5, r7, r9⟩ := HCELL.out
      clear HCELL
      refine Chain.chain (fun ph wx => Lit w.heap.size w w.heap.size (.cells #[.int .i64 (F : Int), .int .i64 d, .int .i64 r, .int .i64 p, .float .f64 e1, .float .f64 e2, .float .f64 e3, .slice A C cap] 25 (0, 0)) wx ∧ Lit (w.heap.size + 1) (w.alloc (.cells #[.int .i64 (F : Int), .int .i64 d, .int .i64 r, .int .i64 p, .float .f64 e1, .float .f64 e2, .float .f64 e3, .slice A C cap] 25)) (w.heap.size + 1) (.cells #[.int .u32 (a2 : Int), .int .u32 (b2 : Int), .int .i64 (fk : Int), .int .i64 (ca : Int), .slice A' ys.length cp] 33 (0, 0)) wx ∧ Lit 0 w (w.heap.size + 2) (.cells #[.int .u32 0, .int .u32 0, .int .i64 0, .int .i64 0, .slice none 0 0] 33 (0, 0)) wx ∧ Lit W2.heap.size W2 W2.heap.size (.cells (([ROW, ((ROW).setIfInBounds (k * 11) (.int .u32 ((q.floors &&& MK : Nat) : Int))), (((ROW).setIfInBounds (k * 11) (.int .u32 ((q.floors &&& MK : Nat) : Int))).setIfInBounds (k * 11 + 9) (.int .u32 ((q.calls &&& MK : Nat) : Int)))] : List (Array Value)).getD ph #[]) 71 (0, 0)) wx) (fun _ _ => False) [18, 21] (by kernel_rfl) (by kernel_rfl) (fun _ _ _ _ h => h.elim) (by exact ⟨HK.out.1.next (Below.refl _ _).drew, HK.out.2.1.next (Below.refl _ _).drew, HK.out.2.2.1.next (Below.refl _ _).drew, HK.out.2.2.2.next (Below.refl _ _).drew⟩) ?_
      clear HK
      iterate 6
        apply Chain.walk_quiet (by rfl) (by decide)
        · intro ph wx hp hwn hx K hK
          rcases (show ph = 0 ∨ ph = 1 ∨ ph = 2 from by have h : ph ≤ 2 := hp; omega) with rfl | rfl | rfl
          · have y := (show Lit W2.heap.size W2 W2.heap.size (.cells ROW 71 (0, 0)) wx from hx.2.2.2)
            have z1 := (y.cell (k * 11)).trans r0
            have z2 := (y.cell (k * 11 + 9)).trans r9
            clear y
            have HX := Lib.hid hx
            clear hx hwn hp
            go_simp
            go_at_K
            exact hK _ HX.out
          · have y := (show Lit W2.heap.size W2 W2.heap.size (.cells ((ROW).setIfInBounds (k * 11) (.int .u32 ((q.floors &&& MK : Nat) : Int))) 71 (0, 0)) wx from hx.2.2.2)
            have z2 := (y.cell (k * 11 + 9)).trans ((Array.getElem?_setIfInBounds_ne (by omega)).trans r9)
            clear y
            have HX := Lib.hid hx
            clear hx hwn hp
            go_simp
            go_at_K
            exact hK _ HX.out
          · have y := (show Lit W2.heap.size W2 W2.heap.size (.cells (((ROW).setIfInBounds (k * 11) (.int .u32 ((q.floors &&& MK : Nat) : Int))).setIfInBounds (k * 11 + 9) (.int .u32 ((q.calls &&& MK : Nat) : Int))) 71 (0, 0)) wx from hx.2.2.2)
            clear y
            have HX := Lib.hid hx
            clear hx hwn hp
            go_simp
            go_at_K
            exact hK _ HX.out
        · exact ⟨_, rfl⟩
      apply Chain.walk_quiet (by rfl) (by decide)
      · intro ph wx hp hwn hx K hK
        rcases (show ph = 0 ∨ ph = 1 ∨ ph = 2 from by have h : ph ≤ 2 := hp; omega) with rfl | rfl | rfl
        · have y := (show Lit W2.heap.size W2 W2.heap.size (.cells ROW 71 (0, 0)) wx from hx.2.2.2)
          have z1 := (y.cell (k * 11)).trans r0
          have z2 := (y.cell (k * 11 + 9)).trans r9
          clear y
          have HX := Lib.hid hx
          clear hx hwn hp
          go_simp
          go_at_K
          exact hK _ HX.out
        · exact absurd ((Eq.symm (show _ = false by kernel_rfl)).trans hwn) Bool.false_ne_true
        · exact absurd ((Eq.symm (show _ = false by kernel_rfl)).trans hwn) Bool.false_ne_true
      iterate 5
        · exact ⟨_, rfl⟩
        apply Chain.walk_quiet (by rfl) (by decide)
        · intro ph wx hp hwn hx K hK
          rcases (show ph = 0 ∨ ph = 1 ∨ ph = 2 from by have h : ph ≤ 2 := hp; omega) with rfl | rfl | rfl
          · have y := (show Lit W2.heap.size W2 W2.heap.size (.cells ROW 71 (0, 0)) wx from hx.2.2.2)
            have z1 := (y.cell (k * 11)).trans r0
            have z2 := (y.cell (k * 11 + 9)).trans r9
            clear y
            have HX := Lib.hid hx
            clear hx hwn hp
            go_simp
            go_at_K
            exact hK _ HX.out
          · have y := (show Lit W2.heap.size W2 W2.heap.size (.cells ((ROW).setIfInBounds (k * 11) (.int .u32 ((q.floors &&& MK : Nat) : Int))) 71 (0, 0)) wx from hx.2.2.2)
            have z2 := (y.cell (k * 11 + 9)).trans ((Array.getElem?_setIfInBounds_ne (by omega)).trans r9)
            clear y
            have HX := Lib.hid hx
            clear hx hwn hp
            go_simp
            go_at_K
            exact hK _ HX.out
          · have y := (show Lit W2.heap.size W2 W2.heap.size (.cells (((ROW).setIfInBounds (k * 11) (.int .u32 ((q.floors &&& MK : Nat) : Int))).setIfInBounds (k * 11 + 9) (.int .u32 ((q.calls &&& MK : Nat) : Int))) 71 (0, 0)) wx from hx.2.2.2)
            clear y
            have HX := Lib.hid hx
            clear hx hwn hp
            go_simp
            go_at_K
            exact hK _ HX.out
      · exact ⟨_, rfl⟩
      apply Chain.walk_quiet (by rfl) (by decide)
      · intro ph wx hp hwn hx K hK
        rcases (show ph = 0 ∨ ph = 1 ∨ ph = 2 from by have h : ph ≤ 2 := hp; omega) with rfl | rfl | rfl
        · have y := (show Lit W2.heap.size W2 W2.heap.size (.cells ROW 71 (0, 0)) wx from hx.2.2.2)
          have z1 := (y.cell (k * 11)).trans r0
          have z2 := (y.cell (k * 11 + 9)).trans r9
          clear y
          have HX := Lib.hid hx
          clear hx hwn hp
          go_simp
          go_at_K
          exact hK _ HX.out
        · have y := (show Lit W2.heap.size W2 W2.heap.size (.cells ((ROW).setIfInBounds (k * 11) (.int .u32 ((q.floors &&& MK : Nat) : Int))) 71 (0, 0)) wx from hx.2.2.2)
          have z2 := (y.cell (k * 11 + 9)).trans ((Array.getElem?_setIfInBounds_ne (by omega)).trans r9)
          clear y
          have HX := Lib.hid hx
          clear hx hwn hp
          go_simp
          go_at_K
          exact hK _ HX.out
        · exact absurd ((Eq.symm (show _ = false by kernel_rfl)).trans hwn) Bool.false_ne_true
      iterate 5
        · exact ⟨_, rfl⟩
        apply Chain.walk_quiet (by rfl) (by decide)
        · intro ph wx hp hwn hx K hK
          rcases (show ph = 0 ∨ ph = 1 ∨ ph = 2 from by have h : ph ≤ 2 := hp; omega) with rfl | rfl | rfl
          · have y := (show Lit W2.heap.size W2 W2.heap.size (.cells ROW 71 (0, 0)) wx from hx.2.2.2)
            have z1 := (y.cell (k * 11)).trans r0
            have z2 := (y.cell (k * 11 + 9)).trans r9
            clear y
            have HX := Lib.hid hx
            clear hx hwn hp
            go_simp
            go_at_K
            exact hK _ HX.out
          · have y := (show Lit W2.heap.size W2 W2.heap.size (.cells ((ROW).setIfInBounds (k * 11) (.int .u32 ((q.floors &&& MK : Nat) : Int))) 71 (0, 0)) wx from hx.2.2.2)
            have z2 := (y.cell (k * 11 + 9)).trans ((Array.getElem?_setIfInBounds_ne (by omega)).trans r9)
            clear y
            have HX := Lib.hid hx
            clear hx hwn hp
            go_simp
            go_at_K
            exact hK _ HX.out
          · have y := (show Lit W2.heap.size W2 W2.heap.size (.cells (((ROW).setIfInBounds (k * 11) (.int .u32 ((q.floors &&& MK : Nat) : Int))).setIfInBounds (k * 11 + 9) (.int .u32 ((q.calls &&& MK : Nat) : Int))) 71 (0, 0)) wx from hx.2.2.2)
            clear y
            have HX := Lib.hid hx
            clear hx hwn hp
            go_simp
            go_at_K
            exact hK _ HX.out
      · exact ⟨_, rfl⟩
      apply Chain.walk_turn 0 (by rfl) (by rfl)
      · intro wx hx K hK
        have y := (show Lit W2.heap.size W2 W2.heap.size (.cells ROW 71 (0, 0)) wx from hx.2.2.2)
        have z1 := (y.cell (k * 11)).trans r0
        have ff := y.free (k * 11)
        have g : Hid (Lit w.heap.size w w.heap.size (.cells #[.int .i64 (F : Int), .int .i64 d, .int .i64 r, .int .i64 p, .float .f64 e1, .float .f64 e2, .float .f64 e3, .slice A C cap] 25 (0, 0)) (wx.setCell ⟨W2.heap.size, k * 11, none⟩ (.int .u32 ((q.floors &&& MK : Nat) : Int))) ∧ Lit (w.heap.size + 1) (w.alloc (.cells #[.int .i64 (F : Int), .int .i64 d, .int .i64 r, .int .i64 p, .float .f64 e1, .float .f64 e2, .float .f64 e3, .slice A C cap] 25)) (w.heap.size + 1) (.cells #[.int .u32 (a2 : Int), .int .u32 (b2 : Int), .int .i64 (fk : Int), .int .i64 (ca : Int), .slice A' ys.length cp] 33 (0, 0)) (wx.setCell ⟨W2.heap.size, k * 11, none⟩ (.int .u32 ((q.floors &&& MK : Nat) : Int))) ∧ Lit 0 w (w.heap.size + 2) (.cells #[.int .u32 0, .int .u32 0, .int .i64 0, .int .i64 0, .slice none 0 0] 33 (0, 0)) (wx.setCell ⟨W2.heap.size, k * 11, none⟩ (.int .u32 ((q.floors &&& MK : Nat) : Int))) ∧ Lit W2.heap.size W2 W2.heap.size (.cells ((ROW).setIfInBounds (k * 11) (.int .u32 ((q.floors &&& MK : Nat) : Int))) 71 (0, 0)) (wx.setCell ⟨W2.heap.size, k * 11, none⟩ (.int .u32 ((q.floors &&& MK : Nat) : Int)))) := Lib.hid ⟨hx.1.putOther (by omega) (by omega) _ _, hx.2.1.putOther (by omega) (by omega) _ _, hx.2.2.1.putOther (Nat.zero_le _) (by omega) _ _, y.put (Nat.le_refl _) _ _⟩
        have HK2 := Lib.hid hK
        clear hx y hK
        go_simp
        exact HK2.out _ g.out
      · exact ⟨undef, rfl⟩
      iterate 2
        apply Chain.walk_quiet (by rfl) (by decide)
        · intro ph wx hp hwn hx K hK
          rcases (show ph = 0 ∨ ph = 1 ∨ ph = 2 from by have h : ph ≤ 2 := hp; omega) with rfl | rfl | rfl
          · have y := (show Lit W2.heap.size W2 W2.heap.size (.cells ROW 71 (0, 0)) wx from hx.2.2.2)
            have z1 := (y.cell (k * 11)).trans r0
            have z2 := (y.cell (k * 11 + 9)).trans r9
            clear y
            have HX := Lib.hid hx
            clear hx hwn hp
            go_simp
            go_at_K
            exact hK _ HX.out
          · have y := (show Lit W2.heap.size W2 W2.heap.size (.cells ((ROW).setIfInBounds (k * 11) (.int .u32 ((q.floors &&& MK : Nat) : Int))) 71 (0, 0)) wx from hx.2.2.2)
            have z2 := (y.cell (k * 11 + 9)).trans ((Array.getElem?_setIfInBounds_ne (by omega)).trans r9)
            clear y
            have HX := Lib.hid hx
            clear hx hwn hp
            go_simp
            go_at_K
            exact hK _ HX.out
          · have y := (show Lit W2.heap.size W2 W2.heap.size (.cells (((ROW).setIfInBounds (k * 11) (.int .u32 ((q.floors &&& MK : Nat) : Int))).setIfInBounds (k * 11 + 9) (.int .u32 ((q.calls &&& MK : Nat) : Int))) 71 (0, 0)) wx from hx.2.2.2)
            clear y
            have HX := Lib.hid hx
            clear hx hwn hp
            go_simp
            go_at_K
            exact hK _ HX.out
        · exact ⟨_, rfl⟩
      apply Chain.walk_turn 1 (by rfl) (by rfl)
      · intro wx hx K hK
        have y := (show Lit W2.heap.size W2 W2.heap.size (.cells ((ROW).setIfInBounds (k * 11) (.int .u32 ((q.floors &&& MK : Nat) : Int))) 71 (0, 0)) wx from hx.2.2.2)
        have z1 := (y.cell (k * 11 + 9)).trans ((Array.getElem?_setIfInBounds_ne (by omega)).trans r9)
        have ff := y.free (k * 11 + 9)
        have g : Hid (Lit w.heap.size w w.heap.size (.cells #[.int .i64 (F : Int), .int .i64 d, .int .i64 r, .int .i64 p, .float .f64 e1, .float .f64 e2, .float .f64 e3, .slice A C cap] 25 (0, 0)) (wx.setCell ⟨W2.heap.size, k * 11 + 9, none⟩ (.int .u32 ((q.calls &&& MK : Nat) : Int))) ∧ Lit (w.heap.size + 1) (w.alloc (.cells #[.int .i64 (F : Int), .int .i64 d, .int .i64 r, .int .i64 p, .float .f64 e1, .float .f64 e2, .float .f64 e3, .slice A C cap] 25)) (w.heap.size + 1) (.cells #[.int .u32 (a2 : Int), .int .u32 (b2 : Int), .int .i64 (fk : Int), .int .i64 (ca : Int), .slice A' ys.length cp] 33 (0, 0)) (wx.setCell ⟨W2.heap.size, k * 11 + 9, none⟩ (.int .u32 ((q.calls &&& MK : Nat) : Int))) ∧ Lit 0 w (w.heap.size + 2) (.cells #[.int .u32 0, .int .u32 0, .int .i64 0, .int .i64 0, .slice none 0 0] 33 (0, 0)) (wx.setCell ⟨W2.heap.size, k * 11 + 9, none⟩ (.int .u32 ((q.calls &&& MK : Nat) : Int))) ∧ Lit W2.heap.size W2 W2.heap.size (.cells (((ROW).setIfInBounds (k * 11) (.int .u32 ((q.floors &&& MK : Nat) : Int))).setIfInBounds (k * 11 + 9) (.int .u32 ((q.calls &&& MK : Nat) : Int))) 71 (0, 0)) (wx.setCell ⟨W2.heap.size, k * 11 + 9, none⟩ (.int .u32 ((q.calls &&& MK : Nat) : Int)))) := Lib.hid ⟨hx.1.putOther (by omega) (by omega) _ _, hx.2.1.putOther (by omega) (by omega) _ _, hx.2.2.1.putOther (Nat.zero_le _) (by omega) _ _, y.put (Nat.le_refl _) _ _⟩
        have HK2 := Lib.hid hK
        clear hx y hK
        go_simp
        exact HK2.out _ g.out
      · exact ⟨undef, rfl⟩
      refine Chain.walk_nil (fun W4 hx => ?_)
      have K4 := (show Lit W2.heap.size W2 W2.heap.size (.cells (((ROW).setIfInBounds (k * 11) (.int .u32 ((q.floors &&& MK : Nat) : Int))).setIfInBounds (k * 11 + 9) (.int .u32 ((q.calls &&& MK : Nat) : Int))) 71 (0, 0)) W4 from hx.2.2.2)
      have HK := Lib.hid (And.intro hx.1 (And.intro hx.2.1 (And.intro hx.2.2.1 K4)))
      clear hx K4
      have r5b : ((((ROW).setIfInBounds (k * 11) (.int .u32 ((q.floors &&& MK : Nat) : Int))).setIfInBounds (k * 11 + 9) (.int .u32 ((q.calls &&& MK : Nat) : Int))))[k * 11 + 5]? = some (.int .i64 q.floor) := (Array.getElem?_setIfInBounds_ne (by omega)).trans ((Array.getElem?_setIfInBounds_ne (by omega)).trans r5)
      have r7b : ((((ROW).setIfInBounds (k * 11) (.int .u32 ((q.floors &&& MK : Nat) : Int))).setIfInBounds (k * 11 + 9) (.int .u32 ((q.calls &&& MK : Nat) : Int))))[k * 11 + 7]? = some (.int .i64 q.door) := (Array.getElem?_setIfInBounds_ne (by omega)).trans ((Array.getElem?_setIfInBounds_ne (by omega)).trans r7)
      have hqf := m64_wrap q.floor
      have hqd := m64_wrap q.door
      have hFIT : Hid (fitC F q = { q with floors := q.floors &&& MK, floor := ((m64 q.floor % F : Nat) : Int), door := ((m64 q.door % 3 : Nat) : Int), calls := q.calls &&& MK }) := Lib.hid (by rw [← HMK.out]; rfl)
      have hF00 : ¬ F = 0 := by omega
      have hq1 : ((m64 q.floor : Nat) : Int).tmod (F : Int) = ((m64 q.floor % F : Nat) : Int) := by rw [Int.tmod_eq_emod_of_nonneg (by omega)]; omega
      have hq2 : ((m64 q.floor : Nat) : Int) % (F : Int) = ((m64 q.floor % F : Nat) : Int) := by omega
      have hq3 : ((m64 q.door : Nat) : Int).tmod 3 = ((m64 q.door % 3 : Nat) : Int) := by rw [Int.tmod_eq_emod_of_nonneg (by omega)]; omega
      have hq4 : ((m64 q.door : Nat) : Int) % 3 = ((m64 q.door % 3 : Nat) : Int) := by omega
      have hq5 : m64 q.floor % F < F := Nat.mod_lt _ (by omega)
      have hq6 : m64 q.door % 3 < 3 := Nat.mod_lt _ (by omega)
      generalize hufe : m64 q.floor % F = uf at *
      generalize hude : m64 q.door % 3 = ud at *
      generalize m64 q.floor = mf at *
      generalize m64 q.door = md at *
      clear hufe hude
      have hq7 : IntKind.i64.wrap (uf : Int) = (uf : Int) := by rw [IntKind.wrap_i64]; omega
      have hq8 : IntKind.i64.wrap (ud : Int) = (ud : Int) := by rw [IntKind.wrap_i64]; omega
      generalize hR2 : (((ROW).setIfInBounds (k * 11) (.int .u32 ((q.floors &&& MK : Nat) : Int))).setIfInBounds (k * 11 + 9) (.int .u32 ((q.calls &&& MK : Nat) : Int))) = ROW2 at *
      have HR2 := Lib.hid hR2
      clear hR2
      clear r0 r5 r7 r9
      go_wp2_with fail
      refine Chain.chain (fun ph wx => Lit w.heap.size w w.heap.size (.cells #[.int .i64 (F : Int), .int .i64 d, .int .i64 r, .int .i64 p, .float .f64 e1, .float .f64 e2, .float .f64 e3, .slice A C cap] 25 (0, 0)) wx ∧ Lit (w.heap.size + 1) (w.alloc (.cells #[.int .i64 (F : Int), .int .i64 d, .int .i64 r, .int .i64 p, .float .f64 e1, .float .f64 e2, .float .f64 e3, .slice A C cap] 25)) (w.heap.size + 1) (.cells #[.int .u32 (a2 : Int), .int .u32 (b2 : Int), .int .i64 (fk : Int), .int .i64 (ca : Int), .slice A' ys.length cp] 33 (0, 0)) wx ∧ Lit 0 w (w.heap.size + 2) (.cells #[.int .u32 0, .int .u32 0, .int .i64 0, .int .i64 0, .slice none 0 0] 33 (0, 0)) wx ∧ Lit W2.heap.size W2 W2.heap.size (.cells (([ROW2, ((ROW2).setIfInBounds (k * 11 + 5) (.int .i64 (uf : Int))), (((ROW2).setIfInBounds (k * 11 + 5) (.int .i64 (uf : Int))).setIfInBounds (k * 11 + 7) (.int .i64 (ud : Int)))] : List (Array Value)).getD ph #[]) 71 (0, 0)) wx) (fun _ _ => False) [24, 28] (by kernel_rfl) (by kernel_rfl) (fun _ _ _ _ h => h.elim) (by exact ⟨HK.out.1.next (Below.refl _ _).drew, HK.out.2.1.next (Below.refl _ _).drew, HK.out.2.2.1.next (Below.refl _ _).drew, HK.out.2.2.2.next (Below.refl _ _).drew⟩) ?_
      clear HK
      iterate 6
        apply Chain.walk_quiet (by rfl) (by decide)
        · intro ph wx hp hwn hx K hK
          rcases (show ph = 0 ∨ ph = 1 ∨ ph = 2 from by have h : ph ≤ 2 := hp; omega) with rfl | rfl | rfl
          · have y := (show Lit W2.heap.size W2 W2.heap.size (.cells ROW2 71 (0, 0)) wx from hx.2.2.2)
            have z1 := (y.cell (k * 11 + 5)).trans r5b
            have z2 := (y.cell (k * 11 + 7)).trans r7b
            have bb0 := hx.1.cell 0
            simp only [List.getElem?_toArray, List.getElem?_cons_zero, List.getElem?_cons_succ] at bb0
            clear y
            have HX := Lib.hid hx
            clear hx hwn hp
            go_simp
            go_at_K
            exact hK _ HX.out
          · have y := (show Lit W2.heap.size W2 W2.heap.size (.cells ((ROW2).setIfInBounds (k * 11 + 5) (.int .i64 (uf : Int))) 71 (0, 0)) wx from hx.2.2.2)
            have z2 := (y.cell (k * 11 + 7)).trans ((Array.getElem?_setIfInBounds_ne (by omega)).trans r7b)
            have bb0 := hx.1.cell 0
            simp only [List.getElem?_toArray, List.getElem?_cons_zero, List.getElem?_cons_succ] at bb0
            clear y
            have HX := Lib.hid hx
            clear hx hwn hp
            go_simp
            go_at_K
            exact hK _ HX.out
          · have y := (show Lit W2.heap.size W2 W2.heap.size (.cells (((ROW2).setIfInBounds (k * 11 + 5) (.int .i64 (uf : Int))).setIfInBounds (k * 11 + 7) (.int .i64 (ud : Int))) 71 (0, 0)) wx from hx.2.2.2)
            have bb0 := hx.1.cell 0
            simp only [List.getElem?_toArray, List.getElem?_cons_zero, List.getElem?_cons_succ] at bb0
            clear y
            have HX := Lib.hid hx
            clear hx hwn hp
            go_simp
            go_at_K
            exact hK _ HX.out
        · exact ⟨_, rfl⟩
      apply Chain.walk_quiet (by rfl) (by decide)
      · intro ph wx hp hwn hx K hK
        rcases (show ph = 0 ∨ ph = 1 ∨ ph = 2 from by have h : ph ≤ 2 := hp; omega) with rfl | rfl | rfl
        · have y := (show Lit W2.heap.size W2 W2.heap.size (.cells ROW2 71 (0, 0)) wx from hx.2.2.2)
          have z1 := (y.cell (k * 11 + 5)).trans r5b
          have z2 := (y.cell (k * 11 + 7)).trans r7b
          have bb0 := hx.1.cell 0
          simp only [List.getElem?_toArray, List.getElem?_cons_zero, List.getElem?_cons_succ] at bb0
          clear y
          have HX := Lib.hid hx
          clear hx hwn hp
          go_simp
          go_at_K
          exact hK _ HX.out
        · exact absurd ((Eq.symm (show _ = false by kernel_rfl)).trans hwn) Bool.false_ne_true
        · exact absurd ((Eq.symm (show _ = false by kernel_rfl)).trans hwn) Bool.false_ne_true
      iterate 10
        · exact ⟨_, rfl⟩
        apply Chain.walk_quiet (by rfl) (by decide)
        · intro ph wx hp hwn hx K hK
          rcases (show ph = 0 ∨ ph = 1 ∨ ph = 2 from by have h : ph ≤ 2 := hp; omega) with rfl | rfl | rfl
          · have y := (show Lit W2.heap.size W2 W2.heap.size (.cells ROW2 71 (0, 0)) wx from hx.2.2.2)
            have z1 := (y.cell (k * 11 + 5)).trans r5b
            have z2 := (y.cell (k * 11 + 7)).trans r7b
            have bb0 := hx.1.cell 0
            simp only [List.getElem?_toArray, List.getElem?_cons_zero, List.getElem?_cons_succ] at bb0
            clear y
            have HX := Lib.hid hx
            clear hx hwn hp
            go_simp
            go_at_K
            exact hK _ HX.out
          · have y := (show Lit W2.heap.size W2 W2.heap.size (.cells ((ROW2).setIfInBounds (k * 11 + 5) (.int .i64 (uf : Int))) 71 (0, 0)) wx from hx.2.2.2)
            have z2 := (y.cell (k * 11 + 7)).trans ((Array.getElem?_setIfInBounds_ne (by omega)).trans r7b)
            have bb0 := hx.1.cell 0
            simp only [List.getElem?_toArray, List.getElem?_cons_zero, List.getElem?_cons_succ] at bb0
            clear y
            have HX := Lib.hid hx
            clear hx hwn hp
            go_simp
            go_at_K
            exact hK _ HX.out
          · have y := (show Lit W2.heap.size W2 W2.heap.size (.cells (((ROW2).setIfInBounds (k * 11 + 5) (.int .i64 (uf : Int))).setIfInBounds (k * 11 + 7) (.int .i64 (ud : Int))) 71 (0, 0)) wx from hx.2.2.2)
            have bb0 := hx.1.cell 0
            simp only [List.getElem?_toArray, List.getElem?_cons_zero, List.getElem?_cons_succ] at bb0
            clear y
            have HX := Lib.hid hx
            clear hx hwn hp
            go_simp
            go_at_K
            exact hK _ HX.out
      · exact ⟨_, rfl⟩
      apply Chain.walk_quiet (by rfl) (by decide)
      · intro ph wx hp hwn hx K hK
        rcases (show ph = 0 ∨ ph = 1 ∨ ph = 2 from by have h : ph ≤ 2 := hp; omega) with rfl | rfl | rfl
        · have y := (show Lit W2.heap.size W2 W2.heap.size (.cells ROW2 71 (0, 0)) wx from hx.2.2.2)
          have z1 := (y.cell (k * 11 + 5)).trans r5b
          have z2 := (y.cell (k * 11 + 7)).trans r7b
          have bb0 := hx.1.cell 0
          simp only [List.getElem?_toArray, List.getElem?_cons_zero, List.getElem?_cons_succ] at bb0
          clear y
          have HX := Lib.hid hx
          clear hx hwn hp
          go_simp
          go_at_K
          exact hK _ HX.out
        · have y := (show Lit W2.heap.size W2 W2.heap.size (.cells ((ROW2).setIfInBounds (k * 11 + 5) (.int .i64 (uf : Int))) 71 (0, 0)) wx from hx.2.2.2)
          have z2 := (y.cell (k * 11 + 7)).trans ((Array.getElem?_setIfInBounds_ne (by omega)).trans r7b)
          have bb0 := hx.1.cell 0
          simp only [List.getElem?_toArray, List.getElem?_cons_zero, List.getElem?_cons_succ] at bb0
          clear y
          have HX := Lib.hid hx
          clear hx hwn hp
          go_simp
          go_at_K
          exact hK _ HX.out
        · exact absurd ((Eq.symm (show _ = false by kernel_rfl)).trans hwn) Bool.false_ne_true
      iterate 6
        · exact ⟨_, rfl⟩
        apply Chain.walk_quiet (by rfl) (by decide)
        · intro ph wx hp hwn hx K hK
          rcases (show ph = 0 ∨ ph = 1 ∨ ph = 2 from by have h : ph ≤ 2 := hp; omega) with rfl | rfl | rfl
          · have y := (show Lit W2.heap.size W2 W2.heap.size (.cells ROW2 71 (0, 0)) wx from hx.2.2.2)
            have z1 := (y.cell (k * 11 + 5)).trans r5b
            have z2 := (y.cell (k * 11 + 7)).trans r7b
            have bb0 := hx.1.cell 0
            simp only [List.getElem?_toArray, List.getElem?_cons_zero, List.getElem?_cons_succ] at bb0
            clear y
            have HX := Lib.hid hx
            clear hx hwn hp
            go_simp
            go_at_K
            exact hK _ HX.out
          · have y := (show Lit W2.heap.size W2 W2.heap.size (.cells ((ROW2).setIfInBounds (k * 11 + 5) (.int .i64 (uf : Int))) 71 (0, 0)) wx from hx.2.2.2)
            have z2 := (y.cell (k * 11 + 7)).trans ((Array.getElem?_setIfInBounds_ne (by omega)).trans r7b)
            have bb0 := hx.1.cell 0
            simp only [List.getElem?_toArray, List.getElem?_cons_zero, List.getElem?_cons_succ] at bb0
            clear y
            have HX := Lib.hid hx
            clear hx hwn hp
            go_simp
            go_at_K
            exact hK _ HX.out
          · have y := (show Lit W2.heap.size W2 W2.heap.size (.cells (((ROW2).setIfInBounds (k * 11 + 5) (.int .i64 (uf : Int))).setIfInBounds (k * 11 + 7) (.int .i64 (ud : Int))) 71 (0, 0)) wx from hx.2.2.2)
            have bb0 := hx.1.cell 0
            simp only [List.getElem?_toArray, List.getElem?_cons_zero, List.getElem?_cons_succ] at bb0
            clear y
            have HX := Lib.hid hx
            clear hx hwn hp
            go_simp
            go_at_K
            exact hK _ HX.out
      · exact ⟨_, rfl⟩
      apply Chain.walk_turn 0 (by rfl) (by rfl)
      · intro wx hx K hK
        have y := (show Lit W2.heap.size W2 W2.heap.size (.cells ROW2 71 (0, 0)) wx from hx.2.2.2)
        have z1 := (y.cell (k * 11 + 5)).trans r5b
        have ff := y.free (k * 11 + 5)
        have g : Hid (Lit w.heap.size w w.heap.size (.cells #[.int .i64 (F : Int), .int .i64 d, .int .i64 r, .int .i64 p, .float .f64 e1, .float .f64 e2, .float .f64 e3, .slice A C cap] 25 (0, 0)) (wx.setCell ⟨W2.heap.size, k * 11 + 5, none⟩ (.int .i64 (uf : Int))) ∧ Lit (w.heap.size + 1) (w.alloc (.cells #[.int .i64 (F : Int), .int .i64 d, .int .i64 r, .int .i64 p, .float .f64 e1, .float .f64 e2, .float .f64 e3, .slice A C cap] 25)) (w.heap.size + 1) (.cells #[.int .u32 (a2 : Int), .int .u32 (b2 : Int), .int .i64 (fk : Int), .int .i64 (ca : Int), .slice A' ys.length cp] 33 (0, 0)) (wx.setCell ⟨W2.heap.size, k * 11 + 5, none⟩ (.int .i64 (uf : Int))) ∧ Lit 0 w (w.heap.size + 2) (.cells #[.int .u32 0, .int .u32 0, .int .i64 0, .int .i64 0, .slice none 0 0] 33 (0, 0)) (wx.setCell ⟨W2.heap.size, k * 11 + 5, none⟩ (.int .i64 (uf : Int))) ∧ Lit W2.heap.size W2 W2.heap.size (.cells ((ROW2).setIfInBounds (k * 11 + 5) (.int .i64 (uf : Int))) 71 (0, 0)) (wx.setCell ⟨W2.heap.size, k * 11 + 5, none⟩ (.int .i64 (uf : Int)))) := Lib.hid ⟨hx.1.putOther (by omega) (by omega) _ _, hx.2.1.putOther (by omega) (by omega) _ _, hx.2.2.1.putOther (Nat.zero_le _) (by omega) _ _, y.put (Nat.le_refl _) _ _⟩
        have HK2 := Lib.hid hK
        clear hx y hK
        go_simp
        exact HK2.out _ g.out
      · exact ⟨undef, rfl⟩
      iterate 3
        apply Chain.walk_quiet (by rfl) (by decide)
        · intro ph wx hp hwn hx K hK
          rcases (show ph = 0 ∨ ph = 1 ∨ ph = 2 from by have h : ph ≤ 2 := hp; omega) with rfl | rfl | rfl
          · have y := (show Lit W2.heap.size W2 W2.heap.size (.cells ROW2 71 (0, 0)) wx from hx.2.2.2)
            have z1 := (y.cell (k * 11 + 5)).trans r5b
            have z2 := (y.cell (k * 11 + 7)).trans r7b
            have bb0 := hx.1.cell 0
            simp only [List.getElem?_toArray, List.getElem?_cons_zero, List.getElem?_cons_succ] at bb0
            clear y
            have HX := Lib.hid hx
            clear hx hwn hp
            go_simp
            go_at_K
            exact hK _ HX.out
          · have y := (show Lit W2.heap.size W2 W2.heap.size (.cells ((ROW2).setIfInBounds (k * 11 + 5) (.int .i64 (uf : Int))) 71 (0, 0)) wx from hx.2.2.2)
            have z2 := (y.cell (k * 11 + 7)).trans ((Array.getElem?_setIfInBounds_ne (by omega)).trans r7b)
            have bb0 := hx.1.cell 0
            simp only [List.getElem?_toArray, List.getElem?_cons_zero, List.getElem?_cons_succ] at bb0
            clear y
            have HX := Lib.hid hx
            clear hx hwn hp
            go_simp
            go_at_K
            exact hK _ HX.out
          · have y := (show Lit W2.heap.size W2 W2.heap.size (.cells (((ROW2).setIfInBounds (k * 11 + 5) (.int .i64 (uf : Int))).setIfInBounds (k * 11 + 7) (.int .i64 (ud : Int))) 71 (0, 0)) wx from hx.2.2.2)
            have bb0 := hx.1.cell 0
            simp only [List.getElem?_toArray, List.getElem?_cons_zero, List.getElem?_cons_succ] at bb0
            clear y
            have HX := Lib.hid hx
            clear hx hwn hp
            go_simp
            go_at_K
            exact hK _ HX.out
        · exact ⟨_, rfl⟩
      apply Chain.walk_turn 1 (by rfl) (by rfl)
      · intro wx hx K hK
        have y := (show Lit W2.heap.size W2 W2.heap.size (.cells ((ROW2).setIfInBounds (k * 11 + 5) (.int .i64 (uf : Int))) 71 (0, 0)) wx from hx.2.2.2)
        have z1 := (y.cell (k * 11 + 7)).trans ((Array.getElem?_setIfInBounds_ne (by omega)).trans r7b)
        have ff := y.free (k * 11 + 7)
        have g : Hid (Lit w.heap.size w w.heap.size (.cells #[.int .i64 (F : Int), .int .i64 d, .int .i64 r, .int .i64 p, .float .f64 e1, .float .f64 e2, .float .f64 e3, .slice A C cap] 25 (0, 0)) (wx.setCell ⟨W2.heap.size, k * 11 + 7, none⟩ (.int .i64 (ud : Int))) ∧ Lit (w.heap.size + 1) (w.alloc (.cells #[.int .i64 (F : Int), .int .i64 d, .int .i64 r, .int .i64 p, .float .f64 e1, .float .f64 e2, .float .f64 e3, .slice A C cap] 25)) (w.heap.size + 1) (.cells #[.int .u32 (a2 : Int), .int .u32 (b2 : Int), .int .i64 (fk : Int), .int .i64 (ca : Int), .slice A' ys.length cp] 33 (0, 0)) (wx.setCell ⟨W2.heap.size, k * 11 + 7, none⟩ (.int .i64 (ud : Int))) ∧ Lit 0 w (w.heap.size + 2) (.cells #[.int .u32 0, .int .u32 0, .int .i64 0, .int .i64 0, .slice none 0 0] 33 (0, 0)) (wx.setCell ⟨W2.heap.size, k * 11 + 7, none⟩ (.int .i64 (ud : Int))) ∧ Lit W2.heap.size W2 W2.heap.size (.cells (((ROW2).setIfInBounds (k * 11 + 5) (.int .i64 (uf : Int))).setIfInBounds (k * 11 + 7) (.int .i64 (ud : Int))) 71 (0, 0)) (wx.setCell ⟨W2.heap.size, k * 11 + 7, none⟩ (.int .i64 (ud : Int)))) := Lib.hid ⟨hx.1.putOther (by omega) (by omega) _ _, hx.2.1.putOther (by omega) (by omega) _ _, hx.2.2.1.putOther (Nat.zero_le _) (by omega) _ _, y.put (Nat.le_refl _) _ _⟩
        have HK2 := Lib.hid hK
        clear hx y hK
        go_simp
        exact HK2.out _ g.out
      · exact ⟨undef, rfl⟩
      refine Chain.walk_nil (fun W4 hx => ?_)
      have K4 := (show Lit W2.heap.size W2 W2.heap.size (.cells (((ROW2).setIfInBounds (k * 11 + 5) (.int .i64 (uf : Int))).setIfInBounds (k * 11 + 7) (.int .i64 (ud : Int))) 71 (0, 0)) W4 from hx.2.2.2)
      have HK := Lib.hid (And.intro hx.1 (And.intro hx.2.1 (And.intro hx.2.2.1 K4)))
      clear hx K4
      go_wp2_with fail
      go_roundw
      case rel =>
        have e := HSET.out (q.floors &&& MK) (q.calls &&& MK) (uf : Int) (ud : Int)
        rw [HR2.out, ← hFIT.out, HSUC.out] at e
        refine ⟨k + 1, by omega, by go_num, HK.out.1, HK.out.2.1, HK.out.2.2.1, ?_⟩
        rw [← e]
        exact HK.out.2.2.2
      case measure => simp [intOf]; omega
end Go.Proofs.Ythbfpdkgbkpmiaa
