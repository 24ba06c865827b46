/- IsObs of the reference; Shows of the indicator and of the reference. No statement of the seat is proved here. -/
import Derived.Test.YtnjcegkefjdgdaaDoorG16
import Derived.Test.YtnjcegkefjdgdaaDoorG7
namespace Go.Proofs.YtnjcegkefjdgdaaDoor
open Go.RowKit
theorem Ind.shl_one' {k : Nat} (h : k < 32) : (2 : Int) ^ k % 4294967296 = ((2 ^ k : Nat) : Int) := shl_one h

def Cl (x : Nat × Nat) : Value := .agg #[.int .u32 x.1, .int .u32 x.2]
theorem shows_no {n : Int} {o : Ob} (h : Ind.isObs n o = false) : Ind.shows n o = (0, 0) := by
  unfold Ind.shows; rw [h, if_neg (fun h => Bool.false_ne_true h.1)]
theorem isObs_yes {n : Int} {o : Ob} (h : Ind.isObs n o = true) : (2 ≤ n ∧ n ≤ 32) ∧ (-1 ≤ o.f ∧ o.f < n ∧ 0 ≤ o.d ∧ o.d ≤ 3 ∧ 0 ≤ o.g ∧ o.g ≤ 3) := by
  unfold Ind.isObs at h
  rw [Bool.and_eq_true] at h
  exact ⟨Ind.okF_iff.1 h.1, of_decide_eq_true h.2⟩

set_option maxHeartbeats 4000000 in
theorem shows_any (n : Int) (o : Ob) (w : World) :
    Calls Tryd.prog 22 #[.int .i64 n, o.agg] w fun e w' => e = .returned (Cl (Ind.shows n o)) ∧ Below w.heap.size w w' := by
  have G := Lib.hid (fun w => isObs_any n o w)
  have HY := Lib.hid (fun h => isObs_yes (n := n) (o := o) h)
  have hbx := fun (wx : World) (h : Below (w.heap.size + 1) (w.alloc (.cells #[.int .i64 o.f, .int .i64 o.d, .int .i64 o.g] 76)) wx) => boxOb h
  have HBX := Lib.hid hbx
  clear hbx
  cases hi : Ind.isObs n o
  · rw [shows_no hi]
    rw [hi] at G
    clear HY
    obtain ⟨f, d, g⟩ := o
    simp only [Ob.agg] at G ⊢
    simp only at HBX
    go_enter Tryd.func22, Tryd.ntmps22
    go_wp2_with fail
    refine (G.out _).mono ?_
    rintro e w1 ⟨rfl, hb⟩
    have hL := (Lit.two' w _ _).next hb
    obtain ⟨r0, r1, r2⟩ := HBX.out _ hL.below
    have z0 := hL.cell 0
    have z1 := hL.cell 1
    simp only [List.getElem?_toArray, List.getElem?_cons_zero, List.getElem?_cons_succ] at z0 z1
    have q0 := hL.free 0
    have q1 := hL.free 1
    have hlt := hL.lt
    have hlt0 : w.heap.size < w1.heap.size := by omega
    have hE := fun v0 v1 => hL.put2 (Nat.le_refl _) rfl v0 v1
    have HE := Lib.hid hE
    clear hE hL hb
    go_wp2
    exact bodyPost_ret (results_cell_row Tryd.results22 _ _ _ _ _ (0, 0) _ rfl ((HE.out _ _).row) Tryd.underlying42 rfl (by kernel_rfl)) rfl (⟨by rw [Cl]; try rfl, below_of_new (HE.out _ _).below⟩)
  obtain ⟨⟨n2, n32⟩, f1, fn, d0, d3, g0, g3⟩ := HY.out hi
  rw [hi] at G
  have E : Hid (Ind.shows n o = if o.g = 1 ∧ 0 ≤ o.f then (if o.d = 1 ∧ o.f < n - 1 then (2 ^ o.f.toNat, 0) else if o.d = 2 ∧ 0 < o.f then (0, 2 ^ o.f.toNat) else (0, 0)) else (0, 0)) := by
    show _ = _
    unfold Ind.shows
    rw [hi]
    simp only [true_and]
  clear HY hi
  obtain ⟨f, d, g⟩ := o
  simp only at f1 fn d0 d3 g0 g3 HBX E
  simp only [Ob.agg] at G ⊢
  by_cases hg : g = 1
  case neg =>
    rw [E.out, if_neg (fun q => hg q.1)]
    have hgb : (g == 1) = false := beq_eq_false_iff_ne.2 hg
    clear E
    go_enter Tryd.func22, Tryd.ntmps22
    go_wp2_with fail
    refine (G.out _).mono ?_
    rintro e w1 ⟨rfl, hb⟩
    have hL := (Lit.two' w _ _).next hb
    obtain ⟨r0, r1, r2⟩ := HBX.out _ hL.below
    have z0 := hL.cell 0
    have z1 := hL.cell 1
    simp only [List.getElem?_toArray, List.getElem?_cons_zero, List.getElem?_cons_succ] at z0 z1
    have q0 := hL.free 0
    have q1 := hL.free 1
    have hlt := hL.lt
    have hlt0 : w.heap.size < w1.heap.size := by omega
    have hE := fun v0 v1 => hL.put2 (Nat.le_refl _) rfl v0 v1
    have HE := Lib.hid hE
    clear hE hL hb
    go_wp2
    exact bodyPost_ret (results_cell_row Tryd.results22 _ _ _ _ _ (0, 0) _ rfl ((HE.out _ _).row) Tryd.underlying42 rfl (by kernel_rfl)) rfl (⟨by rw [Cl]; try rfl, below_of_new (HE.out _ _).below⟩)
  subst hg
  by_cases hf : f = -1
  case pos =>
    subst hf
    rw [E.out, if_neg (fun q => absurd q.2 (by decide))]
    clear E
    go_enter Tryd.func22, Tryd.ntmps22
    go_wp2_with fail
    refine (G.out _).mono ?_
    rintro e w1 ⟨rfl, hb⟩
    have hL := (Lit.two' w _ _).next hb
    obtain ⟨r0, r1, r2⟩ := HBX.out _ hL.below
    have z0 := hL.cell 0
    have z1 := hL.cell 1
    simp only [List.getElem?_toArray, List.getElem?_cons_zero, List.getElem?_cons_succ] at z0 z1
    have q0 := hL.free 0
    have q1 := hL.free 1
    have hlt := hL.lt
    have hlt0 : w.heap.size < w1.heap.size := by omega
    have hE := fun v0 v1 => hL.put2 (Nat.le_refl _) rfl v0 v1
    have HE := Lib.hid hE
    clear hE hL hb
    go_wp2
    exact bodyPost_ret (results_cell_row Tryd.results22 _ _ _ _ _ (0, 0) _ rfl ((HE.out _ _).row) Tryd.underlying42 rfl (by kernel_rfl)) rfl (⟨by rw [Cl]; try rfl, below_of_new (HE.out _ _).below⟩)
  have hfb : (f == -1) = false := beq_eq_false_iff_ne.2 hf
  obtain ⟨k, rfl⟩ : ∃ k : Nat, f = (k : Int) := ⟨f.toNat, by omega⟩
  have hk : k < 32 := by omega
  have hs := Ind.shl_one' hk
  have hkl : ¬ ((k : Int) < 0) := by omega
  rw [E.out, if_pos ⟨rfl, by omega⟩, Int.toNat_natCast]
  clear E
  have hnw : IntKind.i64.wrap (n - 1) = n - 1 := by rw [IntKind.wrap_i64]; omega
  generalize hP : 2 ^ k = P at *
  by_cases hd1 : d = 1
  case pos =>
    subst hd1
    by_cases hl : (k : Int) < n - 1
    case pos =>
      rw [if_pos ⟨rfl, hl⟩]
      have hlb : ((k : Int) == n - 1) = false := beq_eq_false_iff_ne.2 (by omega)
      go_enter Tryd.func22, Tryd.ntmps22
      go_wp2_with fail
      refine (G.out _).mono ?_
      rintro e w1 ⟨rfl, hb⟩
      have hL := (Lit.two' w _ _).next hb
      obtain ⟨r0, r1, r2⟩ := HBX.out _ hL.below
      have z0 := hL.cell 0
      have z1 := hL.cell 1
      simp only [List.getElem?_toArray, List.getElem?_cons_zero, List.getElem?_cons_succ] at z0 z1
      have q0 := hL.free 0
      have q1 := hL.free 1
      have hlt := hL.lt
      have hlt0 : w.heap.size < w1.heap.size := by omega
      have hE := fun v0 v1 => hL.put2 (Nat.le_refl _) rfl v0 v1
      have HE := Lib.hid hE
      clear hE hL hb
      go_wp2
      exact bodyPost_ret (results_cell_row Tryd.results22 _ _ _ _ _ (0, 0) _ rfl ((HE.out _ _).row) Tryd.underlying42 rfl (by kernel_rfl)) rfl (⟨by rw [Cl]; try rfl, below_of_new (HE.out _ _).below⟩)
    rw [if_neg (fun q => hl q.2), if_neg (fun q => absurd q.1 (by decide))]
    have hkn : (k : Int) = n - 1 := by omega
    have hlb : ((k : Int) == n - 1) = true := beq_iff_eq.2 hkn
    clear hkn
    go_enter Tryd.func22, Tryd.ntmps22
    go_wp2_with fail
    refine (G.out _).mono ?_
    rintro e w1 ⟨rfl, hb⟩
    have hL := (Lit.two' w _ _).next hb
    obtain ⟨r0, r1, r2⟩ := HBX.out _ hL.below
    have z0 := hL.cell 0
    have z1 := hL.cell 1
    simp only [List.getElem?_toArray, List.getElem?_cons_zero, List.getElem?_cons_succ] at z0 z1
    have q0 := hL.free 0
    have q1 := hL.free 1
    have hlt := hL.lt
    have hlt0 : w.heap.size < w1.heap.size := by omega
    have hE := fun v0 v1 => hL.put2 (Nat.le_refl _) rfl v0 v1
    have HE := Lib.hid hE
    clear hE hL hb
    go_wp2
    exact bodyPost_ret (results_cell_row Tryd.results22 _ _ _ _ _ (0, 0) _ rfl ((HE.out _ _).row) Tryd.underlying42 rfl (by kernel_rfl)) rfl (⟨by rw [Cl]; try rfl, below_of_new (HE.out _ _).below⟩)
  have hdb : (d == 1) = false := beq_eq_false_iff_ne.2 hd1
  by_cases hd2 : d = 2
  case pos =>
    subst hd2
    by_cases hl : (0 : Int) < (k : Int)
    case pos =>
      rw [if_neg (fun q => absurd q.1 (by decide)), if_pos ⟨rfl, hl⟩]
      have hlb : ((k : Int) == 0) = false := beq_eq_false_iff_ne.2 (by omega)
      go_enter Tryd.func22, Tryd.ntmps22
      go_wp2_with fail
      refine (G.out _).mono ?_
      rintro e w1 ⟨rfl, hb⟩
      have hL := (Lit.two' w _ _).next hb
      obtain ⟨r0, r1, r2⟩ := HBX.out _ hL.below
      have z0 := hL.cell 0
      have z1 := hL.cell 1
      simp only [List.getElem?_toArray, List.getElem?_cons_zero, List.getElem?_cons_succ] at z0 z1
      have q0 := hL.free 0
      have q1 := hL.free 1
      have hlt := hL.lt
      have hlt0 : w.heap.size < w1.heap.size := by omega
      have hE := fun v0 v1 => hL.put2 (Nat.le_refl _) rfl v0 v1
      have HE := Lib.hid hE
      clear hE hL hb
      go_wp2
      exact bodyPost_ret (results_cell_row Tryd.results22 _ _ _ _ _ (0, 0) _ rfl ((HE.out _ _).row) Tryd.underlying42 rfl (by kernel_rfl)) rfl (⟨by rw [Cl]; try rfl, below_of_new (HE.out _ _).below⟩)
    obtain rfl : k = 0 := by omega
    rw [if_neg (fun q => absurd q.1 (by decide)), if_neg (fun q => hl q.2)]
    go_enter Tryd.func22, Tryd.ntmps22
    go_wp2_with fail
    refine (G.out _).mono ?_
    rintro e w1 ⟨rfl, hb⟩
    have hL := (Lit.two' w _ _).next hb
    obtain ⟨r0, r1, r2⟩ := HBX.out _ hL.below
    have z0 := hL.cell 0
    have z1 := hL.cell 1
    simp only [List.getElem?_toArray, List.getElem?_cons_zero, List.getElem?_cons_succ] at z0 z1
    have q0 := hL.free 0
    have q1 := hL.free 1
    have hlt := hL.lt
    have hlt0 : w.heap.size < w1.heap.size := by omega
    have hE := fun v0 v1 => hL.put2 (Nat.le_refl _) rfl v0 v1
    have HE := Lib.hid hE
    clear hE hL hb
    go_wp2
    exact bodyPost_ret (results_cell_row Tryd.results22 _ _ _ _ _ (0, 0) _ rfl ((HE.out _ _).row) Tryd.underlying42 rfl (by kernel_rfl)) rfl (⟨by rw [Cl]; try rfl, below_of_new (HE.out _ _).below⟩)
  have hdb2 : (d == 2) = false := beq_eq_false_iff_ne.2 hd2
  rw [if_neg (fun q => hd1 q.1), if_neg (fun q => hd2 q.1)]
  go_enter Tryd.func22, Tryd.ntmps22
  go_wp2_with fail
  refine (G.out _).mono ?_
  rintro e w1 ⟨rfl, hb⟩
  have hL := (Lit.two' w _ _).next hb
  obtain ⟨r0, r1, r2⟩ := HBX.out _ hL.below
  have z0 := hL.cell 0
  have z1 := hL.cell 1
  simp only [List.getElem?_toArray, List.getElem?_cons_zero, List.getElem?_cons_succ] at z0 z1
  have q0 := hL.free 0
  have q1 := hL.free 1
  have hlt := hL.lt
  have hlt0 : w.heap.size < w1.heap.size := by omega
  have hE := fun v0 v1 => hL.put2 (Nat.le_refl _) rfl v0 v1
  have HE := Lib.hid hE
  clear hE hL hb
  go_wp2
  exact bodyPost_ret (results_cell_row Tryd.results22 _ _ _ _ _ (0, 0) _ rfl ((HE.out _ _).row) Tryd.underlying42 rfl (by kernel_rfl)) rfl (⟨by rw [Cl]; try rfl, below_of_new (HE.out _ _).below⟩)

end Go.Proofs.YtnjcegkefjdgdaaDoor