/- What the texts behind this one rest on: several texts in one. No statement of the seat is proved here. -/
import Derived.Test.YtifbkoaggjikpaaLM15
namespace Go.Proofs.Ytifbkoaggjikpaa
section
open Go.RowKit Lg

theorem isB_ent (b : BldD) (m : Img) : Img.isB b m = (decide (validE b = 0) && (decide (m.ph.length = b.cars.length) && (decide (m.fl.length = b.cars.length) && (decide (m.lv.length = b.cars.length) && (m.ph.all Img.phB && entB b none m.en))))) := by
  rw [entB_none]; rfl
theorem boxIm2 {w wx : World} {A : Obj} {a1 a2 a3 a4 : Option Addr} {n1 n2 n3 n4 c1 c2 c3 c4 : Nat} (h : Below ((w.alloc A).alloc (.cells #[.slice a1 n1 c1, .slice a2 n2 c2, .slice a3 n3 c3, .slice a4 n4 c4] 32)).heap.size ((w.alloc A).alloc (.cells #[.slice a1 n1 c1, .slice a2 n2 c2, .slice a3 n3 c3, .slice a4 n4 c4] 32)) wx) :
    wx.cell? ⟨w.heap.size + 1, 0, none⟩ = some (.slice a1 n1 c1) ∧ wx.cell? ⟨w.heap.size + 1, 1, none⟩ = some (.slice a2 n2 c2) ∧ wx.cell? ⟨w.heap.size + 1, 2, none⟩ = some (.slice a3 n3 c3) ∧ wx.cell? ⟨w.heap.size + 1, 3, none⟩ = some (.slice a4 n4 c4) := imRowCells (boxes2 h).2
set_option maxRecDepth 100000 in
set_option maxHeartbeats 4000000 in
theorem isImage_any (b : BldD) (A : Option Addr) (cap : Nat) (pv fv lv ev : Value) (m : Img) (w : World) (hn : b.cars.length ≤ 140737488355328) (hc : CarsAt w w.heap.size A b.cars) (h : ImV w pv fv lv ev m)
    (hp : m.ph.length ≤ 1000000) (he : m.en.length ≤ 1000000) :
    Calls Try.prog 31 #[b.agg A cap, .agg #[pv, fv, lv, ev]] w fun e w' => e = .returned (.bool (Img.isB b m)) ∧ Below w.heap.size w w' := by
  obtain ⟨⟨A1, c1, rfl, h1⟩, ⟨A2, c2, rfl, h2⟩, ⟨A3, c3, rfl, h3⟩, ⟨A4, c4, rfl, h4⟩⟩ := h
  have FV := Lib.hid (fun wx (h : Below w.heap.size w wx) => valid_any b A cap wx hn ((hc.below h).more h.size))
  have FP := Lib.hid (fun wx (h : Below w.heap.size w wx) => arePhases_any m.ph (.slice A1 (nums m.ph).length c1) wx (by unfold maxLen; omega) ⟨A1, c1, rfl, h1.below h⟩)
  have FE := Lib.hid (fun wx (hv : validE b = 0) (h : Below w.heap.size w wx) => areEntries_any b A cap m.en (.slice A4 m.en.length c4) wx hv ((hc.below h).more h.size) he ⟨A4, c4, rfl, h4.below h⟩)
  rw [isB_ent]
  rw [nums_len] at FP ⊢
  rw [bls_len, bls_len]
  clear h1 h2 h3 h4 hc
  generalize m.ph.all Img.phB = P at *
  generalize entB b none m.en = E at *
  generalize m.ph.length = n1 at *
  generalize m.fl.length = n2 at *
  generalize m.lv.length = n3 at *
  generalize m.en.length = n4 at *
  by_cases hv : validE b = 0
  case neg =>
    have hR : (decide (validE b = 0) && (decide (n1 = b.cars.length) && (decide (n2 = b.cars.length) && (decide (n3 = b.cars.length) && (P && E))))) = false := by simp [hv]
    rw [hR]
    have hne : (validE b == 0) = false := by simp [hv]
    generalize validE b = V at *
    clear hv hR FE
    obtain ⟨f, d, r, p, e1, e2, e3, cs⟩ := b
    simp only [BldD.agg] at *
    go_enter Try.func31, Try.ntmps31
    go_wp2_with fail
    refine (FV.out _ (by go_grown)).mono ?_
    rintro e w1 ⟨rfl, hb⟩
    have HB := Lib.hid (below2 (hb.mono (by simp)))
    clear hb
    go_wp2_with fail
    go_ret
    exact ⟨rfl, HB.out⟩
  have FE1 := Lib.hid (fun wx h => FE.out wx hv h)
  rw [hv] at FV
  rw [show decide (validE b = 0) = true by simp [hv], Bool.true_and]
  clear FE hv
  generalize hC : b.cars.length = C at *
  have HEQ := Lib.hid (fun n : Nat => (show (((n : Int) == (C : Int)) = decide (n = C)) ∧ ((n == C) = decide (n = C)) by constructor <;> (rw [Bool.eq_iff_iff]; simp) <;> omega))
  obtain ⟨f, d, r, p, e1, e2, e3, cs⟩ := b
  simp only [BldD.agg] at *
  rw [hC] at FV FE1 ⊢
  clear hC
  generalize hq1 : decide (n1 = C) = q1
  generalize hq2 : decide (n2 = C) = q2
  generalize hq3 : decide (n3 = C) = q3
  obtain ⟨t1, u1⟩ := HEQ.out n1
  obtain ⟨t2, u2⟩ := HEQ.out n2
  obtain ⟨t3, u3⟩ := HEQ.out n3
  rw [hq1] at t1 u1
  rw [hq2] at t2 u2
  rw [hq3] at t3 u3
  clear hq1 hq2 hq3
  cases q1
  case false =>
    go_enter Try.func31, Try.ntmps31
    go_wp2_with fail
    refine (FV.out _ (by go_grown)).mono ?_
    rintro e w1 ⟨rfl, hb⟩
    obtain ⟨i0, i1, i2, i3⟩ := boxIm2 hb
    obtain ⟨k0, k1, k2, k3, k4, k5, k6, k7⟩ := boxRow (boxes2 hb).1
    have HB := Lib.hid (below2 (hb.mono (by simp)))
    have HBX := Lib.hid hb
    clear hb
    go_wp2_with fail
    go_ret
    exact ⟨ret_bool (by simp), HB.out⟩
  cases q2
  case false =>
    go_enter Try.func31, Try.ntmps31
    go_wp2_with fail
    refine (FV.out _ (by go_grown)).mono ?_
    rintro e w1 ⟨rfl, hb⟩
    obtain ⟨i0, i1, i2, i3⟩ := boxIm2 hb
    obtain ⟨k0, k1, k2, k3, k4, k5, k6, k7⟩ := boxRow (boxes2 hb).1
    have HB := Lib.hid (below2 (hb.mono (by simp)))
    have HBX := Lib.hid hb
    clear hb
    go_wp2_with fail
    go_ret
    exact ⟨ret_bool (by simp), HB.out⟩
  cases q3
  case false =>
    go_enter Try.func31, Try.ntmps31
    go_wp2_with fail
    refine (FV.out _ (by go_grown)).mono ?_
    rintro e w1 ⟨rfl, hb⟩
    obtain ⟨i0, i1, i2, i3⟩ := boxIm2 hb
    obtain ⟨k0, k1, k2, k3, k4, k5, k6, k7⟩ := boxRow (boxes2 hb).1
    have HB := Lib.hid (below2 (hb.mono (by simp)))
    have HBX := Lib.hid hb
    clear hb
    go_wp2_with fail
    go_ret
    exact ⟨ret_bool (by simp), HB.out⟩
  cases P
  case false =>
    go_enter Try.func31, Try.ntmps31
    go_wp2_with fail
    refine (FV.out _ (by go_grown)).mono ?_
    rintro e w1 ⟨rfl, hb⟩
    obtain ⟨i0, i1, i2, i3⟩ := boxIm2 hb
    obtain ⟨k0, k1, k2, k3, k4, k5, k6, k7⟩ := boxRow (boxes2 hb).1
    have HB := Lib.hid (below2 (hb.mono (by simp)))
    have HBX := Lib.hid hb
    clear hb
    go_wp2_with fail
    refine (FP.out _ HB.out).mono ?_
    rintro e w2 ⟨rfl, rfl⟩
    go_wp2_with fail
    go_ret
    exact ⟨ret_bool (by simp), HB.out⟩
  cases E
  case false =>
    go_enter Try.func31, Try.ntmps31
    go_wp2_with fail
    refine (FV.out _ (by go_grown)).mono ?_
    rintro e w1 ⟨rfl, hb⟩
    obtain ⟨i0, i1, i2, i3⟩ := boxIm2 hb
    obtain ⟨k0, k1, k2, k3, k4, k5, k6, k7⟩ := boxRow (boxes2 hb).1
    have HB := Lib.hid (below2 (hb.mono (by simp)))
    have HBX := Lib.hid hb
    clear hb
    go_wp2_with fail
    refine (FP.out _ HB.out).mono ?_
    rintro e w2 ⟨rfl, rfl⟩
    go_wp2_with fail
    refine (FE1.out _ HB.out).mono ?_
    rintro e w3 ⟨rfl, hb3⟩
    have HB3 := Lib.hid (HB.out.trans (hb3.mono HB.out.size))
    clear hb3
    go_wp2_with fail
    go_ret
    exact ⟨ret_bool (by simp), HB3.out⟩
  case true =>
    go_enter Try.func31, Try.ntmps31
    go_wp2_with fail
    refine (FV.out _ (by go_grown)).mono ?_
    rintro e w1 ⟨rfl, hb⟩
    obtain ⟨i0, i1, i2, i3⟩ := boxIm2 hb
    obtain ⟨k0, k1, k2, k3, k4, k5, k6, k7⟩ := boxRow (boxes2 hb).1
    have HB := Lib.hid (below2 (hb.mono (by simp)))
    have HBX := Lib.hid hb
    clear hb
    go_wp2_with fail
    refine (FP.out _ HB.out).mono ?_
    rintro e w2 ⟨rfl, rfl⟩
    go_wp2_with fail
    refine (FE1.out _ HB.out).mono ?_
    rintro e w3 ⟨rfl, hb3⟩
    have HB3 := Lib.hid (HB.out.trans (hb3.mono HB.out.size))
    clear hb3
    go_wp2_with fail
    go_ret
    exact ⟨ret_bool (by simp), HB3.out⟩
end

section
open Go.RowKit Lg

namespace Lg
theorem key_less (e x : En) : lessE e x = lessK x.f x.d e := rfl
theorem bs_low {l : List En} (hs : Srt l) (x : En) {h : Nat} (hh : h < l.length) (hq : decide (ordI l[h] x < 0) = true) : h + 1 ≤ pos l x.f x.d := by
  rw [ordI_neg, key_less] at hq
  exact (pos_iff hs hh).1 hq
theorem bs_high {l : List En} (hs : Srt l) (x : En) {h : Nat} (hh : h < l.length) (hq : decide (ordI l[h] x < 0) = false) : pos l x.f x.d ≤ h := by
  rw [ordI_neg, key_less] at hq
  have : ¬ h < pos l x.f x.d := by rw [← pos_iff hs hh, hq]; decide
  omega
theorem bs_fnd {l : List En} (x : En) (hh : pos l x.f x.d < l.length) : fndB l x.f x.d = decide (ordI l[pos l x.f x.d] x = 0) := by
  rw [ordI_zero]; exact fnd_of hh
end Lg
set_option maxRecDepth 100000 in
set_option maxHeartbeats 4000000 in
theorem bsf_any (l : List En) (v : Value) (x : En) (w : World) (hs : Srt l) (hl : l.length ≤ 1000000) (hv : EV w v l) :
    Calls Try.prog 92 #[v, x.agg, .func (.func 84) #[] #[]] w fun e w' => e = .returned (.tuple #[.int .i64 (pos l x.f x.d : Nat), .bool (fndB l x.f x.d)]) ∧ Below w.heap.size w w' := by
  obtain ⟨A1, cap1, rfl, hA⟩ := hv
  have HA := Lib.hid (fun wx (h : Below w.heap.size w wx) k (hk : k < l.length) => (hA.below h).at_ hk)
  have FO := Lib.hid (fun k (hk : k < l.length) wx => order_any l[k] x wx)
  have HLO := Lib.hid (fun k (hk : k < l.length) q => bs_low hs x hk q)
  have HHI := Lib.hid (fun k (hk : k < l.length) q => bs_high hs x hk q)
  have HFN := Lib.hid (fun hk => bs_fnd (l := l) x hk)
  have HFE := Lib.hid (fun hk => fnd_end (l := l) (f := x.f) (d := x.d) hk)
  have hP := pos_le l x.f x.d
  generalize fndB l x.f x.d = FD at *
  obtain ⟨P, hPP⟩ : ∃ P, P = pos l x.f x.d := ⟨_, rfl⟩
  rw [← hPP] at hP ⊢
  have HLO1 := Lib.hid (fun k (hk : k < l.length) q => (show k + 1 ≤ P by rw [hPP]; exact HLO.out k hk q))
  have HHI1 := Lib.hid (fun k (hk : k < l.length) q => (show P ≤ k by rw [hPP]; exact HHI.out k hk q))
  have HFN1 := Lib.hid (fun (hk : P < l.length) => (show FD = decide (ordI l[P] x = 0) by
    have := HFN.out (by rw [← hPP]; exact hk)
    rw [this]
    congr 3
    simp only [hPP]))
  have HFE1 := Lib.hid (fun (hk : ¬ P < l.length) => HFE.out (by rw [← hPP]; exact hk))
  clear HLO HHI HFN HFE hPP hA hs
  obtain ⟨x1, x2, x3, x4, x5⟩ := x
  simp only [En.agg] at FO ⊢
  go_enter Try.func92, Try.ntmps92
  go_wp2_with fail
  have HST := Lib.hid (show Below (w.heap.size + 1) (w.alloc (.cells #[.int .i64 x1, .int .i64 x2, .int .i64 x3, .int .i64 x4, .bool x5] 71)) (w.alloc (.cells #[.int .i64 x1, .int .i64 x2, .int .i64 x3, .int .i64 x4, .bool x5] 71)) from Below.refl _ _)
  go_loopw [9, 10] (fun vi vj wr => ∃ i j : Nat, i ≤ P ∧ P ≤ j ∧ j ≤ l.length ∧ vi = .int .i64 (i : Int) ∧ vj = .int .i64 (j : Int) ∧ Below (w.heap.size + 1) (w.alloc (.cells #[.int .i64 x1, .int .i64 x2, .int .i64 x3, .int .i64 x4, .bool x5] 71)) wr) (fun vi vj _ => (intOf vj).toNat - (intOf vi).toNat)
  case atStart => exact ⟨0, l.length, by omega, hP, by omega, rfl, rfl, HST.out⟩
  case round =>
    obtain ⟨i, j, hi, hj, hjn, rfl, rfl, hbw⟩ := hrel
    have HBW := Lib.hid hbw
    have hzr := hbw.size
    simp at hzr
    clear hbw
    by_cases hlt : i < j
    case pos =>
      obtain ⟨h, hh⟩ : ∃ h, h = (i + j) / 2 := ⟨_, rfl⟩
      have hhi : i ≤ h := by omega
      have hhj : h < j := by omega
      have hhn : h < l.length := by omega
      have hd1 : ((i : Int) + (j : Int)) / 2 = (h : Int) := by omega
      have hd0 : (0 : Int) ≤ (i : Int) + (j : Int) := by omega
      have hm : ((i : Int) + (j : Int)) % 18446744073709551616 = (i : Int) + (j : Int) := by omega
      clear hh
      obtain ⟨bb, off, rfl, hbb, p0, p1, p2, p3, p4⟩ := HA.out wr (below_of_new HBW.out) h hhn
      have FO1 := Lib.hid (fun wx => FO.out h hhn wx)
      have hL := HLO1.out h hhn
      have hH := HHI1.out h hhn
      generalize ordI l[h] ⟨x1, x2, x3, x4, x5⟩ = ord at *
      generalize l[h] = y at *
      obtain ⟨y1, y2, y3, y4, y5⟩ := y
      simp only at FO1 p0 p1 p2 p3 p4
      have hh0 : (0 : Int) ≤ (h : Int) := by omega
      have htn : ((h : Int)).toNat = h := rfl
      have hdd : (∃ q, decide (ord < 0) = q) := ⟨_, rfl⟩
      obtain ⟨q, hq⟩ := hdd
      rw [hq] at hL hH
      have HL := Lib.hid hL
      have HH := Lib.hid hH
      clear hL hH
      go_wp2_with fail
      refine Bag.region (fun wx => Below wr.heap.size wr wx) (by kernel_rfl) (by kernel_rfl) (Below.refl _ _).drew ?_
      iterate 8 (first
          | (apply Bag.walk_yes (by rfl)
             (intro wx hx K hK
              have q0 := (hx.cell (p := ⟨bb, off + h * 5, none⟩) hbb).trans p0
              have q1 := (hx.cell (p := ⟨bb, off + h * 5 + 1, none⟩) hbb).trans p1
              have q2 := (hx.cell (p := ⟨bb, off + h * 5 + 2, none⟩) hbb).trans p2
              have q3 := (hx.cell (p := ⟨bb, off + h * 5 + 3, none⟩) hbb).trans p3
              have q4 := (hx.cell (p := ⟨bb, off + h * 5 + 4, none⟩) hbb).trans p4
              obtain ⟨z0, z1, z2, z3, z4⟩ := enRowCells (((HBW.out.trans (hx.mono hzr)).block w.heap.size (by omega)).trans (heap_alloc_new w _))
              first
                | (go_simp
                   first
                    | (go_at_call 84; (with_reducible refine (FO1.out _).mono ?_); rintro e w' ⟨rfl, hb⟩; exact hK _ (hx.trans (hb.mono hx.size)))
                    | (go_at_K; exact hK _ hx)))
             rfl)
          | (refine Bag.walk_no (by rfl) ?_; simp only [Act.put, List.setIfInBounds_toArray, List.set_cons_succ, List.set_cons_zero]))
      refine Bag.walk_nil (fun w5 hb5 => ?_)
      have HB5 := Lib.hid (HBW.out.trans (hb5.mono hzr))
      clear hb5 p0 p1 p2 p3 p4
      cases q
      case true =>
        have hfin := HL.out rfl
        go_wp2_with fail
        go_roundw
        case rel => exact ⟨h + 1, j, hfin, hj, hjn, by go_num, rfl, HB5.out⟩
        case measure => simp [intOf]; omega
      case false =>
        have hfin := HH.out rfl
        go_wp2_with fail
        go_roundw
        case rel => exact ⟨i, h, hi, hfin, by omega, rfl, rfl, HB5.out⟩
        case measure => simp [intOf]; omega
    case neg =>
      have hij : i = P := by omega
      subst hij
      by_cases hn : i < l.length
      case pos =>
        obtain ⟨bb, off, rfl, hbb, p0, p1, p2, p3, p4⟩ := HA.out wr (below_of_new HBW.out) i hn
        have FO1 := Lib.hid (fun wx => FO.out i hn wx)
        have hF := HFN1.out hn
        generalize ordI l[i] ⟨x1, x2, x3, x4, x5⟩ = ord at *
        generalize l[i] = y at *
        obtain ⟨y1, y2, y3, y4, y5⟩ := y
        simp only at FO1 p0 p1 p2 p3 p4
        have hh0 : (0 : Int) ≤ (i : Int) := by omega
        have htn : ((i : Int)).toNat = i := rfl
        have hq : (ord == 0) = FD := by rw [hF]; rfl
        clear hF
        have hd1 : decide (i < l.length) = true := decide_eq_true hn
        have hd2 : decide ((i : Int) < (l.length : Int)) = true := decide_eq_true (by omega)
        go_wp2_with fail
        refine Bag.region (fun wx => Below wr.heap.size wr wx) (by kernel_rfl) (by kernel_rfl) (Below.refl _ _).drew ?_
        iterate 16 (first
            | (apply Bag.walk_yes (by rfl)
               (intro wx hx K hK
                have q0 := (hx.cell (p := ⟨bb, off + i * 5, none⟩) hbb).trans p0
                have q1 := (hx.cell (p := ⟨bb, off + i * 5 + 1, none⟩) hbb).trans p1
                have q2 := (hx.cell (p := ⟨bb, off + i * 5 + 2, none⟩) hbb).trans p2
                have q3 := (hx.cell (p := ⟨bb, off + i * 5 + 3, none⟩) hbb).trans p3
                have q4 := (hx.cell (p := ⟨bb, off + i * 5 + 4, none⟩) hbb).trans p4
                obtain ⟨z0, z1, z2, z3, z4⟩ := enRowCells (((HBW.out.trans (hx.mono hzr)).block w.heap.size (by omega)).trans (heap_alloc_new w _))
                first
                  | (go_simp
                     first
                      | (go_at_call 84; (with_reducible refine (FO1.out _).mono ?_); rintro e w' ⟨rfl, hb⟩; exact hK _ (hx.trans (hb.mono hx.size)))
                      | (go_at_K; exact hK _ hx)))
               rfl)
            | (refine Bag.walk_no (by rfl) ?_; simp only [Act.put, List.setIfInBounds_toArray, List.set_cons_succ, List.set_cons_zero]))
        refine Bag.walk_nil (fun w5 hb5 => ?_)
        have HB5 := Lib.hid (below_of_new (HBW.out.trans (hb5.mono hzr)))
        clear hb5 p0 p1 p2 p3 p4
        go_wp2_with fail
        go_ret2
        exact ⟨rfl, HB5.out⟩
      case neg =>
        have hF := HFE1.out hn
        have hd1 : decide (i < l.length) = false := decide_eq_false hn
        have hd2 : decide ((i : Int) < (l.length : Int)) = false := decide_eq_false (by omega)
        subst hF
        go_wp2_with fail
        refine Bag.region (fun wx => Below wr.heap.size wr wx) (by kernel_rfl) (by kernel_rfl) (Below.refl _ _).drew ?_
        iterate 16 (first
            | (apply Bag.walk_yes (by rfl)
               (intro wx hx K hK
                first
                  | (go_simp
                     first
                      | (go_at_K; exact hK _ hx)))
               rfl)
            | (refine Bag.walk_no (by rfl) ?_; simp only [Act.put, List.setIfInBounds_toArray, List.set_cons_succ, List.set_cons_zero]))
        refine Bag.walk_nil (fun w5 hb5 => ?_)
        have HB5 := Lib.hid (below_of_new (HBW.out.trans (hb5.mono hzr)))
        clear hb5
        go_wp2_with fail
        go_ret2
        exact ⟨rfl, HB5.out⟩
end
end Go.Proofs.Ytifbkoaggjikpaa
