/- The law RecordApart: different valid records have different bytes, and rows of records have the same bytes only if they are equal. No condition. -/
import Derived.Test.YtapkookehogddaaRcOpen
import Derived.Test.YtapkookehogddaaGhostP
namespace Go.Proofs.Ytapkookehogddaa
open Go.RowKit Ghost Go.ChangeShapes Go.WideShapes Go.ChangeAt Go.Deep

def rvP (l : List Rc) : Pd := ⟨fun w v => RV w v l, fun _ _ _ h hb => h.below hb⟩
theorem ba_ne {l m : List UInt8} (h : ¬ l = m) : ((⟨l.toArray⟩ : ByteArray).toList == (⟨m.toArray⟩ : ByteArray).toList) = false := by
  rw [beq_eq_false_iff_ne, ByteArray.toList_eq, ByteArray.toList_eq]
  simpa using h
theorem six_eq {b : BldD} {r s : Rc} (h : Rc.okB b r = true) (k : Rc.okB b s = true) (hne : ¬ r = s) : ¬ Rc.six r = Rc.six s := fun e => hne (Rc.six_inj h k e)
theorem join_eq {b : BldD} {x y : List Rc} (h : ∀ r ∈ x, Rc.okB b r = true) (k : ∀ r ∈ y, Rc.okB b r = true) (hne : ¬ x = y) : ¬ Rc.joinS x = Rc.joinS y := fun e => hne (Rc.join_inj h k e)

set_option maxRecDepth 100000 in
set_option maxHeartbeats 8000000 in
theorem lawApart_nat (n : Nat) (v : Value) (ns : List Nat) (v' : Value) (ms : List Nat) (w : World) (hn : n < 256) (hv : VV w v (u8s ns)) (hns : ∀ z ∈ ns, z < 256) (hnl : ns.length ≤ maxLen) (hv' : VV w v' (u8s ms)) (hms : ∀ z ∈ ms, z < 256) (hml : ms.length ≤ maxLen) :
    Calls Try.prog 6 #[.int .u8 n, v, v'] w fun e w' => e = .returned (.bool true) ∧ Below w.heap.size w w' := by
  have HV := Lib.hid hv
  have HV' := Lib.hid hv'
  have HOK := Lib.hid (recsN_ok (n := n) hns 20)
  have HOK' := Lib.hid (recsN_ok (n := n) hms 20)
  have HRL := Lib.hid (recsN_len n ns 20)
  have HRL' := Lib.hid (recsN_len n ms 20)
  have hREC := fun A cap wx (hv : VV wx v (u8s ns)) => recsN_any n A cap ns hns hnl v 20 (by omega) wx hv
  have hREC' := fun A cap wx (hv : VV wx v' (u8s ms)) => recsN_any n A cap ms hms hml v' 20 (by omega) wx hv
  rw [show ((20 : Nat) : Int) = 20 from rfl] at hREC hREC'
  have HREC := Lib.hid hREC
  have HREC' := Lib.hid hREC'
  have hlen : (bldN n).cars.length ≤ 8 := by rw [bldN_len]; omega
  have HBD := Lib.hid (fun wx => bldN_any n wx hn)
  clear hREC hREC'
  generalize recsN n ns 20 = x at *
  generalize recsN n ms 20 = y at *
  generalize bldN n = b at *
  clear hns hnl hv hms hml hv'
  have FE := Lib.hid (fun A cap q wx (hq : Rc.okB b q = true) (hc : CarsAt wx wx.heap.size A b.cars) => by
    have h := encode_any b A cap q wx (by omega) hc
    rw [show Rc.encS b q = ⟨(Rc.six q).toArray⟩ by unfold Rc.encS; rw [hq]; rfl, show Rc.encE b q = 0 by unfold Rc.encE; rw [hq]; rfl] at h
    exact h)
  have HSE := Lib.hid (fun r s (h : Rc.okB b r = true) (k : Rc.okB b s = true) hne => six_eq h k hne)
  have HJE := Lib.hid (fun hne => join_eq HOK.out HOK'.out hne)
  clear hlen
  obtain ⟨f, d, r, p, e1, e2, e3, cs⟩ := b
  simp only [BldD.agg] at *
  generalize (BldD.mk f d r p e1 e2 e3 cs) = b at *
  go_enter Try.func6, Try.ntmps6
  go_wp2_with fail
  refine (HBD.out _).mono ?_
  rintro e w1 ⟨hb1, A, cap, rfl, hcars⟩
  have HC := Lib.hid hcars
  have HB1 := Lib.hid hb1
  clear hcars hb1
  have HBOX := Lib.hid (fun wx (h : Below (w1.heap.size + 1) (w1.alloc (.cells #[.int .i64 f, .int .i64 d, .int .i64 r, .int .i64 p, .float .f64 e1, .float .f64 e2, .float .f64 e3, .slice A cs.length cap] 28)) wx) => boxRow ((h.block w1.heap.size (by simp)).trans (heap_alloc_new w1 _)))
  have HCX := Lib.hid (fun wx (h : Below (w1.heap.size + 1) (w1.alloc (.cells #[.int .i64 f, .int .i64 d, .int .i64 r, .int .i64 p, .float .f64 e1, .float .f64 e2, .float .f64 e3, .slice A cs.length cap] 28)) wx) => show CarsAt wx wx.heap.size A cs from (HC.out.below (below_of_new h)).more (by have := h.size; simp at this; omega))
  have hst : Below (w1.heap.size + 1) (w1.alloc (.cells #[.int .i64 f, .int .i64 d, .int .i64 r, .int .i64 p, .float .f64 e1, .float .f64 e2, .float .f64 e3, .slice A cs.length cap] 28)) (w1.alloc (.cells #[.int .i64 f, .int .i64 d, .int .i64 r, .int .i64 p, .float .f64 e1, .float .f64 e2, .float .f64 e3, .slice A cs.length cap] 28)) := Below.refl _ _
  have HST := Lib.hid hst
  clear hst
  have HVX := Lib.hid (fun wx (h : Below (w1.heap.size + 1) (w1.alloc (.cells #[.int .i64 f, .int .i64 d, .int .i64 r, .int .i64 p, .float .f64 e1, .float .f64 e2, .float .f64 e3, .slice A cs.length cap] 28)) wx) => HV.out.below (HB1.out.trans ((below_of_new h).mono HB1.out.size)))
  have HVX' := Lib.hid (fun wx (h : Below (w1.heap.size + 1) (w1.alloc (.cells #[.int .i64 f, .int .i64 d, .int .i64 r, .int .i64 p, .float .f64 e1, .float .f64 e2, .float .f64 e3, .slice A cs.length cap] 28)) wx) => HV'.out.below (HB1.out.trans ((below_of_new h).mono HB1.out.size)))
  go_wp2_with fail
  refine GhostV.ghost (fun γ L wx => GP ((w1.alloc (.cells #[.int .i64 f, .int .i64 d, .int .i64 r, .int .i64 p, .float .f64 e1, .float .f64 e2, .float .f64 e3, .slice A cs.length cap] 28))) [(2, rvP x), (5, rvP y), (6, rvP x), (7, rvP y)] γ L wx) (by kernel_rfl) (by kernel_rfl) (fun γ => GP.start _ _ γ) ?_
  apply GhostV.walk_const (fun γ => by rfl)
  · intro γ L wx h1 h2 hx K hK
    have HXx := HST.out.trans (hx.below.mono (by simp))
    obtain ⟨c0, c1, c2, c3, c4, c5, c6, c7⟩ := HBOX.out _ HXx
    have HK2 := Lib.hid hK
    have HX := Lib.hid hx
    have H2 := Lib.hid h2
    clear hK h1 h2 hx
    go_simp
    first
      | exact HK2.out _ (HX.out.next _ (by rfl) (Below.refl _ _))
  try simp only [Act.put, List.setIfInBounds_toArray, List.set_cons_succ, List.set_cons_zero]
  apply GhostV.walk_const (fun γ => by rfl)
  · intro γ L wx h1 h2 hx K hK
    have HXx := HST.out.trans (hx.below.mono (by simp))
    obtain ⟨c0, c1, c2, c3, c4, c5, c6, c7⟩ := HBOX.out _ HXx
    have HK2 := Lib.hid hK
    have HX := Lib.hid hx
    have H2 := Lib.hid h2
    clear hK h1 h2 hx
    go_simp
    first
      | exact HK2.out _ (HX.out.next _ (by rfl) (Below.refl _ _))
  try simp only [Act.put, List.setIfInBounds_toArray, List.set_cons_succ, List.set_cons_zero]
  refine GhostV.walk_yes (fun b => b) (fun γ => by rfl) ?_ ?_
  · intro γ L wx h1 h2 hx K hK
    have HXx := HST.out.trans (hx.below.mono (by simp))
    obtain ⟨c0, c1, c2, c3, c4, c5, c6, c7⟩ := HBOX.out _ HXx
    have HK2 := Lib.hid hK
    have HX := Lib.hid hx
    have H2 := Lib.hid h2
    clear hK h1 h2 hx
    go_simp
    (go_at_call 16; refine (HREC.out _ _ _ (HVX.out _ HXx)).mono ?_; rintro e w' ⟨u, rfl, hu, hb⟩; exact HK2.out _ _ (HX.out.make (by simp only [List.mem_cons, List.not_mem_nil, or_false]; rintro d (rfl | rfl | rfl | rfl) h; (· exact hu); (· cases h); (· cases h); (· cases h)) hb))
  try simp only [Act.put, List.setIfInBounds_toArray, List.set_cons_succ, List.set_cons_zero]
  apply GhostV.walk_const (fun γ => by rfl)
  · intro γ L wx h1 h2 hx K hK
    have HXx := HST.out.trans (hx.below.mono (by simp))
    obtain ⟨c0, c1, c2, c3, c4, c5, c6, c7⟩ := HBOX.out _ HXx
    have HK2 := Lib.hid hK
    have HX := Lib.hid hx
    have H2 := Lib.hid h2
    clear hK h1 h2 hx
    go_simp
    first
      | exact HK2.out _ (HX.out.next _ (by rfl) (Below.refl _ _))
  try simp only [Act.put, List.setIfInBounds_toArray, List.set_cons_succ, List.set_cons_zero]
  apply GhostV.walk_const (fun γ => by rfl)
  · intro γ L wx h1 h2 hx K hK
    have HXx := HST.out.trans (hx.below.mono (by simp))
    obtain ⟨c0, c1, c2, c3, c4, c5, c6, c7⟩ := HBOX.out _ HXx
    have HK2 := Lib.hid hK
    have HX := Lib.hid hx
    have H2 := Lib.hid h2
    clear hK h1 h2 hx
    go_simp
    first
      | exact HK2.out _ (HX.out.next _ (by rfl) (Below.refl _ _))
  try simp only [Act.put, List.setIfInBounds_toArray, List.set_cons_succ, List.set_cons_zero]
  refine GhostV.walk_yes (fun b => b) (fun γ => by rfl) ?_ ?_
  · intro γ L wx h1 h2 hx K hK
    have HXx := HST.out.trans (hx.below.mono (by simp))
    obtain ⟨c0, c1, c2, c3, c4, c5, c6, c7⟩ := HBOX.out _ HXx
    have HK2 := Lib.hid hK
    have HX := Lib.hid hx
    have H2 := Lib.hid h2
    clear hK h1 h2 hx
    go_simp
    (go_at_call 16; refine (HREC'.out _ _ _ (HVX'.out _ HXx)).mono ?_; rintro e w' ⟨u, rfl, hu, hb⟩; exact HK2.out _ _ (HX.out.make (by simp only [List.mem_cons, List.not_mem_nil, or_false]; rintro d (rfl | rfl | rfl | rfl) h; (· cases h); (· exact hu); (· cases h); (· cases h)) hb))
  try simp only [Act.put, List.setIfInBounds_toArray, List.set_cons_succ, List.set_cons_zero]
  refine GhostV.walk_yes (fun b => b) (fun γ => by rfl) ?_ ?_
  · intro γ L wx h1 h2 hx K hK
    have HXx := HST.out.trans (hx.below.mono (by simp))
    obtain ⟨c0, c1, c2, c3, c4, c5, c6, c7⟩ := HBOX.out _ HXx
    have HK2 := Lib.hid hK
    have HX := Lib.hid hx
    have H2 := Lib.hid h2
    clear hK h1 h2 hx
    go_simp
    (exact HK2.out (γ 2) _ (HX.out.make (by simp only [List.mem_cons, List.not_mem_nil, or_false]; rintro d (rfl | rfl | rfl | rfl) h; (· cases h); (· cases h); (· exact HX.out.row (2, rvP x) (by simp) (H2.out 2 (by kernel_rfl))); (· cases h)) (Below.refl _ _)))
  try simp only [Act.put, List.setIfInBounds_toArray, List.set_cons_succ, List.set_cons_zero]
  refine GhostV.walk_yes (fun b => b) (fun γ => by rfl) ?_ ?_
  · intro γ L wx h1 h2 hx K hK
    have HXx := HST.out.trans (hx.below.mono (by simp))
    obtain ⟨c0, c1, c2, c3, c4, c5, c6, c7⟩ := HBOX.out _ HXx
    have HK2 := Lib.hid hK
    have HX := Lib.hid hx
    have H2 := Lib.hid h2
    clear hK h1 h2 hx
    go_simp
    (exact HK2.out (γ 5) _ (HX.out.make (by simp only [List.mem_cons, List.not_mem_nil, or_false]; rintro d (rfl | rfl | rfl | rfl) h; (· cases h); (· cases h); (· cases h); (· exact HX.out.row (5, rvP y) (by simp) (H2.out 5 (by kernel_rfl)))) (Below.refl _ _)))
  try simp only [Act.put, List.setIfInBounds_toArray, List.set_cons_succ, List.set_cons_zero]
  refine GhostV.walk_nil (fun γ L w2 hall hG => ?_)
  obtain ⟨A2, cp2, hu1, hx2⟩ := hG.row (6, rvP x) (by simp) (hall 6 (by decide))
  obtain ⟨A3, cp3, hu2, hx3⟩ := hG.row (7, rvP y) (by simp) (hall 7 (by decide))
  have HX2 := Lib.hid (HST.out.trans (hG.below.mono (by simp)))
  have hsz2 := box_size HX2.out
  have HR2 := Lib.hid hx2
  have HR3 := Lib.hid hx3
  clear hG hall hx2 hx3
  simp only at hu1 hu2
  try simp only [Nat.zero_add, Nat.reduceAdd]
  generalize γ 6 = g2 at *
  generalize γ 7 = g5 at *
  subst hu1 hu2
  generalize γ 2 = a2
  generalize γ 5 = a5
  go_wp2_with fail
  go_loopw [10, 12] (fun s i wr => ∃ k : Nat, k ≤ x.length ∧ i = .int .i64 k ∧ s = .string ⟨(Rc.joinS (x.take k)).toArray⟩ ∧ Below w2.heap.size w2 wr) (fun _ i _ => x.length - (intOf i).toNat)
  case atStart => exact ⟨0, Nat.zero_le _, rfl, rfl, Below.refl _ _⟩
  case round =>
    obtain ⟨k, hk, rfl, rfl, hbw⟩ := hrel
    have HX3 := Lib.hid (HX2.out.trans (hbw.mono hsz2))
    have HBW := Lib.hid hbw
    have hszr := hbw.size
    clear hbw
    have hxl := HRL.out
    have hyl := HRL'.out
    by_cases hlt : k < x.length
    · have hok := HOK.out (x[k]) (List.getElem_mem hlt)
      have HJ := Lib.hid (join_next x hlt)
      obtain ⟨bb, off, rfl, hbb, r0, r1, r2, r3, r4⟩ := (HR2.out.below HBW.out).at_ hlt
      have FE1 := Lib.hid (fun wx (h : Below (w1.heap.size + 1) (w1.alloc (.cells #[.int .i64 f, .int .i64 d, .int .i64 r, .int .i64 p, .float .f64 e1, .float .f64 e2, .float .f64 e3, .slice A cs.length cap] 28)) wx) => FE.out A cap _ wx hok (HCX.out wx h))
      have HS1 := Lib.hid (fun s (h : Rc.okB b s = true) (hne : ¬ x[k]'hlt = s) => HSE.out (x[k]) s hok h hne)
      have h6 := six_size (x[k])
      have HEQ := Lib.hid (fun s wx => eqlRc (x[k]) s wx)
      have HSX := Lib.hid (fun s (h : x[k] = s) => (congrArg Rc.six h : Rc.six (x[k]) = Rc.six s))
      generalize Rc.six (x[k]) = S6 at *
      generalize x[k] = yk at *
      obtain ⟨y0, y1, y2, y3, y4⟩ := yk
      simp only [Rc.agg] at r0 r1 r2 r3 r4 FE1 HEQ
      have hjz : ¬ 9223372036854775807 < (⟨(Rc.joinS (x.take k)).toArray⟩ : ByteArray).size + (⟨S6.toArray⟩ : ByteArray).size := by
        rw [h6, join_size, List.length_take]; have := HRL.out; omega
      generalize (⟨(Rc.joinS (x.take k)).toArray⟩ : ByteArray) = J at *
      clear hok
      go_wp2_with fail
      have R0 := Lib.hid (And.intro r0 (And.intro r1 (And.intro r2 (And.intro r3 r4))))
      clear r0 r1 r2 r3 r4
      refine Bag.region (fun wx => Below wr.heap.size wr wx) (by kernel_rfl) (by kernel_rfl) (Below.refl _ _).drew ?_
      iterate 11 (first
          | (apply Bag.walk_yes (by rfl)
             (intro wx hx K hK
              have HXx := HX3.out.trans (hx.mono (box_size HX3.out))
              obtain ⟨c0, c1, c2, c3, c4, c5, c6, c7⟩ := HBOX.out _ HXx
              have r0 := (hx.cell (p := ⟨bb, off + k * 5, none⟩) hbb).trans R0.out.1
              have r1 := (hx.cell (p := ⟨bb, off + k * 5 + 1, none⟩) hbb).trans R0.out.2.1
              have r2 := (hx.cell (p := ⟨bb, off + k * 5 + 2, none⟩) hbb).trans R0.out.2.2.1
              have r3 := (hx.cell (p := ⟨bb, off + k * 5 + 3, none⟩) hbb).trans R0.out.2.2.2.1
              have r4 := (hx.cell (p := ⟨bb, off + k * 5 + 4, none⟩) hbb).trans R0.out.2.2.2.2
              first
                | (go_simp
                   first
                    | (go_at_call 9; refine (FE1.out _ HXx).mono ?_; rintro e x1 ⟨rfl, hb⟩; exact hK _ (hx.trans (hb.mono hx.size)))
                    | (go_at_K; exact hK _ hx)))
             rfl)
          | (refine Bag.walk_no (by rfl) ?_; simp only [Act.put, List.setIfInBounds_toArray, List.set_cons_succ, List.set_cons_zero]))
      refine Bag.walk_nil (fun w4 hbe => ?_)
      have HX4 := Lib.hid (HX3.out.trans (hbe.mono (box_size HX3.out)))
      have HB4 := Lib.hid (HBW.out.trans (hbe.mono HBW.out.size))
      have HR4 := Lib.hid (And.intro ((hbe.cell (p := ⟨bb, off + k * 5, none⟩) hbb).trans R0.out.1) (And.intro ((hbe.cell (p := ⟨bb, off + k * 5 + 1, none⟩) hbb).trans R0.out.2.1) (And.intro ((hbe.cell (p := ⟨bb, off + k * 5 + 2, none⟩) hbb).trans R0.out.2.2.1) (And.intro ((hbe.cell (p := ⟨bb, off + k * 5 + 3, none⟩) hbb).trans R0.out.2.2.2.1) ((hbe.cell (p := ⟨bb, off + k * 5 + 4, none⟩) hbb).trans R0.out.2.2.2.2)))))
      have hbb4 : bb < w4.heap.size := Nat.lt_of_lt_of_le hbb hbe.size
      clear hbe
      go_wp2_with fail
      go_loopw [15] (fun v wr2 => ∃ q : Nat, q ≤ y.length ∧ v = .int .i64 q ∧ Below w4.heap.size w4 wr2) (fun v _ => y.length - (intOf v).toNat)
      case atStart => exact ⟨0, by omega, rfl, Below.refl _ _⟩
      case round =>
        obtain ⟨q, hq, rfl, hbq⟩ := hrel
        have HQ4 := Lib.hid hbq
        have HXq := Lib.hid (HX4.out.trans (hbq.mono (box_size HX4.out)))
        have HBq := Lib.hid (HB4.out.trans (hbq.mono HB4.out.size))
        clear hbq
        by_cases hqy : q < y.length
        · have hok' := HOK'.out (y[q]) (List.getElem_mem hqy)
          obtain ⟨bb2, off2, rfl, hbb2, r0, r1, r2, r3, r4⟩ := (HR3.out.below HBq.out).at_ hqy
          have FE2 := Lib.hid (fun wx (h : Below (w1.heap.size + 1) (w1.alloc (.cells #[.int .i64 f, .int .i64 d, .int .i64 r, .int .i64 p, .float .f64 e1, .float .f64 e2, .float .f64 e3, .slice A cs.length cap] 28)) wx) => FE.out A cap _ wx hok' (HCX.out wx h))
          have HNE := Lib.hid (HS1.out (y[q]) hok')
          have HEQ2 := Lib.hid (fun wx => HEQ.out (y[q]) wx)
          have HSX2 := Lib.hid (HSX.out (y[q]))
          generalize Rc.six (y[q]) = T6 at *
          generalize y[q] = z at *
          obtain ⟨z0, z1, z2, z3, z4⟩ := z
          simp only [Rc.agg] at r0 r1 r2 r3 r4 FE2 HEQ2
          clear hok'
          go_wp2_with fail
          have R2 := Lib.hid (And.intro r0 (And.intro r1 (And.intro r2 (And.intro r3 r4))))
          clear r0 r1 r2 r3 r4
          refine Bag.region (fun wx => Below wr.heap.size wr wx) (by kernel_rfl) (by kernel_rfl) (Below.refl _ _).drew ?_
          iterate 11 (first
              | (apply Bag.walk_yes (by rfl)
                 (intro wx hx K hK
                  have HXx := HXq.out.trans (hx.mono (box_size HXq.out))
                  obtain ⟨c0, c1, c2, c3, c4, c5, c6, c7⟩ := HBOX.out _ HXx
                  have r0 := (hx.cell (p := ⟨bb2, off2 + q * 5, none⟩) hbb2).trans R2.out.1
                  have r1 := (hx.cell (p := ⟨bb2, off2 + q * 5 + 1, none⟩) hbb2).trans R2.out.2.1
                  have r2 := (hx.cell (p := ⟨bb2, off2 + q * 5 + 2, none⟩) hbb2).trans R2.out.2.2.1
                  have r3 := (hx.cell (p := ⟨bb2, off2 + q * 5 + 3, none⟩) hbb2).trans R2.out.2.2.2.1
                  have r4 := (hx.cell (p := ⟨bb2, off2 + q * 5 + 4, none⟩) hbb2).trans R2.out.2.2.2.2
                  first
                    | (go_simp
                       first
                        | (go_at_call 9; refine (FE2.out _ HXx).mono ?_; rintro e x1 ⟨rfl, hb⟩; exact hK _ (hx.trans (hb.mono hx.size)))
                        | (go_at_K; exact hK _ hx)))
                 rfl)
              | (refine Bag.walk_no (by rfl) ?_; simp only [Act.put, List.setIfInBounds_toArray, List.set_cons_succ, List.set_cons_zero]))
          refine Bag.walk_nil (fun w5 hbe => ?_)
          have HX5 := Lib.hid (HXq.out.trans (hbe.mono (box_size HXq.out)))
          have HB45 := Lib.hid (HQ4.out.trans (hbe.mono HQ4.out.size))
          have HBE := Lib.hid hbe
          clear hbe
          go_wp2_with fail
          by_cases hyz : (⟨y0, y1, y2, y3, y4⟩ : Rc) = ⟨z0, z1, z2, z3, z4⟩
          · obtain rfl : S6 = T6 := HSX2.out hyz
            have hse : ((⟨S6.toArray⟩ : ByteArray).toList == (⟨S6.toArray⟩ : ByteArray).toList) = true := beq_self_eq_true _
            have hre : Rc.eqB ⟨y0, y1, y2, y3, y4⟩ ⟨z0, z1, z2, z3, z4⟩ = true := decide_eq_true hyz
            have hrb := fun wx => HEQ2.out wx
            rw [hre] at hrb
            clear hre hyz
            refine Bag.region (fun wx => Below w5.heap.size w5 wx) (by kernel_rfl) (by kernel_rfl) (Below.refl _ _).drew ?_
            iterate 17 (first
                | (apply Bag.walk_yes (by rfl)
                   (intro wx hx K hK
                    have h45 := HB45.out.trans (hx.mono HB45.out.size)
                    have hr5 := HBE.out.trans (hx.mono HBE.out.size)
                    have r0 := (h45.cell (p := ⟨bb, off + k * 5, none⟩) hbb4).trans HR4.out.1
                    have r1 := (h45.cell (p := ⟨bb, off + k * 5 + 1, none⟩) hbb4).trans HR4.out.2.1
                    have r2 := (h45.cell (p := ⟨bb, off + k * 5 + 2, none⟩) hbb4).trans HR4.out.2.2.1
                    have r3 := (h45.cell (p := ⟨bb, off + k * 5 + 3, none⟩) hbb4).trans HR4.out.2.2.2.1
                    have r4 := (h45.cell (p := ⟨bb, off + k * 5 + 4, none⟩) hbb4).trans HR4.out.2.2.2.2
                    have s0 := (hr5.cell (p := ⟨bb2, off2 + q * 5, none⟩) hbb2).trans R2.out.1
                    have s1 := (hr5.cell (p := ⟨bb2, off2 + q * 5 + 1, none⟩) hbb2).trans R2.out.2.1
                    have s2 := (hr5.cell (p := ⟨bb2, off2 + q * 5 + 2, none⟩) hbb2).trans R2.out.2.2.1
                    have s3 := (hr5.cell (p := ⟨bb2, off2 + q * 5 + 3, none⟩) hbb2).trans R2.out.2.2.2.1
                    have s4 := (hr5.cell (p := ⟨bb2, off2 + q * 5 + 4, none⟩) hbb2).trans R2.out.2.2.2.2
                    first
                      | (go_simp
                         first
                          | (go_at_K; exact hK _ hx)))
                   rfl)
                | (refine Bag.walk_no (by rfl) ?_; simp only [Act.put, List.setIfInBounds_toArray, List.set_cons_succ, List.set_cons_zero]))
            refine Bag.walk_nil (fun w6 hb6 => ?_)
            have HB6 := Lib.hid (HB45.out.trans (hb6.mono HB45.out.size))
            clear hb6
            go_wp2_with fail
            go_roundw
            case rel => exact ⟨q + 1, by omega, by go_num, HB6.out⟩
            case measure => simp [intOf]; omega
          · have hst := HNE.out hyz
            have hse := ba_ne hst
            have hsd : (S6 == T6) = false := beq_eq_false_iff_ne.2 hst
            have hre : Rc.eqB ⟨y0, y1, y2, y3, y4⟩ ⟨z0, z1, z2, z3, z4⟩ = false := decide_eq_false hyz
            have hrb := fun wx => HEQ2.out wx
            rw [hre] at hrb
            clear hre hyz
            refine Bag.region (fun wx => Below w5.heap.size w5 wx) (by kernel_rfl) (by kernel_rfl) (Below.refl _ _).drew ?_
            iterate 17 (first
                | (apply Bag.walk_yes (by rfl)
                   (intro wx hx K hK
                    have h45 := HB45.out.trans (hx.mono HB45.out.size)
                    have hr5 := HBE.out.trans (hx.mono HBE.out.size)
                    have r0 := (h45.cell (p := ⟨bb, off + k * 5, none⟩) hbb4).trans HR4.out.1
                    have r1 := (h45.cell (p := ⟨bb, off + k * 5 + 1, none⟩) hbb4).trans HR4.out.2.1
                    have r2 := (h45.cell (p := ⟨bb, off + k * 5 + 2, none⟩) hbb4).trans HR4.out.2.2.1
                    have r3 := (h45.cell (p := ⟨bb, off + k * 5 + 3, none⟩) hbb4).trans HR4.out.2.2.2.1
                    have r4 := (h45.cell (p := ⟨bb, off + k * 5 + 4, none⟩) hbb4).trans HR4.out.2.2.2.2
                    have s0 := (hr5.cell (p := ⟨bb2, off2 + q * 5, none⟩) hbb2).trans R2.out.1
                    have s1 := (hr5.cell (p := ⟨bb2, off2 + q * 5 + 1, none⟩) hbb2).trans R2.out.2.1
                    have s2 := (hr5.cell (p := ⟨bb2, off2 + q * 5 + 2, none⟩) hbb2).trans R2.out.2.2.1
                    have s3 := (hr5.cell (p := ⟨bb2, off2 + q * 5 + 3, none⟩) hbb2).trans R2.out.2.2.2.1
                    have s4 := (hr5.cell (p := ⟨bb2, off2 + q * 5 + 4, none⟩) hbb2).trans R2.out.2.2.2.2
                    first
                      | (go_simp
                         first
                          | (go_at_K; exact hK _ hx)))
                   rfl)
                | (refine Bag.walk_no (by rfl) ?_; simp only [Act.put, List.setIfInBounds_toArray, List.set_cons_succ, List.set_cons_zero]))
            refine Bag.walk_nil (fun w6 hb6 => ?_)
            have HB6 := Lib.hid (HB45.out.trans (hb6.mono HB45.out.size))
            clear hb6
            go_wp2_with fail
            go_roundw
            case rel => exact ⟨q + 1, by omega, by go_num, HB6.out⟩
            case measure => simp [intOf]; omega
        · obtain rfl : q = y.length := by omega
          go_wp2_with fail
          go_roundw
          case rel => exact ⟨k + 1, by omega, by go_num, by rw [← HJ.out], HBq.out⟩
          case measure => simp [intOf]; omega
    · obtain rfl : k = x.length := by omega
      rw [List.take_length]
      go_wp2_with fail
      go_loopw [11, 18] (fun s i wr2 => ∃ q : Nat, q ≤ y.length ∧ i = .int .i64 q ∧ s = .string ⟨(Rc.joinS (y.take q)).toArray⟩ ∧ Below wr.heap.size wr wr2) (fun _ i _ => y.length - (intOf i).toNat)
      case atStart => exact ⟨0, Nat.zero_le _, rfl, rfl, Below.refl _ _⟩
      case round =>
        obtain ⟨q, hq, rfl, rfl, hbq⟩ := hrel
        have HXq := Lib.hid (HX3.out.trans (hbq.mono (box_size HX3.out)))
        have HBq := Lib.hid (HBW.out.trans (hbq.mono HBW.out.size))
        have HQR := Lib.hid hbq
        clear hbq
        by_cases hqy : q < y.length
        · have hok' := HOK'.out (y[q]) (List.getElem_mem hqy)
          have HJ := Lib.hid (join_next y hqy)
          obtain ⟨bb2, off2, rfl, hbb2, r0, r1, r2, r3, r4⟩ := (HR3.out.below HBq.out).at_ hqy
          have FE2 := Lib.hid (fun wx (h : Below (w1.heap.size + 1) (w1.alloc (.cells #[.int .i64 f, .int .i64 d, .int .i64 r, .int .i64 p, .float .f64 e1, .float .f64 e2, .float .f64 e3, .slice A cs.length cap] 28)) wx) => FE.out A cap _ wx hok' (HCX.out wx h))
          have h6 := six_size (y[q])
          generalize Rc.six (y[q]) = T6 at *
          generalize y[q] = z at *
          obtain ⟨z0, z1, z2, z3, z4⟩ := z
          simp only [Rc.agg] at r0 r1 r2 r3 r4 FE2
          have hjz : ¬ 9223372036854775807 < (⟨(Rc.joinS (y.take q)).toArray⟩ : ByteArray).size + (⟨T6.toArray⟩ : ByteArray).size := by
            rw [h6, join_size, List.length_take]; have := HRL'.out; omega
          generalize (⟨(Rc.joinS (y.take q)).toArray⟩ : ByteArray) = J at *
          clear hok'
          go_wp2_with fail
          have R2 := Lib.hid (And.intro r0 (And.intro r1 (And.intro r2 (And.intro r3 r4))))
          clear r0 r1 r2 r3 r4
          refine Bag.region (fun wx => Below wr.heap.size wr wx) (by kernel_rfl) (by kernel_rfl) (Below.refl _ _).drew ?_
          iterate 11 (first
              | (apply Bag.walk_yes (by rfl)
                 (intro wx hx K hK
                  have HXx := HXq.out.trans (hx.mono (box_size HXq.out))
                  obtain ⟨c0, c1, c2, c3, c4, c5, c6, c7⟩ := HBOX.out _ HXx
                  have r0 := (hx.cell (p := ⟨bb2, off2 + q * 5, none⟩) hbb2).trans R2.out.1
                  have r1 := (hx.cell (p := ⟨bb2, off2 + q * 5 + 1, none⟩) hbb2).trans R2.out.2.1
                  have r2 := (hx.cell (p := ⟨bb2, off2 + q * 5 + 2, none⟩) hbb2).trans R2.out.2.2.1
                  have r3 := (hx.cell (p := ⟨bb2, off2 + q * 5 + 3, none⟩) hbb2).trans R2.out.2.2.2.1
                  have r4 := (hx.cell (p := ⟨bb2, off2 + q * 5 + 4, none⟩) hbb2).trans R2.out.2.2.2.2
                  first
                    | (go_simp
                       first
                        | (go_at_call 9; refine (FE2.out _ HXx).mono ?_; rintro e x1 ⟨rfl, hb⟩; exact hK _ (hx.trans (hb.mono hx.size)))
                        | (go_at_K; exact hK _ hx)))
                 rfl)
              | (refine Bag.walk_no (by rfl) ?_; simp only [Act.put, List.setIfInBounds_toArray, List.set_cons_succ, List.set_cons_zero]))
          refine Bag.walk_nil (fun w5 hbe => ?_)
          have HB5 := Lib.hid (HQR.out.trans (hbe.mono HQR.out.size))
          clear hbe
          go_wp2_with fail
          go_roundw
          case rel => exact ⟨q + 1, by omega, by go_num, by rw [← HJ.out], HB5.out⟩
          case measure => simp [intOf]; omega
        · obtain rfl : q = y.length := by omega
          rw [List.take_length]
          have FS := Lib.hid (same9_any x y (.slice A2 x.length cp2) (.slice A3 y.length cp3) wr ⟨A2, cp2, rfl, HR2.out.below HBq.out⟩ ⟨A3, cp3, rfl, HR3.out.below HBq.out⟩ (by have := HRL.out; omega) (by have := HRL'.out; omega))
          by_cases hxy : x = y
          · subst hxy
            rw [show decide (x = x) = true from decide_eq_true rfl] at FS
            have hje : ((⟨(Rc.joinS x).toArray⟩ : ByteArray).toList == (⟨(Rc.joinS x).toArray⟩ : ByteArray).toList) = true := beq_self_eq_true _
            generalize (⟨(Rc.joinS x).toArray⟩ : ByteArray) = J at *
            go_wp2_with fail
            refine FS.out.mono ?_
            rintro e w5 ⟨rfl, hb5⟩
            have HB5 := Lib.hid (HBq.out.trans (hb5.mono HBq.out.size))
            clear hb5
            go_wp2_with fail
            refine (sane9_any _).mono ?_
            rintro e w6 ⟨rfl, hb6⟩
            have HB6 := Lib.hid (HB5.out.trans (hb6.mono HB5.out.size))
            clear hb6
            go_wp2_with fail
            go_ret
            have h26 := HX2.out.trans (HB6.out.mono hsz2)
            exact ⟨rfl, HB1.out.trans ((below_of_new h26).mono HB1.out.size)⟩
          · rw [show decide (x = y) = false from decide_eq_false hxy] at FS
            have hje := ba_ne (HJE.out hxy)
            generalize (⟨(Rc.joinS x).toArray⟩ : ByteArray) = J at *
            generalize (⟨(Rc.joinS y).toArray⟩ : ByteArray) = J2 at *
            go_wp2_with fail
            refine FS.out.mono ?_
            rintro e w5 ⟨rfl, hb5⟩
            have HB5 := Lib.hid (HBq.out.trans (hb5.mono HBq.out.size))
            clear hb5
            go_wp2_with fail
            refine (sane9_any _).mono ?_
            rintro e w6 ⟨rfl, hb6⟩
            have HB6 := Lib.hid (HB5.out.trans (hb6.mono HB5.out.size))
            clear hb6
            go_wp2_with fail
            go_ret
            have h26 := HX2.out.trans (HB6.out.mono hsz2)
            exact ⟨rfl, HB1.out.trans ((below_of_new h26).mono HB1.out.size)⟩
theorem lawRecordApart_walk (x : Int) (v : Value) (ns : List Nat) (v' : Value) (ms : List Nat) (w : World) (hx : (Lit.int .u8 x).wf = true) (hv : VV w v (u8s ns)) (hns : ∀ z ∈ ns, z < 256) (hnl : ns.length ≤ maxLen) (hv' : VV w v' (u8s ms)) (hms : ∀ z ∈ ms, z < 256) (hml : ms.length ≤ maxLen) :
    Calls Try.prog 6 #[.int .u8 x, v, v'] w fun e w' => e = .returned (.bool true) ∧ Below w.heap.size w w' := by
  obtain ⟨n, rfl, hn⟩ := u8_nat hx
  exact lawApart_nat n v ns v' ms w hn hv hns hnl hv' hms hml

set_option maxRecDepth 100000 in
theorem lawRecordApart_lifted (os : Os) (started : os.Started) (H : Type) (enc : TypeId × Value → H) :
    ReturnsInHanded {} Try.checked os 6 .any (Rows.recordApartSpec.pre6 enc Try.prog Try.f6 Rows.recordApartRow.domain false) (Rows.recordApartSpec.post enc Try.prog Try.f6 false true false false) := by
  refine returnsInHanded_of_change (C := Try.checked) own started (by kernel_rfl) Try.func6
    (ChangeSpec.witness6 (enc := enc) (C := Try.checked) false ⟨#[], #[.int .u8 0, .slice none 0 0, .slice none 0 0], []⟩ 8 (by kernel_rfl) (by kernel_rfl) (by kernel_rfl) (by kernel_rfl)) ?_
  intro W base args ds gs before hval0 hW hcnd _
  have hval : ∀ (j : Nat) t v, Try.f6.params[j]? = some t → args[j]? = some v → Value.okWide Try.prog W .any base t v := hval0
  have hW' := hW
  obtain ⟨p, q, hA0, hV, rfl, hfz, hnd⟩ := hW
  have hA : DataW.TrodAll enc Try.prog W 0 (fun _ => true) true Try.f6.params.toList args.toList ds p := hA0
  rw [Try.params6] at hA hval
  obtain ⟨v0, vs0, d0, ds0, p0, q0, hargs, rfl, rfl, h0, r0⟩ := trodAll_cons hA
  obtain ⟨v1, vs1, d1, ds1, p1, q1, rfl, rfl, rfl, h1, r1⟩ := trodAll_cons r0
  obtain ⟨v2, vs2, d2, ds2, p2, q2, rfl, rfl, rfl, h2, r2⟩ := trodAll_cons r1
  obtain ⟨rfl, rfl, rfl⟩ := trodAll_nil r2
  obtain rfl : args = #[v0, v1, v2] := by cases args; simp_all
  obtain ⟨rfl, rfl⟩ := trodVars_none hV
  obtain ⟨x0, rfl, rfl, rfl, g0⟩ := open_int Try.underlying5 (hval 0 5 v0 rfl rfl) h0
  have k1 := h1
  have lt1 : ∀ x ∈ p1, x.block < W.heap.size := by obtain ⟨m, hm⟩ := k1; exact DataW.trod_lt m _ _ _ hm
  obtain ⟨a1, l1, c1, rfl⟩ := okWide_slice Try.underlying35 (hval 1 35 v1 rfl rfl)
  obtain ⟨fuel1, hf1⟩ := h1
  obtain ⟨x1, g1, n1, m1⟩ := open_u8s hf1
  have k2 := h2
  have lt2 : ∀ x ∈ p2, x.block < W.heap.size := by obtain ⟨m, hm⟩ := k2; exact DataW.trod_lt m _ _ _ hm
  obtain ⟨a2, l2, c2, rfl⟩ := okWide_slice Try.underlying35 (hval 2 35 v2 rfl rfl)
  obtain ⟨fuel2, hf2⟩ := h2
  obtain ⟨x2, g2, n2, m2⟩ := open_u8s hf2
  clear hA0 hval0
  refine (lawRecordApart_walk x0 _ x1 _ x2 W g0 g1 n1 m1 g2 n2 m2).mono fun e W' ⟨he, bel⟩ => ?_
  subst he
  exact ⟨_, rfl, _, _, _, [], _, [], hW', trodAll_mk1 (shut_bool Try.underlying4 _), (trodAll_cons_mk (shut_int Try.underlying5 g0) (trodAll_cons_mk (Below.trod laidOut (by kernel_rfl) (of_decide_eq_true (by kernel_rfl)) k1 bel lt1) (trodAll_cons_mk (Below.trod laidOut (by kernel_rfl) (of_decide_eq_true (by kernel_rfl)) k2 bel lt2) trodAll_mk0))), rfl, bel.frame _, fun h => by cases h⟩

theorem lawRecordApart_over : Rows.recordApartRow.holds Try.pinned (OpenSpec.ofChange Rows.recordApartSpec) :=
  OpenClaim.holds_of_wide 6 Try.f6 rfl rfl rfl rfl rfl rfl rfl ⟨rfl, rfl, rfl, rfl, rfl⟩ rfl rfl rfl rfl rfl (by kernel_rfl) Try.func6 (by kernel_rfl)
    (of_decide_eq_true (by kernel_rfl)) (by unfold Func.isWrapper; first | (rw [if_pos (by decide +kernel)]; kernel_rfl) | (rw [if_neg (by decide +kernel)]; exact ⟨rfl, rfl⟩))
    (fun os started H enc _ => lawRecordApart_lifted os started H enc)

theorem recordApart_holds : Rows.RecordApartSaid := lawRecordApart_over
#print axioms recordApart_holds
end Go.Proofs.Ytapkookehogddaa
