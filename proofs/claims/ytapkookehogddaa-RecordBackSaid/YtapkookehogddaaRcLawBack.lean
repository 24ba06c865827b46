/- The law RecordBack: valid records are read again from their bytes, alone and in a row with something behind them, and a record with one changed bit is not read. No condition. -/
import Derived.Test.YtapkookehogddaaRcOpen
import Derived.Deep.CutRange
import Derived.Deep.CutBlock
namespace Go.Proofs.Ytapkookehogddaa
open Go.RowKit Ghost Go.ChangeShapes Go.WideShapes Go.ChangeAt Go.Deep

set_option maxRecDepth 100000 in
set_option maxHeartbeats 8000000 in
theorem lawBack_nat (n : Nat) (v : Value) (ns : List Nat) (tl : ByteArray) (w : World) (hn : n < 256) (hv : VV w v (u8s ns)) (hns : ∀ z ∈ ns, z < 256) (hnl : ns.length ≤ maxLen) (ht : tl.size ≤ maxLen) :
    Calls Try.prog 4 #[.int .u8 n, v, .string tl] w fun e w' => e = .returned (.bool true) ∧ Below w.heap.size w w' := by
  unfold maxLen at ht
  by_cases hl : 100 < tl.size
  · have hd : decide ((100 : Int) < (tl.size : Int)) = true := by simp; omega
    have hd' : decide ((tl.size : Int) > 100) = true := hd
    go_enter Try.func4, Try.ntmps4
    go_wp2_with (go_at_call 7; refine (sane9_any _).mono ?_; rintro e w1 ⟨rfl, hb⟩)
    go_ret
    exact ⟨rfl, hb⟩
  have hd : decide ((100 : Int) < (tl.size : Int)) = false := by simp; omega
  have hd' : decide ((tl.size : Int) > 100) = false := hd
  have HV := Lib.hid hv
  have HOK := Lib.hid (recsN_ok (n := n) hns 40)
  have HRL := Lib.hid (recsN_len n ns 40)
  have HREC := Lib.hid (fun A cap v wx (hv : VV wx v (u8s ns)) => recsN_any n A cap ns hns hnl v 40 (by omega) wx hv)
  have hlen : (bldN n).cars.length ≤ 8 := by rw [bldN_len]; omega
  have hV := bldN_valid n
  have HBD := Lib.hid (fun wx => bldN_any n wx hn)
  generalize recsN n ns 40 = x at *
  generalize bldN n = b at *
  clear hns hnl hv
  have FE := Lib.hid (fun A cap q wx (hq : Rc.okB b q = true) (hc : CarsAt wx wx.heap.size A b.cars) => by
    have h := encode_any b A cap q wx (by omega) hc
    rw [show Rc.encS b q = ⟨(Rc.six q).toArray⟩ by unfold Rc.encS; rw [hq]; rfl, show Rc.encE b q = 0 by unfold Rc.encE; rw [hq]; rfl] at h
    exact h)
  have FD := Lib.hid (fun A cap q wx (hq : Rc.okB b q = true) (hc : CarsAt wx wx.heap.size A b.cars) => by
    have h := decode_any b A cap ⟨(Rc.six q).toArray⟩ wx (by omega) hc (by rw [six_size]; unfold maxLen; omega)
    rw [show bl ⟨(Rc.six q).toArray⟩ = Rc.six q from rfl, Rc.decE_six hq, Rc.decR_six hq] at h
    exact h)
  have FB := Lib.hid (fun A cap q k wx (hk : k < 48) (hc : CarsAt wx wx.heap.size A b.cars) => by
    have h := decode_any b A cap ⟨((Rc.six q).set (k / 8) ((Rc.six q).getD (k / 8) 0 ^^^ UInt8.ofNat (2 ^ (k % 8)))).toArray⟩ wx (by omega) hc (by show Array.size _ ≤ _; rw [List.size_toArray, List.length_set, Rc.six_len]; unfold maxLen; omega)
    have e := Rc.decE_flip (r := q) hV hk
    rw [flip_ba, show Rc.decR b _ = Rc.zero from (if_neg (by rw [e]; decide)), e] at h
    exact h)
  have FR := Lib.hid (fun A cap s wx (hs : s.size ≤ 1000000) (hc : CarsAt wx wx.heap.size A b.cars) => read_any b A cap s wx (by omega) hc hs)
  have hIS : ∀ K, Rc.isCnt b (bl (⟨(Rc.joinS x).toArray⟩ ++ tl)) K → x.length ≤ K ∧ (Rc.recsOf b (bl (⟨(Rc.joinS x).toArray⟩ ++ tl)) K).take x.length = x := fun K h => by
    have e : bl (⟨(Rc.joinS x).toArray⟩ ++ tl) = Rc.joinS x ++ bl tl := ba_app _ _
    rw [e] at h ⊢
    have hk := Rc.cnt_ge h (Rc.run_join HOK.out (bl tl))
    exact ⟨hk, Rc.recs_join HOK.out (bl tl) hk⟩
  have HIS := Lib.hid hIS
  clear hIS
  have HIL := Lib.hid (fun s K => Rc.recsOf_len b (bl s) K)
  have HIR := Lib.hid (fun s K (h : Rc.isCnt b (bl s) K) => Rc.runB_le h.1)
  clear hV hlen
  obtain ⟨f, d, r, p, e1, e2, e3, cs⟩ := b
  simp only [BldD.agg] at *
  generalize (BldD.mk f d r p e1 e2 e3 cs) = b at *
  go_enter Try.func4, Try.ntmps4
  go_wp2_with fail
  refine (HBD.out _).mono ?_
  rintro e w1 ⟨hb1, A, cap, rfl, hcars⟩
  have HC := Lib.hid hcars
  have HB1 := Lib.hid hb1
  clear hcars hb1
  have HBOX := Lib.hid (fun wx (h : Below (w1.heap.size + 1) (w1.alloc (.cells #[.int .i64 f, .int .i64 d, .int .i64 r, .int .i64 p, .float .f64 e1, .float .f64 e2, .float .f64 e3, .slice A cs.length cap] 28)) wx) => boxRow ((h.block w1.heap.size (by simp)).trans (heap_alloc_new w1 _)))
  have HCX := Lib.hid (fun wx (h : Below (w1.heap.size + 1) (w1.alloc (.cells #[.int .i64 f, .int .i64 d, .int .i64 r, .int .i64 p, .float .f64 e1, .float .f64 e2, .float .f64 e3, .slice A cs.length cap] 28)) wx) => show CarsAt wx wx.heap.size A cs from (HC.out.below (below_of_new h)).more (by have := h.size; simp at this; omega))
  have hst : Below (w1.heap.size + 1) (w1.alloc (.cells #[.int .i64 f, .int .i64 d, .int .i64 r, .int .i64 p, .float .f64 e1, .float .f64 e2, .float .f64 e3, .slice A cs.length cap] 28)) (w1.alloc (.cells #[.int .i64 f, .int .i64 d, .int .i64 r, .int .i64 p, .float .f64 e1, .float .f64 e2, .float .f64 e3, .slice A cs.length cap] 28)) := Below.refl _ _
  have HST := Lib.hid hst
  clear hst
  go_wp2_with fail
  refine (HREC.out _ _ _ _ (HV.out.below (HB1.out.trans ((Below.refl w1.heap.size w1).alloc (Nat.le_refl _) _ |>.mono HB1.out.size)))).mono ?_
  rintro e w2 ⟨u, rfl, ⟨A2, cp2, rfl, hx2⟩, hb2⟩
  have HX2 := Lib.hid (HST.out.trans (hb2.mono (by simp)))
  have hsz2 := box_size HX2.out
  have HR2 := Lib.hid hx2
  clear hb2 hx2
  go_wp2_with fail
  go_loopw [9, 10] (fun s i wr => ∃ k : Nat, k ≤ x.length ∧ i = .int .i64 k ∧ s = .string ⟨(Rc.joinS (x.take k)).toArray⟩ ∧ Below w2.heap.size w2 wr) (fun _ i _ => x.length - (intOf i).toNat)
  case atStart => exact ⟨0, Nat.zero_le _, rfl, rfl, Below.refl _ _⟩
  case round =>
    obtain ⟨k, hk, rfl, rfl, hbw⟩ := hrel
    have HX3 := Lib.hid (HX2.out.trans (hbw.mono hsz2))
    have HBW := Lib.hid hbw
    have hszr := hbw.size
    clear hbw
    by_cases hlt : k < x.length
    · have hok := HOK.out (x[k]) (List.getElem_mem hlt)
      have HJ := Lib.hid (join_next x hlt)
      obtain ⟨bb, off, rfl, hbb, r0, r1, r2, r3, r4⟩ := (HR2.out.below HBW.out).at_ hlt
      have FE1 := Lib.hid (fun wx (h : Below (w1.heap.size + 1) (w1.alloc (.cells #[.int .i64 f, .int .i64 d, .int .i64 r, .int .i64 p, .float .f64 e1, .float .f64 e2, .float .f64 e3, .slice A cs.length cap] 28)) wx) => FE.out A cap _ wx hok (HCX.out wx h))
      have FD1 := Lib.hid (fun wx (h : Below (w1.heap.size + 1) (w1.alloc (.cells #[.int .i64 f, .int .i64 d, .int .i64 r, .int .i64 p, .float .f64 e1, .float .f64 e2, .float .f64 e3, .slice A cs.length cap] 28)) wx) => FD.out A cap _ wx hok (HCX.out wx h))
      have FB1 := Lib.hid (fun q wx (hq : q < 48) (h : Below (w1.heap.size + 1) (w1.alloc (.cells #[.int .i64 f, .int .i64 d, .int .i64 r, .int .i64 p, .float .f64 e1, .float .f64 e2, .float .f64 e3, .slice A cs.length cap] 28)) wx) => FB.out A cap (x[k]) q wx hq (HCX.out wx h))
      have hnx := fun wx => neqRc (x[k]) (x[k]) wx
      have hself : Rc.eqB (x[k]) (x[k]) = true := decide_eq_true rfl
      rw [hself] at hnx
      have h6 := six_size (x[k])
      have h6l := Rc.six_len (x[k])
      generalize Rc.six (x[k]) = S6 at *
      generalize x[k] = y at *
      obtain ⟨y0, y1, y2, y3, y4⟩ := y
      simp only [Rc.agg, Rc.zero] at r0 r1 r2 r3 r4 FE1 FD1 FB1 hnx
      have hjz : ¬ 9223372036854775807 < (⟨(Rc.joinS (x.take k)).toArray⟩ : ByteArray).size + (⟨S6.toArray⟩ : ByteArray).size := by
        rw [h6, join_size, List.length_take]; have := HRL.out; omega
      generalize (⟨(Rc.joinS (x.take k)).toArray⟩ : ByteArray) = J at *
      have H6L := Lib.hid h6l
      clear hself hok h6l
      go_wp2_with fail
      have R0 := Lib.hid (And.intro r0 (And.intro r1 (And.intro r2 (And.intro r3 r4))))
      clear r0 r1 r2 r3 r4
      refine Bag.region (fun wx => Below wr.heap.size wr wx) (by kernel_rfl) (by kernel_rfl) (Below.refl _ _).drew ?_
      iterate 11 (first
          | (apply Bag.walk_yes (by rfl)
             (intro wx hx K hK
              have HXx := HX3.out.trans (hx.mono (box_size HX3.out))
              obtain ⟨c0, c1, c2, c3, c4, c5, c6, c7⟩ := HBOX.out _ HXx
              have r0 := (hx.cell (p := ⟨bb, off + k * 5, none⟩) hbb).trans R0.out.1
              have r1 := (hx.cell (p := ⟨bb, off + k * 5 + 1, none⟩) hbb).trans R0.out.2.1
              have r2 := (hx.cell (p := ⟨bb, off + k * 5 + 2, none⟩) hbb).trans R0.out.2.2.1
              have r3 := (hx.cell (p := ⟨bb, off + k * 5 + 3, none⟩) hbb).trans R0.out.2.2.2.1
              have r4 := (hx.cell (p := ⟨bb, off + k * 5 + 4, none⟩) hbb).trans R0.out.2.2.2.2
              first
                | (go_simp
                   first
                    | (go_at_call 9; refine (FE1.out _ HXx).mono ?_; rintro e x1 ⟨rfl, hb⟩; exact hK _ (hx.trans (hb.mono hx.size)))
                    | (go_at_K; exact hK _ hx)))
             rfl)
          | (refine Bag.walk_no (by rfl) ?_; simp only [Act.put, List.setIfInBounds_toArray, List.set_cons_succ, List.set_cons_zero]))
      refine Bag.walk_nil (fun w4 hb4 => ?_)
      have HX4 := Lib.hid (HX3.out.trans (hb4.mono (box_size HX3.out)))
      have HB4 := Lib.hid hb4
      have hsz4 := hb4.size
      clear hb4
      obtain ⟨c0, c1, c2, c3, c4, c5, c6, c7⟩ := HBOX.out _ HX4.out
      go_wp2_with fail
      refine (FD1.out _ HX4.out).mono ?_
      rintro e w5 ⟨rfl, hb5⟩
      have HX5 := Lib.hid (HX4.out.trans (hb5.mono (box_size HX4.out)))
      have HB5 := Lib.hid (HB4.out.trans (hb5.mono HB4.out.size))
      have hsz5 := hb5.size
      clear hb5 c0 c1 c2 c3 c4 c5 c6 c7
      go_wp2_with fail
      have hrow5 := heap_alloc_new w5 (.cells #[.int .i64 y0, .int .i64 y1, .int .i64 y2, .int .i64 y3, .int .i64 y4] 23)
      have HX6 := Lib.hid (HX5.out.alloc (box_size HX5.out) (.cells #[.int .i64 y0, .int .i64 y1, .int .i64 y2, .int .i64 y3, .int .i64 y4] 23))
      have HB6 := Lib.hid (HB5.out.alloc HB5.out.size (.cells #[.int .i64 y0, .int .i64 y1, .int .i64 y2, .int .i64 y3, .int .i64 y4] 23))
      have hg6 : w5.heap.size < (w5.alloc (.cells #[.int .i64 y0, .int .i64 y1, .int .i64 y2, .int .i64 y3, .int .i64 y4] 23)).heap.size := by simp
      generalize w5.alloc (.cells #[.int .i64 y0, .int .i64 y1, .int .i64 y2, .int .i64 y3, .int .i64 y4] 23) = w6 at *
      have HR6 := Lib.hid hrow5
      clear hrow5
      generalize w5.heap.size = g5 at *
      refine Bag.region (fun wx => Below w6.heap.size w6 wx) (by kernel_rfl) (by kernel_rfl) (Below.refl _ _).drew ?_
      iterate 19 (first
          | (apply Bag.walk_yes (by rfl)
             (intro wx hx K hK
              have hxr := HB6.out.trans (hx.mono HB6.out.size)
              obtain ⟨z0, z1, z2, z3, z4⟩ := recRow ((hx.block g5 hg6).trans HR6.out)
              have r0 := (hxr.cell (p := ⟨bb, off + k * 5, none⟩) hbb).trans R0.out.1
              have r1 := (hxr.cell (p := ⟨bb, off + k * 5 + 1, none⟩) hbb).trans R0.out.2.1
              have r2 := (hxr.cell (p := ⟨bb, off + k * 5 + 2, none⟩) hbb).trans R0.out.2.2.1
              have r3 := (hxr.cell (p := ⟨bb, off + k * 5 + 3, none⟩) hbb).trans R0.out.2.2.2.1
              have r4 := (hxr.cell (p := ⟨bb, off + k * 5 + 4, none⟩) hbb).trans R0.out.2.2.2.2
              first
                | (go_simp
                   first
                    | (go_at_K; exact hK _ hx)))
             rfl)
          | (refine Bag.walk_no (by rfl) ?_; simp only [Act.put, List.setIfInBounds_toArray, List.set_cons_succ, List.set_cons_zero]))
      refine Bag.walk_nil (fun w7 hb7 => ?_)
      have HX7 := Lib.hid (HX6.out.trans (hb7.mono (box_size HX6.out)))
      have HB7 := Lib.hid (HB6.out.trans (hb7.mono HB6.out.size))
      clear hb7
      go_wp2_with fail
      go_loopw [15] (fun v wr2 => ∃ q : Nat, q ≤ 48 ∧ v = .int .i64 q ∧ Below w7.heap.size w7 wr2) (fun v _ => 48 - (intOf v).toNat)
      case atStart => exact ⟨0, by omega, rfl, Below.refl _ _⟩
      case round =>
        obtain ⟨q, hq, rfl, hbq⟩ := hrel
        have HQ7 := Lib.hid hbq
        have HXq := Lib.hid (HX7.out.trans (hbq.mono (box_size HX7.out)))
        have HBq := Lib.hid (HB7.out.trans (hbq.mono HB7.out.size))
        clear hbq
        by_cases hq48 : q < 48
        · have FB2 := Lib.hid (fun wx h => FB1.out q wx hq48 h)
          obtain ⟨d8, hd8⟩ : ∃ z, z = q / 8 := ⟨_, rfl⟩
          obtain ⟨m8, hm8⟩ : ∃ z, z = q % 8 := ⟨_, rfl⟩
          have hfl := flip_up (S6.getD d8 0) q
          rw [← hd8, ← hm8] at FB2
          rw [← hm8] at hfl
          have td8 : (q : Int).tdiv 8 = (d8 : Int) := by rw [Int.tdiv_eq_ediv_of_nonneg (by omega)]; omega
          have tm8 : (q : Int).tmod 8 = (m8 : Int) := by rw [Int.tmod_eq_emod_of_nonneg (by omega)]; omega
          have hd6 : d8 < 6 := by omega
          have hm6 : m8 < 8 := by omega
          have hd6' : (d8 : Int) < 6 := by omega
          have hdq : decide ((q : Int) < 48) = true := decide_eq_true (by omega)
          clear hd8 hm8
          obtain ⟨cc, R, fr, hconv, hrel⟩ := conv_bytes wr S6
          rw [H6L.out] at hconv
          obtain ⟨b0, b1⟩ := hrel.1 d8 (by rw [H6L.out]; exact hd6)
          have hset := flipRel_set hrel (j := d8) (by rw [H6L.out]; exact hd6) (S6.getD d8 0 ^^^ UInt8.ofNat (2 ^ m8))
          rw [← hfl] at hset
          generalize S6.getD d8 0 = zc at *
          have hsl : (S6.set d8 (zc ^^^ UInt8.ofNat (2 ^ m8))).length = 6 := by rw [List.length_set, H6L.out]
          generalize S6.set d8 (zc ^^^ UInt8.ofNat (2 ^ m8)) = S7 at *
          have HS := Lib.hid hset
          have HSL := Lib.hid hsl
          clear hrel hset hsl hfl
          go_wp2_with (with_reducible show wpList _ _ _ (Oper.mk _ (.load 28 _) _ _ _ _ :: _) _ _; refine Hid.out ?_)
          have hW : FlipRel wr wr.heap.size S7 ((wr.alloc (.cells R 5 (fr, fr + 1))).setCell ⟨wr.heap.size, d8, none⟩ (.int .u8 (bits .xor .u8 (zc.toNat : Int) (2 ^ m8 % 256)))).drew := ⟨HS.out.1, HS.out.2.1.drew, HS.out.2.2⟩
          clear hconv b0 b1
          generalize ((wr.alloc (.cells R 5 (fr, fr + 1))).setCell ⟨wr.heap.size, d8, none⟩ (.int .u8 (bits .xor .u8 (zc.toNat : Int) (2 ^ m8 % 256)))).drew = w9 at *
          have HX9 := Lib.hid (HXq.out.trans (hW.2.1.mono (box_size HXq.out)))
          have HB9 := Lib.hid (HBq.out.trans (hW.2.1.mono HBq.out.size))
          obtain ⟨c0, c1, c2, c3, c4, c5, c6, c7⟩ := HBOX.out _ HX9.out
          have hback := bytes_back (P := Try.prog) hW.1 35 9 5 6 cc HSL.out.symm (by kernel_rfl) (by kernel_rfl) (by kernel_rfl)
          have hgw : wr.heap.size < w9.heap.size := hW.2.2
          have HWq := Lib.hid hW.2.1
          clear hW
          refine Lib.hid ?_
          go_wp2_with fail
          refine (FB2.out _ HX9.out).mono ?_
          rintro e w10 ⟨rfl, hb10⟩
          have HBB := Lib.hid (HWq.out.trans (hb10.mono (by have := HWq.out.size; omega)))
          clear hb10 hback c0 c1 c2 c3 c4 c5 c6 c7
          go_wp2_with fail
          go_roundw
          case rel => exact ⟨q + 1, by omega, by go_num, HQ7.out.trans ((HBB.out.alloc HBB.out.size _).mono HQ7.out.size)⟩
          case measure => simp [intOf]; omega
        · obtain rfl : q = 48 := by omega
          have hxl := HRL.out
          go_wp2_with fail
          go_roundw
          case rel => exact ⟨k + 1, by omega, by go_num, by rw [← HJ.out], HBW.out.trans (HBq.out.mono HBW.out.size)⟩
          case measure => simp [intOf]; omega
    · obtain rfl : k = x.length := by omega
      obtain ⟨c0, c1, c2, c3, c4, c5, c6, c7⟩ := HBOX.out _ HX3.out
      rw [List.take_length]
      have hjs := join_size x
      have hjz : ¬ 9223372036854775807 < (⟨(Rc.joinS x).toArray⟩ : ByteArray).size + tl.size := by rw [hjs]; have := HRL.out; omega
      have hrs : ((⟨(Rc.joinS x).toArray⟩ : ByteArray) ++ tl).size ≤ 1000000 := by rw [ba_size, hjs]; have := HRL.out; omega
      have FR1 := Lib.hid (FR.out A cap (⟨(Rc.joinS x).toArray⟩ ++ tl) wr hrs (HCX.out _ HX3.out))
      have HIS1 := Lib.hid (fun K (h : Rc.isCnt b (bl (⟨(Rc.joinS x).toArray⟩ ++ tl)) K) => HIS.out K h)
      have HIL1 := Lib.hid (HIL.out (⟨(Rc.joinS x).toArray⟩ ++ tl))
      have HIR1 := Lib.hid (fun K (h : Rc.isCnt b (bl (⟨(Rc.joinS x).toArray⟩ ++ tl)) K) => Nat.le_trans (HIR.out _ K h) (by rw [bl_len]; exact hrs))
      clear hjs hrs
      generalize hJ : (⟨(Rc.joinS x).toArray⟩ : ByteArray) = J at *
      clear hJ
      go_wp2_with fail
      refine FR1.out.mono ?_
      rintro e w4 ⟨v4, K, rfl, hcnt, ⟨A4, cp4, rfl, hat⟩, hshp, hb4⟩
      have hK := HIS1.out K hcnt
      have hKl := HIL1.out K
      have hKr := HIR1.out K hcnt
      generalize Rc.recsOf b (bl (J ++ tl)) K = RO at *
      rw [hKl] at hshp ⊢
      have HAT := Lib.hid (RAt.take hat x.length)
      rw [hK.2] at HAT
      have HK2 := Lib.hid hKl
      have hxk := hK.1
      have HX4 := Lib.hid (HX3.out.trans (hb4.mono (box_size HX3.out)))
      have HB4 := Lib.hid (HBW.out.trans (hb4.mono HBW.out.size))
      clear hK hcnt hat hKl hb4 c0 c1 c2 c3 c4 c5 c6 c7
      have hge : decide ((K : Int) ≥ (x.length : Int)) = true := decide_eq_true (by omega)
      have hw6 : IntKind.i64.wrap (6 * (K : Int)) = 6 * (K : Int) := IntWalk.i64_in _ (by omega)
      have heq : (((6 * K : Nat) : Int) == 6 * (K : Int)) = true := by simp
      have FS := Lib.hid (fun cp wx (h : Below w4.heap.size w4 wx) => same9_any x x (.slice A4 x.length cp) (.slice A2 x.length cp2) wx ⟨A4, cp, rfl, HAT.out.below h⟩ ⟨A2, cp2, rfl, HR2.out.below (HB4.out.trans (h.mono HB4.out.size))⟩ (by have := HRL.out; omega) (by have := HRL.out; omega))
      have hxx : decide (x = x) = true := decide_eq_true rfl
      rw [hxx] at FS
      clear hxx
      rcases hshp with ⟨hs1, hs2⟩ | ⟨g4, cp5, hs1, hs2⟩
      · injection hs1 with hs3 hs4 hs5
        subst hs3 hs5
        have hx0 : x = [] := List.eq_nil_of_length_eq_zero (by omega)
        subst hx0 hs2
        simp only [List.length_nil] at *
        go_wp2_with fail
        refine (FS.out _ _ (Below.refl _ _)).mono ?_
        rintro e w5 ⟨rfl, hb5⟩
        have HB5 := Lib.hid (HB4.out.trans (hb5.mono HB4.out.size))
        clear hb5
        go_wp2_with fail
        refine (sane9_any _).mono ?_
        rintro e w6 ⟨rfl, hb6⟩
        have HB6 := Lib.hid (HB5.out.trans (hb6.mono HB5.out.size))
        clear hb6
        go_wp2_with fail
        go_ret
        have h26 := HX2.out.trans (HB6.out.mono hsz2)
        exact ⟨rfl, HB1.out.trans ((below_of_new h26).mono HB1.out.size)⟩
      · injection hs1 with hs3 hs4 hs5
        subst hs3 hs5
        have hlc : x.length ≤ cp4 := by omega
        go_wp2_with fail
        refine (FS.out _ _ (Below.refl _ _)).mono ?_
        rintro e w5 ⟨rfl, hb5⟩
        have HB5 := Lib.hid (HB4.out.trans (hb5.mono HB4.out.size))
        clear hb5
        go_wp2_with fail
        refine (sane9_any _).mono ?_
        rintro e w6 ⟨rfl, hb6⟩
        have HB6 := Lib.hid (HB5.out.trans (hb6.mono HB5.out.size))
        clear hb6
        go_wp2_with fail
        go_ret
        have h26 := HX2.out.trans (HB6.out.mono hsz2)
        exact ⟨rfl, HB1.out.trans ((below_of_new h26).mono HB1.out.size)⟩
theorem lawRecordBack_walk (x : Int) (v : Value) (ns : List Nat) (tl : ByteArray) (w : World) (hx : (Lit.int .u8 x).wf = true) (hv : VV w v (u8s ns)) (hns : ∀ z ∈ ns, z < 256) (hnl : ns.length ≤ maxLen) (ht : tl.size ≤ maxLen) :
    Calls Try.prog 4 #[.int .u8 x, v, .string tl] w fun e w' => e = .returned (.bool true) ∧ Below w.heap.size w w' := by
  obtain ⟨n, rfl, hn⟩ := u8_nat hx
  exact lawBack_nat n v ns tl w hn hv hns hnl ht

set_option maxRecDepth 100000 in
theorem lawRecordBack_lifted (os : Os) (started : os.Started) (H : Type) (enc : TypeId × Value → H) :
    ReturnsInHanded {} Try.checked os 4 .any (Rows.recordBackSpec.pre6 enc Try.prog Try.f4 Rows.recordBackRow.domain false) (Rows.recordBackSpec.post enc Try.prog Try.f4 false true false false) := by
  refine returnsInHanded_of_change (C := Try.checked) own started (by kernel_rfl) Try.func4
    (ChangeSpec.witness6 (enc := enc) (C := Try.checked) false ⟨#[], #[.int .u8 0, .slice none 0 0, .string ⟨#[]⟩], []⟩ 8 (by kernel_rfl) (by kernel_rfl) (by kernel_rfl) (by kernel_rfl)) ?_
  intro W base args ds gs before hval0 hW hcnd _
  have hval : ∀ (j : Nat) t v, Try.f4.params[j]? = some t → args[j]? = some v → Value.okWide Try.prog W .any base t v := hval0
  have hW' := hW
  obtain ⟨p, q, hA0, hV, rfl, hfz, hnd⟩ := hW
  have hA : DataW.TrodAll enc Try.prog W 0 (fun _ => true) true Try.f4.params.toList args.toList ds p := hA0
  rw [Try.params4] at hA hval
  obtain ⟨v0, vs0, d0, ds0, p0, q0, hargs, rfl, rfl, h0, r0⟩ := trodAll_cons hA
  obtain ⟨v1, vs1, d1, ds1, p1, q1, rfl, rfl, rfl, h1, r1⟩ := trodAll_cons r0
  obtain ⟨v2, vs2, d2, ds2, p2, q2, rfl, rfl, rfl, h2, r2⟩ := trodAll_cons r1
  obtain ⟨rfl, rfl, rfl⟩ := trodAll_nil r2
  obtain rfl : args = #[v0, v1, v2] := by cases args; simp_all
  obtain ⟨rfl, rfl⟩ := trodVars_none hV
  obtain ⟨x0, rfl, rfl, rfl, g0⟩ := open_int Try.underlying5 (hval 0 5 v0 rfl rfl) h0
  have k1 := h1
  have lt1 : ∀ x ∈ p1, x.block < W.heap.size := by obtain ⟨m, hm⟩ := k1; exact DataW.trod_lt m _ _ _ hm
  obtain ⟨a1, l1, c1, rfl⟩ := okWide_slice Try.underlying35 (hval 1 35 v1 rfl rfl)
  obtain ⟨fuel1, hf1⟩ := h1
  obtain ⟨x1, g1, n1, m1⟩ := open_u8s hf1
  obtain ⟨x2, rfl, rfl, rfl, g2⟩ := ChangeMaps.open_string Try.underlying9 (hval 2 9 v2 rfl rfl) h2
  clear hA0 hval0
  refine (lawRecordBack_walk x0 _ x1 x2 W g0 g1 n1 m1 g2).mono fun e W' ⟨he, bel⟩ => ?_
  subst he
  exact ⟨_, rfl, _, _, _, [], _, [], hW', trodAll_mk1 (shut_bool Try.underlying4 _), (trodAll_cons_mk (shut_int Try.underlying5 g0) (trodAll_cons_mk (Below.trod laidOut (by kernel_rfl) (of_decide_eq_true (by kernel_rfl)) k1 bel lt1) (trodAll_cons_mk (ChangeMaps.shut_string Try.underlying9 g2) trodAll_mk0))), rfl, bel.frame _, fun h => by cases h⟩

theorem lawRecordBack_over : Rows.recordBackRow.holds Try.pinned (OpenSpec.ofChange Rows.recordBackSpec) :=
  OpenClaim.holds_of_wide 4 Try.f4 rfl rfl rfl rfl rfl rfl rfl ⟨rfl, rfl, rfl, rfl, rfl⟩ rfl rfl rfl rfl rfl (by kernel_rfl) Try.func4 (by kernel_rfl)
    (of_decide_eq_true (by kernel_rfl)) (by unfold Func.isWrapper; first | (rw [if_pos (by decide +kernel)]; kernel_rfl) | (rw [if_neg (by decide +kernel)]; exact ⟨rfl, rfl⟩))
    (fun os started H enc _ => lawRecordBack_lifted os started H enc)

theorem recordBack_holds : Rows.RecordBackSaid := lawRecordBack_over
#print axioms recordBack_holds
end Go.Proofs.Ytapkookehogddaa
