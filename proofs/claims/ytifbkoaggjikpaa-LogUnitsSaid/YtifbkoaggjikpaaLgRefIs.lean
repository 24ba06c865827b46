/- The reference's IsImage of a good image. No statement of the seat is proved here. -/
import Derived.Test.YtifbkoaggjikpaaLgBxn
namespace Go.Proofs.Ytifbkoaggjikpaa
open Go.RowKit Lg Img

theorem EAt.five {w : World} {bb off : Nat} {l : List En} (h : EAt w (some ⟨bb, off, none⟩) l) {k : Nat} (hk : k < l.length) :
    bb < w.heap.size ∧ w.cell? ⟨bb, off + k * 5, none⟩ = some (.int .i64 (l[k]).f) ∧ w.cell? ⟨bb, off + k * 5 + 1, none⟩ = some (.int .i64 (l[k]).d) ∧ w.cell? ⟨bb, off + k * 5 + 2, none⟩ = some (.int .i64 (l[k]).car) ∧
      w.cell? ⟨bb, off + k * 5 + 3, none⟩ = some (.int .i64 (l[k]).mv) ∧ w.cell? ⟨bb, off + k * 5 + 4, none⟩ = some (.bool (l[k]).md) := by
  obtain ⟨b', o', e, r⟩ := h.at_ hk
  injection e with e
  injection e with e1 e2
  subst e1 e2
  exact r
/-- Two worlds: what a list of entries shows at one place. -/
theorem five_below {w wx : World} {bb off k : Nat} {f d c m : Int} {x : Bool} (h : Below w.heap.size w wx) (hr : bb < w.heap.size ∧ w.cell? ⟨bb, off + k * 5, none⟩ = some (.int .i64 f) ∧ w.cell? ⟨bb, off + k * 5 + 1, none⟩ = some (.int .i64 d) ∧ w.cell? ⟨bb, off + k * 5 + 2, none⟩ = some (.int .i64 c) ∧
      w.cell? ⟨bb, off + k * 5 + 3, none⟩ = some (.int .i64 m) ∧ w.cell? ⟨bb, off + k * 5 + 4, none⟩ = some (.bool x)) :
    wx.cell? ⟨bb, off + k * 5, none⟩ = some (.int .i64 f) ∧ wx.cell? ⟨bb, off + k * 5 + 1, none⟩ = some (.int .i64 d) ∧ wx.cell? ⟨bb, off + k * 5 + 2, none⟩ = some (.int .i64 c) ∧
      wx.cell? ⟨bb, off + k * 5 + 3, none⟩ = some (.int .i64 m) ∧ wx.cell? ⟨bb, off + k * 5 + 4, none⟩ = some (.bool x) := by
  obtain ⟨h0, h1, h2, h3, h4, h5⟩ := hr
  exact ⟨(h.cell (p := ⟨bb, _, none⟩) h0).trans h1, (h.cell (p := ⟨bb, _, none⟩) h0).trans h2, (h.cell (p := ⟨bb, _, none⟩) h0).trans h3, (h.cell (p := ⟨bb, _, none⟩) h0).trans h4, (h.cell (p := ⟨bb, _, none⟩) h0).trans h5⟩
set_option maxRecDepth 100000 in
set_option maxHeartbeats 4000000 in
theorem refIsGood_any (b : BldD) (A : Option Addr) (cap : Nat) (pv fv lv ev : Value) (m : Img) (w : World) (hc : CarsAt w w.heap.size A b.cars) (h : ImV w pv fv lv ev m) (he : m.en.length ≤ 1000000) (hg : Img.Good b m) :
    Calls Try.prog 43 #[b.agg A cap, .agg #[pv, fv, lv, ev]] w fun e w' => e = .returned (.bool true) ∧ Below w.heap.size w w' := by
  have hC := (fine_of hg.val).cars
  obtain ⟨⟨A1, c1, rfl, h1⟩, ⟨A2, c2, rfl, h2⟩, ⟨A3, c3, rfl, h3⟩, ⟨A4, c4, rfl, h4⟩⟩ := h
  have FV := Lib.hid (fun wx (hb : Below w.heap.size w wx) => by
    have := refValid_any b A cap wx (by omega) ((hc.below hb).more hb.size)
    rw [hg.val] at this
    exact this)
  have FC := Lib.hid (fun f d (h : isCallF b f d = true) wx (hb : Below w.heap.size w wx) => by
    have := refIsCall_any b A cap f d wx (by omega) ((hc.below hb).more hb.size)
    rw [h] at this
    exact this)
  have FL := Lib.hid (fun a c (h : lessE a c = true) wx => by
    have := refLess_any a c wx
    rw [h] at this
    exact this)
  have hp := hg.ph
  have hf := hg.fl
  have hl := hg.lv
  have HP := Lib.hid (fun k (hk : k < m.ph.length) => And.intro (h1.num hk) (hg.phs _ (List.getElem_mem hk)))
  have HE := Lib.hid h4
  have HX := Lib.hid (fun k (hk : k < m.en.length) => (by
    have := hg.ens _ (List.getElem_mem hk)
    unfold enB at this
    simp only [Bool.and_eq_true, decide_eq_true_eq] at this
    exact this : isCallF b (m.en[k]).f (m.en[k]).d = true ∧ -2 ≤ (m.en[k]).car ∧ (m.en[k]).car < (b.cars.length : Int) ∧ 0 ≤ (m.en[k]).mv ∧ (m.en[k]).mv ≤ 255))
  have HS := Lib.hid (fun j (hj : j + 1 < m.en.length) => (List.pairwise_iff_getElem.1 hg.srt) j (j + 1) (by omega) hj (by omega))
  rw [nums_len, bls_len, bls_len, hp, hf, hl]
  clear h1 h2 h3 h4 hc hg
  obtain ⟨mp, mf, ml, me⟩ := m
  simp only at *
  clear hf hl
  generalize isCallF b = IC at *
  obtain ⟨f, d, r, p, e1, e2, e3, cs⟩ := b
  simp only [BldD.agg] at *
  generalize cs.length = n at *
  have hnn : ((n : Int) != (n : Int)) = false := by simp
  have HB0 := Lib.hid (bxs2 w (.cells #[.int .i64 f, .int .i64 d, .int .i64 r, .int .i64 p, .float .f64 e1, .float .f64 e2, .float .f64 e3, .slice A n cap] 26) (.cells #[.slice A1 n c1, .slice A2 n c2, .slice A3 n c3, .slice A4 me.length c4] 32))
  go_enter Try.func43, Try.ntmps43
  go_wp2_with fail
  refine (FV.out _ HB0.out.below).mono ?_
  rintro e w1 ⟨rfl, hb1⟩
  have HB1 := Lib.hid (HB0.out.next hb1)
  clear hb1 HB0
  have c0_0 : w1.cell? ⟨w.heap.size, 0, none⟩ = some (.int .i64 f) := cell_of_row _ _ _ _ _ (0, 0) HB1.out.r0
  have c0_1 : w1.cell? ⟨w.heap.size, 1, none⟩ = some (.int .i64 d) := cell_of_row _ _ _ _ _ (0, 0) HB1.out.r0
  have c0_2 : w1.cell? ⟨w.heap.size, 2, none⟩ = some (.int .i64 r) := cell_of_row _ _ _ _ _ (0, 0) HB1.out.r0
  have c0_3 : w1.cell? ⟨w.heap.size, 3, none⟩ = some (.int .i64 p) := cell_of_row _ _ _ _ _ (0, 0) HB1.out.r0
  have c0_4 : w1.cell? ⟨w.heap.size, 4, none⟩ = some (.float .f64 e1) := cell_of_row _ _ _ _ _ (0, 0) HB1.out.r0
  have c0_5 : w1.cell? ⟨w.heap.size, 5, none⟩ = some (.float .f64 e2) := cell_of_row _ _ _ _ _ (0, 0) HB1.out.r0
  have c0_6 : w1.cell? ⟨w.heap.size, 6, none⟩ = some (.float .f64 e3) := cell_of_row _ _ _ _ _ (0, 0) HB1.out.r0
  have c0_7 : w1.cell? ⟨w.heap.size, 7, none⟩ = some (.slice A n cap) := cell_of_row _ _ _ _ _ (0, 0) HB1.out.r0
  have c1_0 : w1.cell? ⟨w.heap.size + 1, 0, none⟩ = some (.slice A1 n c1) := cell_of_row _ _ _ _ _ (0, 0) HB1.out.r1
  have c1_1 : w1.cell? ⟨w.heap.size + 1, 1, none⟩ = some (.slice A2 n c2) := cell_of_row _ _ _ _ _ (0, 0) HB1.out.r1
  have c1_2 : w1.cell? ⟨w.heap.size + 1, 2, none⟩ = some (.slice A3 n c3) := cell_of_row _ _ _ _ _ (0, 0) HB1.out.r1
  have c1_3 : w1.cell? ⟨w.heap.size + 1, 3, none⟩ = some (.slice A4 me.length c4) := cell_of_row _ _ _ _ _ (0, 0) HB1.out.r1
  go_wp2_with fail
  clear c0_0 c0_1 c0_2 c0_3 c0_4 c0_5 c0_6 c0_7 c1_0 c1_1 c1_2 c1_3
  go_loopw [6] (fun vi wr => ∃ k : Nat, k ≤ n ∧ vi = .int .i64 k ∧ Bx w [(w.heap.size, .cells #[.int .i64 f, .int .i64 d, .int .i64 r, .int .i64 p, .float .f64 e1, .float .f64 e2, .float .f64 e3, .slice A n cap] 26 (0, 0)), (w.heap.size + 1, .cells #[.slice A1 n c1, .slice A2 n c2, .slice A3 n c3, .slice A4 me.length c4] 32 (0, 0))] wr) (fun vi _ => n - (intOf vi).toNat)
  case atStart => exact ⟨0, Nat.zero_le _, rfl, HB1.out⟩
  case round =>
    obtain ⟨k, hk, rfl, hbr⟩ := hrel
    have HBR := Lib.hid hbr
    clear hbr HB1
    by_cases hlt : k < n
    · have hlI : (k : Int) < (n : Int) := by omega
      obtain ⟨⟨bb, off, rfl, hbb, hcell⟩, hz⟩ := HP.out k (by omega)
      generalize mp[k] = z at *
      have hzc := (HBR.out.below.cell (p := ⟨bb, _, none⟩) hbb).trans hcell
      clear hcell
      have hz1 : ¬ z < 0 := by omega
      have hz2 : decide (z > 4) = false := decide_eq_false (by omega)
      have hz3 : ¬ 4 < z := by omega
      have c1_0 : wr.cell? ⟨w.heap.size + 1, 0, none⟩ = some (.slice (some ⟨bb, off, none⟩) n c1) := cell_of_row _ _ _ _ _ (0, 0) HBR.out.r1
      go_wp2_with fail
      go_roundw
      case rel => exact ⟨k + 1, by omega, by go_num, HBR.out⟩
      case measure => simp [intOf]; omega
    · obtain rfl : k = n := by omega
      have hlI : ¬ (k : Int) < (k : Int) := by omega
      clear HP
      go_wp2_with fail
      go_loopw [7] (fun vi wr => ∃ i : Nat, i ≤ me.length ∧ vi = .int .i64 i ∧ Bx w [(w.heap.size, .cells #[.int .i64 f, .int .i64 d, .int .i64 r, .int .i64 p, .float .f64 e1, .float .f64 e2, .float .f64 e3, .slice A k cap] 26 (0, 0)), (w.heap.size + 1, .cells #[.slice A1 k c1, .slice A2 k c2, .slice A3 k c3, .slice A4 me.length c4] 32 (0, 0))] wr) (fun vi _ => me.length - (intOf vi).toNat)
      case atStart => exact ⟨0, Nat.zero_le _, rfl, HBR.out⟩
      case round =>
        obtain ⟨i, hi, rfl, hbr⟩ := hrel
        have HBQ := Lib.hid hbr
        clear hbr HBR
        by_cases hlt : i < me.length
        · have hlI : (i : Int) < (me.length : Int) := by omega
          obtain ⟨bb, off, rfl, -, -⟩ := HE.out.at_ hlt
          have HF := Lib.hid (fun wx (hb : Below w.heap.size w wx) => five_below hb (HE.out.five hlt))
          obtain ⟨x1, x2, x3, x4, x5⟩ := HX.out i hlt
          have hprev : i = 0 ∨ ∃ j, i = j + 1 := by cases i with | zero => exact .inl rfl | succ j => exact .inr ⟨j, rfl⟩
          rcases hprev with rfl | ⟨j, rfl⟩
          · have hg1 : decide (((0 : Nat) : Int) > 0) = false := by decide
            simp only [Nat.zero_mul, Nat.add_zero] at HF
            have hl0 : (0 : Int) < (me.length : Int) := by omega
            generalize me[0] = y at *
            obtain ⟨y1, y2, y3, y4, y5⟩ := y
            simp only at HF x1 x2 x3 x4 x5
            have FCX := Lib.hid (fun wx hb => FC.out y1 y2 x1 wx hb)
            clear x1
            have z1 : decide (y3 < -2) = false := decide_eq_false (by omega)
            have z2 : decide (y3 ≥ (k : Int)) = false := decide_eq_false (by omega)
            have z2b : ¬ (k : Int) ≤ y3 := by omega
            have z3 : decide (y4 < 0) = false := decide_eq_false (by omega)
            have z4 : decide (y4 > 255) = false := decide_eq_false (by omega)
            have z4b : ¬ 255 < y4 := by omega
            clear x2 x3 x4 x5
            obtain ⟨t0, t1, t2, t3, t4⟩ := HF.out wr HBQ.out.below
            have c0_0 : wr.cell? ⟨w.heap.size, 0, none⟩ = some (.int .i64 f) := cell_of_row _ _ _ _ _ (0, 0) HBQ.out.r0
            have c0_1 : wr.cell? ⟨w.heap.size, 1, none⟩ = some (.int .i64 d) := cell_of_row _ _ _ _ _ (0, 0) HBQ.out.r0
            have c0_2 : wr.cell? ⟨w.heap.size, 2, none⟩ = some (.int .i64 r) := cell_of_row _ _ _ _ _ (0, 0) HBQ.out.r0
            have c0_3 : wr.cell? ⟨w.heap.size, 3, none⟩ = some (.int .i64 p) := cell_of_row _ _ _ _ _ (0, 0) HBQ.out.r0
            have c0_4 : wr.cell? ⟨w.heap.size, 4, none⟩ = some (.float .f64 e1) := cell_of_row _ _ _ _ _ (0, 0) HBQ.out.r0
            have c0_5 : wr.cell? ⟨w.heap.size, 5, none⟩ = some (.float .f64 e2) := cell_of_row _ _ _ _ _ (0, 0) HBQ.out.r0
            have c0_6 : wr.cell? ⟨w.heap.size, 6, none⟩ = some (.float .f64 e3) := cell_of_row _ _ _ _ _ (0, 0) HBQ.out.r0
            have c0_7 : wr.cell? ⟨w.heap.size, 7, none⟩ = some (.slice A k cap) := cell_of_row _ _ _ _ _ (0, 0) HBQ.out.r0
            have c1_3 : wr.cell? ⟨w.heap.size + 1, 3, none⟩ = some (.slice (some ⟨bb, off, none⟩) me.length c4) := cell_of_row _ _ _ _ _ (0, 0) HBQ.out.r1
            go_wp2_with (with_reducible show wpList _ _ _ (Oper.mk _ (.store 71 _ _) _ _ _ _ :: _) _ _; refine Hid.out ?_)
            refine Lib.hid ?_
            have l2_0 : w.heap.size < wr.heap.size := (Array.getElem?_eq_some_iff.1 HBQ.out.r0).1
            have l2_1 : w.heap.size + 1 < wr.heap.size := (Array.getElem?_eq_some_iff.1 HBQ.out.r1).1
            have lw2 : w.heap.size ≤ wr.heap.size := HBQ.out.below.size
            refine wpList_put rfl 71 _ _ rfl wr.heap.size #[.int .i64 y1, .int .i64 y2, .int .i64 y3, .int .i64 y4, .bool y5] _ 71 rfl rfl (heap_alloc_new wr _) (by kernel_rfl) rfl (by kernel_rfl) ?_
            intro w2 hr2 hg2
            have HB2 : Hid (Bx w [(wr.heap.size, .cells #[.int .i64 y1, .int .i64 y2, .int .i64 y3, .int .i64 y4, .bool y5] 71 (0, 0)), (w.heap.size, .cells #[.int .i64 f, .int .i64 d, .int .i64 r, .int .i64 p, .float .f64 e1, .float .f64 e2, .float .f64 e3, .slice A k cap] 26 (0, 0)), (w.heap.size + 1, .cells #[.slice A1 k c1, .slice A2 k c2, .slice A3 k c3, .slice (some ⟨bb, off, none⟩) me.length c4] 32 (0, 0))] w2) := Lib.hid ((HBQ.out.make (heap_alloc_new wr (.cells #[.int .i64 0, .int .i64 0, .int .i64 0, .int .i64 0, .bool false] 71)) ((Below.refl wr.heap.size wr).alloc (Nat.le_refl _) _)).put HBQ.out.below.size hg2.out hr2.out (by simp only [List.mem_cons, List.not_mem_nil, or_false]; rintro p (rfl | rfl | rfl) <;> simp <;> omega))
            clear c0_0 c0_1 c0_2 c0_3 c0_4 c0_5 c0_6 c0_7 c1_3 hr2 hg2 HBQ
            generalize wr.heap.size = ge at *
            clear t0 t1 t2 t3 t4
            go_wp2_with fail
            refine Bag.region (fun wx => Below w2.heap.size w2 wx) (by kernel_rfl) (by kernel_rfl) (Below.refl _ _).drew ?_
            iterate 43 (first
                | (apply Bag.walk_yes (by rfl)
                   (intro wx hx K hK
                    have HXx := HB2.out.next hx
                    have z0_0 : wx.cell? ⟨ge, 0, none⟩ = some (.int .i64 y1) := cell_of_row _ _ _ _ _ (0, 0) HXx.r0
                    have z0_1 : wx.cell? ⟨ge, 1, none⟩ = some (.int .i64 y2) := cell_of_row _ _ _ _ _ (0, 0) HXx.r0
                    have z0_2 : wx.cell? ⟨ge, 2, none⟩ = some (.int .i64 y3) := cell_of_row _ _ _ _ _ (0, 0) HXx.r0
                    have z0_3 : wx.cell? ⟨ge, 3, none⟩ = some (.int .i64 y4) := cell_of_row _ _ _ _ _ (0, 0) HXx.r0
                    have z0_4 : wx.cell? ⟨ge, 4, none⟩ = some (.bool y5) := cell_of_row _ _ _ _ _ (0, 0) HXx.r0
                    have z1_0 : wx.cell? ⟨w.heap.size, 0, none⟩ = some (.int .i64 f) := cell_of_row _ _ _ _ _ (0, 0) HXx.r1
                    have z1_1 : wx.cell? ⟨w.heap.size, 1, none⟩ = some (.int .i64 d) := cell_of_row _ _ _ _ _ (0, 0) HXx.r1
                    have z1_2 : wx.cell? ⟨w.heap.size, 2, none⟩ = some (.int .i64 r) := cell_of_row _ _ _ _ _ (0, 0) HXx.r1
                    have z1_3 : wx.cell? ⟨w.heap.size, 3, none⟩ = some (.int .i64 p) := cell_of_row _ _ _ _ _ (0, 0) HXx.r1
                    have z1_4 : wx.cell? ⟨w.heap.size, 4, none⟩ = some (.float .f64 e1) := cell_of_row _ _ _ _ _ (0, 0) HXx.r1
                    have z1_5 : wx.cell? ⟨w.heap.size, 5, none⟩ = some (.float .f64 e2) := cell_of_row _ _ _ _ _ (0, 0) HXx.r1
                    have z1_6 : wx.cell? ⟨w.heap.size, 6, none⟩ = some (.float .f64 e3) := cell_of_row _ _ _ _ _ (0, 0) HXx.r1
                    have z1_7 : wx.cell? ⟨w.heap.size, 7, none⟩ = some (.slice A k cap) := cell_of_row _ _ _ _ _ (0, 0) HXx.r1
                    have z2_3 : wx.cell? ⟨w.heap.size + 1, 3, none⟩ = some (.slice (some ⟨bb, off, none⟩) me.length c4) := cell_of_row _ _ _ _ _ (0, 0) HXx.r2
                    obtain ⟨t0, t1, t2, t3, t4⟩ := HF.out wx HXx.below
                    first
                      | (go_simp
                         first
                          | (go_at_call 73; (with_reducible refine (FCX.out _ HXx.below).mono ?_); rintro e x1 ⟨rfl, hb⟩; exact hK _ (hx.trans (hb.mono hx.size)))
                          | (go_at_K; exact hK _ hx)))
                   rfl)
                | (refine Bag.walk_no (by rfl) ?_; simp only [Act.put, List.setIfInBounds_toArray, List.set_cons_succ, List.set_cons_zero]))
            refine Bag.walk_nil (fun w3 hb3 => ?_)
            have HB3 := Lib.hid (HB2.out.next hb3)
            clear hb3 HB2
            go_wp2_with fail
            go_roundw
            case rel => exact ⟨0 + 1, by omega, by go_num, (HB3.out.less (by simp only [List.mem_cons, List.not_mem_nil, or_false]; rintro p (rfl | rfl) <;> simp))⟩
            case measure => simp [intOf]; omega
          · have HG := Lib.hid (fun wx (hb : Below w.heap.size w wx) => five_below hb (HE.out.five (show j < me.length by omega)))
            have hls := HS.out j hlt
            generalize me[j] = q at *
            obtain ⟨q1, q2, q3, q4, q5⟩ := q
            simp only at HG
            have hw : IntKind.i64.wrap (((j + 1 : Nat) : Int) - 1) = (j : Int) := by rw [IntKind.wrap_i64]; omega
            have hw2 : IntKind.i64.wrap ((j : Int) + 1 - 1) = (j : Int) := by rw [IntKind.wrap_i64]; omega
            have hw3 : IntKind.i64.wrap (j : Int) = (j : Int) := by rw [IntKind.wrap_i64]; omega
            have hjl : (j : Int) < (me.length : Int) := by omega
            have hj0 : ¬ (j : Int) < 0 := by omega
            have hg1 : decide (((j + 1 : Nat) : Int) > 0) = true := decide_eq_true (by omega)
            have hg2 : (0 : Int) < ((j + 1 : Nat) : Int) := by omega
            generalize me[j + 1] = y at *
            obtain ⟨y1, y2, y3, y4, y5⟩ := y
            simp only at HF x1 x2 x3 x4 x5
            have FLX := Lib.hid (fun wx => FL.out ⟨q1, q2, q3, q4, q5⟩ ⟨y1, y2, y3, y4, y5⟩ hls wx)
            simp only [En.agg] at FLX
            clear hls
            have FCX := Lib.hid (fun wx hb => FC.out y1 y2 x1 wx hb)
            clear x1
            have z1 : decide (y3 < -2) = false := decide_eq_false (by omega)
            have z2 : decide (y3 ≥ (k : Int)) = false := decide_eq_false (by omega)
            have z2b : ¬ (k : Int) ≤ y3 := by omega
            have z3 : decide (y4 < 0) = false := decide_eq_false (by omega)
            have z4 : decide (y4 > 255) = false := decide_eq_false (by omega)
            have z4b : ¬ 255 < y4 := by omega
            clear x2 x3 x4 x5
            obtain ⟨t0, t1, t2, t3, t4⟩ := HF.out wr HBQ.out.below
            have c0_0 : wr.cell? ⟨w.heap.size, 0, none⟩ = some (.int .i64 f) := cell_of_row _ _ _ _ _ (0, 0) HBQ.out.r0
            have c0_1 : wr.cell? ⟨w.heap.size, 1, none⟩ = some (.int .i64 d) := cell_of_row _ _ _ _ _ (0, 0) HBQ.out.r0
            have c0_2 : wr.cell? ⟨w.heap.size, 2, none⟩ = some (.int .i64 r) := cell_of_row _ _ _ _ _ (0, 0) HBQ.out.r0
            have c0_3 : wr.cell? ⟨w.heap.size, 3, none⟩ = some (.int .i64 p) := cell_of_row _ _ _ _ _ (0, 0) HBQ.out.r0
            have c0_4 : wr.cell? ⟨w.heap.size, 4, none⟩ = some (.float .f64 e1) := cell_of_row _ _ _ _ _ (0, 0) HBQ.out.r0
            have c0_5 : wr.cell? ⟨w.heap.size, 5, none⟩ = some (.float .f64 e2) := cell_of_row _ _ _ _ _ (0, 0) HBQ.out.r0
            have c0_6 : wr.cell? ⟨w.heap.size, 6, none⟩ = some (.float .f64 e3) := cell_of_row _ _ _ _ _ (0, 0) HBQ.out.r0
            have c0_7 : wr.cell? ⟨w.heap.size, 7, none⟩ = some (.slice A k cap) := cell_of_row _ _ _ _ _ (0, 0) HBQ.out.r0
            have c1_3 : wr.cell? ⟨w.heap.size + 1, 3, none⟩ = some (.slice (some ⟨bb, off, none⟩) me.length c4) := cell_of_row _ _ _ _ _ (0, 0) HBQ.out.r1
            go_wp2_with (with_reducible show wpList _ _ _ (Oper.mk _ (.store 71 _ _) _ _ _ _ :: _) _ _; refine Hid.out ?_)
            refine Lib.hid ?_
            have l2_0 : w.heap.size < wr.heap.size := (Array.getElem?_eq_some_iff.1 HBQ.out.r0).1
            have l2_1 : w.heap.size + 1 < wr.heap.size := (Array.getElem?_eq_some_iff.1 HBQ.out.r1).1
            have lw2 : w.heap.size ≤ wr.heap.size := HBQ.out.below.size
            refine wpList_put rfl 71 _ _ rfl wr.heap.size #[.int .i64 y1, .int .i64 y2, .int .i64 y3, .int .i64 y4, .bool y5] _ 71 rfl rfl (heap_alloc_new wr _) (by kernel_rfl) rfl (by kernel_rfl) ?_
            intro w2 hr2 hg2
            have HB2 : Hid (Bx w [(wr.heap.size, .cells #[.int .i64 y1, .int .i64 y2, .int .i64 y3, .int .i64 y4, .bool y5] 71 (0, 0)), (w.heap.size, .cells #[.int .i64 f, .int .i64 d, .int .i64 r, .int .i64 p, .float .f64 e1, .float .f64 e2, .float .f64 e3, .slice A k cap] 26 (0, 0)), (w.heap.size + 1, .cells #[.slice A1 k c1, .slice A2 k c2, .slice A3 k c3, .slice (some ⟨bb, off, none⟩) me.length c4] 32 (0, 0))] w2) := Lib.hid ((HBQ.out.make (heap_alloc_new wr (.cells #[.int .i64 0, .int .i64 0, .int .i64 0, .int .i64 0, .bool false] 71)) ((Below.refl wr.heap.size wr).alloc (Nat.le_refl _) _)).put HBQ.out.below.size hg2.out hr2.out (by simp only [List.mem_cons, List.not_mem_nil, or_false]; rintro p (rfl | rfl | rfl) <;> simp <;> omega))
            clear c0_0 c0_1 c0_2 c0_3 c0_4 c0_5 c0_6 c0_7 c1_3 hr2 hg2 HBQ
            generalize wr.heap.size = ge at *
            clear t0 t1 t2 t3 t4
            go_wp2_with fail
            refine Bag.region (fun wx => Below w2.heap.size w2 wx) (by kernel_rfl) (by kernel_rfl) (Below.refl _ _).drew ?_
            iterate 43 (first
                | (apply Bag.walk_yes (by rfl)
                   (intro wx hx K hK
                    have HXx := HB2.out.next hx
                    have z0_0 : wx.cell? ⟨ge, 0, none⟩ = some (.int .i64 y1) := cell_of_row _ _ _ _ _ (0, 0) HXx.r0
                    have z0_1 : wx.cell? ⟨ge, 1, none⟩ = some (.int .i64 y2) := cell_of_row _ _ _ _ _ (0, 0) HXx.r0
                    have z0_2 : wx.cell? ⟨ge, 2, none⟩ = some (.int .i64 y3) := cell_of_row _ _ _ _ _ (0, 0) HXx.r0
                    have z0_3 : wx.cell? ⟨ge, 3, none⟩ = some (.int .i64 y4) := cell_of_row _ _ _ _ _ (0, 0) HXx.r0
                    have z0_4 : wx.cell? ⟨ge, 4, none⟩ = some (.bool y5) := cell_of_row _ _ _ _ _ (0, 0) HXx.r0
                    have z1_0 : wx.cell? ⟨w.heap.size, 0, none⟩ = some (.int .i64 f) := cell_of_row _ _ _ _ _ (0, 0) HXx.r1
                    have z1_1 : wx.cell? ⟨w.heap.size, 1, none⟩ = some (.int .i64 d) := cell_of_row _ _ _ _ _ (0, 0) HXx.r1
                    have z1_2 : wx.cell? ⟨w.heap.size, 2, none⟩ = some (.int .i64 r) := cell_of_row _ _ _ _ _ (0, 0) HXx.r1
                    have z1_3 : wx.cell? ⟨w.heap.size, 3, none⟩ = some (.int .i64 p) := cell_of_row _ _ _ _ _ (0, 0) HXx.r1
                    have z1_4 : wx.cell? ⟨w.heap.size, 4, none⟩ = some (.float .f64 e1) := cell_of_row _ _ _ _ _ (0, 0) HXx.r1
                    have z1_5 : wx.cell? ⟨w.heap.size, 5, none⟩ = some (.float .f64 e2) := cell_of_row _ _ _ _ _ (0, 0) HXx.r1
                    have z1_6 : wx.cell? ⟨w.heap.size, 6, none⟩ = some (.float .f64 e3) := cell_of_row _ _ _ _ _ (0, 0) HXx.r1
                    have z1_7 : wx.cell? ⟨w.heap.size, 7, none⟩ = some (.slice A k cap) := cell_of_row _ _ _ _ _ (0, 0) HXx.r1
                    have z2_3 : wx.cell? ⟨w.heap.size + 1, 3, none⟩ = some (.slice (some ⟨bb, off, none⟩) me.length c4) := cell_of_row _ _ _ _ _ (0, 0) HXx.r2
                    obtain ⟨t0, t1, t2, t3, t4⟩ := HF.out wx HXx.below
                    obtain ⟨s0, s1, s2, s3, s4⟩ := HG.out wx HXx.below
                    first
                      | (go_simp
                         first
                          | (go_at_call 73; (with_reducible refine (FCX.out _ HXx.below).mono ?_); rintro e x1 ⟨rfl, hb⟩; exact hK _ (hx.trans (hb.mono hx.size)))
                          | (go_at_call 74; (with_reducible refine (FLX.out _).mono ?_); rintro e x1 ⟨rfl, hb⟩; exact hK _ (hx.trans (hb.mono hx.size)))
                          | (go_at_K; exact hK _ hx)))
                   rfl)
                | (refine Bag.walk_no (by rfl) ?_; simp only [Act.put, List.setIfInBounds_toArray, List.set_cons_succ, List.set_cons_zero]))
            refine Bag.walk_nil (fun w3 hb3 => ?_)
            have HB3 := Lib.hid (HB2.out.next hb3)
            clear hb3 HB2
            go_wp2_with fail
            go_roundw
            case rel => exact ⟨(j + 1) + 1, by omega, by go_num, (HB3.out.less (by simp only [List.mem_cons, List.not_mem_nil, or_false]; rintro p (rfl | rfl) <;> simp))⟩
            case measure => simp [intOf]; omega
        · obtain rfl : i = me.length := by omega
          have hlI : ¬ (me.length : Int) < (me.length : Int) := by omega
          have c1_3 : wr.cell? ⟨w.heap.size + 1, 3, none⟩ = some (.slice A4 me.length c4) := cell_of_row _ _ _ _ _ (0, 0) HBQ.out.r1
          go_wp2_with fail
          go_ret
          exact ⟨rfl, HBQ.out.below⟩
end Go.Proofs.Ytifbkoaggjikpaa
