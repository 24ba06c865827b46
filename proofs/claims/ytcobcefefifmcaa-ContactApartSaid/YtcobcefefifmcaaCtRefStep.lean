/- Step of the reference. No statement of the seat is proved here. -/
import Derived.Test.YtcobcefefifmcaaCtStep
namespace Go.Proofs.Ytcobcefefifmcaa
open Go.RowKit

theorem row_put1 {w : World} {g : Nat} {t : TypeId} {s : Db} (hg : w.heap[g]? = some (.cells s.cells t (0, 0))) (k : Nat) (p : Bool × Int) (hc : s.c.set k p.1 = s.c) :
    (w.setCell ⟨g, 5 + k, none⟩ (.int .i64 p.2)).heap[g]? = some (.cells (s.put k p).cells t (0, 0)) := by
  have e : (s.put k p).cells = s.cells.setIfInBounds (5 + k) (.int .i64 p.2) := by
    unfold Db.cells Db.put
    rw [hc, List.map_set, Nat.add_comm 5 k]
    simp [Ct.cells]
  rw [e]
  exact heap_setCell_same _ _ _ _ _ _ hg

set_option maxRecDepth 100000 in
set_option maxHeartbeats 4000000 in
theorem refStep_good (n : Int) (s : Db) (r : Ct) (w : World) (hs : s.ok) (hr : r.ok) (h : s.isB n = true) :
    Calls Try.prog 15 #[.int .i64 n, s.agg, r.agg] w fun e w' => e = .returned (.tuple #[(s.step n r).agg, .int .i64 0]) ∧ Below w.heap.size w w' := by
  have FI := Lib.hid (fun w => refIsState_any n s w hs)
  rw [h] at FI
  have hi := infoDb (Db.size hs)
  have hz := infoDb41
  have HS : Hid (s.ok ∧ r.ok ∧ ∀ k, k < 36 → 0 ≤ s.n.getD k 0 ∧ s.n.getD k 0 ≤ 100) := ⟨hs, hr, fun k hk => by have h1 := (Db.isB_iff hs).1 h; have h2 := h1.2 k hk; unfold Db.at_ at h2; simp only at h2; omega⟩
  obtain ⟨R, hR⟩ : ∃ R, R = (s.step n r).agg := ⟨_, rfl⟩
  rw [← hR]
  have HR := Lib.hid hR
  obtain ⟨C, hC⟩ : ∃ C, C = s.cells := ⟨_, rfl⟩
  have HC := Lib.hid hC
  unfold Db.agg at FI ⊢
  unfold Ct.agg
  rw [← hC] at FI hi ⊢
  clear hs hr h hR hC
  obtain ⟨rf, ru, rd, ro, rc⟩ := r
  go_enter Try.func15, Try.ntmps15
  go_wp2_with (refine wpList_load_row rfl 31 _ rfl _ rfl _ _ _ _ (blk3 _ _ _ _).1 Try.underlying31 rfl hi ?_)
  refine (FI.out _).mono ?_
  rintro e w1 ⟨rfl, hb⟩
  obtain ⟨g0, g1, g2, hbw, hsz⟩ := three hb
  rw [HC.out] at g0
  obtain ⟨Z, hZ, hZ2⟩ : ∃ Z : Array Value, Z.size = 41 ∧ w1.heap[w.heap.size + 1 + 1]? = some (.cells Z 31 (0, 0)) := ⟨_, rfl, g2⟩
  have G := Lib.hid (And.intro g0 (And.intro g1 (And.intro hZ2 hbw)))
  clear hb g0 g1 g2 hbw hZ2
  go_wp2_with fail
  go_loopw [8] (fun v wr => ∃ k : Nat, k ≤ 36 ∧ v = .int .i64 k ∧ wr.heap[w.heap.size]? = some (.cells (Db.stepTo n ⟨rf, ru, rd, ro, rc⟩ s k).cells 31 (0, 0)) ∧ wr.heap[w.heap.size + 1]? = some (.cells #[.int .u32 rf, .bool ru, .bool rd, .bool ro, .bool rc] 24 (0, 0)) ∧
    wr.heap[w.heap.size + 1 + 1]? = some (.cells Z 31 (0, 0)) ∧ Below w.heap.size w wr) (fun v _ => 36 - (intOf v).toNat)
  case atStart => exact ⟨0, Nat.zero_le _, rfl, G.out.1, G.out.2.1, G.out.2.2.1, G.out.2.2.2⟩
  case round =>
    obtain ⟨k, hk, rfl, h0, h1, h2, hbw⟩ := hrel
    have hsr : w.heap.size + 1 + 1 < wr.heap.size := by
      rcases Nat.lt_or_ge (w.heap.size + 1 + 1) wr.heap.size with h | h
      · exact h
      · rw [Array.getElem?_eq_none h] at h2; cases h2
    by_cases hlt : k < 36
    · have okD := Db.ok_stepTo (n := n) (r := ⟨rf, ru, rd, ro, rc⟩) HS.out.1 k
      have hdb := Db.debAt_stepTo (n := n) (r := ⟨rf, ru, rd, ro, rc⟩) HS.out.1 hlt
      have hat := congrArg Prod.snd (Db.at_stepTo (n := n) (r := ⟨rf, ru, rd, ro, rc⟩) HS.out.1 k (by omega) k)
      rw [if_neg (by omega)] at hat
      unfold Db.at_ at hat
      simp only at hat
      have hbd := HS.out.2.2 k hlt
      rw [← hat] at hbd
      have hnx : Db.stepTo n ⟨rf, ru, rd, ro, rc⟩ s (k + 1) = (Db.stepTo n ⟨rf, ru, rd, ro, rc⟩ s k).put k (Db.debAt n ⟨rf, ru, rd, ro, rc⟩ s k) := rfl
      have hcn := Db.cell_n okD hlt
      have hc0 := Db.cg0 (Db.stepTo n ⟨rf, ru, rd, ro, rc⟩ s k)
      have hc1 := Db.cg1 (Db.stepTo n ⟨rf, ru, rd, ro, rc⟩ s k)
      have hc2 := Db.cg2 (Db.stepTo n ⟨rf, ru, rd, ro, rc⟩ s k)
      have hc3 := Db.cg3 (Db.stepTo n ⟨rf, ru, rd, ro, rc⟩ s k)
      have hc4 := Db.cg4 (Db.stepTo n ⟨rf, ru, rd, ro, rc⟩ s k)
      have hrp := fun wx hg => row_put (w := wx) (g := w.heap.size) (t := 31) (s := Db.stepTo n ⟨rf, ru, rd, ro, rc⟩ s k) hg k (Db.debAt n ⟨rf, ru, rd, ro, rc⟩ s k)
      rw [← hnx] at hrp
      obtain ⟨D2, hD2⟩ : ∃ D2, D2 = Db.stepTo n ⟨rf, ru, rd, ro, rc⟩ s (k + 1) := ⟨_, rfl⟩
      rw [← hD2] at hnx hrp
      have HD2 := Lib.hid hD2
      clear hD2
      generalize Db.stepTo n ⟨rf, ru, rd, ro, rc⟩ s k = D at *
      generalize Db.debAt n ⟨rf, ru, rd, ro, rc⟩ s k = p at *
      have F1 := Lib.hid (fun wx => refGet_any D.c (k : Int) wx okD.c)
      have F2 := Lib.hid (fun wx => refGet_any ⟨rf, ru, rd, ro, rc⟩ (k : Int) wx HS.out.2.1)
      have F4 := Lib.hid (fun wx => refSet_any D.c (k : Int) (Ct.get ⟨rf, ru, rd, ro, rc⟩ k) wx okD.c)
      have hsg := Ct.set_get D.c okD.c hlt
      have hr1p := fun wx hg => row_put1 (w := wx) (g := w.heap.size) (t := 31) (s := D) hg k p
      rw [← hnx] at hr1p
      unfold deb at hdb
      simp only [Ct.getI_nat, Ct.setI_nat, Ct.agg] at F1 F2 F4
      generalize hcq : D.c.set k (Ct.get ⟨rf, ru, rd, ro, rc⟩ k) = c' at F4
      have hrp' := fun wx hg h => hrp wx hg c' h
      generalize hbd2 : D.c.get k = bd at *
      generalize hbr2 : Ct.get ⟨rf, ru, rd, ro, rc⟩ k = br at *
      generalize hkd2 : D.n.getD k 0 = kd at *
      have HP := Lib.hid hdb
      have HSG := Lib.hid hsg
      have HCQ := Lib.hid hcq
      clear hdb hsg hcq hbd2 hbr2 hkd2
      obtain ⟨hbd1, hbd2⟩ := hbd
      generalize D.c.fl = df at *
      generalize D.c.up = du at *
      generalize D.c.dn = dd at *
      generalize D.c.opn = do_ at *
      generalize D.c.cls = dc at *
      obtain ⟨cf, cu, cd, co, cc⟩ := c'
      simp only at F4 hrp'
      have HRP := Lib.hid hrp'
      have HR1P := Lib.hid hr1p
      generalize hDC : D.cells = DC at *
      have HG := Lib.hid (And.intro h0 (And.intro h1 (And.intro h2 hbw)))
      have HX := Lib.hid (fun wx (hx : wx.heap[w.heap.size]? = some (.cells DC 31 (0, 0))) => (⟨(cell_of_row wx _ _ _ _ (0, 0) hx).trans hc0, (cell_of_row wx _ _ _ _ (0, 0) hx).trans hc1, (cell_of_row wx _ _ _ _ (0, 0) hx).trans hc2, (cell_of_row wx _ _ _ _ (0, 0) hx).trans hc3, (cell_of_row wx _ _ _ _ (0, 0) hx).trans hc4, (cell_of_row wx _ _ _ _ (0, 0) hx).trans hcn⟩ : wx.cell? ⟨w.heap.size, 0, none⟩ = some (.int .u32 df) ∧ wx.cell? ⟨w.heap.size, 1, none⟩ = some (.bool du) ∧ wx.cell? ⟨w.heap.size, 2, none⟩ = some (.bool dd) ∧ wx.cell? ⟨w.heap.size, 3, none⟩ = some (.bool do_) ∧ wx.cell? ⟨w.heap.size, 4, none⟩ = some (.bool dc) ∧ wx.cell? ⟨w.heap.size, 5 + k, none⟩ = some (.int .i64 kd)))
      have HFZ := Lib.hid (fun wx j (hx : wx.heap[w.heap.size]? = some (.cells DC 31 (0, 0))) => frozen_of_row wx w.heap.size j DC 31 hx)
      clear h0 h1 h2 hbw hat hnx hcn hc0 hc1 hc2 hc3 hc4 hrp hrp' hr1p okD
      have E0 := Lib.hid (fun wx (hx : Below wr.heap.size wr wx) => HX.out wx ((hx.block _ (by omega)).trans HG.out.1))
      have E1 := Lib.hid (fun wx j (hx : Below wr.heap.size wr wx) => HFZ.out wx j ((hx.block _ (by omega)).trans HG.out.1))
      have E2 := Lib.hid (fun wx (hx : Below wr.heap.size wr wx) => (hx.block (w.heap.size + 1) (by omega)).trans HG.out.2.1)
      have E3 := Lib.hid (fun wx (hx : Below wr.heap.size wr wx) => (hx.block w.heap.size (by omega)).trans HG.out.1)
      have E4 := Lib.hid (fun wx (hx : Below wr.heap.size wr wx) => (hx.block (w.heap.size + 1 + 1) (by omega)).trans HG.out.2.2.1)
      have E5 := Lib.hid (fun wx (hx : Below wr.heap.size wr wx) => HG.out.2.2.2.trans (hx.mono (by omega)))
      clear HX HFZ HG
      have h1 := E2.out wr (Below.refl _ _)
      have r0 : wr.cell? ⟨w.heap.size + 1, 0, none⟩ = some (.int .u32 rf) := cell_of_row _ _ _ _ _ (0, 0) h1
      have r1 : wr.cell? ⟨w.heap.size + 1, 1, none⟩ = some (.bool ru) := cell_of_row _ _ _ _ _ (0, 0) h1
      have r2 : wr.cell? ⟨w.heap.size + 1, 2, none⟩ = some (.bool rd) := cell_of_row _ _ _ _ _ (0, 0) h1
      have r3 : wr.cell? ⟨w.heap.size + 1, 3, none⟩ = some (.bool ro) := cell_of_row _ _ _ _ _ (0, 0) h1
      have r4 : wr.cell? ⟨w.heap.size + 1, 4, none⟩ = some (.bool rc) := cell_of_row _ _ _ _ _ (0, 0) h1
      clear h1
      go_wp2_with fail
      refine (F2.out _).mono ?_
      rintro e x0 ⟨rfl, hb0⟩
      clear r0 r1 r2 r3 r4
      obtain ⟨c0, c1, c2, c3, c4, -⟩ := E0.out x0 hb0
      have HB0 := Lib.hid hb0
      have hs0 := hb0.size
      clear hb0
      go_wp2_with fail
      refine (F1.out _).mono ?_
      rintro e x1 ⟨rfl, hb1⟩
      clear c0 c1 c2 c3 c4
      have hx1 := HB0.out.trans (hb1.mono hs0)
      obtain ⟨-, -, -, -, -, cn⟩ := E0.out x1 hx1
      have f5 := E1.out x1 (5 + k) hx1
      have HX1 := Lib.hid hx1
      have hs1 := hx1.size
      clear hb1 hx1
      by_cases hq : br = bd
      · have hqb : (br == bd) = true := beq_iff_eq.2 hq
        have hp := HP.out
        rw [if_pos hq] at hp
        have hd2 := HR1P.out x1 (E3.out x1 HX1.out) (by rw [← hp]; exact HSG.out)
        rw [← hp] at hd2
        have HR1 := Lib.hid hd2
        clear hq hp hd2
        go_wp2_with fail
        go_roundw
        case rel =>
          have hd2 := HR1.out
          rw [HD2.out] at hd2
          refine ⟨k + 1, by omega, by go_num, hd2, ?_, ?_, ?_⟩
          · rw [heap_setCell_other _ _ _ _ (by show ¬ _ = w.heap.size; omega)]; exact E2.out x1 HX1.out
          · rw [heap_setCell_other _ _ _ _ (by show ¬ _ = w.heap.size; omega)]; exact E4.out x1 HX1.out
          · exact (E5.out x1 HX1.out).setCell (p := ⟨w.heap.size, 5 + k, none⟩) (Nat.le_refl _) _
        case measure => simp [intOf]; omega
      · have hqb : (br == bd) = false := beq_eq_false_iff_ne.2 hq
        have hp := HP.out
        rw [if_neg hq] at hp
        by_cases hq2 : kd + 1 = n
        · rw [if_pos hq2] at hp
          have hq2b : (kd + 1 == n) = true := beq_iff_eq.2 hq2
          have HPP := Lib.hid hp
          clear hq hp hq2
          obtain ⟨c0, c1, c2, c3, c4, -⟩ := E0.out x1 HX1.out
          go_wp2_with fail
          refine (F4.out _).mono ?_
          rintro e x2 ⟨rfl, hb2⟩
          have hx2 := HX1.out.trans (hb2.mono hs1)
          clear c0 c1 c2 c3 c4 cn f5
          obtain ⟨c0, c1, c2, c3, c4, cn⟩ := E0.out x2 hx2
          have f0 := E1.out x2 0 hx2
          have f1 := E1.out x2 1 hx2
          have f2 := E1.out x2 2 hx2
          have f3 := E1.out x2 3 hx2
          have f4 := E1.out x2 4 hx2
          have f5 := E1.out x2 (5 + k) hx2
          have HX2 := Lib.hid hx2
          have hd2 := HRP.out x2 (E3.out x2 hx2) (by rw [← HPP.out]; exact HCQ.out.symm)
          rw [← HPP.out] at hd2
          have HR1 := Lib.hid hd2
          clear hb2 hx2 hd2
          go_wp2_with fail
          go_roundw
          case rel =>
            have hd2 := HR1.out
            rw [HD2.out] at hd2
            refine ⟨k + 1, by omega, by go_num, hd2, ?_, ?_, ?_⟩
            · rw [six_other _ _ _ _ _ _ _ _ _ _ (by omega)]; exact E2.out x2 HX2.out
            · rw [six_other _ _ _ _ _ _ _ _ _ _ (by omega)]; exact E4.out x2 HX2.out
            · exact six_below (E5.out x2 HX2.out) _ _ _ _ _ _ _ _ (Nat.le_refl _)
          case measure => simp [intOf]; omega
        · rw [if_neg hq2] at hp
          have hqn : (kd + 1 == n) = false := beq_eq_false_iff_ne.2 hq2
          have hd2 := HR1P.out x1 (E3.out x1 HX1.out) (by rw [← hp]; exact HSG.out)
          rw [← hp] at hd2
          have HR1 := Lib.hid hd2
          clear hq hp hd2 hq2
          go_wp2_with fail
          go_roundw
          case rel =>
            have hd2 := HR1.out
            rw [HD2.out] at hd2
            refine ⟨k + 1, by omega, by go_num, hd2, ?_, ?_, ?_⟩
            · rw [heap_setCell_other _ _ _ _ (by show ¬ _ = w.heap.size; omega)]; exact E2.out x1 HX1.out
            · rw [heap_setCell_other _ _ _ _ (by show ¬ _ = w.heap.size; omega)]; exact E4.out x1 HX1.out
            · exact (E5.out x1 HX1.out).setCell (p := ⟨w.heap.size, 5 + k, none⟩) (Nat.le_refl _) _
          case measure => simp [intOf]; omega
    · obtain rfl : k = 36 := by omega
      have hst : Db.stepTo n ⟨rf, ru, rd, ro, rc⟩ s 36 = s.step n ⟨rf, ru, rd, ro, rc⟩ := rfl
      rw [hst] at h0
      have hRE := HR.out
      rw [Db.agg_list] at hRE
      have hi2 := infoDb (Db.size (Db.ok_step (n := n) (r := ⟨rf, ru, rd, ro, rc⟩) HS.out.1))
      have h1c := Db.one (s.step n ⟨rf, ru, rd, ro, rc⟩)
      have hs41 := Db.size (Db.ok_step (n := n) (r := ⟨rf, ru, rd, ro, rc⟩) HS.out.1)
      generalize (s.step n ⟨rf, ru, rd, ro, rc⟩).cells = E at *
      have ht := there_of_row (n := E.size) h2 (by omega)
      have HRE := Lib.hid hRE
      have HBW := Lib.hid hbw
      clear h1 h2 hRE hbw hst
      go_wp2_with (first | (refine wpList_load_row rfl 31 _ rfl _ rfl _ _ _ _ h0 Try.underlying31 rfl hi2 ?_) | (refine wpList_store_mid rfl 31 _ _ rfl _ _ E rfl rfl ht hi2 h1c ?_))
      refine bodyPost_ret (results_mid_slot Try.results15 _ _ _ E.toList _ ?hp (World.rangeAt_setCells_same _ _ _ _ ?ht) Try.underlying31 ?hd ?hi) ?hdf ⟨?he, Below.setCells ?hb _ _ HBW.out⟩
      case hp => rfl
      case hd => rfl
      case hdf => rfl
      case hb => omega
      case ht => exact ht
      case hi => exact hi2
      case he => rw [HRE.out]; rfl
end Go.Proofs.Ytcobcefefifmcaa
