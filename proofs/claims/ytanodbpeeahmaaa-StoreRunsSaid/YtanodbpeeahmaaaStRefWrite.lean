/- The reference's Write, byte by byte. No statement of the seat is proved here. -/
import Derived.Test.YtanodbpeeahmaaaStActs
namespace Go.Proofs.Ytanodbpeeahmaaa
open Go.RowKit St

theorem two_put0 {w w1 : World} {x y : St} (h : Two w w1 x y) (z : ByteArray) : Two w (w1.setCell ⟨w.heap.size, 0, none⟩ (.string z)).drew ⟨z, x.b, x.sel⟩ y :=
  ⟨(h.below.setCell (p := ⟨w.heap.size, 0, none⟩) (Nat.le_refl _) _).drew, World.cell?_setCell_same _ _ _ h.a0, cell_set_at (by decide) h.a1, cell_set_at (by decide) h.a2,
    cell_set_other (by omega) h.b0, cell_set_other (by omega) h.b1, cell_set_other (by omega) h.b2, fun i => (World.frozen?_setCell ..).trans (h.f i), fun i => (World.frozen?_setCell ..).trans (h.g i)⟩
theorem two_put1 {w w1 : World} {x y : St} (h : Two w w1 x y) (z : ByteArray) : Two w (w1.setCell ⟨w.heap.size, 1, none⟩ (.string z)).drew ⟨x.a, z, x.sel⟩ y :=
  ⟨(h.below.setCell (p := ⟨w.heap.size, 1, none⟩) (Nat.le_refl _) _).drew, cell_set_at (by decide) h.a0, World.cell?_setCell_same _ _ _ h.a1, cell_set_at (by decide) h.a2,
    cell_set_other (by omega) h.b0, cell_set_other (by omega) h.b1, cell_set_other (by omega) h.b2, fun i => (World.frozen?_setCell ..).trans (h.f i), fun i => (World.frozen?_setCell ..).trans (h.g i)⟩

set_option maxRecDepth 100000 in
set_option maxHeartbeats 4000000 in
theorem refWrite_any (room : Int) (s : St) (h : Int) (d : ByteArray) (bud : Int) (w : World) (hd : d.size ≤ 1000000) (hbud : I64 bud) :
    Calls Try.prog 10 #[.int .i64 room, s.agg, .int .i64 h, .string d, .int .i64 bud] w fun e w' => e = .returned (ans (writeF room s h d bud)) ∧ Below w.heap.size w w' := by
  have F := Lib.hid (fun w => refCheck_any room s h bud w)
  by_cases hc : chk room s h bud = 0
  · obtain ⟨hB, hh, hb0⟩ := chk_zero hc
    have he := Lib.hid (show writeF room s h d bud = _ from if_pos hc)
    rw [hc] at F
    obtain ⟨q1, q2, q3, q4, -⟩ := isB_of hB
    generalize writeF room s h d bud = R at *
    obtain ⟨a, b, sel⟩ := s
    simp only [St.agg] at F he q3 q4 ⊢
    clear hc hB
    have hbu := hbud.2
    clear hbud
    rcases hh with rfl | rfl
    · by_cases c1 : room < a.size + d.size
      · have e := Lib.hid (show room < ((St.get ⟨a, b, sel⟩ 0).size : Int) + d.size by simp only [St.get]; simp; omega)
        go_enter Try.func10, Try.ntmps10
        go_wp2_with fail
        refine (F.out _).mono ?_
        rintro e w1 ⟨rfl, hb⟩
        have hb2 := hb.mono (show w.heap.size + 2 ≤ _ by simp)
        have H2 : Two w w1 ⟨a, b, sel⟩ zero := Two.mk' hb2
        have HT := Lib.hid H2
        obtain ⟨hbw, a0, a1, a2, b0, b1, b2, f, g⟩ := H2
        simp only [St.zero] at b0 b1 b2
        have HB := Lib.hid hbw
        clear hb hb2 hbw
        go_wp2_with fail
        obtain ⟨k0, k1, k2⟩ := set3 b0 b1 b2 (.string ⟨#[]⟩) (.string ⟨#[]⟩) (.int .i64 0)
        exact bodyPost_ret (results3 Try.results10 _ _ _ _ _ _ _ _ rfl rfl rfl k0 k1 k2) rfl ⟨ret_st (he.out.trans (if_pos e.out)).symm, sets HB.out _ _ _ _ _ _ _ (by omega)⟩
      · have e := Lib.hid (show ¬ room < ((St.get ⟨a, b, sel⟩ 0).size : Int) + d.size by simp only [St.get]; simp; omega)
        go_enter Try.func10, Try.ntmps10
        go_wp2_with fail
        refine (F.out _).mono ?_
        rintro e w1 ⟨rfl, hb⟩
        have hb2 := hb.mono (show w.heap.size + 2 ≤ _ by simp)
        have H2 : Two w w1 ⟨a, b, sel⟩ zero := Two.mk' hb2
        have HT := Lib.hid H2
        obtain ⟨hbw, a0, a1, a2, b0, b1, b2, f, g⟩ := H2
        simp only [St.zero] at b0 b1 b2
        have HB := Lib.hid hbw
        clear hb hb2 hbw
        go_wp2_with fail
        clear a0 a1 a2 b0 b1 b2 f g
        go_loopw [4, 14] (fun v4 v14 W => ∃ k : Nat, k ≤ d.size ∧ (k : Int) ≤ bud ∧ v14 = .int .i64 k ∧ v4 = .int .i64 (bud - k) ∧ Two w W ⟨a ++ d.extract 0 k, b, sel⟩ zero) (fun _ v14 _ => d.size - (intOf v14).toNat)
        case atStart => exact ⟨0, Nat.zero_le _, by omega, rfl, by simp, by rw [ba_none]; exact HT.out⟩
        case round =>
          obtain ⟨k, hk, hkb, rfl, rfl, hrel⟩ := hrel
          obtain ⟨z, hz⟩ : ∃ z, z = a ++ d.extract 0 k := ⟨_, rfl⟩
          have hzs : ¬ 9223372036854775807 < z.size + (d.extract k (k + 1)).size := by rw [hz, ba_size, ba_csize, ba_csize]; omega
          rw [← hz] at hrel
          have HZ := Lib.hid hz
          clear hz
          have HR := Lib.hid hrel
          obtain ⟨hbw, a0, a1, a2, b0, b1, b2, f, g⟩ := hrel
          simp only [St.zero] at b0 b1 b2
          have HW := Lib.hid hbw
          clear hbw
          by_cases hlt : k < d.size
          · by_cases hz : bud = k
            · have e2 := Lib.hid (show bud < (d.size : Int) by omega)
              have hzb : (bud - (k : Int) == 0) = true := by simp; omega
              have HQ := Lib.hid hz
              clear hz
              go_wp2
              obtain ⟨k0, k1, k2⟩ := set3 b0 b1 b2 (.string z) (.string b) (.int .i64 sel)
              have hfin : z = a ++ d.extract 0 bud.toNat := by rw [HZ.out, HQ.out]; rfl
              subst hfin
              exact bodyPost_ret (results3 Try.results10 _ _ _ _ _ _ _ _ rfl rfl rfl k0 k1 k2) rfl ⟨ret_st (he.out.trans ((if_neg (Int.not_lt.2 e.out)).trans (if_pos e2.out))).symm, sets HW.out _ _ _ _ _ _ _ (by omega)⟩
            · have hzb : (bud - (k : Int) == 0) = false := by simp; omega
              have w2 : (k : Int) ≤ (k : Int) + 1 := by omega
              have w3 : (k : Int) + 1 ≤ d.size := by omega
              have w4 : ((k : Int) + 1).toNat = k + 1 := by omega
              go_wp2
              go_region
              go_wp2
              go_roundw
              case rel =>
                refine ⟨k + 1, by omega, by omega, by go_num, by go_num, ?_⟩
                rw [← ba_step, ← HZ.out]
                exact two_put0 HR.out _
              case measure => simp [intOf]; omega
          · obtain rfl : k = d.size := by omega
            have e2 := Lib.hid (show ¬ bud < (d.size : Int) by omega)
            go_wp2
            obtain ⟨k0, k1, k2⟩ := set3 b0 b1 b2 (.string z) (.string b) (.int .i64 sel)
            have hfin : z = a ++ d := by rw [HZ.out, ba_all]
            subst hfin
            exact bodyPost_ret (results3 Try.results10 _ _ _ _ _ _ _ _ rfl rfl rfl k0 k1 k2) rfl ⟨ret_st (he.out.trans ((if_neg (Int.not_lt.2 e.out)).trans (if_neg (Int.not_lt.2 e2.out)))).symm, sets HW.out _ _ _ _ _ _ _ (by omega)⟩
    · by_cases c1 : room < b.size + d.size
      · have e := Lib.hid (show room < ((St.get ⟨a, b, sel⟩ 1).size : Int) + d.size by simp only [St.get]; simp; omega)
        go_enter Try.func10, Try.ntmps10
        go_wp2_with fail
        refine (F.out _).mono ?_
        rintro e w1 ⟨rfl, hb⟩
        have hb2 := hb.mono (show w.heap.size + 2 ≤ _ by simp)
        have H2 : Two w w1 ⟨a, b, sel⟩ zero := Two.mk' hb2
        have HT := Lib.hid H2
        obtain ⟨hbw, a0, a1, a2, b0, b1, b2, f, g⟩ := H2
        simp only [St.zero] at b0 b1 b2
        have HB := Lib.hid hbw
        clear hb hb2 hbw
        go_wp2_with fail
        obtain ⟨k0, k1, k2⟩ := set3 b0 b1 b2 (.string ⟨#[]⟩) (.string ⟨#[]⟩) (.int .i64 0)
        exact bodyPost_ret (results3 Try.results10 _ _ _ _ _ _ _ _ rfl rfl rfl k0 k1 k2) rfl ⟨ret_st (he.out.trans (if_pos e.out)).symm, sets HB.out _ _ _ _ _ _ _ (by omega)⟩
      · have e := Lib.hid (show ¬ room < ((St.get ⟨a, b, sel⟩ 1).size : Int) + d.size by simp only [St.get]; simp; omega)
        go_enter Try.func10, Try.ntmps10
        go_wp2_with fail
        refine (F.out _).mono ?_
        rintro e w1 ⟨rfl, hb⟩
        have hb2 := hb.mono (show w.heap.size + 2 ≤ _ by simp)
        have H2 : Two w w1 ⟨a, b, sel⟩ zero := Two.mk' hb2
        have HT := Lib.hid H2
        obtain ⟨hbw, a0, a1, a2, b0, b1, b2, f, g⟩ := H2
        simp only [St.zero] at b0 b1 b2
        have HB := Lib.hid hbw
        clear hb hb2 hbw
        go_wp2_with fail
        clear a0 a1 a2 b0 b1 b2 f g
        go_loopw [4, 14] (fun v4 v14 W => ∃ k : Nat, k ≤ d.size ∧ (k : Int) ≤ bud ∧ v14 = .int .i64 k ∧ v4 = .int .i64 (bud - k) ∧ Two w W ⟨a, b ++ d.extract 0 k, sel⟩ zero) (fun _ v14 _ => d.size - (intOf v14).toNat)
        case atStart => exact ⟨0, Nat.zero_le _, by omega, rfl, by simp, by rw [ba_none]; exact HT.out⟩
        case round =>
          obtain ⟨k, hk, hkb, rfl, rfl, hrel⟩ := hrel
          obtain ⟨z, hz⟩ : ∃ z, z = b ++ d.extract 0 k := ⟨_, rfl⟩
          have hzs : ¬ 9223372036854775807 < z.size + (d.extract k (k + 1)).size := by rw [hz, ba_size, ba_csize, ba_csize]; omega
          rw [← hz] at hrel
          have HZ := Lib.hid hz
          clear hz
          have HR := Lib.hid hrel
          obtain ⟨hbw, a0, a1, a2, b0, b1, b2, f, g⟩ := hrel
          simp only [St.zero] at b0 b1 b2
          have HW := Lib.hid hbw
          clear hbw
          by_cases hlt : k < d.size
          · by_cases hz : bud = k
            · have e2 := Lib.hid (show bud < (d.size : Int) by omega)
              have hzb : (bud - (k : Int) == 0) = true := by simp; omega
              have HQ := Lib.hid hz
              clear hz
              go_wp2
              obtain ⟨k0, k1, k2⟩ := set3 b0 b1 b2 (.string a) (.string z) (.int .i64 sel)
              have hfin : z = b ++ d.extract 0 bud.toNat := by rw [HZ.out, HQ.out]; rfl
              subst hfin
              exact bodyPost_ret (results3 Try.results10 _ _ _ _ _ _ _ _ rfl rfl rfl k0 k1 k2) rfl ⟨ret_st (he.out.trans ((if_neg (Int.not_lt.2 e.out)).trans (if_pos e2.out))).symm, sets HW.out _ _ _ _ _ _ _ (by omega)⟩
            · have hzb : (bud - (k : Int) == 0) = false := by simp; omega
              have w2 : (k : Int) ≤ (k : Int) + 1 := by omega
              have w3 : (k : Int) + 1 ≤ d.size := by omega
              have w4 : ((k : Int) + 1).toNat = k + 1 := by omega
              go_wp2
              go_region
              go_wp2
              go_roundw
              case rel =>
                refine ⟨k + 1, by omega, by omega, by go_num, by go_num, ?_⟩
                rw [← ba_step, ← HZ.out]
                exact two_put1 HR.out _
              case measure => simp [intOf]; omega
          · obtain rfl : k = d.size := by omega
            have e2 := Lib.hid (show ¬ bud < (d.size : Int) by omega)
            go_wp2
            obtain ⟨k0, k1, k2⟩ := set3 b0 b1 b2 (.string a) (.string z) (.int .i64 sel)
            have hfin : z = b ++ d := by rw [HZ.out, ba_all]
            subst hfin
            exact bodyPost_ret (results3 Try.results10 _ _ _ _ _ _ _ _ rfl rfl rfl k0 k1 k2) rfl ⟨ret_st (he.out.trans ((if_neg (Int.not_lt.2 e.out)).trans (if_neg (Int.not_lt.2 e2.out)))).symm, sets HW.out _ _ _ _ _ _ _ (by omega)⟩
  · have e : writeF room s h d bud = (zero, 0, chk room s h bud) := if_neg hc
    rw [e]
    clear e
    generalize chk room s h bud = R at *
    obtain ⟨a, b, sel⟩ := s
    simp only [St.agg] at F ⊢
    go_enter Try.func10, Try.ntmps10
    go_wp2_with fail
    refine (F.out _).mono ?_
    rintro e w1 ⟨rfl, hb⟩
    have hb2 := hb.mono (show w.heap.size + 2 ≤ _ by simp)
    have H2 : Two w w1 ⟨a, b, sel⟩ zero := Two.mk' hb2
    have HT := Lib.hid H2
    obtain ⟨hbw, a0, a1, a2, b0, b1, b2, f, g⟩ := H2
    simp only [St.zero] at b0 b1 b2
    have HB := Lib.hid hbw
    clear hb hb2 hbw
    go_wp2_with fail
    obtain ⟨k0, k1, k2⟩ := set3 b0 b1 b2 (.string ⟨#[]⟩) (.string ⟨#[]⟩) (.int .i64 0)
    exact bodyPost_ret (results3 Try.results10 _ _ _ _ _ _ _ _ rfl rfl rfl k0 k1 k2) rfl ⟨rfl, sets HB.out _ _ _ _ _ _ _ (by omega)⟩
end Go.Proofs.Ytanodbpeeahmaaa
