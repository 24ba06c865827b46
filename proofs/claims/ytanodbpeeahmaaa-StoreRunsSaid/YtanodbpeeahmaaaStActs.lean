/- Erase and Choose, and the reference's. No statement of the seat is proved here. -/
import Derived.Test.YtanodbpeeahmaaaStWrite
namespace Go.Proofs.Ytanodbpeeahmaaa
open Go.RowKit St

/-- Erase's own function. -/
theorem eraser_any (a b : ByteArray) (hb hs : Nat) (h : Int) (hh : h = 0 ∨ h = 1) (w : World) (_hne : hb ≠ hs)
    (k : w.cell? ⟨hb, 0, none⟩ = some (.int .i64 h)) (a0 : w.cell? ⟨hs, 0, none⟩ = some (.string a)) (a1 : w.cell? ⟨hs, 1, none⟩ = some (.string b)) (f : ∀ i, w.frozen? ⟨hs, i, none⟩ = false) :
    Calls Try.prog 22 #[.pointer (some ⟨hs, 0, none⟩), .pointer (some ⟨hb, 0, none⟩)] w fun e w' => (∃ v, e = .returned v) ∧ w' = (w.setCell ⟨hs, h.toNat, none⟩ (.string ⟨#[]⟩)).drew := by
  rcases hh with rfl | rfl
  · go_enter Try.func22, Try.ntmps22
    go_region
    exact bodyPost_end (results_none Try.results22 _ _ _) rfl ⟨⟨_, rfl⟩, rfl⟩
  · go_enter Try.func22, Try.ntmps22
    go_region
    exact bodyPost_end (results_none Try.results22 _ _ _) rfl ⟨⟨_, rfl⟩, rfl⟩
theorem chooser_any (hb hs : Nat) (h x : Int) (w : World)
    (k : w.cell? ⟨hb, 0, none⟩ = some (.int .i64 h)) (a2 : w.cell? ⟨hs, 2, none⟩ = some (.int .i64 x)) (f : ∀ i, w.frozen? ⟨hs, i, none⟩ = false) :
    Calls Try.prog 23 #[.pointer (some ⟨hs, 0, none⟩), .pointer (some ⟨hb, 0, none⟩)] w fun e w' => (∃ v, e = .returned v) ∧ w' = w.setCell ⟨hs, 2, none⟩ (.int .i64 h) := by
  go_enter Try.func23, Try.ntmps23
  go_wp2_with fail
  exact bodyPost_end (results_none Try.results23 _ _ _) rfl ⟨⟨_, rfl⟩, rfl⟩

theorem cell_set_at {w1 : World} {b i i' : Nat} {v x : Value} (_h : i ≠ i') (k : w1.cell? ⟨b, i', none⟩ = some x) : (w1.setCell ⟨b, i, none⟩ v).cell? ⟨b, i', none⟩ = some x := by
  simp [go_sem, k]

theorem three_rows {w w1 : World} {A B : Obj} (hb : Below (w.heap.size + 3) (((w.alloc A).alloc B).alloc (.cells zero.row 24)) w1) :
    Below w.heap.size w w1 ∧ w1.cell? ⟨w.heap.size + 2, 0, none⟩ = some (.string ⟨#[]⟩) ∧ w1.cell? ⟨w.heap.size + 2, 1, none⟩ = some (.string ⟨#[]⟩) ∧ w1.cell? ⟨w.heap.size + 2, 2, none⟩ = some (.int .i64 0) ∧ ∀ i, w1.frozen? ⟨w.heap.size + 2, i, none⟩ = false := by
  have r1 : w1.heap[w.heap.size + 2]? = some (.cells zero.row 24) := by
    rw [hb.block _ (by omega)]
    have := heap_alloc_new ((w.alloc A).alloc B) (.cells zero.row 24)
    simpa using this
  exact ⟨((((Below.refl w.heap.size w).alloc (Nat.le_refl _) _).alloc (by simp) _).alloc (by simp; omega) _).trans (hb.mono (by omega)),
    cell_of_row w1 _ _ _ _ (0, 0) r1, cell_of_row w1 _ _ _ _ (0, 0) r1, cell_of_row w1 _ _ _ _ (0, 0) r1, fun i => frozen_of_row _ _ _ _ _ r1⟩

set_option maxRecDepth 100000 in
set_option maxHeartbeats 4000000 in
theorem unitE_any (room : Int) (s : St) (h bud : Int) (hb0 : Nat) (w : World) (hbud : I64 bud) (hlt : hb0 < w.heap.size) (hk : w.cell? ⟨hb0, 0, none⟩ = some (.int .i64 h)) :
    Calls Try.prog 21 #[.int .i64 room, s.agg, .int .i64 h, .int .i64 bud, .func (.func 22) #[] #[.pointer (some ⟨hb0, 0, none⟩)]] w fun e w' => e = .returned (ans (eraseF room s h bud)) ∧ Below w.heap.size w w' := by
  have F := Lib.hid (fun w => check_any room s h bud w)
  have HK := Lib.hid (fun w1 (hb : Below w.heap.size w w1) => (hb.cell (p := ⟨hb0, 0, none⟩) hlt).trans hk)
  clear hk
  by_cases hc : chk room s h bud = 0
  · obtain ⟨-, hh, hb0'⟩ := chk_zero hc
    have he := Lib.hid (show eraseF room s h bud = _ from if_pos hc)
    rw [hc] at F
    generalize eraseF room s h bud = R at *
    obtain ⟨a, b, sel⟩ := s
    simp only [St.agg] at F he ⊢
    clear hc
    have hbu := hbud.2
    clear hbud
    by_cases c1 : bud = 0
    · subst c1
      go_enter Try.func21, Try.ntmps21
      go_wp2_with fail
      refine (F.out _).mono ?_
      rintro e w1 ⟨rfl, hb⟩
      have hb2 := hb.mono (show w.heap.size + 2 ≤ _ by simp)
      have H2 : Two w w1 ⟨a, b, sel⟩ zero := Two.mk' hb2
      obtain ⟨hbw, a0, a1, a2, b0, b1, b2, f, g⟩ := H2
      simp only [St.zero] at b0 b1 b2
      have HB := Lib.hid hbw
      clear hb hb2 hbw
      go_wp2_with fail
      obtain ⟨k0, k1, k2⟩ := set3 b0 b1 b2 (.string a) (.string b) (.int .i64 sel)
      exact bodyPost_ret (results3 Try.results21 _ _ _ _ _ _ _ _ rfl rfl rfl k0 k1 k2) rfl ⟨ret_st (he.out.trans (if_pos (by trivial))).symm, sets HB.out _ _ _ _ _ _ _ (by omega)⟩
    · have c2 : 0 < bud := by omega
      rcases hh with rfl | rfl
      · have c3 := Lib.hid c1
        clear c1
        go_enter Try.func21, Try.ntmps21
        go_wp2_with fail
        refine (F.out _).mono ?_
        rintro e w1 ⟨rfl, hb⟩
        have hb2 := hb.mono (show w.heap.size + 2 ≤ _ by simp)
        have H2 : Two w w1 ⟨a, b, sel⟩ zero := Two.mk' hb2
        obtain ⟨hbw, a0, a1, a2, b0, b1, b2, f, g⟩ := H2
        simp only [St.zero] at b0 b1 b2
        have HB := Lib.hid hbw
        clear hb hb2 hbw
        go_wp2_with fail
        refine (eraser_any a b hb0 w.heap.size 0 (by decide) w1 (by omega) (HK.out w1 HB.out) a0 a1 f).mono ?_
        rintro e w2 ⟨⟨v, rfl⟩, hw2⟩
        have n0 : w2.cell? ⟨w.heap.size + 1, 0, none⟩ = some (.string ⟨#[]⟩) := by rw [hw2]; exact cell_set_other (b := w.heap.size) (i := 0) (v := (.string ⟨#[]⟩)) (by omega) b0
        have m0 : w2.cell? ⟨w.heap.size, 0, none⟩ = some (.string ⟨#[]⟩) := by rw [hw2]; exact World.cell?_setCell_same _ _ _ a0
        have n1 : w2.cell? ⟨w.heap.size + 1, 1, none⟩ = some (.string ⟨#[]⟩) := by rw [hw2]; exact cell_set_other (b := w.heap.size) (i := 0) (v := (.string ⟨#[]⟩)) (by omega) b1
        have m1 : w2.cell? ⟨w.heap.size, 1, none⟩ = some (.string b) := by rw [hw2]; exact cell_set_at (i := 0) (v := (.string ⟨#[]⟩)) (by decide) a1
        have n2 : w2.cell? ⟨w.heap.size + 1, 2, none⟩ = some (.int .i64 0) := by rw [hw2]; exact cell_set_other (b := w.heap.size) (i := 0) (v := (.string ⟨#[]⟩)) (by omega) b2
        have m2 : w2.cell? ⟨w.heap.size, 2, none⟩ = some (.int .i64 sel) := by rw [hw2]; exact cell_set_at (i := 0) (v := (.string ⟨#[]⟩)) (by decide) a2
        have f2 : ∀ i, w2.frozen? ⟨w.heap.size + 1, i, none⟩ = false := fun i => by rw [hw2]; exact (World.frozen?_setCell ..).trans (g i)
        have HB2 := Lib.hid (show Below w.heap.size w w2 by rw [hw2]; exact (HB.out.setCell (p := ⟨w.heap.size, 0, none⟩) (Nat.le_refl _) _).drew)
        clear hw2 a0 a1 a2 b0 b1 b2 f g
        go_wp2_with fail
        obtain ⟨k0, k1, k2⟩ := set3 n0 n1 n2 (.string ⟨#[]⟩) (.string b) (.int .i64 sel)
        exact bodyPost_ret (results3 Try.results21 _ _ _ _ _ _ _ _ rfl rfl rfl k0 k1 k2) rfl ⟨ret_st (he.out.trans (if_neg c3.out)).symm, sets HB2.out _ _ _ _ _ _ _ (by omega)⟩
      · have c3 := Lib.hid c1
        clear c1
        go_enter Try.func21, Try.ntmps21
        go_wp2_with fail
        refine (F.out _).mono ?_
        rintro e w1 ⟨rfl, hb⟩
        have hb2 := hb.mono (show w.heap.size + 2 ≤ _ by simp)
        have H2 : Two w w1 ⟨a, b, sel⟩ zero := Two.mk' hb2
        obtain ⟨hbw, a0, a1, a2, b0, b1, b2, f, g⟩ := H2
        simp only [St.zero] at b0 b1 b2
        have HB := Lib.hid hbw
        clear hb hb2 hbw
        go_wp2_with fail
        refine (eraser_any a b hb0 w.heap.size 1 (by decide) w1 (by omega) (HK.out w1 HB.out) a0 a1 f).mono ?_
        rintro e w2 ⟨⟨v, rfl⟩, hw2⟩
        have n0 : w2.cell? ⟨w.heap.size + 1, 0, none⟩ = some (.string ⟨#[]⟩) := by rw [hw2]; exact cell_set_other (b := w.heap.size) (i := 1) (v := (.string ⟨#[]⟩)) (by omega) b0
        have m0 : w2.cell? ⟨w.heap.size, 0, none⟩ = some (.string a) := by rw [hw2]; exact cell_set_at (i := 1) (v := (.string ⟨#[]⟩)) (by decide) a0
        have n1 : w2.cell? ⟨w.heap.size + 1, 1, none⟩ = some (.string ⟨#[]⟩) := by rw [hw2]; exact cell_set_other (b := w.heap.size) (i := 1) (v := (.string ⟨#[]⟩)) (by omega) b1
        have m1 : w2.cell? ⟨w.heap.size, 1, none⟩ = some (.string ⟨#[]⟩) := by rw [hw2]; exact World.cell?_setCell_same _ _ _ a1
        have n2 : w2.cell? ⟨w.heap.size + 1, 2, none⟩ = some (.int .i64 0) := by rw [hw2]; exact cell_set_other (b := w.heap.size) (i := 1) (v := (.string ⟨#[]⟩)) (by omega) b2
        have m2 : w2.cell? ⟨w.heap.size, 2, none⟩ = some (.int .i64 sel) := by rw [hw2]; exact cell_set_at (i := 1) (v := (.string ⟨#[]⟩)) (by decide) a2
        have f2 : ∀ i, w2.frozen? ⟨w.heap.size + 1, i, none⟩ = false := fun i => by rw [hw2]; exact (World.frozen?_setCell ..).trans (g i)
        have HB2 := Lib.hid (show Below w.heap.size w w2 by rw [hw2]; exact (HB.out.setCell (p := ⟨w.heap.size, 1, none⟩) (Nat.le_refl _) _).drew)
        clear hw2 a0 a1 a2 b0 b1 b2 f g
        go_wp2_with fail
        obtain ⟨k0, k1, k2⟩ := set3 n0 n1 n2 (.string a) (.string ⟨#[]⟩) (.int .i64 sel)
        exact bodyPost_ret (results3 Try.results21 _ _ _ _ _ _ _ _ rfl rfl rfl k0 k1 k2) rfl ⟨ret_st (he.out.trans (if_neg c3.out)).symm, sets HB2.out _ _ _ _ _ _ _ (by omega)⟩
  · have e : eraseF room s h bud = (zero, 0, chk room s h bud) := if_neg hc
    rw [e]
    clear e
    generalize chk room s h bud = R at *
    obtain ⟨a, b, sel⟩ := s
    simp only [St.agg] at F ⊢
    go_enter Try.func21, Try.ntmps21
    go_wp2_with fail
    refine (F.out _).mono ?_
    rintro e w1 ⟨rfl, hb⟩
    have hb2 := hb.mono (show w.heap.size + 2 ≤ _ by simp)
    have H2 : Two w w1 ⟨a, b, sel⟩ zero := Two.mk' hb2
    obtain ⟨hbw, a0, a1, a2, b0, b1, b2, f, g⟩ := H2
    simp only [St.zero] at b0 b1 b2
    have HB := Lib.hid hbw
    clear hb hb2 hbw
    go_wp2_with fail
    obtain ⟨k0, k1, k2⟩ := set3 b0 b1 b2 (.string ⟨#[]⟩) (.string ⟨#[]⟩) (.int .i64 0)
    exact bodyPost_ret (results3 Try.results21 _ _ _ _ _ _ _ _ rfl rfl rfl k0 k1 k2) rfl ⟨rfl, sets HB.out _ _ _ _ _ _ _ (by omega)⟩
set_option maxRecDepth 100000 in
set_option maxHeartbeats 4000000 in
theorem unitC_any (room : Int) (s : St) (h bud : Int) (hb0 : Nat) (w : World) (hbud : I64 bud) (hlt : hb0 < w.heap.size) (hk : w.cell? ⟨hb0, 0, none⟩ = some (.int .i64 h)) :
    Calls Try.prog 21 #[.int .i64 room, s.agg, .int .i64 h, .int .i64 bud, .func (.func 23) #[] #[.pointer (some ⟨hb0, 0, none⟩)]] w fun e w' => e = .returned (ans (chooseF room s h bud)) ∧ Below w.heap.size w w' := by
  have F := Lib.hid (fun w => check_any room s h bud w)
  have HK := Lib.hid (fun w1 (hb : Below w.heap.size w w1) => (hb.cell (p := ⟨hb0, 0, none⟩) hlt).trans hk)
  clear hk
  by_cases hc : chk room s h bud = 0
  · obtain ⟨-, hh, hb0'⟩ := chk_zero hc
    have he := Lib.hid (show chooseF room s h bud = _ from if_pos hc)
    rw [hc] at F
    generalize chooseF room s h bud = R at *
    obtain ⟨a, b, sel⟩ := s
    simp only [St.agg] at F he ⊢
    clear hc
    have hbu := hbud.2
    clear hbud
    by_cases c1 : bud = 0
    · subst c1
      go_enter Try.func21, Try.ntmps21
      go_wp2_with fail
      refine (F.out _).mono ?_
      rintro e w1 ⟨rfl, hb⟩
      have hb2 := hb.mono (show w.heap.size + 2 ≤ _ by simp)
      have H2 : Two w w1 ⟨a, b, sel⟩ zero := Two.mk' hb2
      obtain ⟨hbw, a0, a1, a2, b0, b1, b2, f, g⟩ := H2
      simp only [St.zero] at b0 b1 b2
      have HB := Lib.hid hbw
      clear hb hb2 hbw
      go_wp2_with fail
      obtain ⟨k0, k1, k2⟩ := set3 b0 b1 b2 (.string a) (.string b) (.int .i64 sel)
      exact bodyPost_ret (results3 Try.results21 _ _ _ _ _ _ _ _ rfl rfl rfl k0 k1 k2) rfl ⟨ret_st (he.out.trans (if_pos (by trivial))).symm, sets HB.out _ _ _ _ _ _ _ (by omega)⟩
    · have c2 : 0 < bud := by omega
      have c3 := Lib.hid c1
      clear c1
      go_enter Try.func21, Try.ntmps21
      go_wp2_with fail
      refine (F.out _).mono ?_
      rintro e w1 ⟨rfl, hb⟩
      have hb2 := hb.mono (show w.heap.size + 2 ≤ _ by simp)
      have H2 : Two w w1 ⟨a, b, sel⟩ zero := Two.mk' hb2
      obtain ⟨hbw, a0, a1, a2, b0, b1, b2, f, g⟩ := H2
      simp only [St.zero] at b0 b1 b2
      have HB := Lib.hid hbw
      clear hb hb2 hbw
      go_wp2_with fail
      refine (chooser_any hb0 w.heap.size h sel w1 (HK.out w1 HB.out) a2 f).mono ?_
      rintro e w2 ⟨⟨v, rfl⟩, hw2⟩
      have n0 : w2.cell? ⟨w.heap.size + 1, 0, none⟩ = some (.string ⟨#[]⟩) := by rw [hw2]; exact cell_set_other (b := w.heap.size) (i := 2) (v := (.int .i64 h)) (by omega) b0
      have m0 : w2.cell? ⟨w.heap.size, 0, none⟩ = some (.string a) := by rw [hw2]; exact cell_set_at (i := 2) (v := (.int .i64 h)) (by decide) a0
      have n1 : w2.cell? ⟨w.heap.size + 1, 1, none⟩ = some (.string ⟨#[]⟩) := by rw [hw2]; exact cell_set_other (b := w.heap.size) (i := 2) (v := (.int .i64 h)) (by omega) b1
      have m1 : w2.cell? ⟨w.heap.size, 1, none⟩ = some (.string b) := by rw [hw2]; exact cell_set_at (i := 2) (v := (.int .i64 h)) (by decide) a1
      have n2 : w2.cell? ⟨w.heap.size + 1, 2, none⟩ = some (.int .i64 0) := by rw [hw2]; exact cell_set_other (b := w.heap.size) (i := 2) (v := (.int .i64 h)) (by omega) b2
      have m2 : w2.cell? ⟨w.heap.size, 2, none⟩ = some (.int .i64 h) := by rw [hw2]; exact World.cell?_setCell_same _ _ _ a2
      have f2 : ∀ i, w2.frozen? ⟨w.heap.size + 1, i, none⟩ = false := fun i => by rw [hw2]; exact (World.frozen?_setCell ..).trans (g i)
      have HB2 := Lib.hid (show Below w.heap.size w w2 by rw [hw2]; exact (HB.out.setCell (p := ⟨w.heap.size, 2, none⟩) (Nat.le_refl _) _))
      clear hw2 a0 a1 a2 b0 b1 b2 f g
      go_wp2_with fail
      obtain ⟨k0, k1, k2⟩ := set3 n0 n1 n2 (.string a) (.string b) (.int .i64 h)
      exact bodyPost_ret (results3 Try.results21 _ _ _ _ _ _ _ _ rfl rfl rfl k0 k1 k2) rfl ⟨ret_st (he.out.trans (if_neg c3.out)).symm, sets HB2.out _ _ _ _ _ _ _ (by omega)⟩
  · have e : chooseF room s h bud = (zero, 0, chk room s h bud) := if_neg hc
    rw [e]
    clear e
    generalize chk room s h bud = R at *
    obtain ⟨a, b, sel⟩ := s
    simp only [St.agg] at F ⊢
    go_enter Try.func21, Try.ntmps21
    go_wp2_with fail
    refine (F.out _).mono ?_
    rintro e w1 ⟨rfl, hb⟩
    have hb2 := hb.mono (show w.heap.size + 2 ≤ _ by simp)
    have H2 : Two w w1 ⟨a, b, sel⟩ zero := Two.mk' hb2
    obtain ⟨hbw, a0, a1, a2, b0, b1, b2, f, g⟩ := H2
    simp only [St.zero] at b0 b1 b2
    have HB := Lib.hid hbw
    clear hb hb2 hbw
    go_wp2_with fail
    obtain ⟨k0, k1, k2⟩ := set3 b0 b1 b2 (.string ⟨#[]⟩) (.string ⟨#[]⟩) (.int .i64 0)
    exact bodyPost_ret (results3 Try.results21 _ _ _ _ _ _ _ _ rfl rfl rfl k0 k1 k2) rfl ⟨rfl, sets HB.out _ _ _ _ _ _ _ (by omega)⟩
set_option maxRecDepth 100000 in
set_option maxHeartbeats 4000000 in
theorem refErase_any (room : Int) (s : St) (h bud : Int) (w : World) (hbud : I64 bud) :
    Calls Try.prog 12 #[.int .i64 room, s.agg, .int .i64 h, .int .i64 bud] w fun e w' => e = .returned (ans (eraseF room s h bud)) ∧ Below w.heap.size w w' := by
  have F := Lib.hid (fun w => refCheck_any room s h bud w)
  by_cases hc : chk room s h bud = 0
  · obtain ⟨-, hh, hb0'⟩ := chk_zero hc
    have he := Lib.hid (show eraseF room s h bud = _ from if_pos hc)
    rw [hc] at F
    generalize eraseF room s h bud = R at *
    obtain ⟨a, b, sel⟩ := s
    simp only [St.agg] at F he ⊢
    clear hc
    have hbu := hbud.2
    clear hbud
    by_cases c1 : bud = 0
    · subst c1
      go_enter Try.func12, Try.ntmps12
      go_wp2_with fail
      refine (F.out _).mono ?_
      rintro e w1 ⟨rfl, hb⟩
      have hb2 := hb.mono (show w.heap.size + 2 ≤ _ by simp)
      have H2 : Two w w1 ⟨a, b, sel⟩ zero := Two.mk' hb2
      obtain ⟨hbw, a0, a1, a2, b0, b1, b2, f, g⟩ := H2
      simp only [St.zero] at b0 b1 b2
      have HB := Lib.hid hbw
      clear hb hb2 hbw
      go_wp2_with fail
      obtain ⟨k0, k1, k2⟩ := set3 b0 b1 b2 (.string a) (.string b) (.int .i64 sel)
      exact bodyPost_ret (results3 Try.results12 _ _ _ _ _ _ _ _ rfl rfl rfl k0 k1 k2) rfl ⟨ret_st (he.out.trans (if_pos (by trivial))).symm, sets HB.out _ _ _ _ _ _ _ (by omega)⟩
    · have c2 : 0 < bud := by omega
      rcases hh with rfl | rfl
      · have c3 := Lib.hid c1
        clear c1
        go_enter Try.func12, Try.ntmps12
        go_wp2_with fail
        refine (F.out _).mono ?_
        rintro e w1 ⟨rfl, hb⟩
        have hb2 := hb.mono (show w.heap.size + 2 ≤ _ by simp)
        have H2 : Two w w1 ⟨a, b, sel⟩ zero := Two.mk' hb2
        obtain ⟨hbw, a0, a1, a2, b0, b1, b2, f, g⟩ := H2
        simp only [St.zero] at b0 b1 b2
        have HB := Lib.hid hbw
        clear hb hb2 hbw
        go_wp2_with fail
        have n0 := cell_set_other (b' := w.heap.size + 1) (i' := 0) (b := w.heap.size) (i := 0) (v := (.string ⟨#[]⟩)) (by omega) b0
        have n1 := cell_set_other (b' := w.heap.size + 1) (i' := 1) (b := w.heap.size) (i := 0) (v := (.string ⟨#[]⟩)) (by omega) b1
        have n2 := cell_set_other (b' := w.heap.size + 1) (i' := 2) (b := w.heap.size) (i := 0) (v := (.string ⟨#[]⟩)) (by omega) b2
        obtain ⟨k0, k1, k2⟩ := set3 n0 n1 n2 (.string ⟨#[]⟩) (.string b) (.int .i64 sel)
        exact bodyPost_ret (results3 Try.results12 _ _ _ _ _ _ _ _ rfl rfl rfl k0 k1 k2) rfl ⟨ret_st (he.out.trans (if_neg c3.out)).symm, sets (HB.out.setCell (p := ⟨w.heap.size, 0, none⟩) (Nat.le_refl _) _) _ _ _ _ _ _ _ (by omega)⟩
      · have c3 := Lib.hid c1
        clear c1
        go_enter Try.func12, Try.ntmps12
        go_wp2_with fail
        refine (F.out _).mono ?_
        rintro e w1 ⟨rfl, hb⟩
        have hb2 := hb.mono (show w.heap.size + 2 ≤ _ by simp)
        have H2 : Two w w1 ⟨a, b, sel⟩ zero := Two.mk' hb2
        obtain ⟨hbw, a0, a1, a2, b0, b1, b2, f, g⟩ := H2
        simp only [St.zero] at b0 b1 b2
        have HB := Lib.hid hbw
        clear hb hb2 hbw
        go_wp2_with fail
        have n0 := cell_set_other (b' := w.heap.size + 1) (i' := 0) (b := w.heap.size) (i := 1) (v := (.string ⟨#[]⟩)) (by omega) b0
        have n1 := cell_set_other (b' := w.heap.size + 1) (i' := 1) (b := w.heap.size) (i := 1) (v := (.string ⟨#[]⟩)) (by omega) b1
        have n2 := cell_set_other (b' := w.heap.size + 1) (i' := 2) (b := w.heap.size) (i := 1) (v := (.string ⟨#[]⟩)) (by omega) b2
        obtain ⟨k0, k1, k2⟩ := set3 n0 n1 n2 (.string a) (.string ⟨#[]⟩) (.int .i64 sel)
        exact bodyPost_ret (results3 Try.results12 _ _ _ _ _ _ _ _ rfl rfl rfl k0 k1 k2) rfl ⟨ret_st (he.out.trans (if_neg c3.out)).symm, sets (HB.out.setCell (p := ⟨w.heap.size, 1, none⟩) (Nat.le_refl _) _) _ _ _ _ _ _ _ (by omega)⟩
  · have e : eraseF room s h bud = (zero, 0, chk room s h bud) := if_neg hc
    rw [e]
    clear e
    generalize chk room s h bud = R at *
    obtain ⟨a, b, sel⟩ := s
    simp only [St.agg] at F ⊢
    go_enter Try.func12, Try.ntmps12
    go_wp2_with fail
    refine (F.out _).mono ?_
    rintro e w1 ⟨rfl, hb⟩
    have hb2 := hb.mono (show w.heap.size + 2 ≤ _ by simp)
    have H2 : Two w w1 ⟨a, b, sel⟩ zero := Two.mk' hb2
    obtain ⟨hbw, a0, a1, a2, b0, b1, b2, f, g⟩ := H2
    simp only [St.zero] at b0 b1 b2
    have HB := Lib.hid hbw
    clear hb hb2 hbw
    go_wp2_with fail
    obtain ⟨k0, k1, k2⟩ := set3 b0 b1 b2 (.string ⟨#[]⟩) (.string ⟨#[]⟩) (.int .i64 0)
    exact bodyPost_ret (results3 Try.results12 _ _ _ _ _ _ _ _ rfl rfl rfl k0 k1 k2) rfl ⟨rfl, sets HB.out _ _ _ _ _ _ _ (by omega)⟩
set_option maxRecDepth 100000 in
set_option maxHeartbeats 4000000 in
theorem refChoose_any (room : Int) (s : St) (h bud : Int) (w : World) (hbud : I64 bud) :
    Calls Try.prog 14 #[.int .i64 room, s.agg, .int .i64 h, .int .i64 bud] w fun e w' => e = .returned (ans (chooseF room s h bud)) ∧ Below w.heap.size w w' := by
  have F := Lib.hid (fun w => refCheck_any room s h bud w)
  by_cases hc : chk room s h bud = 0
  · obtain ⟨-, hh, hb0'⟩ := chk_zero hc
    have he := Lib.hid (show chooseF room s h bud = _ from if_pos hc)
    rw [hc] at F
    generalize chooseF room s h bud = R at *
    obtain ⟨a, b, sel⟩ := s
    simp only [St.agg] at F he ⊢
    clear hc
    have hbu := hbud.2
    clear hbud
    by_cases c1 : bud = 0
    · subst c1
      go_enter Try.func14, Try.ntmps14
      go_wp2_with fail
      refine (F.out _).mono ?_
      rintro e w1 ⟨rfl, hb⟩
      have hb2 := hb.mono (show w.heap.size + 2 ≤ _ by simp)
      have H2 : Two w w1 ⟨a, b, sel⟩ zero := Two.mk' hb2
      obtain ⟨hbw, a0, a1, a2, b0, b1, b2, f, g⟩ := H2
      simp only [St.zero] at b0 b1 b2
      have HB := Lib.hid hbw
      clear hb hb2 hbw
      go_wp2_with fail
      obtain ⟨k0, k1, k2⟩ := set3 b0 b1 b2 (.string a) (.string b) (.int .i64 sel)
      exact bodyPost_ret (results3 Try.results14 _ _ _ _ _ _ _ _ rfl rfl rfl k0 k1 k2) rfl ⟨ret_st (he.out.trans (if_pos (by trivial))).symm, sets HB.out _ _ _ _ _ _ _ (by omega)⟩
    · have c2 : 0 < bud := by omega
      have c3 := Lib.hid c1
      clear c1
      go_enter Try.func14, Try.ntmps14
      go_wp2_with fail
      refine (F.out _).mono ?_
      rintro e w1 ⟨rfl, hb⟩
      have hb2 := hb.mono (show w.heap.size + 2 ≤ _ by simp)
      have H2 : Two w w1 ⟨a, b, sel⟩ zero := Two.mk' hb2
      obtain ⟨hbw, a0, a1, a2, b0, b1, b2, f, g⟩ := H2
      simp only [St.zero] at b0 b1 b2
      have HB := Lib.hid hbw
      clear hb hb2 hbw
      go_wp2_with fail
      have n0 := cell_set_other (b' := w.heap.size + 1) (i' := 0) (b := w.heap.size) (i := 2) (v := (.int .i64 h)) (by omega) b0
      have n1 := cell_set_other (b' := w.heap.size + 1) (i' := 1) (b := w.heap.size) (i := 2) (v := (.int .i64 h)) (by omega) b1
      have n2 := cell_set_other (b' := w.heap.size + 1) (i' := 2) (b := w.heap.size) (i := 2) (v := (.int .i64 h)) (by omega) b2
      obtain ⟨k0, k1, k2⟩ := set3 n0 n1 n2 (.string a) (.string b) (.int .i64 h)
      exact bodyPost_ret (results3 Try.results14 _ _ _ _ _ _ _ _ rfl rfl rfl k0 k1 k2) rfl ⟨ret_st (he.out.trans (if_neg c3.out)).symm, sets (HB.out.setCell (p := ⟨w.heap.size, 2, none⟩) (Nat.le_refl _) _) _ _ _ _ _ _ _ (by omega)⟩
  · have e : chooseF room s h bud = (zero, 0, chk room s h bud) := if_neg hc
    rw [e]
    clear e
    generalize chk room s h bud = R at *
    obtain ⟨a, b, sel⟩ := s
    simp only [St.agg] at F ⊢
    go_enter Try.func14, Try.ntmps14
    go_wp2_with fail
    refine (F.out _).mono ?_
    rintro e w1 ⟨rfl, hb⟩
    have hb2 := hb.mono (show w.heap.size + 2 ≤ _ by simp)
    have H2 : Two w w1 ⟨a, b, sel⟩ zero := Two.mk' hb2
    obtain ⟨hbw, a0, a1, a2, b0, b1, b2, f, g⟩ := H2
    simp only [St.zero] at b0 b1 b2
    have HB := Lib.hid hbw
    clear hb hb2 hbw
    go_wp2_with fail
    obtain ⟨k0, k1, k2⟩ := set3 b0 b1 b2 (.string ⟨#[]⟩) (.string ⟨#[]⟩) (.int .i64 0)
    exact bodyPost_ret (results3 Try.results14 _ _ _ _ _ _ _ _ rfl rfl rfl k0 k1 k2) rfl ⟨rfl, sets HB.out _ _ _ _ _ _ _ (by omega)⟩
set_option maxRecDepth 100000 in
set_option maxHeartbeats 4000000 in
theorem erase_any (room : Int) (s : St) (h bud : Int) (w : World) (hbud : I64 bud) :
    Calls Try.prog 11 #[.int .i64 room, s.agg, .int .i64 h, .int .i64 bud] w fun e w' => e = .returned (ans (eraseF room s h bud)) ∧ Below w.heap.size w w' := by
  have hmf : ∀ (fn : Fn) (first cap : Array Value) (w : World), (Instr.makeFunc fn first cap).run Try.prog w = .ok (.func fn first cap) w := fun _ _ _ _ => rfl
  have F := Lib.hid (fun hb0 w => unitE_any room s h bud hb0 w hbud)
  clear hbud
  generalize eraseF room s h bud = R at *
  obtain ⟨⟨ra, rb, rs⟩, n, m⟩ := R
  obtain ⟨a, b, sel⟩ := s
  simp only [St.agg, ans] at F ⊢
  go_enter Try.func11, Try.ntmps11
  go_wp2_with fail
  refine (F.out (w.heap.size + 1) _ (by simp) (by first | rfl | simp [go_sem])).mono ?_
  rintro e w1 ⟨rfl, hb⟩
  have hb3 := hb.mono (show w.heap.size + 3 ≤ _ by simp)
  obtain ⟨HB, b0, b1, b2, g⟩ := three_rows hb3
  have HB := Lib.hid HB
  clear hb hb3
  go_wp2_with fail
  obtain ⟨k0, k1, k2⟩ := set3 b0 b1 b2 (.string ra) (.string rb) (.int .i64 rs)
  exact bodyPost_ret (results3 Try.results11 _ _ _ _ _ _ _ _ rfl rfl rfl k0 k1 k2) rfl ⟨rfl, sets HB.out _ _ _ _ _ _ _ (by omega)⟩

set_option maxRecDepth 100000 in
set_option maxHeartbeats 4000000 in
theorem choose_any (room : Int) (s : St) (h bud : Int) (w : World) (hbud : I64 bud) :
    Calls Try.prog 13 #[.int .i64 room, s.agg, .int .i64 h, .int .i64 bud] w fun e w' => e = .returned (ans (chooseF room s h bud)) ∧ Below w.heap.size w w' := by
  have hmf : ∀ (fn : Fn) (first cap : Array Value) (w : World), (Instr.makeFunc fn first cap).run Try.prog w = .ok (.func fn first cap) w := fun _ _ _ _ => rfl
  have F := Lib.hid (fun hb0 w => unitC_any room s h bud hb0 w hbud)
  clear hbud
  generalize chooseF room s h bud = R at *
  obtain ⟨⟨ra, rb, rs⟩, n, m⟩ := R
  obtain ⟨a, b, sel⟩ := s
  simp only [St.agg, ans] at F ⊢
  go_enter Try.func13, Try.ntmps13
  go_wp2_with fail
  refine (F.out (w.heap.size + 1) _ (by simp) (by first | rfl | simp [go_sem])).mono ?_
  rintro e w1 ⟨rfl, hb⟩
  have hb3 := hb.mono (show w.heap.size + 3 ≤ _ by simp)
  obtain ⟨HB, b0, b1, b2, g⟩ := three_rows hb3
  have HB := Lib.hid HB
  clear hb hb3
  go_wp2_with fail
  obtain ⟨k0, k1, k2⟩ := set3 b0 b1 b2 (.string ra) (.string rb) (.int .i64 rs)
  exact bodyPost_ret (results3 Try.results13 _ _ _ _ _ _ _ _ rfl rfl rfl k0 k1 k2) rfl ⟨rfl, sets HB.out _ _ _ _ _ _ _ (by omega)⟩

end Go.Proofs.Ytanodbpeeahmaaa
