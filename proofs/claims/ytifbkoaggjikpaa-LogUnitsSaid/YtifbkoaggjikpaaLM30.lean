/- What the texts behind this one rest on: several texts in one. No statement of the seat is proved here. -/
import Derived.Test.YtifbkoaggjikpaaLM29
import Derived.Test.YtifbkoaggjikpaaLM27
import Derived.Test.YtifbkoaggjikpaaLM28
import Derived.Test.YtifbkoaggjikpaaLM11
namespace Go.Proofs.Ytifbkoaggjikpaa
section
open Go.RowKit St

/-- Erase's own function. -/
theorem eraser_any (a b : ByteArray) (hb hs : Nat) (h : Int) (hh : h = 0 ∨ h = 1) (w : World) (_hne : hb ≠ hs)
    (k : w.cell? ⟨hb, 0, none⟩ = some (.int .i64 h)) (a0 : w.cell? ⟨hs, 0, none⟩ = some (.string a)) (a1 : w.cell? ⟨hs, 1, none⟩ = some (.string b)) (f : ∀ i, w.frozen? ⟨hs, i, none⟩ = false) :
    Calls Try.prog 102 #[.pointer (some ⟨hs, 0, none⟩), .pointer (some ⟨hb, 0, none⟩)] w fun e w' => (∃ v, e = .returned v) ∧ w' = (w.setCell ⟨hs, h.toNat, none⟩ (.string ⟨#[]⟩)).drew := by
  rcases hh with rfl | rfl
  · go_enter Try.func102, Try.ntmps102
    go_region
    exact bodyPost_end (results_none Try.results102 _ _ _) rfl ⟨⟨_, rfl⟩, rfl⟩
  · go_enter Try.func102, Try.ntmps102
    go_region
    exact bodyPost_end (results_none Try.results102 _ _ _) rfl ⟨⟨_, rfl⟩, rfl⟩
theorem chooser_any (hb hs : Nat) (h x : Int) (w : World)
    (k : w.cell? ⟨hb, 0, none⟩ = some (.int .i64 h)) (a2 : w.cell? ⟨hs, 2, none⟩ = some (.int .i64 x)) (f : ∀ i, w.frozen? ⟨hs, i, none⟩ = false) :
    Calls Try.prog 103 #[.pointer (some ⟨hs, 0, none⟩), .pointer (some ⟨hb, 0, none⟩)] w fun e w' => (∃ v, e = .returned v) ∧ w' = w.setCell ⟨hs, 2, none⟩ (.int .i64 h) := by
  go_enter Try.func103, Try.ntmps103
  go_wp2_with fail
  exact bodyPost_end (results_none Try.results103 _ _ _) rfl ⟨⟨_, rfl⟩, rfl⟩

theorem cell_set_at {w1 : World} {b i i' : Nat} {v x : Value} (_h : i ≠ i') (k : w1.cell? ⟨b, i', none⟩ = some x) : (w1.setCell ⟨b, i, none⟩ v).cell? ⟨b, i', none⟩ = some x := by
  simp [go_sem, k]

theorem three_rows {w w1 : World} {A B : Obj} (hb : Below (w.heap.size + 3) (((w.alloc A).alloc B).alloc (.cells zero.row 47)) w1) :
    Below w.heap.size w w1 ∧ w1.cell? ⟨w.heap.size + 2, 0, none⟩ = some (.string ⟨#[]⟩) ∧ w1.cell? ⟨w.heap.size + 2, 1, none⟩ = some (.string ⟨#[]⟩) ∧ w1.cell? ⟨w.heap.size + 2, 2, none⟩ = some (.int .i64 0) ∧ ∀ i, w1.frozen? ⟨w.heap.size + 2, i, none⟩ = false := by
  have r1 : w1.heap[w.heap.size + 2]? = some (.cells zero.row 47) := by
    rw [hb.block _ (by omega)]
    have := heap_alloc_new ((w.alloc A).alloc B) (.cells zero.row 47)
    simpa using this
  exact ⟨((((Below.refl w.heap.size w).alloc (Nat.le_refl _) _).alloc (by simp) _).alloc (by simp; omega) _).trans (hb.mono (by omega)),
    cell_of_row w1 _ _ _ _ (0, 0) r1, cell_of_row w1 _ _ _ _ (0, 0) r1, cell_of_row w1 _ _ _ _ (0, 0) r1, fun i => frozen_of_row _ _ _ _ _ r1⟩

set_option maxRecDepth 100000 in
set_option maxHeartbeats 4000000 in
theorem unitE_any (room : Int) (s : St) (h bud : Int) (hb0 : Nat) (w : World) (hbud : I64 bud) (hlt : hb0 < w.heap.size) (hk : w.cell? ⟨hb0, 0, none⟩ = some (.int .i64 h)) :
    Calls Try.prog 101 #[.int .i64 room, s.agg, .int .i64 h, .int .i64 bud, .func (.func 102) #[] #[.pointer (some ⟨hb0, 0, none⟩)]] w fun e w' => e = .returned (ans (eraseF room s h bud)) ∧ Below w.heap.size w w' := by
  have F := Lib.hid (fun w => check_any room s h bud w)
  have HK := Lib.hid (fun w1 (hb : Below w.heap.size w w1) => (hb.cell (p := ⟨hb0, 0, none⟩) hlt).trans hk)
  clear hk
  by_cases hc : chk room s h bud = 0
  · obtain ⟨-, hh, hb0'⟩ := chk_zero hc
    have he := Lib.hid (show eraseF room s h bud = _ from if_pos hc)
    rw [hc] at F
    generalize eraseF room s h bud = R at *
    obtain ⟨a, b, sel⟩ := s
    simp only [St.agg] at F he ⊢
    clear hc
    have hbu := hbud.2
    clear hbud
    by_cases c1 : bud = 0
    · subst c1
      go_enter Try.func101, Try.ntmps101
      go_wp2_with fail
      refine (F.out _).mono ?_
      rintro e w1 ⟨rfl, hb⟩
      have hb2 := hb.mono (show w.heap.size + 2 ≤ _ by simp)
      have H2 : Two w w1 ⟨a, b, sel⟩ zero := Two.mk' hb2
      obtain ⟨hbw, a0, a1, a2, b0, b1, b2, f, g⟩ := H2
      simp only [St.zero] at b0 b1 b2
      have HB := Lib.hid hbw
      clear hb hb2 hbw
      go_wp2_with fail
      obtain ⟨k0, k1, k2⟩ := set3 b0 b1 b2 (.string a) (.string b) (.int .i64 sel)
      exact bodyPost_ret (results3 Try.results101 _ _ _ _ _ _ _ _ rfl rfl rfl k0 k1 k2) rfl ⟨ret_st (he.out.trans (if_pos (by trivial))).symm, sets HB.out _ _ _ _ _ _ _ (by omega)⟩
    · have c2 : 0 < bud := by omega
      rcases hh with rfl | rfl
      · have c3 := Lib.hid c1
        clear c1
        go_enter Try.func101, Try.ntmps101
        go_wp2_with fail
        refine (F.out _).mono ?_
        rintro e w1 ⟨rfl, hb⟩
        have hb2 := hb.mono (show w.heap.size + 2 ≤ _ by simp)
        have H2 : Two w w1 ⟨a, b, sel⟩ zero := Two.mk' hb2
        obtain ⟨hbw, a0, a1, a2, b0, b1, b2, f, g⟩ := H2
        simp only [St.zero] at b0 b1 b2
        have HB := Lib.hid hbw
        clear hb hb2 hbw
        go_wp2_with fail
        refine (eraser_any a b hb0 w.heap.size 0 (by decide) w1 (by omega) (HK.out w1 HB.out) a0 a1 f).mono ?_
        rintro e w2 ⟨⟨v, rfl⟩, hw2⟩
        have n0 : w2.cell? ⟨w.heap.size + 1, 0, none⟩ = some (.string ⟨#[]⟩) := by rw [hw2]; exact cell_set_other (b := w.heap.size) (i := 0) (v := (.string ⟨#[]⟩)) (by omega) b0
        have m0 : w2.cell? ⟨w.heap.size, 0, none⟩ = some (.string ⟨#[]⟩) := by rw [hw2]; exact World.cell?_setCell_same _ _ _ a0
        have n1 : w2.cell? ⟨w.heap.size + 1, 1, none⟩ = some (.string ⟨#[]⟩) := by rw [hw2]; exact cell_set_other (b := w.heap.size) (i := 0) (v := (.string ⟨#[]⟩)) (by omega) b1
        have m1 : w2.cell? ⟨w.heap.size, 1, none⟩ = some (.string b) := by rw [hw2]; exact cell_set_at (i := 0) (v := (.string ⟨#[]⟩)) (by decide) a1
        have n2 : w2.cell? ⟨w.heap.size + 1, 2, none⟩ = some (.int .i64 0) := by rw [hw2]; exact cell_set_other (b := w.heap.size) (i := 0) (v := (.string ⟨#[]⟩)) (by omega) b2
        have m2 : w2.cell? ⟨w.heap.size, 2, none⟩ = some (.int .i64 sel) := by rw [hw2]; exact cell_set_at (i := 0) (v := (.string ⟨#[]⟩)) (by decide) a2
        have f2 : ∀ i, w2.frozen? ⟨w.heap.size + 1, i, none⟩ = false := fun i => by rw [hw2]; exact (World.frozen?_setCell ..).trans (g i)
        have HB2 := Lib.hid (show Below w.heap.size w w2 by rw [hw2]; exact (HB.out.setCell (p := ⟨w.heap.size, 0, none⟩) (Nat.le_refl _) _).drew)
        clear hw2 a0 a1 a2 b0 b1 b2 f g
        go_wp2_with fail
        obtain ⟨k0, k1, k2⟩ := set3 n0 n1 n2 (.string ⟨#[]⟩) (.string b) (.int .i64 sel)
        exact bodyPost_ret (results3 Try.results101 _ _ _ _ _ _ _ _ rfl rfl rfl k0 k1 k2) rfl ⟨ret_st (he.out.trans (if_neg c3.out)).symm, sets HB2.out _ _ _ _ _ _ _ (by omega)⟩
      · have c3 := Lib.hid c1
        clear c1
        go_enter Try.func101, Try.ntmps101
        go_wp2_with fail
        refine (F.out _).mono ?_
        rintro e w1 ⟨rfl, hb⟩
        have hb2 := hb.mono (show w.heap.size + 2 ≤ _ by simp)
        have H2 : Two w w1 ⟨a, b, sel⟩ zero := Two.mk' hb2
        obtain ⟨hbw, a0, a1, a2, b0, b1, b2, f, g⟩ := H2
        simp only [St.zero] at b0 b1 b2
        have HB := Lib.hid hbw
        clear hb hb2 hbw
        go_wp2_with fail
        refine (eraser_any a b hb0 w.heap.size 1 (by decide) w1 (by omega) (HK.out w1 HB.out) a0 a1 f).mono ?_
        rintro e w2 ⟨⟨v, rfl⟩, hw2⟩
        have n0 : w2.cell? ⟨w.heap.size + 1, 0, none⟩ = some (.string ⟨#[]⟩) := by rw [hw2]; exact cell_set_other (b := w.heap.size) (i := 1) (v := (.string ⟨#[]⟩)) (by omega) b0
        have m0 : w2.cell? ⟨w.heap.size, 0, none⟩ = some (.string a) := by rw [hw2]; exact cell_set_at (i := 1) (v := (.string ⟨#[]⟩)) (by decide) a0
        have n1 : w2.cell? ⟨w.heap.size + 1, 1, none⟩ = some (.string ⟨#[]⟩) := by rw [hw2]; exact cell_set_other (b := w.heap.size) (i := 1) (v := (.string ⟨#[]⟩)) (by omega) b1
        have m1 : w2.cell? ⟨w.heap.size, 1, none⟩ = some (.string ⟨#[]⟩) := by rw [hw2]; exact World.cell?_setCell_same _ _ _ a1
        have n2 : w2.cell? ⟨w.heap.size + 1, 2, none⟩ = some (.int .i64 0) := by rw [hw2]; exact cell_set_other (b := w.heap.size) (i := 1) (v := (.string ⟨#[]⟩)) (by omega) b2
        have m2 : w2.cell? ⟨w.heap.size, 2, none⟩ = some (.int .i64 sel) := by rw [hw2]; exact cell_set_at (i := 1) (v := (.string ⟨#[]⟩)) (by decide) a2
        have f2 : ∀ i, w2.frozen? ⟨w.heap.size + 1, i, none⟩ = false := fun i => by rw [hw2]; exact (World.frozen?_setCell ..).trans (g i)
        have HB2 := Lib.hid (show Below w.heap.size w w2 by rw [hw2]; exact (HB.out.setCell (p := ⟨w.heap.size, 1, none⟩) (Nat.le_refl _) _).drew)
        clear hw2 a0 a1 a2 b0 b1 b2 f g
        go_wp2_with fail
        obtain ⟨k0, k1, k2⟩ := set3 n0 n1 n2 (.string a) (.string ⟨#[]⟩) (.int .i64 sel)
        exact bodyPost_ret (results3 Try.results101 _ _ _ _ _ _ _ _ rfl rfl rfl k0 k1 k2) rfl ⟨ret_st (he.out.trans (if_neg c3.out)).symm, sets HB2.out _ _ _ _ _ _ _ (by omega)⟩
  · have e : eraseF room s h bud = (zero, 0, chk room s h bud) := if_neg hc
    rw [e]
    clear e
    generalize chk room s h bud = R at *
    obtain ⟨a, b, sel⟩ := s
    simp only [St.agg] at F ⊢
    go_enter Try.func101, Try.ntmps101
    go_wp2_with fail
    refine (F.out _).mono ?_
    rintro e w1 ⟨rfl, hb⟩
    have hb2 := hb.mono (show w.heap.size + 2 ≤ _ by simp)
    have H2 : Two w w1 ⟨a, b, sel⟩ zero := Two.mk' hb2
    obtain ⟨hbw, a0, a1, a2, b0, b1, b2, f, g⟩ := H2
    simp only [St.zero] at b0 b1 b2
    have HB := Lib.hid hbw
    clear hb hb2 hbw
    go_wp2_with fail
    obtain ⟨k0, k1, k2⟩ := set3 b0 b1 b2 (.string ⟨#[]⟩) (.string ⟨#[]⟩) (.int .i64 0)
    exact bodyPost_ret (results3 Try.results101 _ _ _ _ _ _ _ _ rfl rfl rfl k0 k1 k2) rfl ⟨rfl, sets HB.out _ _ _ _ _ _ _ (by omega)⟩
set_option maxRecDepth 100000 in
set_option maxHeartbeats 4000000 in
theorem unitC_any (room : Int) (s : St) (h bud : Int) (hb0 : Nat) (w : World) (hbud : I64 bud) (hlt : hb0 < w.heap.size) (hk : w.cell? ⟨hb0, 0, none⟩ = some (.int .i64 h)) :
    Calls Try.prog 101 #[.int .i64 room, s.agg, .int .i64 h, .int .i64 bud, .func (.func 103) #[] #[.pointer (some ⟨hb0, 0, none⟩)]] w fun e w' => e = .returned (ans (chooseF room s h bud)) ∧ Below w.heap.size w w' := by
  have F := Lib.hid (fun w => check_any room s h bud w)
  have HK := Lib.hid (fun w1 (hb : Below w.heap.size w w1) => (hb.cell (p := ⟨hb0, 0, none⟩) hlt).trans hk)
  clear hk
  by_cases hc : chk room s h bud = 0
  · obtain ⟨-, hh, hb0'⟩ := chk_zero hc
    have he := Lib.hid (show chooseF room s h bud = _ from if_pos hc)
    rw [hc] at F
    generalize chooseF room s h bud = R at *
    obtain ⟨a, b, sel⟩ := s
    simp only [St.agg] at F he ⊢
    clear hc
    have hbu := hbud.2
    clear hbud
    by_cases c1 : bud = 0
    · subst c1
      go_enter Try.func101, Try.ntmps101
      go_wp2_with fail
      refine (F.out _).mono ?_
      rintro e w1 ⟨rfl, hb⟩
      have hb2 := hb.mono (show w.heap.size + 2 ≤ _ by simp)
      have H2 : Two w w1 ⟨a, b, sel⟩ zero := Two.mk' hb2
      obtain ⟨hbw, a0, a1, a2, b0, b1, b2, f, g⟩ := H2
      simp only [St.zero] at b0 b1 b2
      have HB := Lib.hid hbw
      clear hb hb2 hbw
      go_wp2_with fail
      obtain ⟨k0, k1, k2⟩ := set3 b0 b1 b2 (.string a) (.string b) (.int .i64 sel)
      exact bodyPost_ret (results3 Try.results101 _ _ _ _ _ _ _ _ rfl rfl rfl k0 k1 k2) rfl ⟨ret_st (he.out.trans (if_pos (by trivial))).symm, sets HB.out _ _ _ _ _ _ _ (by omega)⟩
    · have c2 : 0 < bud := by omega
      have c3 := Lib.hid c1
      clear c1
      go_enter Try.func101, Try.ntmps101
      go_wp2_with fail
      refine (F.out _).mono ?_
      rintro e w1 ⟨rfl, hb⟩
      have hb2 := hb.mono (show w.heap.size + 2 ≤ _ by simp)
      have H2 : Two w w1 ⟨a, b, sel⟩ zero := Two.mk' hb2
      obtain ⟨hbw, a0, a1, a2, b0, b1, b2, f, g⟩ := H2
      simp only [St.zero] at b0 b1 b2
      have HB := Lib.hid hbw
      clear hb hb2 hbw
      go_wp2_with fail
      refine (chooser_any hb0 w.heap.size h sel w1 (HK.out w1 HB.out) a2 f).mono ?_
      rintro e w2 ⟨⟨v, rfl⟩, hw2⟩
      have n0 : w2.cell? ⟨w.heap.size + 1, 0, none⟩ = some (.string ⟨#[]⟩) := by rw [hw2]; exact cell_set_other (b := w.heap.size) (i := 2) (v := (.int .i64 h)) (by omega) b0
      have m0 : w2.cell? ⟨w.heap.size, 0, none⟩ = some (.string a) := by rw [hw2]; exact cell_set_at (i := 2) (v := (.int .i64 h)) (by decide) a0
      have n1 : w2.cell? ⟨w.heap.size + 1, 1, none⟩ = some (.string ⟨#[]⟩) := by rw [hw2]; exact cell_set_other (b := w.heap.size) (i := 2) (v := (.int .i64 h)) (by omega) b1
      have m1 : w2.cell? ⟨w.heap.size, 1, none⟩ = some (.string b) := by rw [hw2]; exact cell_set_at (i := 2) (v := (.int .i64 h)) (by decide) a1
      have n2 : w2.cell? ⟨w.heap.size + 1, 2, none⟩ = some (.int .i64 0) := by rw [hw2]; exact cell_set_other (b := w.heap.size) (i := 2) (v := (.int .i64 h)) (by omega) b2
      have m2 : w2.cell? ⟨w.heap.size, 2, none⟩ = some (.int .i64 h) := by rw [hw2]; exact World.cell?_setCell_same _ _ _ a2
      have f2 : ∀ i, w2.frozen? ⟨w.heap.size + 1, i, none⟩ = false := fun i => by rw [hw2]; exact (World.frozen?_setCell ..).trans (g i)
      have HB2 := Lib.hid (show Below w.heap.size w w2 by rw [hw2]; exact (HB.out.setCell (p := ⟨w.heap.size, 2, none⟩) (Nat.le_refl _) _))
      clear hw2 a0 a1 a2 b0 b1 b2 f g
      go_wp2_with fail
      obtain ⟨k0, k1, k2⟩ := set3 n0 n1 n2 (.string a) (.string b) (.int .i64 h)
      exact bodyPost_ret (results3 Try.results101 _ _ _ _ _ _ _ _ rfl rfl rfl k0 k1 k2) rfl ⟨ret_st (he.out.trans (if_neg c3.out)).symm, sets HB2.out _ _ _ _ _ _ _ (by omega)⟩
  · have e : chooseF room s h bud = (zero, 0, chk room s h bud) := if_neg hc
    rw [e]
    clear e
    generalize chk room s h bud = R at *
    obtain ⟨a, b, sel⟩ := s
    simp only [St.agg] at F ⊢
    go_enter Try.func101, Try.ntmps101
    go_wp2_with fail
    refine (F.out _).mono ?_
    rintro e w1 ⟨rfl, hb⟩
    have hb2 := hb.mono (show w.heap.size + 2 ≤ _ by simp)
    have H2 : Two w w1 ⟨a, b, sel⟩ zero := Two.mk' hb2
    obtain ⟨hbw, a0, a1, a2, b0, b1, b2, f, g⟩ := H2
    simp only [St.zero] at b0 b1 b2
    have HB := Lib.hid hbw
    clear hb hb2 hbw
    go_wp2_with fail
    obtain ⟨k0, k1, k2⟩ := set3 b0 b1 b2 (.string ⟨#[]⟩) (.string ⟨#[]⟩) (.int .i64 0)
    exact bodyPost_ret (results3 Try.results101 _ _ _ _ _ _ _ _ rfl rfl rfl k0 k1 k2) rfl ⟨rfl, sets HB.out _ _ _ _ _ _ _ (by omega)⟩
set_option maxRecDepth 100000 in
set_option maxHeartbeats 4000000 in
theorem erase_any (room : Int) (s : St) (h bud : Int) (w : World) (hbud : I64 bud) :
    Calls Try.prog 77 #[.int .i64 room, s.agg, .int .i64 h, .int .i64 bud] w fun e w' => e = .returned (ans (eraseF room s h bud)) ∧ Below w.heap.size w w' := by
  have hmf : ∀ (fn : Fn) (first cap : Array Value) (w : World), (Instr.makeFunc fn first cap).run Try.prog w = .ok (.func fn first cap) w := fun _ _ _ _ => rfl
  have F := Lib.hid (fun hb0 w => unitE_any room s h bud hb0 w hbud)
  clear hbud
  generalize eraseF room s h bud = R at *
  obtain ⟨⟨ra, rb, rs⟩, n, m⟩ := R
  obtain ⟨a, b, sel⟩ := s
  simp only [St.agg, ans] at F ⊢
  go_enter Try.func77, Try.ntmps77
  go_wp2_with fail
  refine (F.out (w.heap.size + 1) _ (by simp) (by first | rfl | simp [go_sem])).mono ?_
  rintro e w1 ⟨rfl, hb⟩
  have hb3 := hb.mono (show w.heap.size + 3 ≤ _ by simp)
  obtain ⟨HB, b0, b1, b2, g⟩ := three_rows hb3
  have HB := Lib.hid HB
  clear hb hb3
  go_wp2_with fail
  obtain ⟨k0, k1, k2⟩ := set3 b0 b1 b2 (.string ra) (.string rb) (.int .i64 rs)
  exact bodyPost_ret (results3 Try.results77 _ _ _ _ _ _ _ _ rfl rfl rfl k0 k1 k2) rfl ⟨rfl, sets HB.out _ _ _ _ _ _ _ (by omega)⟩

set_option maxRecDepth 100000 in
set_option maxHeartbeats 4000000 in
theorem choose_any (room : Int) (s : St) (h bud : Int) (w : World) (hbud : I64 bud) :
    Calls Try.prog 78 #[.int .i64 room, s.agg, .int .i64 h, .int .i64 bud] w fun e w' => e = .returned (ans (chooseF room s h bud)) ∧ Below w.heap.size w w' := by
  have hmf : ∀ (fn : Fn) (first cap : Array Value) (w : World), (Instr.makeFunc fn first cap).run Try.prog w = .ok (.func fn first cap) w := fun _ _ _ _ => rfl
  have F := Lib.hid (fun hb0 w => unitC_any room s h bud hb0 w hbud)
  clear hbud
  generalize chooseF room s h bud = R at *
  obtain ⟨⟨ra, rb, rs⟩, n, m⟩ := R
  obtain ⟨a, b, sel⟩ := s
  simp only [St.agg, ans] at F ⊢
  go_enter Try.func78, Try.ntmps78
  go_wp2_with fail
  refine (F.out (w.heap.size + 1) _ (by simp) (by first | rfl | simp [go_sem])).mono ?_
  rintro e w1 ⟨rfl, hb⟩
  have hb3 := hb.mono (show w.heap.size + 3 ≤ _ by simp)
  obtain ⟨HB, b0, b1, b2, g⟩ := three_rows hb3
  have HB := Lib.hid HB
  clear hb hb3
  go_wp2_with fail
  obtain ⟨k0, k1, k2⟩ := set3 b0 b1 b2 (.string ra) (.string rb) (.int .i64 rs)
  exact bodyPost_ret (results3 Try.results78 _ _ _ _ _ _ _ _ rfl rfl rfl k0 k1 k2) rfl ⟨rfl, sets HB.out _ _ _ _ _ _ _ (by omega)⟩
end

section
open Go.RowKit Lg Img St

set_option maxRecDepth 100000 in
set_option maxHeartbeats 4000000 in
theorem canWork_any (b : BldD) (A : Option Addr) (cap : Nat) (s : St) (bud : Int) (w : World) :
    Calls Try.prog 40 #[b.agg A cap, s.agg, .int .i64 bud] w fun e w' => e = .returned (.bool (St.isB b.room s && decide (0 ≤ bud))) ∧ Below w.heap.size w w' := by
  have FS := Lib.hid (fun w => isStore_any b.room s w)
  obtain ⟨f, d, r, p, e1, e2, e3, cs⟩ := b
  simp only at FS ⊢
  generalize St.isB r s = V at *
  obtain ⟨s1, s2, s3⟩ := s
  simp only [BldD.agg, St.agg] at *
  cases V
  all_goals
    go_enter Try.func40, Try.ntmps40
    go_wp2_with fail
    refine (FS.out _).mono ?_
    rintro e w1 ⟨rfl, hb⟩
    have HB := Lib.hid (below2 ((start2 w _ _).trans (hb.mono (by simp))))
    clear hb
    go_wp2_with fail
    go_ret
    exact ⟨by first | rfl | simp, HB.out⟩
set_option maxRecDepth 100000 in
set_option maxHeartbeats 4000000 in
theorem room_any (b : BldD) (A : Option Addr) (cap : Nat) (pv fv lv ev : Value) (m : Img) (w : World) (hn : b.cars.length ≤ 140737488355328) (hc : CarsAt w w.heap.size A b.cars) (h : ImV w pv fv lv ev m)
    (hp : m.ph.length ≤ 1000000) (he : m.en.length ≤ 1000000) :
    Calls Try.prog 41 #[b.agg A cap, .agg #[pv, fv, lv, ev]] w fun e w' => e = .returned (.bool (Lg.roomB b m)) ∧ Below w.heap.size w w' := by
  have FI := Lib.hid (fun wx (hb : Below w.heap.size w wx) => isImage_any b A cap pv fv lv ev m wx hn ((hc.below hb).more hb.size) (h.below hb) hp he)
  have hR : Lg.roomB b m = (isB b m && decide (18 * ((b.cars.length : Int) + m.en.length + 1) + 6 ≤ b.room)) := rfl
  have HC := Lib.hid (fun (hB : isB b m = true) => (fine_of (isB_iff.1 hB).val).cars)
  rw [hR]
  clear hR
  obtain ⟨⟨A1, c1, rfl, h1⟩, ⟨A2, c2, rfl, h2⟩, ⟨A3, c3, rfl, h3⟩, ⟨A4, c4, rfl, h4⟩⟩ := h
  clear h1 h2 h3 h4 hc
  generalize hV : isB b m = V at *
  clear hV
  generalize (nums m.ph).length = n1 at *
  generalize (bls m.fl).length = n2 at *
  generalize (bls m.lv).length = n3 at *
  generalize m.en.length = n4 at *
  obtain ⟨f, d, r, p, e1, e2, e3, cs⟩ := b
  simp only [BldD.agg] at *
  cases V
  all_goals
    try have hC := HC.out rfl
    clear HC
    go_enter Try.func41, Try.ntmps41
    go_wp2_with fail
    refine (FI.out _ (by go_grown)).mono ?_
    rintro e w1 ⟨rfl, hb⟩
    have HB := Lib.hid (below2 ((start2 w _ _).trans (hb.mono (by simp))))
    obtain ⟨q0, q1, q2, q3⟩ := imRowCells (boxes2 hb).2
    obtain ⟨k0, k1, k2, k3, k4, k5, k6, k7⟩ := boxRow (boxes2 hb).1
    clear hb
    try have w1 : IntKind.i64.wrap ((cs.length : Int) + n4) = (cs.length : Int) + n4 := IntWalk.i64_in _ (by omega)
    try have w2 : IntKind.i64.wrap ((cs.length : Int) + n4 + 1) = (cs.length : Int) + n4 + 1 := IntWalk.i64_in _ (by omega)
    try have w3 : IntKind.i64.wrap (18 * ((cs.length : Int) + n4 + 1)) = 18 * ((cs.length : Int) + n4 + 1) := IntWalk.i64_in _ (by omega)
    try have w4 : IntKind.i64.wrap (18 * ((cs.length : Int) + n4 + 1) + 6) = 18 * ((cs.length : Int) + n4 + 1) + 6 := IntWalk.i64_in _ (by omega)
    go_wp2_with fail
    go_ret
    exact ⟨by first | rfl | simp, HB.out⟩
end
end Go.Proofs.Ytifbkoaggjikpaa
