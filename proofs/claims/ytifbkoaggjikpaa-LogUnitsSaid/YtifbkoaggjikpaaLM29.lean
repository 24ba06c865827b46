/- What the texts behind this one rest on: one text. No statement of the seat is proved here. -/
import Derived.Test.YtifbkoaggjikpaaLM26
namespace Go.Proofs.Ytifbkoaggjikpaa
section
open Go.RowKit St

def I64 (x : Int) : Prop := -9223372036854775808 ≤ x ∧ x ≤ 9223372036854775807
/-- What is known of the argument's block and of the result's. -/
structure Two (w w1 : World) (x : St) (y : St) : Prop where
  below : Below w.heap.size w w1
  a0 : w1.cell? ⟨w.heap.size, 0, none⟩ = some (.string x.a)
  a1 : w1.cell? ⟨w.heap.size, 1, none⟩ = some (.string x.b)
  a2 : w1.cell? ⟨w.heap.size, 2, none⟩ = some (.int .i64 x.sel)
  b0 : w1.cell? ⟨w.heap.size + 1, 0, none⟩ = some (.string y.a)
  b1 : w1.cell? ⟨w.heap.size + 1, 1, none⟩ = some (.string y.b)
  b2 : w1.cell? ⟨w.heap.size + 1, 2, none⟩ = some (.int .i64 y.sel)
  f : ∀ i, w1.frozen? ⟨w.heap.size, i, none⟩ = false
  g : ∀ i, w1.frozen? ⟨w.heap.size + 1, i, none⟩ = false
theorem Two.mk' {w w1 : World} {x y : St} (hb : Below (w.heap.size + 2) ((w.alloc (.cells x.row 47)).alloc (.cells y.row 47)) w1) : Two w w1 x y := by
  have r0 : w1.heap[w.heap.size]? = some (.cells x.row 47) := by
    rw [hb.block _ (by omega), Below.heap_alloc _ _ _ (by simp)]
    exact heap_alloc_new w _
  have r1 : w1.heap[w.heap.size + 1]? = some (.cells y.row 47) := by
    rw [hb.block _ (by omega)]
    have := heap_alloc_new (w.alloc (.cells x.row 47)) (.cells y.row 47)
    simpa using this
  exact ⟨(((Below.refl w.heap.size w).alloc (Nat.le_refl _) _).alloc (by simp) _).trans (hb.mono (by omega)),
    cell_of_row w1 _ _ _ _ (0, 0) r0, cell_of_row w1 _ _ _ _ (0, 0) r0, cell_of_row w1 _ _ _ _ (0, 0) r0, cell_of_row w1 _ _ _ _ (0, 0) r1, cell_of_row w1 _ _ _ _ (0, 0) r1, cell_of_row w1 _ _ _ _ (0, 0) r1,
    fun i => frozen_of_row _ _ _ _ _ r0, fun i => frozen_of_row _ _ _ _ _ r1⟩

theorem sets {w w1 : World} (h : Below w.heap.size w w1) (b i j k : Nat) (x y z : Value) (hb : w.heap.size ≤ b) : Below w.heap.size w (((w1.setCell ⟨b, i, none⟩ x).setCell ⟨b, j, none⟩ y).setCell ⟨b, k, none⟩ z) :=
  ((h.setCell hb x).setCell hb y).setCell hb z
theorem set3 {w1 : World} {b : Nat} {x0 y0 z0 : Value} (h0 : w1.cell? ⟨b, 0, none⟩ = some x0) (h1 : w1.cell? ⟨b, 1, none⟩ = some y0) (h2 : w1.cell? ⟨b, 2, none⟩ = some z0) (x y z : Value) :
    (((w1.setCell ⟨b, 0, none⟩ x).setCell ⟨b, 1, none⟩ y).setCell ⟨b, 2, none⟩ z).cell? ⟨b, 0, none⟩ = some x ∧
    (((w1.setCell ⟨b, 0, none⟩ x).setCell ⟨b, 1, none⟩ y).setCell ⟨b, 2, none⟩ z).cell? ⟨b, 1, none⟩ = some y ∧
    (((w1.setCell ⟨b, 0, none⟩ x).setCell ⟨b, 1, none⟩ y).setCell ⟨b, 2, none⟩ z).cell? ⟨b, 2, none⟩ = some z := by
  have e01 : (⟨b, 0, none⟩ : Addr) ≠ ⟨b, 1, none⟩ := by intro h; simp at h
  have e02 : (⟨b, 0, none⟩ : Addr) ≠ ⟨b, 2, none⟩ := by intro h; simp at h
  have e12 : (⟨b, 1, none⟩ : Addr) ≠ ⟨b, 2, none⟩ := by intro h; simp at h
  refine ⟨?_, ?_, ?_⟩
  · simp [go_sem, h0]
  · simp [go_sem, h1]
  · simp [go_sem, h2]
theorem results3 {fn : Func} {p u v : Tmp} (h : fn.results = #[.cell p 47, .tmp u, .tmp v]) (tmps : Array Value) (w1 : World) (b : Nat) (x y z n m : Value)
    (hp : tmps.getD p undef = .pointer (some ⟨b, 0, none⟩)) (hu : tmps.getD u undef = n) (hv : tmps.getD v undef = m) (k0 : w1.cell? ⟨b, 0, none⟩ = some x) (k1 : w1.cell? ⟨b, 1, none⟩ = some y) (k2 : w1.cell? ⟨b, 2, none⟩ = some z) :
    (results fn tmps).run Try.prog w1 = .ok (.tuple #[.agg #[x, y, z], n, m]) w1 := by
  have hp' : tmps[p]?.getD undef = .pointer (some ⟨b, 0, none⟩) := by simpa using hp
  have hu' : tmps[u]?.getD undef = n := by simpa using hu
  have hv' : tmps[v]?.getD undef = m := by simpa using hv
  simp [results, h, hp', hu', hv', go_sem, asAddr, k0, k1, k2]

theorem cell_set_other {w1 : World} {b b' i i' : Nat} {v x : Value} (h : b' ≠ b) (k : w1.cell? ⟨b', i', none⟩ = some x) : (w1.setCell ⟨b, i, none⟩ v).cell? ⟨b', i', none⟩ = some x := by
  rw [World.cell?_of_block (a := ⟨b', i', none⟩) (Below.heap_setCell w1 ⟨b, i, none⟩ v b' h)]
  exact k

set_option maxRecDepth 100000 in
set_option maxHeartbeats 4000000 in
theorem write_any (room : Int) (s : St) (h : Int) (d : ByteArray) (bud : Int) (w : World) (hd : d.size ≤ 1000000) (hbud : I64 bud) :
    Calls Try.prog 71 #[.int .i64 room, s.agg, .int .i64 h, .string d, .int .i64 bud] w fun e w' => e = .returned (ans (writeF room s h d bud)) ∧ Below w.heap.size w w' := by
  have F := Lib.hid (fun w => check_any room s h bud w)
  by_cases hc : chk room s h bud = 0
  · obtain ⟨hB, hh, hb0⟩ := chk_zero hc
    have he := Lib.hid (show writeF room s h d bud = _ from if_pos hc)
    rw [hc] at F
    obtain ⟨q1, q2, q3, q4, -⟩ := isB_of hB
    generalize writeF room s h d bud = R at *
    obtain ⟨a, b, sel⟩ := s
    simp only [St.agg] at F he q3 q4 ⊢
    clear hc hB
    have hbu := hbud.2
    clear hbud
    have t1 : ¬ 9223372036854775807 < a.size + d.size := by omega
    have t2 : ¬ 9223372036854775807 < b.size + d.size := by omega
    have t3 : ¬ 9223372036854775807 < a.size + (d.extract 0 bud.toNat).size := by rw [ba_csize]; omega
    have t4 : ¬ 9223372036854775807 < b.size + (d.extract 0 bud.toNat).size := by rw [ba_csize]; omega
    rcases hh with rfl | rfl
    · by_cases c1 : room - a.size < d.size
      · have e := Lib.hid (show room < ((St.get ⟨a, b, sel⟩ 0).size : Int) + d.size by simp only [St.get]; simp; omega)
        go_enter Try.func71, Try.ntmps71
        go_wp2_with fail
        refine (F.out _).mono ?_
        rintro e w1 ⟨rfl, hb⟩
        have hb2 := hb.mono (show w.heap.size + 2 ≤ _ by simp)
        have H2 : Two w w1 ⟨a, b, sel⟩ zero := Two.mk' hb2
        obtain ⟨hbw, a0, a1, a2, b0, b1, b2, f, g⟩ := H2
        simp only [St.zero] at b0 b1 b2
        have HB := Lib.hid hbw
        clear hb hb2 hbw
        go_wp2_with fail
        obtain ⟨k0, k1, k2⟩ := set3 b0 b1 b2 (.string ⟨#[]⟩) (.string ⟨#[]⟩) (.int .i64 0)
        exact bodyPost_ret (results3 Try.results71 _ _ _ _ _ _ _ _ rfl rfl rfl k0 k1 k2) rfl ⟨ret_st (he.out.trans (if_pos e.out)).symm, sets HB.out _ _ _ _ _ _ _ (by omega)⟩
      · have e := Lib.hid (show ¬ room < ((St.get ⟨a, b, sel⟩ 0).size : Int) + d.size by simp only [St.get]; simp; omega)
        by_cases c2 : bud < d.size
        · have e2 := Lib.hid (show bud < (d.size : Int) from c2)
          have u1 : bud ≤ d.size := by omega
          have HU := Lib.hid u1
          go_enter Try.func71, Try.ntmps71
          go_wp2_with fail
          refine (F.out _).mono ?_
          rintro e w1 ⟨rfl, hb⟩
          have hb2 := hb.mono (show w.heap.size + 2 ≤ _ by simp)
          have H2 : Two w w1 ⟨a, b, sel⟩ zero := Two.mk' hb2
          obtain ⟨hbw, a0, a1, a2, b0, b1, b2, f, g⟩ := H2
          simp only [St.zero] at b0 b1 b2
          have HB := Lib.hid hbw
          clear hb hb2 hbw
          go_wp2_with fail
          go_region
          go_wp2_with fail
          have n0 := cell_set_other (b' := w.heap.size + 1) (i' := 0) (b := w.heap.size) (i := 0) (v := .string (a ++ d.extract 0 bud.toNat)) (by omega) b0
          have n1 := cell_set_other (b' := w.heap.size + 1) (i' := 1) (b := w.heap.size) (i := 0) (v := .string (a ++ d.extract 0 bud.toNat)) (by omega) b1
          have n2 := cell_set_other (b' := w.heap.size + 1) (i' := 2) (b := w.heap.size) (i := 0) (v := .string (a ++ d.extract 0 bud.toNat)) (by omega) b2
          obtain ⟨k0, k1, k2⟩ := set3 n0 n1 n2 (.string (a ++ d.extract 0 bud.toNat)) (.string b) (.int .i64 sel)
          exact bodyPost_ret (results3 Try.results71 _ _ _ _ _ _ _ _ rfl rfl rfl k0 k1 k2) rfl ⟨ret_st (he.out.trans ((if_neg (Int.not_lt.2 e.out)).trans (if_pos e2.out))).symm, (sets (HB.out.setCell (p := ⟨w.heap.size, 0, none⟩) (Nat.le_refl _) _) _ _ _ _ _ _ _ (by omega)).drew⟩
        · have e2 := Lib.hid (show ¬ bud < (d.size : Int) from c2)
          go_enter Try.func71, Try.ntmps71
          go_wp2_with fail
          refine (F.out _).mono ?_
          rintro e w1 ⟨rfl, hb⟩
          have hb2 := hb.mono (show w.heap.size + 2 ≤ _ by simp)
          have H2 : Two w w1 ⟨a, b, sel⟩ zero := Two.mk' hb2
          obtain ⟨hbw, a0, a1, a2, b0, b1, b2, f, g⟩ := H2
          simp only [St.zero] at b0 b1 b2
          have HB := Lib.hid hbw
          clear hb hb2 hbw
          go_wp2_with fail
          have n0 := cell_set_other (b' := w.heap.size + 1) (i' := 0) (b := w.heap.size) (i := 0) (v := .string (a ++ d)) (by omega) b0
          have n1 := cell_set_other (b' := w.heap.size + 1) (i' := 1) (b := w.heap.size) (i := 0) (v := .string (a ++ d)) (by omega) b1
          have n2 := cell_set_other (b' := w.heap.size + 1) (i' := 2) (b := w.heap.size) (i := 0) (v := .string (a ++ d)) (by omega) b2
          obtain ⟨k0, k1, k2⟩ := set3 n0 n1 n2 (.string (a ++ d)) (.string b) (.int .i64 sel)
          exact bodyPost_ret (results3 Try.results71 _ _ _ _ _ _ _ _ rfl rfl rfl k0 k1 k2) rfl ⟨ret_st (he.out.trans ((if_neg (Int.not_lt.2 e.out)).trans (if_neg (Int.not_lt.2 e2.out)))).symm, (sets (HB.out.setCell (p := ⟨w.heap.size, 0, none⟩) (Nat.le_refl _) _) _ _ _ _ _ _ _ (by omega))⟩
    · by_cases c1 : room - b.size < d.size
      · have e := Lib.hid (show room < ((St.get ⟨a, b, sel⟩ 1).size : Int) + d.size by simp only [St.get]; simp; omega)
        go_enter Try.func71, Try.ntmps71
        go_wp2_with fail
        refine (F.out _).mono ?_
        rintro e w1 ⟨rfl, hb⟩
        have hb2 := hb.mono (show w.heap.size + 2 ≤ _ by simp)
        have H2 : Two w w1 ⟨a, b, sel⟩ zero := Two.mk' hb2
        obtain ⟨hbw, a0, a1, a2, b0, b1, b2, f, g⟩ := H2
        simp only [St.zero] at b0 b1 b2
        have HB := Lib.hid hbw
        clear hb hb2 hbw
        go_wp2_with fail
        obtain ⟨k0, k1, k2⟩ := set3 b0 b1 b2 (.string ⟨#[]⟩) (.string ⟨#[]⟩) (.int .i64 0)
        exact bodyPost_ret (results3 Try.results71 _ _ _ _ _ _ _ _ rfl rfl rfl k0 k1 k2) rfl ⟨ret_st (he.out.trans (if_pos e.out)).symm, sets HB.out _ _ _ _ _ _ _ (by omega)⟩
      · have e := Lib.hid (show ¬ room < ((St.get ⟨a, b, sel⟩ 1).size : Int) + d.size by simp only [St.get]; simp; omega)
        by_cases c2 : bud < d.size
        · have e2 := Lib.hid (show bud < (d.size : Int) from c2)
          have u1 : bud ≤ d.size := by omega
          have HU := Lib.hid u1
          go_enter Try.func71, Try.ntmps71
          go_wp2_with fail
          refine (F.out _).mono ?_
          rintro e w1 ⟨rfl, hb⟩
          have hb2 := hb.mono (show w.heap.size + 2 ≤ _ by simp)
          have H2 : Two w w1 ⟨a, b, sel⟩ zero := Two.mk' hb2
          obtain ⟨hbw, a0, a1, a2, b0, b1, b2, f, g⟩ := H2
          simp only [St.zero] at b0 b1 b2
          have HB := Lib.hid hbw
          clear hb hb2 hbw
          go_wp2_with fail
          go_region
          go_wp2_with fail
          have n0 := cell_set_other (b' := w.heap.size + 1) (i' := 0) (b := w.heap.size) (i := 1) (v := .string (b ++ d.extract 0 bud.toNat)) (by omega) b0
          have n1 := cell_set_other (b' := w.heap.size + 1) (i' := 1) (b := w.heap.size) (i := 1) (v := .string (b ++ d.extract 0 bud.toNat)) (by omega) b1
          have n2 := cell_set_other (b' := w.heap.size + 1) (i' := 2) (b := w.heap.size) (i := 1) (v := .string (b ++ d.extract 0 bud.toNat)) (by omega) b2
          obtain ⟨k0, k1, k2⟩ := set3 n0 n1 n2 (.string a) (.string (b ++ d.extract 0 bud.toNat)) (.int .i64 sel)
          exact bodyPost_ret (results3 Try.results71 _ _ _ _ _ _ _ _ rfl rfl rfl k0 k1 k2) rfl ⟨ret_st (he.out.trans ((if_neg (Int.not_lt.2 e.out)).trans (if_pos e2.out))).symm, (sets (HB.out.setCell (p := ⟨w.heap.size, 1, none⟩) (Nat.le_refl _) _) _ _ _ _ _ _ _ (by omega)).drew⟩
        · have e2 := Lib.hid (show ¬ bud < (d.size : Int) from c2)
          go_enter Try.func71, Try.ntmps71
          go_wp2_with fail
          refine (F.out _).mono ?_
          rintro e w1 ⟨rfl, hb⟩
          have hb2 := hb.mono (show w.heap.size + 2 ≤ _ by simp)
          have H2 : Two w w1 ⟨a, b, sel⟩ zero := Two.mk' hb2
          obtain ⟨hbw, a0, a1, a2, b0, b1, b2, f, g⟩ := H2
          simp only [St.zero] at b0 b1 b2
          have HB := Lib.hid hbw
          clear hb hb2 hbw
          go_wp2_with fail
          have n0 := cell_set_other (b' := w.heap.size + 1) (i' := 0) (b := w.heap.size) (i := 1) (v := .string (b ++ d)) (by omega) b0
          have n1 := cell_set_other (b' := w.heap.size + 1) (i' := 1) (b := w.heap.size) (i := 1) (v := .string (b ++ d)) (by omega) b1
          have n2 := cell_set_other (b' := w.heap.size + 1) (i' := 2) (b := w.heap.size) (i := 1) (v := .string (b ++ d)) (by omega) b2
          obtain ⟨k0, k1, k2⟩ := set3 n0 n1 n2 (.string a) (.string (b ++ d)) (.int .i64 sel)
          exact bodyPost_ret (results3 Try.results71 _ _ _ _ _ _ _ _ rfl rfl rfl k0 k1 k2) rfl ⟨ret_st (he.out.trans ((if_neg (Int.not_lt.2 e.out)).trans (if_neg (Int.not_lt.2 e2.out)))).symm, (sets (HB.out.setCell (p := ⟨w.heap.size, 1, none⟩) (Nat.le_refl _) _) _ _ _ _ _ _ _ (by omega))⟩
  · have e : writeF room s h d bud = (zero, 0, chk room s h bud) := if_neg hc
    rw [e]
    generalize chk room s h bud = R at *
    obtain ⟨a, b, sel⟩ := s
    simp only [St.agg] at F ⊢
    go_enter Try.func71, Try.ntmps71
    go_wp2_with fail
    refine (F.out _).mono ?_
    rintro e w1 ⟨rfl, hb⟩
    have hb2 := hb.mono (show w.heap.size + 2 ≤ _ by simp)
    have H2 : Two w w1 ⟨a, b, sel⟩ zero := Two.mk' hb2
    obtain ⟨hbw, a0, a1, a2, b0, b1, b2, f, g⟩ := H2
    simp only [St.zero] at b0 b1 b2
    have HB := Lib.hid hbw
    clear hb hb2 hbw
    go_wp2_with fail
    obtain ⟨k0, k1, k2⟩ := set3 b0 b1 b2 (.string ⟨#[]⟩) (.string ⟨#[]⟩) (.int .i64 0)
    exact bodyPost_ret (results3 Try.results71 _ _ _ _ _ _ _ _ rfl rfl rfl k0 k1 k2) rfl ⟨rfl, sets HB.out _ _ _ _ _ _ _ (by omega)⟩
end
end Go.Proofs.Ytifbkoaggjikpaa
