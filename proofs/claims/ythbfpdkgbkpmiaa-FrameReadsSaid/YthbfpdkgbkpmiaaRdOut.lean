/- frame.ReadOut's read. No statement of the seat is proved here. -/
import Derived.Test.YthbfpdkgbkpmiaaG39
import Derived.Test.YthbfpdkgbkpmiaaG21
namespace Go.Proofs.Ythbfpdkgbkpmiaa
open Go.RowKit Frm

/-- What reading inputs asks, up to the values. -/
def openOkOut (x : BldD) (s : ByteArray) : Prop := validE x = 0 ∧ (s.size : Int) = 23 + 19 * (x.cars.length : Int) ∧ (bl s).take 2 = headL 90 x.cars.length ∧ openOk (bl s) = true
def readOkOut (x : BldD) (s : ByteArray) : Prop := Kind.ouOk .rd (bodyL s) (noOu x.cars.length) (hallUp x) (hallDown x) x.cars.length
/-- What ReadIn returns as its error. -/
def ReadOE (x : BldD) (s : ByteArray) (code : Int) : Prop :=
  (validE x ≠ 0 ∧ code = 1) ∨
  (validE x = 0 ∧ (s.size : Int) ≠ 23 + 19 * (x.cars.length : Int) ∧ code = 4) ∨
  (validE x = 0 ∧ (s.size : Int) = 23 + 19 * (x.cars.length : Int) ∧ (bl s).take 2 ≠ headL 90 x.cars.length ∧ code = 30) ∨
  (validE x = 0 ∧ (s.size : Int) = 23 + 19 * (x.cars.length : Int) ∧ (bl s).take 2 = headL 90 x.cars.length ∧ openOk (bl s) = false ∧ code = 5) ∨
  (openOkOut x s ∧ ¬ readOkOut x s ∧ code = 31)
/-- Inputs lie in a variable. -/
def OuBox (w : World) (bx : Nat) (y : Ou) (A : Option Addr) (cp : Nat) : Prop := CellsAt w bx 0 (ohV y.h A y.cars.length cp) ∧ CosV w A y.cars

theorem enterRdOut (args : Array Value) (w : World) : (callFunc 42 args).run Try.prog w = .ok (.enter 42 args) w := by kernel_rfl

set_option maxRecDepth 100000 in
set_option maxHeartbeats 4000000 in
theorem readOut_any (N bx bb : Nat) (sz : Int) (s : ByteArray) (x : BldD) (A : Option Addr) (cap : Nat) (w : World) (hxn : x.cars.length ≤ 140737488355328) (hc : CarsAt w w.heap.size A x.cars) (hs : s.size ≤ maxLen) (hsz : validE x = 0 → sz = 23 + 19 * (x.cars.length : Int)) (hN : N ≤ w.heap.size)
    (hp : CellsAt w bx 0 (ohV noOh none 0 0)) (hf : ∀ j, j < 8 → w.frozen? ⟨bx, j, none⟩ = false) (hpN : N ≤ bx) (hbb : w.cell? ⟨bb, 7, none⟩ = some (.slice A x.cars.length cap)) :
    Calls Try.prog 36 #[x.agg A cap, .int .u8 90, .int .i64 sz, .string s, .func (.func 42) #[] #[.pointer (some ⟨bb, 0, none⟩), .pointer (some ⟨bx, 0, none⟩)]] w fun e w' => Below N w w' ∧
      ((openOkOut x s ∧ readOkOut x s ∧ e = .returned (.int .i64 0) ∧ ∃ g, w.heap.size ≤ g ∧ OuBox w' bx (Kind.ouR .rd (bodyL s) (noOu x.cars.length)) (some ⟨g, 0, none⟩) x.cars.length) ∨ (∃ code, ReadOE x s code ∧ code ≠ 0 ∧ e = .returned (.int .i64 code))) := by
  have hpw : bx < w.heap.size := World.block_lt_of_cell? w _ (hp 0 _ rfl)
  have HC := Lib.hid hc
  have HP := Lib.hid hp
  have HF := Lib.hid hf
  have HBB := Lib.hid hbb
  have HVA := Lib.hid (fun wx (h : Below w.heap.size w wx) => valid_any x A cap wx hxn ((HC.out.below h).more h.size))
  have HHD := Lib.hid (fun wx (hx : x.cars.length < 256) => head_any x A cap 90 wx (by omega) hx)
  have HFO := Lib.hid (fun b wx (h : Below w.heap.size w wx) => fieldsOf_any 125 (.pointer (some ⟨b, 0, none⟩)) x A cap 31 wx hxn ((HC.out.below h).more h.size))
  clear hc hp hf hbb
  unfold maxLen at hs
  by_cases hva : validE x = 0
  · have hF := fine_of hva
    have hC1 : 1 ≤ x.cars.length ∧ x.cars.length ≤ 8 := hF.cars
    have hsz' := hsz hva
    clear hsz
    by_cases hsi : (s.size : Int) = sz
    · have hd1 : ((s.size : Int) != sz) = false := by rw [hsi]; exact bne_self_eq_false _
      have hsz2 : s.size = 23 + 19 * x.cars.length := by omega
      have HSZ := Lib.hid hsz2
      have HVV := Lib.hid hva
      have HU := Lib.hid (hallUp_lt x)
      have HD := Lib.hid (hallDown_lt x)
      rw [hva] at HVA
      clear hva hF hsz' hsi
      have hl2 : (headL 90 x.cars.length).length = 2 := rfl
      rcases Bool.eq_false_or_eq_true ((bl s).take 2 == headL 90 x.cars.length) with hpr | hpr
      · have HPR : Hid ((bl s).take 2 = headL 90 x.cars.length) := eq_of_beq hpr
        by_cases hop : openOk (bl s) = true
        · have hoe : openE (bl s) = 0 := by unfold openE; rw [if_neg (by rw [bl_len]; omega), if_pos hop]
          have HOE := Lib.hid hoe
          clear hoe
          have HOA : Hid (openOkOut x s) := ⟨HVV.out, by have := HSZ.out; omega, HPR.out, hop⟩
          have hos : (openS (bl s)).length = 21 + 19 * x.cars.length := by unfold openS; rw [if_pos hop, List.length_take, bl_len]; omega
          have hbl : (bodyL s).length = 19 + 19 * x.cars.length := by unfold bodyL; rw [List.length_drop, hos]; omega
          have HOS := Lib.hid hos
          have HBL := Lib.hid hbl
          have hs2s : 2 ≤ s.size := by omega
          have hs6 : s.size ≤ 1000000 := by omega
          clear hos hbl hsz2
          have HRD : Hid (¬ readOkOut x s → ReadOE x s 31) := fun h => .inr (.inr (.inr (.inr ⟨HOA.out, h, rfl⟩)))
          have HRI : Hid (readOkOut x s ↔ Kind.ouOk .rd (bodyL s) (noOu x.cars.length) (hallUp x) (hallDown x) x.cars.length) := Iff.rfl
          have HBD : Hid (bodyL s = (openS (bl s)).drop 2) := rfl
          clear hop
          generalize hallUp x = U at *
          generalize hallDown x = D at *
          generalize bodyL s = BD at *
          generalize hOS : openS (bl s) = OS at *
          have HOSE := Lib.hid hOS
          clear hOS
          generalize hL : headL 90 x.cars.length = L at *
          have HL := Lib.hid hL
          clear hL
          obtain ⟨f, d, r, p, e1, e2, e3, cs⟩ := x
          simp only [BldD.agg] at *
          go_enter Try.func36, Try.ntmps36
          go_wp2_with fail
          refine (HVA.out _ (by go_grown)).mono ?_
          rintro e w1 ⟨rfl, hb1⟩
          have hx1 : Below (w.heap.size + 1) (w.alloc (.cells #[.int .i64 f, .int .i64 d, .int .i64 r, .int .i64 p, .float .f64 e1, .float .f64 e2, .float .f64 e3, .slice A cs.length cap] 25)) w1 := hb1.mono (by simp)
          obtain ⟨-, g0, g1, g2, g3, g4, g5, g6, g7⟩ := boxS hx1
          have hs1 := box_size hx1
          go_wp2_with fail
          refine (HHD.out _ (by omega)).mono ?_
          rintro e w2 ⟨rfl, hb2⟩
          have hx2 := hx1.trans (hb2.mono hs1)
          have hs2 := box_size hx2
          clear g0 g1 g2 g3 g4 g5 g6 g7 hb1 hb2 hx1
          go_wp2_with fail
          refine (prefix_any s L _ (by omega) (by omega)).mono ?_
          rw [hl2, hpr]
          rintro e w2' ⟨rfl, rfl⟩
          go_wp2_with fail
          refine (open_any s _ (by omega)).mono ?_
          rw [HOSE.out, HOE.out]
          rintro e w3 ⟨rfl, hb3⟩
          have hx3 := hx2.trans (hb3.mono hs2)
          have hs3 := box_size hx3
          clear hb3 hx2
          obtain ⟨-, g0, g1, g2, g3, g4, g5, g6, g7⟩ := boxS hx3
          go_wp2_with fail
          refine (HHD.out _ (by omega)).mono ?_
          rintro e w4 ⟨rfl, hb4⟩
          have hx4 := hx3.trans (hb4.mono hs3)
          have hs4 := box_size hx4
          clear hb4 hx3 g0 g1 g2 g3 g4 g5 g6 g7
          obtain ⟨-, g0, g1, g2, g3, g4, g5, g6, g7⟩ := boxS hx4
          have hLs : (⟨L.toArray⟩ : ByteArray).size = 2 := by show L.toArray.size = 2; rw [List.size_toArray]; exact hl2
          have hOsz : (⟨OS.toArray⟩ : ByteArray).size = OS.length := by show OS.toArray.size = _; rw [List.size_toArray]
          have hO2 : 2 ≤ OS.length := by have := HOS.out; omega
          have hO6 : OS.length ≤ 1000 := by have := HOS.out; omega
          have hpast : ∀ o j, (w4.alloc o).cell? ⟨w.heap.size, j, none⟩ = w4.cell? ⟨w.heap.size, j, none⟩ := fun o j => World.cell?_of_block (w := w4) (Below.heap_alloc w4 o w.heap.size (by omega))
          have p0 := fun o => (hpast o 0).trans g0
          have p1 := fun o => (hpast o 1).trans g1
          have p2 := fun o => (hpast o 2).trans g2
          have p3 := fun o => (hpast o 3).trans g3
          have p4 := fun o => (hpast o 4).trans g4
          have p5 := fun o => (hpast o 5).trans g5
          have p6 := fun o => (hpast o 6).trans g6
          have p7 := fun o => (hpast o 7).trans g7
          have HX4 := Lib.hid hx4
          clear hx4 hpast
          go_wp2_with fail
          rw [ext_drop]
          obtain ⟨W5, hW5⟩ : ∃ W5, W5 = w4.alloc (.cells #[.string ⟨(OS.drop 2).toArray⟩] 127) := ⟨_, rfl⟩
          rw [← hW5]
          have hb45 : Below w4.heap.size w4 W5 := by rw [hW5]; exact (Below.refl _ _).alloc (Nat.le_refl _) _
          have hbw5 : Below w.heap.size w W5 := (below_of_new HX4.out).trans (hb45.mono (by omega))
          have hs5 : W5.heap.size = w4.heap.size + 1 := by rw [hW5]; simp
          have hg5 : W5.heap[w4.heap.size]? = some (.cells #[.string ⟨(OS.drop 2).toArray⟩] 127 (0, 0)) := by rw [hW5]; exact heap_alloc_new w4 _
          have hA5 : Kind.At .rd N W5 w4.heap.size BD := ⟨by omega, by simp [World.frozen?, hg5], by rw [cell_of_row _ _ _ _ _ (0, 0) hg5, HBD.out]; rfl⟩
          have HA5 := Lib.hid hA5
          have HBW5 := Lib.hid hbw5
          clear hW5 hb45 hbw5 hg5 hA5 g0 g1 g2 g3 g4 g5 g6 g7 p0 p1 p2 p3 p4 p5 p6 p7
          refine (HFO.out w4.heap.size W5 HBW5.out).mono ?_
          rintro e w6 ⟨rfl, hb6⟩
          have hbw6 := HBW5.out.trans (hb6.mono HBW5.out.size)
          have HA6 := Lib.hid (HA5.out.below hb6)
          have HBW6 := Lib.hid hbw6
          have hs6' : W5.heap.size ≤ w6.heap.size := hb6.size
          clear hb6 hbw6
          go_wp2_with fail
          refine (run_any 42 #[] #[.pointer (some ⟨bb, 0, none⟩), .pointer (some ⟨bx, 0, none⟩)] (fun w1 => Kind.ouOk .rd BD (noOu cs.length) U D cs.length ∧ (∃ g, w6.heap.size + 1 < g ∧ g < w1.heap.size ∧ CellsAt w1 bx 0 (ohV (Kind.ouR .rd BD (noOu cs.length)).h (some ⟨g, 0, none⟩) cs.length cs.length) ∧ ∀ i, i < cs.length → CellsAt w1 g (i * 9) (coV ((Kind.ouR .rd BD (noOu cs.length)).cars.getD i default))) ∧ Below N w w1) (fun w1 => ¬ Kind.ouOk .rd BD (noOu cs.length) U D cs.length ∧ Below N w w1) _ ⟨f, d, r, p, e1, e2, e3, cs⟩ A cap U D 31 w6 enterRdOut (fun wx hbx hsx hcx hfx => ?_)).mono ?_
          · have hwx := HBW6.out.trans (hbx.mono HBW6.out.size)
            refine (rdOutLayout_any N w4.heap.size bx bb BD ⟨f, d, r, p, e1, e2, e3, cs⟩ A cap U D 31 wx HU.out HD.out ⟨hC1.1, by show cs.length ≤ 1000; omega⟩ (by omega) (HA6.out.below hbx) ⟨by have := HBL.out; show 19 + 19 * cs.length ≤ _; omega, by have := HBL.out; omega⟩ (HP.out.below hwx) (fun j hj => (hwx.frozen (p := ⟨bx, j, none⟩) hpw).trans (HF.out j hj)) (by omega) hpN ((hwx.cell (World.block_lt_of_cell? w _ HBB.out)).trans HBB.out)).mono ?_
            rintro e w7 ⟨hk7, hr7⟩
            refine ⟨hk7.cell _ _ hcx rfl (fun hh => hh.elim (fun h => by have : w6.heap.size + 1 = w4.heap.size := h; omega) (fun h => by have : w6.heap.size + 1 = bx := h; have := HBW6.out.size; omega)), (hk7.froz _ (by show w6.heap.size + 1 < wx.heap.size; omega)).trans hfx, ?_⟩
            have hb7 : Below N w w7 := (hwx.mono hN).trans hk7.below
            rcases hr7 with ⟨ok, rfl, g, hg1, hg2, hg3, hg4⟩ | ⟨ok, rfl⟩
            · exact .inl ⟨rfl, ok, ⟨g, by omega, hg2, hg3, hg4⟩, hb7⟩
            · exact .inr ⟨rfl, ok, hb7⟩
          rintro e w8 ⟨w7, hc7, hg7, ⟨rfl, ok, ⟨g, hg1, hg2, hg3, hg4⟩, hb7⟩ | ⟨rfl, ok, hb7⟩⟩
          · have hb8 : Below N w w8 := hb7.grown hg7 (by have := hb7.size; omega) (fun k hk => by simp at hk; have := HBW6.out.size; omega)
            have hin : OuBox w8 bx (Kind.ouR .rd BD (noOu cs.length)) (some ⟨g, 0, none⟩) cs.length := by
              have hlc : (Kind.ouR .rd BD (noOu cs.length)).cars.length = cs.length := by simp [Kind.ouR, noOu]
              refine ⟨?_, .inr ⟨g, 0, rfl, fun i hi => ?_⟩⟩
              · rw [hlc]
                exact fun j v hj => hg7.cell (hg3 j v hj) (by show some bx ≠ some (w6.heap.size + 1); have := HBW6.out.size; intro h; have := Option.some.inj h; omega)
              · rw [Nat.zero_add]
                have := hg4 i (by omega)
                rw [List.getD_eq_getElem?_getD, List.getElem?_eq_getElem hi] at this
                exact fun j v hj => hg7.cell (this j v hj) (by show some g ≠ some (w6.heap.size + 1); intro h; have := Option.some.inj h; omega)
            have HB8 := Lib.hid hb8
            have HIN := Lib.hid hin
            have HOK := Lib.hid ok
            clear hb7 hb8 ok hc7 hg7 hin hg3 hg4
            go_wp2_with fail
            go_ret
            exact ⟨HB8.out, .inl ⟨HOA.out, HRI.out.2 HOK.out, rfl, g, by have := HBW6.out.size; omega, HIN.out⟩⟩
          · have hb8 : Below N w w8 := hb7.grown hg7 (by have := hb7.size; omega) (fun k hk => by simp at hk; have := HBW6.out.size; omega)
            have HB8 := Lib.hid hb8
            have HE : Hid (ReadOE ⟨f, d, r, p, e1, e2, e3, cs⟩ s 31) := HRD.out (fun h => ok (HRI.out.1 h))
            clear hb7 hb8 ok hc7 hg7
            go_wp2_with fail
            go_ret
            exact ⟨HB8.out, .inr ⟨31, HE.out, by decide, rfl⟩⟩
        · have hof : openOk (bl s) = false := by cases h : openOk (bl s) <;> simp_all
          have hoe : openE (bl s) = 5 := by unfold openE; rw [if_neg (by rw [bl_len]; omega), if_neg hop]
          have HOE := Lib.hid hoe
          have HE : Hid (ReadOE x s 5) := .inr (.inr (.inr (.inl ⟨HVV.out, by have := HSZ.out; omega, HPR.out, hof, rfl⟩)))
          have hs2s : 2 ≤ s.size := by omega
          have hs6 : s.size ≤ 1000000 := by omega
          clear hoe hop hof hsz2
          generalize hOS : openS (bl s) = OS at *
          have HOSE := Lib.hid hOS
          clear hOS
          generalize headL 90 x.cars.length = L at *
          obtain ⟨f, d, r, p, e1, e2, e3, cs⟩ := x
          simp only [BldD.agg] at *
          go_enter Try.func36, Try.ntmps36
          go_wp2_with fail
          refine (HVA.out _ (by go_grown)).mono ?_
          rintro e w1 ⟨rfl, hb1⟩
          have hx1 : Below (w.heap.size + 1) (w.alloc (.cells #[.int .i64 f, .int .i64 d, .int .i64 r, .int .i64 p, .float .f64 e1, .float .f64 e2, .float .f64 e3, .slice A cs.length cap] 25)) w1 := hb1.mono (by simp)
          obtain ⟨-, g0, g1, g2, g3, g4, g5, g6, g7⟩ := boxS hx1
          have hs1 := box_size hx1
          go_wp2_with fail
          refine (HHD.out _ (by omega)).mono ?_
          rintro e w2 ⟨rfl, hb2⟩
          have hx2 := hx1.trans (hb2.mono hs1)
          have hs2 := box_size hx2
          clear g0 g1 g2 g3 g4 g5 g6 g7 hb1 hb2 hx1
          go_wp2_with fail
          refine (prefix_any s L _ (by omega) (by omega)).mono ?_
          rw [hl2, hpr]
          rintro e w2' ⟨rfl, rfl⟩
          go_wp2_with fail
          refine (open_any s _ (by omega)).mono ?_
          rw [HOSE.out, HOE.out]
          rintro e w3 ⟨rfl, hb3⟩
          have hx3 := hx2.trans (hb3.mono hs2)
          have HX3 := Lib.hid hx3
          clear hb3 hx2 hx3
          go_wp2_with fail
          go_ret
          exact ⟨(below_of_new HX3.out).mono hN, .inr ⟨5, HE.out, by decide, rfl⟩⟩
      · have HE : Hid (ReadOE x s 30) := .inr (.inr (.inl ⟨HVV.out, by have := HSZ.out; omega, fun h => by rw [h] at hpr; simp at hpr, rfl⟩))
        have hs2s : 2 ≤ s.size := by omega
        have hs6 : s.size ≤ 1000000 := by omega
        clear hsz2
        generalize headL 90 x.cars.length = L at *
        obtain ⟨f, d, r, p, e1, e2, e3, cs⟩ := x
        simp only [BldD.agg] at *
        go_enter Try.func36, Try.ntmps36
        go_wp2_with fail
        refine (HVA.out _ (by go_grown)).mono ?_
        rintro e w1 ⟨rfl, hb1⟩
        have hx1 : Below (w.heap.size + 1) (w.alloc (.cells #[.int .i64 f, .int .i64 d, .int .i64 r, .int .i64 p, .float .f64 e1, .float .f64 e2, .float .f64 e3, .slice A cs.length cap] 25)) w1 := hb1.mono (by simp)
        obtain ⟨-, g0, g1, g2, g3, g4, g5, g6, g7⟩ := boxS hx1
        have hs1 := box_size hx1
        go_wp2_with fail
        refine (HHD.out _ (by omega)).mono ?_
        rintro e w2 ⟨rfl, hb2⟩
        have hx2 := hx1.trans (hb2.mono hs1)
        have hs2 := box_size hx2
        clear g0 g1 g2 g3 g4 g5 g6 g7 hb1 hb2 hx1
        go_wp2_with fail
        refine (prefix_any s L _ (by omega) (by omega)).mono ?_
        rw [hl2, hpr]
        rintro e w2' ⟨rfl, rfl⟩
        have HX2 := Lib.hid hx2
        clear hx2
        go_wp2_with fail
        go_ret
        exact ⟨(below_of_new HX2.out).mono hN, .inr ⟨30, HE.out, by decide, rfl⟩⟩
    · have hd1 : ((s.size : Int) != sz) = true := bne_iff_ne.2 hsi
      have HE : Hid (ReadOE x s 4) := .inr (.inl ⟨hva, by rw [← hsz']; exact hsi, rfl⟩)
      rw [hva] at HVA
      clear hva hF hsz' hsi
      obtain ⟨f, d, r, p, e1, e2, e3, cs⟩ := x
      simp only [BldD.agg] at *
      go_enter Try.func36, Try.ntmps36
      go_wp2_with fail
      refine (HVA.out _ (by go_grown)).mono ?_
      rintro e w1 ⟨rfl, hb1⟩
      go_wp2_with fail
      go_ret
      exact ⟨(((Below.refl w.heap.size w).alloc (Nat.le_refl _) _).trans (hb1.mono (by simp))).mono hN, .inr ⟨4, HE.out, by decide, rfl⟩⟩
  · have HE : Hid (ReadOE x s 1) := .inl ⟨hva, rfl⟩
    have hne : (validE x != 0) = true := bne_iff_ne.2 hva
    generalize validE x = V at *
    clear hva hsz
    obtain ⟨f, d, r, p, e1, e2, e3, cs⟩ := x
    simp only [BldD.agg] at *
    go_enter Try.func36, Try.ntmps36
    go_wp2_with fail
    refine (HVA.out _ (by go_grown)).mono ?_
    rintro e w1 ⟨rfl, hb1⟩
    go_wp2_with fail
    go_ret
    exact ⟨(((Below.refl w.heap.size w).alloc (Nat.le_refl _) _).trans (hb1.mono (by simp))).mono hN, .inr ⟨1, HE.out, by decide, rfl⟩⟩
end Go.Proofs.Ythbfpdkgbkpmiaa
