/- Step of contact. No statement of the seat is proved here. -/
import Derived.Test.YtcobcefefifmcaaCtState
namespace Go.Proofs.Ytcobcefefifmcaa
open Go.RowKit

theorem blk3 (w : World) (A B C : Obj) : (((w.alloc A).alloc B).alloc C).heap[w.heap.size]? = some A ∧ (((w.alloc A).alloc B).alloc C).heap[w.heap.size + 1]? = some B ∧ (((w.alloc A).alloc B).alloc C).heap[w.heap.size + 1 + 1]? = some C := by
  have s1 : (w.alloc A).heap.size = w.heap.size + 1 := by simp
  have s2 : ((w.alloc A).alloc B).heap.size = w.heap.size + 1 + 1 := by simp
  refine ⟨?_, ?_, ?_⟩
  · rw [Below.heap_alloc _ _ _ (by omega), heap_alloc_old _ _ (by omega), heap_alloc_new]
  · rw [Below.heap_alloc _ _ _ (by omega), ← s1, heap_alloc_new]
  · rw [← s2, heap_alloc_new]
theorem three {w w1 : World} {A B C : Obj} (h : Below (((w.alloc A).alloc B).alloc C).heap.size (((w.alloc A).alloc B).alloc C) w1) :
    w1.heap[w.heap.size]? = some A ∧ w1.heap[w.heap.size + 1]? = some B ∧ w1.heap[w.heap.size + 1 + 1]? = some C ∧ Below w.heap.size w w1 ∧ w.heap.size + 3 ≤ w1.heap.size := by
  have s3 : (((w.alloc A).alloc B).alloc C).heap.size = w.heap.size + 3 := by simp
  have hs := h.size
  obtain ⟨a, b, c⟩ := blk3 w A B C
  exact ⟨(h.block _ (by omega)).trans a, (h.block _ (by omega)).trans b, (h.block _ (by omega)).trans c,
    ((((Below.refl _ _).alloc (Nat.le_refl _) A).alloc (by simp) B).alloc (by simp; omega) C).trans (h.mono (by omega)), by omega⟩

/-- A struct in a cell, and a slot: what is handed back. -/
theorem results_row_slot {P : Program} {fn : Func} {p q : Tmp} {ty : TypeId} (h : fn.results = #[.cell p ty, .tmp q]) (tmps : Array Value) (w : World) (g : Nat) (t : TypeId) (cs : Array Value) (fr : Nat × Nat) (d : TypeDesc)
    (hp : tmps.getD p undef = .pointer (some ⟨g, 0, none⟩)) (hg : w.heap[g]? = some (.cells cs t fr))
    (hu : P.underlying ty = some d) (hd : (match d with | .struct _ | .array _ _ => true | _ => false) = true) (hi : (P.info? ty).map (·.size) = some cs.size) :
    (results fn tmps).run P w = .ok (.tuple #[.agg cs, tmps.getD q undef]) w := by
  have hp' : tmps[p]?.getD undef = .pointer (some ⟨g, 0, none⟩) := by simpa using hp
  simp [results, h, hp', asAddr, run_loadVar_row w g t ty cs fr d hg hu hd hi]

theorem results_mid_slot {P : Program} {fn : Func} {p q : Tmp} {ty : TypeId} (h : fn.results = #[.cell p ty, .tmp q]) (tmps : Array Value) (w : World) (g : Nat) (cs : List Value) (d : TypeDesc)
    (hp : tmps.getD p undef = .pointer (some ⟨g, 0, none⟩)) (hg : w.rangeAt g 0 cs)
    (hu : P.underlying ty = some d) (hd : d.isRow = true) (hi : (P.info? ty).map (·.size) = some cs.length) :
    (results fn tmps).run P w = .ok (.tuple #[.agg cs.toArray, tmps.getD q undef]) w := by
  have hp' : tmps[p]?.getD undef = .pointer (some ⟨g, 0, none⟩) := by simpa using hp
  simp [results, h, hp', asAddr, run_loadVar_mid w g 0 ty cs d hg hu hd hi]
theorem there_of_row {w : World} {g n : Nat} {cs : Array Value} {t : TypeId} (hg : w.heap[g]? = some (.cells cs t (0, 0))) (hn : n ≤ cs.size) : w.there g 0 n := fun j hj => by
  rw [Nat.zero_add]
  refine ⟨?_, frozen_of_row w g j cs t hg⟩
  rw [cell_of_row w g j cs t (0, 0) hg, Array.getElem?_eq_getElem (by omega)]
  rfl
theorem Below.setCells {B : Nat} {a : World} {b : Nat} (hb : B ≤ b) : ∀ (vs : List Value) (o : Nat) {w : World}, Below B a w → Below B a (w.setCells b o vs)
  | [], _, _, h => h
  | v :: r, o, w, h => by
    rw [World.setCells]
    exact Below.setCells hb r (o + 1) (h.setCell (p := ⟨b, o, none⟩) hb v)

theorem Db.one (s : Db) : s.cells.all (·.oneCell') = true := by
  unfold Db.cells
  refine all_oneCell_toArray fun v hv => ?_
  rcases List.mem_append.1 hv with h | h
  · simp only [Ct.cells, List.mem_cons, List.not_mem_nil, or_false] at h
    rcases h with rfl | rfl | rfl | rfl | rfl <;> rfl
  · obtain ⟨k, -, rfl⟩ := List.mem_map.1 h
    rfl
theorem zero_lit : (#[.int .u32 0, .bool false, .bool false, .bool false, .bool false, .int .i64 0, .int .i64 0, .int .i64 0, .int .i64 0, .int .i64 0, .int .i64 0, .int .i64 0, .int .i64 0, .int .i64 0, .int .i64 0, .int .i64 0, .int .i64 0, .int .i64 0, .int .i64 0, .int .i64 0, .int .i64 0, .int .i64 0, .int .i64 0, .int .i64 0, .int .i64 0, .int .i64 0, .int .i64 0, .int .i64 0, .int .i64 0, .int .i64 0, .int .i64 0, .int .i64 0, .int .i64 0, .int .i64 0, .int .i64 0, .int .i64 0, .int .i64 0, .int .i64 0, .int .i64 0, .int .i64 0, .int .i64 0] : Array Value) = Db.zero.cells := by kernel_rfl
theorem Db.agg_list (s : Db) : s.agg = .agg s.cells.toList.toArray := by rw [Array.toArray_toList]; rfl
theorem infoDb41 : (Try.prog.info? 31).map (·.size) = some 41 := by kernel_rfl
theorem infoDb {C : Array Value} (h : C.size = 41) : (Try.prog.info? 31).map (·.size) = some C.size := by rw [h]; kernel_rfl

theorem Db.cg0 (s : Db) : s.cells[0]? = some (.int .u32 s.c.fl) := rfl
theorem Db.cg1 (s : Db) : s.cells[1]? = some (.bool s.c.up) := rfl
theorem Db.cg2 (s : Db) : s.cells[2]? = some (.bool s.c.dn) := rfl
theorem Db.cg3 (s : Db) : s.cells[3]? = some (.bool s.c.opn) := rfl
theorem Db.cg4 (s : Db) : s.cells[4]? = some (.bool s.c.cls) := rfl
theorem Db.put_cells {s : Db} (k : Nat) (p : Bool × Int) (c : Ct) (hc : c = s.c.set k p.1) :
    (s.put k p).cells = (((((s.cells.setIfInBounds 0 (.int .u32 c.fl)).setIfInBounds 1 (.bool c.up)).setIfInBounds 2 (.bool c.dn)).setIfInBounds 3 (.bool c.opn)).setIfInBounds 4 (.bool c.cls)).setIfInBounds (5 + k) (.int .i64 p.2) := by
  subst hc
  unfold Db.cells Db.put
  rw [List.map_set, Nat.add_comm 5 k]
  simp [Ct.cells]
/-- The block of a state behind a contact's step. -/
theorem row_put {w : World} {g : Nat} {t : TypeId} {s : Db} (hg : w.heap[g]? = some (.cells s.cells t (0, 0))) (k : Nat) (p : Bool × Int) (c : Ct) (hc : c = s.c.set k p.1) :
    ((((((w.setCell ⟨g, 0, none⟩ (.int .u32 c.fl)).setCell ⟨g, 1, none⟩ (.bool c.up)).setCell ⟨g, 2, none⟩ (.bool c.dn)).setCell ⟨g, 3, none⟩ (.bool c.opn)).setCell ⟨g, 4, none⟩ (.bool c.cls)).setCell ⟨g, 5 + k, none⟩ (.int .i64 p.2)).heap[g]? = some (.cells (s.put k p).cells t (0, 0)) := by
  rw [Db.put_cells k p c hc]
  exact heap_setCell_same _ _ _ _ _ _ (heap_setCell_same _ _ _ _ _ _ (heap_setCell_same _ _ _ _ _ _ (heap_setCell_same _ _ _ _ _ _ (heap_setCell_same _ _ _ _ _ _ (heap_setCell_same _ _ _ _ _ _ hg)))))

theorem six_other (w : World) (g h i : Nat) (v0 v1 v2 v3 v4 v5 : Value) (hne : h ≠ g) :
    ((((((w.setCell ⟨g, 0, none⟩ v0).setCell ⟨g, 1, none⟩ v1).setCell ⟨g, 2, none⟩ v2).setCell ⟨g, 3, none⟩ v3).setCell ⟨g, 4, none⟩ v4).setCell ⟨g, i, none⟩ v5).heap[h]? = w.heap[h]? := by
  rw [heap_setCell_other _ _ _ _ hne, heap_setCell_other _ _ _ _ hne, heap_setCell_other _ _ _ _ hne, heap_setCell_other _ _ _ _ hne, heap_setCell_other _ _ _ _ hne, heap_setCell_other _ _ _ _ hne]
theorem six_below {B : Nat} {a w : World} (hb : Below B a w) (g i : Nat) (v0 v1 v2 v3 v4 v5 : Value) (hg : B ≤ g) :
    Below B a ((((((w.setCell ⟨g, 0, none⟩ v0).setCell ⟨g, 1, none⟩ v1).setCell ⟨g, 2, none⟩ v2).setCell ⟨g, 3, none⟩ v3).setCell ⟨g, 4, none⟩ v4).setCell ⟨g, i, none⟩ v5) :=
  (((((hb.setCell (p := ⟨g, 0, none⟩) hg v0).setCell (p := ⟨g, 1, none⟩) hg v1).setCell (p := ⟨g, 2, none⟩) hg v2).setCell (p := ⟨g, 3, none⟩) hg v3).setCell (p := ⟨g, 4, none⟩) hg v4).setCell (p := ⟨g, i, none⟩) hg v5

set_option maxRecDepth 100000 in
set_option maxHeartbeats 4000000 in
theorem step_good (n : Int) (s : Db) (r : Ct) (w : World) (hs : s.ok) (hr : r.ok) (h : s.isB n = true) :
    Calls Try.prog 14 #[.int .i64 n, s.agg, r.agg] w fun e w' => e = .returned (.tuple #[(s.step n r).agg, .int .i64 0]) ∧ Below w.heap.size w w' := by
  have FI := Lib.hid (fun w => isState_any n s w hs)
  rw [h] at FI
  have hi := infoDb (Db.size hs)
  have hz := infoDb41
  have HS : Hid (s.ok ∧ r.ok ∧ ∀ k, k < 36 → 0 ≤ s.n.getD k 0 ∧ s.n.getD k 0 ≤ 100) := ⟨hs, hr, fun k hk => by have h1 := (Db.isB_iff hs).1 h; have h2 := h1.2 k hk; unfold Db.at_ at h2; simp only at h2; omega⟩
  obtain ⟨R, hR⟩ : ∃ R, R = (s.step n r).agg := ⟨_, rfl⟩
  rw [← hR]
  have HR := Lib.hid hR
  obtain ⟨C, hC⟩ : ∃ C, C = s.cells := ⟨_, rfl⟩
  have HC := Lib.hid hC
  unfold Db.agg at FI ⊢
  unfold Ct.agg
  rw [← hC] at FI hi ⊢
  clear hs hr h hR hC
  obtain ⟨rf, ru, rd, ro, rc⟩ := r
  go_enter Try.func14, Try.ntmps14
  go_wp2_with (refine wpList_load_row rfl 31 _ rfl _ rfl _ _ _ _ (blk3 _ _ _ _).1 Try.underlying31 rfl hi ?_)
  refine (FI.out _).mono ?_
  rintro e w1 ⟨rfl, hb⟩
  obtain ⟨g0, g1, g2, hbw, hsz⟩ := three hb
  rw [HC.out] at g0
  obtain ⟨Z, hZ, hZ2⟩ : ∃ Z : Array Value, Z.size = 41 ∧ w1.heap[w.heap.size + 1 + 1]? = some (.cells Z 31 (0, 0)) := ⟨_, rfl, g2⟩
  have G := Lib.hid (And.intro g0 (And.intro g1 (And.intro hZ2 hbw)))
  clear hb g0 g1 g2 hbw hZ2
  go_wp2_with fail
  go_loopw [16] (fun v wr => ∃ k : Nat, k ≤ 36 ∧ v = .int .i64 k ∧ wr.heap[w.heap.size]? = some (.cells (Db.stepTo n ⟨rf, ru, rd, ro, rc⟩ s k).cells 31 (0, 0)) ∧ wr.heap[w.heap.size + 1]? = some (.cells #[.int .u32 rf, .bool ru, .bool rd, .bool ro, .bool rc] 24 (0, 0)) ∧
    wr.heap[w.heap.size + 1 + 1]? = some (.cells Z 31 (0, 0)) ∧ Below w.heap.size w wr) (fun v _ => 36 - (intOf v).toNat)
  case atStart => exact ⟨0, Nat.zero_le _, rfl, G.out.1, G.out.2.1, G.out.2.2.1, G.out.2.2.2⟩
  case round =>
    obtain ⟨k, hk, rfl, h0, h1, h2, hbw⟩ := hrel
    have hsr : w.heap.size + 1 + 1 < wr.heap.size := by
      rcases Nat.lt_or_ge (w.heap.size + 1 + 1) wr.heap.size with h | h
      · exact h
      · rw [Array.getElem?_eq_none h] at h2; cases h2
    by_cases hlt : k < 36
    · have okD := Db.ok_stepTo (n := n) (r := ⟨rf, ru, rd, ro, rc⟩) HS.out.1 k
      have hdb := Db.debAt_stepTo (n := n) (r := ⟨rf, ru, rd, ro, rc⟩) HS.out.1 hlt
      have hat := congrArg Prod.snd (Db.at_stepTo (n := n) (r := ⟨rf, ru, rd, ro, rc⟩) HS.out.1 k (by omega) k)
      rw [if_neg (by omega)] at hat
      unfold Db.at_ at hat
      simp only at hat
      have hbd := HS.out.2.2 k hlt
      rw [← hat] at hbd
      have hnx : Db.stepTo n ⟨rf, ru, rd, ro, rc⟩ s (k + 1) = (Db.stepTo n ⟨rf, ru, rd, ro, rc⟩ s k).put k (Db.debAt n ⟨rf, ru, rd, ro, rc⟩ s k) := rfl
      have hcn := Db.cell_n okD hlt
      have hc0 := Db.cg0 (Db.stepTo n ⟨rf, ru, rd, ro, rc⟩ s k)
      have hc1 := Db.cg1 (Db.stepTo n ⟨rf, ru, rd, ro, rc⟩ s k)
      have hc2 := Db.cg2 (Db.stepTo n ⟨rf, ru, rd, ro, rc⟩ s k)
      have hc3 := Db.cg3 (Db.stepTo n ⟨rf, ru, rd, ro, rc⟩ s k)
      have hc4 := Db.cg4 (Db.stepTo n ⟨rf, ru, rd, ro, rc⟩ s k)
      have hrp := fun wx hg => row_put (w := wx) (g := w.heap.size) (t := 31) (s := Db.stepTo n ⟨rf, ru, rd, ro, rc⟩ s k) hg k (Db.debAt n ⟨rf, ru, rd, ro, rc⟩ s k)
      rw [← hnx] at hrp
      obtain ⟨D2, hD2⟩ : ∃ D2, D2 = Db.stepTo n ⟨rf, ru, rd, ro, rc⟩ s (k + 1) := ⟨_, rfl⟩
      rw [← hD2] at hnx hrp
      have HD2 := Lib.hid hD2
      clear hD2
      generalize Db.stepTo n ⟨rf, ru, rd, ro, rc⟩ s k = D at *
      generalize Db.debAt n ⟨rf, ru, rd, ro, rc⟩ s k = p at *
      have F1 := Lib.hid (fun wx => get_any D.c (k : Int) wx okD.c)
      have F2 := Lib.hid (fun wx => get_any ⟨rf, ru, rd, ro, rc⟩ (k : Int) wx HS.out.2.1)
      have F3 := Lib.hid (fun wx => debounce_any n (D.c.get k) (D.n.getD k 0) (Ct.get ⟨rf, ru, rd, ro, rc⟩ k) wx hbd)
      have F4 := Lib.hid (fun wx => set_any D.c (k : Int) p.1 wx okD.c)
      rw [hdb] at F3
      simp only [Ct.getI_nat, Ct.setI_nat, Ct.agg, tupDeb] at F1 F2 F3 F4
      generalize hcq : D.c.set k p.1 = c' at F4
      have hrp' := fun wx hg => hrp wx hg c' hcq.symm
      obtain ⟨p1, p2⟩ := p
      generalize D.c.get k = bd at *
      generalize Ct.get ⟨rf, ru, rd, ro, rc⟩ k = br at *
      generalize D.n.getD k 0 = kd at *
      generalize D.c.fl = df at *
      generalize D.c.up = du at *
      generalize D.c.dn = dd at *
      generalize D.c.opn = do_ at *
      generalize D.c.cls = dc at *
      obtain ⟨cf, cu, cd, co, cc⟩ := c'
      simp only at F3 F4 hrp'
      have HRP := Lib.hid hrp'
      generalize hDC : D.cells = DC at *
      have HG := Lib.hid (And.intro h0 (And.intro h1 (And.intro h2 hbw)))
      have HX := Lib.hid (fun wx (hx : wx.heap[w.heap.size]? = some (.cells DC 31 (0, 0))) => (⟨(cell_of_row wx _ _ _ _ (0, 0) hx).trans hc0, (cell_of_row wx _ _ _ _ (0, 0) hx).trans hc1, (cell_of_row wx _ _ _ _ (0, 0) hx).trans hc2, (cell_of_row wx _ _ _ _ (0, 0) hx).trans hc3, (cell_of_row wx _ _ _ _ (0, 0) hx).trans hc4, (cell_of_row wx _ _ _ _ (0, 0) hx).trans hcn⟩ : wx.cell? ⟨w.heap.size, 0, none⟩ = some (.int .u32 df) ∧ wx.cell? ⟨w.heap.size, 1, none⟩ = some (.bool du) ∧ wx.cell? ⟨w.heap.size, 2, none⟩ = some (.bool dd) ∧ wx.cell? ⟨w.heap.size, 3, none⟩ = some (.bool do_) ∧ wx.cell? ⟨w.heap.size, 4, none⟩ = some (.bool dc) ∧ wx.cell? ⟨w.heap.size, 5 + k, none⟩ = some (.int .i64 kd)))
      have HFZ := Lib.hid (fun wx j (hx : wx.heap[w.heap.size]? = some (.cells DC 31 (0, 0))) => frozen_of_row wx w.heap.size j DC 31 hx)
      clear h0 h1 h2 hbw hdb hat hbd hnx hcn hc0 hc1 hc2 hc3 hc4 hrp hrp' hcq okD
      go_wp2_with fail
      refine Bag.region (fun wx => Below wr.heap.size wr wx) (by kernel_rfl) (by kernel_rfl) (Below.refl _ _).drew ?_
      iterate 18 (first
          | (apply Bag.walk_yes (by rfl)
             (intro wx hx K hK
              obtain ⟨c0, c1, c2, c3, c4, cn⟩ := HX.out wx ((hx.block _ (by omega)).trans HG.out.1)
              have hr1 := (hx.block _ (by omega)).trans HG.out.2.1
              have r0 : wx.cell? ⟨w.heap.size + 1, 0, none⟩ = some (.int .u32 rf) := cell_of_row _ _ _ _ _ (0, 0) hr1
              have r1 : wx.cell? ⟨w.heap.size + 1, 1, none⟩ = some (.bool ru) := cell_of_row _ _ _ _ _ (0, 0) hr1
              have r2 : wx.cell? ⟨w.heap.size + 1, 2, none⟩ = some (.bool rd) := cell_of_row _ _ _ _ _ (0, 0) hr1
              have r3 : wx.cell? ⟨w.heap.size + 1, 3, none⟩ = some (.bool ro) := cell_of_row _ _ _ _ _ (0, 0) hr1
              have r4 : wx.cell? ⟨w.heap.size + 1, 4, none⟩ = some (.bool rc) := cell_of_row _ _ _ _ _ (0, 0) hr1
              clear hr1
              go_simp
              first
                | (go_at_call 9; (with_reducible refine (F1.out _).mono ?_); rintro e x1 ⟨rfl, hb⟩; exact hK _ (hx.trans (hb.mono hx.size)))
                | (go_at_call 9; (with_reducible refine (F2.out _).mono ?_); rintro e x1 ⟨rfl, hb⟩; exact hK _ (hx.trans (hb.mono hx.size)))
                | (go_at_call 23; (with_reducible refine (F3.out _).mono ?_); rintro e x1 ⟨rfl, rfl⟩; exact hK _ hx)
                | (go_at_K; exact hK _ hx))
             rfl)
          | (refine Bag.walk_no (by rfl) ?_; simp only [Act.put, List.setIfInBounds_toArray, List.set_cons_succ, List.set_cons_zero]))
      refine Bag.walk_nil (fun x0 hx0 => ?_)
      have HX0 := Lib.hid hx0
      have hsx := hx0.size
      clear hx0
      obtain ⟨c0, c1, c2, c3, c4, cn⟩ := HX.out x0 ((HX0.out.block _ (by omega)).trans HG.out.1)
      go_wp2_with fail
      refine (F4.out _).mono ?_
      rintro e x1 ⟨rfl, hb1⟩
      clear c0 c1 c2 c3 c4 cn
      have hx1 := HX0.out.trans (hb1.mono hsx)
      have hrow := (hx1.block w.heap.size (by omega)).trans HG.out.1
      obtain ⟨c0, c1, c2, c3, c4, cn⟩ := HX.out x1 hrow
      have f0 := HFZ.out x1 0 hrow
      have f1 := HFZ.out x1 1 hrow
      have f2 := HFZ.out x1 2 hrow
      have f3 := HFZ.out x1 3 hrow
      have f4 := HFZ.out x1 4 hrow
      have f5 := HFZ.out x1 (5 + k) hrow
      have HX1 := Lib.hid hx1
      have HR1 := Lib.hid (HRP.out x1 hrow)
      clear hb1 hx1 hrow
      go_wp2_with fail
      go_roundw
      case rel =>
        have hd2 := HR1.out
        rw [HD2.out] at hd2
        refine ⟨k + 1, by omega, by go_num, hd2, ?_, ?_, ?_⟩
        · rw [six_other _ _ _ _ _ _ _ _ _ _ (by omega)]
          exact (HX1.out.block _ (by omega)).trans HG.out.2.1
        · rw [six_other _ _ _ _ _ _ _ _ _ _ (by omega)]
          exact (HX1.out.block _ (by omega)).trans HG.out.2.2.1
        · exact six_below (HG.out.2.2.2.trans (HX1.out.mono (by omega))) _ _ _ _ _ _ _ _ (Nat.le_refl _)
      case measure => simp [intOf]; omega
    · obtain rfl : k = 36 := by omega
      have hst : Db.stepTo n ⟨rf, ru, rd, ro, rc⟩ s 36 = s.step n ⟨rf, ru, rd, ro, rc⟩ := rfl
      rw [hst] at h0
      have hRE := HR.out
      rw [Db.agg_list] at hRE
      have hi2 := infoDb (Db.size (Db.ok_step (n := n) (r := ⟨rf, ru, rd, ro, rc⟩) HS.out.1))
      have h1c := Db.one (s.step n ⟨rf, ru, rd, ro, rc⟩)
      have hs41 := Db.size (Db.ok_step (n := n) (r := ⟨rf, ru, rd, ro, rc⟩) HS.out.1)
      generalize (s.step n ⟨rf, ru, rd, ro, rc⟩).cells = E at *
      have ht := there_of_row (n := E.size) h2 (by omega)
      have HRE := Lib.hid hRE
      have HBW := Lib.hid hbw
      clear h1 h2 hRE hbw hst
      go_wp2_with (first | (refine wpList_load_row rfl 31 _ rfl _ rfl _ _ _ _ h0 Try.underlying31 rfl hi2 ?_) | (refine wpList_store_mid rfl 31 _ _ rfl _ _ E rfl rfl ht hi2 h1c ?_))
      refine bodyPost_ret (results_mid_slot Try.results14 _ _ _ E.toList _ ?hp (World.rangeAt_setCells_same _ _ _ _ ?ht) Try.underlying31 ?hd ?hi) ?hdf ⟨?he, Below.setCells ?hb _ _ HBW.out⟩
      case hp => rfl
      case hd => rfl
      case hdf => rfl
      case hb => omega
      case ht => exact ht
      case hi => exact hi2
      case he => rw [HRE.out]; rfl
end Go.Proofs.Ytcobcefefifmcaa
