/- Run of contact, where it gives states. No statement of the seat is proved here. -/
import Derived.Test.YtcobcefefifmcaaCtList
namespace Go.Proofs.Ytcobcefefifmcaa
open Go.RowKit

/-- What is laid behind k readings. -/
def Db.outsK (n : Int) (s : Db) (l : List Ct) (k : Nat) : List Ct := (List.range l.length).map fun i => if i < k then (s.run n (l.take (i + 1))).c else Ct.zero
theorem Db.outsK_len (n : Int) (s : Db) (l : List Ct) (k : Nat) : (s.outsK n l k).length = l.length := by unfold Db.outsK; rw [List.length_map, List.length_range]
theorem Db.outsK_zero (n : Int) (s : Db) (l : List Ct) : s.outsK n l 0 = List.replicate l.length Ct.zero := by
  apply List.ext_getElem (by rw [Db.outsK_len, List.length_replicate])
  intro i h1 h2
  simp [Db.outsK]
theorem Db.outsK_all (n : Int) (s : Db) (l : List Ct) : s.outsK n l l.length = s.outs n l := by
  apply List.ext_getElem (by rw [Db.outsK_len, Db.outs_len])
  intro i h1 h2
  rw [Db.outsK_len] at h1
  simp [Db.outsK, Db.outs, h1]
theorem Db.outsK_succ (n : Int) (s : Db) (l : List Ct) (k : Nat) : s.outsK n l (k + 1) = (s.outsK n l k).set k (s.run n (l.take (k + 1))).c := by
  apply List.ext_getElem (by rw [List.length_set, Db.outsK_len, Db.outsK_len])
  intro i h1 h2
  rw [List.getElem_set]
  simp only [Db.outsK, List.getElem_map, List.getElem_range]
  by_cases e : k = i
  · subst e; rw [if_pos (by omega), if_pos rfl]
  · rw [if_neg e]
    by_cases h : i < k
    · rw [if_pos h, if_pos (by omega)]
    · rw [if_neg h, if_neg (by omega)]
theorem Db.run_take (n : Int) (s : Db) (l : List Ct) {k : Nat} (h : k < l.length) : s.run n (l.take (k + 1)) = (s.run n (l.take k)).step n l[k] := by
  rw [List.take_succ_eq_append_getElem h, Db.run_snoc]
/-- Step, at a state. -/
theorem step_any (n : Int) (s : Db) (r : Ct) (w : World) (hs : s.ok) (hr : r.ok) (h : s.isB n = true) :
    Calls Try.prog 14 #[.int .i64 n, .agg s.cells, .agg #[.int .u32 r.fl, .bool r.up, .bool r.dn, .bool r.opn, .bool r.cls]] w fun e w' => e = .returned (.tuple #[.agg (s.step n r).cells, .int .i64 0]) ∧ Below w.heap.size w w' :=
  step_good n s r w hs hr h

set_option maxHeartbeats 4000000 in
theorem run_good (n : Int) (s : Db) (l : List Ct) (A : Option Addr) (cap : Nat) (w : World) (hs : s.ok) (hl : ∀ c ∈ l, c.ok) (h : s.isB n = true) (hlen : l.length ≤ 5000) (hA : LAt w A l) :
    Calls Try.prog 18 #[.int .i64 n, s.agg, .slice A l.length cap] w fun e w' => ∃ g, e = .returned (.tuple #[(s.run n l).agg, .slice (some ⟨g, 0, none⟩) l.length l.length, .int .i64 0]) ∧ w.heap.size ≤ g ∧
      w'.heap[g]? = some (.cells (flat (s.outs n l)).toArray 24 (0, 0)) ∧ Below w.heap.size w w' := by
  have FI := Lib.hid (fun w => isState_any n s w hs)
  rw [h] at FI
  have hi := infoDb (Db.size hs)
  have HH := Lib.hid (And.intro hs (And.intro hl h))
  have HA := Lib.hid hA
  have hmk := make_cts l.length (by omega)
  obtain ⟨R, hR⟩ : ∃ R, R = (s.run n l).agg := ⟨_, rfl⟩
  rw [← hR]
  have HR := Lib.hid hR
  obtain ⟨C, hC⟩ : ∃ C, C = s.cells := ⟨_, rfl⟩
  have HC := Lib.hid hC
  rw [show s.agg = .agg s.cells from rfl]
  unfold Db.agg at FI
  rw [← hC] at FI hi ⊢
  rw [← Db.outsK_zero n s] at hmk
  clear hs hl h hR hC hA
  go_enter Try.func18, Try.ntmps18
  go_wp2_with (with_reducible show wpList _ _ _ (Oper.mk _ (.load 31 _) _ _ _ _ :: _) _ _; refine wpList_load_row rfl 31 _ rfl _ rfl _ _ _ _ (blk2 _ _ _).1 Try.underlying31 rfl hi ?_)
  refine (FI.out _).mono ?_
  rintro e w1 ⟨rfl, hb⟩
  obtain ⟨g0, g1, hbw, hsz⟩ := two hb
  rw [HC.out] at g0
  obtain ⟨Z, hZ, hZ2⟩ : ∃ Z : Array Value, Z.size = 41 ∧ w1.heap[w.heap.size + 1]? = some (.cells Z 31 (0, 0)) := ⟨_, rfl, g1⟩
  have G := Lib.hid (And.intro g0 (And.intro hZ2 hbw))
  clear hb g0 g1 hbw hZ2
  go_wp2_with fail
  obtain ⟨W2, hW2⟩ : ∃ W2, W2 = w1.alloc (.cells (flat (s.outsK n l 0)).toArray 24) := ⟨_, rfl⟩
  rw [← hW2]
  have g2 : W2.heap[w.heap.size]? = some (.cells s.cells 31 (0, 0)) ∧ W2.heap[w.heap.size + 1]? = some (.cells Z 31 (0, 0)) ∧ W2.heap[w1.heap.size]? = some (.cells (flat (s.outsK n l 0)).toArray 24 (0, 0)) ∧ Below w.heap.size w W2 := by
    rw [hW2]
    exact ⟨(Below.heap_alloc _ _ _ (by omega)).trans G.out.1, (Below.heap_alloc _ _ _ (by omega)).trans G.out.2.1, heap_alloc_new _ _, G.out.2.2.alloc (by omega) _⟩
  have G2 := Lib.hid g2
  clear hW2 g2 hmk
  go_loopw [28] (fun v wr => ∃ k : Nat, k ≤ l.length ∧ v = .int .i64 k ∧ wr.heap[w.heap.size]? = some (.cells (s.run n (l.take k)).cells 31 (0, 0)) ∧ wr.heap[w.heap.size + 1]? = some (.cells Z 31 (0, 0)) ∧
    wr.heap[w1.heap.size]? = some (.cells (flat (s.outsK n l k)).toArray 24 (0, 0)) ∧ Below w.heap.size w wr) (fun v _ => l.length - (intOf v).toNat)
  case atStart => exact ⟨0, Nat.zero_le _, rfl, G2.out⟩
  case round =>
    obtain ⟨k, hk, rfl, h0, h1, h2, hbw⟩ := hrel
    have hsr : w1.heap.size < wr.heap.size := by
      rcases Nat.lt_or_ge w1.heap.size wr.heap.size with h | h
      · exact h
      · rw [Array.getElem?_eq_none h] at h2; cases h2
    by_cases hlt : k < l.length
    · obtain ⟨b, off, rfl, hb, r0, r1, r2, r3, r4⟩ := (HA.out.below hbw).at_ hlt
      have okr := HH.out.2.1 l[k] (List.getElem_mem hlt)
      have okD := Db.ok_run (n := n) HH.out.1 (l.take k)
      have isD := Db.isB_run (n := n) HH.out.1 HH.out.2.2 (l.take k)
      have F1 := Lib.hid (fun wx => step_any n (s.run n (l.take k)) l[k] wx okD okr isD)
      have hrt := Db.run_take n s l hlt
      rw [← hrt] at F1
      have hiD := infoDb (Db.size okD)
      have okD2 := Db.ok_run (n := n) HH.out.1 (l.take (k + 1))
      have hiE := infoDb (Db.size okD2)
      have hDE : (s.run n (l.take k)).cells.size = (s.run n (l.take (k + 1))).cells.size := by rw [Db.size okD, Db.size okD2]
      have h1c := Db.one (s.run n (l.take (k + 1)))
      have hsucc := Db.outsK_succ n s l k
      have hol := Db.outsK_len n s l k
      have hfs := flat_set (s.outsK n l k) k (by omega) (s.run n (l.take (k + 1))).c
      rw [← hsucc] at hfs
      have e0 := Db.cg0 (s.run n (l.take (k + 1)))
      have e1 := Db.cg1 (s.run n (l.take (k + 1)))
      have e2 := Db.cg2 (s.run n (l.take (k + 1)))
      have e3 := Db.cg3 (s.run n (l.take (k + 1)))
      have e4 := Db.cg4 (s.run n (l.take (k + 1)))
      have hsx := flat_length (s.outsK n l k)
      generalize hEq : (s.run n (l.take (k + 1))).cells = E at *
      have HEQ := Lib.hid hEq
      clear hEq
      generalize (s.run n (l.take k)).cells = D at *
      generalize (s.run n (l.take (k + 1))).c = c' at *
      generalize l[k] = rk at *
      obtain ⟨cf, cu, cd, co, cc⟩ := c'
      obtain ⟨rf, ru, rd, ro, rc⟩ := rk
      simp only at e0 e1 e2 e3 e4 F1 r0 r1 r2 r3 r4 hfs
      have HFS := Lib.hid hfs
      have HSX : Hid ((flat (s.outsK n l k)).toArray.size = l.length * 5) := by show _ = _; rw [List.size_toArray, hsx, hol]
      have HE := Lib.hid (fun wx (hx : wx.heap[w.heap.size]? = some (.cells E 31 (0, 0))) => (⟨(cell_of_row wx _ _ _ _ (0, 0) hx).trans e0, (cell_of_row wx _ _ _ _ (0, 0) hx).trans e1, (cell_of_row wx _ _ _ _ (0, 0) hx).trans e2, (cell_of_row wx _ _ _ _ (0, 0) hx).trans e3, (cell_of_row wx _ _ _ _ (0, 0) hx).trans e4⟩ : wx.cell? ⟨w.heap.size, 0, none⟩ = some (.int .u32 cf) ∧ wx.cell? ⟨w.heap.size, 1, none⟩ = some (.bool cu) ∧ wx.cell? ⟨w.heap.size, 2, none⟩ = some (.bool cd) ∧ wx.cell? ⟨w.heap.size, 3, none⟩ = some (.bool co) ∧ wx.cell? ⟨w.heap.size, 4, none⟩ = some (.bool cc)))
      have HG := Lib.hid (And.intro h0 (And.intro h1 (And.intro h2 hbw)))
      have hq : ∀ o, (wr.alloc o).heap[w.heap.size]? = some (.cells D 31 (0, 0)) := fun o => (Below.heap_alloc _ _ _ (by omega)).trans h0
      clear h0 h1 h2 hbw okr okD isD hrt okD2 hsucc hfs e0 e1 e2 e3 e4 hsx hol
      go_wp2_with (with_reducible show wpList _ _ _ (Oper.mk _ (.load 31 _) _ _ _ _ :: _) _ _; refine wpList_load_row rfl 31 _ rfl _ rfl _ _ _ _ (hq _) Try.underlying31 rfl hiD ?_)
      refine (F1.out _).mono ?_
      rintro e x1 ⟨rfl, hb1⟩
      clear r0 r1 r2 r3 r4 hq
      have hx1 : Below wr.heap.size wr x1 := ((Below.refl _ _).alloc (Nat.le_refl _) _).trans (hb1.mono (by simp))
      have q0 := (hx1.block w.heap.size (by omega)).trans HG.out.1
      have q1 := (hx1.block (w.heap.size + 1) (by omega)).trans HG.out.2.1
      have q2 := (hx1.block w1.heap.size (by omega)).trans HG.out.2.2.1
      have q3 := HG.out.2.2.2.trans (hx1.mono (by omega))
      obtain ⟨x2, hx2⟩ : ∃ x2, x2 = x1.setRow w.heap.size E := ⟨_, rfl⟩
      have p0 : x2.heap[w.heap.size]? = some (.cells E 31 (0, 0)) := by rw [hx2]; exact setRow_heap x1 _ _ E _ _ q0
      have p1 : x2.heap[w.heap.size + 1]? = some (.cells Z 31 (0, 0)) := by rw [hx2, setRow_other _ _ _ _ (by omega)]; exact q1
      have p2 : x2.heap[w1.heap.size]? = some (.cells (flat (s.outsK n l k)).toArray 24 (0, 0)) := by rw [hx2, setRow_other _ _ _ _ (by omega)]; exact q2
      have p3 : Below w.heap.size w x2 := by rw [hx2]; exact below_setRow q3 (Nat.le_refl _) _
      obtain ⟨c0, c1, c2, c3, c4⟩ := HE.out x2 p0
      have hd : ∀ j, j < 5 → ∃ v, x2.cell? ⟨w1.heap.size, k * 5 + j, none⟩ = some v := fun j hj => ⟨_, (cell_of_row _ _ _ _ _ (0, 0) p2).trans (Array.getElem?_eq_getElem (by rw [HSX.out]; omega))⟩
      obtain ⟨v0, d0⟩ := hd 0 (by omega)
      obtain ⟨v1, d1⟩ := hd 1 (by omega)
      obtain ⟨v2, d2⟩ := hd 2 (by omega)
      obtain ⟨v3, d3⟩ := hd 3 (by omega)
      obtain ⟨v4, d4⟩ := hd 4 (by omega)
      rw [Nat.add_zero] at d0
      have f0 := frozen_of_row x2 w1.heap.size (k * 5) _ _ p2
      have f1 := frozen_of_row x2 w1.heap.size (k * 5 + 1) _ _ p2
      have f2 := frozen_of_row x2 w1.heap.size (k * 5 + 2) _ _ p2
      have f3 := frozen_of_row x2 w1.heap.size (k * 5 + 3) _ _ p2
      have f4 := frozen_of_row x2 w1.heap.size (k * 5 + 4) _ _ p2
      have HP := Lib.hid (And.intro p0 (And.intro p1 (And.intro p2 p3)))
      have HX2 := Lib.hid hx2
      clear hb1 hx1 q1 q2 q3 p0 p1 p2 p3 hd hx2
      go_wp2_with (with_reducible show wpList _ _ _ (Oper.mk _ (.store 31 _ _) _ _ _ _ :: _) _ _; refine wpList_store_row' rfl 31 _ _ rfl _ E D _ rfl rfl q0 hiE hDE h1c x2 HX2 ?_)
      go_roundw
      case rel =>
        refine ⟨k + 1, by omega, by go_num, ?_, ?_, ?_, ?_⟩
        · rw [five_other _ _ _ _ _ _ _ _ _ _ _ _ _ (by omega), HEQ.out]; exact HP.out.1
        · rw [five_other _ _ _ _ _ _ _ _ _ _ _ _ _ (by omega)]; exact HP.out.2.1
        · rw [five_same HP.out.2.2.1, HFS.out]
        · exact five_below HP.out.2.2.2 _ _ _ _ _ _ _ _ _ _ _ (by omega)
      case measure => simp [intOf]; omega
    · obtain rfl : k = l.length := by omega
      rw [List.take_length] at h0
      have okE := Db.ok_run (n := n) HH.out.1 l
      have hiE := infoDb (Db.size okE)
      have hZE : Z.size = (s.run n l).cells.size := by rw [hZ, Db.size okE]
      have h1c := Db.one (s.run n l)
      have hR := HR.out
      rw [show (s.run n l).agg = .agg (s.run n l).cells from rfl] at hR
      rw [Db.outsK_all] at h2
      generalize (s.run n l).cells = E at *
      have HR2 := Lib.hid hR
      have HBW := Lib.hid (And.intro h2 hbw)
      clear hR okE h2 hbw
      obtain ⟨x2, hx2⟩ : ∃ x2, x2 = wr.setRow (w.heap.size + 1) E := ⟨_, rfl⟩
      have p0 : x2.heap[w.heap.size + 1]? = some (.cells E 31 (0, 0)) := by rw [hx2]; exact setRow_heap wr _ _ E _ _ h1
      have p2 : x2.heap[w1.heap.size]? = some (.cells (flat (s.outs n l)).toArray 24 (0, 0)) := by rw [hx2, setRow_other _ _ _ _ (by omega)]; exact HBW.out.1
      have p3 : Below w.heap.size w x2 := by rw [hx2]; exact below_setRow HBW.out.2 (by omega) _
      have HP := Lib.hid (And.intro p0 (And.intro p2 p3))
      have HX2 := Lib.hid hx2
      clear p0 p2 p3 hx2
      go_wp2_with (first | (with_reducible show wpList _ _ _ (Oper.mk _ (.load 31 _) _ _ _ _ :: _) _ _; refine wpList_load_row rfl 31 _ rfl _ rfl _ _ _ _ h0 Try.underlying31 rfl hiE ?_) | (with_reducible show wpList _ _ _ (Oper.mk _ (.store 31 _ _) _ _ _ _ :: _) _ _; refine wpList_store_row' rfl 31 _ _ rfl _ E Z _ rfl rfl h1 hiE hZE h1c x2 HX2 ?_))
      refine bodyPost_ret (results_row_slots Try.results18 _ _ _ _ E _ _ ?hp HP.out.1 Try.underlying31 ?hd ?hi) ?hdf ⟨w1.heap.size, ?he, by omega, HP.out.2⟩
      case hp => rfl
      case hd => rfl
      case hdf => rfl
      case hi => exact hiE
      case he => rw [HR2.out]; rfl
end Go.Proofs.Ytcobcefefifmcaa
