/- Run of the reference, where it gives states. No statement of the seat is proved here. -/
import Derived.Test.YtcobcefefifmcaaCtRefStep
import Derived.Test.YtcobcefefifmcaaCtRun
import Derived.Test.YtcobcefefifmcaaChain
import Derived.Deep.AppendLies
namespace Go.Proofs.Ytcobcefefifmcaa
open Go.RowKit

theorem refStep_any (n : Int) (s : Db) (r : Ct) (w : World) (hs : s.ok) (hr : r.ok) (h : s.isB n = true) :
    Calls Try.prog 15 #[.int .i64 n, .agg s.cells, .agg #[.int .u32 r.fl, .bool r.up, .bool r.dn, .bool r.opn, .bool r.cls]] w fun e w' => e = .returned (.tuple #[.agg (s.step n r).cells, .int .i64 0]) ∧ Below w.heap.size w w' :=
  refStep_good n s r w hs hr h
theorem own_of_blocks {w w' : World} {base n size : Nat} {e : TypeId} {v : Value} {xs : List Value} (h : w.ownsRow base e size v n xs) (hb : ∀ j, base ≤ j → j < w.heap.size → w'.heap[j]? = w.heap[j]?) : w'.ownsRow base e size v n xs := by
  obtain ⟨hl, h | ⟨g, cap, cur, hv, hbg, hg, hc⟩⟩ := h
  · exact ⟨hl, .inl h⟩
  · have hlt : g < w.heap.size := by
      rcases Nat.lt_or_ge g w.heap.size with h | h
      · exact h
      · rw [Array.getElem?_eq_none h] at hg; cases hg
    exact ⟨hl, .inr ⟨g, cap, cur, hv, hbg, (hb g hbg hlt).trans hg, hc⟩⟩
theorem own_base {w : World} {base base' n size : Nat} {e : TypeId} {v : Value} {xs : List Value} (h : w.ownsRow base e size v n xs) (hb : base' ≤ base) : w.ownsRow base' e size v n xs := by
  obtain ⟨hl, h | ⟨g, cap, cur, hv, hbg, hc⟩⟩ := h
  · exact ⟨hl, .inl h⟩
  · exact ⟨hl, .inr ⟨g, cap, cur, hv, by omega, hc⟩⟩
theorem ctInfo : (Try.prog.info? 24).map (fun i => (i.zero, i.size, i.bytes)) = some (some (.agg #[.int .u32 0, .bool false, .bool false, .bool false, .bool false]), 5, 8) := by kernel_rfl
theorem Db.outs_snoc (n : Int) (s : Db) (l : List Ct) {k : Nat} (h : k < l.length) : s.outs n (l.take (k + 1)) = s.outs n (l.take k) ++ [(s.run n (l.take (k + 1))).c] := by
  unfold Db.outs
  rw [List.length_take, List.length_take, show min (k + 1) l.length = k + 1 from by omega, show min k l.length = k from by omega, List.range_succ, List.map_append]
  congr 1
  · apply List.map_congr_left
    intro i hi
    have := List.mem_range.1 hi
    rw [List.take_take, List.take_take, show min (i + 1) (k + 1) = i + 1 from by omega, show min (i + 1) k = i + 1 from by omega]
  · simp only [List.map_cons, List.map_nil]
    rw [List.take_take, Nat.min_self]
theorem wp_store_row {P : Program} {op : Oper} {a : Act} {w : World} {K : Act → World → Prop} {Q : Exit → Act → World → Prop} (ty : TypeId) (x y : Operand) (ho : op.op = .store ty x y)
    (b : Nat) (cells old : Array Value) (t : TypeId) (hx : a.eval x = .pointer (some ⟨b, 0, none⟩)) (hy : a.eval y = .agg cells) (hg : w.heap[b]? = some (.cells old t (0, 0)))
    (hi : (P.info? ty).map (·.size) = some cells.size) (hsz : old.size = cells.size) (h1 : cells.all (·.oneCell') = true)
    (h : K (a.put op.dst undef) (w.setRow b cells)) : op.wp P a w K Q := by
  unfold Oper.wp execOp
  simp only [ho, hx, hy, Instr.storeAt, Instr.sureAddr, Sem.run_bind, Sem.run_pure, Result.andThen_ok, run_storeVar_row w b t ty old cells hg hi hsz h1]
  exact h

set_option maxHeartbeats 4000000 in
theorem refRun_good (n : Int) (s : Db) (l : List Ct) (A : Option Addr) (cap : Nat) (w : World) (hs : s.ok) (hl : ∀ c ∈ l, c.ok) (h : s.isB n = true) (hlen : l.length ≤ 5000) (hA : LAt w A l) :
    Calls Try.prog 19 #[.int .i64 n, s.agg, .slice A l.length cap] w fun e w' => ∃ v, e = .returned (.tuple #[(s.run n l).agg, v, .int .i64 0]) ∧ w'.ownsRow w.heap.size 24 5 v l.length (flat (s.outs n l)) ∧ Below w.heap.size w w' := by
  obtain ⟨i0, hi0, hz0, hz1, hz2⟩ := info_parts ctInfo
  have FI := Lib.hid (fun w => refIsState_any n s w hs)
  rw [h] at FI
  have hi := infoDb (Db.size hs)
  have HH := Lib.hid (And.intro hs (And.intro hl h))
  have HA := Lib.hid hA
  obtain ⟨R, hR⟩ : ∃ R, R = (s.run n l).agg := ⟨_, rfl⟩
  rw [← hR]
  have HR := Lib.hid hR
  obtain ⟨C, hC⟩ : ∃ C, C = s.cells := ⟨_, rfl⟩
  have HC := Lib.hid hC
  rw [show s.agg = .agg s.cells from rfl]
  unfold Db.agg at FI
  rw [← hC] at FI hi ⊢
  clear hs hl h hR hC hA
  go_enter Try.func19, Try.ntmps19
  go_wp2_with (with_reducible show wpList _ _ _ (Oper.mk _ (.load 31 _) _ _ _ _ :: _) _ _; refine wpList_load_row rfl 31 _ rfl _ rfl _ _ _ _ (blk2 _ _ _).1 Try.underlying31 rfl hi ?_)
  refine (FI.out _).mono ?_
  rintro e w1 ⟨rfl, hb⟩
  obtain ⟨g0, g1, hbw, hsz⟩ := two hb
  rw [HC.out] at g0
  obtain ⟨Z, hZ, hZ2⟩ : ∃ Z : Array Value, Z.size = 41 ∧ w1.heap[w.heap.size + 1]? = some (.cells Z 31 (0, 0)) := ⟨_, rfl, g1⟩
  have G := Lib.hid (And.intro g0 (And.intro hZ2 hbw))
  clear hb g0 g1 hbw hZ2
  go_wp2_with fail
  go_loopw [9, 10] (fun o v wr => ∃ k : Nat, k ≤ l.length ∧ v = .int .i64 k ∧ wr.heap[w.heap.size]? = some (.cells (s.run n (l.take k)).cells 31 (0, 0)) ∧ wr.heap[w.heap.size + 1]? = some (.cells Z 31 (0, 0)) ∧
    wr.ownsRow (w.heap.size + 2) 24 5 o k (flat (s.outs n (l.take k))) ∧ Below w.heap.size w wr) (fun _ v _ => l.length - (intOf v).toNat)
  case atStart => exact ⟨0, Nat.zero_le _, rfl, G.out.1, G.out.2.1, World.ownsRow_nil _ _ _ _, G.out.2.2⟩
  case round =>
    obtain ⟨k, hk, rfl, h0, h1, h2, hbw⟩ := hrel
    have hsr : w.heap.size + 1 < wr.heap.size := by
      rcases Nat.lt_or_ge (w.heap.size + 1) wr.heap.size with h | h
      · exact h
      · rw [Array.getElem?_eq_none h] at h1; cases h1
    by_cases hlt : k < l.length
    · obtain ⟨b, off, rfl, hb, r0, r1, r2, r3, r4⟩ := (HA.out.below hbw).at_ hlt
      have okr := HH.out.2.1 l[k] (List.getElem_mem hlt)
      have okD := Db.ok_run (n := n) HH.out.1 (l.take k)
      have isD := Db.isB_run (n := n) HH.out.1 HH.out.2.2 (l.take k)
      have F1 := Lib.hid (fun wx => refStep_any n (s.run n (l.take k)) l[k] wx okD okr isD)
      have hrt := Db.run_take n s l hlt
      rw [← hrt] at F1
      have hiD := infoDb (Db.size okD)
      have okD2 := Db.ok_run (n := n) HH.out.1 (l.take (k + 1))
      have hiE := infoDb (Db.size okD2)
      have hDE : (s.run n (l.take k)).cells.size = (s.run n (l.take (k + 1))).cells.size := by rw [Db.size okD, Db.size okD2]
      have h1c := Db.one (s.run n (l.take (k + 1)))
      have hos := Db.outs_snoc n s l hlt
      have e0 := Db.cg0 (s.run n (l.take (k + 1)))
      have e1 := Db.cg1 (s.run n (l.take (k + 1)))
      have e2 := Db.cg2 (s.run n (l.take (k + 1)))
      have e3 := Db.cg3 (s.run n (l.take (k + 1)))
      have e4 := Db.cg4 (s.run n (l.take (k + 1)))
      generalize hEq : (s.run n (l.take (k + 1))).cells = E at *
      have HEQ := Lib.hid hEq
      clear hEq
      generalize (s.run n (l.take k)).cells = D at *
      generalize (s.run n (l.take (k + 1))).c = c' at *
      generalize l[k] = rk at *
      obtain ⟨cf, cu, cd, co, cc⟩ := c'
      obtain ⟨rf, ru, rd, ro, rc⟩ := rk
      simp only at e0 e1 e2 e3 e4 F1 r0 r1 r2 r3 r4
      have HOS := Lib.hid hos
      have HE := Lib.hid (fun wx (hx : wx.heap[w.heap.size]? = some (.cells E 31 (0, 0))) => (⟨(cell_of_row wx _ _ _ _ (0, 0) hx).trans e0, (cell_of_row wx _ _ _ _ (0, 0) hx).trans e1, (cell_of_row wx _ _ _ _ (0, 0) hx).trans e2, (cell_of_row wx _ _ _ _ (0, 0) hx).trans e3, (cell_of_row wx _ _ _ _ (0, 0) hx).trans e4⟩ : wx.cell? ⟨w.heap.size, 0, none⟩ = some (.int .u32 cf) ∧ wx.cell? ⟨w.heap.size, 1, none⟩ = some (.bool cu) ∧ wx.cell? ⟨w.heap.size, 2, none⟩ = some (.bool cd) ∧ wx.cell? ⟨w.heap.size, 3, none⟩ = some (.bool co) ∧ wx.cell? ⟨w.heap.size, 4, none⟩ = some (.bool cc)))
      have HG := Lib.hid (And.intro h0 (And.intro h1 (And.intro h2 hbw)))
      have HRC := Lib.hid (fun wx (hx : Below wr.heap.size wr wx) => (⟨(hx.cell (p := ⟨b, _, none⟩) hb).trans r0, (hx.cell (p := ⟨b, _, none⟩) hb).trans r1, (hx.cell (p := ⟨b, _, none⟩) hb).trans r2, (hx.cell (p := ⟨b, _, none⟩) hb).trans r3, (hx.cell (p := ⟨b, _, none⟩) hb).trans r4⟩ : wx.cell? ⟨b, off + k * 5, none⟩ = some (.int .u32 rf) ∧ wx.cell? ⟨b, off + k * 5 + 1, none⟩ = some (.bool ru) ∧ wx.cell? ⟨b, off + k * 5 + 2, none⟩ = some (.bool rd) ∧ wx.cell? ⟨b, off + k * 5 + 3, none⟩ = some (.bool ro) ∧ wx.cell? ⟨b, off + k * 5 + 4, none⟩ = some (.bool rc)))
      clear h0 h1 h2 hbw okr okD isD hrt okD2 hos e0 e1 e2 e3 e4 r0 r1 r2 r3 r4
      go_wp2_with fail
      refine Chain.chain (fun p wx => if p = 0 then Below wr.heap.size wr wx else (wx.heap[w.heap.size]? = some (.cells E 31 (0, 0)) ∧ (∀ j, j < wr.heap.size → j ≠ w.heap.size → wx.heap[j]? = wr.heap[j]?) ∧ Below w.heap.size w wx ∧ wr.heap.size ≤ wx.heap.size)) (fun _ _ => False) [10] (by kernel_rfl) (by kernel_rfl) (fun e a' w' hdf he => he.elim) (Below.refl _ _).drew ?_
      iterate 10
        (apply Chain.walk_quiet (by rfl) (by decide)
         (intro p wx hp hwn hx K hK
          first
            | (with_reducible show Oper.wp _ (Oper.mk _ (.load 31 _) _ _ _ _) _ _ _ _
               rcases (show p = 0 ∨ p = 1 from by have h : p ≤ 1 := hp; omega) with rfl | rfl
               case inr => exact absurd ((Eq.symm (show _ = false by kernel_rfl)).trans hwn) Bool.false_ne_true
               have hx' : Below wr.heap.size wr wx := hx
               refine wp_load_row 31 _ rfl _ rfl _ _ _ _ ((hx'.block _ (by omega)).trans HG.out.1) Try.underlying31 rfl hiD ?_
               have HX := Lib.hid hx
               clear hx hx'
               go_simp
               go_at_K
               exact hK _ HX.out)
            | (with_reducible show Oper.wp _ (Oper.mk _ (.load 24 _) _ _ _ _) _ _ _ _
               rcases (show p = 0 ∨ p = 1 from by have h : p ≤ 1 := hp; omega) with rfl | rfl
               case inr => exact absurd ((Eq.symm (show _ = false by kernel_rfl)).trans hwn) Bool.false_ne_true
               have hx' : Below wr.heap.size wr wx := hx
               obtain ⟨r0, r1, r2, r3, r4⟩ := HRC.out wx hx'
               have HX := Lib.hid hx
               clear hx hx'
               go_simp
               go_at_K
               exact hK _ HX.out)
            | (with_reducible show Oper.wp _ (Oper.mk _ (.call _) _ _ _ _) _ _ _ _
               rcases (show p = 0 ∨ p = 1 from by have h : p ≤ 1 := hp; omega) with rfl | rfl
               case inr => exact absurd ((Eq.symm (show _ = false by kernel_rfl)).trans hwn) Bool.false_ne_true
               have hx' : Below wr.heap.size wr wx := hx
               have HX := Lib.hid hx'
               clear hx hx'
               go_simp
               go_at_call 15
               refine (F1.out _).mono ?_
               rintro e x1 ⟨rfl, hb⟩
               exact hK _ (HX.out.trans (hb.mono HX.out.size)))
            | (go_simp; go_at_K; exact hK _ hx))
         exact ⟨_, rfl⟩)
      apply Chain.walk_turn 0 (by rfl) (by rfl)
      · intro wx hx K hK
        have hx' : Below wr.heap.size wr wx := hx
        refine wp_store_row 31 _ _ rfl w.heap.size E D _ rfl rfl ((hx'.block _ (by omega)).trans HG.out.1) hiE hDE h1c ?_
        exact hK _ ⟨setRow_heap wx _ _ E _ _ ((hx'.block _ (by omega)).trans HG.out.1), fun j hj hne => (setRow_other _ _ _ _ hne).trans (hx'.block j hj), below_setRow (HG.out.2.2.2.trans (hx'.mono (by omega))) (Nat.le_refl _) _, by rw [size_setRow]; exact hx'.size⟩
      · exact ⟨undef, rfl⟩
      refine Chain.walk_nil (fun x2 hx => ?_)
      replace hx : (x2.heap[w.heap.size]? = some (.cells E 31 (0, 0)) ∧ (∀ j, j < wr.heap.size → j ≠ w.heap.size → x2.heap[j]? = wr.heap[j]?) ∧ Below w.heap.size w x2 ∧ wr.heap.size ≤ x2.heap.size) := hx
      simp only [Act.put]
      obtain ⟨p0, pj, p3, p4⟩ := hx
      have p1 := (pj (w.heap.size + 1) (by omega) (by omega)).trans HG.out.2.1
      have p2 := own_of_blocks (w' := x2) HG.out.2.2.1 (fun j hj hlt => pj j hlt (by omega))
      obtain ⟨c0, c1, c2, c3, c4⟩ := HE.out x2 p0
      have HO := Lib.hid p2
      have HP := Lib.hid (And.intro p0 (And.intro p1 p3))
      have hm63 : k + 1 ≤ maxLen := by unfold maxLen; omega
      clear p0 pj p1 p2 p3 HRC F1
      have hnews := World.news_of_block (w := x2.alloc (.cells #[.int .u32 cf, .bool cu, .bool cd, .bool co, .bool cc] 24)) (heap_alloc_new x2 (.cells #[.int .u32 cf, .bool cu, .bool cd, .bool co, .bool cc] 24))
      have HN := Lib.hid hnews
      clear hnews
      go_wp2_with (at_builtin; refine wpList_append_own _ rfl (.tmp 36) (.tmp 39) 39 rfl (w.heap.size + 2) 24 i0 _ 5 8 Try.underlying39 hi0 hz0 hz1 hz2 rfl (by decide) u9 k (flat (s.outs n (l.take k))) rfl (HO.out.alloc _) ⟨x2.heap.size, 0, none⟩ 1 1 _ rfl ?hl HN.out ?h1 hm63 ?hby ?hbase ?hK)
      case h1 => exact ⟨rfl, rfl, rfl, rfl, rfl⟩
      case hby => omega
      case hbase => omega
      intro v' w' hown' hgrow _
      have hj : ∀ j, j < w.heap.size + 2 → w'.heap[j]? = x2.heap[j]? := fun j hj => (hgrow.block j (by simp; omega) (fun e => by have := HO.out.lt j e.symm; omega)).trans (Below.heap_alloc _ _ _ (by omega))
      have hbw' := (HP.out.2.2.alloc (by omega) (.cells #[.int .u32 cf, .bool cu, .bool cd, .bool co, .bool cc] 24)).grown hgrow (by simp; omega) (fun k hk => by have := HO.out.lt k hk; omega)
      have hown2 : w'.ownsRow (w.heap.size + 2) 24 5 v' (k + 1) (flat (s.outs n (l.take (k + 1)))) := by rw [HOS.out, flat_snoc]; exact hown'
      have HF := Lib.hid (And.intro ((hj _ (by omega)).trans HP.out.1) (And.intro ((hj _ (by omega)).trans HP.out.2.1) (And.intro hown2 hbw')))
      clear hj hbw' hown2 hown' hgrow c0 c1 c2 c3 c4
      go_wp2_with fail
      go_roundw
      case rel =>
        refine ⟨k + 1, by omega, by go_num, ?_, HF.out.2⟩
        rw [HEQ.out]; exact HF.out.1
      case measure => simp [intOf]; omega
    · obtain rfl : k = l.length := by omega
      rw [List.take_length] at h0 h2
      have okE := Db.ok_run (n := n) HH.out.1 l
      have hiE := infoDb (Db.size okE)
      have hZE : Z.size = (s.run n l).cells.size := by rw [hZ, Db.size okE]
      have h1c := Db.one (s.run n l)
      have hR := HR.out
      rw [show (s.run n l).agg = .agg (s.run n l).cells from rfl] at hR
      generalize (s.run n l).cells = E at *
      have HR2 := Lib.hid hR
      have HBW := Lib.hid (And.intro h2 hbw)
      clear hR okE h2 hbw
      obtain ⟨x2, hx2⟩ : ∃ x2, x2 = wr.setRow (w.heap.size + 1) E := ⟨_, rfl⟩
      have p0 : x2.heap[w.heap.size + 1]? = some (.cells E 31 (0, 0)) := by rw [hx2]; exact setRow_heap wr _ _ E _ _ h1
      have p2 := own_of_blocks (w' := x2) HBW.out.1 (fun j hj _ => by rw [hx2]; exact setRow_other _ _ _ _ (by omega))
      have p3 : Below w.heap.size w x2 := by rw [hx2]; exact below_setRow HBW.out.2 (by omega) _
      have HX2 := Lib.hid hx2
      have HP := Lib.hid (And.intro p0 (And.intro p2 p3))
      clear p0 p2 p3 hx2
      go_wp2_with (first | (with_reducible show wpList _ _ _ (Oper.mk _ (.load 31 _) _ _ _ _ :: _) _ _; refine wpList_load_row rfl 31 _ rfl _ rfl _ _ _ _ h0 Try.underlying31 rfl hiE ?_) | (with_reducible show wpList _ _ _ (Oper.mk _ (.store 31 _ _) _ _ _ _ :: _) _ _; refine wpList_store_row' rfl 31 _ _ rfl _ E Z _ rfl rfl h1 hiE hZE h1c x2 HX2 ?_))
      refine bodyPost_ret (results_row_slots Try.results19 _ _ _ _ E _ _ ?hp HP.out.1 Try.underlying31 ?hd ?hi) ?hdf ⟨u9, ?he, own_base HP.out.2.1 (by omega), HP.out.2.2⟩
      case hp => rfl
      case hd => rfl
      case hdf => rfl
      case hi => exact hiE
      case he => rw [HR2.out]; rfl
end Go.Proofs.Ytcobcefefifmcaa
