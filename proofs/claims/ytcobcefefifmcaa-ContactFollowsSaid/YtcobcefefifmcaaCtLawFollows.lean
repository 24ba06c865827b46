/- The law ContactFollows: what has been read n times in a row counts, and a disturbance of fewer than n readings leaves no trace. No condition. -/
import Derived.Test.YtcobcefefifmcaaCtPack
namespace Go.Proofs.Ytcobcefefifmcaa
open Go.RowKit Go.ChangeShapes Go.WideShapes Go.ChangeAt

def zeros36 : List Value := (List.replicate 36 (0 : Int)).map fun k => (Value.int .i64 k)
theorem run_build_arr (ev : Operand → Value) (o : Oper) (ho : o.op = .build 29 #[]) (w : World) : (execOp ev o).run Try.prog w = .ok (.value (.agg zeros36.toArray)) w := by
  unfold execOp
  rw [ho]
  kernel_rfl
theorem wpList_build_arr_g {ops : Array Oper} {rest : List Oper} {op : Oper} {a : Act} {w : World} {Q : Exit → Act → World → Prop} (hw : Region.wanted op (yielded ops a.tmps) = true) (ho : op.op = .build 29 #[])
    (h : wpList Try.prog ops Q rest (a.put op.dst (.agg zeros36.toArray)) w) : wpList Try.prog ops Q (op :: rest) a w :=
  wpList_step fun K hK => by
    rw [if_pos hw]
    unfold Oper.wp
    rw [run_build_arr _ _ ho]
    exact hK _ _ h
theorem wpList_load_mid_g {P : Program} {ops : Array Oper} {rest : List Oper} {op : Oper} {a : Act} {w : World} {Q : Exit → Act → World → Prop} (hw : Region.wanted op (yielded ops a.tmps) = true) (ty : TypeId) (x : Operand) (ho : op.op = .load ty x)
    (b o : Nat) (hx : a.eval x = .pointer (some ⟨b, o, none⟩)) (cs : List Value) (d : TypeDesc) (hc : w.rangeAt b o cs)
    (hu : P.underlying ty = some d) (hd : d.isRow = true) (hi : (P.info? ty).map (·.size) = some cs.length)
    (h : wpList P ops Q rest (a.put op.dst (.agg cs.toArray)) w) : wpList P ops Q (op :: rest) a w :=
  wpList_step fun K hK => by rw [if_pos hw]; exact wp_load_mid ty x ho b o hx cs d hc hu hd hi (hK _ _ h)
theorem quiet_rows {w : World} {b : Nat} {z : Ct} (h : w.heap[b]? = some (.cells (Db.mk z (List.replicate 36 0)).cells 31 (0, 0))) : w.rangeAt b 5 zeros36 := fun j v hv => by
  have hj : j < 36 := by
    rcases Nat.lt_or_ge j 36 with h | h
    · exact h
    · rw [List.getElem?_eq_none (by unfold zeros36; rw [List.length_map, List.length_replicate]; exact h)] at hv; cases hv
  rw [cell_of_row _ _ _ _ _ (0, 0) h, ← hv]
  unfold Db.cells zeros36
  rw [List.getElem?_toArray, List.getElem?_append_right (by show 5 ≤ 5 + j; omega), show 5 + j - (Ct.cells z).length = j from by show 5 + j - 5 = j; omega]
theorem info36 : (Try.prog.info? 29).map (·.size) = some zeros36.length := by kernel_rfl

set_option maxHeartbeats 8000000 in
theorem lawContactFollows_walk (n : Int) (v : Value) (l : List Ct) (z : Ct) (w : World) (hn : (Lit.int .u8 n).wf = true) (hv : LV w v l) (hl : ∀ c ∈ l, c.ok) (hmax : l.length ≤ maxLen) (hz : z.ok) :
    Calls Try.prog 6 #[.int .u8 n, v, z.agg] w fun e w' => e = .returned (.bool true) ∧ Below w.heap.size w w' := by
  obtain ⟨n, rfl, hn2⟩ := u8_nat hn
  obtain ⟨i0, hi0, hz0, hz1, hz2⟩ := info_parts ctInfo
  unfold maxLen at hmax
  have HV := Lib.hid hv
  obtain ⟨A, cap, rfl, -⟩ := hv
  have FS := Lib.hid (fun wx => sane_any wx)
  by_cases hlen : 100 < l.length
  · clear HV hl
    unfold Ct.agg
    go_enter Try.func6, Try.ntmps6
    go_wp2_with fail
    refine (FS.out _).mono ?_
    rintro e w2 ⟨rfl, hb2⟩
    go_wp2_with fail
    go_ret
    exact ⟨rfl, ((Below.refl _ _).alloc (Nat.le_refl _) _).trans (hb2.mono (by simp))⟩
  · obtain ⟨q, hq⟩ : ∃ q, q = n % 16 := ⟨_, rfl⟩
    have hq1 : (n : Int).tmod 16 = (q : Int) := by rw [Int.tmod_eq_emod_of_nonneg (by omega)]; omega
    have hq2 : (n : Int) % 16 = (q : Int) := by omega
    have hq16 : q < 16 := by omega
    have hc1 : ((q + 1 : Nat) : Int) = 1 + (q : Int) := by omega
    have isB0 : Db.zero.isB (1 + (q : Int)) = true := Db.isB_zero (by omega) (by omega)
    have ok1 := Db.ok_run (n := 1 + (q : Int)) Db.zero_okD l
    have isB1 := Db.isB_run (n := 1 + (q : Int)) Db.zero_okD isB0 l
    have F1 := Lib.hid (fun wx (h : Below w.heap.size w wx) => runOk_any (1 + (q : Int)) Db.zero l _ wx Db.zero_okD hl (by omega) isB0 (HV.out.below h))
    have hqt := Db.run_quiet (m := q + 1) ok1 hz (by omega) (by rw [hc1]; exact isB1)
    have okq : (Db.mk z (List.replicate 36 0)).ok := ⟨hz, by simp⟩
    rw [hc1] at hqt
    have isB2 : (Db.mk z (List.replicate 36 0)).isB (1 + (q : Int)) = true := by
      have := Db.isB_run (n := 1 + (q : Int)) ok1 isB1 (List.replicate (q + 1) z)
      rw [hqt] at this
      exact this
    have hqs := fun y : Ct => Db.run_short (m := q + 1) (r := z) (x := y) hz (by omega) (by omega)
    rw [hc1, show q + 1 - 1 = q from by omega] at hqs
    have F3 := Lib.hid (fun (y : Ct) (hy : y.ok) o wx (h : LV wx o (List.replicate q y)) => runOk_any (1 + (q : Int)) (Db.mk z (List.replicate 36 0)) (List.replicate q y) o wx okq (fun c hc => by rw [(List.mem_replicate.1 hc).2]; exact hy) (by rw [List.length_replicate]; omega) isB2 h)
    simp only [List.length_replicate] at F3
    have F4 := Lib.hid (fun (y : Ct) (o : Value) wx (h : LV wx o [z]) => runOk_any (1 + (q : Int)) ((Db.mk z (List.replicate 36 0)).run (1 + (q : Int)) (List.replicate q y)) [z] o wx (Db.ok_run okq _) (fun c hc => by rw [List.mem_singleton.1 hc]; exact hz) (by simp) (Db.isB_run okq isB2 _) h)
    simp only [← Db.step_of, (hqs _).2] at F4
    have okR := Lib.hid (fun y : Ct => Db.ok_run (n := 1 + (q : Int)) okq (List.replicate q y))
    have HQC := Lib.hid (fun y : Ct => (hqs y).1)
    clear hqs
    obtain ⟨Sq, hSq⟩ : ∃ Sq, Sq = Db.mk z (List.replicate 36 0) := ⟨_, rfl⟩
    rw [← hSq] at okq isB2 hqt
    simp only [← hSq] at F3 F4 okR HQC
    have HQR := Lib.hid (fun wx b (h : wx.heap[b]? = some (.cells Sq.cells 31 (0, 0))) => quiet_rows (w := wx) (b := b) (z := z) (by rw [← hSq]; exact h))
    have cq0 : Sq.cells[0]? = some (.int .u32 z.fl) := by rw [hSq]; rfl
    have cq1 : Sq.cells[1]? = some (.bool z.up) := by rw [hSq]; rfl
    have cq2 : Sq.cells[2]? = some (.bool z.dn) := by rw [hSq]; rfl
    have cq3 : Sq.cells[3]? = some (.bool z.opn) := by rw [hSq]; rfl
    have cq4 : Sq.cells[4]? = some (.bool z.cls) := by rw [hSq]; rfl
    have CQ := Lib.hid (And.intro cq0 (And.intro cq1 (And.intro cq2 (And.intro cq3 cq4))))
    clear hSq cq0 cq1 cq2 cq3 cq4
    have F2 := Lib.hid (fun o wx (h : LV wx o (List.replicate (q + 1) z)) => runOk_any (1 + (q : Int)) (Db.zero.run (1 + (q : Int)) l) (List.replicate (q + 1) z) o wx ok1 (fun c hc => by rw [(List.mem_replicate.1 hc).2]; exact hz) (by rw [List.length_replicate]; omega) isB1 h)
    rw [hqt, List.length_replicate] at F2
    clear hqt isB0 isB1 hl HV hq hn hn2
    generalize Db.zero.run (1 + (q : Int)) l = S1 at *
    have hi1 := infoDb (Db.size ok1)
    have HOK := Lib.hid hz
    have hiq := infoDb (Db.size okq)
    have hbx := fun (wx : World) (h : wx.heap[w.heap.size]? = some (.cells #[.int .u32 z.fl, .bool z.up, .bool z.dn, .bool z.opn, .bool z.cls] 24 (0, 0))) => (⟨cell_of_row _ _ _ _ _ (0, 0) h, cell_of_row _ _ _ _ _ (0, 0) h, cell_of_row _ _ _ _ _ (0, 0) h, cell_of_row _ _ _ _ _ (0, 0) h, cell_of_row _ _ _ _ _ (0, 0) h⟩ : wx.cell? ⟨w.heap.size, 0, none⟩ = some (.int .u32 z.fl) ∧ wx.cell? ⟨w.heap.size, 1, none⟩ = some (.bool z.up) ∧ wx.cell? ⟨w.heap.size, 2, none⟩ = some (.bool z.dn) ∧ wx.cell? ⟨w.heap.size, 3, none⟩ = some (.bool z.opn) ∧ wx.cell? ⟨w.heap.size, 4, none⟩ = some (.bool z.cls))
    have HBX := Lib.hid hbx
    clear hz hbx
    unfold Ct.agg
    go_enter Try.func6, Try.ntmps6
    go_wp2_with (with_reducible show wpList _ _ _ (Oper.mk _ (.build 31 _) _ _ _ _ :: _) _ _; refine wpList_build_zero rfl rfl ?_)
    refine (F1.out _ (by go_grown)).mono ?_
    rintro e x1 ⟨g1, rfl, -, hb1⟩
    have B1 := Lib.hid (below_of_new (hb1.mono (by simp)))
    have hs1 : w.heap.size < x1.heap.size := by have := hb1.size; simp at this; omega
    have N1 := Lib.hid ((hb1.block w.heap.size (by simp)).trans (heap_alloc_new _ _))
    clear hb1
    obtain ⟨W1, hW1⟩ : ∃ W1, W1 = x1.alloc (.cells S1.cells 31) := ⟨_, rfl⟩
    have hsW1 : x1.heap.size < W1.heap.size := by rw [hW1]; simp
    have G1 : Hid (W1.heap[w.heap.size]? = some (.cells #[.int .u32 z.fl, .bool z.up, .bool z.dn, .bool z.opn, .bool z.cls] 24 (0, 0)) ∧ W1.heap[x1.heap.size]? = some (.cells S1.cells 31 (0, 0)) ∧ Below w.heap.size w W1) := by
      show _ ∧ _ ∧ _
      rw [hW1]
      exact ⟨(Below.heap_alloc _ _ _ (by omega)).trans N1.out, heap_alloc_new _ _, B1.out.alloc (by omega) _⟩
    have HW1 := Lib.hid hW1
    clear hW1 F1 N1 B1
    go_wp2_with (refine wpList_new_db' rfl rfl rfl _ _ rfl S1 ok1 rfl rfl W1 HW1 ?_)
    go_loopw [11, 13] (fun o v wr => ∃ k : Nat, k ≤ q + 1 ∧ v = .int .i64 k ∧ wr.ownsRow W1.heap.size 24 5 o k (flat (List.replicate k z)) ∧ Below W1.heap.size W1 wr) (fun _ v _ => (q + 1) - (intOf v).toNat)
    case atStart => exact ⟨0, Nat.zero_le _, rfl, World.ownsRow_nil _ _ _ _, Below.refl _ _⟩
    case round =>
      obtain ⟨k, hk, rfl, hown, hbw⟩ := hrel
      have hsr := hbw.size
      have N2 := (hbw.block w.heap.size (by omega)).trans G1.out.1
      obtain ⟨c0, c1, c2, c3, c4⟩ := HBX.out wr N2
      have HO := Lib.hid hown
      have HB := Lib.hid hbw
      clear N2 hown hbw
      by_cases hlt : k < q + 1
      · have hm63 : k + 1 ≤ maxLen := by unfold maxLen; omega
        have HN := Lib.hid (World.news_of_block (w := wr.alloc (.cells #[.int .u32 z.fl, .bool z.up, .bool z.dn, .bool z.opn, .bool z.cls] 24)) (heap_alloc_new wr (.cells #[.int .u32 z.fl, .bool z.up, .bool z.dn, .bool z.opn, .bool z.cls] 24)))
        go_wp2_with (at_builtin; refine wpList_append_own _ rfl (.tmp 47) (.tmp 49) 39 rfl W1.heap.size 24 i0 _ 5 8 Try.underlying39 hi0 hz0 hz1 hz2 rfl (by decide) u11 k (flat (List.replicate k z)) rfl (HO.out.alloc _) ⟨wr.heap.size, 0, none⟩ 1 1 _ rfl ?hl HN.out ?h1 hm63 ?hby ?hbase ?hK)
        case h1 => exact ⟨rfl, rfl, rfl, rfl, rfl⟩
        case hby => omega
        case hbase => first | omega | (simp; omega)
        intro v' w' hown' hgrow _
        have hbw' := (HB.out.alloc hsr (.cells #[.int .u32 z.fl, .bool z.up, .bool z.dn, .bool z.opn, .bool z.cls] 24)).grown hgrow (by simp; omega) (fun k hk => by have := HO.out.lt k hk; omega)
        have hown2 : w'.ownsRow W1.heap.size 24 5 v' (k + 1) (flat (List.replicate (k + 1) z)) := by rw [List.replicate_succ', flat_snoc]; exact hown'
        have HF := Lib.hid (And.intro hown2 hbw')
        clear hbw' hown2 hown' hgrow c0 c1 c2 c3 c4
        go_wp2_with fail
        go_roundw
        case rel => exact ⟨k + 1, by omega, by go_num, HF.out⟩
        case measure => simp [intOf]; omega
      · obtain rfl : k = q + 1 := by omega
        obtain ⟨-, hlv⟩ := LV.of_own HO.out
        have q1 := (HB.out.block x1.heap.size (by omega)).trans G1.out.2.1
        have HLV := Lib.hid hlv
        have N2 := Lib.hid ((HB.out.block w.heap.size (by omega)).trans G1.out.1)
        have BW2 := Lib.hid (G1.out.2.2.trans (HB.out.mono (by omega)))
        clear hlv HO HB c0 c1 c2 c3 c4
        go_wp2_with (with_reducible show wpList _ _ _ (Oper.mk _ (.load 31 _) _ _ _ _ :: _) _ _; refine wpList_load_row rfl 31 _ rfl _ rfl _ _ _ _ (q1) Try.underlying31 rfl hi1 ?_)
        refine (F2.out _ _ HLV.out).mono ?_
        rintro e x2 ⟨g2, rfl, -, hb2⟩
        have hs2 := hb2.size
        have N3 := Lib.hid ((hb2.block w.heap.size (by omega)).trans N2.out)
        have BW3 := Lib.hid (BW2.out.trans (hb2.mono (by omega)))
        clear hb2 q1 N2 BW2 HLV F2
        obtain ⟨W2, hW2⟩ : ∃ W2, W2 = x2.alloc (.cells Sq.cells 31) := ⟨_, rfl⟩
        have hsW2 : x2.heap.size < W2.heap.size := by rw [hW2]; simp
        have q2 : W2.heap[x2.heap.size]? = some (.cells Sq.cells 31 (0, 0)) := by rw [hW2]; exact heap_alloc_new _ _
        have n2 : W2.heap[w.heap.size]? = some (.cells #[.int .u32 z.fl, .bool z.up, .bool z.dn, .bool z.opn, .bool z.cls] 24 (0, 0)) := by rw [hW2]; exact (Below.heap_alloc _ _ _ (by omega)).trans N3.out
        have BW4 : Hid (Below w.heap.size w W2) := by show Below _ _ _; rw [hW2]; exact BW3.out.alloc (by omega) _
        have HW2 := Lib.hid hW2
        obtain ⟨c0, c1, c2, c3, c4⟩ := HBX.out W2 n2
        have t0 : W2.cell? ⟨x2.heap.size, 0, none⟩ = some (.int .u32 z.fl) := (cell_of_row _ _ _ _ _ (0, 0) q2).trans CQ.out.1
        have t1 : W2.cell? ⟨x2.heap.size, 1, none⟩ = some (.bool z.up) := (cell_of_row _ _ _ _ _ (0, 0) q2).trans CQ.out.2.1
        have t2 : W2.cell? ⟨x2.heap.size, 2, none⟩ = some (.bool z.dn) := (cell_of_row _ _ _ _ _ (0, 0) q2).trans CQ.out.2.2.1
        have t3 : W2.cell? ⟨x2.heap.size, 3, none⟩ = some (.bool z.opn) := (cell_of_row _ _ _ _ _ (0, 0) q2).trans CQ.out.2.2.2.1
        have t4 : W2.cell? ⟨x2.heap.size, 4, none⟩ = some (.bool z.cls) := (cell_of_row _ _ _ _ _ (0, 0) q2).trans CQ.out.2.2.2.2
        have hr36 := HQR.out _ _ q2
        have hi36 := info36
        have hneq : ∀ wx, (binOp .neq 29 (.agg zeros36.toArray) (.agg zeros36.toArray)).run Try.prog wx = .ok (.bool false) wx := fun wx => neqArr (List.replicate 36 0) (by simp) wx
        have Q2 := Lib.hid (And.intro q2 n2)
        clear hW2 q2 n2 N3 BW3
        go_wp2_with (first | (refine wpList_new_db' rfl rfl rfl _ _ rfl Sq okq rfl rfl W2 HW2 ?_) | (with_reducible show wpList _ _ _ (Oper.mk _ (.load 29 _) _ _ _ _ :: _) _ _; refine wpList_load_mid_g rfl 29 _ rfl _ _ rfl _ _ hr36 Try.underlying29 rfl hi36 ?_) | (with_reducible show wpList _ _ _ (Oper.mk _ (.build 29 _) _ _ _ _ :: _) _ _; refine wpList_build_arr_g rfl rfl ?_))
        clear t0 t1 t2 t3 t4 hr36 hi36 hneq
        have BW5 := Lib.hid BW4.out
        have hyok : (Ct.mk (z.fl / 2) (!z.up) false z.cls false).ok := Nat.lt_of_le_of_lt (Nat.div_le_self _ _) HOK.out
        obtain ⟨y, hy⟩ : ∃ y, y = Ct.mk (z.fl / 2) (!z.up) false z.cls false := ⟨_, rfl⟩
        rw [← hy] at hyok
        have hyc : y.cells = [.int .u32 ((z.fl : Int) / 2), .bool (!z.up), .bool false, .bool z.cls, .bool false] := by rw [hy]; rfl
        have HYC := Lib.hid hyc
        clear hy hyc
        clear c0 c1 c2 c3 c4
        go_loopw [12, 17] (fun o v wr => ∃ k : Nat, k ≤ q ∧ v = .int .i64 ((k : Int) + 1) ∧ wr.ownsRow W2.heap.size 24 5 o k (flat (List.replicate k y)) ∧ Below W2.heap.size W2 wr) (fun _ v _ => (q + 2) - (intOf v).toNat)
        case atStart => exact ⟨0, Nat.zero_le _, rfl, World.ownsRow_nil _ _ _ _, Below.refl _ _⟩
        case round =>
          obtain ⟨k, hk, rfl, hown, hbw⟩ := hrel
          have hsr2 := hbw.size
          have N4 := (hbw.block w.heap.size (by omega)).trans Q2.out.2
          obtain ⟨c0, c1, c2, c3, c4⟩ := HBX.out _ N4
          have HO := Lib.hid hown
          have HB := Lib.hid hbw
          clear N4 hown hbw
          by_cases hlt : k < q
          · have hm63 : k + 1 ≤ maxLen := by unfold maxLen; omega
            go_wp2_with (at_builtin; refine wpList_append_own _ rfl (.tmp 78) (.tmp 88) 39 rfl W2.heap.size 24 i0 _ 5 8 Try.underlying39 hi0 hz0 hz1 hz2 rfl (by decide) u12 k (flat (List.replicate k y)) rfl (HO.out.alloc _) ⟨wr.heap.size, 0, none⟩ 1 1 _ rfl ?gl (World.news_of_block (heap_alloc_new _ _)) ?gh1 hm63 ?gby ?gbase ?gK)
            case gh1 => exact ⟨rfl, rfl, rfl, rfl, rfl⟩
            case gby => omega
            case gbase => first | omega | (simp; omega)
            intro v' w' hown' hgrow _
            have hbw' := (HB.out.alloc hsr2 (.cells #[.int .u32 ((z.fl : Int) / 2), .bool (!z.up), .bool false, .bool z.cls, .bool false] 24)).grown hgrow (by simp; omega) (fun k hk => by have := HO.out.lt k hk; omega)
            have hown2 : w'.ownsRow W2.heap.size 24 5 v' (k + 1) (flat (List.replicate (k + 1) y)) := by rw [List.replicate_succ', flat_snoc, HYC.out]; exact hown'
            have HF := Lib.hid (And.intro hown2 hbw')
            clear hbw' hown2 hown' hgrow c0 c1 c2 c3 c4
            go_wp2_with fail
            go_roundw
            case rel => exact ⟨k + 1, by omega, congrArg (Value.int .i64) (by omega), HF.out⟩
            case measure => simp [intOf]; omega
          · obtain rfl : k = q := by omega
            obtain ⟨-, A2, cap2, hu, hlat⟩ := LV.of_own HO.out
            have hlv : LV wr u12 (List.replicate k y) := ⟨A2, cap2, hu, hlat⟩
            rw [List.length_replicate] at hu
            have F3y := F3.out y hyok u12 wr hlv
            have F4y := F4.out y
            have ok3 := okR.out y
            have hc3 := HQC.out y
            generalize Sq.run (1 + (k : Int)) (List.replicate k y) = S3 at F3y F4y ok3 hc3
            subst hu
            have q3 := (HB.out.block x2.heap.size (by omega)).trans Q2.out.1
            have N4 := Lib.hid ((HB.out.block w.heap.size (by omega)).trans Q2.out.2)
            have BW6 := Lib.hid (BW5.out.trans (HB.out.mono (by omega)))
            have F3Y := Lib.hid F3y
            have F4Y := Lib.hid F4y
            have HC3 := Lib.hid hc3
            have hx2r : x2.heap.size < wr.heap.size := by omega
            clear hlv hlat HO HB c0 c1 c2 c3 c4 F3y F4y hc3
            go_wp2_with (with_reducible show wpList _ _ _ (Oper.mk _ (.load 31 _) _ _ _ _ :: _) _ _; refine wpList_load_row rfl 31 _ rfl _ rfl _ _ _ _ (q3) Try.underlying31 rfl hiq ?_)
            refine F3Y.out.mono ?_
            rintro e x4 ⟨g4, rfl, -, hb4⟩
            have hs4 := hb4.size
            have N5 := Lib.hid ((hb4.block w.heap.size (by omega)).trans N4.out)
            have M5 := Lib.hid ((hb4.block x2.heap.size (by omega)).trans q3)
            have BW7 := Lib.hid (BW6.out.trans (hb4.mono (by omega)))
            clear hb4 q3 N4 BW6 F3Y F3
            obtain ⟨W3, hW3⟩ : ∃ W3, W3 = x4.alloc (.cells S3.cells 31) := ⟨_, rfl⟩
            have hsW3 : x4.heap.size < W3.heap.size := by rw [hW3]; simp
            have q4 : W3.heap[x4.heap.size]? = some (.cells S3.cells 31 (0, 0)) := by rw [hW3]; exact heap_alloc_new _ _
            have n4 : W3.heap[w.heap.size]? = some (.cells #[.int .u32 z.fl, .bool z.up, .bool z.dn, .bool z.opn, .bool z.cls] 24 (0, 0)) := by rw [hW3]; exact (Below.heap_alloc _ _ _ (by omega)).trans N5.out
            have m4 : W3.heap[x2.heap.size]? = some (.cells Sq.cells 31 (0, 0)) := by rw [hW3]; exact (Below.heap_alloc _ _ _ (by omega)).trans M5.out
            have BW8 : Hid (Below w.heap.size w W3) := by show Below _ _ _; rw [hW3]; exact BW7.out.alloc (by omega) _
            have HW3 := Lib.hid hW3
            obtain ⟨c0, c1, c2, c3, c4⟩ := HBX.out W3 n4
            have e0 := Db.cg0 S3
            have e1 := Db.cg1 S3
            have e2 := Db.cg2 S3
            have e3 := Db.cg3 S3
            have e4 := Db.cg4 S3
            rw [HC3.out] at e0 e1 e2 e3 e4
            have t0 : W3.cell? ⟨x4.heap.size, 0, none⟩ = some (.int .u32 z.fl) := (cell_of_row _ _ _ _ _ (0, 0) q4).trans e0
            have t1 : W3.cell? ⟨x4.heap.size, 1, none⟩ = some (.bool z.up) := (cell_of_row _ _ _ _ _ (0, 0) q4).trans e1
            have t2 : W3.cell? ⟨x4.heap.size, 2, none⟩ = some (.bool z.dn) := (cell_of_row _ _ _ _ _ (0, 0) q4).trans e2
            have t3 : W3.cell? ⟨x4.heap.size, 3, none⟩ = some (.bool z.opn) := (cell_of_row _ _ _ _ _ (0, 0) q4).trans e3
            have t4 : W3.cell? ⟨x4.heap.size, 4, none⟩ = some (.bool z.cls) := (cell_of_row _ _ _ _ _ (0, 0) q4).trans e4
            have hi3 := infoDb (Db.size ok3)
            have M6 := Lib.hid m4
            have hwW3 : w.heap.size < W3.heap.size := by omega
            clear e0 e1 e2 e3 e4 hW3 n4 m4 N5 M5 BW7
            go_wp2_with (first | (refine wpList_new_db' rfl rfl rfl _ _ rfl S3 ok3 rfl rfl W3 HW3 ?_) | (with_reducible show wpList _ _ _ (Oper.mk _ (.load 31 _) _ _ _ _ :: _) _ _; refine wpList_load_row rfl 31 _ rfl _ rfl _ _ _ _ (q4) Try.underlying31 rfl hi3 ?_))
            refine (F4Y.out _ _ (LV_row (l := [z]) (heap_alloc_new W3 _))).mono ?_
            rintro e x5 ⟨g5, rfl, -, hb5⟩
            have hs5 : W3.heap.size < x5.heap.size := by have := hb5.size; simp at this; omega
            have M7 := Lib.hid ((hb5.block x2.heap.size (by simp; omega)).trans ((Below.heap_alloc _ _ _ (by omega)).trans M6.out))
            have BW9 := Lib.hid (BW8.out.trans ((below_of_new (hb5.mono (by simp))).mono (by omega)))
            clear hb5 c0 c1 c2 c3 c4 t0 t1 t2 t3 t4 q4 M6 BW8 F4Y F4
            obtain ⟨W4, hW4⟩ : ∃ W4, W4 = x5.alloc (.cells Sq.cells 31) := ⟨_, rfl⟩
            have q5 : W4.heap[x5.heap.size]? = some (.cells Sq.cells 31 (0, 0)) := by rw [hW4]; exact heap_alloc_new _ _
            have q6 : W4.heap[x2.heap.size]? = some (.cells Sq.cells 31 (0, 0)) := by rw [hW4]; exact (Below.heap_alloc _ _ _ (by omega)).trans M7.out
            have BW10 : Hid (Below w.heap.size w W4) := by show Below _ _ _; rw [hW4]; exact BW9.out.alloc (by omega) _
            have HW4 := Lib.hid hW4
            have heq := fun wx => eqlDb Sq okq wx
            clear hW4 M7 BW9
            go_wp2_with (first | (refine wpList_new_db' rfl rfl rfl _ _ rfl Sq okq rfl rfl W4 HW4 ?_) | (with_reducible show wpList _ _ _ (Oper.mk _ (.load 31 _) _ _ _ _ :: _) _ _; refine wpList_load_row_g rfl 31 _ rfl _ rfl _ _ _ _ (q5) Try.underlying31 rfl hiq ?_) | (with_reducible show wpList _ _ _ (Oper.mk _ (.load 31 _) _ _ _ _ :: _) _ _; refine wpList_load_row_g rfl 31 _ rfl _ rfl _ _ _ _ (q6) Try.underlying31 rfl hiq ?_))
            refine (FS.out _).mono ?_
            rintro e x6 ⟨rfl, hb6⟩
            have BW11 := Lib.hid (BW10.out.trans (hb6.mono BW10.out.size))
            clear hb6
            go_wp2_with fail
            go_ret
            exact ⟨rfl, BW11.out⟩

set_option maxRecDepth 100000 in
theorem lawContactFollows_lifted (os : Os) (started : os.Started) (H : Type) (enc : TypeId × Value → H) :
    ReturnsInHanded {} Try.checked os 6 .any (Rows.contactFollowsSpec.pre6 enc Try.prog Try.f6 Rows.contactFollowsRow.domain false) (Rows.contactFollowsSpec.post enc Try.prog Try.f6 false true false false) := by
  refine returnsInHanded_of_change (C := Try.checked) own started (by kernel_rfl) Try.func6
    (ChangeSpec.witness6 (enc := enc) (C := Try.checked) false ⟨#[], #[.int .u8 0, .slice none 0 0, .agg #[.int .u32 0, .bool false, .bool false, .bool false, .bool false]], []⟩ 8 (by kernel_rfl) (by kernel_rfl) (by kernel_rfl) (by kernel_rfl)) ?_
  intro W base args ds gs before hval0 hW hcnd _
  have hval : ∀ (j : Nat) t v, Try.f6.params[j]? = some t → args[j]? = some v → Value.okWide Try.prog W .any base t v := hval0
  have hW' := hW
  obtain ⟨p, q, hA0, hV, rfl, hfz, hnd⟩ := hW
  have hA : DataW.TrodAll enc Try.prog W 0 (fun _ => true) true Try.f6.params.toList args.toList ds p := hA0
  rw [Try.params6] at hA hval
  obtain ⟨v0, vs0, d0, ds0, p0, q0, hargs, rfl, rfl, h0, r0⟩ := trodAll_cons hA
  obtain ⟨v1, vs1, d1, ds1, p1, q1, rfl, rfl, rfl, h1, r1⟩ := trodAll_cons r0
  obtain ⟨v2, vs2, d2, ds2, p2, q2, rfl, rfl, rfl, h2, r2⟩ := trodAll_cons r1
  obtain ⟨rfl, rfl, rfl⟩ := trodAll_nil r2
  obtain rfl : args = #[v0, v1, v2] := by cases args; simp_all
  obtain ⟨rfl, rfl⟩ := trodVars_none hV
  obtain ⟨x0, rfl, rfl, rfl, g0⟩ := open_int Try.underlying5 (hval 0 5 v0 rfl rfl) h0
  have k1 := h1
  have lt1 : ∀ x ∈ p1, x.block < W.heap.size := by obtain ⟨m, hm⟩ := k1; exact DataW.trod_lt m _ _ _ hm
  obtain ⟨a1, l1, c1, rfl⟩ := okWide_slice Try.underlying39 (hval 1 39 v1 rfl rfl)
  obtain ⟨fuel1, hf1⟩ := h1
  obtain ⟨x1, g1, m1, n1⟩ := open_cts hf1
  have k2 := h2
  have lt2 : ∀ x ∈ p2, x.block < W.heap.size := by obtain ⟨m, hm⟩ := k2; exact DataW.trod_lt m _ _ _ hm
  obtain ⟨x2, rfl, g2⟩ := open_ct (hval 2 24 v2 rfl rfl) h2
  clear hA0 hval0
  refine (lawContactFollows_walk x0 _ x1 x2 W g0 g1 m1 n1 g2).mono fun e W' ⟨he, bel⟩ => ?_
  subst he
  exact ⟨_, rfl, _, _, _, [], _, [], hW', trodAll_mk1 (shut_bool Try.underlying4 _), (trodAll_cons_mk (shut_int Try.underlying5 g0) (trodAll_cons_mk (Below.trod laidOut (by kernel_rfl) (of_decide_eq_true (by kernel_rfl)) k1 bel lt1) (trodAll_cons_mk (Below.trod laidOut (by kernel_rfl) (of_decide_eq_true (by kernel_rfl)) k2 bel lt2) trodAll_mk0))), rfl, bel.frame _, fun h => by cases h⟩

theorem lawContactFollows_over : Rows.contactFollowsRow.holds Try.pinned (OpenSpec.ofChange Rows.contactFollowsSpec) :=
  OpenClaim.holds_of_wide 6 Try.f6 rfl rfl rfl rfl rfl rfl rfl ⟨rfl, rfl, rfl, rfl, rfl⟩ rfl rfl rfl rfl rfl (by kernel_rfl) Try.func6 (by kernel_rfl)
    (of_decide_eq_true (by kernel_rfl)) (by unfold Func.isWrapper; first | (rw [if_pos (by decide +kernel)]; kernel_rfl) | (rw [if_neg (by decide +kernel)]; exact ⟨rfl, rfl⟩))
    (fun os started H enc _ => lawContactFollows_lifted os started H enc)

theorem contactFollows_holds : Rows.ContactFollowsSaid := lawContactFollows_over
#print axioms contactFollows_holds

end Go.Proofs.Ytcobcefefifmcaa
