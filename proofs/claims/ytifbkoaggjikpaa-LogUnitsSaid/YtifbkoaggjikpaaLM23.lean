/- What the texts behind this one rest on: several texts in one. No statement of the seat is proved here. -/
import Derived.Test.YtifbkoaggjikpaaLM22
namespace Go.Proofs.Ytifbkoaggjikpaa
section
open Go.RowKit Lg

set_option maxRecDepth 100000 in
set_option maxHeartbeats 4000000 in
/-- Not at the end, and there is no room: a new row. -/
theorem insGrow_any (F : List Value) (x : En) (g n i c h : Nat) (cur : Array Value) (w : World) (hl : n ≤ 1000000) (hi : i < n) (hnc : n ≤ c) (hr : c < n + 1) (hg : w.heap[g]? = some (.cells cur 71 (0, 0))) (hF : cur.toList.take (n * 5) = F) (hFl : F.length = n * 5) (h1F : ∀ u ∈ F, u.oneCell' = true)
    (hh : w.heap[h]? = some (.cells x.row 71 (0, 0))) :
    Calls Try.prog 93 #[.slice (some ⟨g, 0, none⟩) n c, .int .i64 i, .slice (some ⟨h, 0, none⟩) 1 1] w fun e w' => ∃ v', e = .returned v' ∧ w'.ownsRow w.heap.size 71 5 v' (n + 1) (F.take (i * 5) ++ x.cells ++ F.drop (i * 5)) ∧ w.grownBy w' (some g) := by
  obtain ⟨i0, hi0, hz0, hz1, hz2⟩ := info_parts enInfo
  have hgl : g < w.heap.size := (Array.getElem?_eq_some_iff.1 hg).1
  have hhl : h < w.heap.size := (Array.getElem?_eq_some_iff.1 hh).1
  have hX : x.cells.length = 5 := rfl
  have hdl : (F.drop (i * 5)).length = n * 5 - i * 5 := by rw [List.length_drop, hFl]
  have hcell : ∀ j u, F[j]? = some u → w.cell? ⟨g, j, none⟩ = some u := fun j u hj => by
    rw [cell_of_row _ _ _ _ _ (0, 0) hg, ← Array.getElem?_toList]
    rw [← hF, List.getElem?_take] at hj
    split at hj
    · exact hj
    · cases hj
  have hold : (Builtin.firstCells i0.size i (.slice (some ⟨g, 0, none⟩) i c)).run Try.prog w.drew = .ok (F.take (i * 5)).toArray w.drew := by
    rw [hz1]
    exact run_firstCells_some w.drew 5 i ⟨g, 0, none⟩ i c (F.take (i * 5)) (by rw [List.length_take, hFl]; omega) (fun j v hj => by
      rw [Addr.add_lit, Nat.zero_add]
      rw [List.getElem?_take] at hj
      split at hj
      · exact hcell j v hj
      · cases hj)
  have hik : i + (n + 1 - i) = n + 1 := by omega
  have hkk : (n : Int) + 1 - (i : Int) = ((n + 1 - i : Nat) : Int) := by omega
  have hrz := fun ty => by
    have h := Lib.run_append_grow_zeros w 30 3 ty 71 i0 _ .i64 .i64 Try.underlying30 Try.underlying3 hi0 hz0 (some ⟨g, 0, none⟩) i c (F.take (i * 5)) hold (n + 1 - i) (by omega) (by omega) (by omega) (by omega) (by rw [hz2]; omega) (by rw [hz2, hik]; exact growslice_fits hr (by omega))
    rw [hik, ← hkk] at h
    exact h
  have hGn : n + 1 ≤ grownCap w (n + 1) c 71 := grownCap_ge w _ _ _
  have hGm := grownCap_le_maxLen w (n + 1) c 71 (by unfold maxLen; omega)
  generalize grownCap w (n + 1) c 71 = G at *
  have hZl : ∀ k, (Builtin.zeroCells (Value.agg #[.int .i64 0, .int .i64 0, .int .i64 0, .int .i64 0, .bool false]).cells k).toList.length = k * 5 := fun k => by rw [Array.length_toList, size_zeroCells]; rfl
  have hZ : (F.take (i * 5) ++ ((Builtin.zeroCells (Value.agg #[.int .i64 0, .int .i64 0, .int .i64 0, .int .i64 0, .bool false]).cells (n + 1 - i)).toList ++ (Builtin.zeroCells (Value.agg #[.int .i64 0, .int .i64 0, .int .i64 0, .int .i64 0, .bool false]).cells (G - (n + 1))).toList)).length = G * 5 := by
    rw [List.length_append, List.length_append, hZl, hZl, List.length_take, hFl]; omega
  have hrow : (F.take (i * 5)).toArray ++ Builtin.zeroCells (Value.agg #[.int .i64 0, .int .i64 0, .int .i64 0, .int .i64 0, .bool false]).cells (n + 1 - i) ++ Builtin.zeroCells (Value.agg #[.int .i64 0, .int .i64 0, .int .i64 0, .int .i64 0, .bool false]).cells (G - (n + 1)) = (F.take (i * 5) ++ ((Builtin.zeroCells (Value.agg #[.int .i64 0, .int .i64 0, .int .i64 0, .int .i64 0, .bool false]).cells (n + 1 - i)).toList ++ (Builtin.zeroCells (Value.agg #[.int .i64 0, .int .i64 0, .int .i64 0, .int .i64 0, .bool false]).cells (G - (n + 1))).toList)).toArray := by
    apply Array.toList_inj.1
    simp
  rw [hrow] at hrz
  generalize (Builtin.zeroCells (Value.agg #[.int .i64 0, .int .i64 0, .int .i64 0, .int .i64 0, .bool false]).cells (n + 1 - i)).toList ++ (Builtin.zeroCells (Value.agg #[.int .i64 0, .int .i64 0, .int .i64 0, .int .i64 0, .bool false]).cells (G - (n + 1))).toList = Z at *
  obtain ⟨q1, q2, q3⟩ := row_grow (X := x.cells) hFl hZ hX hi hGn
  generalize hQ : F.take (i * 5) ++ Z = Q at *
  have hg1 : (w.drew.alloc (.cells Q.toArray 71)).heap[w.heap.size]? = some (.cells Q.toArray 71 (0, 0)) := heap_alloc_new w.drew _
  have hh1 : (w.drew.alloc (.cells Q.toArray 71)).heap[h]? = some (.cells x.row 71 (0, 0)) := (Below.heap_alloc w.drew _ h hhl).trans hh
  have hgg1 : (w.drew.alloc (.cells Q.toArray 71)).heap[g]? = some (.cells cur 71 (0, 0)) := (Below.heap_alloc w.drew _ g hgl).trans hg
  have hcp1 := fun ty dc => run_copy_wide (P := Try.prog) (w.drew.alloc (.cells Q.toArray 71)) 30 30 ty 71 w.heap.size (i * 5) (n + 1 - i) dc 5 1 ⟨h, 0, none⟩ 1 1 Q.toArray 71 x.cells Try.underlying30 (by kernel_rfl) hg1 (by show min 1 (n + 1 - i) = 1; omega) rfl
    (fun j v hj => by
      rw [Addr.add_lit, cell_of_row _ _ _ _ _ (0, 0) hh1]
      simpa [En.row, En.cells] using hj) (by rw [hX]; simp [hZ]; omega) (cells_one x)
  generalize hR : Q.take (i * 5) ++ x.cells ++ Q.drop (i * 5 + x.cells.length) = R at *
  have hg2 : ((w.drew.alloc (.cells Q.toArray 71)).setRow w.heap.size R.toArray).drew.heap[w.heap.size]? = some (.cells R.toArray 71 (0, 0)) := setRow_heap _ w.heap.size Q.toArray R.toArray _ _ hg1
  have hgg2 : ((w.drew.alloc (.cells Q.toArray 71)).setRow w.heap.size R.toArray).drew.heap[g]? = some (.cells cur 71 (0, 0)) := (setRow_other _ w.heap.size g _ (by omega)).trans hgg1
  have hcp2 := fun ty dc sc => run_copy_wide (P := Try.prog) ((w.drew.alloc (.cells Q.toArray 71)).setRow w.heap.size R.toArray).drew 30 30 ty 71 w.heap.size ((i + 1) * 5) (n - i) dc 5 (n - i) ⟨g, i * 5, none⟩ (n - i) sc R.toArray 71 (F.drop (i * 5)) Try.underlying30 (by kernel_rfl) hg2 (by show min (n - i) (n - i) = n - i; omega) (by rw [hdl]; omega)
    (fun j v hj => by
      rw [Addr.add_lit, cell_of_row _ _ _ _ _ (0, 0) hgg2, ← Array.getElem?_toList]
      rw [List.getElem?_drop, ← hF, List.getElem?_take] at hj
      split at hj
      · exact hj
      · cases hj) (by rw [hdl]; simp [q1]; omega) (fun v hv => h1F v (List.mem_of_mem_drop hv))
  have HFIN := Lib.hid (And.intro (own_setRow (w := ((w.drew.alloc (.cells Q.toArray 71)).setRow w.heap.size R.toArray).drew) (base := w.heap.size) hg2 (Nat.le_refl _) hGn hGm q2 (by simp only [List.length_append, hX, hdl, List.length_take, hFl]; omega) q3)
    (grown_below (((Below.refl w.heap.size w).drew.alloc (Nat.le_refl _) (.cells Q.toArray 71)).trans ((below_set (Nat.le_refl _) R.toArray).drew.trans (below_set (Nat.le_refl _) (R.take ((i + 1) * 5) ++ F.drop (i * 5) ++ R.drop ((i + 1) * 5 + (F.drop (i * 5)).length)).toArray))) (some g)))
  generalize R.take ((i + 1) * 5) ++ F.drop (i * 5) ++ R.drop ((i + 1) * 5 + (F.drop (i * 5)).length) = S at *
  have HRZ := Lib.hid hrz
  have HCP1 := Lib.hid hcp1
  have HCP2 := Lib.hid hcp2
  clear hcp1 hcp2 hg1 hh1 hgg1 hg2 hgg2 hdl q1 q2 q3 hX hF hFl h1F hg hh hR hZ hZl hrow hQ hrz hold hcell hik hkk
  have hz1 : ¬ ((i : Int) = (n : Int)) := by omega
  have hw1 : IntKind.i64.wrap ((i : Int) + 1) = (i : Int) + 1 := IntWalk.i64_in _ (by omega)
  have hb1 : (0 : Int) ≤ (i : Int) + 1 := by omega
  have hin : i ≤ n := by omega
  have htn : ((i : Int) + 1).toNat = i + 1 := by omega
  have hG63 : G ≤ 9223372036854775807 := by unfold maxLen at hGm; omega
  have hGi : ¬ (G = i) := by omega
  have hGim : ¬ (G = i + 1) := by omega
  have hci : ¬ (c = i) := by omega
  have hb3 : (i : Int) ≤ (n : Int) := by omega
  have hlt : (c : Int) < (n : Int) + 1 := by omega
  clear hGn hGm
  go_enter Try.func93, Try.ntmps93
  go_wp2_with (first
    | (at_builtin; refine Lib.wpList_append_run _ rfl (.tmp 34) (.tmp 39) 30 3 rfl _ _ rfl rfl _ _ (HRZ.out _) ?_)
    | (refine wpList_copy_runI _ rfl (.tmp 43) (.tmp 44) 30 30 rfl _ _ rfl rfl (HCP1.out _ _) ?_))
  go_region_law (refine step_copy_runI rfl (.tmp 50) (.tmp 53) 30 30 rfl (.slice (some ⟨w.heap.size, (i + 1) * 5, none⟩) (n - i) (G - (i + 1))) (.slice (some ⟨g, i * 5, none⟩) (n - i) (c - i)) (by simp [Act.eval, Act.put]) (by simp [Act.eval, Act.put]) (HCP2.out 3 (G - (i + 1)) (c - i)) ?_)
  go_wp2
  go_ret
  exact ⟨_, rfl, HFIN.out.1, HFIN.out.2⟩
end

section
open Go.RowKit Lg

theorem step_append_runI {P : Program} {ops : Array Oper} {o : Oper} {a : Act} {w : World} {K : Act → World → Prop} {Q : Exit → Act → World → Prop} {E : Prop}
    (hg : o.guard = none) (d x : Operand) (dT sT : TypeId) (hop : o.op = Op.call { callee := Callee.builtin Builtin.append, args := #[d, x], argTypes := #[dT, sT] })
    (v u : Value) (hd : a.eval d = v) (hx : a.eval x = u) {v' : Value} {w' : World} (hr : (Builtin.append_ #[dT, sT] o.type #[v, u]).run P w = .ok v' w') (hK : K (a.put o.dst v') w') :
    if Region.wanted o (yielded ops a.tmps) = true then Oper.wp P o a w K Q else E := by
  have hw : Region.wanted o (yielded ops a.tmps) = true := by simp [Region.wanted, hg]
  rw [if_pos hw]
  unfold Oper.wp
  simp [execOp, hop, resolve, invoke, builtin, hd, hx, hr, Result.andThen]
  exact hK
def zeroE : List Value := [.int .i64 0, .int .i64 0, .int .i64 0, .int .i64 0, .bool false]
theorem run_clear_one (w : World) (ty : TypeId) (g o c : Nat) (cur : Array Value) (t : TypeId) (hg : w.heap[g]? = some (.cells cur t (0, 0))) (hfit : o + 5 ≤ cur.size) :
    (Builtin.clear_ #[30] ty #[.slice (some ⟨g, o, none⟩) 1 c]).run Try.prog w = .ok (.tuple #[]) (w.setRow g (cur.toList.take o ++ zeroE ++ cur.toList.drop (o + 5)).toArray) := by
  have hst := run_storeCells_at Try.prog g o t zeroE 0 cur w hg (by simpa [zeroE] using hfit) (by intro v hv; simp only [zeroE, List.mem_cons, List.not_mem_nil, or_false] at hv; rcases hv with rfl | rfl | rfl | rfl | rfl <;> rfl)
  have hz : (Builtin.zeroCells (Value.agg #[.int .i64 0, .int .i64 0, .int .i64 0, .int .i64 0, .bool false]).cells 1).toList = zeroE := by kernel_rfl
  simp only [Nat.add_zero] at hst
  rw [show zeroE.length = 5 from rfl] at hst
  simp [Builtin.clear_, run_underlying Try.underlying30, Try.zeroValue71, hz, hst]
/-- An entry is taken out, in place. -/
theorem row_del {cur F : List Value} {n i c : Nat} (hF : cur.take (n * 5) = F) (hFl : F.length = n * 5) (hc : cur.length = c * 5) (hi : i < n) (hnc : n ≤ c) :
    let R := cur.take (i * 5) ++ F.drop ((i + 1) * 5) ++ cur.drop (i * 5 + (F.drop ((i + 1) * 5)).length)
    let S := R.take ((n - 1) * 5) ++ zeroE ++ R.drop ((n - 1) * 5 + 5)
    R.length = c * 5 ∧ S.length = c * 5 ∧ S.take ((n - 1) * 5) = F.take (i * 5) ++ F.drop ((i + 1) * 5) := by
  intro R S
  have hd : (F.drop ((i + 1) * 5)).length = n * 5 - (i + 1) * 5 := by rw [List.length_drop, hFl]
  have hR : R.length = c * 5 := by simp only [R, List.length_append, List.length_take, List.length_drop, hc, hFl]; omega
  have hRt : R.take ((n - 1) * 5) = F.take (i * 5) ++ F.drop ((i + 1) * 5) := by
    simp only [R]
    rw [show cur.take (i * 5) = F.take (i * 5) by rw [← hF, List.take_take, Nat.min_eq_left (by omega)]]
    exact List.take_left' (by rw [List.length_append, List.length_take, hd, hFl]; omega)
  have hz : zeroE.length = 5 := rfl
  refine ⟨hR, ?_, ?_⟩
  · simp only [S, List.length_append, List.length_take, List.length_drop, hR, hz]; omega
  · simp only [S]
    rw [hRt, List.append_assoc]
    exact List.take_left' (by rw [List.length_append, List.length_take, hd, hFl]; omega)

set_option maxRecDepth 100000 in
set_option maxHeartbeats 4000000 in
theorem delete_any (base : Nat) (F : List Value) (v : Value) (n i : Nat) (w : World) (hl : n ≤ 1000000) (hi : i < n) (ho : w.ownsRow base 71 5 v n F) (h1F : ∀ u ∈ F, u.oneCell' = true) :
    Calls Try.prog 94 #[v, .int .i64 i, .int .i64 ((i : Int) + 1)] w fun e w' => ∃ v', e = .returned v' ∧ w'.ownsRow base 71 5 v' (n - 1) (F.take (i * 5) ++ F.drop ((i + 1) * 5)) ∧ w.grownBy w' v.ownBlock := by
  obtain ⟨i0, hi0, hz0, hz1, hz2⟩ := info_parts enInfo
  have hFl := ho.1
  rcases ho.2 with ⟨-, h0⟩ | ⟨g, c, cur, rfl, hb, hg, hnc, hm, hcs, hF⟩
  · omega
  clear ho
  have hdl : (F.drop ((i + 1) * 5)).length = n * 5 - (i + 1) * 5 := by rw [List.length_drop, hFl]
  obtain ⟨q1, q2, q3⟩ := row_del hF hFl (by simpa using hcs) hi hnc
  have hgd : w.drew.heap[g]? = some (.cells cur 71 (0, 0)) := hg
  have happ := fun ty (a : Addr) sc (ha : (n = i + 1) ∨ a = ⟨g, (i + 1) * 5, none⟩) => run_append_room (P := Try.prog) w.drew 30 ty 71 i0 Try.underlying30 hi0 g i c cur hgd a (n - (i + 1)) sc (F.drop ((i + 1) * 5)) (by rw [hdl, hz1]; omega)
    (fun j u hj => by
      rcases ha with ha | rfl
      · have := (List.getElem?_eq_some_iff.1 hj).1
        rw [hdl] at this; omega
      · rw [Addr.add_lit, cell_of_row _ _ _ _ _ (0, 0) hgd, ← Array.getElem?_toList]
        rw [List.getElem?_drop, ← hF, List.getElem?_take] at hj
        split at hj
        · exact hj
        · cases hj) (fun v hv => h1F v (List.mem_of_mem_drop hv)) (by omega) (by rw [hdl, hz1, hcs]; omega)
  rw [hz1] at happ
  generalize hR : cur.toList.take (i * 5) ++ F.drop ((i + 1) * 5) ++ cur.toList.drop (i * 5 + (F.drop ((i + 1) * 5)).length) = R at *
  have hin1 : i + (n - (i + 1)) = n - 1 := by omega
  rw [hin1] at happ
  have hg1 : (w.drew.setRow g R.toArray).heap[g]? = some (.cells R.toArray 71 (0, 0)) := setRow_heap w.drew g cur R.toArray _ _ hgd
  have hcl := fun ty dc => run_clear_one (w.drew.setRow g R.toArray) ty g ((n - 1) * 5) dc R.toArray _ hg1 (by simp [q1]; omega)
  have HFIN := Lib.hid (And.intro (own_setRow (w := w.drew.setRow g R.toArray) (base := base) (c := c) (n := n - 1) hg1 hb (by omega) hm q2 (by simp only [List.length_append, hdl, List.length_take, hFl]; omega) q3) (grown_trans (grown_trans (⟨rfl, rfl, rfl, Nat.le_refl _, fun _ _ _ => rfl⟩ : w.grownBy w.drew (some g)) (grownBy_setRow w.drew g R.toArray)) (grownBy_setRow _ g (R.take ((n - 1) * 5) ++ zeroE ++ R.drop ((n - 1) * 5 + 5)).toArray)))
  generalize R.take ((n - 1) * 5) ++ zeroE ++ R.drop ((n - 1) * 5 + 5) = S at *
  have HAPP := Lib.hid happ
  have HCL := Lib.hid hcl
  clear happ hg1 hgd hdl q1 q2 q3 hcs hF hFl h1F hg hR hcl
  have hz1' : ¬ ((i : Int) = (i : Int) + 1) := by omega
  have hbe : ((i : Int) == (i : Int) + 1) = false := by simp; omega
  have hb1 : (0 : Int) ≤ (i : Int) + 1 := by omega
  have hin : i ≤ n := by omega
  have hic : i ≤ c := by omega
  have htn : ((i : Int) + 1).toNat = i + 1 := by omega
  have hc63 : c ≤ 9223372036854775807 := by unfold maxLen at hm; omega
  have hb3 : (i : Int) + 1 ≤ (n : Int) := by omega
  have hb5 : (i : Int) ≤ (i : Int) + 1 := by omega
  have hb4 : ¬ (c = i) := by omega
  have hb6 : i + 1 ≤ n := by omega
  have hb7 : n - 1 ≤ n := by omega
  have hb8 : n - (n - 1) = 1 := by omega
  have hb9 : ¬ (c = n - 1) := by omega
  have hcN : ((n - 1 : Nat) : Int) ≤ (n : Int) := by omega
  by_cases hci : c = i + 1
  case neg =>
    go_enter Try.func94, Try.ntmps94
    go_wp2_with fail
    go_region_law (refine step_append_runI rfl (.tmp 22) (.tmp 25) 30 30 rfl (.slice (some ⟨g, 0, none⟩) i c) (.slice (some ⟨g, (i + 1) * 5, none⟩) (n - (i + 1)) (c - (i + 1))) (by simp [Act.eval, Act.put]) (by simp [Act.eval, Act.put]) (HAPP.out 30 _ (c - (i + 1)) (.inr rfl)) ?_)
    have hcl := HCL.out
    go_wp2
    go_ret
    exact ⟨_, rfl, HFIN.out.1, HFIN.out.2⟩
  case pos =>
    have hn1 : n = i + 1 := by omega
    have HN1 := Lib.hid hn1
    have hci1 : (c = i + 1) = True := eq_true hci
    have hci2 : (i + 1 = c) = True := eq_true hci.symm
    clear hn1 hci
    go_enter Try.func94, Try.ntmps94
    go_wp2_with fail
    go_region_law (refine step_append_runI rfl (.tmp 22) (.tmp 25) 30 30 rfl (.slice (some ⟨g, 0, none⟩) i c) (.slice (some ⟨g, 0, none⟩) (n - (i + 1)) (c - (i + 1))) (by simp [Act.eval, Act.put]) (by simp [Act.eval, Act.put]) (HAPP.out 30 _ (c - (i + 1)) (.inl HN1.out)) ?_)
    have hcl := HCL.out
    go_wp2
    go_ret
    exact ⟨_, rfl, HFIN.out.1, HFIN.out.2⟩
end
end Go.Proofs.Ytifbkoaggjikpaa
