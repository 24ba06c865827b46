/- What the texts behind this one rest on: one text. No statement of the seat is proved here. -/
import Derived.Test.YtifbkoaggjikpaaLM21
namespace Go.Proofs.Ytifbkoaggjikpaa
section
open Go.RowKit Lg

def En.row (e : En) : Array Value := #[.int .i64 e.f, .int .i64 e.d, .int .i64 e.car, .int .i64 e.mv, .bool e.md]
theorem flatE_take : ∀ (l : List En) (i : Nat), flatE (l.take i) = (flatE l).take (i * 5)
  | [], i => by simp [flatE]
  | c :: l, 0 => by simp [flatE]
  | c :: l, i + 1 => by
    rw [List.take_succ_cons, flatE_cons, flatE_cons, flatE_take l i, show (i + 1) * 5 = c.cells.length + i * 5 by show _ = 5 + _; omega, List.take_length_add_append]
theorem flatE_drop : ∀ (l : List En) (i : Nat), flatE (l.drop i) = (flatE l).drop (i * 5)
  | [], i => by simp [flatE]
  | c :: l, 0 => by simp
  | c :: l, i + 1 => by
    rw [List.drop_succ_cons, flatE_cons, flatE_drop l i, show (i + 1) * 5 = c.cells.length + i * 5 by show _ = 5 + _; omega, List.drop_length_add_append]
theorem flatE_ins (l : List En) (x : En) (i : Nat) : flatE (l.take i ++ x :: l.drop i) = (flatE l).take (i * 5) ++ x.cells ++ (flatE l).drop (i * 5) := by
  rw [flatE_append, flatE_cons, flatE_take, flatE_drop, List.append_assoc]
/-- An entry is put in, in place: what is behind it is moved on, then it is laid. -/
theorem row_shift {cur F X : List Value} {n i c : Nat} (hF : cur.take (n * 5) = F) (hFl : F.length = n * 5) (hc : cur.length = c * 5) (hX : X.length = 5) (hi : i < n) (hr : n + 1 ≤ c) :
    let R := cur.take ((i + 1) * 5) ++ F.drop (i * 5) ++ cur.drop ((i + 1) * 5 + (F.drop (i * 5)).length)
    let S := R.take (i * 5) ++ X ++ R.drop (i * 5 + X.length)
    R.length = c * 5 ∧ S.length = c * 5 ∧ S.take ((n + 1) * 5) = F.take (i * 5) ++ X ++ F.drop (i * 5) := by
  intro R S
  have hd : (F.drop (i * 5)).length = n * 5 - i * 5 := by rw [List.length_drop, hFl]
  have hR : R.length = c * 5 := by simp only [R, List.length_append, List.length_take, List.length_drop, hc, hFl]; omega
  have hRt : R.take (i * 5) = F.take (i * 5) := by
    simp only [R]
    rw [List.append_assoc, List.take_append_of_le_length (by rw [List.length_take, hc]; omega), List.take_take, Nat.min_eq_left (by omega), ← hF, List.take_take, Nat.min_eq_left (by omega)]
  have hRd : R.drop (i * 5 + X.length) = F.drop (i * 5) ++ cur.drop ((i + 1) * 5 + (F.drop (i * 5)).length) := by
    have h5 : i * 5 + X.length = (cur.take ((i + 1) * 5)).length := by rw [List.length_take, hc, hX]; omega
    simp only [R]
    rw [List.append_assoc, h5, List.drop_left]
  refine ⟨hR, ?_, ?_⟩
  · simp only [S, List.length_append, List.length_take, List.length_drop, hR, hX]; omega
  · simp only [S]
    rw [hRt, hRd, ← List.append_assoc]
    exact List.take_left' (by rw [List.length_append, List.length_append, List.length_take, hX, hd, hFl]; omega)
/-- An entry is put in, in a new row: it is laid, then what is behind it. -/
theorem row_grow {Z F X : List Value} {n i c : Nat} (hF : F.length = n * 5) (hZ : (F.take (i * 5) ++ Z).length = c * 5) (hX : X.length = 5) (hi : i < n) (hr : n + 1 ≤ c) :
    let R := (F.take (i * 5) ++ Z).take (i * 5) ++ X ++ (F.take (i * 5) ++ Z).drop (i * 5 + X.length)
    let S := R.take ((i + 1) * 5) ++ F.drop (i * 5) ++ R.drop ((i + 1) * 5 + (F.drop (i * 5)).length)
    R.length = c * 5 ∧ S.length = c * 5 ∧ S.take ((n + 1) * 5) = F.take (i * 5) ++ X ++ F.drop (i * 5) := by
  intro R S
  have hd : (F.drop (i * 5)).length = n * 5 - i * 5 := by rw [List.length_drop, hF]
  have ht : (F.take (i * 5)).length = i * 5 := by rw [List.length_take, hF]; omega
  have hR : R.length = c * 5 := by simp only [R, List.length_append, List.length_take, List.length_drop, hX] at hZ ⊢; omega
  have hRt : R.take ((i + 1) * 5) = F.take (i * 5) ++ X := by
    simp only [R]
    rw [List.take_left' ht, List.take_left' (by rw [List.length_append, ht, hX]; omega)]
  refine ⟨hR, ?_, ?_⟩
  · simp only [S, List.length_append, List.length_take, List.length_drop, hR, hd]; omega
  · simp only [S]
    rw [hRt]
    exact List.take_left' (by rw [List.length_append, List.length_append, ht, hX, hd]; omega)
theorem cells_one (x : En) : ∀ u ∈ x.cells, u.oneCell' = true := by
  intro u h
  simp only [En.cells, List.mem_cons, List.not_mem_nil, or_false] at h
  rcases h with rfl | rfl | rfl | rfl | rfl <;> rfl
/-- A row of the call's own, written anew. -/
theorem own_setRow {w : World} {base g n c : Nat} {cur : Array Value} {e : TypeId} {S F : List Value} (hg : w.heap[g]? = some (.cells cur e (0, 0))) (hb : base ≤ g) (hn : n ≤ c) (hm : c ≤ maxLen) (hl : S.length = c * 5) (hF : F.length = n * 5) (ht : S.take (n * 5) = F) :
    (w.setRow g S.toArray).ownsRow base e 5 (.slice (some ⟨g, 0, none⟩) n c) n F :=
  ⟨hF, .inr ⟨g, c, _, rfl, hb, setRow_heap w g cur _ e _ hg, hn, hm, by simpa using hl, by simpa using ht⟩⟩

set_option maxRecDepth 100000 in
set_option maxHeartbeats 4000000 in
/-- At the end. -/
theorem insEnd_any (base : Nat) (xs : List Value) (x : En) (v : Value) (n h : Nat) (w : World) (hl : n ≤ 1000000) (ho : w.ownsRow base 71 5 v n xs) (hh : w.heap[h]? = some (.cells x.row 71 (0, 0))) (hbase : base ≤ w.heap.size) :
    Calls Try.prog 93 #[v, .int .i64 n, .slice (some ⟨h, 0, none⟩) 1 1] w fun e w' => ∃ v', e = .returned v' ∧ w'.ownsRow base 71 5 v' (n + 1) (xs ++ x.cells) ∧ w.grownBy w' v.ownBlock := by
  obtain ⟨i0, hi0, hz0, hz1, hz2⟩ := info_parts enInfo
  have HC := Lib.hid (show ∀ j u, x.cells[j]? = some u → w.cell? ((⟨h, 0, none⟩ : Addr).add j) = some u from fun j u hu => by
    rw [Addr.add_lit, cell_of_row _ _ _ _ _ (0, 0) hh]
    simpa [En.row, En.cells] using hu)
  have H1 := Lib.hid (cells_one x)
  clear hh
  have hm63 : n + 1 ≤ maxLen := by unfold maxLen; omega
  have HO2 := Lib.hid ho
  rcases ho.2 with ⟨rfl, rfl⟩ | ⟨g, c, cur, rfl, -, -, hnc, hcm, -⟩
  · clear ho
    go_enter Try.func93, Try.ntmps93
    go_wp2_with (at_builtin; refine wpList_append_own _ rfl (.tmp 23) (.tmp 24) 30 rfl base 71 i0 _ 5 40 Try.underlying30 hi0 hz0 hz1 hz2 rfl (by decide) (.slice none 0 0) 0 xs rfl HO2.out ⟨h, 0, none⟩ 1 1 x.cells rfl rfl HC.out H1.out hm63 ?hby1 ?hbase1 ?hK1)
    case hby1 => omega
    case hbase1 => exact hbase
    intro v' w' hown' hgrow _
    have HF := Lib.hid (And.intro hown' hgrow)
    clear hown' hgrow
    go_wp2
    go_ret
    exact ⟨_, rfl, HF.out.1, HF.out.2⟩
  clear ho
  unfold maxLen at hcm
  by_cases hcn : n = c
  · obtain rfl := hcn
    go_enter Try.func93, Try.ntmps93
    go_wp2_with (at_builtin; refine wpList_append_own _ rfl (.tmp 23) (.tmp 24) 30 rfl base 71 i0 _ 5 40 Try.underlying30 hi0 hz0 hz1 hz2 rfl (by decide) (.slice (some ⟨g, 0, none⟩) n n) n xs rfl HO2.out ⟨h, 0, none⟩ 1 1 x.cells rfl rfl HC.out H1.out hm63 ?hby2 ?hbase2 ?hK2)
    case hby2 => omega
    case hbase2 => exact hbase
    intro v' w' hown' hgrow _
    have HF := Lib.hid (And.intro hown' hgrow)
    clear hown' hgrow
    go_wp2
    go_ret
    exact ⟨_, rfl, HF.out.1, HF.out.2⟩
  · have hcn2 : ¬ c = n := fun e => hcn e.symm
    go_enter Try.func93, Try.ntmps93
    go_wp2_with (at_builtin; refine wpList_append_own _ rfl (.tmp 23) (.tmp 24) 30 rfl base 71 i0 _ 5 40 Try.underlying30 hi0 hz0 hz1 hz2 rfl (by decide) (.slice (some ⟨g, 0, none⟩) n c) n xs rfl HO2.out ⟨h, 0, none⟩ 1 1 x.cells rfl rfl HC.out H1.out hm63 ?hby3 ?hbase3 ?hK3)
    case hby3 => omega
    case hbase3 => exact hbase
    intro v' w' hown' hgrow _
    have HF := Lib.hid (And.intro hown' hgrow)
    clear hown' hgrow
    go_wp2
    go_ret
    exact ⟨_, rfl, HF.out.1, HF.out.2⟩

set_option maxRecDepth 100000 in
set_option maxHeartbeats 4000000 in
/-- Not at the end, and there is room: in place. -/
theorem insShift_any (base : Nat) (F : List Value) (x : En) (g n i c h : Nat) (cur : Array Value) (w : World) (hl : n ≤ 1000000) (hi : i < n) (hr : n + 1 ≤ c) (hm : c ≤ maxLen) (hb : base ≤ g) (hg : w.heap[g]? = some (.cells cur 71 (0, 0))) (hcs : cur.size = c * 5) (hF : cur.toList.take (n * 5) = F) (hFl : F.length = n * 5) (h1F : ∀ u ∈ F, u.oneCell' = true)
    (hh : w.heap[h]? = some (.cells x.row 71 (0, 0))) (hne : h ≠ g) :
    Calls Try.prog 93 #[.slice (some ⟨g, 0, none⟩) n c, .int .i64 i, .slice (some ⟨h, 0, none⟩) 1 1] w fun e w' => ∃ v', e = .returned v' ∧ w'.ownsRow base 71 5 v' (n + 1) (F.take (i * 5) ++ x.cells ++ F.drop (i * 5)) ∧ w.grownBy w' (some g) := by
  have hov : ∀ lb cb, (callFunc 108 #[.slice (some ⟨h, 0, none⟩) 1 1, .slice (some ⟨g, (i + 1) * 5, none⟩) lb cb]).run Try.prog w = .ok (.value (.bool false)) w := fun lb cb => by
    rw [run_callFunc_extern Try.func108 (by kernel_rfl) (by kernel_rfl) (by kernel_rfl) (e := Extern.SlicesOverlaps.overlaps #[30, 30] #[4]) (by kernel_rfl),
      Lib.run_overlaps_apart w 30 4 71 Try.underlying30 5 Try.sizeOf71 ⟨h, 0, none⟩ ⟨g, (i + 1) * 5, none⟩ 1 1 lb cb hne 71 71 x.row.size cur.size (by simp only [World.shape?, hh]) (by simp only [World.shape?, hg]) (by rw [hcs]; omega) (frozen_of_row _ _ _ _ _ hh) (frozen_of_row _ _ _ _ _ hh)]
    rfl
  have hX : x.cells.length = 5 := rfl
  obtain ⟨q1, q2, q3⟩ := row_shift (X := x.cells) hF hFl (by simpa using hcs) hX hi hr
  have hdl : (F.drop (i * 5)).length = n * 5 - i * 5 := by rw [List.length_drop, hFl]
  have hgd : w.drew.heap[g]? = some (.cells cur 71 (0, 0)) := hg
  have hcp1 := fun ty dc sc => run_copy_wide (P := Try.prog) w.drew 30 30 ty 71 g ((i + 1) * 5) (n - i) dc 5 (n - i) ⟨g, i * 5, none⟩ (n + 1 - i) sc cur 71 (F.drop (i * 5)) Try.underlying30 (by kernel_rfl) hgd (by show min (n + 1 - i) (n - i) = n - i; omega) (by rw [hdl]; omega)
    (fun j v hj => by
      rw [Addr.add_lit, cell_of_row _ _ _ _ _ (0, 0) hgd, ← Array.getElem?_toList]
      rw [List.getElem?_drop, ← hF, List.getElem?_take] at hj
      split at hj
      · exact hj
      · cases hj) (by rw [hdl, hcs]; omega) (fun v hv => h1F v (List.mem_of_mem_drop hv))
  generalize hR : cur.toList.take ((i + 1) * 5) ++ F.drop (i * 5) ++ cur.toList.drop ((i + 1) * 5 + (F.drop (i * 5)).length) = R at *
  have hg1 : (w.drew.setRow g R.toArray).heap[g]? = some (.cells R.toArray 71 (0, 0)) := setRow_heap w.drew g cur R.toArray _ _ hgd
  have hh1 : (w.drew.setRow g R.toArray).heap[h]? = some (.cells x.row 71 (0, 0)) := (setRow_other w.drew g h _ hne).trans hh
  have hcp2 := fun ty dc => run_copy_wide (P := Try.prog) (w.drew.setRow g R.toArray) 30 30 ty 71 g (i * 5) (n + 1 - i) dc 5 1 ⟨h, 0, none⟩ 1 1 R.toArray 71 x.cells Try.underlying30 (by kernel_rfl) hg1 (by show min 1 (n + 1 - i) = 1; omega) rfl
    (fun j v hj => by
      rw [Addr.add_lit, cell_of_row _ _ _ _ _ (0, 0) hh1]
      simpa [En.row, En.cells] using hj) (by rw [hX]; simp [q1]; omega) (cells_one x)
  have HFIN := Lib.hid (And.intro (own_setRow (w := w.drew.setRow g R.toArray) hg1 hb hr hm q2 (by simp only [List.length_append, hX, hdl, List.length_take, hFl]; omega) q3) (grown_trans (grown_trans (⟨rfl, rfl, rfl, Nat.le_refl _, fun _ _ _ => rfl⟩ : w.grownBy w.drew (some g)) (grownBy_setRow w.drew g R.toArray)) (grownBy_setRow _ g (R.take (i * 5) ++ x.cells ++ R.drop (i * 5 + x.cells.length)).toArray)))
  generalize R.take (i * 5) ++ x.cells ++ R.drop (i * 5 + x.cells.length) = S at *
  have HCP1 := Lib.hid hcp1
  have HCP2 := Lib.hid hcp2
  clear hcp1 hcp2 hg1 hh1 hgd hdl q1 q2 q3 hX hcs hF hFl h1F hg hh hR
  have hz1 : ¬ ((i : Int) = (n : Int)) := by omega
  have hw1 : IntKind.i64.wrap ((i : Int) + 1) = (i : Int) + 1 := IntWalk.i64_in _ (by omega)
  have hb1 : (0 : Int) ≤ (i : Int) + 1 := by omega
  have hin : i ≤ n := by omega
  have htn : ((i : Int) + 1).toNat = i + 1 := by omega
  have hc63 : c ≤ 9223372036854775807 := by unfold maxLen at hm; omega
  have hb2 : ¬ (c = i + 1) := by omega
  have hb3 : (i : Int) ≤ (n : Int) + 1 := by omega
  have hb4 : ¬ (c = i) := by omega
  have hlt : ¬ ((c : Int) < (n : Int) + 1) := by omega
  go_enter Try.func93, Try.ntmps93
  go_wp2_with (simp only [hov])
  go_region_law (refine step_copy_runI rfl (.tmp 73) (.tmp 76) 30 30 rfl (.slice (some ⟨g, (i + 1) * 5, none⟩) (n - i) (c - (i + 1))) (.slice (some ⟨g, i * 5, none⟩) (n + 1 - i) (c - i)) (by simp [Act.eval, Act.put]) (by simp [Act.eval, Act.put]) (HCP1.out 3 (c - (i + 1)) (c - i)) ?_)
  go_wp2_with (refine wpList_copy_runI _ rfl (.tmp 80) (.tmp 81) 30 30 rfl _ _ rfl rfl (HCP2.out _ _) ?_)
  go_ret
  exact ⟨_, rfl, HFIN.out.1, HFIN.out.2⟩
end
end Go.Proofs.Ytifbkoaggjikpaa
