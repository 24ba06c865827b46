/- append(b.Cars, make([]api.Car, m)...): a row of cars that the call owns gets m cars more, whose numbers are 0. No statement of the seat is proved here. -/
import Derived.Test.YtlfihfkiihdkfaaSample
namespace Go.Proofs.Ytlfihfkiihdkfaa
open Go.RowKit

def zeroCar : CarD := ⟨0, 0, 0, 0, 0, 0, 0, 0, 0⟩
theorem flatCars_app (cs ds : List CarD) : flatCars (cs ++ ds) = flatCars cs ++ flatCars ds := by simp [flatCars]
theorem flatCars_zero (m : Nat) : flatCars (List.replicate m zeroCar) = List.replicate (m * 9) (.int .i64 0) := by
  induction m with
  | zero => rfl
  | succ m ih =>
    rw [List.replicate_succ']
    rw [flatCars_snoc, ih, show (m + 1) * 9 = m * 9 + 9 from by omega, ← List.replicate_append_replicate]
    rfl

theorem zeroCells_car (m : Nat) : (Builtin.zeroCells (Value.agg #[.int .i64 0, .int .i64 0, .int .i64 0, .int .i64 0, .int .i64 0, .int .i64 0, .int .i64 0, .int .i64 0, .int .i64 0]).cells m).toList = List.replicate (m * 9) (.int .i64 0) := by
  apply List.ext_getElem
  · simp [Builtin.zeroCells, Value.cells]
  · intro j h1 h2
    have h9 : j % 9 < 9 := Nat.mod_lt _ (by omega)
    have key : ∀ q, q < 9 → (Value.agg #[.int .i64 0, .int .i64 0, .int .i64 0, .int .i64 0, .int .i64 0, .int .i64 0, .int .i64 0, .int .i64 0, .int .i64 0]).cells[q]! = .int .i64 0 := by
      intro q hq
      match q, hq with
      | 0, _ => rfl | 1, _ => rfl | 2, _ => rfl | 3, _ => rfl | 4, _ => rfl | 5, _ => rfl | 6, _ => rfl | 7, _ => rfl | 8, _ => rfl
    have hs : (Value.agg #[.int .i64 0, .int .i64 0, .int .i64 0, .int .i64 0, .int .i64 0, .int .i64 0, .int .i64 0, .int .i64 0, .int .i64 0]).cells.size = 9 := rfl
    simp only [Builtin.zeroCells, hs, Array.toList_map, List.getElem_map, Array.getElem_toList, Array.getElem_range, List.getElem_replicate]
    exact key _ h9

theorem append_zeros (w : World) (base g n cap m : Nat) (xs : List Value) (ty : TypeId)
    (hown : w.ownsRow base 34 9 (.slice (some ⟨g, 0, none⟩) n cap) n xs) (hn : n ≤ 1000) (hm : m ≤ 1000) (hbase : base ≤ w.heap.size) :
    ∃ g' cap' w', (Builtin.append_ #[23, 3] ty #[.slice (some ⟨g, 0, none⟩) n cap, .int .i64 m]).run Try.prog w = .ok (.slice (some ⟨g', 0, none⟩) (n + m) cap') w' ∧
      w'.ownsRow base 34 9 (.slice (some ⟨g', 0, none⟩) (n + m) cap') (n + m) (xs ++ List.replicate (m * 9) (.int .i64 0)) ∧ w.grownBy w' (some g) ∧ (g' = g ∨ g' = w.heap.size) := by
  obtain ⟨i, hi, hz, hsize, hby⟩ := info_parts carInfo
  have hu := Try.underlying23
  have hk := Try.underlying3
  have hw : IntKind.i64.wrap (m : Int) = (m : Int) := IntWalk.i64_in _ (by omega)
  have hl0 : ¬ (m : Int) < 0 := by omega
  have hbig : ¬ (281474976710656 < (m : Int) * 72) := by omega
  rcases hown.2 with ⟨hv, _⟩ | ⟨g1, cap1, cur, hv, hbg, hg, hnc, hcm, hcs, htake⟩
  · cases hv
  · injection hv with e1 _ e2
    injection e1 with e1
    injection e1 with e1
    subst e1 e2
    by_cases hroom : n + m ≤ cap
    · have hfit : n * 9 + (List.replicate (m * 9) (Value.int .i64 0)).length ≤ cur.size := by rw [List.length_replicate, hcs]; omega
      have hst := run_storeCells_at Try.prog g (n * 9) 34 (List.replicate (m * 9) (Value.int .i64 0)) 0 cur w hg (by simpa using hfit) (by intro u hu; rw [List.mem_replicate] at hu; rw [hu.2]; rfl)
      simp only [Nat.add_zero] at hst
      have hzc := zeroCells_car m
      refine ⟨g, cap, w.setRow g (cur.toList.take (n * 9) ++ List.replicate (m * 9) (Value.int .i64 0) ++ cur.toList.drop (n * 9 + (List.replicate (m * 9) (Value.int .i64 0)).length)).toArray, ?_, ?_, ?_, .inl rfl⟩
      · rcases Nat.eq_zero_or_pos m with h0 | h0
        · subst h0
          have h2 : w.setRow g (cur.toList.take (n * 9) ++ List.replicate (0 * 9) (Value.int .i64 0) ++ cur.toList.drop (n * 9 + (List.replicate (0 * 9) (Value.int .i64 0)).length)).toArray = w := by
            simp only [Nat.zero_mul, List.replicate_zero, List.append_nil, List.length_nil, Nat.add_zero, List.take_append_drop, Array.toArray_toList]
            exact setRow_self w g cur 34 (0, 0) hg
          rw [h2]
          have hnc' : n ≤ cap := hnc
          have hw0 : IntKind.i64.wrap 0 = 0 := rfl
          simp [Builtin.append_, run_underlying hu, run_underlying hk, sizeOf, typeInfo, zeroValue, hi, hz, hby, asInt, asIntOf, hw0, hnc', storeCells]
        · have hm9 : ¬ m = 0 := by omega
          simp [Builtin.append_, run_underlying hu, run_underlying hk, sizeOf, typeInfo, zeroValue, hi, hz, hsize, hby, asInt, asIntOf, hw, hl0, hbig, hroom, hzc, Addr.add_lit, hst]
          intro h; omega
      · have hlen : (xs ++ List.replicate (m * 9) (Value.int .i64 0)).length = (n + m) * 9 := by rw [List.length_append, hown.1, List.length_replicate]; omega
        refine ⟨hlen, .inr ⟨g, cap, _, rfl, hbg, setRow_heap w g cur _ 34 _ hg, hroom, hcm, ?_, ?_⟩⟩
        · simp only [List.size_toArray, List.length_append, List.length_take, List.length_drop, Array.length_toList, List.length_replicate]
          rw [hcs]; omega
        · rw [htake, ← hlen]
          exact List.take_left
      · exact ⟨rfl, rfl, rfl, by simp, fun k _ hk => setRow_other w g k _ (fun e => hk (by simp [e]))⟩
    · have hm9 : ¬ m = 0 := by omega
      have hm0 : 0 < m := by omega
      have holds : ∀ j u, xs[j]? = some u → w.cell? ((⟨g, 0, none⟩ : Addr).add j) = some u := hown.cells (g := g) rfl
      have hfo := run_firstCells_some (P := Try.prog) w.drew 9 n ⟨g, 0, none⟩ n cap xs hown.1 (by simpa using holds)
      have h48' : ¬ (281474976710656 < Builtin.nextslicecap (n + m) cap * 72) := by have := growslice_fits (need := n + m) (old := cap) (bytes := 72) (by omega) (by omega); omega
      have hzc := zeroCells_car m
      have hge := grownCap_ge w (n + m) cap 34
      have hcm2 : grownCap w (n + m) cap 34 ≤ maxLen := grownCap_le_maxLen w (n + m) cap 34 (by unfold maxLen; omega)
      refine ⟨w.heap.size, grownCap w (n + m) cap 34, w.drew.alloc (.cells (xs.toArray ++ (List.replicate (m * 9) (Value.int .i64 0)).toArray ++ Builtin.zeroCells (Value.agg #[.int .i64 0, .int .i64 0, .int .i64 0, .int .i64 0, .int .i64 0, .int .i64 0, .int .i64 0, .int .i64 0, .int .i64 0]).cells (grownCap w (n + m) cap 34 - (n + m))) 34), ?_, ?_, ?_, .inr rfl⟩
      · have h63' : ¬ (9223372036854775807 < ((n : Int) + (m : Int))) := by omega
        simp [Builtin.append_, run_underlying hu, run_underlying hk, sizeOf, typeInfo, zeroValue, hi, hz, hsize, hby, asInt, asIntOf, hw, hl0, hbig, hroom, h63', h48', Question.forced, hfo, newRow, grownCap]
        have hza : Builtin.zeroCells (Value.agg #[.int .i64 0, .int .i64 0, .int .i64 0, .int .i64 0, .int .i64 0, .int .i64 0, .int .i64 0, .int .i64 0, .int .i64 0]).cells m = Array.replicate (m * 9) (.int .i64 0) := Array.ext' (by rw [hzc, Array.toList_replicate])
        rw [if_neg (by omega), hza]
      · have hlen : (xs ++ List.replicate (m * 9) (Value.int .i64 0)).length = (n + m) * 9 := by rw [List.length_append, hown.1, List.length_replicate]; omega
        refine ⟨hlen, .inr ⟨w.heap.size, _, _, rfl, hbase, heap_alloc_new w.drew _, hge, hcm2, ?_, ?_⟩⟩
        · simp only [Array.size_append, List.size_toArray, size_zeroCells, hown.1, List.length_replicate]
          show n * 9 + m * 9 + _ * 9 = _
          omega
        · simp only [Array.toList_append, List.append_assoc]
          rw [← List.append_assoc, ← hlen]
          exact List.take_left
      · exact ⟨rfl, rfl, rfl, by simp, fun k hk _ => heap_alloc_old w.drew _ hk⟩

/-- At a step of a region that draws its order. -/
theorem step_append_zeros {ops : Array Oper} {o : Oper} {a : Act} {w : World} {K : Act → World → Prop} {Q : Exit → Act → World → Prop} {E : Prop} (hgd : o.guard = none) (s x : Operand)
    (ho : o.op = .call { callee := .builtin .append, args := #[s, x], argTypes := #[23, 3] })
    (base g n cap m : Nat) (xs : List Value) (hs : a.eval s = .slice (some ⟨g, 0, none⟩) n cap) (hx : a.eval x = .int .i64 m)
    (hown : w.ownsRow base 34 9 (.slice (some ⟨g, 0, none⟩) n cap) n xs) (hn : n ≤ 1000) (hm : m ≤ 1000) (hbase : base ≤ w.heap.size)
    (h : ∀ g' cap' w', w'.ownsRow base 34 9 (.slice (some ⟨g', 0, none⟩) (n + m) cap') (n + m) (xs ++ List.replicate (m * 9) (.int .i64 0)) → w.grownBy w' (some g) → (g' = g ∨ g' = w.heap.size) → K (a.put o.dst (.slice (some ⟨g', 0, none⟩) (n + m) cap')) w') :
    if Region.wanted o (yielded ops a.tmps) = true then Oper.wp Try.prog o a w K Q else E := by
  have hw : Region.wanted o (yielded ops a.tmps) = true := by simp [Region.wanted, hgd]
  rw [if_pos hw]
  obtain ⟨g', cap', w', hr, h1, h2, h3⟩ := append_zeros w base g n cap m xs o.type hown hn hm hbase
  unfold Oper.wp execOp
  simp only [ho, resolve, invoke, builtin, Sem.run_bind, Sem.run_pure, Result.andThen_ok, List.map_toArray, List.map_cons, List.map_nil, hs, hx, hr]
  exact h g' cap' w' h1 h2 h3
end Go.Proofs.Ytlfihfkiihdkfaa
