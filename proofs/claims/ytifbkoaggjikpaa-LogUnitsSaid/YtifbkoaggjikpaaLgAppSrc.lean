/- append to nil out of a slice; a cell stored into a row of the call's own, or into a box, in a drawn region too. No statement of the seat is proved here. -/
import Derived.Test.YtifbkoaggjikpaaGhostK
namespace Go.Proofs.Ytifbkoaggjikpaa
open Go.RowKit

theorem run_append_nil_none {P : Program} (w : World) (t ty e : TypeId) (i : TypeInfo) (ht : P.underlying t = some (.slice e)) (hi : P.info? e = some i) (c : Nat) :
    (Builtin.append_ #[t, t] ty #[.slice none 0 0, .slice none 0 c]).run P w = .ok (.slice none 0 0) w := by
  simp [Builtin.append_, run_underlying ht, sizeOf, typeInfo, hi, Builtin.lenOf, Builtin.firstCells]
/-- 'append(nil, xs...)', where xs is nil or lies somewhere. -/
theorem wp_append_src {P : Program} {w : World} {o : Oper} {a : Act} {K : Act → World → Prop} {Q : Exit → Act → World → Prop} (s x : Operand) (t : TypeId)
    (ho : o.op = .call { callee := .builtin .append, args := #[s, x], argTypes := #[t, t] })
    (e : TypeId) (i : TypeInfo) (z : Value) (size bytes : Nat) (ht : P.underlying t = some (.slice e)) (hi : P.info? e = some i) (hz : i.zero = some z)
    (hsize : i.size = size) (hby : i.bytes = bytes) (hzs : z.cells.size = size) (hsz : 0 < size)
    (hs : a.eval s = .slice none 0 0) (A : Option Addr) (n c : Nat) (vs : List Value) (hx : a.eval x = .slice A n c) (hl : vs.length = n * size) (hsrc : SrcAt w A vs) (h1 : ∀ u ∈ vs, u.oneCell' = true) (hm : n ≤ 1000000) (hbytes : n * bytes ≤ 140737488355328)
    (h : ∀ v' w', w'.ownsRow w.heap.size e size v' n vs → Below w.heap.size w w' → K (a.put o.dst v') w') : o.wp P a w K Q := by
  rcases hsrc with ⟨rfl, rfl⟩ | ⟨ad, rfl, hc⟩
  · have h0 : n = 0 := by
      rcases Nat.eq_zero_or_pos n with h | h
      · exact h
      · have := Nat.mul_pos h hsz
        simp at hl
        omega
    subst h0
    have hr := run_append_nil_none (P := P) w t o.type e i ht hi c
    unfold Oper.wp execOp
    simp only [ho, resolve, invoke, builtin, Sem.run_bind, Sem.run_pure, Result.andThen_ok, List.map_toArray, List.map_cons, List.map_nil, hs, hx, hr]
    exact h _ _ (World.ownsRow_nil w w.heap.size e size) (Below.refl _ _)
  · exact wp_append_own w s x t ho w.heap.size e i z size bytes ht hi hz hsize hby hzs hsz (.slice none 0 0) 0 [] hs (World.ownsRow_nil _ _ _ _) ad n c vs hx hl hc h1 (by unfold maxLen; omega) (by rw [Nat.zero_add]; exact hbytes) (Nat.le_refl _) (fun v' w' hown hgrow _ => h v' w' (by simpa using hown) (below_grown hgrow (Nat.le_refl _) (fun k hk => by simp [Value.ownBlock] at hk)))
theorem wpList_append_src {P : Program} {w : World} {ops : Array Oper} {rest : List Oper} {o : Oper} {a : Act} {Q : Exit → Act → World → Prop} (hgd : o.guard = none) (s x : Operand) (t : TypeId)
    (ho : o.op = .call { callee := .builtin .append, args := #[s, x], argTypes := #[t, t] })
    (e : TypeId) (i : TypeInfo) (z : Value) (size bytes : Nat) (ht : P.underlying t = some (.slice e)) (hi : P.info? e = some i) (hz : i.zero = some z)
    (hsize : i.size = size) (hby : i.bytes = bytes) (hzs : z.cells.size = size) (hsz : 0 < size)
    (hs : a.eval s = .slice none 0 0) (A : Option Addr) (n c : Nat) (vs : List Value) (hx : a.eval x = .slice A n c) (hl : vs.length = n * size) (hsrc : SrcAt w A vs) (h1 : ∀ u ∈ vs, u.oneCell' = true) (hm : n ≤ 1000000) (hbytes : n * bytes ≤ 140737488355328)
    (h : ∀ v' w', w'.ownsRow w.heap.size e size v' n vs → Below w.heap.size w w' → wpList P ops Q rest (a.put o.dst v') w') : wpList P ops Q (o :: rest) a w :=
  wpList_plain hgd fun _ hK => wp_append_src s x t ho e i z size bytes ht hi hz hsize hby hzs hsz hs A n c vs hx hl hsrc h1 hm hbytes fun v' w' h2 h3 => hK _ _ (h v' w' h2 h3)
/-- One cell of a box is stored. -/
theorem wp_putCell {P : Program} {op : Oper} {a : Act} {w : World} {K : Act → World → Prop} {Q : Exit → Act → World → Prop} (ty : TypeId) (x y : Operand) (ho : op.op = .store ty x y)
    (b o : Nat) (v : Value) (old new : Array Value) (t : TypeId) (hx : a.eval x = .pointer (some ⟨b, o, none⟩)) (hy : a.eval y = v) (hg : w.heap[b]? = some (.cells old t (0, 0)))
    (hi : (P.info? ty).map (·.size) = some 1) (hsz : o < old.size) (h1 : v.oneCell' = true) (hv : v.cells = #[v]) (hnew : old.setIfInBounds o v = new)
    (h : ∀ w2, w2.heap[b]? = some (.cells new t (0, 0)) → w.grownBy w2 (some b) → K (a.put op.dst undef) w2) : op.wp P a w K Q := by
  have ht : w.there b o 1 := fun j hj => by
    obtain rfl : j = 0 := by omega
    refine ⟨?_, frozen_of_row _ _ _ _ _ hg⟩
    rw [cell_of_row _ _ _ _ _ (0, 0) hg]
    simp only [Nat.add_zero, Array.getElem?_eq_getElem hsz, Option.isSome_some]
  unfold Oper.wp execOp
  simp only [ho, hx, hy, Instr.storeAt, Instr.sureAddr, Sem.run_bind, Sem.run_pure, Result.andThen_ok, run_storeVar_cell w b o ty v ht hi h1 hv]
  refine h _ ?_ (grownBy_setCells w b o _)
  rw [← hnew]
  exact Put.setCells_row b t [v] o w old hg
/-- One cell of a row of the call's own is stored. -/
theorem wp_putOwn {P : Program} {op : Oper} {a : Act} {w : World} {K : Act → World → Prop} {Q : Exit → Act → World → Prop} (ty : TypeId) (x y : Operand) (ho : op.op = .store ty x y)
    {base : Nat} {e : TypeId} {s p c n : Nat} {xs : List Value} (j : Nat) (v : Value) (hx : a.eval x = .pointer (some ⟨p, j, none⟩)) (hy : a.eval y = v) (hown : w.ownsRow base e s (.slice (some ⟨p, 0, none⟩) n c) n xs) (hj : j < n * s)
    (hi : (P.info? ty).map (·.size) = some 1) (h1 : v.oneCell' = true) (hv : v.cells = #[v])
    (h : ∀ w2, w2.ownsRow base e s (.slice (some ⟨p, 0, none⟩) n c) n (xs.set j v) → w.grownBy w2 (some p) → K (a.put op.dst undef) w2) : op.wp P a w K Q := by
  have ht : w.there p j 1 := fun k hk => by
    obtain rfl : k = 0 := by omega
    exact ⟨by rw [Nat.add_zero, hown.cellAt j hj, List.getElem?_eq_getElem (by rw [hown.1]; exact hj)]; rfl, hown.frozenAt j⟩
  unfold Oper.wp execOp
  simp only [ho, hx, hy, Instr.storeAt, Instr.sureAddr, Sem.run_bind, Sem.run_pure, Result.andThen_ok, run_storeVar_cell w p j ty v ht hi h1 hv]
  have := hown.stored j v
  exact h _ this.1 this.2
theorem wpList_putOwn {P : Program} {ops : Array Oper} {rest : List Oper} {op : Oper} {a : Act} {w : World} {Q : Exit → Act → World → Prop} (hgd : op.guard = none) (ty : TypeId) (x y : Operand) (ho : op.op = .store ty x y)
    {base : Nat} {e : TypeId} {s p c n : Nat} {xs : List Value} (j : Nat) (v : Value) (hx : a.eval x = .pointer (some ⟨p, j, none⟩)) (hy : a.eval y = v) (hown : w.ownsRow base e s (.slice (some ⟨p, 0, none⟩) n c) n xs) (hj : j < n * s)
    (hi : (P.info? ty).map (·.size) = some 1) (h1 : v.oneCell' = true) (hv : v.cells = #[v])
    (h : ∀ w2, Hid (w2.ownsRow base e s (.slice (some ⟨p, 0, none⟩) n c) n (xs.set j v)) → Hid (w.grownBy w2 (some p)) → wpList P ops Q rest (a.put op.dst undef) w2) : wpList P ops Q (op :: rest) a w :=
  wpList_plain hgd fun _ hK => wp_putOwn ty x y ho j v hx hy hown hj hi h1 hv (fun w2 h1 h2 => hK _ _ (h w2 (Lib.hid h1) (Lib.hid h2)))
end Go.Proofs.Ytifbkoaggjikpaa
