/- A state of contacts is equal to itself, by Go's '=='. No statement of the seat is proved here. -/
import Derived.Test.YtcobcefefifmcaaCtList
import Derived.ChangeKeysEq
namespace Go.Proofs.Ytcobcefefifmcaa
open Go.RowKit

theorem eqItems_refl (d : Nat) (c : Array Value) (w : World) : ∀ (is : List Nat), (∀ i ∈ is, ∃ k, c[i]? = some (.int .i64 k)) → (Op.eqItems (d + 1) 3 (Try.prog.cellsOf 3) c c is).run Try.prog w = .ok true w
  | [], _ => rfl
  | i :: is, h => by
    obtain ⟨k, hk⟩ := h i (List.mem_cons_self ..)
    have hc : Try.prog.cellsOf 3 = 1 := by kernel_rfl
    have hp : (part 3 c (i * Try.prog.cellsOf 3)).run Try.prog w = .ok (.int .i64 k) w := run_part_plain w (by kernel_rfl) (by rw [hc, Nat.mul_one]; exact hk)
    have ih := eqItems_refl d c w is (fun j hj => h j (List.mem_cons_of_mem _ hj))
    simp only [Op.eqItems, Sem.run_bind, hp, Result.andThen_ok, run_equalIn_int w d 3 .i64 .i64 k k Try.underlying3, beq_self_eq_true, Bool.not_true, Bool.false_eq_true, if_false]
    exact ih
theorem equalArr (d : Nat) (c : Array Value) (w : World) (h : ∀ i, i < 36 → ∃ k, c[i]? = some (.int .i64 k)) : (Op.equalIn (d + 2) 29 (.agg c) (.agg c)).run Try.prog w = .ok true w := by
  rw [run_equalIn_array w (d + 1) c c Try.underlying29 (show Try.prog.info? 3 = some Try.t3 by kernel_rfl)]
  exact eqItems_refl d c w _ (fun i hi => h i (List.mem_range.1 hi))
theorem equalCt (d : Nat) (c : Ct) (w : World) : (Op.equalIn (d + 2) 24 c.agg c.agg).run Try.prog w = .ok true w := by
  unfold Ct.agg
  rw [run_equalIn_struct w (d + 1) 24 _ _ (by kernel_rfl) (by kernel_rfl)]
  have hf : (Try.prog.fieldsOf 24).toList = _ := congrArg Array.toList (show Try.prog.fieldsOf 24 = _ by unfold Program.fieldsOf; rw [Try.underlying24])
  rw [hf]
  have h0 := fun x => run_part_plain (P := Try.prog) w (e := 22) (off := 0) (xs := #[.int .u32 c.fl, .bool c.up, .bool c.dn, .bool c.opn, .bool c.cls]) (v := x) (by kernel_rfl)
  have h1 := fun x j => run_part_plain (P := Try.prog) w (e := 4) (off := j) (xs := #[.int .u32 c.fl, .bool c.up, .bool c.dn, .bool c.opn, .bool c.cls]) (v := x) (by kernel_rfl)
  simp [Op.eqFields, h0 _ rfl, h1 _ 1 rfl, h1 _ 2 rfl, h1 _ 3 rfl, h1 _ 4 rfl, run_equalIn_int w d 22 .u32 .u32 _ _ Try.underlying22, run_equalIn_bool w d 4 _ _ Try.underlying4]
theorem part_agg {t : TypeId} {d : TypeDesc} {n off : Nat} {cs : Array Value} (w : World) (hu : Try.prog.underlying t = some d) (hd : d.isRow = true) (hi : (Try.prog.info? t).map (·.size) = some n) : (part t cs off).run Try.prog w = .ok (.agg (cs.extract off (off + n))) w := by
  cases hq : Try.prog.info? t with
  | none => simp [hq] at hi
  | some i =>
    have hs : i.size = n := by simpa [hq] using hi
    have hagg : (isAgg t).run Try.prog w = .ok true w := by
      unfold isAgg
      rw [Sem.run_bind, run_underlying hu w]
      cases d <;> simp_all
    simp [part, Sem.run_bind, hagg, sizeOf, typeInfo, hq, hs]
theorem Db.head (s : Db) : s.cells.extract 0 (0 + 5) = #[.int .u32 s.c.fl, .bool s.c.up, .bool s.c.dn, .bool s.c.opn, .bool s.c.cls] := by
  unfold Db.cells
  simp [Ct.cells]
theorem Db.tail (s : Db) (h : s.ok) : s.cells.extract 5 (5 + 36) = (s.n.map fun k => (Value.int .i64 k)).toArray := by
  unfold Db.cells
  have := h.n
  simp [Ct.cells, List.take_of_length_le, this]
theorem ints_at {l : List Int} {n : Nat} (h : l.length = n) : ∀ i, i < n → ∃ k, ((l.map fun k => (Value.int .i64 k)).toArray)[i]? = some (.int .i64 k) := fun i hi => by
  refine ⟨l[i]'(by omega), ?_⟩
  rw [List.getElem?_toArray, List.getElem?_map, List.getElem?_eq_getElem (by omega : i < l.length)]
  rfl
theorem stoodDb : Try.prog.stoodInHeld 31 = false := by kernel_rfl
theorem fieldsDb : Try.prog.underlying 31 = some (.struct (Try.prog.fieldsOf 31)) := by kernel_rfl
theorem info29 : (Try.prog.info? 29).map (·.size) = some 36 := by kernel_rfl
theorem info24 : (Try.prog.info? 24).map (·.size) = some 5 := by kernel_rfl
theorem listDb : (Try.prog.fieldsOf 31).toList = [{ name := "Contacts", type := 24, offset := 0, embedded := false, tag := "", pkgPath := "", byteOffset := 0 }, { name := "Count", type := 29, offset := 5, embedded := false, tag := "", pkgPath := "", byteOffset := 8 }] := by kernel_rfl
theorem partC (s : Db) (w : World) : (part 24 s.cells 0).run Try.prog w = .ok s.c.agg w := by
  have p1 := part_agg (cs := s.cells) (off := 0) (n := 5) w Try.underlying24 rfl info24
  rw [Db.head] at p1
  exact p1
theorem partN (s : Db) (h : s.ok) (w : World) : (part 29 s.cells 5).run Try.prog w = .ok (.agg (s.n.map fun k => (Value.int .i64 k)).toArray) w := by
  have p2 := part_agg (cs := s.cells) (off := 5) (n := 36) w Try.underlying29 rfl info29
  rw [Db.tail s h] at p2
  exact p2
theorem eqFields2 {P : Program} {d : Nat} {xs ys : Array Value} {f g : Field} {a b a' b' : Value} (w : World) (hf : f.name ≠ "_") (hg : g.name ≠ "_") (h1 : (part f.type xs f.offset).run P w = .ok a w) (h2 : (part f.type ys f.offset).run P w = .ok b w)
    (h3 : (part g.type xs g.offset).run P w = .ok a' w) (h4 : (part g.type ys g.offset).run P w = .ok b' w) (e1 : (Op.equalIn d f.type a b).run P w = .ok true w) (e2 : (Op.equalIn d g.type a' b').run P w = .ok true w) :
    (Op.eqFields d xs ys [f, g]).run P w = .ok true w := by
  simp [Op.eqFields, hf, hg, h1, h2, h3, h4, e1, e2]
theorem equalDb (d : Nat) (s : Db) (h : s.ok) (w : World) : (Op.equalIn (d + 3) 31 (.agg s.cells) (.agg s.cells)).run Try.prog w = .ok true w := by
  rw [run_equalIn_struct w (d + 2) 31 _ _ fieldsDb stoodDb, listDb]
  exact eqFields2 w (by decide) (by decide) (partC s w) (partC s w) (partN s h w) (partN s h w) (equalCt d s.c w) (equalArr d _ w (ints_at h.n))
theorem eqlDb (s : Db) (h : s.ok) (w : World) : (binOp .eql 31 (.agg s.cells) (.agg s.cells)).run Try.prog w = .ok (.bool true) w := by
  rw [run_eql_struct, equalDb 9997 s h w]; rfl
theorem neqDb (s : Db) (h : s.ok) (w : World) : (binOp .neq 31 (.agg s.cells) (.agg s.cells)).run Try.prog w = .ok (.bool false) w := by
  rw [run_neq_struct, equalDb 9997 s h w]; rfl
theorem neqArr (l : List Int) (h : l.length = 36) (w : World) : (binOp .neq 29 (.agg (l.map fun k => (Value.int .i64 k)).toArray) (.agg (l.map fun k => (Value.int .i64 k)).toArray)).run Try.prog w = .ok (.bool false) w := by
  rw [run_neq_struct, equalArr 9998 _ w (ints_at h)]; rfl
end Go.Proofs.Ytcobcefefifmcaa
