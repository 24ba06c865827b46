/- Go's '==' of stores; rows of blocks over calls; the sanity check. No statement of the seat is proved here. -/
import Derived.Test.YtanodbpeeahmaaaStRefWrite
import Derived.ChangeKeysEq
namespace Go.Proofs.Ytanodbpeeahmaaa
open Go.RowKit St

theorem fieldsSt : Try.prog.underlying 24 = some (.struct (Try.prog.fieldsOf 24)) := by kernel_rfl
theorem stoodSt : Try.prog.stoodInHeld 24 = false := by kernel_rfl
theorem listSt : (Try.prog.fieldsOf 24).toList = [{ name := "Halves", type := 22, offset := 0, embedded := false, tag := "", pkgPath := "", byteOffset := 0 }, { name := "Select", type := 3, offset := 2, embedded := false, tag := "", pkgPath := "", byteOffset := 32 }] := by kernel_rfl
theorem infoHalves : (Try.prog.info? 22).map (·.size) = some 2 := by kernel_rfl
theorem part_agg {t : TypeId} {d : TypeDesc} {n off : Nat} {cs : Array Value} (w : World) (hu : Try.prog.underlying t = some d) (hd : d.isRow = true) (hi : (Try.prog.info? t).map (·.size) = some n) : (part t cs off).run Try.prog w = .ok (.agg (cs.extract off (off + n))) w := by
  cases hq : Try.prog.info? t with
  | none => simp [hq] at hi
  | some i =>
    have hs : i.size = n := by simpa [hq] using hi
    have hagg : (isAgg t).run Try.prog w = .ok true w := by
      unfold isAgg
      rw [Sem.run_bind, run_underlying hu w]
      cases d <;> simp_all
    simp [part, Sem.run_bind, hagg, sizeOf, typeInfo, hq, hs]
theorem eqStrs (d : Nat) (c : Array Value) (w : World) : ∀ (is : List Nat), (∀ i ∈ is, ∃ k, c[i]? = some (.string k)) → (Op.eqItems (d + 1) 9 (Try.prog.cellsOf 9) c c is).run Try.prog w = .ok true w
  | [], _ => rfl
  | i :: is, h => by
    obtain ⟨k, hk⟩ := h i (List.mem_cons_self ..)
    have hc : Try.prog.cellsOf 9 = 1 := by kernel_rfl
    have hp : (part 9 c (i * Try.prog.cellsOf 9)).run Try.prog w = .ok (.string k) w := run_part_plain w (by kernel_rfl) (by rw [hc, Nat.mul_one]; exact hk)
    have ih := eqStrs d c w is (fun j hj => h j (List.mem_cons_of_mem _ hj))
    simp only [Op.eqItems, Sem.run_bind, hp, Result.andThen_ok, run_equalIn_string w d 9 k k Try.underlying9, beq_self_eq_true, Bool.not_true, Bool.false_eq_true, if_false]
    exact ih
theorem equalHalves (d : Nat) (a b : ByteArray) (w : World) : (Op.equalIn (d + 2) 22 (.agg #[.string a, .string b]) (.agg #[.string a, .string b])).run Try.prog w = .ok true w := by
  rw [run_equalIn_array w (d + 1) _ _ Try.underlying22 (show Try.prog.info? 9 = some Try.t9 by kernel_rfl)]
  refine eqStrs d _ w _ (fun i hi => ?_)
  have := List.mem_range.1 hi
  obtain rfl | rfl : i = 0 ∨ i = 1 := by omega
  · exact ⟨a, rfl⟩
  · exact ⟨b, rfl⟩
theorem partHalves (s : St) (w : World) : (part 22 #[.string s.a, .string s.b, .int .i64 s.sel] 0).run Try.prog w = .ok (.agg #[.string s.a, .string s.b]) w :=
  part_agg (cs := #[.string s.a, .string s.b, .int .i64 s.sel]) (off := 0) (n := 2) w Try.underlying22 rfl infoHalves
theorem equalSt (d : Nat) (s : St) (w : World) : (Op.equalIn (d + 3) 24 (.agg #[.string s.a, .string s.b, .int .i64 s.sel]) (.agg #[.string s.a, .string s.b, .int .i64 s.sel])).run Try.prog w = .ok true w := by
  rw [run_equalIn_struct w (d + 2) 24 _ _ fieldsSt stoodSt, listSt]
  have h0 := fun x => run_part_plain (P := Try.prog) w (e := 3) (off := 2) (xs := #[.string s.a, .string s.b, .int .i64 s.sel]) (v := x) (by kernel_rfl)
  simp [Op.eqFields, partHalves s w, h0 _ rfl, equalHalves d s.a s.b w, run_equalIn_int w (d + 1) 3 .i64 .i64 _ _ Try.underlying3]
theorem eqlSt (a b : ByteArray) (x : Int) (w : World) : (binOp .eql 24 (.agg #[.string a, .string b, .int .i64 x]) (.agg #[.string a, .string b, .int .i64 x])).run Try.prog w = .ok (.bool true) w := by
  rw [run_eql_struct, equalSt 9997 ⟨a, b, x⟩]; rfl
theorem neqSt (a b : ByteArray) (x : Int) (w : World) : (binOp .neq 24 (.agg #[.string a, .string b, .int .i64 x]) (.agg #[.string a, .string b, .int .i64 x])).run Try.prog w = .ok (.bool false) w := by
  rw [run_neq_struct, equalSt 9997 ⟨a, b, x⟩]; rfl
theorem neqHalves (a b : ByteArray) (w : World) : (binOp .neq 22 (.agg #[.string a, .string b]) (.agg #[.string a, .string b])).run Try.prog w = .ok (.bool false) w := by
  rw [run_neq_struct, equalHalves 9998]; rfl

/-- A new block behind a call; then another call. -/
theorem laid1 {w3 w5 : World} {o : Obj} (hb : Below (w3.alloc o).heap.size (w3.alloc o) w5) : Below w3.heap.size w3 w5 ∧ w5.heap[w3.heap.size]? = some o ∧ w3.heap.size < w5.heap.size := by
  have h6 := (Lit.one w3 o).next hb
  exact ⟨h6.below, h6.row, h6.lt⟩
theorem laid2 {w w1 : World} {A B : Obj} (hb : Below ((w.alloc A).alloc B).heap.size ((w.alloc A).alloc B) w1) :
    Below w.heap.size w w1 ∧ w1.heap[w.heap.size]? = some A ∧ w1.heap[w.heap.size + 1]? = some B ∧ w.heap.size + 1 < w1.heap.size := by
  have hz : ((w.alloc A).alloc B).heap.size = w.heap.size + 2 := by simp
  have hs := hb.size
  rw [hz] at hb hs
  refine ⟨(((Below.refl w.heap.size w).alloc (Nat.le_refl _) _).alloc (by simp) _).trans (hb.mono (by omega)), ?_, ?_, by omega⟩
  · rw [hb.block _ (by omega), Below.heap_alloc _ _ _ (by simp)]
    exact heap_alloc_new w _
  · rw [hb.block _ (by omega)]
    have := heap_alloc_new (w.alloc A) B
    simpa using this
/-- A cell is set, then a call. -/
theorem laidSet {w1 w2 : World} {g i : Nat} {T : TypeId} {cs : Array Value} {v : Value} (r : w1.heap[g]? = some (.cells cs T (0, 0))) (hb : Below (w1.setCell ⟨g, i, none⟩ v).heap.size (w1.setCell ⟨g, i, none⟩ v) w2) :
    Below g w1 w2 ∧ w2.heap[g]? = some (.cells (cs.setIfInBounds i v) T (0, 0)) ∧ (∀ k, k < w1.heap.size → k ≠ g → w2.heap[k]? = w1.heap[k]?) ∧ w1.heap.size ≤ w2.heap.size := by
  have hg : g < w1.heap.size := (Array.getElem?_eq_some_iff.1 r).1
  have hz : (w1.setCell ⟨g, i, none⟩ v).heap.size = w1.heap.size := Go.Deep.nblk_setCell _ _ _
  have hl : Lit g w1 g (.cells cs T (0, 0)) w1 := ⟨Below.refl _ _, Nat.le_of_lt hg, r⟩
  have h2 := (hl.put (Nat.le_refl _) i v).next hb
  rw [hz] at hb
  refine ⟨h2.below, h2.row, fun k hk hne => (hb.block k hk).trans (Below.heap_setCell _ _ _ _ hne), ?_⟩
  have := hb.size
  rw [hz] at this
  exact this
theorem cells3 {wx : World} {g : Nat} {T : TypeId} {x y z : Value} (h : wx.heap[g]? = some (.cells #[x, y, z] T (0, 0))) :
    wx.cell? ⟨g, 0, none⟩ = some x ∧ wx.cell? ⟨g, 1, none⟩ = some y ∧ wx.cell? ⟨g, 2, none⟩ = some z :=
  ⟨cell_of_row wx _ _ _ _ (0, 0) h, cell_of_row wx _ _ _ _ (0, 0) h, cell_of_row wx _ _ _ _ (0, 0) h⟩

theorem sane1 : writeF 5 zero 1 ⟨#[97, 98, 99]⟩ 2 = (⟨⟨#[]⟩, ⟨#[97, 98]⟩, 0⟩, 0, 8) := by kernel_rfl
theorem sane2 : writeF 5 ⟨⟨#[]⟩, ⟨#[97, 98]⟩, 0⟩ 1 ⟨#[97, 98, 99, 100]⟩ 9 = (zero, 0, 7) := by kernel_rfl
set_option maxRecDepth 100000 in
set_option maxHeartbeats 2000000 in
theorem sane_any (w : World) : Calls Try.prog 8 #[] w fun e w' => e = .returned (.bool true) ∧ Below w.heap.size w w' := by
  have F1 := Lib.hid (fun w => write_any 5 zero 1 ⟨#[97, 98, 99]⟩ 2 w (by decide) (by constructor <;> omega))
  have F2 := Lib.hid (fun w => write_any 5 ⟨⟨#[]⟩, ⟨#[97, 98]⟩, 0⟩ 1 ⟨#[97, 98, 99, 100]⟩ 9 w (by decide) (by constructor <;> omega))
  have F3 := Lib.hid (fun w => current_any ⟨⟨#[]⟩, ⟨#[97, 98]⟩, 0⟩ w)
  rw [sane1] at F1
  rw [sane2] at F2
  simp only [St.agg, St.ans, St.zero, St.cur] at F1 F2 F3
  go_enter Try.func8, Try.ntmps8
  go_wp2_with fail
  refine (F1.out _).mono ?_
  rintro e w1 ⟨rfl, hb⟩
  have HB := Lib.hid hb
  clear hb
  go_wp2_with fail
  refine (F2.out _).mono ?_
  rintro e w2 ⟨rfl, hb⟩
  obtain ⟨hb, r0, hlt⟩ := laid1 hb
  obtain ⟨c0, c1, c2⟩ := cells3 r0
  have HB2 := Lib.hid (HB.out.trans (hb.mono HB.out.size))
  clear hb r0
  have hne : ¬ w1.heap.size = w2.heap.size := by omega
  go_wp2_with fail
  refine (F3.out _).mono ?_
  rintro e w3 ⟨rfl, hb⟩
  obtain ⟨hb, r1, hlt2⟩ := laid1 hb
  go_wp2_with fail
  go_ret
  exact ⟨rfl, HB2.out.trans (hb.mono HB2.out.size)⟩
end Go.Proofs.Ytanodbpeeahmaaa
