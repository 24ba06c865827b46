/- Bytes that came in, copied onto a new row: a part of the law FrameOne. No statement of the seat is proved here. -/
import Derived.Test.YtcggngggkngbjaaFrameSane
import Derived.ChangeSame
import Derived.ChangeOld
import Derived.ChangeMaps5
namespace Go.Proofs.Ytcggngggkngbjaa
open Go.RowKit Frm

theorem ReadE_31 {x : BldD} {s : ByteArray} {code : Int} (h1 : openOkIn x s) (h : ReadE x s code) : code = 31 := by
  obtain ⟨a, b, c, d⟩ := h1
  rcases h with h | h | h | h | h
  · exact absurd a h.1
  · exact absurd b h.2.1
  · exact absurd c h.2.2.1
  · rw [h.2.2.2.1] at d; cases d
  · exact h.2.2

/-- A slice of bytes that came in. -/
def MBytes (w : World) (v : Value) (ms : List UInt8) : Prop :=
  (v = .slice none 0 0 ∧ ms = []) ∨ ∃ a cap, v = .slice (some a) ms.length cap ∧ ∀ j, j < ms.length → w.cell? (a.add j) = some (.int .u8 (((ms.getD j 0).toNat : Nat) : Int))

theorem make_bytes' (n : Nat) (hn : n ≤ 1000000) : ∃ C : Array Value, C = Array.replicate n (.int .u8 0) ∧ ∀ w : World, (Instr.makeSlice 55 (.int .i64 n) (.int .i64 n)).run Try.prog w = .ok (.slice (some ⟨w.heap.size, 0, none⟩) n n) (w.alloc (.cells C 5)) := by
  refine ⟨_, rfl, fun w => ?_⟩
  have := run_make (P := Try.prog) w 55 5 Try.t5 (.int .u8 0) Try.underlying55 (by kernel_rfl) (by kernel_rfl) .i64 .i64 n n (by omega) (Int.le_refl _) (by show ((1 : Nat) : Int) * (n : Int) ≤ _; omega) (by omega)
  rw [this, Int.toNat_natCast]
  have e : madeCells (Value.int .u8 0).cells (n * (Try.t5).size) = Array.replicate n (.int .u8 0) := by
    apply Array.ext
    · rw [size_madeCells, Array.size_replicate]; show n * 1 = n; omega
    · intro i h1 h2
      have hi : i % 1 = 0 := Nat.mod_one i
      simp [madeCells, Value.cells, hi]
  rw [e]

theorem frozen_row {w : World} {g : Nat} {cs : Array Value} {t : TypeId} (hg : w.heap[g]? = some (.cells cs t (0, 0))) (j : Nat) : w.frozen? ⟨g, j, none⟩ = false := by simp [World.frozen?, hg]

/-- Bytes that were copied onto a new row of zeros: all of it are bytes. -/
theorem copy_bytes (w : World) (n : Nat) (v : Value) (ms : List UInt8) (ty : TypeId) (h : MBytes w v ms) :
    ∃ L w' k, (Builtin.copy_ #[55, 55] ty #[.slice (some ⟨w.heap.size, 0, none⟩) n n, v]).run Try.prog (w.alloc (.cells (Array.replicate n (.int .u8 0)) 5)) = .ok k w' ∧ L.length = n ∧ BytesAt w' w.heap.size L ∧ Below w.heap.size w w' ∧ w'.heap.size = w.heap.size + 1 := by
  have hlw : ∀ o p, p.block < w.heap.size → (w.alloc o).cell? p = w.cell? p := fun o p hp => World.cell?_of_block (w := w) (Below.heap_alloc w o p.block hp)
  have hg := heap_alloc_new w (.cells (Array.replicate n (.int .u8 0)) 5)
  have hb0 : Below w.heap.size w (w.alloc (.cells (Array.replicate n (.int .u8 0)) 5)) := (Below.refl _ _).alloc (Nat.le_refl _) _
  rcases h with ⟨rfl, rfl⟩ | ⟨a, cap, rfl, hc⟩
  · refine ⟨List.replicate n 0, w.alloc (.cells (Array.replicate n (.int .u8 0)) 5), goInt 0, ?_, by simp, fun j hj => ⟨?_, ?_⟩, hb0, by simp⟩
    · have hu := Try.underlying55
      obtain ⟨i, hi, hz, hsize, hby⟩ := info_parts byteInfo
      simp [Builtin.copy_, run_underlying hu, Builtin.lenOf, Builtin.firstCells, sizeOf, typeInfo, hi, storeCells]
    · rw [cell_of_row _ _ _ _ _ (0, 0) hg]
      have hj' : j < n := by simpa using hj
      simp [hj', List.getD]
    · exact frozen_row hg j
  · have hkk : Nat.min ms.length n ≤ n := Nat.min_le_right _ _
    have hkl : Nat.min ms.length n ≤ ms.length := Nat.min_le_left _ _
    have hcl : ((ms.take (Nat.min ms.length n)).map fun b => Value.int .u8 ((b.toNat : Nat) : Int)).length = Nat.min ms.length n := by rw [List.length_map, List.length_take]; omega
    have hr := run_copy_row (P := Try.prog) (w.alloc (.cells (Array.replicate n (.int .u8 0)) 5)) 55 55 ty 5 w.heap.size 0 n n a ms.length cap (Array.replicate n (.int .u8 0)) 5 ((ms.take (Nat.min ms.length n)).map fun b => Value.int .u8 ((b.toNat : Nat) : Int)) Try.underlying55 (by
      obtain ⟨i, hi, hz, hsize, hby⟩ := info_parts byteInfo
      rw [hi]; simp [hsize]) hg hcl (fun j u hu => by
        rw [List.getElem?_map] at hu
        cases hq : (ms.take (Nat.min ms.length n))[j]? with
        | none => rw [hq] at hu; cases hu
        | some b =>
          rw [hq] at hu
          simp only [Option.map_some, Option.some.injEq] at hu
          have hj : j < ms.length := by have := (List.getElem?_eq_some_iff.1 hq).1; rw [List.length_take] at this; omega
          have hbq : ms.getD j 0 = b := by
            rw [List.getElem?_take] at hq
            split at hq
            · rw [List.getD_eq_getElem?_getD, hq]; rfl
            · cases hq
          have h1 := hc j hj
          rw [hlw _ _ (World.block_lt_of_cell? w _ h1), h1, ← hu, hbq]) (by rw [hcl]; simp; exact hkk) (by
        intro u hu
        rw [List.mem_map] at hu
        obtain ⟨b, _, rfl⟩ := hu
        rfl)
    refine ⟨ms.take (Nat.min ms.length n) ++ List.replicate (n - Nat.min ms.length n) 0, _, _, hr, ?_, fun j hj => ⟨?_, ?_⟩, ?_, by simp⟩
    · rw [List.length_append, List.length_take, List.length_replicate]; omega
    · have hlen : (ms.take (Nat.min ms.length n)).length = Nat.min ms.length n := by rw [List.length_take]; omega
      rw [List.length_append, hlen, List.length_replicate] at hj
      rw [cell_of_row _ _ _ _ _ (0, 0) (setRow_heap _ _ _ _ _ _ hg)]
      have hjn : j < n := by omega
      by_cases hjk : j < Nat.min ms.length n
      · have h1 : (ms.take (Nat.min ms.length n))[j]? = some ((ms.take (Nat.min ms.length n))[j]'(by omega)) := List.getElem?_eq_getElem (by omega)
        simp only [List.take_zero, List.nil_append, List.getElem?_toArray]
        rw [List.getElem?_append_left (by rw [hcl]; exact hjk), List.getElem?_map, h1, List.getD_eq_getElem?_getD, List.getElem?_append_left (by omega), h1]
        rfl
      · simp only [List.take_zero, List.nil_append, List.getElem?_toArray]
        rw [List.getElem?_append_right (by rw [hcl]; omega), hcl, List.getD_eq_getElem?_getD, List.getElem?_append_right (by omega), hlen]
        simp only [Array.toList_replicate, List.drop_replicate, List.getElem?_replicate, Nat.zero_add]
        rw [if_pos (by omega), if_pos (by omega)]
        rfl
    · exact frozen_row (setRow_heap _ _ _ _ _ _ hg) j
    · refine hb0.trans ⟨rfl, rfl, rfl, by simp, fun k hk => setRow_other _ _ _ _ (by omega)⟩

end Go.Proofs.Ytcggngggkngbjaa
