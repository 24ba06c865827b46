/- What the law FrameReads rests on: both readers of both sides answer alike for any text; bytes that came in; a literal of five strings. No statement of the seat is proved here. -/
import Derived.Test.YthbfpdkgbkpmiaaG42
import Derived.Test.YthbfpdkgbkpmiaaFrRdIn
import Derived.Test.YthbfpdkgbkpmiaaFrRdOut
namespace Go.Proofs.Ythbfpdkgbkpmiaa
open Go Go.RowKit Frm

theorem ReadOE_no' {x : BldD} {s : ByteArray} {code : Int} (h1 : openOkOut x s) (h2 : readOkOut x s) : ¬ ReadOE x s code := by
  obtain ⟨a, b, c, d⟩ := h1
  rintro (h | h | h | h | h)
  · exact h.1 a
  · exact h.2.1 b
  · exact h.2.2.1 c
  · rw [h.2.2.2.1] at d; cases d
  · exact h.2.1 h2

/-- Some text stands for one thing alone, or for one error. -/
theorem rdIn_one (x : BldD) (s : ByteArray) (hx : x.cars.length ≤ 1000) : ∃ (y : In) (c : Int), y.cars.length ≤ 1000 ∧ ∀ e w', RdInAns x s e w' → ∃ A cp, e = .returned (.tuple #[inAgg y A cp, .int .i64 c]) ∧ CarsV w' A y.cars := by
  by_cases hg : openOkIn x s ∧ readOkIn x s
  · refine ⟨inOf x s, 0, by rw [inOf_length]; exact hx, fun e w' h => ?_⟩
    rcases h with ⟨_, _, A, cp, hv, rfl⟩ | ⟨c, hc, _⟩
    · exact ⟨A, cp, rfl, hv⟩
    · exact absurd hc (ReadE_no hg.1 hg.2)
  · by_cases hc : ∃ c, ReadE x s c
    · obtain ⟨c, hc⟩ := hc
      refine ⟨zeroIn, c, Nat.zero_le _, fun e w' h => ?_⟩
      rcases h with ⟨h1, h2, _⟩ | ⟨d, hd, _, rfl⟩
      · exact absurd ⟨h1, h2⟩ hg
      · rw [readE_one hd hc]
        exact ⟨none, 0, rfl, .inl rfl⟩
    · refine ⟨zeroIn, 0, Nat.zero_le _, fun e w' h => ?_⟩
      rcases h with ⟨h1, h2, _⟩ | ⟨d, hd, _⟩
      · exact absurd ⟨h1, h2⟩ hg
      · exact absurd ⟨d, hd⟩ hc
theorem rdOu_one (x : BldD) (s : ByteArray) (hx : x.cars.length ≤ 1000) : ∃ (y : Ou) (c : Int), y.cars.length ≤ 1000 ∧ ∀ e w', RdOutAns x s e w' → ∃ A cp, e = .returned (.tuple #[ouAgg y A cp, .int .i64 c]) ∧ CosV w' A y.cars := by
  by_cases hg : openOkOut x s ∧ readOkOut x s
  · refine ⟨ouOf x s, 0, by rw [ouOf_length]; exact hx, fun e w' h => ?_⟩
    rcases h with ⟨_, _, A, cp, hv, rfl⟩ | ⟨c, hc, _⟩
    · exact ⟨A, cp, rfl, hv⟩
    · exact absurd hc (ReadOE_no' hg.1 hg.2)
  · by_cases hc : ∃ c, ReadOE x s c
    · obtain ⟨c, hc⟩ := hc
      refine ⟨zeroOu, c, Nat.zero_le _, fun e w' h => ?_⟩
      rcases h with ⟨h1, h2, _⟩ | ⟨d, hd, _, rfl⟩
      · exact absurd ⟨h1, h2⟩ hg
      · rw [readOE_one hd hc]
        exact ⟨none, 0, rfl, .inl rfl⟩
    · refine ⟨zeroOu, 0, Nat.zero_le _, fun e w' h => ?_⟩
      rcases h with ⟨h1, h2, _⟩ | ⟨d, hd, _⟩
      · exact absurd ⟨h1, h2⟩ hg
      · exact absurd ⟨d, hd⟩ hc

/-- Four readers, one answer each way. -/
theorem reads_one (x : BldD) (A : Option Addr) (cap : Nat) (s : ByteArray) (hx : x.cars.length ≤ 1000) (hs : s.size ≤ maxLen) : ∃ (y : In) (c : Int) (z : Ou) (d : Int), y.cars.length ≤ 1000 ∧ z.cars.length ≤ 1000 ∧
    ∀ w, CarsAt w w.heap.size A x.cars →
      Calls Try.prog 13 #[x.agg A cap, .string s] w (fun e w' => Below w.heap.size w w' ∧ ∃ A' cp, e = .returned (.tuple #[inAgg y A' cp, .int .i64 c]) ∧ CarsV w' A' y.cars) ∧
      Calls Try.prog 23 #[x.agg A cap, .string s] w (fun e w' => Below w.heap.size w w' ∧ ∃ A' cp, e = .returned (.tuple #[inAgg y A' cp, .int .i64 c]) ∧ CarsV w' A' y.cars) ∧
      Calls Try.prog 18 #[x.agg A cap, .string s] w (fun e w' => Below w.heap.size w w' ∧ ∃ A' cp, e = .returned (.tuple #[ouAgg z A' cp, .int .i64 d]) ∧ CosV w' A' z.cars) ∧
      Calls Try.prog 24 #[x.agg A cap, .string s] w (fun e w' => Below w.heap.size w w' ∧ ∃ A' cp, e = .returned (.tuple #[ouAgg z A' cp, .int .i64 d]) ∧ CosV w' A' z.cars) := by
  obtain ⟨y, c, hy, h1⟩ := rdIn_one x s hx
  obtain ⟨z, d, hz, h2⟩ := rdOu_one x s hx
  have hxn : x.cars.length ≤ 140737488355328 := by omega
  refine ⟨y, c, z, d, hy, hz, fun w hc => ⟨?_, ?_, ?_, ?_⟩⟩
  · refine (readInTop_any x A cap s w hxn hc hs).mono ?_
    rintro e w' ⟨hb, h⟩
    refine ⟨hb, h1 e w' ?_⟩
    rcases h with ⟨a1, a2, g, a3, a4⟩ | h
    · exact .inl ⟨a1, a2, _, _, a3, a4⟩
    · exact .inr h
  · exact (refReadIn_any x A cap s w hxn hc hs).mono fun e w' h => ⟨h.1, h1 e w' h.2⟩
  · refine (rdOutTop_any x A cap s w hxn hc hs).mono ?_
    rintro e w' ⟨hb, h⟩
    refine ⟨hb, h2 e w' ?_⟩
    rcases h with ⟨a1, a2, g, a3, a4⟩ | h
    · exact .inl ⟨a1, a2, _, _, a3, a4⟩
    · exact .inr h
  · exact (refReadOut_any x A cap s w hxn hc hs).mono fun e w' h => ⟨h.1, h2 e w' h.2⟩

/-- Bytes that came in, by their address. -/
def MBy (w : World) (am : Option Addr) (ms : List UInt8) : Prop := (am = none ∧ ms = []) ∨ ∃ a, am = some a ∧ ∀ j, j < ms.length → w.cell? (a.add j) = some (.int .u8 (((ms.getD j 0).toNat : Nat) : Int))
theorem mby_of {w : World} {v : Value} {ms : List UInt8} (h : MBytes w v ms) : ∃ am cap, v = .slice am ms.length cap ∧ MBy w am ms := by
  rcases h with ⟨rfl, rfl⟩ | ⟨a, cap, rfl, h⟩
  · exact ⟨none, 0, rfl, .inl ⟨rfl, rfl⟩⟩
  · exact ⟨some a, cap, rfl, .inr ⟨a, rfl, h⟩⟩
theorem MBy.below {w w' : World} {am : Option Addr} {ms : List UInt8} (h : MBy w am ms) (hb : Below w.heap.size w w') : MBy w' am ms := by
  rcases h with h | ⟨a, ha, h⟩
  · exact .inl h
  · exact .inr ⟨a, ha, fun j hj => (hb.cell (World.block_lt_of_cell? w _ (h j hj))).trans (h j hj)⟩
theorem MBy.back {w : World} {am : Option Addr} {ms : List UInt8} (h : MBy w am ms) (cap : Nat) : (convert 55 9 (.slice am ms.length cap)).run Try.prog w = .ok (.string ⟨ms.toArray⟩) w := by
  rcases h with ⟨rfl, rfl⟩ | ⟨a, rfl, h⟩
  · rw [run_convert_bytes_string w 55 9 5 none ([] : List UInt8).length cap (by kernel_rfl) (by kernel_rfl) (by kernel_rfl)]
    rfl
  · refine run_convert_bytes_back w 55 9 5 a cap ms (by kernel_rfl) (by kernel_rfl) (by kernel_rfl) fun j hj => ?_
    rw [h j hj]
    simp [List.getD, hj]
/-- A literal of five strings. -/
theorem wp_five {o : Oper} {a : Act} {w : World} {K : Act → World → Prop} {Q : Exit → Act → World → Prop} (x0 x1 x2 x3 x4 : Operand) (ho : o.op = .buildSlice 56 5 #[(0, x0), (1, x1), (2, x2), (3, x3), (4, x4)]) (s0 s1 s2 s3 s4 : ByteArray)
    (h0 : a.eval x0 = .string s0) (h1 : a.eval x1 = .string s1) (h2 : a.eval x2 = .string s2) (h3 : a.eval x3 = .string s3) (h4 : a.eval x4 = .string s4)
    (h : K (a.put o.dst (.slice (some ⟨w.heap.size, 0, none⟩) 5 5)) (w.alloc (.cells #[.string s0, .string s1, .string s2, .string s3, .string s4] 9))) : o.wp Try.prog a w K Q := by
  obtain ⟨i, hi, hz, hsz, _⟩ := info_parts strInfoB
  refine wp_buildSlice 56 9 5 _ ho #[.string s0, .string s1, .string s2, .string s3, .string s4] i _ Try.underlying56 hi hz (by rw [hsz]; decide) (by rw [hsz]; decide) ?_ h
  rw [hsz]
  have e : ((#[(0, x0), (1, x1), (2, x2), (3, x3), (4, x4)] : Array (Nat × Operand)).map fun (i, x) => (i, a.eval x)).toList = [(0, .string s0), (1, .string s1), (2, .string s2), (3, .string s3), (4, .string s4)] := by
    simp [h0, h1, h2, h3, h4]
  have er : Array.range (5 * 1) = #[0, 1, 2, 3, 4] := by decide
  rw [e, er]
  simp [Instr.fill, Value.cells]
theorem conv_bytesC (w : World) (l : List UInt8) : ∃ c R fr, (convert 9 55 (.string ⟨l.toArray⟩)).run Try.prog w = .ok (.slice (some ⟨w.heap.size, 0, none⟩) l.length c) (w.drew.alloc (.cells R 5 (fr, fr + 1))) ∧
    FlipRel w w.heap.size l (w.alloc (.cells R 5 (fr, fr + 1))).drew ∧ l.length ≤ c := by
  have hz : (⟨l.toArray⟩ : ByteArray).size = l.length := List.size_toArray ..
  have hconv := run_bytes_of_string (P := Try.prog) w 9 55 5 ⟨l.toArray⟩ (by kernel_rfl) (by kernel_rfl) (by kernel_rfl)
  have hnew := flipRel_new w ⟨l.toArray⟩ 5 (grownCap w (⟨l.toArray⟩ : ByteArray).size 0 5) (bytesRow ⟨l.toArray⟩ (grownCap w (⟨l.toArray⟩ : ByteArray).size 0 5)).size (by simp only [bytesRow, Array.size_append, Array.size_map, Array.size_replicate]; show l.toArray.size ≤ _; simp [ByteArray.size])
  rw [hz] at hconv hnew
  exact ⟨_, _, _, hconv, ⟨hnew.1, ((Below.refl _ _).alloc (Nat.le_refl _) _).drew, hnew.2.2⟩, by rw [← hz]; exact grownCap_ge _ _ _ _⟩
theorem BytesAt.take {W : World} {g : Nat} {l : List UInt8} (h : BytesAt W g l) (k : Nat) : BytesAt W g (l.take k) := by
  intro j hj
  rw [List.length_take] at hj
  have e : (l.take k).getD j 0 = l.getD j 0 := by
    simp only [List.getD_eq_getElem?_getD, List.getElem?_take_of_lt (show j < k by omega)]
  rw [e]
  exact h j (by omega)
/-- One of five. -/
theorem five_at (s0 s1 s2 s3 s4 : ByteArray) (h0 : s0.size ≤ maxLen) (h1 : s1.size ≤ maxLen) (h2 : s2.size ≤ maxLen) (h3 : s3.size ≤ maxLen) (h4 : s4.size ≤ maxLen) (q : Nat) (hq : q < 5) :
    ∃ S : ByteArray, S.size ≤ maxLen ∧ (#[Value.string s0, .string s1, .string s2, .string s3, .string s4] : Array Value)[q]? = some (.string S) := by
  rcases q with _ | _ | _ | _ | _ | q
  · exact ⟨s0, h0, rfl⟩
  · exact ⟨s1, h1, rfl⟩
  · exact ⟨s2, h2, rfl⟩
  · exact ⟨s3, h3, rfl⟩
  · exact ⟨s4, h4, rfl⟩
  · omega
/-- A region in which one row is made. -/
def Five (W : World) (row : Obj) (p : Nat) (wx : World) : Prop := Below W.heap.size W wx ∧ (if p = 0 then wx.heap.size = W.heap.size else wx.heap[W.heap.size]? = some row)
theorem Five.start (W : World) (row : Obj) : Five W row 0 W := ⟨Below.refl _ _, rfl⟩
theorem Five.make {W wx : World} {row : Obj} (h : Five W row 0 wx) : Five W row 1 (wx.alloc row) := by
  have hz : wx.heap.size = W.heap.size := h.2
  refine ⟨h.1.alloc (by omega) row, ?_⟩
  have := heap_alloc_new wx row
  rw [hz] at this
  exact this
end Go.Proofs.Ythbfpdkgbkpmiaa
