/- crc.end, crc.Seal and crc.Open. No statement of the seat is proved here. -/
import Derived.Test.YtapkookehogddaaCrcRefSum
import Derived.Test.YtapkookehogddaaBag
namespace Go.Proofs.Ytapkookehogddaa
open Go.RowKit

/-- The two bytes of a sum. -/
def two (n : Nat) : List UInt8 := [UInt8.ofNat (n / 256), UInt8.ofNat (n % 256)]
def endL (l : List UInt8) : List UInt8 := two (sum16 l)

theorem app_bl (s : ByteArray) (l : List UInt8) : s ++ (⟨l.toArray⟩ : ByteArray) = ⟨(bl s ++ l).toArray⟩ := by
  obtain ⟨⟨d⟩⟩ := s
  rw [ByteArray.mk_append_mk]
theorem two_len (n : Nat) : (two n).length = 2 := rfl
theorem bytes_u (l : List UInt8) : bl ⟨l.toArray⟩ = l := rfl

theorem conv2 (w : World) (n : Nat) (hn : n < 65536) :
    (convert 35 9 (.slice (some ⟨w.heap.size, 0, none⟩) 2 2)).run Try.prog (w.alloc (.cells #[.int .u8 ((n : Int) / 256), .int .u8 ((n : Int) % 256)] 5)) =
      .ok (.string ⟨(two n).toArray⟩) (w.alloc (.cells #[.int .u8 ((n : Int) / 256), .int .u8 ((n : Int) % 256)] 5)) := by
  refine run_convert_bytes_back _ _ _ 5 _ 2 (two n) (by kernel_rfl) (by kernel_rfl) (by kernel_rfl) ?_
  intro j hj
  have hj' : j < 2 := hj
  have ha : (Addr.add ⟨w.heap.size, 0, none⟩ j) = ⟨w.heap.size, j, none⟩ := by unfold Addr.add; split <;> simp_all
  rw [ha, cell_of_row _ _ _ _ _ (0, 0) (heap_alloc_new w _)]
  have e0 : ((two n)[0]'(by rw [two_len]; omega)).toNat = n / 256 := by simp [two]; omega
  have e1 : ((two n)[1]'(by rw [two_len]; omega)).toNat = n % 256 := by simp [two]
  have h01 : j = 0 ∨ j = 1 := by omega
  rcases h01 with rfl | rfl
  · rw [e0]; exact congrArg some (congrArg (Value.int .u8) (by omega))
  · rw [e1]; exact congrArg some (congrArg (Value.int .u8) (by omega))

/-- A sealed string. -/
def sealL (l : List UInt8) : List UInt8 := l ++ endL l
theorem sealL_length (l : List UInt8) : (sealL l).length = l.length + 2 := by simp [sealL, endL, two_len]

/-- What Open gives: the string and the error's number. -/
def openOk (l : List UInt8) : Bool := decide (2 ≤ l.length ∧ l.drop (l.length - 2) = endL (l.take (l.length - 2)))
def openS (l : List UInt8) : List UInt8 := if openOk l then l.take (l.length - 2) else []
def openE (l : List UInt8) : Int := if l.length < 2 then 4 else if openOk l then 0 else 5

theorem openOk_at {l : List UInt8} (h : 2 ≤ l.length) : openOk l = (l.drop (l.length - 2) == endL (l.take (l.length - 2))) := by
  unfold openOk
  rw [Bool.eq_iff_iff]
  simp [h]
theorem openOk_small {l : List UInt8} (h : l.length < 2) : openOk l = false := by unfold openOk; simp; omega

theorem bl_take (s : ByteArray) (c : Nat) : bl (s.extract 0 c) = (bl s).take c := by
  show (s.extract 0 c).data.toList = s.data.toList.take c
  rw [ByteArray.data_extract, Array.toList_extract, List.extract_eq_take_drop]
  rfl
theorem bl_drop (s : ByteArray) (c : Nat) : (s.extract c s.size).toList = (bl s).drop c := by
  rw [ByteArray.toList_eq]
  show (s.extract c s.size).data.toList = s.data.toList.drop c
  rw [ByteArray.data_extract, Array.toList_extract, List.extract_eq_take_drop]
  exact List.take_of_length_le (by rw [List.length_drop]; exact Nat.le_refl _)
theorem bl_len (s : ByteArray) : (bl s).length = s.size := Array.length_toList
theorem bl_mk (s : ByteArray) : (⟨(bl s).toArray⟩ : ByteArray) = s := by obtain ⟨⟨d⟩⟩ := s; rfl
theorem ret_open {a a' : ByteArray} {b b' : Int} (h : a = a') (k : b = b') : Ending.returned (.tuple #[.string a, .int .i64 b]) = .returned (.tuple #[.string a', .int .i64 b']) := by rw [h, k]

end Go.Proofs.Ytapkookehogddaa
