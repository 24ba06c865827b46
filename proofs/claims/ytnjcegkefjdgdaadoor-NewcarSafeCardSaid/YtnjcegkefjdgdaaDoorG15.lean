/- What the texts behind this one rest on: several texts in one. No statement of the seat is proved here. -/
import Derived.Test.YtnjcegkefjdgdaaDoorG14
namespace Go.Proofs.YtnjcegkefjdgdaaDoor
section
open Go.RowKit
end

section
open Go.RowKit

theorem shl_one {k : Nat} (h : k < 32) : (2 : Int) ^ k % 4294967296 = ((2 ^ k : Nat) : Int) := by
  have := Ct.bit_lt h
  have e : (2 : Int) ^ k = ((2 ^ k : Nat) : Int) := by rw [Int.natCast_pow]; rfl
  rw [e]
  generalize 2 ^ k = x at *
  omega
end
end Go.Proofs.YtnjcegkefjdgdaaDoor
