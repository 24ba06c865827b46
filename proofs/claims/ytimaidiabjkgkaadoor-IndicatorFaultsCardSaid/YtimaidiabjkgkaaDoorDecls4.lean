/- Four contacts declared side by side. No statement of the seat is proved here. -/
import Derived.Test.YtimaidiabjkgkaaDoorDecls
namespace Go.Proofs.YtimaidiabjkgkaaDoor
open Go.RowKit Ghost

def zeroCt : Array Value := #[.int .u32 0, .bool false, .bool false, .bool false, .bool false]
def decl4 (C : Array Value) (k : Nat) : Decl := ⟨4 + k, 8 + k, 28, zeroCt, C⟩
def decls4 (C : Array Value) : List Decl := [decl4 C 0, decl4 C 1, decl4 C 2, decl4 C 3]
theorem mem4 (C : Array Value) {k : Nat} (h : k < 4) : decl4 C k ∈ decls4 C := by
  rcases (show k = 0 ∨ k = 1 ∨ k = 2 ∨ k = 3 from by omega) with rfl | rfl | rfl | rfl <;> simp [decls4]
theorem al4 (C : Array Value) {k : Nat} : ∀ e ∈ decls4 C, e.al = (decl4 C k).al → e = decl4 C k := by
  intro e he h
  simp only [decls4, List.mem_cons, List.not_mem_nil, or_false] at he
  rcases he with rfl | rfl | rfl | rfl
  · simp only [decl4] at h
    obtain rfl : k = 0 := by omega
    rfl
  · simp only [decl4] at h
    obtain rfl : k = 1 := by omega
    rfl
  · simp only [decl4] at h
    obtain rfl : k = 2 := by omega
    rfl
  · simp only [decl4] at h
    obtain rfl : k = 3 := by omega
    rfl
theorem st4 (C : Array Value) {k : Nat} : ∀ e ∈ decls4 C, e.st = (decl4 C k).st → e = decl4 C k := fun e he h => al4 C e he (by
  simp only [decls4, List.mem_cons, List.not_mem_nil, or_false] at he
  rcases he with rfl | rfl | rfl | rfl <;> (simp only [decl4] at h ⊢; omega))
end Go.Proofs.YtimaidiabjkgkaaDoor
