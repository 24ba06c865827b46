/- Rows of float64 and of int in memory. No statement of the seat is proved here. -/
import Derived.Test.YtgfejleemacabaaMem
import Derived.Deep.AppendLies
import Derived.Laws.OwnMore
namespace Go.Proofs.Ytgfejleemacabaa
open Go.RowKit

def flts (zs : List Nat) : List Value := zs.map fun z => .float .f64 z
theorem flts_len (zs : List Nat) : (flts zs).length = zs.length := by simp [flts]
theorem flts_app (a b : List Nat) : flts (a ++ b) = flts a ++ flts b := by simp [flts]
theorem flts_one (zs : List Nat) : ∀ u ∈ flts zs, u.oneCell' = true := by
  intro u hu
  simp only [flts, List.mem_map] at hu
  obtain ⟨z, -, rfl⟩ := hu
  rfl
def nums (zs : List Int) : List Value := zs.map fun z => .int .i64 z
theorem nums_len (zs : List Int) : (nums zs).length = zs.length := by simp [nums]
theorem nums_app (a b : List Int) : nums (a ++ b) = nums a ++ nums b := by simp [nums]
theorem nums_one (zs : List Int) : ∀ u ∈ nums zs, u.oneCell' = true := by
  intro u hu
  simp only [nums, List.mem_map] at hu
  obtain ⟨z, -, rfl⟩ := hu
  rfl
theorem fltInfo : (Try.prog.info? 22).map (fun i => (i.zero, i.size, i.bytes)) = some (some (.float .f64 0), 1, 8) := by kernel_rfl
theorem intInfo : (Try.prog.info? 3).map (fun i => (i.zero, i.size, i.bytes)) = some (some (.int .i64 0), 1, 8) := by kernel_rfl

/-- Values at an address, and as a slice. -/
def VAt (w : World) (A : Option Addr) (vs : List Value) : Prop := vs = [] ∨ ∃ b off, A = some ⟨b, off, none⟩ ∧ b < w.heap.size ∧ ∀ j, j < vs.length → w.cell? ⟨b, off + j, none⟩ = vs[j]?
def VV (w : World) (v : Value) (vs : List Value) : Prop := ∃ A cap, v = .slice A vs.length cap ∧ VAt w A vs
theorem VAt.below {w w' : World} {A : Option Addr} {l : List Value} (h : VAt w A l) (hb : Below w.heap.size w w') : VAt w' A l := by
  rcases h with h | ⟨b, off, hA, hlt, hr⟩
  · exact .inl h
  · exact .inr ⟨b, off, hA, Nat.lt_of_lt_of_le hlt hb.size, fun j hj => (hb.cell (p := ⟨b, _, none⟩) hlt).trans (hr j hj)⟩
theorem VV.below {w w' : World} {v : Value} {l : List Value} (h : VV w v l) (hb : Below w.heap.size w w') : VV w' v l := by
  obtain ⟨A, cap, hv, hA⟩ := h
  exact ⟨A, cap, hv, hA.below hb⟩
theorem VAt.flt {w : World} {A : Option Addr} {l : List Nat} (h : VAt w A (flts l)) {k : Nat} (hk : k < l.length) : ∃ b off, A = some ⟨b, off, none⟩ ∧ b < w.heap.size ∧ w.cell? ⟨b, off + k, none⟩ = some (.float .f64 l[k]) := by
  rcases h with h | ⟨b, off, hA, hlt, hr⟩
  · have := congrArg List.length h; rw [flts_len] at this; simp at this; subst this; simp at hk
  · refine ⟨b, off, hA, hlt, (hr k (by rw [flts_len]; exact hk)).trans ?_⟩
    simp [flts, hk]
theorem VAt.num {w : World} {A : Option Addr} {l : List Int} (h : VAt w A (nums l)) {k : Nat} (hk : k < l.length) : ∃ b off, A = some ⟨b, off, none⟩ ∧ b < w.heap.size ∧ w.cell? ⟨b, off + k, none⟩ = some (.int .i64 l[k]) := by
  rcases h with h | ⟨b, off, hA, hlt, hr⟩
  · have := congrArg List.length h; rw [nums_len] at this; simp at this; subst this; simp at hk
  · refine ⟨b, off, hA, hlt, (hr k (by rw [nums_len]; exact hk)).trans ?_⟩
    simp [nums, hk]
theorem VV.of_own {w : World} {base n : Nat} {e : TypeId} {v : Value} {vs : List Value} (h : w.ownsRow base e 1 v n vs) : n = vs.length ∧ VV w v vs := by
  have hl : vs.length = n := by have := h.1; omega
  refine ⟨hl.symm, ?_⟩
  rcases Nat.eq_zero_or_pos n with h0 | h0
  · subst h0
    rcases h.2 with ⟨hv, -⟩ | ⟨g, cap, cur, hv, -⟩
    · exact ⟨none, 0, by rw [hv, hl], .inl (List.eq_nil_of_length_eq_zero hl)⟩
    · exact ⟨_, cap, by rw [hv, hl], .inl (List.eq_nil_of_length_eq_zero hl)⟩
  · obtain ⟨g, cap, hv, _, hlt⟩ := h.form h0
    subst hv
    refine ⟨_, cap, by rw [hl], .inr ⟨g, 0, rfl, hlt, fun j hj => ?_⟩⟩
    rw [Nat.zero_add]
    exact World.ownsRow.cellAt h j (by omega)
theorem ownRow_new {w : World} {base n : Nat} {cs : Array Value} {e : TypeId} (hb : base ≤ w.heap.size) (hn : cs.size = n) (hle : n ≤ 1000000) : (w.alloc (.cells cs e)).ownsRow base e 1 (.slice (some ⟨w.heap.size, 0, none⟩) n n) n cs.toList :=
  World.ownsRow_lit w cs n hb (by unfold maxLen; omega) (by omega)
end Go.Proofs.Ytgfejleemacabaa
