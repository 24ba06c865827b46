/- Run of contact and of the reference, as the laws call them. No statement of the seat is proved here. -/
import Derived.Test.YtcobcefefifmcaaCtOpen
import Derived.Test.YtcobcefefifmcaaCtRefRun
namespace Go.Proofs.Ytcobcefefifmcaa
open Go.RowKit

def runS (n : Int) (s : Db) (l : List Ct) : Db := if s.isB n then s.run n l else Db.zero
def runL (n : Int) (s : Db) (l : List Ct) : List Ct := if s.isB n then s.outs n l else []
def runE (n : Int) (s : Db) : Int := if s.isB n then 0 else 1
theorem runS_ok {n : Int} {s : Db} {l : List Ct} (h : s.ok) : (runS n s l).ok := by
  unfold runS; split
  · exact Db.ok_run h l
  · exact Db.zero_okD
theorem LV_row {w : World} {g : Nat} {l : List Ct} (h : w.heap[g]? = some (.cells (flat l).toArray 24 (0, 0))) : LV w (.slice (some ⟨g, 0, none⟩) l.length l.length) l :=
  ⟨some ⟨g, 0, none⟩, l.length, rfl, .inr ⟨g, 0, rfl, fun j v hv => by rw [Nat.zero_add, cell_of_row _ _ _ _ _ (0, 0) h]; simpa using hv⟩⟩
theorem row_at {w : World} {g : Nat} {l : List Ct} (h : w.heap[g]? = some (.cells (flat l).toArray 24 (0, 0))) {i : Nat} (hi : i < l.length) :
    w.cell? ⟨g, i * 5, none⟩ = some (.int .u32 (l[i]).fl) ∧ w.cell? ⟨g, i * 5 + 1, none⟩ = some (.bool (l[i]).up) ∧ w.cell? ⟨g, i * 5 + 2, none⟩ = some (.bool (l[i]).dn) ∧ w.cell? ⟨g, i * 5 + 3, none⟩ = some (.bool (l[i]).opn) ∧ w.cell? ⟨g, i * 5 + 4, none⟩ = some (.bool (l[i]).cls) := by
  have hc := fun j v (hj : j < 5) (e : (l[i]).cells[j]? = some v) => (cell_of_row w g (i * 5 + j) _ _ (0, 0) h).trans ((List.getElem?_toArray ..).trans ((flat_get l i hi j hj).trans e))
  exact ⟨hc 0 _ (by omega) rfl, hc 1 _ (by omega) rfl, hc 2 _ (by omega) rfl, hc 3 _ (by omega) rfl, hc 4 _ (by omega) rfl⟩
theorem runAll_any (n : Int) (s : Db) (l : List Ct) (v : Value) (w : World) (hs : s.ok) (hl : ∀ c ∈ l, c.ok) (hlen : l.length ≤ 5000) (hv : LV w v l) :
    Calls Try.prog 18 #[.int .i64 n, .agg s.cells, v] w fun e w' => ∃ v', e = .returned (.tuple #[.agg (runS n s l).cells, v', .int .i64 (runE n s)]) ∧ LV w' v' (runL n s l) ∧ Below w.heap.size w w' := by
  obtain ⟨A, cap, rfl, hA⟩ := hv
  unfold runS runL runE
  cases h : s.isB n
  · exact (run_bad n s A l.length cap w hs h (by omega)).mono fun e w' ⟨he, hb⟩ => ⟨_, he, ⟨none, 0, rfl, .inl rfl⟩, hb⟩
  · refine (run_good n s l A cap w hs hl h hlen hA).mono fun e w' ⟨g, he, _, hg, hb⟩ => ⟨_, he, ?_, hb⟩
    have := LV_row hg
    rw [Db.outs_len] at this
    exact this
theorem refRunAll_any (n : Int) (s : Db) (l : List Ct) (v : Value) (w : World) (hs : s.ok) (hl : ∀ c ∈ l, c.ok) (hlen : l.length ≤ 5000) (hv : LV w v l) :
    Calls Try.prog 19 #[.int .i64 n, .agg s.cells, v] w fun e w' => ∃ v', e = .returned (.tuple #[.agg (runS n s l).cells, v', .int .i64 (runE n s)]) ∧ LV w' v' (runL n s l) ∧ Below w.heap.size w w' := by
  obtain ⟨A, cap, rfl, hA⟩ := hv
  unfold runS runL runE
  cases h : s.isB n
  · exact (refRun_bad n s A l.length cap w hs h (by omega)).mono fun e w' ⟨he, hb⟩ => ⟨_, he, ⟨none, 0, rfl, .inl rfl⟩, hb⟩
  · exact (refRun_good n s l A cap w hs hl h hlen hA).mono fun e w' ⟨v', he, ho, hb⟩ => ⟨v', he, (LV.of_own ho).2, hb⟩
/-- Run, at a state: what it answers. -/
theorem runOk_any (n : Int) (s : Db) (l : List Ct) (v : Value) (w : World) (hs : s.ok) (hl : ∀ c ∈ l, c.ok) (hlen : l.length ≤ 5000) (h : s.isB n = true) (hv : LV w v l) :
    Calls Try.prog 18 #[.int .i64 n, .agg s.cells, v] w fun e w' => ∃ g, e = .returned (.tuple #[.agg (s.run n l).cells, .slice (some ⟨g, 0, none⟩) l.length l.length, .int .i64 0]) ∧ w'.heap[g]? = some (.cells (flat (s.outs n l)).toArray 24 (0, 0)) ∧ Below w.heap.size w w' := by
  obtain ⟨A, cap, rfl, hA⟩ := hv
  exact (run_good n s l A cap w hs hl h hlen hA).mono fun e w' ⟨g, he, _, hg, hb⟩ => ⟨g, he, hg, hb⟩
theorem u64_mod (n : Int) : ∃ k : Nat, k < 16 ∧ (IntKind.u64.wrap n).tmod 16 = (k : Int) := by
  have h0 : 0 ≤ IntKind.u64.wrap n := by simp [IntKind.wrap, IntKind.bits, IntKind.signed]; omega
  rw [Int.tmod_eq_emod_of_nonneg h0]
  exact ⟨(IntKind.u64.wrap n % 16).toNat, by omega, by omega⟩
end Go.Proofs.Ytcobcefefifmcaa
