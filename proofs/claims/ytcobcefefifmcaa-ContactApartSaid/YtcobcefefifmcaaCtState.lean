/- The state of debounced contacts in memory; IsState of contact and of the reference. No statement of the seat is proved here. -/
import Derived.Test.YtcobcefefifmcaaCtLeaf
import Derived.Deep.MidRow
namespace Go.Proofs.Ytcobcefefifmcaa
open Go.RowKit

def Ct.cells (c : Ct) : List Value := [.int .u32 c.fl, .bool c.up, .bool c.dn, .bool c.opn, .bool c.cls]
def Db.cells (s : Db) : Array Value := (s.c.cells ++ s.n.map fun k => (Value.int .i64 k)).toArray
def Db.agg (s : Db) : Value := .agg s.cells
theorem Db.size {s : Db} (h : s.ok) : s.cells.size = 41 := by
  unfold Db.cells
  rw [List.size_toArray, List.length_append, List.length_map, h.n]
  rfl
theorem Db.cell_n {s : Db} (h : s.ok) {k : Nat} (hk : k < 36) : s.cells[5 + k]? = some (.int .i64 (s.n.getD k 0)) := by
  unfold Db.cells
  rw [List.getElem?_toArray, List.getElem?_append_right (by show 5 ≤ 5 + k; omega), show 5 + k - s.c.cells.length = k from by show 5 + k - 5 = k; omega, List.getElem?_map]
  have : k < s.n.length := by rw [h.n]; exact hk
  rw [List.getElem?_eq_getElem this, List.getD_eq_getElem?_getD, List.getElem?_eq_getElem this]
  rfl
theorem Db.cell_c (s : Db) {j : Nat} (hj : j < 5) : s.cells[j]? = s.c.cells[j]? := by
  unfold Db.cells
  rw [List.getElem?_toArray, List.getElem?_append_left (by show j < 5; exact hj)]

theorem Db.isB_good {n : Int} {s : Db} (h : s.ok) (hn : 1 ≤ n ∧ n ≤ 16) (ha : ∀ j, j < 36 → 0 ≤ s.n.getD j 0 ∧ s.n.getD j 0 < n) : s.isB n = true := (Db.isB_iff h).2 ⟨hn, ha⟩
theorem Db.isB_bad {n : Int} {s : Db} (h : s.ok) {j : Nat} (hj : j < 36) (hb : ¬ (0 ≤ s.n.getD j 0 ∧ s.n.getD j 0 < n)) : s.isB n = false := by
  cases e : s.isB n
  · rfl
  · exact absurd (((Db.isB_iff h).1 e).2 j hj) hb
theorem Db.isB_out {n : Int} {s : Db} (h : ¬ (1 ≤ n ∧ n ≤ 16)) : s.isB n = false := by
  unfold Db.isB; rw [decide_eq_false h]; rfl

set_option maxHeartbeats 1000000 in
theorem isState_any (n : Int) (s : Db) (w : World) (hs : s.ok) :
    Calls Try.prog 16 #[.int .i64 n, s.agg] w fun e w' => e = .returned (.bool (s.isB n)) ∧ Below w.heap.size w w' := by
  have hc := fun (k : Nat) (hk : k < 36) => Db.cell_n hs hk
  have HC := Lib.hid hc
  have HG := Lib.hid (fun hn ha => Db.isB_good (n := n) hs hn ha)
  have HB := Lib.hid (fun j hj hb => Db.isB_bad (n := n) (j := j) hs hj hb)
  have HO := Lib.hid (fun h => Db.isB_out (n := n) (s := s) h)
  unfold Db.agg
  generalize s.cells = C at *
  generalize s.isB n = R at *
  clear hc hs
  by_cases hn : 1 ≤ n ∧ n ≤ 16
  · obtain ⟨hn1, hn2⟩ := hn
    go_enter Try.func16, Try.ntmps16
    go_wp2
    go_loop [12] (fun i => ∃ k : Nat, k ≤ 36 ∧ i = .int .i64 k ∧ Hid (∀ j, j < k → 0 ≤ s.n.getD j 0 ∧ s.n.getD j 0 < n)) (fun i => 36 - (intOf i).toNat)
    case atStart => exact ⟨0, Nat.zero_le _, rfl, fun j hj => absurd hj (by omega)⟩
    case round =>
      obtain ⟨k, hk, rfl, hin⟩ := hrel
      by_cases hlt : k < 36
      · have hcell : (w.alloc (.cells C 31)).cell? ⟨w.heap.size, 5 + k, none⟩ = some (.int .i64 (s.n.getD k 0)) := (cell_of_row _ _ _ _ _ (0, 0) (heap_alloc_new w _)).trans (HC.out k hlt)
        by_cases hgood : 0 ≤ s.n.getD k 0 ∧ s.n.getD k 0 < n
        · have HN : Hid (∀ j, j < k + 1 → 0 ≤ s.n.getD j 0 ∧ s.n.getD j 0 < n) := fun j hj => by
            by_cases e : j = k
            · subst e; exact hgood
            · exact hin.out j (by omega)
          clear hin
          obtain ⟨hg1, hg2⟩ := hgood
          generalize s.n.getD k 0 = z at hcell hg1 hg2
          go_wp2
          all_goals first
            | (go_round
               case rel => exact ⟨k + 1, by omega, by go_num, HN⟩
               case measure => simp [intOf]; omega)
            | (exfalso; first | (simp_all; done) | (simp_all; omega))
        · have HR := Lib.hid (HB.out k hlt hgood)
          have hg : s.n.getD k 0 < 0 ∨ n ≤ s.n.getD k 0 := by omega
          clear hgood hin
          generalize s.n.getD k 0 = z at hcell hg
          rcases hg with hg | hg
          all_goals
            go_wp2
            all_goals first
              | (go_ret; exact ⟨ret_bool HR.out.symm, by go_grown⟩)
              | (exfalso; first | (simp_all; done) | (simp_all; omega))
      · obtain rfl : k = 36 := by omega
        go_wp2
        go_ret
        exact ⟨ret_bool (HG.out ⟨hn1, hn2⟩ hin.out).symm, by go_grown⟩
  · have hg : n < 1 ∨ (1 ≤ n ∧ 16 < n) := by omega
    have HR := Lib.hid (HO.out hn)
    clear hn
    rcases hg with hg | ⟨hg, hg2⟩
    all_goals
      go_enter Try.func16, Try.ntmps16
      go_wp2
      all_goals first
        | (go_ret; exact ⟨ret_bool HR.out.symm, by go_grown⟩)
        | (exfalso; first | (simp_all; done) | (simp_all; omega))

set_option maxHeartbeats 1000000 in
theorem refIsState_any (n : Int) (s : Db) (w : World) (hs : s.ok) :
    Calls Try.prog 17 #[.int .i64 n, s.agg] w fun e w' => e = .returned (.bool (s.isB n)) ∧ Below w.heap.size w w' := by
  have hc := fun (k : Nat) (hk : k < 36) => Db.cell_n hs hk
  have HC := Lib.hid hc
  have HG := Lib.hid (fun hn ha => Db.isB_good (n := n) hs hn ha)
  have HB := Lib.hid (fun j hj hb => Db.isB_bad (n := n) (j := j) hs hj hb)
  have HO := Lib.hid (fun h => Db.isB_out (n := n) (s := s) h)
  unfold Db.agg
  generalize s.cells = C at *
  generalize s.isB n = R at *
  clear hc hs
  by_cases hn : 1 ≤ n ∧ n ≤ 16
  · obtain ⟨hn1, hn2⟩ := hn
    go_enter Try.func17, Try.ntmps17
    go_wp2
    go_loop [5] (fun i => ∃ k : Nat, k ≤ 36 ∧ i = .int .i64 k ∧ Hid (∀ j, j < k → 0 ≤ s.n.getD j 0 ∧ s.n.getD j 0 < n)) (fun i => 36 - (intOf i).toNat)
    case atStart => exact ⟨0, Nat.zero_le _, rfl, fun j hj => absurd hj (by omega)⟩
    case round =>
      obtain ⟨k, hk, rfl, hin⟩ := hrel
      by_cases hlt : k < 36
      · have hcell : (w.alloc (.cells C 31)).cell? ⟨w.heap.size, 5 + k, none⟩ = some (.int .i64 (s.n.getD k 0)) := (cell_of_row _ _ _ _ _ (0, 0) (heap_alloc_new w _)).trans (HC.out k hlt)
        by_cases hgood : 0 ≤ s.n.getD k 0 ∧ s.n.getD k 0 < n
        · have HN : Hid (∀ j, j < k + 1 → 0 ≤ s.n.getD j 0 ∧ s.n.getD j 0 < n) := fun j hj => by
            by_cases e : j = k
            · subst e; exact hgood
            · exact hin.out j (by omega)
          clear hin
          obtain ⟨hg1, hg2⟩ := hgood
          generalize s.n.getD k 0 = z at hcell hg1 hg2
          go_wp2
          all_goals first
            | (go_round
               case rel => exact ⟨k + 1, by omega, by go_num, HN⟩
               case measure => simp [intOf]; omega)
            | (exfalso; first | (simp_all; done) | (simp_all; omega))
        · have HR := Lib.hid (HB.out k hlt hgood)
          have hg : s.n.getD k 0 < 0 ∨ n ≤ s.n.getD k 0 := by omega
          clear hgood hin
          generalize s.n.getD k 0 = z at hcell hg
          rcases hg with hg | hg
          all_goals
            go_wp2
            all_goals first
              | (go_ret; exact ⟨ret_bool HR.out.symm, by go_grown⟩)
              | (exfalso; first | (simp_all; done) | (simp_all; omega))
      · obtain rfl : k = 36 := by omega
        go_wp2
        go_ret
        exact ⟨ret_bool (HG.out ⟨hn1, hn2⟩ hin.out).symm, by go_grown⟩
  · have hg : n < 1 ∨ (1 ≤ n ∧ 16 < n) := by omega
    have HR := Lib.hid (HO.out hn)
    clear hn
    rcases hg with hg | ⟨hg, hg2⟩
    all_goals
      go_enter Try.func17, Try.ntmps17
      go_wp2
      all_goals first
        | (go_ret; exact ⟨ret_bool HR.out.symm, by go_grown⟩)
        | (exfalso; first | (simp_all; done) | (simp_all; omega))
end Go.Proofs.Ytcobcefefifmcaa
