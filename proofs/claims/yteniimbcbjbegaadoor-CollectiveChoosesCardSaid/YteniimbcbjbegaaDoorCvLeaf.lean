/- The choice's small functions. No statement of the seat is proved here. -/
import Derived.Test.YteniimbcbjbegaaDoorCvTabs
import Derived.Test.YteniimbcbjbegaaDoorCsLeaf
namespace Go.Proofs.YteniimbcbjbegaaDoor
open Go.RowKit

/-- What counts for a car at its floor. -/
structure Pl where
  o : Nat
  sp : Stp
  car : Bool
  up : Bool
  dn : Bool
  ab : Nat
  be : Nat
def Pl.agg (p : Pl) : Value := .agg #[.int .i64 (p.o : Int), .int .u32 p.sp.car, .int .u32 p.sp.h.up, .int .u32 p.sp.h.dn, .bool p.car, .bool p.up, .bool p.dn, .int .u32 p.ab, .int .u32 p.be]
def Pl.zero : Pl := ⟨0, Stp.zero, false, false, false, 0, 0⟩
def Pl.ok (p : Pl) : Prop := p.ab < 4294967296 ∧ p.be < 4294967296
/-- The first bit, and how many bits the number has. -/
def tzN (x : Nat) : Nat := Go.Lib.ctz 32 x
def lzN (x : Nat) : Nat := 32 - Go.Lib.bitLen x
def nearP (ab be : Nat) : Nat := if ab ≠ 0 ∧ tzN ab ≤ lzN be then 1 else if be ≠ 0 then 2 else 0
def Pl.sc (p : Pl) : Cv.Sc := ⟨p.up, p.dn, p.car, !decide (p.ab = 0), !decide (p.be = 0), nearP p.ab p.be⟩

theorem within_any (a b c : Int) (w : World) :
    Calls Tryd.prog 34 #[.int .i64 a, .int .i64 b, .int .i64 c] w fun e w' => e = .returned (.bool (decide (a ≤ c) && decide (c ≤ b))) ∧ w = w' := by
  by_cases h1 : a ≤ c
  · have d1 : decide (a ≤ c) = true := decide_eq_true h1
    rw [d1]
    go_enter Tryd.func34, Tryd.ntmps34
    go_wp2
    go_ret
    exact ⟨by simp, rfl⟩
  · have d1 : decide (a ≤ c) = false := decide_eq_false h1
    rw [d1]
    go_enter Tryd.func34, Tryd.ntmps34
    go_wp2
    go_ret
    exact ⟨by simp, rfl⟩
def isSw (d o : Int) : Bool := (decide (0 ≤ d) && decide (d ≤ 2)) && (decide (0 ≤ o) && decide (o ≤ 7))
theorem isSweep_any (d o : Int) (w : World) :
    Calls Tryd.prog 21 #[.agg #[.int .i64 d, .int .i64 o]] w fun e w' => e = .returned (.bool (isSw d o)) ∧ Below w.heap.size w w' := by
  unfold isSw
  have FW := Lib.hid (fun a b c wx => within_any a b c wx)
  cases h1 : (decide (0 ≤ d) && decide (d ≤ 2))
  all_goals
    have F1 := Lib.hid (fun wx => FW.out 0 2 d wx)
    rw [h1] at F1
    have F2 := Lib.hid (fun wx => FW.out 0 7 o wx)
    go_enter Tryd.func21, Tryd.ntmps21
    go_wp2_with (go_at_call 34; first | (with_reducible refine (F1.out _).mono ?_; rintro e w1 ⟨rfl, rfl⟩) | (with_reducible refine (F2.out _).mono ?_; rintro e w1 ⟨rfl, rfl⟩))
    go_ret
    exact ⟨by simp, by go_grown⟩
theorem openC_any (k : Nat) (w : World) :
    Calls Tryd.prog 47 #[.int .i64 (k : Int)] w fun e w' => e = .returned (Cv.openC k).agg ∧ Below w.heap.size w w' := by
  go_enter Tryd.func47, Tryd.ntmps47
  go_wp2
  exact bodyPost_ret (results_cell_row Tryd.results47 _ _ _ _ _ (0, 0) _ rfl (last1 _ _) Tryd.underlying38 rfl (by kernel_rfl)) rfl (⟨rfl, by go_grown⟩)
theorem moveC_any (k : Nat) (hk : k < 3) (w : World) (hT : Tabs w) :
    Calls Tryd.prog 49 #[.int .i64 (k : Int)] w fun e w' => e = .returned (Cv.moveC k).agg ∧ Below w.heap.size w w' := by
  have HT := Lib.hid (fun w1 (hb : Below w.heap.size w w1) => (hT.below hb).steps k hk)
  have hc := HT.out (w.alloc (.cells #[.int .i64 0, .int .i64 0, .int .i64 0] 38)) (by go_grown)
  go_enter Tryd.func49, Tryd.ntmps49
  go_wp2
  exact bodyPost_ret (results_cell_row Tryd.results49 _ _ _ _ _ (0, 0) _ rfl (last1 _ _) Tryd.underlying38 rfl (by kernel_rfl)) rfl (⟨rfl, by go_grown⟩)
theorem plRow {wx : World} {g o s1 s2 s3 ab be : Nat} {car up dn : Bool} (h : wx.heap[g]? = some (.cells #[.int .i64 (o : Int), .int .u32 s1, .int .u32 s2, .int .u32 s3, .bool car, .bool up, .bool dn, .int .u32 ab, .int .u32 be] 53 (0, 0))) :
    wx.cell? ⟨g, 0, none⟩ = some (.int .i64 (o : Int)) ∧ wx.cell? ⟨g, 1, none⟩ = some (.int .u32 s1) ∧ wx.cell? ⟨g, 2, none⟩ = some (.int .u32 s2) ∧ wx.cell? ⟨g, 3, none⟩ = some (.int .u32 s3) ∧ wx.cell? ⟨g, 4, none⟩ = some (.bool car) ∧ wx.cell? ⟨g, 5, none⟩ = some (.bool up) ∧ wx.cell? ⟨g, 6, none⟩ = some (.bool dn) ∧ wx.cell? ⟨g, 7, none⟩ = some (.int .u32 ab) ∧ wx.cell? ⟨g, 8, none⟩ = some (.int .u32 be) :=
  ⟨cell_of_row wx _ _ _ _ (0, 0) h, cell_of_row wx _ _ _ _ (0, 0) h, cell_of_row wx _ _ _ _ (0, 0) h, cell_of_row wx _ _ _ _ (0, 0) h, cell_of_row wx _ _ _ _ (0, 0) h, cell_of_row wx _ _ _ _ (0, 0) h, cell_of_row wx _ _ _ _ (0, 0) h, cell_of_row wx _ _ _ _ (0, 0) h, cell_of_row wx _ _ _ _ (0, 0) h⟩
theorem stRow {wx : World} {g s1 s2 s3 : Nat} (h : wx.heap[g]? = some (.cells #[.int .u32 s1, .int .u32 s2, .int .u32 s3] 30 (0, 0))) :
    wx.cell? ⟨g, 0, none⟩ = some (.int .u32 s1) ∧ wx.cell? ⟨g, 1, none⟩ = some (.int .u32 s2) ∧ wx.cell? ⟨g, 2, none⟩ = some (.int .u32 s3) :=
  ⟨cell_of_row wx _ _ _ _ (0, 0) h, cell_of_row wx _ _ _ _ (0, 0) h, cell_of_row wx _ _ _ _ (0, 0) h⟩
theorem csRow {wx : World} {g s2 s3 : Nat} (h : wx.heap[g]? = some (.cells #[.int .u32 s2, .int .u32 s3] 28 (0, 0))) :
    wx.cell? ⟨g, 0, none⟩ = some (.int .u32 s2) ∧ wx.cell? ⟨g, 1, none⟩ = some (.int .u32 s3) :=
  ⟨cell_of_row wx _ _ _ _ (0, 0) h, cell_of_row wx _ _ _ _ (0, 0) h⟩
theorem below_box {w w' : World} {o : Obj} (h : Below (w.alloc o).heap.size (w.alloc o) w') : Below w.heap.size w w' :=
  ((Below.refl w.heap.size w).alloc (Nat.le_refl _) o).trans (h.mono (by simp))
theorem int_ne0 (x : Nat) : ((x : Int) != 0) = !decide (x = 0) := by
  by_cases h : x = 0
  · subst h; rfl
  · rw [decide_eq_false h]
    simp [h]
end Go.Proofs.YteniimbcbjbegaaDoor
