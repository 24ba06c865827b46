/- The indicator's leaves: within, areFloors, place, the bit counts, onlyBit, Floor; the reference's ok and Floor. No statement of the seat is proved here. -/
import Derived.Test.YtimaidiabjkgkaaDoorIndTabs
import Derived.Test.YtimaidiabjkgkaaDoorBag
namespace Go.Proofs.YtimaidiabjkgkaaDoor
open Go.RowKit
theorem ret_u32 {a b : Int} (h : a = b) : Ending.returned (.int .u32 a) = .returned (.int .u32 b) := by rw [h]

theorem iwithin_any (a b x : Int) (w : World) :
    Calls Tryd.prog 21 #[.int .i64 a, .int .i64 b, .int .i64 x] w fun e w' => e = .returned (.bool (decide (a ≤ x ∧ x ≤ b))) ∧ w' = w := by
  by_cases h1 : a ≤ x
  · by_cases h2 : x ≤ b
    · rw [decide_eq_true (show a ≤ x ∧ x ≤ b from ⟨h1, h2⟩)]
      go_enter Tryd.func21, Tryd.ntmps21
      go_wp2
      go_ret
      exact ⟨rfl, rfl⟩
    · rw [decide_eq_false (show ¬ (a ≤ x ∧ x ≤ b) from fun h => h2 h.2)]
      go_enter Tryd.func21, Tryd.ntmps21
      go_wp2
      go_ret
      exact ⟨rfl, rfl⟩
  · rw [decide_eq_false (show ¬ (a ≤ x ∧ x ≤ b) from fun h => h1 h.1)]
    go_enter Tryd.func21, Tryd.ntmps21
    go_wp2
    go_ret
    exact ⟨rfl, rfl⟩
theorem areFloors_any (n : Int) (w : World) :
    Calls Tryd.prog 18 #[.int .i64 n] w fun e w' => e = .returned (.bool (Ind.okF n)) ∧ w' = w := by
  have F := Lib.hid (fun w => iwithin_any 2 32 n w)
  unfold Ind.okF
  generalize decide (2 ≤ n ∧ n ≤ 32) = z at *
  go_enter Tryd.func18, Tryd.ntmps18
  go_wp2_with fail
  refine (F.out _).mono ?_
  rintro e x ⟨rfl, rfl⟩
  go_wp2
  go_ret
  exact ⟨rfl, rfl⟩
theorem refOk_any (n : Int) (w : World) :
    Calls Tryd.prog 19 #[.int .i64 n] w fun e w' => e = .returned (.bool (Ind.okF n)) ∧ w' = w := by
  unfold Ind.okF
  by_cases h1 : 2 ≤ n
  · by_cases h2 : n ≤ 32
    · rw [decide_eq_true (show 2 ≤ n ∧ n ≤ 32 from ⟨h1, h2⟩)]
      go_enter Tryd.func19, Tryd.ntmps19
      go_wp2
      go_ret
      exact ⟨rfl, rfl⟩
    · rw [decide_eq_false (show ¬ (2 ≤ n ∧ n ≤ 32) from fun h => h2 h.2)]
      go_enter Tryd.func19, Tryd.ntmps19
      go_wp2
      go_ret
      exact ⟨rfl, rfl⟩
  · rw [decide_eq_false (show ¬ (2 ≤ n ∧ n ≤ 32) from fun h => h1 h.1)]
    go_enter Tryd.func19, Tryd.ntmps19
    go_wp2
    go_ret
    exact ⟨rfl, rfl⟩
theorem place_any (a b : Bool) (w : World) :
    Calls Tryd.prog 20 #[.bool a, .bool b] w fun e w' => e = .returned (.int .i64 (Ind.two a b)) ∧ w' = w := by
  cases a <;> cases b
  all_goals
    go_enter Tryd.func20, Tryd.ntmps20
    go_wp2
    go_ret
    exact ⟨rfl, rfl⟩
theorem tz_key (k : Nat) (hk : k < 32) : bits BinOp.and IntKind.u32 ((2 ^ k : Nat) : Int) (-((2 ^ k : Nat) : Int) % 4294967296) * 125613361 % 4294967296 / 134217728 = ((2 ^ k * 125613361 % 4294967296 / 134217728 : Nat) : Int) := by
  have := (by decide +kernel : ∀ k : Fin 32, bits BinOp.and IntKind.u32 ((2 ^ k.val : Nat) : Int) (-((2 ^ k.val : Nat) : Int) % 4294967296) * 125613361 % 4294967296 / 134217728 = ((2 ^ k.val * 125613361 % 4294967296 / 134217728 : Nat) : Int)) ⟨k, hk⟩
  exact this
set_option maxHeartbeats 1000000 in
theorem tz_core (x k idx : Nat) (w : World) (hx0 : ((x : Int) == 0) = false)
    (key : bits BinOp.and IntKind.u32 (x : Int) (-(x : Int) % 4294967296) * 125613361 % 4294967296 / 134217728 = (idx : Int))
    (hi : idx < 32) (hk : k < 32) (hcell : w.cell? ⟨2, idx, none⟩ = some (.int .u8 k)) :
    Calls Tryd.prog 23 #[.int .u32 x] w fun e w' => e = .returned (.int .i64 k) ∧ w' = w := by
  go_enter Tryd.func23, Tryd.ntmps23
  go_wp2_with (simp only [key])
  go_ret
  exact ⟨rfl, rfl⟩
theorem tz_any (k : Nat) (hk : k < 32) (w : World) (hT : Tabs w) :
    Calls Tryd.prog 23 #[.int .u32 ((2 ^ k : Nat) : Int)] w fun e w' => e = .returned (.int .i64 k) ∧ w' = w := by
  obtain ⟨hi, htab⟩ := Go.Lib.deBruijn32_at k hk
  have hcell := hT.tz _ hi
  rw [htab] at hcell
  have hp := Nat.two_pow_pos k
  exact tz_core _ k _ w (beq_eq_false_iff_ne.2 (by omega)) (tz_key k hk) hi hk hcell
end Go.Proofs.YtimaidiabjkgkaaDoor
