/- Floor of the indicator and of the reference. No statement of the seat is proved here. -/
import Derived.Test.YtimaidiabjkgkaaDoorIndOnes
namespace Go.Proofs.YtimaidiabjkgkaaDoor
open Go.RowKit

set_option maxHeartbeats 1000000 in
theorem onlyBit_any (x : Nat) (hx : x < 4294967296) (w : World) (hT : Tabs w) :
    Calls Tryd.prog 17 #[.int .u32 x] w fun e w' => e = .returned (.int .i64 (Ind.bit x)) ∧ Below w.heap.size w w' := by
  rcases Ind.bit_cases x with ⟨k, hk, rfl, e⟩ | ⟨h, e⟩
  · rw [e]
    have F := Lib.hid (fun w => ones_any (2 ^ k) hx w)
    rw [Ind.pop_pow hk] at F
    have G := Lib.hid (fun w hT => tz_any k hk w hT)
    have HT := Lib.hid (fun (w1 : World) (hb : Below w.heap.size w w1) => hT.below hb)
    clear hT e hx
    generalize ((2 ^ k : Nat) : Int) = z at *
    go_enter Tryd.func17, Tryd.ntmps17
    go_wp2_with fail
    refine (F.out _).mono ?_
    rintro e w1 ⟨rfl, hb⟩
    go_wp2_with fail
    refine (G.out _ (HT.out _ hb)).mono ?_
    rintro e w2 ⟨rfl, rfl⟩
    go_wp2
    go_ret
    exact ⟨rfl, hb⟩
  · rw [e]
    have F := Lib.hid (fun w => ones_any x hx w)
    have hp : ¬ ((Ind.pop x : Int) = 1) := fun h1 => by
      obtain ⟨k, hk, hk2⟩ := Ind.pop_one hx (by omega)
      exact h k hk hk2
    have hne : ((Ind.pop x : Int) == 1) = false := beq_eq_false_iff_ne.2 hp
    generalize (Ind.pop x : Int) = p at *
    clear h e
    go_enter Tryd.func17, Tryd.ntmps17
    go_wp2_with fail
    refine (F.out _).mono ?_
    rintro e w1 ⟨rfl, hb⟩
    go_wp2
    go_ret
    exact ⟨rfl, hb⟩

set_option maxHeartbeats 1000000 in
theorem floor_any (n : Int) (x : Nat) (hx : x < 4294967296) (w : World) (hT : Tabs w) :
    Calls Tryd.prog 8 #[.int .i64 n, .int .u32 x] w fun e w' => e = .returned (.int .i64 (Ind.floorI n x)) ∧ Below w.heap.size w w' := by
  have F := Lib.hid (fun w hT => onlyBit_any x hx w hT)
  have G := Lib.hid (fun w => areFloors_any n w)
  unfold Ind.floorI
  generalize Ind.bit x = b at *
  generalize (x : Int) = z at *
  clear hx
  cases hn : Ind.okF n
  · rw [if_neg (fun h => Bool.false_ne_true h.1)]
    rw [hn] at G
    go_enter Tryd.func8, Tryd.ntmps8
    go_wp2_with fail
    refine (F.out _ hT).mono ?_
    rintro e w1 ⟨rfl, hb⟩
    go_wp2_with fail
    refine (G.out _).mono ?_
    rintro e w2 ⟨rfl, rfl⟩
    go_wp2
    go_ret
    exact ⟨rfl, hb⟩
  · rw [hn] at G
    by_cases hlt : b < n
    · rw [if_pos ⟨rfl, hlt⟩]
      go_enter Tryd.func8, Tryd.ntmps8
      go_wp2_with fail
      refine (F.out _ hT).mono ?_
      rintro e w1 ⟨rfl, hb⟩
      go_wp2_with fail
      refine (G.out _).mono ?_
      rintro e w2 ⟨rfl, rfl⟩
      go_wp2
      go_ret
      exact ⟨rfl, hb⟩
    · rw [if_neg (fun h => hlt h.2)]
      go_enter Tryd.func8, Tryd.ntmps8
      go_wp2_with fail
      refine (F.out _ hT).mono ?_
      rintro e w1 ⟨rfl, hb⟩
      go_wp2_with fail
      refine (G.out _).mono ?_
      rintro e w2 ⟨rfl, rfl⟩
      go_wp2
      go_ret
      exact ⟨rfl, hb⟩

theorem shl_one {k : Nat} (h : k < 32) : (2 : Int) ^ k % 4294967296 = ((2 ^ k : Nat) : Int) := by
  have := Ct.bit_lt h
  have e : (2 : Int) ^ k = ((2 ^ k : Nat) : Int) := by rw [Int.natCast_pow]; rfl
  rw [e]
  generalize 2 ^ k = x at *
  omega
set_option maxHeartbeats 1000000 in
theorem refFloor_any (n : Int) (x : Nat) (hx : x < 4294967296) (w : World) :
    Calls Tryd.prog 9 #[.int .i64 n, .int .u32 x] w fun e w' => e = .returned (.int .i64 (Ind.floorI n x)) ∧ Below w.heap.size w w' := by
  have G := Lib.hid (fun w => refOk_any n w)
  cases hn : Ind.okF n
  · have e : Ind.floorI n x = -1 := by unfold Ind.floorI; rw [hn, if_neg (fun h => Bool.false_ne_true h.1)]
    rw [e]
    rw [hn] at G
    go_enter Tryd.func9, Tryd.ntmps9
    go_wp2_with fail
    refine (G.out _).mono ?_
    rintro e w2 ⟨rfl, rfl⟩
    go_wp2
    go_ret
    exact ⟨rfl, Below.refl _ _⟩
  · rw [hn] at G
    have h32 := Ind.okF_iff.1 hn
    have HF := Ind.floorI_cases n x
    go_enter Tryd.func9, Tryd.ntmps9
    go_wp2_with fail
    refine (G.out _).mono ?_
    rintro e w2 ⟨rfl, rfl⟩
    go_wp2
    go_loopw [5] (fun v wr => ∃ k : Nat, (k : Int) ≤ n ∧ v = .int .i64 k ∧ Hid (∀ j, j < k → x ≠ 2 ^ j) ∧ wr = w2) (fun v _ => n.toNat - (intOf v).toNat)
    case atStart => exact ⟨0, by omega, rfl, fun j hj => absurd hj (Nat.not_lt_zero _), rfl⟩
    case round =>
      obtain ⟨k, hk, rfl, hno, rfl⟩ := hrel
      by_cases hlt : (k : Int) < n
      · have hk32 : k < 32 := by omega
        have hs := shl_one hk32
        have hs2 := Int.natCast_pow 2 k
        by_cases he : x = 2 ^ k
        · have e : Ind.floorI n x = k := by rw [he]; unfold Ind.floorI; rw [Ind.bit_pow hk32, if_pos ⟨hn, hlt⟩]
          have E := Lib.hid e
          have hq : ((x : Int) == ((2 ^ k : Nat) : Int)) = true := by rw [he]; exact beq_self_eq_true _
          clear HF e
          go_wp2
          go_ret
          exact ⟨ret_int E.out.symm, Below.refl _ _⟩
        · have hq : ((x : Int) == ((2 ^ k : Nat) : Int)) = false := beq_eq_false_iff_ne.2 (by omega)
          clear HF
          go_wp2
          go_round
          exact ⟨k + 1, by omega, rfl, fun j hj => by rcases Nat.lt_or_ge j k with h | h; exact hno.out j h; rw [show j = k by omega]; exact he, trivial⟩
          simp only [intOf]; omega
      · have e : Ind.floorI n x = -1 := by
          rcases HF with ⟨j, _, hj, _, hjn, _⟩ | ⟨_, e⟩
          · exact absurd hj (hno.out j (by omega))
          · exact e
        have E := Lib.hid e
        clear HF e
        go_wp2
        go_ret
        exact ⟨ret_int E.out.symm, Below.refl _ _⟩
end Go.Proofs.YtimaidiabjkgkaaDoor
