/- The range over a set's calls. No statement of the seat is proved here. -/
import Derived.RangeFuncNested
import Derived.RangeFuncBound
import Derived.RangeFuncCalls
import Derived.RangeFuncLeaves
import Derived.RangeFuncBox
import Derived.Shelf.Abstract
import Derived.Shelf.RegionOpen
import Derived.WalkKit
import Derived.OwnWalkIn
import Derived.TacticsInMore
import Derived.LoopNIn
import Derived.LoopIn
import Derived.Maps.AppendAt
import Derived.Test.YtclkfclbnapamaaCsRow
import Derived.Test.YtclkfclbnapamaaCsHas
namespace Go.Proofs.Ytclkfclbnapamaa
open Go.RowKit Go.Shelf

attribute [local go_sem] Oper.semAt_some

theorem Below.grows {W W' : World} (h : Below W.heap.size W W') : W.grownBy W' none := ⟨h.os, h.tape, h.output, h.size, fun k hk _ => h.block k hk⟩

/-- Block b lies as it lay, and nothing has gone. -/
structure KeepB (b : Nat) (W W' : World) : Prop where
  size : W.heap.size ≤ W'.heap.size
  block : W'.heap[b]? = W.heap[b]?
theorem KeepB.refl (b : Nat) (W : World) : KeepB b W W := ⟨Nat.le_refl _, rfl⟩
theorem KeepB.trans {b : Nat} {A B C : World} (h : KeepB b A B) (k : KeepB b B C) : KeepB b A C := ⟨Nat.le_trans h.size k.size, k.block.trans h.block⟩
theorem KeepB.of {b : Nat} {W W' : World} (h : Below W.heap.size W W') (hb : b < W.heap.size) : KeepB b W W' := ⟨h.size, h.block b hb⟩
theorem KeepB.cell {b i : Nat} {W W' : World} (h : KeepB b W W') : W'.cell? ⟨b, i, none⟩ = W.cell? ⟨b, i, none⟩ := World.cell?_of_block (a := ⟨b, i, none⟩) h.block
theorem keepB_b {b : Nat} {w : World} (hb : b < w.heap.size) (W : World) (l : Nat) (o o' : Obj) (hl : w.heap.size ≤ l) (h : W.heap[l]? = some o) (_ : o.isCells = false) (_ : o.isWalk = false) : KeepB b W (W.putObj l o') := by
  have hg := grownBy_putObj' W l o'
  have hlt := (Array.getElem?_eq_some_iff.1 h).1
  exact ⟨hg.size, hg.block b (by omega) (fun e => by injection e with e; omega)⟩

abbrev encP (x : Nat × Nat) : Array Value := #[.int .i64 x.1, .int .i64 x.2]

set_option maxRecDepth 100000 in
set_option maxHeartbeats 2000000 in
theorem each1_in (n : Nat) (hn : 1 ≤ n) (l Bn : Nat) (c : Cs) (hc : c.ok) (J Jx : List (Nat × Nat) → World → Prop) (W : World) (hJ : AbidesFrom W.heap.size J)
    (hY : ∀ pre x W1, J pre W1 → pre.length < 67 → YieldAt Fence.wide (n - 1) Try.prog l (encP x) W1 fun e W' =>
      (e = .returned (.bool true) ∧ J (pre ++ [x]) W' ∧ KeepB Bn W1 W') ∨ (e = .returned (.bool false) ∧ Jx (pre ++ [x]) W'))
    (hB : Bn < W.heap.size) (h1 : W.cell? ⟨Bn, 0, none⟩ = some (.int .u32 c.up)) (h2 : W.cell? ⟨Bn, 1, none⟩ = some (.int .u32 c.dn)) (h0 : J [] W) :
    CallsIn Fence.wide n Try.prog 33 #[.func (.yield l) #[] #[], .pointer (some ⟨Bn, 0, none⟩)] W fun e W' => (∃ v, e = .returned v) ∧
      ((∃ ys, ys = Cs.prs c 32 ∧ J ys W') ∨ (∃ pre, Jx pre W')) := by
  have F := Lib.hid (fun (k d : Nat) w => has_any c k d w hc)
  have HY := Lib.hid (fun k d hk h1 h2 hh => Cs.part_yes (c := c) (k := k) (d := d) hc hk h1 h2 hh)
  have HNO := Lib.hid (fun k d hk h1 h2 hh => Cs.part_no (c := c) (k := k) (d := d) hc hk h1 h2 hh)
  have HX := Lib.hid (And.intro (fun k => (Cs.part_one c (k + 1)).trans (Cs.part_three c k).symm) (And.intro (Cs.part_one c 32) (Cs.part_one c 0)))
  have HLE := Lib.hid (fun k d hk => Cs.part_le c (k := k) (d := d) hk)
  have HYY := Lib.hid hY
  have HJ := Lib.hid hJ
  have hz : Cs.prs c 0 = [] := rfl
  generalize Cs.prs c 32 = E at *
  rw [hz] at HX
  generalize Cs.part c = pt at *
  obtain ⟨hs, hhs⟩ : ∃ hs : Nat → Nat → Bool, ∀ k d : Nat, Cs.has c k d = hs k d := ⟨_, fun _ _ => rfl⟩
  simp only [hhs] at F HY HNO
  clear hhs hz hY hJ
  obtain ⟨c1, c2⟩ := c
  simp only [Cs.agg] at *
  clear hc
  refine callsIn_of_wp Try.func33 rfl trivial ?_ rfl
  simp only [Try.ntmps33, List.size_toArray, List.length_cons, List.length_nil, Nat.reduceAdd, Nat.reduceSub, Array.replicate_succ, Array.replicate_zero, List.push_toArray, List.append_toArray, List.nil_append, List.cons_append]
  have HC := Lib.hid (And.intro h1 (And.intro h2 h0))
  clear h1 h2 h0
  gi_wp2
  gi_loopw [3, 4, 5] (fun _ _ p wr => ∃ k : Nat, k ≤ 32 ∧ p = .int .i64 k ∧ J (pt k 1) wr ∧ KeepB Bn W wr) (fun _ _ p _ => 32 - (intOf p).toNat)
  case atStart => exact ⟨0, by omega, rfl, by rw [HX.out.2.2]; exact HC.out.2.2, KeepB.refl _ _⟩
  case round =>
    obtain ⟨k, hk, rfl, hJk, hbw⟩ := hrel
    have HK := Lib.hid (And.intro hJk hbw)
    clear hJk hbw
    by_cases hlt : k < 32
    · have hd : decide ((k : Int) < 32) = true := decide_eq_true (by omega)
      gi_wp2
      gi_loopw [4] (fun p wr => ∃ m : Nat, 1 ≤ m ∧ m ≤ 3 ∧ p = .int .i64 m ∧ J (pt k m) wr ∧ KeepB Bn W wr) (fun p _ => 3 - (intOf p).toNat)
      case atStart => exact ⟨1, by omega, by omega, rfl, HK.out⟩
      case round =>
        obtain ⟨m, hm1, hm3, rfl, hJm, hbw⟩ := hrel
        have z0 : wr.cell? ⟨Bn, 0, none⟩ = some (.int .u32 c1) := hbw.cell.trans HC.out.1
        have z1 : wr.cell? ⟨Bn, 1, none⟩ = some (.int .u32 c2) := hbw.cell.trans HC.out.2.1
        have HM := Lib.hid (And.intro hJm hbw)
        clear hJm hbw
        by_cases hm : m < 3
        · have hle := HLE.out k m hlt
          have hd2 : decide ((m : Int) ≤ 2) = true := decide_eq_true (by omega)
          cases hh : hs k m
          · have hno := Lib.hid (HNO.out k m hlt hm1 (by omega) hh)
            have F1 := Lib.hid (fun w => F.out k m w)
            rw [hh] at F1
            clear hh
            gi_wp2_with (refine ⟨trivial, ?_⟩; gi_at_call 18; refine (callsIn_wide.2 (F1.out _)).mono ?_; rintro e w2 ⟨rfl, hb⟩; have HB := Lib.hid hb; clear hb z0 z1)
            all_goals
              refine ⟨fun _ h => (by cases h), ?_⟩
              gi_wp2
              go_roundw
              case rel => exact ⟨m + 1, by omega, by omega, by go_num, by rw [hno.out]; exact HJ.out _ _ _ none HM.out.1 (Below.grows HB.out) (fun r e => by cases e), HM.out.2.trans (KeepB.of HB.out (Nat.lt_of_lt_of_le hB HM.out.2.size))⟩
              case measure => simp [intOf]; omega
          · have hyes := Lib.hid (HY.out k m hlt hm1 (by omega) hh)
            have F1 := Lib.hid (fun w => F.out k m w)
            rw [hh] at F1
            clear hh
            gi_wp2_with (refine ⟨trivial, ?_⟩; gi_at_call 18; refine (callsIn_wide.2 (F1.out _)).mono ?_; rintro e w2 ⟨rfl, hb⟩; have HB := Lib.hid (And.intro (HJ.out _ _ _ none HM.out.1 (Below.grows hb) (fun r e => by cases e)) (HM.out.2.trans (KeepB.of hb (Nat.lt_of_lt_of_le hB HM.out.2.size)))); clear hb z0 z1; obtain ⟨fn, tmps, assign, body, hy, hR⟩ := HYY.out (pt k m) (k, m) w2 HB.out.1 (by omega); dsimp only [encP] at hy; have HR := Lib.hid hR; clear hR)
            refine HR.out.mono ?_
            rintro e w3 (⟨rfl, hJ3, hk3⟩ | ⟨rfl, hJx3⟩)
            · have H3 := Lib.hid (And.intro hJ3 (HB.out.2.trans hk3))
              clear hJ3 hk3 hy HR
              gi_wp2
              go_roundw
              case rel => exact ⟨m + 1, by omega, by omega, by go_num, by rw [hyes.out]; exact H3.out.1, H3.out.2⟩
              case measure => simp [intOf]; omega
            · have H3 := Lib.hid hJx3
              clear hJx3 hy HR
              gi_wp2
              refine bodyPost_ret (results_none rfl _ _ _) rfl ?_
              exact ⟨⟨_, rfl⟩, .inr ⟨_, H3.out⟩⟩
        · obtain rfl : m = 3 := by omega
          clear z0 z1
          gi_wp2
          go_roundw
          case rel => exact ⟨k + 1, by omega, by go_num, by rw [HX.out.1]; exact HM.out.1, HM.out.2⟩
          case measure => simp [intOf]; omega
    · obtain rfl : k = 32 := by omega
      gi_wp2
      go_end0
      exact ⟨⟨_, rfl⟩, .inl ⟨_, HX.out.2.1, HK.out.1⟩⟩
end Go.Proofs.Ytclkfclbnapamaa
