/- What the texts behind this one rest on: several texts in one. No statement of the seat is proved here. -/
import Derived.Test.YthbfpdkgbkpmiaaG0
namespace Go.Proofs.Ythbfpdkgbkpmiaa
section
open Go.RowKit

theorem inAll_take_succ (lo hi : Int) (zs : List Int) (k : Nat) (h : k < zs.length) : inAll lo hi (zs.take (k + 1)) = (inAll lo hi (zs.take k) && decide (lo ≤ zs.getD k 0 ∧ zs.getD k 0 ≤ hi)) := by
  unfold inAll
  rw [List.take_succ_eq_append_getElem h, List.all_append]
  simp [List.getD, h]

theorem inAll_false (lo hi : Int) (zs : List Int) (k : Nat) (h : k < zs.length) (hb : ¬ (lo ≤ zs.getD k 0 ∧ zs.getD k 0 ≤ hi)) : inAll lo hi zs = false := by
  unfold inAll
  rw [List.all_eq_false]
  refine ⟨zs[k], List.getElem_mem h, ?_⟩
  simpa [List.getD, h] using hb

theorem within_any (b off cap : Nat) (lo hi : Int) (zs : List Int) (w : World) (hn : zs.length ≤ 1000) (hc : IntsAt w b off zs) :
    Calls Try.prog 67 #[.int .i64 lo, .int .i64 hi, .slice (some ⟨b, off, none⟩) zs.length cap] w fun e w' => e = .returned (.bool (inAll lo hi zs)) ∧ w = w' := by
  have HC := Lib.hid hc
  clear hc
  go_enter Try.func67, Try.ntmps67
  go_wp2
  go_loop [11] (fun i => ∃ k : Nat, k ≤ zs.length ∧ i = .int .i64 k ∧ Hid (inAll lo hi (zs.take k) = true)) (fun i => zs.length - (intOf i).toNat)
  case atStart => exact ⟨0, Nat.zero_le _, rfl, rfl⟩
  case round =>
    obtain ⟨k, hk, rfl, hin⟩ := hrel
    by_cases hlt : k < zs.length
    · have hcell : w.cell? ⟨b, off + k, none⟩ = some (.int .i64 (zs.getD k 0)) := HC.out k hlt
      by_cases hgood : lo ≤ zs.getD k 0 ∧ zs.getD k 0 ≤ hi
      · have hs := inAll_take_succ lo hi zs k hlt
        rw [hin.out, Bool.true_and, decide_eq_true hgood] at hs
        have HS := Lib.hid hs
        clear hs hin
        obtain ⟨hg1, hg2⟩ := hgood
        go_wp2
        all_goals first
          | (go_round
             case rel => exact ⟨k + 1, by omega, by go_num, HS.out⟩
             case measure => simp [intOf]; omega)
          | (exfalso; first | (simp_all; done) | (simp_all; omega))
      · have hs := inAll_false lo hi zs k hlt hgood
        have HS := Lib.hid hs
        clear hs
        have hg : zs.getD k 0 < lo ∨ hi < zs.getD k 0 := by omega
        rcases hg with hg | hg
        all_goals
          go_wp2
          all_goals first
            | (go_ret; exact ⟨ret_bool HS.out.symm, rfl⟩)
            | (exfalso; first | (simp_all; done) | (simp_all; omega))
    · go_wp2
      go_ret
      have he : zs.take k = zs := List.take_of_length_le (by omega)
      have hi' := hin.out
      rw [he] at hi'
      exact ⟨ret_bool hi'.symm, rfl⟩
end

section
open Go.RowKit

theorem within_n (b off n cap : Nat) (lo hi : Int) (zs : List Int) (w : World) (hz : zs.length = n) (hn : n ≤ 1000) (hc : IntsAt w b off zs) :
    Calls Try.prog 67 #[.int .i64 lo, .int .i64 hi, .slice (some ⟨b, off, none⟩) n cap] w fun e w' => e = .returned (.bool (inAll lo hi zs)) ∧ w = w' := by
  subst hz
  exact within_any b off cap lo hi zs w hn hc

theorem within_new (w : World) (cs : Array Value) (t : TypeId) (b n cap : Nat) (lo hi : Int) (zs : List Int) (hb : b = w.heap.size) (hn : cs.size = n) (hle : n ≤ 1000) (hz : IsInts cs.toList zs) :
    Calls Try.prog 67 #[.int .i64 lo, .int .i64 hi, .slice (some ⟨b, 0, none⟩) n cap] (w.alloc (.cells cs t)) fun e w' => e = .returned (.bool (inAll lo hi zs)) ∧ w.alloc (.cells cs t) = w' :=
  within_n b 0 n cap lo hi zs _ (by have := congrArg List.length hz.eq; rw [List.length_map, Array.length_toList] at this; omega) hle (intsAt_new hb hz.eq)

def carFitsB (floors : Int) (c : CarD) : Bool :=
  inAll 1 10000 [c.deadline, c.pulse, c.quiet, c.step, c.travel, c.dwell, c.hold] && (inAll 0 10000 [c.slack] && (decide (c.dwell ≤ c.hold) && inAll 0 (floors - 1) [c.home]))

theorem carFits_any (floors : Int) (c : CarD) (w : World) (h1 : 0 ≤ floors) (h2 : floors ≤ 100) :
    Calls Try.prog 82 #[.int .i64 floors, c.agg] w fun e w' => e = .returned (.bool (carFitsB floors c)) ∧ Below w.heap.size w w' := by
  obtain ⟨c1, c2, c3, c4, c5, c6, c7, c8, c9⟩ := c
  have hfin : carFitsB floors ⟨c1, c2, c3, c4, c5, c6, c7, c8, c9⟩ = (inAll 1 10000 [c1, c2, c3, c5, c6, c7, c8] && (inAll 0 10000 [c4] && (decide (c7 ≤ c8) && inAll 0 (floors - 1) [c9]))) := rfl
  rw [hfin]
  clear hfin
  unfold CarD.agg
  go_enter Try.func82, Try.ntmps82
  go_wp2_with (go_at_call 67; refine (within_new _ _ _ _ _ _ _ _ _ (by simp) (by rfl) (by omega) (by repeat constructor)).mono ?_; rintro e w' ⟨rfl, rfl⟩)
  all_goals
    go_ret
    refine ⟨ret_bool ?_, by go_grown⟩
    first | (simp [*]; done) | (simp [*]; omega)
end

section
open Go.RowKit

theorem inAll_single (lo hi n : Int) : inAll lo hi [n] = decide (lo ≤ n ∧ n ≤ hi) := by simp [inAll]

theorem refIn_any (n lo hi : Int) (w : World) :
    Calls Try.prog 70 #[.int .i64 n, .int .i64 lo, .int .i64 hi] w fun e w' => e = .returned (.bool (inAll lo hi [n])) ∧ w = w' := by
  rw [inAll_single]
  by_cases h1 : lo ≤ n
  · go_enter Try.func70, Try.ntmps70
    go_wp2
    go_ret
    exact ⟨ret_bool (by simp [h1]), rfl⟩
  · go_enter Try.func70, Try.ntmps70
    go_wp2
    go_ret
    exact ⟨ret_bool (by simp; omega), rfl⟩

theorem refTimes_any (b : BldD) (A : Option Addr) (cap : Nat) (c : CarD) (w : World) (hf1 : 0 ≤ b.floors) (hf2 : b.floors ≤ 100) :
    Calls Try.prog 71 #[b.agg A cap, c.agg] w fun e w' => e = .returned (.bool (carFitsB b.floors c)) ∧ Below w.heap.size w w' := by
  obtain ⟨f, d, r, p, e1, e2, e3, cs⟩ := b
  obtain ⟨c1, c2, c3, c4, c5, c6, c7, c8, c9⟩ := c
  simp only at hf1 hf2
  have E0 : ∀ b1 b2 b3 b4 : Bool, inAll 1 10000 [c1, c2, c3, c5, c6, c7, c8] = b1 → inAll 0 10000 [c4] = b2 → decide (c7 ≤ c8) = b3 → inAll 0 (f - 1) [c9] = b4 → carFitsB f ⟨c1, c2, c3, c4, c5, c6, c7, c8, c9⟩ = (b1 && (b2 && (b3 && b4))) := by
    rintro _ _ _ _ rfl rfl rfl rfl; rfl
  have E1 := Lib.hid E0
  clear E0
  simp only [BldD.agg, CarD.agg]
  by_cases h0 : c4 < 0
  · go_enter Try.func71, Try.ntmps71
    go_wp2
    go_ret
    refine ⟨ret_bool ?_, by go_grown⟩
    rw [E1.out _ false _ _ rfl (by rw [inAll_single]; simp; omega) rfl rfl]
    simp
  · by_cases h1 : 10000 < c4
    · go_enter Try.func71, Try.ntmps71
      go_wp2
      go_ret
      refine ⟨ret_bool ?_, by go_grown⟩
      rw [E1.out _ false _ _ rfl (by rw [inAll_single]; simp; omega) rfl rfl]
      simp
    · have hs : inAll 0 10000 [c4] = true := by rw [inAll_single]; simp; omega
      have Hs := Lib.hid hs
      clear hs
      go_enter Try.func71, Try.ntmps71
      go_wp2
      have HI := Lib.hid (intsAt_new (w := (w.alloc (.cells #[.int .i64 f, .int .i64 d, .int .i64 r, .int .i64 p, .float .f64 e1, .float .f64 e2, .float .f64 e3, .slice A cs.length cap] 25)).alloc (.cells #[.int .i64 c1, .int .i64 c2, .int .i64 c3, .int .i64 c4, .int .i64 c5, .int .i64 c6, .int .i64 c7, .int .i64 c8, .int .i64 c9] 106)) (b := w.heap.size + 1 + 1) (cs := #[.int .i64 c1, .int .i64 c2, .int .i64 c3, .int .i64 c5, .int .i64 c6, .int .i64 c7, .int .i64 c8, .int .i64 (c4 + 1)]) (zs := [c1, c2, c3, c5, c6, c7, c8, c4 + 1]) (e := 3) (by simp) rfl)
      go_loop [6] (fun v => ∃ k : Nat, k ≤ 7 ∧ v = .int .i64 k ∧ Hid (inAll 1 10000 ([c1, c2, c3, c5, c6, c7, c8].take k) = true)) (fun v => 7 - (intOf v).toNat)
      case atStart => exact ⟨0, Nat.zero_le _, rfl, rfl⟩
      case round =>
        obtain ⟨k, hk, rfl, hin⟩ := hrel
        by_cases hlt : k < 7
        · obtain ⟨z, hz⟩ : ∃ z, z = [c1, c2, c3, c5, c6, c7, c8].getD k 0 := ⟨_, rfl⟩
          have hcell : (((w.alloc (.cells #[.int .i64 f, .int .i64 d, .int .i64 r, .int .i64 p, .float .f64 e1, .float .f64 e2, .float .f64 e3, .slice A cs.length cap] 25)).alloc (.cells #[.int .i64 c1, .int .i64 c2, .int .i64 c3, .int .i64 c4, .int .i64 c5, .int .i64 c6, .int .i64 c7, .int .i64 c8, .int .i64 c9] 106)).alloc (.cells #[.int .i64 c1, .int .i64 c2, .int .i64 c3, .int .i64 c5, .int .i64 c6, .int .i64 c7, .int .i64 c8, .int .i64 (c4 + 1)] 3)).cell? ⟨w.heap.size + 1 + 1, k, none⟩ = some (.int .i64 z) := by
            have := HI.out k (by simp; omega)
            rw [Nat.zero_add] at this
            rw [this, hz]
            have hg : [c1, c2, c3, c5, c6, c7, c8, c4 + 1].getD k 0 = [c1, c2, c3, c5, c6, c7, c8].getD k 0 := by
              rcases k with _ | _ | _ | _ | _ | _ | _ | k <;> first | rfl | omega
            rw [hg]
          have HZ := Lib.hid hz
          clear hz
          rcases Bool.eq_false_or_eq_true (inAll 1 10000 [z]) with hg | hg
          · go_wp2_with (go_at_call 70; refine (refIn_any _ _ _ _).mono ?_; rintro e w' ⟨rfl, rfl⟩)
            go_round
            case rel =>
              refine ⟨k + 1, by omega, by go_num, ?_⟩
              show _ = _
              rw [inAll_take_succ _ _ _ k (by simp; omega), hin.out, ← HZ.out, ← inAll_single, hg]
              rfl
            case measure => simp [intOf]; omega
          · go_wp2_with (go_at_call 70; refine (refIn_any _ _ _ _).mono ?_; rintro e w' ⟨rfl, rfl⟩)
            go_ret
            refine ⟨ret_bool ?_, by go_grown⟩
            rw [E1.out false true _ _ ?_ Hs.out rfl rfl]
            · rfl
            · refine inAll_false _ _ _ k (by simp; omega) ?_
              rw [← HZ.out]
              rw [inAll_single, decide_eq_false_iff_not] at hg
              exact hg
        · obtain rfl : k = 7 := by omega
          have ha : inAll 1 10000 [c1, c2, c3, c5, c6, c7, c8] = true := hin.out
          have Ha := Lib.hid ha
          clear ha hin
          by_cases h5 : c7 ≤ c8
          · go_wp2_with (go_at_call 70; refine (refIn_any _ _ _ _).mono ?_; rintro e w' ⟨rfl, rfl⟩)
            go_ret
            refine ⟨ret_bool ?_, by go_grown⟩
            rw [E1.out true true true _ Ha.out Hs.out (by simpa using h5) rfl]
            simp
          · go_wp2_with (go_at_call 70; refine (refIn_any _ _ _ _).mono ?_; rintro e w' ⟨rfl, rfl⟩)
            go_ret
            refine ⟨ret_bool ?_, by go_grown⟩
            rw [E1.out true true false _ Ha.out Hs.out (by simpa using h5) rfl]
            rfl
end

section
open Go.RowKit

def timesFitB (b : BldD) : Bool := inAll 1 16 [b.debounce] && (inAll 1 10000 [b.park] && b.cars.all (carFitsB b.floors))

theorem all_take_succ (p : CarD → Bool) (cs : List CarD) (k : Nat) (h : k < cs.length) : (cs.take (k + 1)).all p = ((cs.take k).all p && p cs[k]) := by
  rw [List.take_succ_eq_append_getElem h, List.all_append]
  simp

theorem all_at_false (p : CarD → Bool) (cs : List CarD) (k : Nat) (h : k < cs.length) (hb : p cs[k] = false) : cs.all p = false := by
  rw [List.all_eq_false]
  exact ⟨cs[k], List.getElem_mem h, by simp [hb]⟩

theorem timesFit_any (b : BldD) (A : Option Addr) (cap : Nat) (w : World) (h1 : 0 ≤ b.floors) (h2 : b.floors ≤ 100) (hn : b.cars.length ≤ 100) (hc : CarsAt w w.heap.size A b.cars) :
    Calls Try.prog 68 #[b.agg A cap] w fun e w' => e = .returned (.bool (timesFitB b)) ∧ Below w.heap.size w w' := by
  obtain ⟨f, d, r, p, e1, e2, e3, cs⟩ := b
  simp only at h1 h2 hn hc
  have E0 : ∀ b1 b2 b3 : Bool, inAll 1 16 [d] = b1 → inAll 1 10000 [p] = b2 → cs.all (carFitsB f) = b3 → timesFitB ⟨f, d, r, p, e1, e2, e3, cs⟩ = (b1 && (b2 && b3)) := by
    rintro b1 b2 b3 rfl rfl rfl; rfl
  have E1 := Lib.hid E0
  clear E0
  simp only [BldD.agg]
  have HC := Lib.hid hc
  clear hc
  rcases Bool.eq_false_or_eq_true (inAll 1 16 [d]) with hd | hd
  · rcases Bool.eq_false_or_eq_true (inAll 1 10000 [p]) with hp | hp
    · go_enter Try.func68, Try.ntmps68
      go_wp2_with (go_at_call 67; refine (within_new _ _ _ _ _ _ _ _ _ (by simp) (by rfl) (by omega) (by repeat constructor)).mono ?_; rintro e w' ⟨rfl, rfl⟩)
      have Hd := Lib.hid hd
      have Hp := Lib.hid hp
      clear hd hp
      go_loopw [20] (fun v wr => ∃ k : Nat, k ≤ cs.length ∧ v = .int .i64 k ∧ Hid ((cs.take k).all (carFitsB f) = true) ∧ Below (w.heap.size + 1) (w.alloc (.cells #[.int .i64 f, .int .i64 d, .int .i64 r, .int .i64 p, .float .f64 e1, .float .f64 e2, .float .f64 e3, .slice A cs.length cap] 25)) wr) (fun v _ => cs.length - (intOf v).toNat)
      case atStart => exact ⟨0, Nat.zero_le _, rfl, rfl, by go_grown⟩
      case round =>
        obtain ⟨k, hk, rfl, hall, hbel⟩ := hrel
        have hf0 : wr.cell? ⟨w.heap.size, 0, none⟩ = some (.int .i64 f) := cell_new_below hbel 0
        by_cases hlt : k < cs.length
        · have HC' := HC.out.below (below_of_new hbel)
          obtain ⟨b, off, c1, c2, c3, c4, c5, c6, c7, c8, c9, rfl, hb, hcar, g0, g1, g2, g3, g4, g5, g6, g7, g8⟩ := HC'.at_ hlt
          clear HC'
          have hz : w.heap.size < wr.heap.size := by have := hbel.size; simp at this; omega
          rcases Bool.eq_false_or_eq_true (carFitsB f ⟨c1, c2, c3, c4, c5, c6, c7, c8, c9⟩) with hf | hf
          · go_wp2_with (go_at_call 82; refine (carFits_any f ⟨c1, c2, c3, c4, c5, c6, c7, c8, c9⟩ _ h1 h2).mono ?_; rintro e w' ⟨rfl, hb'⟩)
            go_roundw
            case rel =>
              refine ⟨k + 1, by omega, by go_num, ?_, ?_⟩
              · have hs := all_take_succ (carFitsB f) cs k hlt
                rw [hall.out, hcar.out, hf] at hs
                exact hs
              · exact hbel.trans (((Below.refl _ _).alloc (by omega) _).trans (hb'.mono (by simp; omega)))
            case measure => simp [intOf]; omega
          · go_wp2_with (go_at_call 82; refine (carFits_any f ⟨c1, c2, c3, c4, c5, c6, c7, c8, c9⟩ _ h1 h2).mono ?_; rintro e w' ⟨rfl, hb'⟩)
            go_ret
            refine ⟨ret_bool ?_, ?_⟩
            · rw [E1.out _ _ _ Hd.out Hp.out (all_at_false _ _ k hlt (by rw [hcar.out, hf]))]
              rfl
            · exact (below_of_new hbel).trans (((Below.refl _ _).alloc (by omega) _).trans (hb'.mono (by simp; omega)))
        · go_wp2
          go_ret
          have he : cs.take k = cs := List.take_of_length_le (by omega)
          have hi' := hall.out
          rw [he] at hi'
          refine ⟨ret_bool ?_, below_of_new hbel⟩
          rw [E1.out _ _ _ Hd.out Hp.out hi']
          rfl
    · go_enter Try.func68, Try.ntmps68
      go_wp2_with (go_at_call 67; refine (within_new _ _ _ _ _ _ _ _ _ (by simp) (by rfl) (by omega) (by repeat constructor)).mono ?_; rintro e w' ⟨rfl, rfl⟩)
      go_ret
      refine ⟨ret_bool ?_, by go_grown⟩
      rw [E1.out _ _ _ hd hp rfl]
      rfl
  · go_enter Try.func68, Try.ntmps68
    go_wp2_with (go_at_call 67; refine (within_new _ _ _ _ _ _ _ _ _ (by simp) (by rfl) (by omega) (by repeat constructor)).mono ?_; rintro e w' ⟨rfl, rfl⟩)
    go_ret
    refine ⟨ret_bool ?_, by go_grown⟩
    rw [E1.out _ _ _ hd rfl rfl]
    rfl
end
end Go.Proofs.Ythbfpdkgbkpmiaa
