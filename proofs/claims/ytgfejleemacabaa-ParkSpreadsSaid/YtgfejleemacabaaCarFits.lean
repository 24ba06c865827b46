/- building.carFits: whether a car's times and its home fit; nothing that existed has changed. -/
import Derived.Test.YtgfejleemacabaaWithin
namespace Go.Proofs.Ytgfejleemacabaa
open Go.RowKit

theorem within_n (b off n cap : Nat) (lo hi : Int) (zs : List Int) (w : World) (hz : zs.length = n) (hn : n ≤ 1000) (hc : IntsAt w b off zs) :
    Calls Try.prog 17 #[.int .i64 lo, .int .i64 hi, .slice (some ⟨b, off, none⟩) n cap] w fun e w' => e = .returned (.bool (inAll lo hi zs)) ∧ w = w' := by
  subst hz
  exact within_any b off cap lo hi zs w hn hc

theorem within_new (w : World) (cs : Array Value) (t : TypeId) (b n cap : Nat) (lo hi : Int) (zs : List Int) (hb : b = w.heap.size) (hn : cs.size = n) (hle : n ≤ 1000) (hz : IsInts cs.toList zs) :
    Calls Try.prog 17 #[.int .i64 lo, .int .i64 hi, .slice (some ⟨b, 0, none⟩) n cap] (w.alloc (.cells cs t)) fun e w' => e = .returned (.bool (inAll lo hi zs)) ∧ w.alloc (.cells cs t) = w' :=
  within_n b 0 n cap lo hi zs _ (by have := congrArg List.length hz.eq; rw [List.length_map, Array.length_toList] at this; omega) hle (intsAt_new hb hz.eq)

def carFitsB (floors : Int) (c : CarD) : Bool :=
  inAll 1 10000 [c.deadline, c.pulse, c.quiet, c.step, c.travel, c.dwell, c.hold] && (inAll 0 10000 [c.slack] && (decide (c.dwell ≤ c.hold) && inAll 0 (floors - 1) [c.home]))

theorem carFits_any (floors : Int) (c : CarD) (w : World) (h1 : 0 ≤ floors) (h2 : floors ≤ 100) :
    Calls Try.prog 23 #[.int .i64 floors, c.agg] w fun e w' => e = .returned (.bool (carFitsB floors c)) ∧ Below w.heap.size w w' := by
  obtain ⟨c1, c2, c3, c4, c5, c6, c7, c8, c9⟩ := c
  have hfin : carFitsB floors ⟨c1, c2, c3, c4, c5, c6, c7, c8, c9⟩ = (inAll 1 10000 [c1, c2, c3, c5, c6, c7, c8] && (inAll 0 10000 [c4] && (decide (c7 ≤ c8) && inAll 0 (floors - 1) [c9]))) := rfl
  rw [hfin]
  clear hfin
  unfold CarD.agg
  go_enter Try.func23, Try.ntmps23
  go_wp2_with (go_at_call 17; refine (within_new _ _ _ _ _ _ _ _ _ (by simp) (by rfl) (by omega) (by repeat constructor)).mono ?_; rintro e w' ⟨rfl, rfl⟩)
  all_goals
    go_ret
    refine ⟨ret_bool ?_, by go_grown⟩
    first | (simp [*]; done) | (simp [*]; omega)
end Go.Proofs.Ytgfejleemacabaa
