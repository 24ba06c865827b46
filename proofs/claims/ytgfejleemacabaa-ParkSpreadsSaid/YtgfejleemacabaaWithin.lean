/- building.within: whether all values of a row lie between two numbers; the world stays as it was. -/
import Derived.Test.YtgfejleemacabaaMem
namespace Go.Proofs.Ytgfejleemacabaa
open Go.RowKit

theorem inAll_take_succ (lo hi : Int) (zs : List Int) (k : Nat) (h : k < zs.length) : inAll lo hi (zs.take (k + 1)) = (inAll lo hi (zs.take k) && decide (lo ≤ zs.getD k 0 ∧ zs.getD k 0 ≤ hi)) := by
  unfold inAll
  rw [List.take_succ_eq_append_getElem h, List.all_append]
  simp [List.getD, h]

theorem inAll_false (lo hi : Int) (zs : List Int) (k : Nat) (h : k < zs.length) (hb : ¬ (lo ≤ zs.getD k 0 ∧ zs.getD k 0 ≤ hi)) : inAll lo hi zs = false := by
  unfold inAll
  rw [List.all_eq_false]
  refine ⟨zs[k], List.getElem_mem h, ?_⟩
  simpa [List.getD, h] using hb

theorem within_any (b off cap : Nat) (lo hi : Int) (zs : List Int) (w : World) (hn : zs.length ≤ 1000) (hc : IntsAt w b off zs) :
    Calls Try.prog 17 #[.int .i64 lo, .int .i64 hi, .slice (some ⟨b, off, none⟩) zs.length cap] w fun e w' => e = .returned (.bool (inAll lo hi zs)) ∧ w = w' := by
  have HC := Lib.hid hc
  clear hc
  go_enter Try.func17, Try.ntmps17
  go_wp2
  go_loop [11] (fun i => ∃ k : Nat, k ≤ zs.length ∧ i = .int .i64 k ∧ Hid (inAll lo hi (zs.take k) = true)) (fun i => zs.length - (intOf i).toNat)
  case atStart => exact ⟨0, Nat.zero_le _, rfl, rfl⟩
  case round =>
    obtain ⟨k, hk, rfl, hin⟩ := hrel
    by_cases hlt : k < zs.length
    · have hcell : w.cell? ⟨b, off + k, none⟩ = some (.int .i64 (zs.getD k 0)) := HC.out k hlt
      by_cases hgood : lo ≤ zs.getD k 0 ∧ zs.getD k 0 ≤ hi
      · have hs := inAll_take_succ lo hi zs k hlt
        rw [hin.out, Bool.true_and, decide_eq_true hgood] at hs
        have HS := Lib.hid hs
        clear hs hin
        obtain ⟨hg1, hg2⟩ := hgood
        go_wp2
        all_goals first
          | (go_round
             case rel => exact ⟨k + 1, by omega, by go_num, HS.out⟩
             case measure => simp [intOf]; omega)
          | (exfalso; first | (simp_all; done) | (simp_all; omega))
      · have hs := inAll_false lo hi zs k hlt hgood
        have HS := Lib.hid hs
        clear hs
        have hg : zs.getD k 0 < lo ∨ hi < zs.getD k 0 := by omega
        rcases hg with hg | hg
        all_goals
          go_wp2
          all_goals first
            | (go_ret; exact ⟨ret_bool HS.out.symm, rfl⟩)
            | (exfalso; first | (simp_all; done) | (simp_all; omega))
    · go_wp2
      go_ret
      have he : zs.take k = zs := List.take_of_length_le (by omega)
      have hi' := hin.out
      rw [he] at hi'
      exact ⟨ret_bool hi'.symm, rfl⟩
end Go.Proofs.Ytgfejleemacabaa
