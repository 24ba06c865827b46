/- Step of contact at what is no state. No statement of the seat is proved here. -/
import Derived.Test.YtcobcefefifmcaaCtStep
namespace Go.Proofs.Ytcobcefefifmcaa
open Go.RowKit

theorem zero_one : (#[.int .u32 0, .bool false, .bool false, .bool false, .bool false, .int .i64 0, .int .i64 0, .int .i64 0, .int .i64 0, .int .i64 0, .int .i64 0, .int .i64 0, .int .i64 0, .int .i64 0, .int .i64 0, .int .i64 0, .int .i64 0, .int .i64 0, .int .i64 0, .int .i64 0, .int .i64 0, .int .i64 0, .int .i64 0, .int .i64 0, .int .i64 0, .int .i64 0, .int .i64 0, .int .i64 0, .int .i64 0, .int .i64 0, .int .i64 0, .int .i64 0, .int .i64 0, .int .i64 0, .int .i64 0, .int .i64 0, .int .i64 0, .int .i64 0, .int .i64 0, .int .i64 0, .int .i64 0] : Array Value).all (·.oneCell') = true := by rw [zero_lit]; exact Db.one _
theorem zero_list : (#[.int .u32 0, .bool false, .bool false, .bool false, .bool false, .int .i64 0, .int .i64 0, .int .i64 0, .int .i64 0, .int .i64 0, .int .i64 0, .int .i64 0, .int .i64 0, .int .i64 0, .int .i64 0, .int .i64 0, .int .i64 0, .int .i64 0, .int .i64 0, .int .i64 0, .int .i64 0, .int .i64 0, .int .i64 0, .int .i64 0, .int .i64 0, .int .i64 0, .int .i64 0, .int .i64 0, .int .i64 0, .int .i64 0, .int .i64 0, .int .i64 0, .int .i64 0, .int .i64 0, .int .i64 0, .int .i64 0, .int .i64 0, .int .i64 0, .int .i64 0, .int .i64 0, .int .i64 0] : Array Value).toList = Db.zero.cells.toList := congrArg Array.toList zero_lit
set_option maxHeartbeats 1000000 in
theorem step_bad (n : Int) (s : Db) (r : Ct) (w : World) (hs : s.ok) (h : s.isB n = false) :
    Calls Try.prog 14 #[.int .i64 n, s.agg, r.agg] w fun e w' => e = .returned (.tuple #[Db.zero.agg, .int .i64 1]) ∧ Below w.heap.size w w' := by
  have FI := Lib.hid (fun w => isState_any n s w hs)
  rw [h] at FI
  have hi := infoDb (Db.size hs)
  have hz := infoDb41
  rw [Db.agg_list Db.zero]
  unfold Db.agg at FI
  rw [show s.agg = .agg s.cells from rfl]
  unfold Ct.agg
  generalize s.cells = C at *
  clear hs h
  go_enter Try.func14, Try.ntmps14
  go_wp2_with (refine wpList_load_row rfl 31 _ rfl _ rfl _ _ _ _ (blk3 _ _ _ _).1 Try.underlying31 rfl hi ?_)
  refine (FI.out _).mono ?_
  rintro e w1 ⟨rfl, hb⟩
  obtain ⟨-, -, g2, hbw, hsz⟩ := three hb
  clear hb
  have ht := there_of_row (n := 41) g2 (by decide)
  clear g2
  go_wp2_with (refine wpList_store_mid rfl 31 _ _ rfl _ _ _ rfl rfl ?ht ?hz ?h1 ?k; (case ht => exact ht); (case hz => exact hz); (case h1 => exact zero_one); generalize hW2 : World.setCells w1 (w.heap.size + 1 + 1) 0 _ = W2)

  have hr2 := World.rangeAt_setCells_same w1 (w.heap.size + 1 + 1) 0 Db.zero.cells.toList (by rw [Array.length_toList, Db.size Db.zero_okD]; exact ht)
  have hb2 := Below.setCells (b := w.heap.size + 1 + 1) (by omega) Db.zero.cells.toList 0 hbw
  have hW3 := hW2.symm.trans (congrArg (w1.setCells (w.heap.size + 1 + 1) 0) (show _ = Db.zero.cells.toList by kernel_rfl))
  rw [← hW3] at hr2 hb2
  refine bodyPost_ret (results_mid_slot Try.results14 _ _ _ Db.zero.cells.toList _ ?hp hr2 Try.underlying31 ?hd ?hi) ?hdf ⟨?he, hb2⟩
  case hp => rfl
  case hd => rfl
  case hdf => rfl
  case hi => rw [Array.length_toList, Db.size Db.zero_okD]; exact hz
  case he => rfl
end Go.Proofs.Ytcobcefefifmcaa
