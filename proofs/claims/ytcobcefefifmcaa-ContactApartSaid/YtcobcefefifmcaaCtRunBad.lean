/- Run of contact and of the reference, where they refuse. No statement of the seat is proved here. -/
import Derived.Test.YtcobcefefifmcaaCtList
namespace Go.Proofs.Ytcobcefefifmcaa
open Go.RowKit

set_option maxHeartbeats 1000000 in
theorem run_bad (n : Int) (s : Db) (A : Option Addr) (l cap : Nat) (w : World) (hs : s.ok) (h : s.isB n = false) (_hl : l ≤ 9223372036854775807) :
    Calls Try.prog 18 #[.int .i64 n, s.agg, .slice A l cap] w fun e w' => e = .returned (.tuple #[Db.zero.agg, .slice none 0 0, .int .i64 1]) ∧ Below w.heap.size w w' := by
  have FI := Lib.hid (fun w => isState_any n s w hs)
  rw [h] at FI
  have hi := infoDb (Db.size hs)
  have hz := infoDb (Db.size Db.zero_okD)
  have h1c := Db.one Db.zero
  have hZ41 := Db.size Db.zero_okD
  rw [show Db.zero.agg = .agg Db.zero.cells from rfl]
  rw [show s.agg = .agg s.cells from rfl]
  unfold Db.agg at FI
  generalize s.cells = C at *
  clear hs h
  go_enter Try.func18, Try.ntmps18
  go_wp2_with (with_reducible show wpList _ _ _ (Oper.mk _ (.load 31 _) _ _ _ _ :: _) _ _; refine wpList_load_row rfl 31 _ rfl _ rfl _ _ _ _ (blk2 _ _ _).1 Try.underlying31 rfl hi ?_)
  refine (FI.out _).mono ?_
  rintro e w1 ⟨rfl, hb⟩
  obtain ⟨-, g1, hbw, hsz⟩ := two hb
  obtain ⟨Z, hZ, hZ2⟩ : ∃ Z : Array Value, Z.size = 41 ∧ w1.heap[w.heap.size + 1]? = some (.cells Z 31 (0, 0)) := ⟨_, rfl, g1⟩
  clear hb g1
  obtain ⟨x2, hx2⟩ : ∃ x2, x2 = w1.setRow (w.heap.size + 1) Db.zero.cells := ⟨_, rfl⟩
  have p0 : x2.heap[w.heap.size + 1]? = some (.cells Db.zero.cells 31 (0, 0)) := by rw [hx2]; exact setRow_heap w1 _ _ Db.zero.cells _ _ hZ2
  have p3 : Below w.heap.size w x2 := by rw [hx2]; exact below_setRow hbw (by omega) _
  have HX2 := Lib.hid hx2
  have HP := Lib.hid (And.intro p0 p3)
  have hZE : Z.size = Db.zero.cells.size := by rw [hZ, hZ41]
  clear hx2 p0 p3 hbw hZ41
  go_wp2_with (with_reducible show wpList _ _ _ (Oper.mk _ (.store 31 _ _) _ _ _ _ :: _) _ _; refine wpList_store_lit rfl 31 _ _ rfl _ _ Db.zero.cells Z _ rfl rfl ?hy hZ2 hz hZE h1c x2 HX2 ?_; (case hy => kernel_rfl))
  refine bodyPost_ret (results_row_slots Try.results18 _ _ _ _ Db.zero.cells _ _ ?hp HP.out.1 Try.underlying31 ?hd ?hi) ?hdf ⟨?he, HP.out.2⟩
  case hp => rfl
  case hd => rfl
  case hdf => rfl
  case hi => exact hz
  case he => rfl

set_option maxHeartbeats 1000000 in
theorem run_long (n : Int) (s : Db) (A : Option Addr) (l cap : Nat) (w : World) (hs : s.ok) (h : s.isB n = true) (hlen : 5000 < l) (hl : l ≤ 9223372036854775807) :
    Calls Try.prog 18 #[.int .i64 n, s.agg, .slice A l cap] w fun e w' => e = .returned (.tuple #[Db.zero.agg, .slice none 0 0, .int .i64 3]) ∧ Below w.heap.size w w' := by
  have FI := Lib.hid (fun w => isState_any n s w hs)
  rw [h] at FI
  have hi := infoDb (Db.size hs)
  have hz := infoDb (Db.size Db.zero_okD)
  have h1c := Db.one Db.zero
  have hZ41 := Db.size Db.zero_okD
  rw [show Db.zero.agg = .agg Db.zero.cells from rfl]
  rw [show s.agg = .agg s.cells from rfl]
  unfold Db.agg at FI
  generalize s.cells = C at *
  clear hs h
  go_enter Try.func18, Try.ntmps18
  go_wp2_with (with_reducible show wpList _ _ _ (Oper.mk _ (.load 31 _) _ _ _ _ :: _) _ _; refine wpList_load_row rfl 31 _ rfl _ rfl _ _ _ _ (blk2 _ _ _).1 Try.underlying31 rfl hi ?_)
  refine (FI.out _).mono ?_
  rintro e w1 ⟨rfl, hb⟩
  obtain ⟨-, g1, hbw, hsz⟩ := two hb
  obtain ⟨Z, hZ, hZ2⟩ : ∃ Z : Array Value, Z.size = 41 ∧ w1.heap[w.heap.size + 1]? = some (.cells Z 31 (0, 0)) := ⟨_, rfl, g1⟩
  clear hb g1
  obtain ⟨x2, hx2⟩ : ∃ x2, x2 = w1.setRow (w.heap.size + 1) Db.zero.cells := ⟨_, rfl⟩
  have p0 : x2.heap[w.heap.size + 1]? = some (.cells Db.zero.cells 31 (0, 0)) := by rw [hx2]; exact setRow_heap w1 _ _ Db.zero.cells _ _ hZ2
  have p3 : Below w.heap.size w x2 := by rw [hx2]; exact below_setRow hbw (by omega) _
  have HX2 := Lib.hid hx2
  have HP := Lib.hid (And.intro p0 p3)
  have hZE : Z.size = Db.zero.cells.size := by rw [hZ, hZ41]
  clear hx2 p0 p3 hbw hZ41
  go_wp2_with (with_reducible show wpList _ _ _ (Oper.mk _ (.store 31 _ _) _ _ _ _ :: _) _ _; refine wpList_store_lit rfl 31 _ _ rfl _ _ Db.zero.cells Z _ rfl rfl ?hy hZ2 hz hZE h1c x2 HX2 ?_; (case hy => kernel_rfl))
  refine bodyPost_ret (results_row_slots Try.results18 _ _ _ _ Db.zero.cells _ _ ?hp HP.out.1 Try.underlying31 ?hd ?hi) ?hdf ⟨?he, HP.out.2⟩
  case hp => rfl
  case hd => rfl
  case hdf => rfl
  case hi => exact hz
  case he => rfl

set_option maxHeartbeats 1000000 in
theorem refRun_bad (n : Int) (s : Db) (A : Option Addr) (l cap : Nat) (w : World) (hs : s.ok) (h : s.isB n = false) (_hl : l ≤ 9223372036854775807) :
    Calls Try.prog 19 #[.int .i64 n, s.agg, .slice A l cap] w fun e w' => e = .returned (.tuple #[Db.zero.agg, .slice none 0 0, .int .i64 1]) ∧ Below w.heap.size w w' := by
  have FI := Lib.hid (fun w => refIsState_any n s w hs)
  rw [h] at FI
  have hi := infoDb (Db.size hs)
  have hz := infoDb (Db.size Db.zero_okD)
  have h1c := Db.one Db.zero
  have hZ41 := Db.size Db.zero_okD
  rw [show Db.zero.agg = .agg Db.zero.cells from rfl]
  rw [show s.agg = .agg s.cells from rfl]
  unfold Db.agg at FI
  generalize s.cells = C at *
  clear hs h
  go_enter Try.func19, Try.ntmps19
  go_wp2_with (with_reducible show wpList _ _ _ (Oper.mk _ (.load 31 _) _ _ _ _ :: _) _ _; refine wpList_load_row rfl 31 _ rfl _ rfl _ _ _ _ (blk2 _ _ _).1 Try.underlying31 rfl hi ?_)
  refine (FI.out _).mono ?_
  rintro e w1 ⟨rfl, hb⟩
  obtain ⟨-, g1, hbw, hsz⟩ := two hb
  obtain ⟨Z, hZ, hZ2⟩ : ∃ Z : Array Value, Z.size = 41 ∧ w1.heap[w.heap.size + 1]? = some (.cells Z 31 (0, 0)) := ⟨_, rfl, g1⟩
  clear hb g1
  obtain ⟨x2, hx2⟩ : ∃ x2, x2 = w1.setRow (w.heap.size + 1) Db.zero.cells := ⟨_, rfl⟩
  have p0 : x2.heap[w.heap.size + 1]? = some (.cells Db.zero.cells 31 (0, 0)) := by rw [hx2]; exact setRow_heap w1 _ _ Db.zero.cells _ _ hZ2
  have p3 : Below w.heap.size w x2 := by rw [hx2]; exact below_setRow hbw (by omega) _
  have HX2 := Lib.hid hx2
  have HP := Lib.hid (And.intro p0 p3)
  have hZE : Z.size = Db.zero.cells.size := by rw [hZ, hZ41]
  clear hx2 p0 p3 hbw hZ41
  go_wp2_with (with_reducible show wpList _ _ _ (Oper.mk _ (.store 31 _ _) _ _ _ _ :: _) _ _; refine wpList_store_lit rfl 31 _ _ rfl _ _ Db.zero.cells Z _ rfl rfl ?hy hZ2 hz hZE h1c x2 HX2 ?_; (case hy => kernel_rfl))
  refine bodyPost_ret (results_row_slots Try.results19 _ _ _ _ Db.zero.cells _ _ ?hp HP.out.1 Try.underlying31 ?hd ?hi) ?hdf ⟨?he, HP.out.2⟩
  case hp => rfl
  case hd => rfl
  case hdf => rfl
  case hi => exact hz
  case he => rfl
end Go.Proofs.Ytcobcefefifmcaa
