/- The stops that count; those that are marked. No statement of the seat is proved here. -/
import Derived.Test.YtnjcegkefjdgdaaDoorCvChoose
namespace Go.Proofs.YtnjcegkefjdgdaaDoor
open Go.RowKit
set_option maxRecDepth 4000

theorem all_int {F : Nat} (hF : F ≤ 32) : ((2 : Int) ^ F % 4294967296 - 1) % 4294967296 = ((Cv.all F : Nat) : Int) := by
  have := (by decide +kernel : ∀ F : Fin 33, ((2 : Int) ^ F.val % 4294967296 - 1) % 4294967296 = ((Cv.all F.val : Nat) : Int)) ⟨F, by omega⟩
  exact this
theorem half_nat (al : Nat) : (al : Int) / (2 : Int) = ((al >>> 1 : Nat) : Int) := by
  rw [Nat.shiftRight_eq_div_pow]
  omega
theorem andNot1 {x : Nat} (hx : x < 4294967296) : bits .andNot .u32 (x : Int) 1 = ((x &&& 4294967294 : Nat) : Int) := by
  have h := u32_andNot_nat x 1 hx (by decide)
  exact h
set_option maxHeartbeats 2000000 in
theorem counting_any (F : Nat) (s : Stp) (w : World) (hF : F ≤ 32) (hs : s.ok) :
    Calls Tryd.prog 75 #[.int .i64 (F : Int), s.agg] w fun e w' => e = .returned (Cv.cnt F s).agg ∧ Below w.heap.size w w' := by
  have hF32 : decide ((F : Int) < 0) = false := decide_eq_false (by omega)
  have hm : min (IntKind.u64.wrap (F : Int)).toNat 32 = F := by rw [IntKind.wrap_u64]; omega
  have ha := all_int hF
  have hlt := Cv.all_lt hF
  have FB := Lib.hid (fun c d wx hc hd => both_any c d wx hc hd)
  have hC : Cv.cnt F s = ⟨s.car &&& Cv.all F, Cs.both s.h ⟨Cv.all F >>> 1, Cv.all F &&& 4294967294⟩⟩ := rfl
  rw [hC]
  clear hC
  generalize Cv.all F = al at *
  obtain ⟨s1, s2, s3⟩ := s
  have e1 := u32_and_nat s1 al hs.1 hlt
  have e2 := andNot1 hlt
  have e4 := half_nat al
  have hsh : al >>> 1 < 4294967296 := by rw [Nat.shiftRight_eq_div_pow]; omega
  have han : al &&& 4294967294 < 4294967296 := Cs.and_lt hlt
  have F1 := Lib.hid (fun wx => FB.out ⟨s2, s3⟩ ⟨al >>> 1, al &&& 4294967294⟩ wx hs.2 ⟨hsh, han⟩)
  clear hs FB
  simp only [Stp.agg, Cs.agg, Cs.both] at *
  generalize s1 &&& al = r1 at *
  generalize s2 &&& al >>> 1 = r2 at *
  generalize s3 &&& (al &&& 4294967294) = r3 at *
  generalize ((al >>> 1 : Nat) : Int) = t1 at *
  generalize al &&& 4294967294 = t2 at *
  go_enter Tryd.func75, Tryd.ntmps75
  go_wp2_with fail
  simp only [ha]
  generalize (2 : Int) ^ F % 4294967296 = zz at *
  clear ha hm hF32
  refine Chain.chain (fun p wx => Lit (w.heap.size + 1) (w.alloc (.cells #[.int .u32 s1, .int .u32 s2, .int .u32 s3] 105)) (w.heap.size + 1) (.cells (if p = 0 then #[.int .u32 0, .int .u32 0, .int .u32 0] else #[.int .u32 r1, .int .u32 r2, .int .u32 r3]) 105 (0, 0)) wx) (fun _ _ => False) [13] (by kernel_rfl) (by kernel_rfl) (fun _ _ _ _ h => h.elim) (Lit.two _ _ _ _) ?_
  iterate 13 (first
      | (apply Chain.walk_quiet (by rfl) (by decide)
         (intro p wx hp hwn hx K hK
          obtain ⟨k0, k1, k2⟩ := stRow ((hx.below.block w.heap.size (by simp)).trans (heap_alloc_new w _))
          first
            | (go_simp
               first
                | (go_at_call 86; with_reducible refine (F1.out _).mono ?_; rintro e x1 ⟨rfl, hb⟩; exact hK _ (hx.next hb))
                | (go_at_K; exact hK _ hx)))
         exact ⟨_, rfl⟩)
      | (refine Chain.walk_no (by rfl) (by decide) ?_; simp only [Act.put, List.setIfInBounds_toArray, List.set_cons_succ, List.set_cons_zero]))
  apply Chain.walk_turn 0 (by rfl) (by rfl)
  · intro wx hx K hK
    exact Lit.store 105 _ _ rfl rfl rfl hx (by omega) (by kernel_rfl) rfl (by kernel_rfl) (fun w2 h => hK w2 h)
  · exact ⟨undef, rfl⟩
  refine Chain.walk_nil (fun w1 hB => ?_)
  replace hB : Lit (w.heap.size + 1) (w.alloc (.cells #[.int .u32 s1, .int .u32 s2, .int .u32 s3] 105)) (w.heap.size + 1) (.cells #[.int .u32 r1, .int .u32 r2, .int .u32 r3] 105 (0, 0)) w1 := hB
  simp only [Act.put]
  go_wp2
  exact bodyPost_ret (results_cell_row Tryd.results75 _ _ _ _ _ (0, 0) _ rfl (hB.row) Tryd.underlying105 rfl (by kernel_rfl)) rfl (⟨rfl, below_of_new hB.below⟩)
end Go.Proofs.YtnjcegkefjdgdaaDoor
