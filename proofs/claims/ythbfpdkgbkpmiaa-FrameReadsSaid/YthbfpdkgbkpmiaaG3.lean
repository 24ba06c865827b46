/- What the texts behind this one rest on: several texts in one. No statement of the seat is proved here. -/
import Derived.Test.YthbfpdkgbkpmiaaG1
import Derived.Test.YthbfpdkgbkpmiaaG2
import Derived.Test.YthbfpdkgbkpmiaaG0
namespace Go.Proofs.Ythbfpdkgbkpmiaa
section
open Go.RowKit

theorem ascB_five (a b c d e : Nat) : ascB [a, b, c, d, e] = (fltB a b && (fltB b c && (fltB c d && fltB d e))) := by
  have h : ascB [a, b, c, d, e] = true ↔ (fltB a b && (fltB b c && (fltB c d && fltB d e))) = true := by
    unfold ascB
    rw [decide_eq_true_iff]
    simp only [Bool.and_eq_true]
    constructor
    · intro h
      exact ⟨h 0 (by simp), h 1 (by simp), h 2 (by simp), h 3 (by simp)⟩
    · rintro ⟨h0, h1, h2, h3⟩ i hi
      match i, hi with
      | 0, _ => exact h0
      | 1, _ => exact h1
      | 2, _ => exact h2
      | 3, _ => exact h3
  exact Bool.eq_iff_iff.2 h

theorem loadsB_eq (b : BldD) : loadsB b = (fltB 0 b.empty && (fltB b.empty b.full && (fltB b.full b.over && fleB b.over 9218868437227405311))) := by
  rw [fle_max]
  exact ascB_five _ _ _ _ _

set_option maxRecDepth 100000 in
set_option maxHeartbeats 4000000 in
theorem refValid_any (b : BldD) (A : Option Addr) (cap : Nat) (w : World) (hn : b.cars.length ≤ 140737488355328) (hc : CarsAt w w.heap.size A b.cars) :
    Calls Try.prog 44 #[b.agg A cap] w fun e w' => e = .returned (.int .i64 (validE b)) ∧ Below w.heap.size w w' := by
  obtain ⟨f, d, r, p, e1, e2, e3, cs⟩ := b
  simp only at hn hc
  have HC := Lib.hid hc
  clear hc
  have E0 : ∀ q : BldD, validE q = if inAll 2 32 [q.floors] = false then 10 else if inAll 1 8 [(q.cars.length : Int)] = false then 11 else if timesFitB q = false then 12 else if loadsB q = false then 13 else if roomB q = false then 14 else 0 := fun _ => rfl
  have E1 := Lib.hid (E0 ⟨f, d, r, p, e1, e2, e3, cs⟩)
  clear E0
  simp only [BldD.agg]
  rcases Bool.eq_false_or_eq_true (inAll 2 32 [f]) with h1 | h1
  · rcases Bool.eq_false_or_eq_true (inAll 1 8 [(cs.length : Int)]) with h2 | h2
    · have hf := inAll_one h1
      have hl := inAll_one h2
      obtain ⟨hf1, hf2⟩ := hf
      obtain ⟨hl1, hl2⟩ := hl
      have Hgo : ∀ b1 b2 : Bool, Hid (inAll 1 16 [d] = b1) → Hid (inAll 1 10000 [p] = b2) → Calls Try.prog 44 #[.agg #[.int .i64 f, .int .i64 d, .int .i64 r, .int .i64 p, .float .f64 e1, .float .f64 e2, .float .f64 e3, .slice A cs.length cap]] w fun e w' => e = .returned (.int .i64 (validE ⟨f, d, r, p, e1, e2, e3, cs⟩)) ∧ Below w.heap.size w w' := by
        intro b1 b2 Hd Hp
        have hd := Hd.out
        have hp := Hp.out
        have hcase : b1 = false ∨ (b1 = true ∧ b2 = false) ∨ (b1 = true ∧ b2 = true) := by cases b1 <;> cases b2 <;> simp
        rcases hcase with rfl | ⟨rfl, rfl⟩ | ⟨rfl, rfl⟩
        all_goals
          go_enter Try.func44, Try.ntmps44
          go_wp2_with (go_at_call 70; refine (refIn_any _ _ _ _).mono ?_; rintro e w' ⟨rfl, rfl⟩)
          clear hd hp
          go_loopw [3, 4] (fun v3 v4 wr => ∃ (k : Nat) (ok : Bool), k ≤ cs.length ∧ v4 = .int .i64 k ∧ v3 = .bool ok ∧ Hid (ok = (inAll 1 16 [d] && (inAll 1 10000 [p] && (cs.take k).all (carFitsB f)))) ∧ Below (w.heap.size + 1) (w.alloc (.cells #[.int .i64 f, .int .i64 d, .int .i64 r, .int .i64 p, .float .f64 e1, .float .f64 e2, .float .f64 e3, .slice A cs.length cap] 25)) wr) (fun _ v4 _ => cs.length - (intOf v4).toNat)
          case atStart => exact ⟨0, _, Nat.zero_le _, rfl, rfl, (by show _ = _; rw [Hd.out, Hp.out]; rfl), by go_grown⟩
          case round =>
            obtain ⟨k, ok, hk, rfl, rfl, hall, hbel⟩ := hrel
            have hz : w.heap.size < wr.heap.size := by have := hbel.size; simp at this; omega
            have g7 : wr.cell? ⟨w.heap.size, 7, none⟩ = some (.slice A cs.length cap) := cell_new_below hbel 7
            by_cases hlt : k < cs.length
            · have HC' := HC.out.below (below_of_new hbel)
              obtain ⟨b, off, c1, c2, c3, c4, c5, c6, c7, c8, c9, rfl, hb, hcar, m0, m1, m2, m3, m4, m5, m6, m7, m8⟩ := HC'.at_ hlt
              clear HC'
              cases ok
              · go_wp2_with fail
                go_quiet (fail)
                go_wp2
                go_roundw
                case rel =>
                  refine ⟨k + 1, _, by omega, by go_num, rfl, ?_, ⟨hbel.os, hbel.tape, hbel.output, hbel.size, hbel.block⟩⟩
                  have h := hall.out
                  show _ = _
                  rw [all_take_succ _ _ k hlt, ← Bool.and_assoc, ← Bool.and_assoc, Bool.and_assoc (inAll 1 16 [d]), ← h]
                  rfl
                case measure => simp [intOf]; omega
              · have g0 : wr.cell? ⟨w.heap.size, 0, none⟩ = some (.int .i64 f) := cell_new_below hbel 0
                have g1 : wr.cell? ⟨w.heap.size, 1, none⟩ = some (.int .i64 d) := cell_new_below hbel 1
                have g2 : wr.cell? ⟨w.heap.size, 2, none⟩ = some (.int .i64 r) := cell_new_below hbel 2
                have g3 : wr.cell? ⟨w.heap.size, 3, none⟩ = some (.int .i64 p) := cell_new_below hbel 3
                have g4 : wr.cell? ⟨w.heap.size, 4, none⟩ = some (.float .f64 e1) := cell_new_below hbel 4
                have g5 : wr.cell? ⟨w.heap.size, 5, none⟩ = some (.float .f64 e2) := cell_new_below hbel 5
                have g6 : wr.cell? ⟨w.heap.size, 6, none⟩ = some (.float .f64 e3) := cell_new_below hbel 6
                go_wp2_with fail
                go_still_tail 8, (by kernel_rfl)
                have hbd := hbel.drew
                clear g0 g1 g2 g3 g4 g5 g6 g7 m0 m1 m2 m3 m4 m5 m6 m7 m8 hbel
                change wpList _ _ _ _ _ wr.drew
                have hz2 : w.heap.size < wr.drew.heap.size := hz
                clear hz
                generalize wr.drew = w2 at *
                rcases Bool.eq_false_or_eq_true (carFitsB f ⟨c1, c2, c3, c4, c5, c6, c7, c8, c9⟩) with hcf | hcf
                all_goals
                  go_wp2_with (go_at_call 71; refine (refTimes_any ⟨f, d, r, p, e1, e2, e3, cs⟩ _ _ ⟨c1, c2, c3, c4, c5, c6, c7, c8, c9⟩ _ (by simp only; omega) (by simp only; omega)).mono ?_; rintro e w' ⟨rfl, hb'⟩)
                  go_roundw
                  case rel =>
                    refine ⟨k + 1, _, by omega, by go_num, rfl, ?_, hbd.trans (hb'.mono (by omega))⟩
                    have h := hall.out
                    show _ = _
                    rw [all_take_succ _ _ k hlt, ← Bool.and_assoc, ← Bool.and_assoc, Bool.and_assoc (inAll 1 16 [d]), ← h, hcar.out, hcf]
                    rfl
                  case measure => simp [intOf]; omega
            · have hfull : cs.take k = cs := List.take_of_length_le (by omega)
              have hok : ok = timesFitB ⟨f, d, r, p, e1, e2, e3, cs⟩ := by rw [hall.out, hfull]; rfl
              have HOK := Lib.hid hok
              clear hok hfull hall
              cases ok
              · go_wp2
                go_ret
                refine ⟨ret_int ?_, below_of_new hbel⟩
                rw [E1.out, h1, h2, ← HOK.out]
                rfl
              · have g2 : wr.cell? ⟨w.heap.size, 2, none⟩ = some (.int .i64 r) := cell_new_below hbel 2
                have g4 : wr.cell? ⟨w.heap.size, 4, none⟩ = some (.float .f64 e1) := cell_new_below hbel 4
                have g5 : wr.cell? ⟨w.heap.size, 5, none⟩ = some (.float .f64 e2) := cell_new_below hbel 5
                have g6 : wr.cell? ⟨w.heap.size, 6, none⟩ = some (.float .f64 e3) := cell_new_below hbel 6
                have hL := loadsB_eq ⟨f, d, r, p, e1, e2, e3, cs⟩
                simp only [fltB, fleB] at hL
                obtain ⟨q1, hq1⟩ : ∃ q, (FloatKind.f64.format.order 0 e1 == some .lt) = q := ⟨_, rfl⟩
                obtain ⟨q2, hq2⟩ : ∃ q, (FloatKind.f64.format.order e1 e2 == some .lt) = q := ⟨_, rfl⟩
                obtain ⟨q3, hq3⟩ : ∃ q, (FloatKind.f64.format.order e2 e3 == some .lt) = q := ⟨_, rfl⟩
                obtain ⟨q4, hq4⟩ : ∃ q, (FloatKind.f64.format.order e3 9218868437227405311 == some .lt || FloatKind.f64.format.order e3 9218868437227405311 == some .eq) = q := ⟨_, rfl⟩
                rw [hq1, hq2, hq3, hq4] at hL
                have HL := Lib.hid hL
                clear hL
                rcases Bool.eq_false_or_eq_true (inAll (18 * (cs.length : Int) + 24) 65536 [r]) with h5 | h5
                all_goals
                  have h5' : roomB ⟨f, d, r, p, e1, e2, e3, cs⟩ = _ := h5
                  have H5 := Lib.hid h5'
                  clear h5'
                  go_wp2_with (go_at_call 70; refine (refIn_any _ _ _ _).mono ?_; rintro e w' ⟨rfl, rfl⟩)
                  all_goals
                    go_ret
                    refine ⟨ret_int ?_, below_of_new hbel⟩
                    rw [E1.out, h1, h2, ← HOK.out, HL.out, H5.out]
                    simp_all
      exact Hgo _ _ (Lib.hid rfl) (Lib.hid rfl)
    · go_enter Try.func44, Try.ntmps44
      go_wp2_with (go_at_call 70; refine (refIn_any _ _ _ _).mono ?_; rintro e w' ⟨rfl, rfl⟩)
      go_ret
      refine ⟨ret_int ?_, by go_grown⟩
      rw [E1.out, h1, h2]
      rfl
  · go_enter Try.func44, Try.ntmps44
    go_wp2_with (go_at_call 70; refine (refIn_any _ _ _ _).mono ?_; rintro e w' ⟨rfl, rfl⟩)
    go_ret
    refine ⟨ret_int ?_, by go_grown⟩
    rw [E1.out, h1]
    rfl
end

section
open Go.RowKit

/-- What holds of the box of a building, and its cells. -/
theorem boxS {w wx : World} {f d r p : Int} {e1 e2 e3 : Nat} {A : Option Addr} {n cap : Nat} (h : Below (w.heap.size + 1) (w.alloc (.cells #[.int .i64 f, .int .i64 d, .int .i64 r, .int .i64 p, .float .f64 e1, .float .f64 e2, .float .f64 e3, .slice A n cap] 25)) wx) :
    Below (w.heap.size + 1) (w.alloc (.cells #[.int .i64 f, .int .i64 d, .int .i64 r, .int .i64 p, .float .f64 e1, .float .f64 e2, .float .f64 e3, .slice A n cap] 25)) wx ∧ wx.cell? ⟨w.heap.size, 0, none⟩ = some (.int .i64 f) ∧ wx.cell? ⟨w.heap.size, 1, none⟩ = some (.int .i64 d) ∧ wx.cell? ⟨w.heap.size, 2, none⟩ = some (.int .i64 r) ∧ wx.cell? ⟨w.heap.size, 3, none⟩ = some (.int .i64 p) ∧ wx.cell? ⟨w.heap.size, 4, none⟩ = some (.float .f64 e1) ∧ wx.cell? ⟨w.heap.size, 5, none⟩ = some (.float .f64 e2) ∧ wx.cell? ⟨w.heap.size, 6, none⟩ = some (.float .f64 e3) ∧ wx.cell? ⟨w.heap.size, 7, none⟩ = some (.slice A n cap) :=
  ⟨h, cell_new_below h 0, cell_new_below h 1, cell_new_below h 2, cell_new_below h 3, cell_new_below h 4, cell_new_below h 5, cell_new_below h 6, cell_new_below h 7⟩

theorem box_size {w wx : World} {o : Obj} (h : Below (w.heap.size + 1) (w.alloc o) wx) : w.heap.size + 1 ≤ wx.heap.size := by
  have := h.size
  simpa using this
end

section
open Go.RowKit

theorem bcell {W w1 : World} (hb : Below W.heap.size W w1) : (∀ b o, b < W.heap.size → w1.cell? ⟨b, o, none⟩ = W.cell? ⟨b, o, none⟩) ∧ (∀ b o, b < W.heap.size → w1.frozen? ⟨b, o, none⟩ = W.frozen? ⟨b, o, none⟩) :=
  ⟨fun b o h => hb.cell (p := ⟨b, o, none⟩) h, fun b o h => hb.frozen (p := ⟨b, o, none⟩) h⟩

def CarOk (f : Int) (c : CarD) : Prop :=
  (1 ≤ c.deadline ∧ c.deadline ≤ 10000) ∧ (1 ≤ c.step ∧ c.step ≤ 10000) ∧ (1 ≤ c.travel ∧ c.travel ≤ 10000) ∧ (1 ≤ c.dwell ∧ c.dwell ≤ c.hold) ∧ (c.hold ≤ 10000) ∧ (0 ≤ c.home ∧ c.home ≤ f - 1)

structure Fine (b : BldD) : Prop where
  floors : 2 ≤ b.floors ∧ b.floors ≤ 32
  cars : 1 ≤ b.cars.length ∧ b.cars.length ≤ 8
  times : ∀ k (h : k < b.cars.length), CarOk b.floors b.cars[k]

theorem fine_of {b : BldD} (h : validE b = 0) : Fine b := by
  unfold validE at h
  split at h
  · exact absurd h (by decide)
  · split at h
    · exact absurd h (by decide)
    · split at h
      · exact absurd h (by decide)
      · rename_i h1 h2 h3
        have h1 := inAll_one (by simpa using h1)
        have h2 := inAll_one (by simpa using h2)
        have h3 : timesFitB b = true := by simpa using h3
        refine ⟨h1, by omega, fun k hk => ?_⟩
        unfold timesFitB at h3
        rw [Bool.and_eq_true, Bool.and_eq_true, List.all_eq_true] at h3
        have hc := h3.2.2 _ (List.getElem_mem hk)
        generalize b.cars[k] = c at hc ⊢
        obtain ⟨c1, c2, c3, c4, c5, c6, c7, c8, c9⟩ := c
        simp [carFitsB, inAll] at hc
        simp only [CarOk]
        omega
end
end Go.Proofs.Ythbfpdkgbkpmiaa
