/- What the texts behind this one rest on: several texts in one. No statement of the seat is proved here. -/
import Derived.Test.YthbfpdkgbkpmiaaRows
import Derived.WalkKit
import Derived.ProofKit
import Derived.OpenShut
import Derived.Lib.Hide
import Derived.Handy
import Derived.WalkLawsBesides
import Derived.BigQuiet
import Derived.StillTailTactics
import Derived.Deep.RegionHeld3
import Derived.Deep.RegionLaw
import Derived.Deep.AppendLies
import Derived.Deep.RegionWith
import Derived.Deep.DeepCutAuto
import Derived.Deep.QuietTactic
namespace Go.Proofs.Ythbfpdkgbkpmiaa
section
open Go.RowKit

theorem run_store_float (P : Program) (w : World) (a : Addr) (m : Mode) (k : FloatKind) (b : Nat) : (store a (.float k b) m).run P w = stored P w a (.float k b) m := run_store P w a _ m rfl
attribute [go_sem] run_store_float

structure CarD where
  deadline : Int
  pulse : Int
  quiet : Int
  slack : Int
  step : Int
  travel : Int
  dwell : Int
  hold : Int
  home : Int

def CarD.vals (c : CarD) : List Int := [c.deadline, c.pulse, c.quiet, c.slack, c.step, c.travel, c.dwell, c.hold, c.home]
def CarD.agg (c : CarD) : Value := .agg #[.int .i64 c.deadline, .int .i64 c.pulse, .int .i64 c.quiet, .int .i64 c.slack, .int .i64 c.step, .int .i64 c.travel, .int .i64 c.dwell, .int .i64 c.hold, .int .i64 c.home]

theorem ret_bool {a b : Bool} (h : a = b) : Ending.returned (.bool a) = .returned (.bool b) := by rw [h]
theorem ret_int {k : IntKind} {a b : Int} (h : a = b) : Ending.returned (.int k a) = .returned (.int k b) := by rw [h]

/-- All values lie from lo to hi. -/
def inAll (lo hi : Int) (l : List Int) : Bool := l.all fun v => decide (lo ≤ v ∧ v ≤ hi)

/-- The values are the ints of a list. -/
inductive IsInts : List Value → List Int → Prop where
  | nil : IsInts [] []
  | cons {vs : List Value} {zs : List Int} {z : Int} (h : IsInts vs zs) : IsInts (.int .i64 z :: vs) (z :: zs)
theorem IsInts.eq {vs : List Value} {zs : List Int} (h : IsInts vs zs) : vs = zs.map fun z => .int .i64 z := by
  induction h with
  | nil => rfl
  | cons _ ih => rw [ih]; rfl

/-- A row of ints at an address. -/
def IntsAt (w : World) (b off : Nat) (zs : List Int) : Prop := ∀ j, j < zs.length → w.cell? ⟨b, off + j, none⟩ = some (.int .i64 (zs.getD j 0))

/-- Go's 'x < y' on float64, by their bits. -/
def fltB (x y : Nat) : Bool := FloatKind.f64.format.order x y == some .lt
def FloatsAt (w : World) (b off : Nat) (zs : List Nat) : Prop := ∀ j, j < zs.length → w.cell? ⟨b, off + j, none⟩ = some (.float .f64 (zs.getD j 0))

structure BldD where
  floors : Int
  debounce : Int
  room : Int
  park : Int
  empty : Nat
  full : Nat
  over : Nat
  cars : List CarD

instance : Inhabited CarD := ⟨⟨0, 0, 0, 0, 0, 0, 0, 0, 0⟩⟩

/-- A building as a value: its cars lie at A. -/
def BldD.agg (b : BldD) (A : Option Addr) (cap : Nat) : Value :=
  .agg #[.int .i64 b.floors, .int .i64 b.debounce, .int .i64 b.room, .int .i64 b.park, .float .f64 b.empty, .float .f64 b.full, .float .f64 b.over, .slice A b.cars.length cap]

/-- The cars of a list lie in memory at A, below block B. -/
def CarsAt (w : World) (B : Nat) (A : Option Addr) (cs : List CarD) : Prop :=
  cs = [] ∨ ∃ b off, A = some ⟨b, off, none⟩ ∧ b < B ∧ ∀ i, i < cs.length → ∀ j, j < 9 → w.cell? ⟨b, off + i * 9 + j, none⟩ = some (.int .i64 ((cs.getD i default).vals.getD j 0))

theorem CarsAt.below {w w' : World} {B : Nat} {A : Option Addr} {cs : List CarD} (h : CarsAt w B A cs) (hb : Below B w w') : CarsAt w' B A cs := by
  rcases h with h | ⟨b, off, hA, hlt, hc⟩
  · exact .inl h
  · exact .inr ⟨b, off, hA, hlt, fun i hi j hj => (hb.cell (p := ⟨b, _, none⟩) hlt).trans (hc i hi j hj)⟩
theorem CarsAt.more {w : World} {B B' : Nat} {A : Option Addr} {cs : List CarD} (h : CarsAt w B A cs) (hB : B ≤ B') : CarsAt w B' A cs := by
  rcases h with h | ⟨b, off, hA, hlt, hc⟩
  · exact .inl h
  · exact .inr ⟨b, off, hA, by omega, hc⟩

theorem CarsAt.at_ {w : World} {B : Nat} {A : Option Addr} {cs : List CarD} (h : CarsAt w B A cs) {k : Nat} (hk : k < cs.length) :
    ∃ b off c1 c2 c3 c4 c5 c6 c7 c8 c9, A = some ⟨b, off, none⟩ ∧ b < B ∧ Hid (cs[k] = ⟨c1, c2, c3, c4, c5, c6, c7, c8, c9⟩) ∧
      w.cell? ⟨b, off + k * 9, none⟩ = some (.int .i64 c1) ∧ w.cell? ⟨b, off + k * 9 + 1, none⟩ = some (.int .i64 c2) ∧ w.cell? ⟨b, off + k * 9 + 2, none⟩ = some (.int .i64 c3) ∧
      w.cell? ⟨b, off + k * 9 + 3, none⟩ = some (.int .i64 c4) ∧ w.cell? ⟨b, off + k * 9 + 4, none⟩ = some (.int .i64 c5) ∧ w.cell? ⟨b, off + k * 9 + 5, none⟩ = some (.int .i64 c6) ∧
      w.cell? ⟨b, off + k * 9 + 6, none⟩ = some (.int .i64 c7) ∧ w.cell? ⟨b, off + k * 9 + 7, none⟩ = some (.int .i64 c8) ∧ w.cell? ⟨b, off + k * 9 + 8, none⟩ = some (.int .i64 c9) := by
  rcases h with h | ⟨b, off, hA, hlt, hc⟩
  · rw [h] at hk; exact absurd hk (by simp)
  · have hg : cs.getD k default = cs[k] := by simp [List.getD, hk]
    have hj := fun j hj => hc k hk j hj
    rw [hg] at hj
    obtain ⟨c, hcd⟩ : ∃ c, c = cs[k] := ⟨_, rfl⟩
    rw [← hcd] at hj ⊢
    obtain ⟨c1, c2, c3, c4, c5, c6, c7, c8, c9⟩ := c
    exact ⟨b, off, c1, c2, c3, c4, c5, c6, c7, c8, c9, hA, hlt, rfl, hj 0 (by omega), hj 1 (by omega), hj 2 (by omega), hj 3 (by omega), hj 4 (by omega), hj 5 (by omega), hj 6 (by omega), hj 7 (by omega), hj 8 (by omega)⟩

/-- The cells of a block just made, behind whatever has only grown since. -/
theorem cell_new_below {w w' : World} {cs : Array Value} {e : TypeId} (hb : Below (w.heap.size + 1) (w.alloc (.cells cs e)) w') (i : Nat) : w'.cell? ⟨w.heap.size, i, none⟩ = cs[i]? := by
  rw [hb.cell (p := ⟨w.heap.size, i, none⟩) (Nat.lt_succ_self _), cell_of_row _ _ _ _ _ (0, 0) (heap_alloc_new w _)]
theorem below_of_new {w w' : World} {o : Obj} (hb : Below (w.heap.size + 1) (w.alloc o) w') : Below w.heap.size w w' :=
  ((Below.refl _ _).alloc (Nat.le_refl _) o).trans (hb.mono (by omega))

theorem intsAt_new {w : World} {b : Nat} {cs : Array Value} {zs : List Int} {e : TypeId} (hb : b = w.heap.size) (hcs : cs.toList = zs.map fun z => .int .i64 z) : IntsAt (w.alloc (.cells cs e)) b 0 zs := by
  intro j hj
  subst hb
  rw [Nat.zero_add, cell_of_row _ _ _ _ _ (0, 0) (heap_alloc_new w _), ← Array.getElem?_toList, hcs, List.getElem?_map]
  simp [hj]

inductive IsFloats : List Value → List Nat → Prop where
  | nil : IsFloats [] []
  | cons {vs : List Value} {zs : List Nat} {z : Nat} (h : IsFloats vs zs) : IsFloats (.float .f64 z :: vs) (z :: zs)
theorem IsFloats.eq {vs : List Value} {zs : List Nat} (h : IsFloats vs zs) : vs = zs.map fun z => .float .f64 z := by
  induction h with
  | nil => rfl
  | cons _ ih => rw [ih]; rfl
theorem floatsAt_new {w : World} {b : Nat} {cs : Array Value} {zs : List Nat} {e : TypeId} (hb : b = w.heap.size) (hcs : cs.toList = zs.map fun z => .float .f64 z) : FloatsAt (w.alloc (.cells cs e)) b 0 zs := by
  intro j hj
  subst hb
  rw [Nat.zero_add, cell_of_row _ _ _ _ _ (0, 0) (heap_alloc_new w _), ← Array.getElem?_toList, hcs, List.getElem?_map]
  simp [hj]
end

section
open Go.RowKit

theorem carInfo : (Try.prog.info? 106).map (fun i => (i.zero, i.size, i.bytes)) = some (some (.agg #[.int .i64 0, .int .i64 0, .int .i64 0, .int .i64 0, .int .i64 0, .int .i64 0, .int .i64 0, .int .i64 0, .int .i64 0]), 9, 72) := by kernel_rfl

def CarD.cells (c : CarD) : List Value := c.vals.map fun z => .int .i64 z
def flatCars (cs : List CarD) : List Value := cs.flatMap CarD.cells

theorem cells_length (c : CarD) : c.cells.length = 9 := rfl
theorem flatCars_snoc (cs : List CarD) (c : CarD) : flatCars (cs ++ [c]) = flatCars cs ++ c.cells := by
  unfold flatCars; rw [List.flatMap_append]; simp
theorem flatCars_at (cs : List CarD) : ∀ i, i < cs.length → ∀ j, j < 9 → (flatCars cs)[i * 9 + j]? = some (.int .i64 ((cs.getD i default).vals.getD j 0)) := by
  induction cs with
  | nil => intro i hi; exact absurd hi (by simp)
  | cons c cs ih =>
    intro i hi j hj
    unfold flatCars at ih ⊢
    rw [List.flatMap_cons]
    cases i with
    | zero =>
      rw [List.getElem?_append_left (by rw [cells_length]; omega)]
      obtain ⟨c1, c2, c3, c4, c5, c6, c7, c8, c9⟩ := c
      match j, hj with
      | 0, _ => rfl
      | 1, _ => rfl
      | 2, _ => rfl
      | 3, _ => rfl
      | 4, _ => rfl
      | 5, _ => rfl
      | 6, _ => rfl
      | 7, _ => rfl
      | 8, _ => rfl
    | succ i =>
      rw [List.getElem?_append_right (by rw [cells_length]; omega), cells_length]
      have := ih i (by simpa using hi) j hj
      rw [show (i + 1) * 9 + j - 9 = i * 9 + j from by omega, this]
      simp [List.getD]

theorem CarsAt.of_own {w : World} {base : Nat} {e : TypeId} {A : Option Addr} {cap : Nat} {cs : List CarD} (h : w.ownsRow base e 9 (.slice A cs.length cap) cs.length (flatCars cs)) : CarsAt w w.heap.size A cs := by
  rcases Nat.eq_zero_or_pos cs.length with h0 | h0
  · exact .inl (List.eq_nil_of_length_eq_zero h0)
  · obtain ⟨g, cap', hv, _, hlt⟩ := h.form h0
    injection hv with hA
    subst hA
    refine .inr ⟨g, 0, rfl, hlt, fun i hi j hj => ?_⟩
    have := h.cells (g := g) rfl (i * 9 + j) _ (flatCars_at cs i hi j hj)
    have hadd : (⟨g, 0, none⟩ : Addr).add (i * 9 + j) = ⟨g, 0 + i * 9 + j, none⟩ := by unfold Addr.add; split <;> simp_all
    rw [← hadd]
    exact this

/-- An append onto a row of the call's own leaves all below the call's own blocks. -/
theorem own_step {wr w1 : World} {base : Nat} {e : TypeId} {size n : Nat} {v : Value} {xs : List Value} {o : Obj} (hown : wr.ownsRow base e size v n xs) (hB : base ≤ wr.heap.size) (hg : (wr.drew.alloc o).grownBy w1 v.ownBlock) : Below base wr w1 :=
  (((Below.refl base wr).drew).alloc hB o).grown hg (by simp; omega) (fun k hk => (hown.lt k hk).1)

def sampleCar (f : Int) (i : Nat) : CarD := ⟨100, 2, 6, 5, 4, 2, 3, 10, (i : Int) % f⟩
def sampleCars (f : Int) (n : Nat) : List CarD := (List.range n).map (sampleCar f)
def sampleD (f : Int) (n : Nat) : BldD := ⟨f, 1, 4000, 30, 4591870180066957722, 4605380978949069210, 4607632778762754458, sampleCars f n⟩

theorem sampleCars_length (f : Int) (n : Nat) : (sampleCars f n).length = n := by simp [sampleCars]
theorem sampleCars_succ (f : Int) (n : Nat) : sampleCars f (n + 1) = sampleCars f n ++ [sampleCar f n] := by simp [sampleCars, List.range_succ]

/-- What Sample returns: a building whose cars lie in a row that it owns. -/
def SampleOwn (f : Int) (n : Nat) (w : World) (e : Ending) (w' : World) : Prop :=
  ∃ A cap, e = .returned ((sampleD f n).agg A cap) ∧ w'.ownsRow (w.heap.size + 2) 106 9 (.slice A n cap) n (flatCars (sampleCars f n)) ∧ Below w.heap.size w w'

/-- What Sample returns: a building whose cars lie in memory that it has made. -/
def SampleSaid (f : Int) (n : Nat) (w : World) (e : Ending) (w' : World) : Prop :=
  ∃ A cap, e = .returned ((sampleD f n).agg A cap) ∧ CarsAt w' w'.heap.size A (sampleCars f n) ∧ Below w.heap.size w w' ∧ (∀ a, A = some a → w.heap.size ≤ a.block)

set_option maxHeartbeats 1000000 in
theorem sample_own (f : Int) (n : Nat) (w : World) (hf1 : 2 ≤ f) (hf2 : f ≤ 1000) (hn : n ≤ 1000) :
    Calls Try.prog 25 #[.int .i64 f, .int .i64 n] w (SampleOwn f n w) := by
  obtain ⟨i0, hi0, hz0, hz1, hz2⟩ := info_parts carInfo
  go_enter Try.func25, Try.ntmps25
  go_wp2_with fail
  go_loopw [6] (fun v wr => ∃ (k : Nat) (A : Option Addr) (cap : Nat), k ≤ n ∧ v = .int .i64 k ∧ wr.ownsRow (w.heap.size + 2) 106 9 (.slice A k cap) k (flatCars (sampleCars f k)) ∧ wr.heap[w.heap.size]? = some (.cells #[.int .i64 0, .int .i64 0, .int .i64 0, .int .i64 0, .float .f64 0, .float .f64 0, .float .f64 0, .slice none 0 0] 25 (0, 0)) ∧
      wr.heap[w.heap.size + 1]? = some (.cells #[.int .i64 f, .int .i64 1, .int .i64 4000, .int .i64 30, .float .f64 4591870180066957722, .float .f64 4605380978949069210, .float .f64 4607632778762754458, .slice A k cap] 25 (0, 0)) ∧ Below w.heap.size w wr) (fun v _ => n - (intOf v).toNat)
  case atStart =>
    refine ⟨0, none, 0, Nat.zero_le _, rfl, World.ownsRow_nil _ _ _ _, ?_, ?_, ?_⟩
    · rw [Below.heap_alloc _ _ _ (by simp)]
      exact heap_alloc_new _ _
    · have h := heap_alloc_new (w.alloc (.cells #[.int .i64 0, .int .i64 0, .int .i64 0, .int .i64 0, .float .f64 0, .float .f64 0, .float .f64 0, .slice none 0 0] 25)) (.cells #[.int .i64 f, .int .i64 1, .int .i64 4000, .int .i64 30, .float .f64 4591870180066957722, .float .f64 4605380978949069210, .float .f64 4607632778762754458, .slice none 0 0] 25)
      simpa using h
    · go_grown
  case round =>
    obtain ⟨k, A, cap, hk, rfl, hown, hb4, hb5, hbel⟩ := hrel
    have hcell : wr.cell? ⟨w.heap.size + 1, 7, none⟩ = some (.slice A k cap) := cell_of_row _ _ _ _ _ (0, 0) hb5
    have hfrz : wr.frozen? ⟨w.heap.size + 1, 7, none⟩ = false := by simp [World.frozen?, hb5]
    have hsz : w.heap.size + 1 < wr.heap.size := by
      rcases Nat.lt_or_ge (w.heap.size + 1) wr.heap.size with h | h
      · exact h
      · rw [Array.getElem?_eq_none h] at hb5; cases hb5
    by_cases hlt : k < n
    · have hf0 : ¬ f = 0 := by omega
      have hmod : (k : Int).tmod f = (k : Int) % f := Int.tmod_eq_emod_of_nonneg (by omega)
      have hk0 : (0 : Int) ≤ k := by omega
      have HO := Lib.hid hown
      have H4 := Lib.hid hb4
      have H5 := Lib.hid hb5
      clear hown hb4 hb5
      go_wp2_with fail
      go_region_law (refine step_append_lies _ rfl (.tmp 15) (.tmp 20) 23 rfl (w.heap.size + 2) 106 i0 _ 9 72 Try.underlying23 hi0 hz0 hz1 hz2 rfl (by omega) (.slice A k cap) k (flatCars (sampleCars f k)) rfl (HO.out.drew.alloc _) ⟨wr.heap.size, 0, none⟩ 1 1 (sampleCar f k).cells rfl rfl (World.news_of_block (fr := (0, 0)) (heap_alloc_new _ _)) (by intro u hu; simp [CarD.cells, CarD.vals, sampleCar] at hu; rcases hu with rfl | rfl | rfl | rfl | rfl | rfl | rfl | rfl | rfl <;> rfl) (by omega) (by unfold maxLen; omega) (by omega) (by simp; omega) (wr.heap.size + 1) (by simp) ?_; intro g cap' w1 hown1 hgrow hat hlt1; have hbs := own_step HO.out (by omega) hgrow; have hc1 : w1.cell? ⟨w.heap.size + 1, 7, none⟩ = some (.slice A k cap) := (hbs.cell (p := ⟨w.heap.size + 1, 7, none⟩) (Nat.lt_succ_self _)).trans hcell; have hfr1 : w1.frozen? ⟨w.heap.size + 1, 7, none⟩ = false := (hbs.frozen (p := ⟨w.heap.size + 1, 7, none⟩) (Nat.lt_succ_self _)).trans hfrz)
      all_goals
        go_wp2
        go_roundw
        case rel =>
          refine ⟨k + 1, some ⟨g, 0, none⟩, cap', by omega, by go_num, ?_, ?_, ?_, ?_⟩
          · rw [sampleCars_succ, flatCars_snoc]
            exact ownsRow_setCell_below hown1 (Nat.lt_succ_self _) _
          · rw [Below.heap_setCell _ _ _ _ (by show w.heap.size ≠ w.heap.size + 1; omega), hbs.block _ (by omega)]
            exact H4.out
          · have h5 := (hbs.block (w.heap.size + 1) (by omega)).trans H5.out
            simp [World.setCell, Array.getElem?_modify, h5]
          · exact (hbel.trans (hbs.mono (by omega))).setCell (by show w.heap.size ≤ w.heap.size + 1; omega) _
        case measure => simp [intOf]; omega
    · obtain rfl : k = n := by omega
      have HO := Lib.hid hown
      clear hown hcell hfrz
      have p0 : wr.cell? ⟨w.heap.size, 0, none⟩ = some (.int .i64 0) := cell_of_row _ _ _ _ _ (0, 0) hb4
      have q0 : wr.frozen? ⟨w.heap.size, 0, none⟩ = false := by simp [World.frozen?, hb4]
      have r0 : wr.cell? ⟨w.heap.size + 1, 0, none⟩ = some (.int .i64 f) := cell_of_row _ _ _ _ _ (0, 0) hb5
      have p1 : wr.cell? ⟨w.heap.size, 1, none⟩ = some (.int .i64 0) := cell_of_row _ _ _ _ _ (0, 0) hb4
      have q1 : wr.frozen? ⟨w.heap.size, 1, none⟩ = false := by simp [World.frozen?, hb4]
      have r1 : wr.cell? ⟨w.heap.size + 1, 1, none⟩ = some (.int .i64 1) := cell_of_row _ _ _ _ _ (0, 0) hb5
      have p2 : wr.cell? ⟨w.heap.size, 2, none⟩ = some (.int .i64 0) := cell_of_row _ _ _ _ _ (0, 0) hb4
      have q2 : wr.frozen? ⟨w.heap.size, 2, none⟩ = false := by simp [World.frozen?, hb4]
      have r2 : wr.cell? ⟨w.heap.size + 1, 2, none⟩ = some (.int .i64 4000) := cell_of_row _ _ _ _ _ (0, 0) hb5
      have p3 : wr.cell? ⟨w.heap.size, 3, none⟩ = some (.int .i64 0) := cell_of_row _ _ _ _ _ (0, 0) hb4
      have q3 : wr.frozen? ⟨w.heap.size, 3, none⟩ = false := by simp [World.frozen?, hb4]
      have r3 : wr.cell? ⟨w.heap.size + 1, 3, none⟩ = some (.int .i64 30) := cell_of_row _ _ _ _ _ (0, 0) hb5
      have p4 : wr.cell? ⟨w.heap.size, 4, none⟩ = some (.float .f64 0) := cell_of_row _ _ _ _ _ (0, 0) hb4
      have q4 : wr.frozen? ⟨w.heap.size, 4, none⟩ = false := by simp [World.frozen?, hb4]
      have r4 : wr.cell? ⟨w.heap.size + 1, 4, none⟩ = some (.float .f64 4591870180066957722) := cell_of_row _ _ _ _ _ (0, 0) hb5
      have p5 : wr.cell? ⟨w.heap.size, 5, none⟩ = some (.float .f64 0) := cell_of_row _ _ _ _ _ (0, 0) hb4
      have q5 : wr.frozen? ⟨w.heap.size, 5, none⟩ = false := by simp [World.frozen?, hb4]
      have r5 : wr.cell? ⟨w.heap.size + 1, 5, none⟩ = some (.float .f64 4605380978949069210) := cell_of_row _ _ _ _ _ (0, 0) hb5
      have p6 : wr.cell? ⟨w.heap.size, 6, none⟩ = some (.float .f64 0) := cell_of_row _ _ _ _ _ (0, 0) hb4
      have q6 : wr.frozen? ⟨w.heap.size, 6, none⟩ = false := by simp [World.frozen?, hb4]
      have r6 : wr.cell? ⟨w.heap.size + 1, 6, none⟩ = some (.float .f64 4607632778762754458) := cell_of_row _ _ _ _ _ (0, 0) hb5
      have p7 : wr.cell? ⟨w.heap.size, 7, none⟩ = some (.slice none 0 0) := cell_of_row _ _ _ _ _ (0, 0) hb4
      have q7 : wr.frozen? ⟨w.heap.size, 7, none⟩ = false := by simp [World.frozen?, hb4]
      have r7 : wr.cell? ⟨w.heap.size + 1, 7, none⟩ = some (.slice A k cap) := cell_of_row _ _ _ _ _ (0, 0) hb5
      clear hb4 hb5
      go_wp2
      refine bodyPost_ret (v := .agg #[.int .i64 f, .int .i64 1, .int .i64 4000, .int .i64 30, .float .f64 4591870180066957722, .float .f64 4605380978949069210, .float .f64 4607632778762754458, .slice A k cap]) (by simp [results, Try.results25, go_sem, p0, p1, p2, p3, p4, p5, p6, p7]) rfl ?_
      refine ⟨A, cap, by rw [BldD.agg]; simp [sampleD, sampleCars_length], ?_, ?_⟩
      · iterate 8 (refine ownsRow_setCell_below ?_ (by show w.heap.size < w.heap.size + 2; omega) _)
        exact HO.out
      · iterate 8 (refine Below.setCell ?_ (by show w.heap.size ≤ w.heap.size; omega) _)
        exact hbel

theorem sample_any (f : Int) (n : Nat) (w : World) (hf1 : 2 ≤ f) (hf2 : f ≤ 1000) (hn : n ≤ 1000) :
    Calls Try.prog 25 #[.int .i64 f, .int .i64 n] w (SampleSaid f n w) :=
  (sample_own f n w hf1 hf2 hn).mono fun e w' ⟨A, cap, he, hown, hb⟩ => by
    refine ⟨A, cap, he, ?_, hb, ?_⟩
    · have ho : w'.ownsRow (w.heap.size + 2) 106 9 (.slice A (sampleCars f n).length cap) (sampleCars f n).length (flatCars (sampleCars f n)) := by rw [sampleCars_length]; exact hown
      exact CarsAt.of_own ho
    · rintro a rfl
      have := (hown.lt a.block rfl).1
      omega
end
end Go.Proofs.Ythbfpdkgbkpmiaa
