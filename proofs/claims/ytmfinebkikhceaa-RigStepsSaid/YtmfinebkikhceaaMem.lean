/- Memory words of the building's configuration: a car's cells, a slice of cars, a slice of ints. No statement of the seat is proved here. -/
import Derived.Test.YtmfinebkikhceaaRows
import Derived.WalkKit
import Derived.ProofKit
import Derived.OpenShut
import Derived.Lib.Hide
import Derived.Handy
import Derived.WalkLawsBesides
import Derived.BigQuiet
import Derived.StillTailTactics
import Derived.Deep.RegionHeld3
import Derived.Deep.RegionLaw
import Derived.Deep.AppendLies
import Derived.Deep.RegionWith
import Derived.Deep.DeepCutAuto
import Derived.Deep.QuietTactic
namespace Go.Proofs.Ytmfinebkikhceaa
open Go.RowKit

theorem run_store_float (P : Program) (w : World) (a : Addr) (m : Mode) (k : FloatKind) (b : Nat) : (store a (.float k b) m).run P w = stored P w a (.float k b) m := run_store P w a _ m rfl
attribute [go_sem] run_store_float

structure CarD where
  deadline : Int
  pulse : Int
  quiet : Int
  slack : Int
  step : Int
  travel : Int
  dwell : Int
  hold : Int
  home : Int

def CarD.vals (c : CarD) : List Int := [c.deadline, c.pulse, c.quiet, c.slack, c.step, c.travel, c.dwell, c.hold, c.home]
def CarD.agg (c : CarD) : Value := .agg #[.int .i64 c.deadline, .int .i64 c.pulse, .int .i64 c.quiet, .int .i64 c.slack, .int .i64 c.step, .int .i64 c.travel, .int .i64 c.dwell, .int .i64 c.hold, .int .i64 c.home]

theorem ret_bool {a b : Bool} (h : a = b) : Ending.returned (.bool a) = .returned (.bool b) := by rw [h]
theorem ret_int {k : IntKind} {a b : Int} (h : a = b) : Ending.returned (.int k a) = .returned (.int k b) := by rw [h]

/-- All values lie from lo to hi. -/
def inAll (lo hi : Int) (l : List Int) : Bool := l.all fun v => decide (lo ≤ v ∧ v ≤ hi)

/-- The values are the ints of a list. -/
inductive IsInts : List Value → List Int → Prop where
  | nil : IsInts [] []
  | cons {vs : List Value} {zs : List Int} {z : Int} (h : IsInts vs zs) : IsInts (.int .i64 z :: vs) (z :: zs)
theorem IsInts.eq {vs : List Value} {zs : List Int} (h : IsInts vs zs) : vs = zs.map fun z => .int .i64 z := by
  induction h with
  | nil => rfl
  | cons _ ih => rw [ih]; rfl

/-- A row of ints at an address. -/
def IntsAt (w : World) (b off : Nat) (zs : List Int) : Prop := ∀ j, j < zs.length → w.cell? ⟨b, off + j, none⟩ = some (.int .i64 (zs.getD j 0))

/-- Go's 'x < y' on float64, by their bits. -/
def fltB (x y : Nat) : Bool := FloatKind.f64.format.order x y == some .lt
def FloatsAt (w : World) (b off : Nat) (zs : List Nat) : Prop := ∀ j, j < zs.length → w.cell? ⟨b, off + j, none⟩ = some (.float .f64 (zs.getD j 0))

structure BldD where
  floors : Int
  debounce : Int
  room : Int
  park : Int
  empty : Nat
  full : Nat
  over : Nat
  cars : List CarD

instance : Inhabited CarD := ⟨⟨0, 0, 0, 0, 0, 0, 0, 0, 0⟩⟩

/-- A building as a value: its cars lie at A. -/
def BldD.agg (b : BldD) (A : Option Addr) (cap : Nat) : Value :=
  .agg #[.int .i64 b.floors, .int .i64 b.debounce, .int .i64 b.room, .int .i64 b.park, .float .f64 b.empty, .float .f64 b.full, .float .f64 b.over, .slice A b.cars.length cap]

/-- The cars of a list lie in memory at A, below block B. -/
def CarsAt (w : World) (B : Nat) (A : Option Addr) (cs : List CarD) : Prop :=
  cs = [] ∨ ∃ b off, A = some ⟨b, off, none⟩ ∧ b < B ∧ ∀ i, i < cs.length → ∀ j, j < 9 → w.cell? ⟨b, off + i * 9 + j, none⟩ = some (.int .i64 ((cs.getD i default).vals.getD j 0))

theorem CarsAt.below {w w' : World} {B : Nat} {A : Option Addr} {cs : List CarD} (h : CarsAt w B A cs) (hb : Below B w w') : CarsAt w' B A cs := by
  rcases h with h | ⟨b, off, hA, hlt, hc⟩
  · exact .inl h
  · exact .inr ⟨b, off, hA, hlt, fun i hi j hj => (hb.cell (p := ⟨b, _, none⟩) hlt).trans (hc i hi j hj)⟩
theorem CarsAt.more {w : World} {B B' : Nat} {A : Option Addr} {cs : List CarD} (h : CarsAt w B A cs) (hB : B ≤ B') : CarsAt w B' A cs := by
  rcases h with h | ⟨b, off, hA, hlt, hc⟩
  · exact .inl h
  · exact .inr ⟨b, off, hA, by omega, hc⟩

theorem CarsAt.at_ {w : World} {B : Nat} {A : Option Addr} {cs : List CarD} (h : CarsAt w B A cs) {k : Nat} (hk : k < cs.length) :
    ∃ b off c1 c2 c3 c4 c5 c6 c7 c8 c9, A = some ⟨b, off, none⟩ ∧ b < B ∧ Hid (cs[k] = ⟨c1, c2, c3, c4, c5, c6, c7, c8, c9⟩) ∧
      w.cell? ⟨b, off + k * 9, none⟩ = some (.int .i64 c1) ∧ w.cell? ⟨b, off + k * 9 + 1, none⟩ = some (.int .i64 c2) ∧ w.cell? ⟨b, off + k * 9 + 2, none⟩ = some (.int .i64 c3) ∧
      w.cell? ⟨b, off + k * 9 + 3, none⟩ = some (.int .i64 c4) ∧ w.cell? ⟨b, off + k * 9 + 4, none⟩ = some (.int .i64 c5) ∧ w.cell? ⟨b, off + k * 9 + 5, none⟩ = some (.int .i64 c6) ∧
      w.cell? ⟨b, off + k * 9 + 6, none⟩ = some (.int .i64 c7) ∧ w.cell? ⟨b, off + k * 9 + 7, none⟩ = some (.int .i64 c8) ∧ w.cell? ⟨b, off + k * 9 + 8, none⟩ = some (.int .i64 c9) := by
  rcases h with h | ⟨b, off, hA, hlt, hc⟩
  · rw [h] at hk; exact absurd hk (by simp)
  · have hg : cs.getD k default = cs[k] := by simp [List.getD, hk]
    have hj := fun j hj => hc k hk j hj
    rw [hg] at hj
    obtain ⟨c, hcd⟩ : ∃ c, c = cs[k] := ⟨_, rfl⟩
    rw [← hcd] at hj ⊢
    obtain ⟨c1, c2, c3, c4, c5, c6, c7, c8, c9⟩ := c
    exact ⟨b, off, c1, c2, c3, c4, c5, c6, c7, c8, c9, hA, hlt, rfl, hj 0 (by omega), hj 1 (by omega), hj 2 (by omega), hj 3 (by omega), hj 4 (by omega), hj 5 (by omega), hj 6 (by omega), hj 7 (by omega), hj 8 (by omega)⟩

/-- The cells of a block just made, behind whatever has only grown since. -/
theorem cell_new_below {w w' : World} {cs : Array Value} {e : TypeId} (hb : Below (w.heap.size + 1) (w.alloc (.cells cs e)) w') (i : Nat) : w'.cell? ⟨w.heap.size, i, none⟩ = cs[i]? := by
  rw [hb.cell (p := ⟨w.heap.size, i, none⟩) (Nat.lt_succ_self _), cell_of_row _ _ _ _ _ (0, 0) (heap_alloc_new w _)]
theorem below_of_new {w w' : World} {o : Obj} (hb : Below (w.heap.size + 1) (w.alloc o) w') : Below w.heap.size w w' :=
  ((Below.refl _ _).alloc (Nat.le_refl _) o).trans (hb.mono (by omega))

theorem intsAt_new {w : World} {b : Nat} {cs : Array Value} {zs : List Int} {e : TypeId} (hb : b = w.heap.size) (hcs : cs.toList = zs.map fun z => .int .i64 z) : IntsAt (w.alloc (.cells cs e)) b 0 zs := by
  intro j hj
  subst hb
  rw [Nat.zero_add, cell_of_row _ _ _ _ _ (0, 0) (heap_alloc_new w _), ← Array.getElem?_toList, hcs, List.getElem?_map]
  simp [hj]

inductive IsFloats : List Value → List Nat → Prop where
  | nil : IsFloats [] []
  | cons {vs : List Value} {zs : List Nat} {z : Nat} (h : IsFloats vs zs) : IsFloats (.float .f64 z :: vs) (z :: zs)
theorem IsFloats.eq {vs : List Value} {zs : List Nat} (h : IsFloats vs zs) : vs = zs.map fun z => .float .f64 z := by
  induction h with
  | nil => rfl
  | cons _ ih => rw [ih]; rfl
theorem floatsAt_new {w : World} {b : Nat} {cs : Array Value} {zs : List Nat} {e : TypeId} (hb : b = w.heap.size) (hcs : cs.toList = zs.map fun z => .float .f64 z) : FloatsAt (w.alloc (.cells cs e)) b 0 zs := by
  intro j hj
  subst hb
  rw [Nat.zero_add, cell_of_row _ _ _ _ _ (0, 0) (heap_alloc_new w _), ← Array.getElem?_toList, hcs, List.getElem?_map]
  simp [hj]

end Go.Proofs.Ytmfinebkikhceaa
