/- What the texts behind this one rest on: several texts in one. No statement of the seat is proved here. -/
import Derived.Test.YtnjcegkefjdgdaaDoorRows
import Derived.WalkKit
import Derived.ProofKit
import Derived.OpenShut
import Derived.Lib.Hide
import Derived.Handy
import Derived.WalkLawsBesides
import Derived.BigQuiet
import Derived.StillTailTactics
import Derived.Deep.RegionHeld3
import Derived.Deep.RegionLaw
import Derived.Deep.AppendLies
import Derived.Deep.RegionWith
import Derived.Deep.DeepCutAuto
import Derived.Deep.QuietTactic
import Derived.Lib.BitFns
namespace Go.Proofs.YtnjcegkefjdgdaaDoor
section
open Go.RowKit

theorem run_store_float (P : Program) (w : World) (a : Addr) (m : Mode) (k : FloatKind) (b : Nat) : (store a (.float k b) m).run P w = stored P w a (.float k b) m := run_store P w a _ m rfl
attribute [go_sem] run_store_float

structure CarD where
  deadline : Int
  pulse : Int
  quiet : Int
  slack : Int
  step : Int
  travel : Int
  dwell : Int
  hold : Int
  home : Int

def CarD.vals (c : CarD) : List Int := [c.deadline, c.pulse, c.quiet, c.slack, c.step, c.travel, c.dwell, c.hold, c.home]
def CarD.agg (c : CarD) : Value := .agg #[.int .i64 c.deadline, .int .i64 c.pulse, .int .i64 c.quiet, .int .i64 c.slack, .int .i64 c.step, .int .i64 c.travel, .int .i64 c.dwell, .int .i64 c.hold, .int .i64 c.home]

theorem ret_bool {a b : Bool} (h : a = b) : Ending.returned (.bool a) = .returned (.bool b) := by rw [h]
theorem ret_int {k : IntKind} {a b : Int} (h : a = b) : Ending.returned (.int k a) = .returned (.int k b) := by rw [h]

/-- All values lie from lo to hi. -/
def inAll (lo hi : Int) (l : List Int) : Bool := l.all fun v => decide (lo ≤ v ∧ v ≤ hi)

/-- The values are the ints of a list. -/
inductive IsInts : List Value → List Int → Prop where
  | nil : IsInts [] []
  | cons {vs : List Value} {zs : List Int} {z : Int} (h : IsInts vs zs) : IsInts (.int .i64 z :: vs) (z :: zs)
theorem IsInts.eq {vs : List Value} {zs : List Int} (h : IsInts vs zs) : vs = zs.map fun z => .int .i64 z := by
  induction h with
  | nil => rfl
  | cons _ ih => rw [ih]; rfl

/-- A row of ints at an address. -/
def IntsAt (w : World) (b off : Nat) (zs : List Int) : Prop := ∀ j, j < zs.length → w.cell? ⟨b, off + j, none⟩ = some (.int .i64 (zs.getD j 0))

/-- Go's 'x < y' on float64, by their bits. -/
def fltB (x y : Nat) : Bool := FloatKind.f64.format.order x y == some .lt
def FloatsAt (w : World) (b off : Nat) (zs : List Nat) : Prop := ∀ j, j < zs.length → w.cell? ⟨b, off + j, none⟩ = some (.float .f64 (zs.getD j 0))

structure BldD where
  floors : Int
  debounce : Int
  room : Int
  park : Int
  empty : Nat
  full : Nat
  over : Nat
  cars : List CarD

instance : Inhabited CarD := ⟨⟨0, 0, 0, 0, 0, 0, 0, 0, 0⟩⟩

/-- A building as a value: its cars lie at A. -/
def BldD.agg (b : BldD) (A : Option Addr) (cap : Nat) : Value :=
  .agg #[.int .i64 b.floors, .int .i64 b.debounce, .int .i64 b.room, .int .i64 b.park, .float .f64 b.empty, .float .f64 b.full, .float .f64 b.over, .slice A b.cars.length cap]

/-- The cars of a list lie in memory at A, below block B. -/
def CarsAt (w : World) (B : Nat) (A : Option Addr) (cs : List CarD) : Prop :=
  cs = [] ∨ ∃ b off, A = some ⟨b, off, none⟩ ∧ b < B ∧ ∀ i, i < cs.length → ∀ j, j < 9 → w.cell? ⟨b, off + i * 9 + j, none⟩ = some (.int .i64 ((cs.getD i default).vals.getD j 0))

theorem CarsAt.below {w w' : World} {B : Nat} {A : Option Addr} {cs : List CarD} (h : CarsAt w B A cs) (hb : Below B w w') : CarsAt w' B A cs := by
  rcases h with h | ⟨b, off, hA, hlt, hc⟩
  · exact .inl h
  · exact .inr ⟨b, off, hA, hlt, fun i hi j hj => (hb.cell (p := ⟨b, _, none⟩) hlt).trans (hc i hi j hj)⟩
theorem CarsAt.more {w : World} {B B' : Nat} {A : Option Addr} {cs : List CarD} (h : CarsAt w B A cs) (hB : B ≤ B') : CarsAt w B' A cs := by
  rcases h with h | ⟨b, off, hA, hlt, hc⟩
  · exact .inl h
  · exact .inr ⟨b, off, hA, by omega, hc⟩

theorem CarsAt.at_ {w : World} {B : Nat} {A : Option Addr} {cs : List CarD} (h : CarsAt w B A cs) {k : Nat} (hk : k < cs.length) :
    ∃ b off c1 c2 c3 c4 c5 c6 c7 c8 c9, A = some ⟨b, off, none⟩ ∧ b < B ∧ Hid (cs[k] = ⟨c1, c2, c3, c4, c5, c6, c7, c8, c9⟩) ∧
      w.cell? ⟨b, off + k * 9, none⟩ = some (.int .i64 c1) ∧ w.cell? ⟨b, off + k * 9 + 1, none⟩ = some (.int .i64 c2) ∧ w.cell? ⟨b, off + k * 9 + 2, none⟩ = some (.int .i64 c3) ∧
      w.cell? ⟨b, off + k * 9 + 3, none⟩ = some (.int .i64 c4) ∧ w.cell? ⟨b, off + k * 9 + 4, none⟩ = some (.int .i64 c5) ∧ w.cell? ⟨b, off + k * 9 + 5, none⟩ = some (.int .i64 c6) ∧
      w.cell? ⟨b, off + k * 9 + 6, none⟩ = some (.int .i64 c7) ∧ w.cell? ⟨b, off + k * 9 + 7, none⟩ = some (.int .i64 c8) ∧ w.cell? ⟨b, off + k * 9 + 8, none⟩ = some (.int .i64 c9) := by
  rcases h with h | ⟨b, off, hA, hlt, hc⟩
  · rw [h] at hk; exact absurd hk (by simp)
  · have hg : cs.getD k default = cs[k] := by simp [List.getD, hk]
    have hj := fun j hj => hc k hk j hj
    rw [hg] at hj
    obtain ⟨c, hcd⟩ : ∃ c, c = cs[k] := ⟨_, rfl⟩
    rw [← hcd] at hj ⊢
    obtain ⟨c1, c2, c3, c4, c5, c6, c7, c8, c9⟩ := c
    exact ⟨b, off, c1, c2, c3, c4, c5, c6, c7, c8, c9, hA, hlt, rfl, hj 0 (by omega), hj 1 (by omega), hj 2 (by omega), hj 3 (by omega), hj 4 (by omega), hj 5 (by omega), hj 6 (by omega), hj 7 (by omega), hj 8 (by omega)⟩

/-- The cells of a block just made, behind whatever has only grown since. -/
theorem cell_new_below {w w' : World} {cs : Array Value} {e : TypeId} (hb : Below (w.heap.size + 1) (w.alloc (.cells cs e)) w') (i : Nat) : w'.cell? ⟨w.heap.size, i, none⟩ = cs[i]? := by
  rw [hb.cell (p := ⟨w.heap.size, i, none⟩) (Nat.lt_succ_self _), cell_of_row _ _ _ _ _ (0, 0) (heap_alloc_new w _)]
theorem below_of_new {w w' : World} {o : Obj} (hb : Below (w.heap.size + 1) (w.alloc o) w') : Below w.heap.size w w' :=
  ((Below.refl _ _).alloc (Nat.le_refl _) o).trans (hb.mono (by omega))

theorem intsAt_new {w : World} {b : Nat} {cs : Array Value} {zs : List Int} {e : TypeId} (hb : b = w.heap.size) (hcs : cs.toList = zs.map fun z => .int .i64 z) : IntsAt (w.alloc (.cells cs e)) b 0 zs := by
  intro j hj
  subst hb
  rw [Nat.zero_add, cell_of_row _ _ _ _ _ (0, 0) (heap_alloc_new w _), ← Array.getElem?_toList, hcs, List.getElem?_map]
  simp [hj]

inductive IsFloats : List Value → List Nat → Prop where
  | nil : IsFloats [] []
  | cons {vs : List Value} {zs : List Nat} {z : Nat} (h : IsFloats vs zs) : IsFloats (.float .f64 z :: vs) (z :: zs)
theorem IsFloats.eq {vs : List Value} {zs : List Nat} (h : IsFloats vs zs) : vs = zs.map fun z => .float .f64 z := by
  induction h with
  | nil => rfl
  | cons _ ih => rw [ih]; rfl
theorem floatsAt_new {w : World} {b : Nat} {cs : Array Value} {zs : List Nat} {e : TypeId} (hb : b = w.heap.size) (hcs : cs.toList = zs.map fun z => .float .f64 z) : FloatsAt (w.alloc (.cells cs e)) b 0 zs := by
  intro j hj
  subst hb
  rw [Nat.zero_add, cell_of_row _ _ _ _ _ (0, 0) (heap_alloc_new w _), ← Array.getElem?_toList, hcs, List.getElem?_map]
  simp [hj]
end

section
open Go.RowKit

/-- A set of calls: the bits of its calls up and down. -/
structure Cs where
  up : Nat
  dn : Nat
/-- An entry. -/
structure En where
  f : Int
  d : Int
  car : Int
  mv : Int
  md : Bool
def En.cells (e : En) : List Value := [.int .i64 e.f, .int .i64 e.d, .int .i64 e.car, .int .i64 e.mv, .bool e.md]
namespace Cs
def empty : Cs := ⟨0, 0⟩
def ok (c : Cs) : Prop := c.up < 4294967296 ∧ c.dn < 4294967296
def agg (c : Cs) : Value := .agg #[.int .u32 c.up, .int .u32 c.dn]
def union (a b : Cs) : Cs := ⟨a.up ||| b.up, a.dn ||| b.dn⟩
def both (a b : Cs) : Cs := ⟨a.up &&& b.up, a.dn &&& b.dn⟩
def minus (a b : Cs) : Cs := ⟨a.up &&& (4294967295 - b.up), a.dn &&& (4294967295 - b.dn)⟩
def bitAt (f : Int) : Nat := if 0 ≤ f ∧ f < 32 then 2 ^ f.toNat else 0
def low (f : Int) : Nat := 2 ^ (min (max f 0) 32).toNat - 1
def one (f d : Int) : Cs := if d = 1 then ⟨bitAt f, 0⟩ else if d = 2 then ⟨0, bitAt f⟩ else empty
def eqB (a b : Cs) : Bool := a.up == b.up && a.dn == b.dn
def has (c : Cs) (f d : Int) : Bool := !(eqB (both c (one f d)) empty)
def above (c : Cs) (f : Int) : Cs := minus c ⟨bitAt f ||| low f, bitAt f ||| low f⟩
def below (c : Cs) (f : Int) : Cs := both c ⟨low f, low f⟩

theorem nat_ext {x y : Nat} (hx : x < 4294967296) (hy : y < 4294967296) (h : ∀ k, k < 32 → x.testBit k = y.testBit k) : x = y := by
  apply Nat.eq_of_testBit_eq
  intro k
  by_cases hk : k < 32
  · exact h k hk
  · have hp : 4294967296 ≤ 2 ^ k := by
      have := Nat.pow_le_pow_right (n := 2) (by decide) (show 32 ≤ k by omega)
      exact this
    rw [Nat.testBit_lt_two_pow (by omega), Nat.testBit_lt_two_pow (by omega)]
theorem pow_lt {k : Nat} (h : k < 32) : 2 ^ k < 4294967296 := Nat.pow_lt_pow_right (by decide) (show k < 32 from h)
theorem or_lt {x y : Nat} (hx : x < 4294967296) (hy : y < 4294967296) : x ||| y < 4294967296 := Nat.or_lt_two_pow (n := 32) hx hy
theorem and_lt {x y : Nat} (hx : x < 4294967296) : x &&& y < 4294967296 := Nat.lt_of_le_of_lt Nat.and_le_left hx
theorem empty_ok : empty.ok := by constructor <;> show (0 : Nat) < 4294967296 <;> decide
theorem union_ok {a b : Cs} (ha : a.ok) (hb : b.ok) : (union a b).ok := ⟨or_lt ha.1 hb.1, or_lt ha.2 hb.2⟩
theorem both_ok {a b : Cs} (ha : a.ok) : (both a b).ok := ⟨and_lt ha.1, and_lt ha.2⟩
theorem minus_ok {a b : Cs} (ha : a.ok) : (minus a b).ok := ⟨and_lt ha.1, and_lt ha.2⟩
theorem bitAt_lt (f : Int) : bitAt f < 4294967296 := by
  unfold bitAt
  split
  · exact pow_lt (by omega)
  · decide
theorem one_ok (f d : Int) : (one f d).ok := by
  unfold one
  split
  · exact ⟨bitAt_lt f, by show (0 : Nat) < 4294967296; decide⟩
  · split
    · exact ⟨by show (0 : Nat) < 4294967296; decide, bitAt_lt f⟩
    · exact empty_ok
theorem bit_and (x y k : Nat) : (x &&& y).testBit k = (x.testBit k && y.testBit k) := Nat.testBit_and x y k
theorem bit_pow (j k : Nat) : (2 ^ j).testBit k = decide (j = k) := Nat.testBit_two_pow
/-- The calls at the floors below n that p picks. -/
def sel (c : Cs) (p : Nat → Bool) : Nat → Cs
  | 0 => empty
  | k + 1 => if p k then union (sel c p k) (both c ⟨2 ^ k, 2 ^ k⟩) else sel c p k
theorem has_one {x k : Nat} (hx : x < 4294967296) : (x &&& 2 ^ k == 0) = !x.testBit k := by
  rw [Bool.eq_iff_iff, beq_iff_eq, Bool.not_eq_true']
  constructor
  · intro h
    have := congrArg (fun z => Nat.testBit z k) h
    simpa [bit_and, bit_pow] using this
  · intro h
    refine nat_ext (and_lt hx) (by decide) fun j _ => ?_
    rw [bit_and, bit_pow, Nat.zero_testBit]
    by_cases hj : k = j
    · subst hj; rw [h]; rfl
    · rw [decide_eq_false hj, Bool.and_false]
theorem bitAt_nat {k : Nat} (hk : k < 32) : bitAt (k : Int) = 2 ^ k := by unfold bitAt; rw [if_pos (by omega), Int.toNat_natCast]
theorem has_up {c : Cs} (h : c.ok) {k : Nat} (hk : k < 32) : has c k 1 = c.up.testBit k := by
  unfold has one both eqB empty
  rw [if_pos rfl, bitAt_nat hk]
  show (!((c.up &&& 2 ^ k == 0) && (c.dn &&& 0 == 0))) = _
  rw [has_one h.1, Nat.and_zero]
  simp
theorem has_dn {c : Cs} (h : c.ok) {k : Nat} (hk : k < 32) : has c k 2 = c.dn.testBit k := by
  unfold has one both eqB empty
  rw [if_neg (by decide), if_pos rfl, bitAt_nat hk]
  show (!((c.up &&& 0 == 0) && (c.dn &&& 2 ^ k == 0))) = _
  rw [has_one h.2, Nat.and_zero]
  simp
/-- How many of the first n are true. -/
def cnt (p : Nat → Bool) : Nat → Nat
  | 0 => 0
  | n + 1 => cnt p n + (p n).toNat
def pop (x : Nat) : Nat := Go.Lib.onesCount (x / 16777216) + Go.Lib.onesCount (x / 65536 % 256) + Go.Lib.onesCount (x / 256 % 256) + Go.Lib.onesCount (x % 256)
def count (c : Cs) : Nat := pop c.up + pop c.dn

def of (l : List En) : Cs := l.foldl (fun c e => union c (one e.f e.d)) empty
end Cs
end

section
open Go.RowKit

/-- Stops: the bits of the car calls, and hall calls. -/
structure Stp where
  car : Nat
  h : Cs
namespace Stp
def ok (s : Stp) : Prop := s.car < 4294967296 ∧ s.h.ok
def agg (s : Stp) : Value := .agg #[.int .u32 s.car, .int .u32 s.h.up, .int .u32 s.h.dn]
def eqB (a b : Stp) : Bool := a.car == b.car && (a.h.up == b.h.up && a.h.dn == b.h.dn)
def zero : Stp := ⟨0, Cs.empty⟩
/-- All floors with a stop. -/
def bits (s : Stp) : Nat := s.car ||| s.h.up ||| s.h.dn
end Stp

namespace Cv
def all (F : Nat) : Nat := 2 ^ F - 1
/-- The stops that count in a building of F floors. -/
def cnt (F : Nat) (s : Stp) : Stp := ⟨s.car &&& all F, Cs.both s.h ⟨all F >>> 1, all F &&& 4294967294⟩⟩
/-- The stops at floor f that are marked, with the openings o. -/
def mk (o f : Nat) (s : Stp) : Stp := ⟨if o = 0 then 0 else s.car &&& 2 ^ f, ⟨if o.testBit 1 then s.h.up &&& 2 ^ f else 0, if o.testBit 2 then s.h.dn &&& 2 ^ f else 0⟩⟩
/-- What the openings count as. -/
def cd (o f : Nat) (t : Stp) : Nat := if Stp.eqB (mk o f t) t then 0 else o
def spent (F o f : Nat) (s : Stp) : Stp := mk (cd o f (cnt F s)) f (cnt F s)
def minus (s x : Stp) : Stp := ⟨s.car &&& (4294967295 - x.car), Cs.minus s.h x.h⟩
def live (F o f : Nat) (s : Stp) : Stp := minus (cnt F s) (spent F o f s)
/-- How many floors lie between f and the nearest stop above, and below. -/
def upF (a f : Nat) : Option Nat := (List.range (31 - f)).find? fun i => a.testBit (f + 1 + i)
def dnF (a f : Nat) : Option Nat := (List.range f).find? fun i => a.testBit (f - 1 - i)
def near (a f : Nat) : Nat :=
  match upF a f, dnF a f with
  | some i, some j => if i ≤ j then 1 else 2
  | some _, none => 1
  | none, some _ => 2
  | none, none => 0
/-- What a choice hangs on. -/
structure Sc where
  up : Bool
  dn : Bool
  car : Bool
  ab : Bool
  be : Bool
  nr : Nat
def look (F o f : Nat) (s : Stp) : Sc := let x := live F o f s; ⟨x.h.up.testBit f, x.h.dn.testBit f, x.car.testBit f, (upF x.bits f).isSome, (dnF x.bits f).isSome, near x.bits f⟩
/-- A choice. -/
structure Ch where
  d_ : Nat
  dir : Nat
  sh : Nat
deriving DecidableEq
def Ch.agg (c : Ch) : Value := .agg #[.int .i64 (c.d_ : Int), .int .i64 (c.dir : Int), .int .i64 (c.sh : Int)]
def openC (s : Nat) : Ch := ⟨3, s, s⟩
def moveC (d : Nat) : Ch := ⟨d, d, 0⟩
def asks (x : Sc) (d : Nat) : Bool := if d = 1 then x.up || x.ab else x.dn || x.be
def first (x : Sc) (a b : Nat) : Nat := if asks x a then a else if asks x b then b else 0
def rest (x : Sc) : Ch := if x.up then openC 1 else if x.dn then openC 2 else if x.car then openC x.nr else moveC x.nr
def swDn (x : Sc) : Ch := if x.car || x.dn then openC (first x 2 1) else if x.be then moveC 2 else if x.up then openC 1 else if x.ab then moveC 1 else moveC 0
def swUp (x : Sc) : Ch := if x.car || x.up then openC (first x 1 2) else if x.ab then moveC 1 else swDn x
def choose (x : Sc) (d : Nat) : Ch := if d = 0 then rest x else if d = 1 then swUp x else swDn x
/-- The openings behind a choice. -/
def opened (o : Nat) (c : Ch) : Nat := if c.d_ = 3 then o ||| 2 ^ c.sh else 0

theorem all_lt {F : Nat} (h : F ≤ 32) : all F < 4294967296 := by
  have := Nat.pow_le_pow_right (n := 2) (by decide) h
  have e : (2 : Nat) ^ 32 = 4294967296 := rfl
  unfold all
  have := Nat.two_pow_pos F
  omega
theorem cnt_ok {F : Nat} {s : Stp} (h : s.ok) : (cnt F s).ok := ⟨Cs.and_lt h.1, Cs.both_ok h.2⟩
theorem mk_ok {o f : Nat} {s : Stp} (h : s.ok) : (mk o f s).ok := by
  unfold mk
  refine ⟨?_, ?_, ?_⟩ <;> simp only
  · split
    · decide
    · exact Cs.and_lt h.1
  · split
    · exact Cs.and_lt h.2.1
    · decide
  · split
    · exact Cs.and_lt h.2.2
    · decide
theorem minus_ok {s x : Stp} (h : s.ok) : (minus s x).ok := ⟨Cs.and_lt h.1, Cs.minus_ok h.2⟩
section
variable {F o f : Nat} {s : Stp} (hs : s.ok) (hF : F ≤ 32) (hf : f < F)
include hs hF hf
end
end Cv
end
end Go.Proofs.YtnjcegkefjdgdaaDoor
