/- What the texts behind this one rest on: several texts in one. No statement of the seat is proved here. -/
import Derived.Test.YtnjcegkefjdgdaaDoorG2
import Derived.Test.YtnjcegkefjdgdaaDoorG18
import Derived.Test.YtnjcegkefjdgdaaDoorG4
import Derived.Test.YtnjcegkefjdgdaaDoorCvGame
namespace Go.Proofs.YtnjcegkefjdgdaaDoor
section
open Go.RowKit

theorem CarsAt.set {w : World} {B : Nat} {A : Option Addr} {cs : List CarD} (h : CarsAt w B A cs) {p : Addr} (hp : ∀ a, A = some a → a.block ≠ p.block) (v : Value) : CarsAt (w.setCell p v) B A cs := by
  rcases h with h | ⟨b, off, hA, hb, h⟩
  · exact .inl h
  · exact .inr ⟨b, off, hA, hb, fun i hi j hj => (World.cell?_of_block (w := w) (Below.heap_setCell w p v b (hp _ hA))).trans (h i hi j hj)⟩
end

section
open Go.RowKit

def towardF (h f : Int) : Int := if f < h then 1 else if h < f then 2 else 0
theorem towardF_up {h f : Int} (h1 : f < h) : towardF h f = 1 := if_pos h1
theorem towardF_down {h f : Int} (h1 : h < f) : towardF h f = 2 := by unfold towardF; rw [if_neg (by omega), if_pos h1]
theorem towardF_same {f : Int} : towardF f f = 0 := by unfold towardF; rw [if_neg (by omega), if_neg (by omega)]

/-- What an idle car does. -/
def moveF (b : BldD) (c i f : Int) : Int :=
  if validE b = 0 ∧ (0 ≤ c ∧ c < b.cars.length) ∧ (0 ≤ f ∧ f < b.floors) ∧ b.park ≤ i then towardF (b.cars.getD c.toNat default).home f else 0
theorem moveF_bad {b : BldD} {c i f : Int} (h : ¬ (validE b = 0 ∧ (0 ≤ c ∧ c < b.cars.length) ∧ (0 ≤ f ∧ f < b.floors) ∧ b.park ≤ i)) : moveF b c i f = 0 := if_neg h
theorem moveF_good {b : BldD} {k : Nat} {i f : Int} (hv : validE b = 0) (hk : k < b.cars.length) (hf : 0 ≤ f ∧ f < b.floors) (hi : b.park ≤ i) : moveF b k i f = towardF b.cars[k].home f := by
  unfold moveF
  rw [if_pos ⟨hv, ⟨by omega, by omega⟩, hf, hi⟩]
  simp [List.getD, hk]

structure FineP (b : BldD) : Prop where
  floors : 2 ≤ b.floors ∧ b.floors ≤ 32
  cars : 1 ≤ b.cars.length ∧ b.cars.length ≤ 8
  homes : ∀ k (h : k < b.cars.length), 0 ≤ b.cars[k].home ∧ b.cars[k].home ≤ b.floors - 1
  park : 1 ≤ b.park ∧ b.park ≤ 10000

theorem fineP_of {b : BldD} (h : validE b = 0) : FineP b := by
  unfold validE at h
  split at h
  · exact absurd h (by decide)
  · split at h
    · exact absurd h (by decide)
    · split at h
      · exact absurd h (by decide)
      · rename_i h1 h2 h3
        have h1 := inAll_one (by simpa using h1)
        have h2 := inAll_one (by simpa using h2)
        have h3 : timesFitB b = true := by simpa using h3
        unfold timesFitB at h3
        rw [Bool.and_eq_true, Bool.and_eq_true, List.all_eq_true] at h3
        refine ⟨h1, by omega, fun k hk => ?_, ?_⟩
        · have hc := h3.2.2 _ (List.getElem_mem hk)
          generalize b.cars[k] = c at hc ⊢
          obtain ⟨c1, c2, c3, c4, c5, c6, c7, c8, c9⟩ := c
          simp [carFitsB, inAll] at hc
          simp only
          omega
        · have := h3.2.1
          simp [inAll] at this
          omega
end

section
open Go.RowKit

/-- A state: the sweep, the door, the motion, the car calls, what is shown, the idle ticks, the fault. -/
structure Nc where
  sd : Int
  so : Int
  dr : Dr
  mo : Mo
  ca : Nat
  sh : Int
  il : Int
  fa : Bool
deriving DecidableEq
/-- A feedback. -/
structure Fb where
  fl : Int
  lv : Bool
  dd : Int
  bl : Bool
deriving DecidableEq
namespace Fb
def agg (x : Fb) : Value := .agg #[.int .i64 x.fl, .bool x.lv, .int .i64 x.dd, .bool x.bl]
def okB (F : Int) (x : Fb) : Bool := (decide (0 ≤ x.fl) && decide (x.fl ≤ F - 1)) && (decide (0 ≤ x.dd) && decide (x.dd ≤ 2))
theorem okB_iff {F : Int} {x : Fb} : okB F x = true ↔ (0 ≤ x.fl ∧ x.fl ≤ F - 1) ∧ 0 ≤ x.dd ∧ x.dd ≤ 2 := by
  unfold okB
  simp only [Bool.and_eq_true, decide_eq_true_eq]
end Fb
namespace Nc
def agg (s : Nc) : Value := .agg #[.int .i64 s.sd, .int .i64 s.so, .int .i64 s.dr.st, .int .i64 s.dr.ti, .int .i64 s.dr.si, .bool s.dr.nu, .int .i64 s.dr.cy, .int .i64 s.mo.c, .int .i64 s.mo.t, .int .i64 s.mo.f, .int .u32 s.ca, .int .i64 s.sh, .int .i64 s.il, .bool s.fa]
def zero : Nc := ⟨0, 0, Dr.zero, Mo.zero, 0, 0, 0, false⟩
def faulty : Nc := ⟨0, 0, Dr.zero, Mo.zero, 0, 0, 0, true⟩
def same (x y : Nc) : Bool := (x.sd == y.sd && x.so == y.so) && (Dr.same x.dr y.dr && (Mo.same x.mo y.mo && (x.ca == y.ca && (x.sh == y.sh && (x.il == y.il && x.fa == y.fa)))))
theorem same_iff (x y : Nc) : same x y = true ↔ x = y := by
  obtain ⟨a1, a2, a3, a4, a5, a6, a7, a8⟩ := x
  obtain ⟨b1, b2, b3, b4, b5, b6, b7, b8⟩ := y
  unfold same
  simp only [Bool.and_eq_true, beq_iff_eq, Dr.same_iff, Mo.same_iff, Nc.mk.injEq, and_assoc]
theorem same_self (x : Nc) : same x x = true := (same_iff x x).2 rfl
/-- All floors of a building. -/
def allF (F : Int) : Nat := 2 ^ F.toNat - 1
def fits (F : Int) (p : Nat) : Nat := p &&& allF F
def wi (lo hi n : Int) : Bool := decide (lo ≤ n) && decide (n ≤ hi)
theorem wi_iff {lo hi n : Int} : wi lo hi n = true ↔ lo ≤ n ∧ n ≤ hi := by unfold wi; simp
def drB (s : Nc) : Bool := Dr.same s.dr Dr.zero
def moB (s : Nc) : Bool := Mo.same s.mo Mo.zero
theorem drB_iff {s : Nc} : drB s = true ↔ s.dr = Dr.zero := Dr.same_iff _ _
theorem moB_iff {s : Nc} : moB s = true ↔ s.mo = Mo.zero := Mo.same_iff _ _
/-- What is asked of a state without a fault. -/
def goodB (F : Int) (s : Nc) : Bool :=
  (wi 0 2 s.sd && wi 0 7 s.so) && (s.dr.isB && (Mo.isB F s.mo && ((drB s || moB s) && ((s.ca == fits F s.ca) && (wi 0 2 s.sh && wi 0 1000000 s.il)))))
/-- States of a valid building. -/
def stB (F : Int) (s : Nc) : Bool := if s.fa = true then same s faulty else goodB F s
def isB (b : BldD) (s : Nc) : Bool := if validE b = 0 then stB b.floors s else false
def bit (x : Fb) : Nat := 2 ^ x.fl.toNat
def minus (p q : Nat) : Nat := p &&& (4294967295 - q)
def heard (F : Int) (x : Fb) (s : Nc) (p : Nat) : Nat := if drB s = true then fits F p else minus (fits F p) (bit x)
def turnDoor (c : CarD) (x : Fb) (s : Nc) (want : Bool) : Nc × Int :=
  ({s with dr := (Dr.stepF c.dwell c.hold s.dr x.dd x.bl want).1, il := 0}, (Dr.stepF c.dwell c.hold s.dr x.dd x.bl want).2)
def turned (x : Fb) (s : Nc) : Nc := if s.dr.st = 2 then {s with ca := minus s.ca (bit x)} else if s.dr.st = 0 then {s with sh := 0} else s
def cycle (c : CarD) (x : Fb) (s : Nc) : Nc × Int := (turned x (turnDoor c x s false).1, (turnDoor c x s false).2)
def move (F : Int) (x : Fb) (s : Nc) (m : Int) : Nc × Int :=
  ({s with mo := (Mo.stepF F s.mo x.fl x.lv m).1}, (Mo.stepF F s.mo x.fl x.lv m).2.1)
def underway (s : Nc) : Nc := if s.mo.c ≠ 0 ∧ s.sd = 0 then s else {s with il := 0}
def foundOpen (s : Nc) : Nc := {s with dr := ⟨1, 0, 0, false, 0⟩, sh := 0, so := ((s.so.toNat ||| 1 : Nat) : Int)}
def more (n : Int) : Int := if n + 1 ≤ 1000000 then n + 1 else 1000000
def rest (b : BldD) (k : Int) (x : Fb) (s : Nc) : Nc × Int :=
  if moveF b k s.il x.fl = 0 then ({s with il := more s.il}, 0) else move b.floors x s (moveF b k s.il x.fl)
def stops (s : Nc) (h : Cs) : Stp := ⟨s.ca, h⟩
def choice (F : Int) (x : Fb) (h : Cs) (s : Nc) : Cv.Ch := Cv.choose (Cv.look F.toNat s.so.toNat x.fl.toNat (stops s h)) s.sd.toNat
def swept (F : Int) (x : Fb) (h : Cs) (s : Nc) : Nc :=
  {s with sd := ((choice F x h s).dir : Int), so := (Cv.opened (Cv.cd s.so.toNat x.fl.toNat (Cv.cnt F.toNat (stops s h))) (choice F x h s) : Nat)}
def choose (b : BldD) (k : Int) (c : CarD) (x : Fb) (h : Cs) (s : Nc) : Nc × Int :=
  if (choice b.floors x h s).d_ = 3 then turnDoor c x {swept b.floors x h s with sh := ((choice b.floors x h s).sh : Int)} true
  else if (choice b.floors x h s).d_ = 1 ∨ (choice b.floors x h s).d_ = 2 then move b.floors x {swept b.floors x h s with il := 0} ((choice b.floors x h s).d_ : Int)
  else rest b k x (swept b.floors x h s)
def control (b : BldD) (k : Int) (c : CarD) (x : Fb) (h : Cs) (s : Nc) : Nc × Int :=
  if drB s = false then cycle c x s
  else if moB (move b.floors x s 0).1 = false then (underway (move b.floors x s 0).1, (move b.floors x s 0).2)
  else if x.dd ≠ 2 then cycle c x (foundOpen (move b.floors x s 0).1)
  else choose b k c x h (move b.floors x s 0).1
def lateB (c : CarD) (s : Nc) : Bool := Dr.late c.travel s.dr || Mo.late c.step s.mo
def watched (c : CarD) (r : Nc × Int) : Nc × Int := if lateB c r.1 = true then (faulty, 0) else r
def carAt (b : BldD) (k : Int) : CarD := b.cars.getD k.toNat default
def isCar (b : BldD) (k : Int) (s : Nc) : Bool := isB b s && wi 0 ((b.cars.length : Int) - 1) k
/-- The state before the control acts. -/
def told (F : Int) (x : Fb) (p : Nat) (s : Nc) : Nc := {s with ca := s.ca ||| heard F x s p}
def stepG (b : BldD) (k : Int) (s : Nc) (x : Fb) (p : Nat) (h : Cs) : Nc × Int :=
  if s.fa = true then (s, 0) else watched (carAt b k) (control b k (carAt b k) x h (told b.floors x p s))
/-- The state, the command, the error. -/
def stepF (b : BldD) (k : Int) (s : Nc) (x : Fb) (p : Nat) (h : Cs) : Nc × Int × Int :=
  if isCar b k s = true ∧ Fb.okB b.floors x = true then ((stepG b k s x p h).1, (stepG b k s x p h).2, 0) else (zero, 0, 1)
def blindG (c : CarD) (s : Nc) : Nc × Int := watched c ({s with dr := s.dr.skipF, mo := s.mo.skipF}, 0)
def blindF (b : BldD) (k : Int) (s : Nc) : Nc × Int × Int :=
  if isCar b k s = true then ((blindG (carAt b k) s).1, (blindG (carAt b k) s).2, 0) else (zero, 0, 1)
def shows (b : BldD) (s : Nc) (x : Fb) : Nat × Nat :=
  if isB b s = true ∧ s.dr.st = 2 ∧ x.lv = true then Ind.shows b.floors ⟨x.fl, s.sh, x.dd⟩ else (0, 0)
end Nc
end
end Go.Proofs.YtnjcegkefjdgdaaDoor
