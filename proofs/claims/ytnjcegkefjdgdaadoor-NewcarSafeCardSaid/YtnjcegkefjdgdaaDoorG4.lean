/- What the texts behind this one rest on: several texts in one. No statement of the seat is proved here. -/
import Derived.Test.YtnjcegkefjdgdaaDoorG0
import Derived.Test.YtnjcegkefjdgdaaDoorG2
import Derived.Test.YtnjcegkefjdgdaaDoorRows
import Derived.Lib.BitFns
namespace Go.Proofs.YtnjcegkefjdgdaaDoor
section
open Go.RowKit

def ascTo (zs : List Nat) (k : Nat) : Prop := ∀ i, i < k → fltB (zs.getD i 0) (zs.getD (i + 1) 0) = true
def ascB (zs : List Nat) : Bool := decide (∀ i, i < zs.length - 1 → fltB (zs.getD i 0) (zs.getD (i + 1) 0) = true)

theorem ascending_any (b off cap : Nat) (zs : List Nat) (w : World) (h0 : 0 < zs.length) (hn : zs.length ≤ 1000) (hb : b < w.heap.size) (hc : FloatsAt w b off zs) :
    Calls Tryd.prog 49 #[.slice (some ⟨b, off, none⟩) zs.length cap] w fun e w' => e = .returned (.bool (ascB zs)) ∧ Below w.heap.size w w' := by
  have HC := Lib.hid hc
  clear hc
  go_enter Tryd.func49, Tryd.ntmps49
  go_wp2
  go_loopw [3] (fun v wr => ∃ k : Nat, k + 1 ≤ zs.length ∧ v = .int .i64 ((k : Int) + 1) ∧ Hid (ascTo zs k) ∧ Below w.heap.size w wr) (fun v _ => zs.length - (intOf v).toNat)
  case atStart => exact ⟨0, h0, rfl, fun i hi => absurd hi (by omega), Below.refl _ _⟩
  case round =>
    obtain ⟨k, hk, rfl, hall, hbel⟩ := hrel
    by_cases hlt : k + 1 < zs.length
    · obtain ⟨x, hx⟩ : ∃ x, x = zs.getD k 0 := ⟨_, rfl⟩
      obtain ⟨y, hy⟩ : ∃ y, y = zs.getD (k + 1) 0 := ⟨_, rfl⟩
      have g0 : wr.cell? ⟨b, off + k, none⟩ = some (.float .f64 x) := by rw [hx]; exact (hbel.cell (p := ⟨b, off + k, none⟩) hb).trans (HC.out k (by omega))
      have g1 : wr.cell? ⟨b, off + (k + 1), none⟩ = some (.float .f64 y) := by rw [hy]; exact (hbel.cell (p := ⟨b, off + (k + 1), none⟩) hb).trans (HC.out (k + 1) (by omega))
      have HX := Lib.hid hx
      have HY := Lib.hid hy
      clear hx hy
      rcases Bool.eq_false_or_eq_true (FloatKind.f64.format.order x y == some .lt) with hf | hf
      · go_wp2_with fail
        go_quiet (fail)
        go_wp2
        go_roundw
        case rel =>
          refine ⟨k + 1, by omega, by go_num, fun i hi => ?_, ?_⟩
          · rcases Nat.lt_or_ge i k with h | h
            · exact hall.out i h
            · obtain rfl : i = k := by omega
              rw [← HX.out, ← HY.out]
              exact hf
          · exact ⟨hbel.os, hbel.tape, hbel.output, hbel.size, hbel.block⟩
        case measure => simp [intOf]; omega
      · go_wp2_with fail
        go_quiet (fail)
        go_wp2
        go_ret
        refine ⟨ret_bool ?_, hbel.os, hbel.tape, hbel.output, hbel.size, hbel.block⟩
        unfold ascB
        symm
        rw [decide_eq_false_iff_not]
        intro h
        have := h k (by omega)
        rw [← HX.out, ← HY.out] at this
        unfold fltB at this
        rw [hf] at this
        cases this
    · go_wp2
      go_ret
      refine ⟨ret_bool ?_, hbel⟩
      unfold ascB
      symm
      rw [decide_eq_true_iff]
      intro i hi
      exact hall.out i (by omega)

theorem ascending_new (w : World) (cs : Array Value) (t : TypeId) (b n cap : Nat) (zs : List Nat) (hb : b = w.heap.size) (hn : cs.size = n) (h0 : 0 < n) (hle : n ≤ 1000) (hz : IsFloats cs.toList zs) :
    Calls Tryd.prog 49 #[.slice (some ⟨b, 0, none⟩) n cap] (w.alloc (.cells cs t)) fun e w' => e = .returned (.bool (ascB zs)) ∧ Below (w.alloc (.cells cs t)).heap.size (w.alloc (.cells cs t)) w' := by
  have hl : zs.length = n := by have := congrArg List.length hz.eq; rw [List.length_map, Array.length_toList] at this; omega
  subst hl
  exact ascending_any b 0 cap zs _ h0 hle (by subst hb; simp) (floatsAt_new hb hz.eq)
end

section
open Go.RowKit

theorem frombits_run (n : Int) (w : World) : (callFunc 64 #[.int .u64 n]).run Tryd.prog w = .ok (.value (.float .f64 n.toNat)) w := by
  rw [run_callFunc_extern (e := Extern.MathFloatBits.float64frombits) Tryd.func64 (by kernel_rfl) (by kernel_rfl) (by kernel_rfl) (by kernel_rfl)]
  rfl

theorem inf_any (s : Int) (hs : 0 ≤ s) (w : World) : Calls Tryd.prog 50 #[.int .i64 s] w fun e w' => e = .returned (.float .f64 9218868437227405312) ∧ w = w' := by
  have hr := frombits_run 9218868437227405312
  go_enter Tryd.func50, Tryd.ntmps50
  go_wp2
  go_ret
  exact ⟨rfl, rfl⟩
end

section
open Go.RowKit
end

section

end

section
open Go.RowKit

/-- What holds of the box of a building, and its cells. -/
theorem boxS {w wx : World} {f d r p : Int} {e1 e2 e3 : Nat} {A : Option Addr} {n cap : Nat} (h : Below (w.heap.size + 1) (w.alloc (.cells #[.int .i64 f, .int .i64 d, .int .i64 r, .int .i64 p, .float .f64 e1, .float .f64 e2, .float .f64 e3, .slice A n cap] 27)) wx) :
    Below (w.heap.size + 1) (w.alloc (.cells #[.int .i64 f, .int .i64 d, .int .i64 r, .int .i64 p, .float .f64 e1, .float .f64 e2, .float .f64 e3, .slice A n cap] 27)) wx ∧ wx.cell? ⟨w.heap.size, 0, none⟩ = some (.int .i64 f) ∧ wx.cell? ⟨w.heap.size, 1, none⟩ = some (.int .i64 d) ∧ wx.cell? ⟨w.heap.size, 2, none⟩ = some (.int .i64 r) ∧ wx.cell? ⟨w.heap.size, 3, none⟩ = some (.int .i64 p) ∧ wx.cell? ⟨w.heap.size, 4, none⟩ = some (.float .f64 e1) ∧ wx.cell? ⟨w.heap.size, 5, none⟩ = some (.float .f64 e2) ∧ wx.cell? ⟨w.heap.size, 6, none⟩ = some (.float .f64 e3) ∧ wx.cell? ⟨w.heap.size, 7, none⟩ = some (.slice A n cap) :=
  ⟨h, cell_new_below h 0, cell_new_below h 1, cell_new_below h 2, cell_new_below h 3, cell_new_below h 4, cell_new_below h 5, cell_new_below h 6, cell_new_below h 7⟩
end

section

/-- The contacts of a car. -/
structure Ct where
  fl : Nat
  up : Bool
  dn : Bool
  opn : Bool
  cls : Bool

namespace Ct
def zero : Ct := ⟨0, false, false, false, false⟩
def ok (c : Ct) : Prop := c.fl < 4294967296
/-- Whether contact i is closed. -/
def get (c : Ct) (i : Nat) : Bool :=
  if i < 32 then c.fl.testBit i else if i = 32 then c.up else if i = 33 then c.dn else if i = 34 then c.opn else if i = 35 then c.cls else false
/-- The contacts in which contact i is so. -/
def set (c : Ct) (i : Nat) (on : Bool) : Ct :=
  if i < 32 then { c with fl := if on then c.fl ||| 2 ^ i else c.fl &&& (4294967295 - 2 ^ i) } else if i = 32 then { c with up := on } else if i = 33 then { c with dn := on }
  else if i = 34 then { c with opn := on } else if i = 35 then { c with cls := on } else c
theorem bit_lt {i : Nat} (hi : i < 32) : 2 ^ i < 4294967296 := by
  have h : ∀ (i : Fin 32), 2 ^ i.val < 4294967296 := by decide +kernel
  exact h ⟨i, hi⟩
end Ct

/-- The state of debounced contacts. -/
structure Db where
  c : Ct
  n : List Int

/-- How one contact counts behind a reading. -/
def deb (n : Int) (b : Bool) (k : Int) (r : Bool) : Bool × Int := if r = b then (b, 0) else if k + 1 = n then (r, 0) else (b, k + 1)

namespace Db
def zero : Db := ⟨Ct.zero, List.replicate 36 0⟩
structure ok (s : Db) : Prop where
  c : s.c.ok
  n : s.n.length = 36
def isB (n : Int) (s : Db) : Bool := decide (1 ≤ n ∧ n ≤ 16) && s.n.all fun k => decide (0 ≤ k ∧ k < n)
def at_ (s : Db) (i : Nat) : Bool × Int := (s.c.get i, s.n.getD i 0)
def put (s : Db) (i : Nat) (p : Bool × Int) : Db := ⟨s.c.set i p.1, s.n.set i p.2⟩
def debAt (n : Int) (r : Ct) (s : Db) (i : Nat) : Bool × Int := deb n (s.c.get i) (s.n.getD i 0) (r.get i)
def stepTo (n : Int) (r : Ct) (s : Db) : Nat → Db
  | 0 => s
  | k + 1 => (stepTo n r s k).put k (debAt n r s k)
def step (n : Int) (s : Db) (r : Ct) : Db := stepTo n r s 36

theorem getD_all {l : List Int} {p : Int → Bool} : l.all p = true ↔ ∀ i, i < l.length → p (l.getD i 0) = true := by
  rw [List.all_eq_true]
  constructor
  · intro h i hi
    rw [List.getD_eq_getElem?_getD, List.getElem?_eq_getElem hi]
    exact h _ (List.getElem_mem hi)
  · intro h x hx
    obtain ⟨i, hi, rfl⟩ := List.getElem_of_mem hx
    have := h i hi
    rwa [List.getD_eq_getElem?_getD, List.getElem?_eq_getElem hi] at this
theorem isB_iff {n : Int} {s : Db} (h : s.ok) : isB n s = true ↔ (1 ≤ n ∧ n ≤ 16) ∧ ∀ i, i < 36 → 0 ≤ (s.at_ i).2 ∧ (s.at_ i).2 < n := by
  unfold isB
  rw [Bool.and_eq_true, decide_eq_true_iff, getD_all, h.n]
  simp only [decide_eq_true_iff]
  rfl
theorem isB_zero {n : Int} (h1 : 1 ≤ n) (h2 : n ≤ 16) : isB n zero = true := by
  unfold isB
  rw [Bool.and_eq_true, decide_eq_true_iff, List.all_eq_true]
  refine ⟨⟨h1, h2⟩, fun x hx => ?_⟩
  have := (List.mem_replicate.1 hx).2
  subst this
  exact decide_eq_true ⟨Int.le_refl _, by omega⟩
/-- The state behind some readings. -/
def run (n : Int) (s : Db) (l : List Ct) : Db := l.foldl (fun s r => s.step n r) s
/-- A contact by itself, behind some readings. -/
def own (n : Int) (p : Bool × Int) (l : List Bool) : Bool × Int := l.foldl (fun p r => deb n p.1 p.2 r) p
end Db
end

section

/-- An observation. -/
structure Ob where
  f : Int
  d : Int
  g : Int
deriving DecidableEq

namespace Ind
/-- The only bit of a set of 32. -/
def one (x : Nat) : Option Nat := (List.range 32).find? fun k => decide (x = 2 ^ k)
def bit (x : Nat) : Int := match one x with | some k => (k : Int) | none => -1
def okF (n : Int) : Bool := decide (2 ≤ n ∧ n ≤ 32)
def two (a b : Bool) : Int := (if a then 1 else 0) + (if b then 2 else 0)
def isObs (n : Int) (o : Ob) : Bool := okF n && decide (-1 ≤ o.f ∧ o.f < n ∧ 0 ≤ o.d ∧ o.d ≤ 3 ∧ 0 ≤ o.g ∧ o.g ≤ 3)
/-- The calls, up and down, that an observation shows. -/
def shows (n : Int) (o : Ob) : Nat × Nat :=
  if isObs n o = true ∧ o.g = 1 ∧ 0 ≤ o.f then
    (if o.d = 1 ∧ o.f < n - 1 then (2 ^ o.f.toNat, 0) else if o.d = 2 ∧ 0 < o.f then (0, 2 ^ o.f.toNat) else (0, 0))
  else (0, 0)

theorem one_pow {k : Nat} (h : k < 32) : one (2 ^ k) = some k := by
  have := (by decide +kernel : ∀ k : Fin 32, one (2 ^ k.val) = some k.val) ⟨k, h⟩
  exact this
theorem bit_pow {k : Nat} (h : k < 32) : bit (2 ^ k) = (k : Int) := by unfold bit; rw [one_pow h]
theorem pow_lt {k : Nat} (h : k < 32) : 2 ^ k < 4294967296 := Ct.bit_lt h
theorem okF_iff {n : Int} : okF n = true ↔ 2 ≤ n ∧ n ≤ 32 := by unfold okF; exact decide_eq_true_iff
/-- The number of bits, byte by byte. -/
def pop (x : Nat) : Nat := Go.Lib.onesCount (x / 16777216) + Go.Lib.onesCount (x / 65536 % 256) + Go.Lib.onesCount (x / 256 % 256) + Go.Lib.onesCount (x % 256)
end Ind

def Ob.agg (o : Ob) : Value := .agg #[.int .i64 o.f, .int .i64 o.d, .int .i64 o.g]
end
end Go.Proofs.YtnjcegkefjdgdaaDoor
