/- What the texts behind this one rest on: several texts in one. No statement of the seat is proved here. -/
import Derived.Test.YtnjcegkefjdgdaaDoorG0
import Derived.ChangeKeysEq
namespace Go.Proofs.YtnjcegkefjdgdaaDoor
section
open Go.RowKit

/-- A door's state. -/
structure Dr where
  st : Int
  ti : Int
  si : Int
  nu : Bool
  cy : Int
deriving DecidableEq
namespace Dr
def cells (s : Dr) : List Value := [.int .i64 s.st, .int .i64 s.ti, .int .i64 s.si, .bool s.nu, .int .i64 s.cy]
def agg (s : Dr) : Value := .agg #[.int .i64 s.st, .int .i64 s.ti, .int .i64 s.si, .bool s.nu, .int .i64 s.cy]
def zero : Dr := ⟨0, 0, 0, false, 0⟩
def isCount (n : Int) : Bool := decide (0 ≤ n) && decide (n ≤ 1000000)
def same (x y : Dr) : Bool := x.st == y.st && (x.ti == y.ti && (x.si == y.si && (x.nu == y.nu && x.cy == y.cy)))
theorem same_iff (x y : Dr) : same x y = true ↔ x = y := by
  obtain ⟨a, b, c, d, e⟩ := x
  obtain ⟨a', b', c', d', e'⟩ := y
  simp [same]
theorem same_self (x : Dr) : same x x = true := (same_iff x x).2 rfl
def isB (s : Dr) : Bool := if s.st = 0 then same s zero else decide (1 ≤ s.st) && decide (s.st ≤ 3) && isCount s.ti && isCount s.si && isCount s.cy
def more (n : Int) : Int := if n + 1 ≤ 1000000 then n + 1 else 1000000
def next (n : Int) : Int := if n = 0 then 0 else more n
def late (tr : Int) (s : Dr) : Bool := (s.st == 1 || s.st == 3) && decide (tr < s.ti)
/-- The step of a state, and the command. -/
def stepG (dw ho : Int) (s : Dr) (d : Int) (b w : Bool) : Dr × Int :=
  if s.st = 0 then (if w = true then (⟨1, 0, 0, false, 0⟩, 3) else (zero, 0))
  else if s.st = 1 then
    (if d = 1 then (⟨2, 0, (if next s.si ≤ 1 then 1 else next s.si), s.nu, s.cy⟩, 0)
     else if ho < next s.si then (⟨3, 0, next s.si, true, s.cy⟩, 5)
     else (⟨1, more s.ti, next s.si, s.nu, s.cy⟩, 3))
  else if s.st = 2 then
    (if ho < next s.si then (⟨3, 0, next s.si, true, s.cy⟩, 5)
     else if dw ≤ s.ti + 1 ∧ b = false then (⟨3, 0, next s.si, s.nu, s.cy⟩, 4)
     else (⟨2, more s.ti, next s.si, s.nu, s.cy⟩, 0))
  else
    (if d = 2 then (zero, 0)
     else if ho < next s.si then (if s.nu = true then (⟨3, more s.ti, next s.si, true, s.cy⟩, 5) else (⟨3, 0, next s.si, true, s.cy⟩, 5))
     else if b = true then (⟨1, 0, next s.si, s.nu, more s.cy⟩, 3)
     else (⟨3, more s.ti, next s.si, s.nu, s.cy⟩, 4))
def stepF (dw ho : Int) (s : Dr) (d : Int) (b w : Bool) : Dr × Int :=
  if s.isB = true then stepG dw ho s d b w else stepG dw ho zero d b w
def skipF (s : Dr) : Dr := if s.isB = true ∧ s.st ≠ 0 then ⟨s.st, more s.ti, next s.si, s.nu, s.cy⟩ else s

theorem zero_isB : zero.isB = true := by decide
theorem isB_zero {s : Dr} (h : s.isB = true) (h0 : s.st = 0) : s = zero := by
  unfold isB at h
  rw [if_pos h0, same_iff] at h
  exact h
theorem isB_iff {s : Dr} (h0 : s.st ≠ 0) : s.isB = true ↔ (1 ≤ s.st ∧ s.st ≤ 3) ∧ (0 ≤ s.ti ∧ s.ti ≤ 1000000) ∧ (0 ≤ s.si ∧ s.si ≤ 1000000) ∧ (0 ≤ s.cy ∧ s.cy ≤ 1000000) := by
  unfold isB isCount
  rw [if_neg h0]
  simp only [Bool.and_eq_true, decide_eq_true_eq, and_assoc]
theorem more_range {n : Int} (h : 0 ≤ n ∧ n ≤ 1000000) : 0 ≤ more n ∧ more n ≤ 1000000 := by
  unfold more
  split <;> omega
theorem next_range {n : Int} (h : 0 ≤ n ∧ n ≤ 1000000) : 0 ≤ next n ∧ next n ≤ 1000000 := by
  unfold next
  split
  · omega
  · exact more_range h
theorem stepG_isB (dw ho : Int) {s : Dr} (d : Int) (b w : Bool) (h : s.isB = true) : (stepG dw ho s d b w).1.isB = true := by
  by_cases h0 : s.st = 0
  · unfold stepG
    rw [if_pos h0]
    cases w <;> decide
  · obtain ⟨h1, h2, h3, h4⟩ := (isB_iff h0).1 h
    have m2 := more_range h2
    have m3 := next_range h3
    have m4 := more_range h4
    have key : ∀ t : Dr, t.st ≠ 0 → (1 ≤ t.st ∧ t.st ≤ 3) → (0 ≤ t.ti ∧ t.ti ≤ 1000000) → (0 ≤ t.si ∧ t.si ≤ 1000000) → (0 ≤ t.cy ∧ t.cy ≤ 1000000) → t.isB = true := fun t h0 a b c d => (isB_iff h0).2 ⟨a, b, c, d⟩
    unfold stepG
    generalize next s.si = n at *
    generalize more s.ti = m at *
    generalize more s.cy = k at *
    repeat' split
    all_goals first
      | contradiction
      | exact zero_isB
      | (refine key _ ?_ ?_ ?_ ?_ ?_ <;> simp only <;> omega)
theorem stepF_isB (dw ho : Int) (s : Dr) (d : Int) (b w : Bool) : (stepF dw ho s d b w).1.isB = true := by
  unfold stepF
  split
  · exact stepG_isB _ _ _ _ _ ‹_›
  · exact stepG_isB _ _ _ _ _ zero_isB
theorem stepF_of {s : Dr} (h : s.isB = true) (dw ho d : Int) (b w : Bool) : stepF dw ho s d b w = stepG dw ho s d b w := if_pos h
end Dr
end

section
open Go.RowKit

/-- A step between floors: the command, its time, the floor where it began. -/
structure Mo where
  c : Int
  t : Int
  f : Int
deriving DecidableEq
namespace Mo
def cells (s : Mo) : List Value := [.int .i64 s.c, .int .i64 s.t, .int .i64 s.f]
def agg (s : Mo) : Value := .agg #[.int .i64 s.c, .int .i64 s.t, .int .i64 s.f]
def zero : Mo := ⟨0, 0, 0⟩
def same (x y : Mo) : Bool := x.c == y.c && (x.t == y.t && x.f == y.f)
theorem same_iff (x y : Mo) : same x y = true ↔ x = y := by
  obtain ⟨a, b, c⟩ := x
  obtain ⟨a', b', c'⟩ := y
  simp [same]
theorem same_self (x : Mo) : same x x = true := (same_iff x x).2 rfl
def isF (F n : Int) : Bool := decide (0 ≤ n) && decide (n < F)
def tgt (s : Mo) : Int := if s.c = 1 then s.f + 1 else s.f - 1
def isB (F : Int) (s : Mo) : Bool :=
  (decide (2 ≤ F) && decide (F ≤ 32) && (decide (0 ≤ s.t) && decide (s.t ≤ 1000000))) && (if s.c = 0 then s.f == 0 else if s.c = 1 ∨ s.c = 2 then isF F s.f && isF F s.tgt else false)
def later (s : Mo) : Mo := if 0 ≤ s.t ∧ s.t < 1000000 then ⟨s.c, s.t + 1, s.f⟩ else s
def late (st : Int) (s : Mo) : Bool := decide (st < s.t)
/-- The state, the command, and whether the car has arrived. -/
def stepF (F : Int) (s : Mo) (fl : Int) (lv : Bool) (want : Int) : Mo × Int × Bool :=
  if (s.isB F && isF F fl) = false then (zero, 0, false)
  else if s.c ≠ 0 then (if lv = true ∧ fl = s.tgt then (zero, 0, true) else (s.later, s.c, false))
  else if lv = false then (s.later, 0, false)
  else if want ≠ 0 ∧ isB F ⟨want, 0, fl⟩ = true then (⟨want, 0, fl⟩, want, false) else (zero, 0, false)
def skipF (s : Mo) : Mo := if s.c ≠ 0 ∨ s.t ≠ 0 then s.later else s

theorem isB_up {F f t : Int} (hF : 2 ≤ F ∧ F ≤ 32) (ht : 0 ≤ t ∧ t ≤ 1000000) (hf : 0 ≤ f) (h1 : f + 1 < F) : isB F ⟨1, t, f⟩ = true := by
  unfold isB isF tgt
  simp
  omega
theorem isB_dn {F f t : Int} (hF : 2 ≤ F ∧ F ≤ 32) (ht : 0 ≤ t ∧ t ≤ 1000000) (hf : 1 ≤ f) (h1 : f < F) : isB F ⟨2, t, f⟩ = true := by
  unfold isB isF tgt
  simp
  omega
theorem isB_none {F t : Int} (hF : 2 ≤ F ∧ F ≤ 32) (ht : 0 ≤ t ∧ t ≤ 1000000) : isB F ⟨0, t, 0⟩ = true := by
  unfold isB
  simp
  omega
theorem isF_of {F f : Int} (h0 : 0 ≤ f) (h1 : f < F) : isF F f = true := by
  unfold isF
  simp
  omega
/-- A level car without a wish, or at the end of the building, stays. -/
theorem step_none {F t fl : Int} (hF : 2 ≤ F ∧ F ≤ 32) (ht : 0 ≤ t ∧ t ≤ 1000000) (h0 : 0 ≤ fl) (h1 : fl < F) : stepF F ⟨0, t, 0⟩ fl true 0 = (zero, 0, false) := by
  unfold stepF
  rw [isB_none hF ht, isF_of h0 h1]
  simp
/-- A step begins, or there is no floor. -/
theorem step_begin {F fl want : Int} (hF : 2 ≤ F ∧ F ≤ 32) (h0 : 0 ≤ fl) (h1 : fl < F) (hw : want = 1 ∨ want = 2) :
    stepF F zero fl true want = if (want = 1 ∧ fl = F - 1) ∨ (want = 2 ∧ fl = 0) then (zero, 0, false) else (⟨want, 0, fl⟩, want, false) := by
  unfold stepF zero
  rw [isB_none hF (by omega), isF_of h0 h1]
  simp only [Bool.and_self, Bool.true_eq_false, if_false, ne_eq, not_true_eq_false]
  rcases hw with rfl | rfl
  · by_cases h : fl = F - 1
    · rw [if_neg (fun hh => by have := hh.2; unfold isB isF tgt at this; simp at this; omega), if_pos (.inl ⟨rfl, h⟩)]
    · rw [if_pos ⟨by omega, isB_up hF (by omega) h0 (by omega)⟩, if_neg (by omega)]
  · by_cases h : fl = 0
    · rw [if_neg (fun hh => by have := hh.2; unfold isB isF tgt at this; simp at this; omega), if_pos (.inr ⟨rfl, h⟩)]
    · rw [if_pos ⟨by omega, isB_dn hF (by omega) (by omega) h1⟩, if_neg (by omega)]
/-- A step goes on: where the car is level only where the step began. -/
theorem step_ride {F t fl want w2 : Int} (lv : Bool) (hF : 2 ≤ F ∧ F ≤ 32) (ht : 0 ≤ t ∧ t < 1000000) (h0 : 0 ≤ fl) (h1 : fl < F) (hw : (want = 1 ∧ fl + 1 < F) ∨ (want = 2 ∧ 1 ≤ fl)) :
    stepF F ⟨want, t, fl⟩ fl lv w2 = (⟨want, t + 1, fl⟩, want, false) := by
  have hB : isB F ⟨want, t, fl⟩ = true := by
    rcases hw with ⟨rfl, h⟩ | ⟨rfl, h⟩
    · exact isB_up hF (by omega) h0 h
    · exact isB_dn hF (by omega) h h1
  unfold stepF
  rw [hB, isF_of h0 h1]
  simp only [Bool.and_self, Bool.true_eq_false, if_false]
  rw [if_pos (by omega), if_neg (fun h => by have := h.2; unfold tgt at this; simp only at this; split at this <;> omega)]
  unfold later
  rw [if_pos (by simp only; omega)]
theorem skip_on {c t f : Int} (hc : c ≠ 0) (ht : 0 ≤ t ∧ t < 1000000) : skipF ⟨c, t, f⟩ = ⟨c, t + 1, f⟩ := by
  unfold skipF later
  rw [if_pos (.inl hc), if_pos (by simp only; omega)]
end Mo
end

section
open Go.RowKit

theorem fieldsMo : Tryd.prog.underlying 35 = some (.struct (Tryd.prog.fieldsOf 35)) := by kernel_rfl
theorem stoodMo : Tryd.prog.stoodInHeld 35 = false := by kernel_rfl
theorem listMo : (Tryd.prog.fieldsOf 35).toList = [{ name := "Command", type := 3, offset := 0, embedded := false, tag := "", pkgPath := "", byteOffset := 0 }, { name := "Time", type := 3, offset := 1, embedded := false, tag := "", pkgPath := "", byteOffset := 8 }, { name := "Floor", type := 3, offset := 2, embedded := false, tag := "", pkgPath := "", byteOffset := 16 }] := by kernel_rfl
theorem equalMo (n : Nat) (a b c a' b' c' : Int) (w : World) : (Op.equalIn (n + 2) 35 (.agg #[.int .i64 a, .int .i64 b, .int .i64 c]) (.agg #[.int .i64 a', .int .i64 b', .int .i64 c'])).run Tryd.prog w = .ok (Mo.same ⟨a, b, c⟩ ⟨a', b', c'⟩) w := by
  rw [run_equalIn_struct w (n + 1) 35 _ _ fieldsMo stoodMo, listMo]
  have h0 := fun (xs : Array Value) off v => run_part_plain (P := Tryd.prog) w (e := 3) (off := off) (xs := xs) (v := v) (by kernel_rfl)
  have hi := fun k1 k2 => run_equalIn_int w n 3 .i64 .i64 k1 k2 Tryd.underlying3
  have p0 := fun a b c => h0 #[a, b, c] 0 a rfl
  have p1 := fun a b c => h0 #[a, b, c] 1 b rfl
  have p2 := fun a b c => h0 #[a, b, c] 2 c rfl
  simp [Op.eqFields, p0, p1, p2, hi, Mo.same]
  by_cases h1 : a = a' <;> by_cases h2 : b = b' <;> by_cases h3 : c = c' <;> simp [h1, h2, h3]
theorem eqlMo (a b c a' b' c' : Int) (w : World) : (binOp .eql 35 (.agg #[.int .i64 a, .int .i64 b, .int .i64 c]) (.agg #[.int .i64 a', .int .i64 b', .int .i64 c'])).run Tryd.prog w = .ok (.bool (Mo.same ⟨a, b, c⟩ ⟨a', b', c'⟩)) w := by
  rw [run_eql_struct, equalMo 9998]; rfl
theorem neqMo (a b c a' b' c' : Int) (w : World) : (binOp .neq 35 (.agg #[.int .i64 a, .int .i64 b, .int .i64 c]) (.agg #[.int .i64 a', .int .i64 b', .int .i64 c'])).run Tryd.prog w = .ok (.bool (!Mo.same ⟨a, b, c⟩ ⟨a', b', c'⟩)) w := by
  rw [run_neq_struct, equalMo 9998]; rfl
namespace Mo
theorem isB_bad {F a b c : Int} (h : F < 2 ∨ 32 < F ∨ b < 0 ∨ 1000000 < b) : isB F ⟨a, b, c⟩ = false := by
  cases hc : isB F ⟨a, b, c⟩
  · rfl
  · unfold isB at hc
    simp at hc
    omega
theorem isB_c {F a b c : Int} (hF : 2 ≤ F ∧ F ≤ 32) (hb : 0 ≤ b ∧ b ≤ 1000000) : isB F ⟨a, b, c⟩ = if a = 0 then c == 0 else if a = 1 ∨ a = 2 then isF F c && isF F (tgt ⟨a, b, c⟩) else false := by
  unfold isB
  rw [show decide (2 ≤ F) = true from decide_eq_true hF.1, show decide (F ≤ 32) = true from decide_eq_true hF.2, show decide (0 ≤ b) = true from decide_eq_true hb.1, show decide (b ≤ 1000000) = true from decide_eq_true hb.2]
  simp
theorem isB_range {F a b c : Int} (h : isB F ⟨a, b, c⟩ = true) : (2 ≤ F ∧ F ≤ 32) ∧ (0 ≤ b ∧ b ≤ 1000000) ∧ (a = 0 ∧ c = 0 ∨ (a = 1 ∨ a = 2) ∧ isF F c = true ∧ isF F (tgt ⟨a, b, c⟩) = true) := by
  have h1 : (2 ≤ F ∧ F ≤ 32) ∧ (0 ≤ b ∧ b ≤ 1000000) := by
    refine ⟨⟨?_, ?_⟩, ?_, ?_⟩
    all_goals
      refine Decidable.byContradiction fun hn => ?_
      rw [isB_bad (by omega)] at h
      cases h
  refine ⟨h1.1, h1.2, ?_⟩
  rw [isB_c h1.1 h1.2] at h
  by_cases h0 : a = 0
  · rw [if_pos h0] at h
    exact .inl ⟨h0, by simpa using h⟩
  · rw [if_neg h0] at h
    by_cases h2 : a = 1 ∨ a = 2
    · rw [if_pos h2] at h
      exact .inr ⟨h2, by simpa using h⟩
    · rw [if_neg h2] at h
      cases h
theorem isF_iff {F n : Int} : isF F n = true ↔ 0 ≤ n ∧ n < F := by unfold isF; simp
end Mo
end

section
open Go.RowKit

theorem carInfo : (Tryd.prog.info? 51).map (fun i => (i.zero, i.size, i.bytes)) = some (some (.agg #[.int .i64 0, .int .i64 0, .int .i64 0, .int .i64 0, .int .i64 0, .int .i64 0, .int .i64 0, .int .i64 0, .int .i64 0]), 9, 72) := by kernel_rfl

def CarD.cells (c : CarD) : List Value := c.vals.map fun z => .int .i64 z
def flatCars (cs : List CarD) : List Value := cs.flatMap CarD.cells

theorem cells_length (c : CarD) : c.cells.length = 9 := rfl
theorem flatCars_snoc (cs : List CarD) (c : CarD) : flatCars (cs ++ [c]) = flatCars cs ++ c.cells := by
  unfold flatCars; rw [List.flatMap_append]; simp
theorem flatCars_at (cs : List CarD) : ∀ i, i < cs.length → ∀ j, j < 9 → (flatCars cs)[i * 9 + j]? = some (.int .i64 ((cs.getD i default).vals.getD j 0)) := by
  induction cs with
  | nil => intro i hi; exact absurd hi (by simp)
  | cons c cs ih =>
    intro i hi j hj
    unfold flatCars at ih ⊢
    rw [List.flatMap_cons]
    cases i with
    | zero =>
      rw [List.getElem?_append_left (by rw [cells_length]; omega)]
      obtain ⟨c1, c2, c3, c4, c5, c6, c7, c8, c9⟩ := c
      match j, hj with
      | 0, _ => rfl
      | 1, _ => rfl
      | 2, _ => rfl
      | 3, _ => rfl
      | 4, _ => rfl
      | 5, _ => rfl
      | 6, _ => rfl
      | 7, _ => rfl
      | 8, _ => rfl
    | succ i =>
      rw [List.getElem?_append_right (by rw [cells_length]; omega), cells_length]
      have := ih i (by simpa using hi) j hj
      rw [show (i + 1) * 9 + j - 9 = i * 9 + j from by omega, this]
      simp [List.getD]

theorem CarsAt.of_own {w : World} {base : Nat} {e : TypeId} {A : Option Addr} {cap : Nat} {cs : List CarD} (h : w.ownsRow base e 9 (.slice A cs.length cap) cs.length (flatCars cs)) : CarsAt w w.heap.size A cs := by
  rcases Nat.eq_zero_or_pos cs.length with h0 | h0
  · exact .inl (List.eq_nil_of_length_eq_zero h0)
  · obtain ⟨g, cap', hv, _, hlt⟩ := h.form h0
    injection hv with hA
    subst hA
    refine .inr ⟨g, 0, rfl, hlt, fun i hi j hj => ?_⟩
    have := h.cells (g := g) rfl (i * 9 + j) _ (flatCars_at cs i hi j hj)
    have hadd : (⟨g, 0, none⟩ : Addr).add (i * 9 + j) = ⟨g, 0 + i * 9 + j, none⟩ := by unfold Addr.add; split <;> simp_all
    rw [← hadd]
    exact this

/-- An append onto a row of the call's own leaves all below the call's own blocks. -/
theorem own_step {wr w1 : World} {base : Nat} {e : TypeId} {size n : Nat} {v : Value} {xs : List Value} {o : Obj} (hown : wr.ownsRow base e size v n xs) (hB : base ≤ wr.heap.size) (hg : (wr.drew.alloc o).grownBy w1 v.ownBlock) : Below base wr w1 :=
  (((Below.refl base wr).drew).alloc hB o).grown hg (by simp; omega) (fun k hk => (hown.lt k hk).1)

def sampleCar (f : Int) (i : Nat) : CarD := ⟨100, 2, 6, 5, 4, 2, 3, 10, (i : Int) % f⟩
def sampleCars (f : Int) (n : Nat) : List CarD := (List.range n).map (sampleCar f)
def sampleD (f : Int) (n : Nat) : BldD := ⟨f, 1, 4000, 30, 4591870180066957722, 4605380978949069210, 4607632778762754458, sampleCars f n⟩

theorem sampleCars_length (f : Int) (n : Nat) : (sampleCars f n).length = n := by simp [sampleCars]
theorem sampleCars_succ (f : Int) (n : Nat) : sampleCars f (n + 1) = sampleCars f n ++ [sampleCar f n] := by simp [sampleCars, List.range_succ]

/-- What Sample returns: a building whose cars lie in a row that it owns. -/
def SampleOwn (f : Int) (n : Nat) (w : World) (e : Ending) (w' : World) : Prop :=
  ∃ A cap, e = .returned ((sampleD f n).agg A cap) ∧ w'.ownsRow (w.heap.size + 2) 51 9 (.slice A n cap) n (flatCars (sampleCars f n)) ∧ Below w.heap.size w w'

set_option maxHeartbeats 1000000 in
theorem sample_own (f : Int) (n : Nat) (w : World) (hf1 : 2 ≤ f) (hf2 : f ≤ 1000) (hn : n ≤ 1000) :
    Calls Tryd.prog 9 #[.int .i64 f, .int .i64 n] w (SampleOwn f n w) := by
  obtain ⟨i0, hi0, hz0, hz1, hz2⟩ := info_parts carInfo
  go_enter Tryd.func9, Tryd.ntmps9
  go_wp2_with fail
  go_loopw [6] (fun v wr => ∃ (k : Nat) (A : Option Addr) (cap : Nat), k ≤ n ∧ v = .int .i64 k ∧ wr.ownsRow (w.heap.size + 2) 51 9 (.slice A k cap) k (flatCars (sampleCars f k)) ∧ wr.heap[w.heap.size]? = some (.cells #[.int .i64 0, .int .i64 0, .int .i64 0, .int .i64 0, .float .f64 0, .float .f64 0, .float .f64 0, .slice none 0 0] 27 (0, 0)) ∧
      wr.heap[w.heap.size + 1]? = some (.cells #[.int .i64 f, .int .i64 1, .int .i64 4000, .int .i64 30, .float .f64 4591870180066957722, .float .f64 4605380978949069210, .float .f64 4607632778762754458, .slice A k cap] 27 (0, 0)) ∧ Below w.heap.size w wr) (fun v _ => n - (intOf v).toNat)
  case atStart =>
    refine ⟨0, none, 0, Nat.zero_le _, rfl, World.ownsRow_nil _ _ _ _, ?_, ?_, ?_⟩
    · rw [Below.heap_alloc _ _ _ (by simp)]
      exact heap_alloc_new _ _
    · have h := heap_alloc_new (w.alloc (.cells #[.int .i64 0, .int .i64 0, .int .i64 0, .int .i64 0, .float .f64 0, .float .f64 0, .float .f64 0, .slice none 0 0] 27)) (.cells #[.int .i64 f, .int .i64 1, .int .i64 4000, .int .i64 30, .float .f64 4591870180066957722, .float .f64 4605380978949069210, .float .f64 4607632778762754458, .slice none 0 0] 27)
      simpa using h
    · go_grown
  case round =>
    obtain ⟨k, A, cap, hk, rfl, hown, hb4, hb5, hbel⟩ := hrel
    have hcell : wr.cell? ⟨w.heap.size + 1, 7, none⟩ = some (.slice A k cap) := cell_of_row _ _ _ _ _ (0, 0) hb5
    have hfrz : wr.frozen? ⟨w.heap.size + 1, 7, none⟩ = false := by simp [World.frozen?, hb5]
    have hsz : w.heap.size + 1 < wr.heap.size := by
      rcases Nat.lt_or_ge (w.heap.size + 1) wr.heap.size with h | h
      · exact h
      · rw [Array.getElem?_eq_none h] at hb5; cases hb5
    by_cases hlt : k < n
    · have hf0 : ¬ f = 0 := by omega
      have hmod : (k : Int).tmod f = (k : Int) % f := Int.tmod_eq_emod_of_nonneg (by omega)
      have hk0 : (0 : Int) ≤ k := by omega
      have HO := Lib.hid hown
      have H4 := Lib.hid hb4
      have H5 := Lib.hid hb5
      clear hown hb4 hb5
      go_wp2_with fail
      go_region_law (refine step_append_lies _ rfl (.tmp 15) (.tmp 20) 25 rfl (w.heap.size + 2) 51 i0 _ 9 72 Tryd.underlying25 hi0 hz0 hz1 hz2 rfl (by omega) (.slice A k cap) k (flatCars (sampleCars f k)) rfl (HO.out.drew.alloc _) ⟨wr.heap.size, 0, none⟩ 1 1 (sampleCar f k).cells rfl rfl (World.news_of_block (fr := (0, 0)) (heap_alloc_new _ _)) (by intro u hu; simp [CarD.cells, CarD.vals, sampleCar] at hu; rcases hu with rfl | rfl | rfl | rfl | rfl | rfl | rfl | rfl | rfl <;> rfl) (by omega) (by unfold maxLen; omega) (by omega) (by simp; omega) (wr.heap.size + 1) (by simp) ?_; intro g cap' w1 hown1 hgrow hat hlt1; have hbs := own_step HO.out (by omega) hgrow; have hc1 : w1.cell? ⟨w.heap.size + 1, 7, none⟩ = some (.slice A k cap) := (hbs.cell (p := ⟨w.heap.size + 1, 7, none⟩) (Nat.lt_succ_self _)).trans hcell; have hfr1 : w1.frozen? ⟨w.heap.size + 1, 7, none⟩ = false := (hbs.frozen (p := ⟨w.heap.size + 1, 7, none⟩) (Nat.lt_succ_self _)).trans hfrz)
      all_goals
        go_wp2
        go_roundw
        case rel =>
          refine ⟨k + 1, some ⟨g, 0, none⟩, cap', by omega, by go_num, ?_, ?_, ?_, ?_⟩
          · rw [sampleCars_succ, flatCars_snoc]
            exact ownsRow_setCell_below hown1 (Nat.lt_succ_self _) _
          · rw [Below.heap_setCell _ _ _ _ (by show w.heap.size ≠ w.heap.size + 1; omega), hbs.block _ (by omega)]
            exact H4.out
          · have h5 := (hbs.block (w.heap.size + 1) (by omega)).trans H5.out
            simp [World.setCell, Array.getElem?_modify, h5]
          · exact (hbel.trans (hbs.mono (by omega))).setCell (by show w.heap.size ≤ w.heap.size + 1; omega) _
        case measure => simp [intOf]; omega
    · obtain rfl : k = n := by omega
      have HO := Lib.hid hown
      clear hown hcell hfrz
      have p0 : wr.cell? ⟨w.heap.size, 0, none⟩ = some (.int .i64 0) := cell_of_row _ _ _ _ _ (0, 0) hb4
      have q0 : wr.frozen? ⟨w.heap.size, 0, none⟩ = false := by simp [World.frozen?, hb4]
      have r0 : wr.cell? ⟨w.heap.size + 1, 0, none⟩ = some (.int .i64 f) := cell_of_row _ _ _ _ _ (0, 0) hb5
      have p1 : wr.cell? ⟨w.heap.size, 1, none⟩ = some (.int .i64 0) := cell_of_row _ _ _ _ _ (0, 0) hb4
      have q1 : wr.frozen? ⟨w.heap.size, 1, none⟩ = false := by simp [World.frozen?, hb4]
      have r1 : wr.cell? ⟨w.heap.size + 1, 1, none⟩ = some (.int .i64 1) := cell_of_row _ _ _ _ _ (0, 0) hb5
      have p2 : wr.cell? ⟨w.heap.size, 2, none⟩ = some (.int .i64 0) := cell_of_row _ _ _ _ _ (0, 0) hb4
      have q2 : wr.frozen? ⟨w.heap.size, 2, none⟩ = false := by simp [World.frozen?, hb4]
      have r2 : wr.cell? ⟨w.heap.size + 1, 2, none⟩ = some (.int .i64 4000) := cell_of_row _ _ _ _ _ (0, 0) hb5
      have p3 : wr.cell? ⟨w.heap.size, 3, none⟩ = some (.int .i64 0) := cell_of_row _ _ _ _ _ (0, 0) hb4
      have q3 : wr.frozen? ⟨w.heap.size, 3, none⟩ = false := by simp [World.frozen?, hb4]
      have r3 : wr.cell? ⟨w.heap.size + 1, 3, none⟩ = some (.int .i64 30) := cell_of_row _ _ _ _ _ (0, 0) hb5
      have p4 : wr.cell? ⟨w.heap.size, 4, none⟩ = some (.float .f64 0) := cell_of_row _ _ _ _ _ (0, 0) hb4
      have q4 : wr.frozen? ⟨w.heap.size, 4, none⟩ = false := by simp [World.frozen?, hb4]
      have r4 : wr.cell? ⟨w.heap.size + 1, 4, none⟩ = some (.float .f64 4591870180066957722) := cell_of_row _ _ _ _ _ (0, 0) hb5
      have p5 : wr.cell? ⟨w.heap.size, 5, none⟩ = some (.float .f64 0) := cell_of_row _ _ _ _ _ (0, 0) hb4
      have q5 : wr.frozen? ⟨w.heap.size, 5, none⟩ = false := by simp [World.frozen?, hb4]
      have r5 : wr.cell? ⟨w.heap.size + 1, 5, none⟩ = some (.float .f64 4605380978949069210) := cell_of_row _ _ _ _ _ (0, 0) hb5
      have p6 : wr.cell? ⟨w.heap.size, 6, none⟩ = some (.float .f64 0) := cell_of_row _ _ _ _ _ (0, 0) hb4
      have q6 : wr.frozen? ⟨w.heap.size, 6, none⟩ = false := by simp [World.frozen?, hb4]
      have r6 : wr.cell? ⟨w.heap.size + 1, 6, none⟩ = some (.float .f64 4607632778762754458) := cell_of_row _ _ _ _ _ (0, 0) hb5
      have p7 : wr.cell? ⟨w.heap.size, 7, none⟩ = some (.slice none 0 0) := cell_of_row _ _ _ _ _ (0, 0) hb4
      have q7 : wr.frozen? ⟨w.heap.size, 7, none⟩ = false := by simp [World.frozen?, hb4]
      have r7 : wr.cell? ⟨w.heap.size + 1, 7, none⟩ = some (.slice A k cap) := cell_of_row _ _ _ _ _ (0, 0) hb5
      clear hb4 hb5
      go_wp2
      refine bodyPost_ret (v := .agg #[.int .i64 f, .int .i64 1, .int .i64 4000, .int .i64 30, .float .f64 4591870180066957722, .float .f64 4605380978949069210, .float .f64 4607632778762754458, .slice A k cap]) (by simp [results, Tryd.results9, go_sem, p0, p1, p2, p3, p4, p5, p6, p7]) rfl ?_
      refine ⟨A, cap, by rw [BldD.agg]; simp [sampleD, sampleCars_length], ?_, ?_⟩
      · iterate 8 (refine ownsRow_setCell_below ?_ (by show w.heap.size < w.heap.size + 2; omega) _)
        exact HO.out
      · iterate 8 (refine Below.setCell ?_ (by show w.heap.size ≤ w.heap.size; omega) _)
        exact hbel
end

section
open Go.RowKit

theorem inAll_take_succ (lo hi : Int) (zs : List Int) (k : Nat) (h : k < zs.length) : inAll lo hi (zs.take (k + 1)) = (inAll lo hi (zs.take k) && decide (lo ≤ zs.getD k 0 ∧ zs.getD k 0 ≤ hi)) := by
  unfold inAll
  rw [List.take_succ_eq_append_getElem h, List.all_append]
  simp [List.getD, h]

theorem inAll_false (lo hi : Int) (zs : List Int) (k : Nat) (h : k < zs.length) (hb : ¬ (lo ≤ zs.getD k 0 ∧ zs.getD k 0 ≤ hi)) : inAll lo hi zs = false := by
  unfold inAll
  rw [List.all_eq_false]
  refine ⟨zs[k], List.getElem_mem h, ?_⟩
  simpa [List.getD, h] using hb

theorem within_any (b off cap : Nat) (lo hi : Int) (zs : List Int) (w : World) (hn : zs.length ≤ 1000) (hc : IntsAt w b off zs) :
    Calls Tryd.prog 47 #[.int .i64 lo, .int .i64 hi, .slice (some ⟨b, off, none⟩) zs.length cap] w fun e w' => e = .returned (.bool (inAll lo hi zs)) ∧ w = w' := by
  have HC := Lib.hid hc
  clear hc
  go_enter Tryd.func47, Tryd.ntmps47
  go_wp2
  go_loop [11] (fun i => ∃ k : Nat, k ≤ zs.length ∧ i = .int .i64 k ∧ Hid (inAll lo hi (zs.take k) = true)) (fun i => zs.length - (intOf i).toNat)
  case atStart => exact ⟨0, Nat.zero_le _, rfl, rfl⟩
  case round =>
    obtain ⟨k, hk, rfl, hin⟩ := hrel
    by_cases hlt : k < zs.length
    · have hcell : w.cell? ⟨b, off + k, none⟩ = some (.int .i64 (zs.getD k 0)) := HC.out k hlt
      by_cases hgood : lo ≤ zs.getD k 0 ∧ zs.getD k 0 ≤ hi
      · have hs := inAll_take_succ lo hi zs k hlt
        rw [hin.out, Bool.true_and, decide_eq_true hgood] at hs
        have HS := Lib.hid hs
        clear hs hin
        obtain ⟨hg1, hg2⟩ := hgood
        go_wp2
        all_goals first
          | (go_round
             case rel => exact ⟨k + 1, by omega, by go_num, HS.out⟩
             case measure => simp [intOf]; omega)
          | (exfalso; first | (simp_all; done) | (simp_all; omega))
      · have hs := inAll_false lo hi zs k hlt hgood
        have HS := Lib.hid hs
        clear hs
        have hg : zs.getD k 0 < lo ∨ hi < zs.getD k 0 := by omega
        rcases hg with hg | hg
        all_goals
          go_wp2
          all_goals first
            | (go_ret; exact ⟨ret_bool HS.out.symm, rfl⟩)
            | (exfalso; first | (simp_all; done) | (simp_all; omega))
    · go_wp2
      go_ret
      have he : zs.take k = zs := List.take_of_length_le (by omega)
      have hi' := hin.out
      rw [he] at hi'
      exact ⟨ret_bool hi'.symm, rfl⟩
end

section
open Go.RowKit

theorem within_n (b off n cap : Nat) (lo hi : Int) (zs : List Int) (w : World) (hz : zs.length = n) (hn : n ≤ 1000) (hc : IntsAt w b off zs) :
    Calls Tryd.prog 47 #[.int .i64 lo, .int .i64 hi, .slice (some ⟨b, off, none⟩) n cap] w fun e w' => e = .returned (.bool (inAll lo hi zs)) ∧ w = w' := by
  subst hz
  exact within_any b off cap lo hi zs w hn hc

theorem within_new (w : World) (cs : Array Value) (t : TypeId) (b n cap : Nat) (lo hi : Int) (zs : List Int) (hb : b = w.heap.size) (hn : cs.size = n) (hle : n ≤ 1000) (hz : IsInts cs.toList zs) :
    Calls Tryd.prog 47 #[.int .i64 lo, .int .i64 hi, .slice (some ⟨b, 0, none⟩) n cap] (w.alloc (.cells cs t)) fun e w' => e = .returned (.bool (inAll lo hi zs)) ∧ w.alloc (.cells cs t) = w' :=
  within_n b 0 n cap lo hi zs _ (by have := congrArg List.length hz.eq; rw [List.length_map, Array.length_toList] at this; omega) hle (intsAt_new hb hz.eq)

def carFitsB (floors : Int) (c : CarD) : Bool :=
  inAll 1 10000 [c.deadline, c.pulse, c.quiet, c.step, c.travel, c.dwell, c.hold] && (inAll 0 10000 [c.slack] && (decide (c.dwell ≤ c.hold) && inAll 0 (floors - 1) [c.home]))

theorem carFits_any (floors : Int) (c : CarD) (w : World) (h1 : 0 ≤ floors) (h2 : floors ≤ 100) :
    Calls Tryd.prog 63 #[.int .i64 floors, c.agg] w fun e w' => e = .returned (.bool (carFitsB floors c)) ∧ Below w.heap.size w w' := by
  obtain ⟨c1, c2, c3, c4, c5, c6, c7, c8, c9⟩ := c
  have hfin : carFitsB floors ⟨c1, c2, c3, c4, c5, c6, c7, c8, c9⟩ = (inAll 1 10000 [c1, c2, c3, c5, c6, c7, c8] && (inAll 0 10000 [c4] && (decide (c7 ≤ c8) && inAll 0 (floors - 1) [c9]))) := rfl
  rw [hfin]
  clear hfin
  unfold CarD.agg
  go_enter Tryd.func63, Tryd.ntmps63
  go_wp2_with (go_at_call 47; refine (within_new _ _ _ _ _ _ _ _ _ (by simp) (by rfl) (by omega) (by repeat constructor)).mono ?_; rintro e w' ⟨rfl, rfl⟩)
  all_goals
    go_ret
    refine ⟨ret_bool ?_, by go_grown⟩
    first | (simp [*]; done) | (simp [*]; omega)
end
end Go.Proofs.YtnjcegkefjdgdaaDoor
