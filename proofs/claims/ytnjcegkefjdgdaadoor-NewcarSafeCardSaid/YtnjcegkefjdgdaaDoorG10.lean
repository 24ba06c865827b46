/- What the texts behind this one rest on: several texts in one. No statement of the seat is proved here. -/
import Derived.Test.YtnjcegkefjdgdaaDoorG8
import Derived.Test.YtnjcegkefjdgdaaDoorCsLeaf
import Derived.Lib.BitFns
import Derived.Test.YtnjcegkefjdgdaaDoorG0
import Derived.ChangeKeysEq
namespace Go.Proofs.YtnjcegkefjdgdaaDoor
section
open Go.RowKit

/-- What counts for a car at its floor. -/
structure Pl where
  o : Nat
  sp : Stp
  car : Bool
  up : Bool
  dn : Bool
  ab : Nat
  be : Nat
def Pl.agg (p : Pl) : Value := .agg #[.int .i64 (p.o : Int), .int .u32 p.sp.car, .int .u32 p.sp.h.up, .int .u32 p.sp.h.dn, .bool p.car, .bool p.up, .bool p.dn, .int .u32 p.ab, .int .u32 p.be]
def Pl.zero : Pl := ⟨0, Stp.zero, false, false, false, 0, 0⟩
def Pl.ok (p : Pl) : Prop := p.ab < 4294967296 ∧ p.be < 4294967296
/-- The first bit, and how many bits the number has. -/
def tzN (x : Nat) : Nat := Go.Lib.ctz 32 x
def lzN (x : Nat) : Nat := 32 - Go.Lib.bitLen x
def nearP (ab be : Nat) : Nat := if ab ≠ 0 ∧ tzN ab ≤ lzN be then 1 else if be ≠ 0 then 2 else 0
def Pl.sc (p : Pl) : Cv.Sc := ⟨p.up, p.dn, p.car, !decide (p.ab = 0), !decide (p.be = 0), nearP p.ab p.be⟩

theorem cvWithin_any (a b c : Int) (w : World) :
    Calls Tryd.prog 51 #[.int .i64 a, .int .i64 b, .int .i64 c] w fun e w' => e = .returned (.bool (decide (a ≤ c) && decide (c ≤ b))) ∧ w = w' := by
  by_cases h1 : a ≤ c
  · have d1 : decide (a ≤ c) = true := decide_eq_true h1
    rw [d1]
    go_enter Tryd.func51, Tryd.ntmps51
    go_wp2
    go_ret
    exact ⟨by simp, rfl⟩
  · have d1 : decide (a ≤ c) = false := decide_eq_false h1
    rw [d1]
    go_enter Tryd.func51, Tryd.ntmps51
    go_wp2
    go_ret
    exact ⟨by simp, rfl⟩
def isSw (d o : Int) : Bool := (decide (0 ≤ d) && decide (d ≤ 2)) && (decide (0 ≤ o) && decide (o ≤ 7))
theorem isSweep_any (d o : Int) (w : World) :
    Calls Tryd.prog 28 #[.agg #[.int .i64 d, .int .i64 o]] w fun e w' => e = .returned (.bool (isSw d o)) ∧ Below w.heap.size w w' := by
  unfold isSw
  have FW := Lib.hid (fun a b c wx => cvWithin_any a b c wx)
  cases h1 : (decide (0 ≤ d) && decide (d ≤ 2))
  all_goals
    have F1 := Lib.hid (fun wx => FW.out 0 2 d wx)
    rw [h1] at F1
    have F2 := Lib.hid (fun wx => FW.out 0 7 o wx)
    go_enter Tryd.func28, Tryd.ntmps28
    go_wp2_with (go_at_call 51; first | (with_reducible refine (F1.out _).mono ?_; rintro e w1 ⟨rfl, rfl⟩) | (with_reducible refine (F2.out _).mono ?_; rintro e w1 ⟨rfl, rfl⟩))
    go_ret
    exact ⟨by simp, by go_grown⟩
theorem openC_any (k : Nat) (w : World) :
    Calls Tryd.prog 89 #[.int .i64 (k : Int)] w fun e w' => e = .returned (Cv.openC k).agg ∧ Below w.heap.size w w' := by
  go_enter Tryd.func89, Tryd.ntmps89
  go_wp2
  exact bodyPost_ret (results_cell_row Tryd.results89 _ _ _ _ _ (0, 0) _ rfl (last1 _ _) Tryd.underlying107 rfl (by kernel_rfl)) rfl (⟨rfl, by go_grown⟩)
theorem moveC_any (k : Nat) (hk : k < 3) (w : World) (hT : Tabs w) :
    Calls Tryd.prog 91 #[.int .i64 (k : Int)] w fun e w' => e = .returned (Cv.moveC k).agg ∧ Below w.heap.size w w' := by
  have HT := Lib.hid (fun w1 (hb : Below w.heap.size w w1) => (hT.below hb).steps k hk)
  have hc := HT.out (w.alloc (.cells #[.int .i64 0, .int .i64 0, .int .i64 0] 107)) (by go_grown)
  go_enter Tryd.func91, Tryd.ntmps91
  go_wp2
  exact bodyPost_ret (results_cell_row Tryd.results91 _ _ _ _ _ (0, 0) _ rfl (last1 _ _) Tryd.underlying107 rfl (by kernel_rfl)) rfl (⟨rfl, by go_grown⟩)
theorem plRow {wx : World} {g o s1 s2 s3 ab be : Nat} {car up dn : Bool} (h : wx.heap[g]? = some (.cells #[.int .i64 (o : Int), .int .u32 s1, .int .u32 s2, .int .u32 s3, .bool car, .bool up, .bool dn, .int .u32 ab, .int .u32 be] 120 (0, 0))) :
    wx.cell? ⟨g, 0, none⟩ = some (.int .i64 (o : Int)) ∧ wx.cell? ⟨g, 1, none⟩ = some (.int .u32 s1) ∧ wx.cell? ⟨g, 2, none⟩ = some (.int .u32 s2) ∧ wx.cell? ⟨g, 3, none⟩ = some (.int .u32 s3) ∧ wx.cell? ⟨g, 4, none⟩ = some (.bool car) ∧ wx.cell? ⟨g, 5, none⟩ = some (.bool up) ∧ wx.cell? ⟨g, 6, none⟩ = some (.bool dn) ∧ wx.cell? ⟨g, 7, none⟩ = some (.int .u32 ab) ∧ wx.cell? ⟨g, 8, none⟩ = some (.int .u32 be) :=
  ⟨cell_of_row wx _ _ _ _ (0, 0) h, cell_of_row wx _ _ _ _ (0, 0) h, cell_of_row wx _ _ _ _ (0, 0) h, cell_of_row wx _ _ _ _ (0, 0) h, cell_of_row wx _ _ _ _ (0, 0) h, cell_of_row wx _ _ _ _ (0, 0) h, cell_of_row wx _ _ _ _ (0, 0) h, cell_of_row wx _ _ _ _ (0, 0) h, cell_of_row wx _ _ _ _ (0, 0) h⟩
theorem stRow {wx : World} {g s1 s2 s3 : Nat} (h : wx.heap[g]? = some (.cells #[.int .u32 s1, .int .u32 s2, .int .u32 s3] 105 (0, 0))) :
    wx.cell? ⟨g, 0, none⟩ = some (.int .u32 s1) ∧ wx.cell? ⟨g, 1, none⟩ = some (.int .u32 s2) ∧ wx.cell? ⟨g, 2, none⟩ = some (.int .u32 s3) :=
  ⟨cell_of_row wx _ _ _ _ (0, 0) h, cell_of_row wx _ _ _ _ (0, 0) h, cell_of_row wx _ _ _ _ (0, 0) h⟩
theorem csRow {wx : World} {g s2 s3 : Nat} (h : wx.heap[g]? = some (.cells #[.int .u32 s2, .int .u32 s3] 42 (0, 0))) :
    wx.cell? ⟨g, 0, none⟩ = some (.int .u32 s2) ∧ wx.cell? ⟨g, 1, none⟩ = some (.int .u32 s3) :=
  ⟨cell_of_row wx _ _ _ _ (0, 0) h, cell_of_row wx _ _ _ _ (0, 0) h⟩
theorem below_box {w w' : World} {o : Obj} (h : Below (w.alloc o).heap.size (w.alloc o) w') : Below w.heap.size w w' :=
  ((Below.refl w.heap.size w).alloc (Nat.le_refl _) o).trans (h.mono (by simp))
theorem int_ne0 (x : Nat) : ((x : Int) != 0) = !decide (x = 0) := by
  by_cases h : x = 0
  · subst h; rfl
  · rw [decide_eq_false h]
    simp [h]
end

section
open Go.RowKit

theorem tzN_bits {x : Nat} (h0 : x ≠ 0) (hx : x < 4294967296) : x.testBit (tzN x) = true ∧ ∀ j, j < tzN x → x.testBit j = false := by
  obtain ⟨m, hm, hk⟩ := Go.Lib.ctzFrom_spec 32 x (by omega) hx
  have e : tzN x = Go.Lib.ctzFrom 32 x := by unfold tzN Go.Lib.ctz; rw [if_neg h0]
  rw [e]
  generalize Go.Lib.ctzFrom 32 x = k at *
  constructor
  · rw [hm, Nat.testBit_two_pow_mul]
    simp
  · intro j hj
    rw [hm, Nat.testBit_two_pow_mul]
    have : ¬ k ≤ j := by omega
    simp [this]
theorem bitLenAux_top : ∀ (f x : Nat), x ≠ 0 → x < 2 ^ f → 0 < Go.Lib.bitLenAux f x ∧ 2 ^ (Go.Lib.bitLenAux f x - 1) ≤ x ∧ x < 2 ^ Go.Lib.bitLenAux f x
  | 0, x, h0, h => by simp at h; omega
  | f + 1, x, h0, h => by
    unfold Go.Lib.bitLenAux
    rw [if_neg h0]
    by_cases h1 : x / 2 = 0
    · have hz : Go.Lib.bitLenAux f (x / 2) = 0 := by
        cases f with
        | zero => rfl
        | succ f => unfold Go.Lib.bitLenAux; rw [if_pos h1]
      rw [hz]
      simp
      omega
    · obtain ⟨a, b, c⟩ := bitLenAux_top f (x / 2) h1 (by rw [Nat.pow_succ] at h; omega)
      generalize Go.Lib.bitLenAux f (x / 2) = k at *
      obtain ⟨j, rfl⟩ : ∃ j, k = j + 1 := ⟨k - 1, by omega⟩
      simp only [Nat.add_sub_cancel] at b
      rw [show 1 + (j + 1) = j + 1 + 1 by omega]
      simp only [Nat.add_sub_cancel]
      rw [Nat.pow_succ 2 (j + 1)]
      rw [Nat.pow_succ] at c ⊢
      omega
theorem bitLen_top {x : Nat} (h0 : x ≠ 0) (hx : x < 4294967296) : 0 < Go.Lib.bitLen x ∧ Go.Lib.bitLen x ≤ 32 ∧ x.testBit (Go.Lib.bitLen x - 1) = true ∧ ∀ j, Go.Lib.bitLen x ≤ j → x.testBit j = false := by
  obtain ⟨a, b, c⟩ := bitLenAux_top 64 x h0 (by have : (2 : Nat) ^ 64 = 18446744073709551616 := rfl; omega)
  have hl := Go.Lib.bitLen_le x 32 (by decide) hx
  unfold Go.Lib.bitLen at *
  generalize Go.Lib.bitLenAux 64 x = k at *
  refine ⟨a, hl, ?_, fun j hj => ?_⟩
  · obtain ⟨j, rfl⟩ : ∃ j, k = j + 1 := ⟨k - 1, by omega⟩
    exact Nat.testBit_of_two_pow_le_and_two_pow_add_one_gt b c
  · exact Nat.testBit_lt_two_pow (Nat.lt_of_lt_of_le c (Nat.pow_le_pow_right (by decide) hj))
theorem find_first {n k : Nat} {p : Nat → Bool} (hk : k < n) (hp : p k = true) (h : ∀ j, j < k → p j = false) : (List.range n).find? p = some k := by
  rw [List.find?_range_eq_some]
  exact ⟨hp, List.mem_range.2 hk, fun j hj => by rw [h j hj]; rfl⟩
theorem find_no {n : Nat} {p : Nat → Bool} (h : ∀ j, j < n → p j = false) : (List.range n).find? p = none := by
  rw [List.find?_eq_none]
  intro j hj
  rw [h j (List.mem_range.1 hj)]
  decide
/-- The stops above and below as numbers. -/
def abN (a f : Nat) : Nat := a >>> f >>> 1
def beN (a f : Nat) : Nat := a <<< (32 - f) % 4294967296
theorem abN_bit (a f j : Nat) : (abN a f).testBit j = a.testBit (f + 1 + j) := by
  unfold abN
  rw [Nat.testBit_shiftRight, Nat.testBit_shiftRight]
  congr 1
  omega
theorem beN_bit (a f j : Nat) : (beN a f).testBit j = (decide (j < 32) && (decide (32 - f ≤ j) && a.testBit (j - (32 - f)))) := by
  unfold beN
  rw [show (4294967296 : Nat) = 2 ^ 32 from rfl, Nat.testBit_mod_two_pow, Nat.testBit_shiftLeft]
theorem upF_abN {a f : Nat} (ha : a < 4294967296) (hf : f < 32) : Cv.upF a f = if abN a f = 0 then none else some (tzN (abN a f)) := by
  unfold Cv.upF
  have hlt : abN a f < 4294967296 := by
    unfold abN
    rw [Nat.shiftRight_eq_div_pow, Nat.shiftRight_eq_div_pow]
    exact Nat.lt_of_le_of_lt (Nat.le_trans (Nat.div_le_self _ _) (Nat.div_le_self _ _)) ha
  split
  · rename_i h
    refine find_no fun j hj => ?_
    rw [← abN_bit, h]
    exact Nat.zero_testBit j
  · rename_i h
    obtain ⟨h1, h2⟩ := tzN_bits h hlt
    refine find_first ?_ ?_ ?_
    · rw [abN_bit] at h1
      apply Classical.byContradiction
      intro hn
      have : a.testBit (f + 1 + tzN (abN a f)) = false := Nat.testBit_lt_two_pow (Nat.lt_of_lt_of_le ha (show 2 ^ 32 ≤ _ from Nat.pow_le_pow_right (by decide) (by omega)))
      rw [this] at h1
      cases h1
    · rw [← abN_bit]; exact h1
    · intro j hj
      rw [← abN_bit]; exact h2 j hj
theorem dnF_beN {a f : Nat} (hf : f < 32) : Cv.dnF a f = if beN a f = 0 then none else some (lzN (beN a f)) := by
  unfold Cv.dnF
  have hlt : beN a f < 4294967296 := Nat.mod_lt _ (by decide)
  have key : ∀ i, i < f → (beN a f).testBit (31 - i) = a.testBit (f - 1 - i) := fun i hi => by
    rw [beN_bit, decide_eq_true (show 31 - i < 32 by omega), decide_eq_true (show 32 - f ≤ 31 - i by omega)]
    simp only [Bool.true_and]
    congr 1
    omega
  split
  · rename_i h
    refine find_no fun j hj => ?_
    rw [← key j hj, h]
    exact Nat.zero_testBit _
  · rename_i h
    obtain ⟨h1, h2, h3, h4⟩ := bitLen_top h hlt
    have hlz : lzN (beN a f) < f := by
      have := h3
      rw [beN_bit] at this
      simp only [Bool.and_eq_true, decide_eq_true_eq] at this
      unfold lzN
      omega
    have e : Go.Lib.bitLen (beN a f) - 1 = 31 - lzN (beN a f) := by unfold lzN; omega
    refine find_first hlz ?_ ?_
    · rw [← key _ hlz, ← e]; exact h3
    · intro j hj
      rw [← key j (by omega)]
      refine h4 _ ?_
      unfold lzN at hj
      omega
theorem near_N {a f : Nat} (ha : a < 4294967296) (hf : f < 32) : Cv.near a f = nearP (abN a f) (beN a f) := by
  unfold Cv.near nearP
  rw [upF_abN ha hf, dnF_beN hf]
  by_cases h1 : abN a f = 0
  · by_cases h2 : beN a f = 0
    · simp [h1, h2]
    · simp [h1, h2]
  · by_cases h2 : beN a f = 0
    · have hz : lzN 0 = 32 := rfl
      have hlt : abN a f < 4294967296 := by
        unfold abN
        rw [Nat.shiftRight_eq_div_pow, Nat.shiftRight_eq_div_pow]
        exact Nat.lt_of_le_of_lt (Nat.le_trans (Nat.div_le_self _ _) (Nat.div_le_self _ _)) ha
      have ht : tzN (abN a f) < 32 := (Go.Lib.lowest_bit 32 _ h1 hlt).2
      have : tzN (abN a f) ≤ 32 := by omega
      simp [h1, h2, hz, this]
    · simp [h1, h2]
/-- The place as the program computes it. -/
def placeF (F o f : Nat) (s : Stp) : Pl :=
  let x := Cv.live F o f s
  ⟨Cv.cd o f (Cv.cnt F s), Cv.spent F o f s, x.car.testBit f, x.h.up.testBit f, x.h.dn.testBit f, abN x.bits f, beN x.bits f⟩
theorem live_ok {F o f : Nat} {s : Stp} (hs : s.ok) : (Cv.live F o f s).ok := Cv.minus_ok (Cv.cnt_ok hs)
theorem bits_lt {s : Stp} (hs : s.ok) : s.bits < 4294967296 := Cs.or_lt (Cs.or_lt hs.1 hs.2.1) hs.2.2
theorem placeF_sc {F o f : Nat} {s : Stp} (hs : s.ok) (hf : f < 32) : (placeF F o f s).sc = Cv.look F o f s := by
  have hb := bits_lt (live_ok (F := F) (o := o) (f := f) hs)
  unfold placeF Pl.sc Cv.look
  simp only
  rw [near_N hb hf, upF_abN hb hf, dnF_beN hf]
  congr 1
  · by_cases h : abN (Cv.live F o f s).bits f = 0 <;> simp [h]
  · by_cases h : beN (Cv.live F o f s).bits f = 0 <;> simp [h]
theorem placeF_ok {F o f : Nat} {s : Stp} (hs : s.ok) : (placeF F o f s).ok := by
  refine ⟨?_, Nat.mod_lt _ (by decide)⟩
  show abN _ f < _
  unfold abN
  rw [Nat.shiftRight_eq_div_pow, Nat.shiftRight_eq_div_pow]
  exact Nat.lt_of_le_of_lt (Nat.le_trans (Nat.div_le_self _ _) (Nat.div_le_self _ _)) (bits_lt (live_ok hs))
end

section
open Go.RowKit

theorem fieldsCs : Tryd.prog.underlying 42 = some (.struct (Tryd.prog.fieldsOf 42)) := by kernel_rfl
theorem stoodCs : Tryd.prog.stoodInHeld 42 = false := by kernel_rfl
theorem listCs : (Tryd.prog.fieldsOf 42).toList = [{ name := "Up", type := 36, offset := 0, embedded := false, tag := "", pkgPath := "", byteOffset := 0 }, { name := "Down", type := 36, offset := 1, embedded := false, tag := "", pkgPath := "", byteOffset := 4 }] := by kernel_rfl
theorem equalCs (d : Nat) (x1 x2 y1 y2 : Int) (w : World) : (Op.equalIn (d + 2) 42 (.agg #[.int .u32 x1, .int .u32 x2]) (.agg #[.int .u32 y1, .int .u32 y2])).run Tryd.prog w = .ok (x1 == y1 && x2 == y2) w := by
  rw [run_equalIn_struct w (d + 1) 42 _ _ fieldsCs stoodCs, listCs]
  have h0 := fun (xs : Array Value) off v => run_part_plain (P := Tryd.prog) w (e := 36) (off := off) (xs := xs) (v := v) (by kernel_rfl)
  have hi := fun k1 k2 => run_equalIn_int w d 36 .u32 .u32 k1 k2 Tryd.underlying36
  have p0 := fun a b => h0 #[a, b] 0 a rfl
  have p1 := fun a b => h0 #[a, b] 1 b rfl
  simp [Op.eqFields, p0, p1, hi]
  by_cases hx : x1 = y1 <;> by_cases hy : x2 = y2 <;> simp [hx, hy]
theorem eqlCs (x1 x2 y1 y2 : Int) (w : World) : (binOp .eql 42 (.agg #[.int .u32 x1, .int .u32 x2]) (.agg #[.int .u32 y1, .int .u32 y2])).run Tryd.prog w = .ok (.bool (x1 == y1 && x2 == y2)) w := by
  rw [run_eql_struct, equalCs 9998]; rfl
theorem neqCs (x1 x2 y1 y2 : Int) (w : World) : (binOp .neq 42 (.agg #[.int .u32 x1, .int .u32 x2]) (.agg #[.int .u32 y1, .int .u32 y2])).run Tryd.prog w = .ok (.bool (!(x1 == y1 && x2 == y2))) w := by
  rw [run_neq_struct, equalCs 9998]; rfl
end
end Go.Proofs.YtnjcegkefjdgdaaDoor
