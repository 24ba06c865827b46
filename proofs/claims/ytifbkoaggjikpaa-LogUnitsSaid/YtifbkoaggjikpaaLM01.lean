/- What the texts behind this one rest on: several texts in one. No statement of the seat is proved here. -/
import Derived.Test.YtifbkoaggjikpaaRows
import Derived.WalkKit
import Derived.ProofKit
import Derived.OpenShut
import Derived.Lib.Hide
import Derived.Handy
import Derived.BigQuiet
import Derived.Deep.QuietTactic
import Derived.StillTail
import Derived.Test.YtifbkoaggjikpaaLM00
import Derived.Lib.BitFns
namespace Go.Proofs.Ytifbkoaggjikpaa
section
namespace Crc

/-- One shift of a register of b bits. -/
def sh (b d r : Nat) : Nat := (2 * r % 2 ^ b) ^^^ (if 2 ^ (b - 1) ≤ r then d else 0)

/-- j shifts. -/
def shN (b d : Nat) : Nat → Nat → Nat
  | 0, r => r
  | j + 1, r => shN b d j (sh b d r)

theorem shN_succ (b d j r : Nat) : shN b d (j + 1) r = sh b d (shN b d j r) := by
  induction j generalizing r with
  | zero => rfl
  | succ j ih => exact ih (sh b d r)
theorem sh_lt {n d x : Nat} (hd : d < 2 ^ (n + 1)) : sh (n + 1) d x < 2 ^ (n + 1) := by
  unfold sh
  refine Nat.xor_lt_two_pow (Nat.mod_lt _ (Nat.two_pow_pos _)) ?_
  split
  · exact hd
  · exact Nat.two_pow_pos _
theorem shN_lt {n d : Nat} (hd : d < 2 ^ (n + 1)) (j : Nat) {x : Nat} (hx : x < 2 ^ (n + 1)) : shN (n + 1) d j x < 2 ^ (n + 1) := by
  induction j generalizing x with
  | zero => exact hx
  | succ j ih => exact ih (sh_lt hd)
/-- A register of m + 8 bits takes in a byte at its top, and shifts eight times. -/
def step (m d r x : Nat) : Nat := shN (m + 7 + 1) d 8 (r ^^^ (x * 2 ^ m))
def reg (m d : Nat) (r : Nat) (l : List UInt8) : Nat := l.foldl (fun r x => step m d r x.toNat) r

theorem reg_append (m d r : Nat) (l k : List UInt8) : reg m d r (l ++ k) = reg m d (reg m d r l) k := List.foldl_append
theorem two_mul_pow (m : Nat) : 256 * 2 ^ m = 2 ^ (m + 7 + 1) := by rw [show m + 7 + 1 = m + 8 from rfl, Nat.pow_add]; omega
theorem mul_top (m : Nat) {x : Nat} (hx : x < 256) : x * 2 ^ m < 2 ^ (m + 7 + 1) := by
  rw [← two_mul_pow]; exact Nat.mul_lt_mul_of_pos_right hx (Nat.two_pow_pos m)
section
variable {m d : Nat} (hd2 : d < 2 ^ (m + 7 + 1))
include hd2
theorem step_lt {r : Nat} (hr : r < 2 ^ (m + 7 + 1)) {x : Nat} (hx : x < 256) : step m d r x < 2 ^ (m + 7 + 1) :=
  shN_lt hd2 8 (Nat.xor_lt_two_pow hr (mul_top m hx))
theorem reg_lt {r : Nat} (hr : r < 2 ^ (m + 7 + 1)) (l : List UInt8) : reg m d r l < 2 ^ (m + 7 + 1) := by
  induction l generalizing r with
  | nil => exact hr
  | cons x l ih => exact ih (step_lt hd2 hr x.toNat_lt)
omit hd2 in
omit hd2 in
end

end Crc
end

section
open Go.RowKit

theorem ret_u8 {a b : Int} (h : a = b) : Ending.returned (.int .u8 a) = .returned (.int .u8 b) := by rw [h]

theorem sh8_hi {r : Nat} (h : 128 ≤ r) : Crc.sh 8 7 r = (2 * r % 256) ^^^ 7 := by
  unfold Crc.sh; rw [if_pos (by omega)]
theorem sh8_lo {r : Nat} (h : r < 128) : Crc.sh 8 7 r = 2 * r % 256 := by
  unfold Crc.sh; rw [if_neg (by omega)]; simp

set_option maxHeartbeats 400000 in
theorem shift8_any (r : Nat) (w : World) (hr : r < 256) :
    Calls Try.prog 111 #[.int .u8 r] w fun e w' => e = .returned (.int .u8 (Crc.sh 8 7 r : Nat)) ∧ w = w' := by
  by_cases h : 128 ≤ r
  · have hd : (((r : Int) / 128) == 1) = true := beq_iff_eq.2 (by omega)
    go_enter Try.func111, Try.ntmps111
    go_wp2
    go_ret
    refine ⟨ret_u8 ?_, rfl⟩
    rw [sh8_hi h, show (r : Int) * 2 % 256 = ((2 * r % 256 : Nat) : Int) from by omega]
    exact u8_xor_nat _ 7 (by omega) (by omega)
  · have hd : (((r : Int) / 128) == 1) = false := beq_eq_false_iff_ne.2 (by omega)
    go_enter Try.func111, Try.ntmps111
    go_wp2
    go_ret
    refine ⟨ret_u8 ?_, rfl⟩
    rw [sh8_lo (by omega)]
    omega
end

section
open Go.RowKit

/-- The bytes of a string. -/
abbrev bl (s : ByteArray) : List UInt8 := s.data.toList
theorem take_bl (s : ByteArray) (k : Nat) (h : k < s.size) : (bl s).take (k + 1) = (bl s).take k ++ [s[k]] := by
  rw [List.take_succ_eq_append_getElem (by simpa using h)]; rfl
def sum8 (l : List UInt8) : Nat := Crc.reg 0 7 0 l
theorem sum8_lt (l : List UInt8) : sum8 l < 256 := Crc.reg_lt (m := 0) (d := 7) (by decide) (by decide) l
theorem sum8_snoc (s : ByteArray) (k : Nat) (h : k < s.size) : sum8 ((bl s).take (k + 1)) = Crc.shN 8 7 8 (sum8 ((bl s).take k) ^^^ s[k].toNat) := by
  rw [take_bl s k h]; unfold sum8; rw [Crc.reg_append]
  show Crc.step 0 7 _ _ = _
  unfold Crc.step
  rw [Nat.pow_zero, Nat.mul_one]
theorem shN8_lt (j : Nat) {x : Nat} (hx : x < 256) : Crc.shN 8 7 j x < 256 := Crc.shN_lt (n := 7) (d := 7) (by decide) j hx

theorem byte_in8 (r : Nat) (hr : r < 256) (c : UInt8) : bits .xor .u8 (r : Int) (c.toNat : Int) = ((r ^^^ c.toNat : Nat) : Int) := u8_xor_nat _ _ hr c.toNat_lt
theorem byte_in8_lt (r : Nat) (hr : r < 256) (c : UInt8) : r ^^^ c.toNat < 256 := Nat.xor_lt_two_pow (n := 8) hr c.toNat_lt

set_option maxHeartbeats 400000 in
theorem sum8_any (s : ByteArray) (w : World) (hs : s.size ≤ maxLen) :
    Calls Try.prog 100 #[.string s] w fun e w' => e = .returned (.int .u8 (sum8 (bl s) : Nat)) ∧ w = w' := by
  unfold maxLen at hs
  go_enter Try.func100, Try.ntmps100
  go_wp2
  go_loop [3, 7] (fun r i => ∃ k : Nat, k ≤ s.size ∧ i = .int .i64 k ∧ r = .int .u8 (sum8 ((bl s).take k) : Nat)) (fun _ i => s.size - (intOf i).toNat)
  case atStart => exact ⟨0, Nat.zero_le _, rfl, rfl⟩
  case round =>
    obtain ⟨k, hk, rfl, rfl⟩ := hrel
    have hb := sum8_lt ((bl s).take k)
    by_cases hlt : k < s.size
    · have HS : Hid (sum8 ((bl s).take (k + 1)) = Crc.shN 8 7 8 (sum8 ((bl s).take k) ^^^ s[k].toNat)) := sum8_snoc s k hlt
      go_wp2
      rw [byte_in8 _ hb]
      have hx := byte_in8_lt _ hb s[k]
      generalize sum8 ((bl s).take k) ^^^ s[k].toNat = x at *
      go_loop [3, 15] (fun r i => ∃ j : Nat, j ≤ 8 ∧ i = .int .i64 j ∧ r = .int .u8 (Crc.shN 8 7 j x : Nat)) (fun _ i => 8 - (intOf i).toNat)
      case atStart => exact ⟨0, Nat.zero_le _, rfl, rfl⟩
      case round =>
        obtain ⟨j, hj, rfl, rfl⟩ := hrel
        have hy := shN8_lt j hx
        by_cases hj8 : j < 8
        · have HJ : Hid (Crc.shN 8 7 (j + 1) x = Crc.sh 8 7 (Crc.shN 8 7 j x)) := Crc.shN_succ _ _ _ _
          go_wp2_with (go_at_call 111; refine (shift8_any _ _ hy).mono ?_; rintro e w' ⟨rfl, rfl⟩)
          go_round
          case rel => exact ⟨j + 1, by omega, by go_num, by rw [HJ.out]⟩
          case measure => simp [intOf]; omega
        · obtain rfl : j = 8 := by omega
          go_wp2
          go_round
          case rel => exact ⟨k + 1, by omega, by go_num, by rw [HS.out]⟩
          case measure => simp [intOf]; omega
    · go_wp2
      go_ret
      exact ⟨ret_u8 (by rw [List.take_of_length_le (by simp; omega)]), rfl⟩
end

section
open Go.RowKit

end

section
namespace Bag
open Go

section
variable {P : Program} {ops : Array Oper} {I : World → Prop}

def NoEnd : Exit → Act → World → Prop := fun _ _ _ => False

/-- One operation from act a to act a1, in every world that meets I. -/
def Step (P : Program) (ops : Array Oper) (I : World → Prop) (o : Oper) (a a1 : Act) : Prop :=
  (Region.wanted o (yielded ops a.tmps) = false ∧ a1 = a.put o.dst undef) ∨
  (Region.wanted o (yielded ops a.tmps) = true ∧ a1.defers = a.defers ∧ ∀ wx, I wx → o.wp P a wx (fun a' w' => a' = a1 ∧ I w') NoEnd)

def walk (P : Program) (ops : Array Oper) (I : World → Prop) (Q : Act → Prop) : List Oper → Act → Prop
  | [], a => Q a
  | o :: rest, a => ∃ a1, Step P ops I o a a1 ∧ walk P ops I Q rest a1

def ok (ops : Array Oper) : Bool :=
  Region.noSelect ops && (List.range ops.size).all fun i => match ops[i]? with
    | none => true
    | some oi => (oi.after.all fun e => !(Region.binds .any e) || decide (e.on < i)) && (List.range ops.size).all fun j => match ops[j]? with
      | none => true
      | some oj => match oj.dst with
        | none => true
        | some d => (i == j || oi.dst != some d) && (!(oi.looksAt ops).contains d || (i != j && (if j < i then Region.waitsFor .any ops i j else Region.waitsFor .any ops j i)))

structure Ok (ops : Array Oper) : Prop where
  sel : ∀ (j : Nat) (o : Oper) cs b, ops[j]? = some o → o.op ≠ .select cs b
  back : ∀ (i : Nat) (oi : Oper), ops[i]? = some oi → ∀ e ∈ oi.after, Region.binds .any e = true → e.on < i
  one : ∀ (i : Nat) (oi : Oper) (j : Nat) (oj : Oper) (d : Tmp), ops[i]? = some oi → ops[j]? = some oj → oi.dst = some d → oj.dst = some d → i = j
  reads : ∀ (i : Nat) (oi : Oper) (j : Nat) (oj : Oper) (d : Tmp), ops[i]? = some oi → ops[j]? = some oj → oj.dst = some d → d ∈ oi.looksAt ops → (j < i ∧ Region.waitsFor .any ops i j = true) ∨ (i < j ∧ Region.waitsFor .any ops j i = true)

theorem ok_spec (h : ok ops = true) : Ok ops := by
  unfold ok at h
  rw [Bool.and_eq_true, List.all_eq_true] at h
  obtain ⟨hs, h⟩ := h
  have H : ∀ i oi, ops[i]? = some oi → (∀ e ∈ oi.after, Region.binds .any e = true → e.on < i) ∧ ∀ j oj d, ops[j]? = some oj → oj.dst = some d →
      (i = j ∨ oi.dst ≠ some d) ∧ (d ∈ oi.looksAt ops → i ≠ j ∧ (if j < i then Region.waitsFor .any ops i j else Region.waitsFor .any ops j i) = true) := by
    intro i oi hi
    have hlt := (Array.getElem?_eq_some_iff.1 hi).1
    have h1 := h i (List.mem_range.2 hlt)
    simp only [hi, Bool.and_eq_true, List.all_eq_true] at h1
    refine ⟨fun e he hb => ?_, fun j oj d hj hd => ?_⟩
    · have := Array.all_eq_true_iff_forall_mem.1 h1.1 e he
      simpa [hb] using this
    · have h2 := h1.2 j (List.mem_range.2 (Array.getElem?_eq_some_iff.1 hj).1)
      simp only [hj, hd, Bool.and_eq_true, Bool.or_eq_true, beq_iff_eq, bne_iff_ne, ne_eq, Bool.not_eq_true', List.contains_eq_mem, decide_eq_false_iff_not] at h2
      exact ⟨h2.1, fun hm => h2.2.resolve_left (fun hn => hn hm)⟩
  refine ⟨fun j o cs b hj => Region.noSelect_spec hs j o cs b hj, fun i oi hi => (H i oi hi).1, fun i oi j oj d hi hj hdi hdj => ?_, fun i oi j oj d hi hj hdj hm => ?_⟩
  · rcases ((H i oi hi).2 j oj d hj hdj).1 with h | h
    · exact h
    · exact absurd hdi h
  · obtain ⟨hne, hif⟩ := ((H i oi hi).2 j oj d hj hdj).2 hm
    split at hif
    · rename_i hlt; exact .inl ⟨hlt, hif⟩
    · rename_i hge; exact .inr ⟨by omega, hif⟩

theorem put_get (a : Act) (d s : Tmp) (v : Value) : (a.put (some d) v).tmps[s]? = if d = s then (if s < a.tmps.size then some v else none) else a.tmps[s]? := by
  simp only [Act.put, Array.getElem?_setIfInBounds]
  split
  · rename_i h; subst h; rfl
  · rfl
theorem put_size (a : Act) (d : Option Tmp) (v : Value) : (a.put d v).tmps.size = a.tmps.size := by cases d <;> simp [Act.put]
theorem put_defers' (a : Act) (d : Option Tmp) (v : Value) : (a.put d v).defers = a.defers := by cases d <;> rfl

/-- A step puts one value. -/
theorem Step.put {o : Oper} {a a1 : Act} {w0 : World} (h : Step P ops I o a a1) (h0 : I w0) : ∃ v, a1 = a.put o.dst v := by
  rcases h with ⟨_, h⟩ | ⟨_, hd, h⟩
  · exact ⟨_, h⟩
  · have hw := h w0 h0
    unfold Oper.wp at hw
    cases hr : (execOp a.eval o).run P w0 with
    | ok n w' =>
      rw [hr] at hw
      cases n with
      | value v => exact ⟨v, hw.1.symm⟩
      | skip => exact ⟨undef, hw.1.symm⟩
      | defer d =>
        have := hw.1
        rw [← this] at hd
        rw [put_defers'] at hd
        exact absurd (congrArg List.length hd) (by simp)
      | enter f args =>
        obtain ⟨e, w'', fr, r, _⟩ := (hw : Calls P f args w' _) []
        cases e with
        | returned v => exact ⟨v, r.1.symm⟩
        | panicked c => exact r.elim
        | outgrown => obtain ⟨_, _, h⟩ := r; exact h.elim
      | row row args =>
        obtain ⟨v, w'', r, _⟩ := (hw : Rows P row args w' _) default []
        exact ⟨v, r.1.symm⟩
      | _ => exact hw.elim
    | halt x w' =>
      rw [hr] at hw
      cases x <;> exact hw.elim

/-- The acts of a walk, one behind the other. -/
theorem walk_acts {Q : Act → Prop} : ∀ (l : List Oper) (a : Act), walk P ops I Q l a → ∃ acts : Nat → Act, acts 0 = a ∧ (∀ i o, l[i]? = some o → Step P ops I o (acts i) (acts (i + 1))) ∧ Q (acts l.length)
  | [], a, h => ⟨fun _ => a, rfl, fun i o hi => by simp at hi, h⟩
  | o :: rest, a, ⟨a1, hs, h⟩ => by
    obtain ⟨acts, h0, hst, hQ⟩ := walk_acts rest a1 h
    refine ⟨fun n => match n with | 0 => a | n + 1 => acts n, rfl, fun i oi hi => ?_, hQ⟩
    cases i with
    | zero =>
      simp only [List.getElem?_cons_zero, Option.some.injEq] at hi
      subst hi
      show Step P ops I o a (acts 0)
      rw [h0]; exact hs
    | succ i => exact hst i oi (by simpa using hi)

structure Seq (P : Program) (ops : Array Oper) (I : World → Prop) (acts : Nat → Act) : Prop where
  step : ∀ i o, ops[i]? = some o → Step P ops I o (acts i) (acts (i + 1))
  put : ∀ i o, ops[i]? = some o → ∃ v, acts (i + 1) = (acts i).put o.dst v

variable {acts : Nat → Act}

theorem Seq.size (h : Seq P ops I acts) : ∀ k, k ≤ ops.size → (acts k).tmps.size = (acts 0).tmps.size ∧ (acts k).defers = (acts 0).defers
  | 0, _ => ⟨rfl, rfl⟩
  | k + 1, hk => by
    obtain ⟨v, hv⟩ := h.put k _ (Array.getElem?_eq_getElem (by omega : k < ops.size))
    have ih := h.size k (by omega)
    rw [hv, put_size, put_defers']
    exact ih

/-- A slot that none of the operations from k to m writes holds what it held. -/
theorem Seq.keeps (h : Seq P ops I acts) {s : Tmp} (k : Nat) : ∀ m, k ≤ m → m ≤ ops.size → (∀ j oj, k ≤ j → j < m → ops[j]? = some oj → oj.dst ≠ some s) → (acts m).tmps[s]? = (acts k).tmps[s]?
  | 0, hm, _, _ => by have : k = 0 := by omega
                      subst this; rfl
  | m + 1, hm, hs, hw => by
    rcases Nat.lt_or_ge m k with hlt | hge
    · have : k = m + 1 := by omega
      subst this; rfl
    · have hmm : m < ops.size := by omega
      have hom := Array.getElem?_eq_getElem hmm
      obtain ⟨v, hv⟩ := h.put m _ hom
      have ih := h.keeps k m hge (by omega) (fun j oj h1 h2 h3 => hw j oj h1 (by omega) h3)
      rw [hv, ← ih]
      have hne := hw m _ hge (by omega) hom
      cases hd : ops[m].dst with
      | none => rfl
      | some d =>
        rw [put_get, if_neg (fun e => hne (by rw [hd, e]))]

structure Inv (ops : Array Oper) (acts : Nat → Act) (listed : Array Bool) (a : Act) : Prop where
  size : listed.size = ops.size
  closed : ∀ j oj, ops[j]? = some oj → listed.getD j false = true → ∀ e ∈ oj.after, Region.binds .any e = true → listed.getD e.on false = true
  tsize : a.tmps.size = (acts 0).tmps.size
  defers : a.defers = (acts 0).defers
  done : ∀ j oj s, ops[j]? = some oj → oj.dst = some s → listed.getD j false = true → a.tmps[s]? = (acts (j + 1)).tmps[s]?
  rest : ∀ s, (∀ j oj, ops[j]? = some oj → listed.getD j false = true → oj.dst ≠ some s) → a.tmps[s]? = (acts 0).tmps[s]?

theorem waits_spec {i j : Nat} {oi : Oper} (hi : ops[i]? = some oi) (h : Region.waitsFor .any ops i j = true) : ∃ e ∈ oi.after, Region.binds .any e = true ∧ e.on = j := by
  obtain ⟨o', ho', e, he, hb, hon⟩ := Region.waitsFor_spec h
  rw [hi] at ho'
  obtain rfl := Option.some.inj ho'
  exact ⟨e, he, hb, hon⟩

/-- What an operation that is ready looks at is as it was in the text's order. -/
theorem agree (hok : Ok ops) (hseq : Seq P ops I acts) {listed : Array Bool} {a : Act} (inv : Inv ops acts listed a) {i : Nat} {oi : Oper} (hi : ops[i]? = some oi) (hun : listed.getD i false = false)
    (hrd : ∀ e ∈ oi.after, Region.binds .any e = true → listed.getD e.on false = true) {s : Tmp} (hs : s ∈ oi.looksAt ops) : a.tmps[s]? = (acts i).tmps[s]? := by
  have hil := (Array.getElem?_eq_some_iff.1 hi).1
  by_cases hw : ∃ (j : Nat) (oj : Oper), ops[j]? = some oj ∧ oj.dst = some s
  · obtain ⟨j, oj, hj, hd⟩ := hw
    have hjl := (Array.getElem?_eq_some_iff.1 hj).1
    rcases hok.reads i oi j oj s hi hj hd hs with ⟨hlt, hwt⟩ | ⟨hlt, hwt⟩
    · obtain ⟨e, he, hb, hon⟩ := waits_spec hi hwt
      have hl := hrd e he hb
      rw [hon] at hl
      rw [inv.done j oj s hj hd hl]
      exact (hseq.keeps (j + 1) i (by omega) (by omega) (fun k ok h1 h2 hk hdk => by have := hok.one k ok j oj s hk hj hdk hd; omega)).symm
    · have hjun : listed.getD j false = false := by
        cases hc : listed.getD j false with
        | false => rfl
        | true =>
          obtain ⟨e, he, hb, hon⟩ := waits_spec hj hwt
          have := inv.closed j oj hj hc e he hb
          rw [hon, hun] at this
          cases this
      rw [inv.rest s (fun k ok hk hl hdk => by
        have := hok.one k ok j oj s hk hj hdk hd
        subst this
        rw [hjun] at hl
        cases hl)]
      exact (hseq.keeps 0 i (by omega) (by omega) (fun k ok h1 h2 hk hdk => by have := hok.one k ok j oj s hk hj hdk hd; omega)).symm
  · have hno : ∀ (j : Nat) (oj : Oper), ops[j]? = some oj → oj.dst ≠ some s := fun j oj hj hd => hw ⟨j, oj, hj, hd⟩
    rw [inv.rest s (fun j oj hj _ => hno j oj hj)]
    exact (hseq.keeps 0 i (by omega) (by omega) (fun k ok _ _ hk => hno k ok hk)).symm

theorem inv_next (hok : Ok ops) (hseq : Seq P ops I acts) {listed : Array Bool} {a : Act} (inv : Inv ops acts listed a) {i : Nat} {oi : Oper} (hi : ops[i]? = some oi)
    (hrd : ∀ e ∈ oi.after, Region.binds .any e = true → listed.getD e.on false = true) {v : Value} (hv : acts (i + 1) = (acts i).put oi.dst v) : Inv ops acts (listed.setIfInBounds i true) (a.put oi.dst v) := by
  have hil := (Array.getElem?_eq_some_iff.1 hi).1
  have hset : (listed.setIfInBounds i true).getD i false = true := by simp [inv.size, hil]
  have hsz := hseq.size i (by omega)
  refine ⟨by simp [inv.size], fun j oj hj hl e he hb => ?_, by rw [put_size]; exact inv.tsize, by rw [put_defers']; exact inv.defers, fun j oj s hj hd hl => ?_, fun s hs => ?_⟩
  · by_cases hij : i = j
    · subst hij
      rw [hi] at hj
      obtain rfl := Option.some.inj hj
      exact getD_set_true (hrd e he hb)
    · rw [getD_set_ne false hij] at hl
      exact getD_set_true (inv.closed j oj hj hl e he hb)
  · by_cases hij : i = j
    · subst hij
      rw [hi] at hj
      obtain rfl := Option.some.inj hj
      rw [hv, hd, put_get, put_get, if_pos rfl, if_pos rfl, hsz.1, inv.tsize]
    · rw [getD_set_ne false hij] at hl
      rw [← inv.done j oj s hj hd hl]
      cases hdi : oi.dst with
      | none => rfl
      | some d =>
        rw [put_get, if_neg]
        intro e
        subst e
        exact hij (hok.one i oi j oj d hi hj hdi hd)
  · have hne : oi.dst ≠ some s := hs i oi hi hset
    have h2 : a.tmps[s]? = (acts 0).tmps[s]? := inv.rest s (fun j oj hj hl => hs j oj hj (getD_set_true hl))
    rw [← h2]
    cases hdi : oi.dst with
    | none => rfl
    | some d => rw [put_get, if_neg (fun e => hne (by rw [hdi, e]))]

theorem eval_of_agree {oi : Oper} {a b : Act} (hs : ∀ cs x, oi.op ≠ .select cs x) (h : ∀ s, s ∈ oi.looksAt ops → a.tmps[s]? = b.tmps[s]?) :
    execOp a.eval oi = execOp b.eval oi ∧ Region.wanted oi (yielded ops a.tmps) = Region.wanted oi (yielded ops b.tmps) := by
  refine ⟨execOp_congr oi hs fun x hx => ?_, ?_⟩
  · cases x with
    | tmp t =>
      have := h t (List.mem_append_left _ (List.mem_filterMap.2 ⟨.tmp t, by simpa using hx, rfl⟩))
      simp only [Act.eval, Array.getD_eq_getD_getElem?, this]
    | _ => rfl
  · unfold Region.wanted
    cases hg : oi.guard with
    | none => rfl
    | some g =>
      obtain ⟨j, want⟩ := g
      have hy : yielded ops a.tmps j = yielded ops b.tmps j := by
        unfold yielded
        cases hd : (ops[j]?).bind (·.dst) with
        | none => rfl
        | some d =>
          have := h d (List.mem_append_right _ (by rw [hg]; simp [hd]))
          simp only [Option.bind_some, this]
      simp only [hy]

/-- One operation, whichever comes up. -/
theorem wpOp_of (hok : Ok ops) (hseq : Seq P ops I acts) {listed : Array Bool} {a : Act} {w : World} (inv : Inv ops acts listed a) (hI : I w) {Q : Exit → Act → World → Prop} {i : Nat} (hr : i ∈ Region.ready .any ops listed)
    {K : Act → World → Prop} (hK : ∀ a' w', Inv ops acts (listed.setIfInBounds i true) a' → I w' → K a' w') : wpOp P ops Q i K a w := by
  obtain ⟨hun, oi, hi, hrd⟩ := mem_ready.1 hr
  have hun' := getD_both hun
  obtain ⟨he, hwd⟩ := eval_of_agree (hok.sel i oi · · hi) (fun s hs => agree hok hseq inv hi hun' hrd hs)
  unfold Go.wpOp
  simp only [hi]
  have next : ∀ v w', (acts i).put oi.dst v = acts (i + 1) → I w' → K (a.put oi.dst v) w' := fun v w' hv hI' => hK _ _ (inv_next hok hseq inv hi hrd hv.symm) hI'
  rw [hwd]
  rcases hseq.step i oi hi with ⟨hnw, hput⟩ | ⟨hw, hdf, hst⟩
  · rw [if_neg (by rw [hnw]; simp)]
    exact next _ _ hput.symm hI
  · rw [if_pos hw]
    refine .inl ?_
    have h := hst w hI
    unfold Oper.wp at h ⊢
    rw [he]
    generalize (execOp (acts i).eval oi).run P w = r at h
    cases r with
    | ok n w' =>
      cases n with
      | value v => exact next v w' h.1 h.2
      | skip => exact next undef w' h.1 h.2
      | defer d =>
        exfalso
        have := h.1
        rw [← this, put_defers'] at hdf
        exact absurd (congrArg List.length hdf) (by simp)
      | enter f args =>
        refine Calls.mono h fun e w'' r => ?_
        cases e with
        | returned v => exact next v w'' r.1 r.2
        | panicked c => exact r.elim
        | outgrown => obtain ⟨_, _, h⟩ := r; exact h.elim
      | row row args => exact Rows.mono h fun v w'' r => next v w'' r.1 r.2
      | _ => exact h.elim
    | halt x w' => cases x <;> exact h.elim

theorem all_listed (hok : Ok ops) {listed : Array Bool} (hr : Region.ready .any ops listed = []) (hsz : listed.size = ops.size) : ∀ n i, i < n → i < ops.size → listed.getD i false = true
  | 0, i, h, _ => absurd h (by omega)
  | n + 1, i, h, hi => by
    rcases Nat.lt_or_ge i n with hlt | hge
    · exact all_listed hok hr hsz n i hlt hi
    · cases hc : listed.getD i false with
      | true => rfl
      | false =>
        exfalso
        have hoi := Array.getElem?_eq_getElem hi
        have hmem : i ∈ Region.ready .any ops listed := mem_ready.2 ⟨getD_in (by omega) hc, _, hoi, fun e he hb => by
          have := hok.back i _ hoi e he hb
          exact all_listed hok hr hsz n e.on (by omega) (by omega)⟩
        rw [hr] at hmem
        cases hmem

theorem final (hok : Ok ops) (hseq : Seq P ops I acts) {listed : Array Bool} {a : Act} (inv : Inv ops acts listed a) (hr : Region.ready .any ops listed = []) : a = acts ops.size := by
  have hall := fun i hi => all_listed hok hr inv.size ops.size i hi hi
  have ht : a.tmps = (acts ops.size).tmps := by
    apply Array.ext_getElem?
    intro s
    by_cases hw : ∃ (j : Nat) (oj : Oper), ops[j]? = some oj ∧ oj.dst = some s
    · obtain ⟨j, oj, hj, hd⟩ := hw
      have hjl := (Array.getElem?_eq_some_iff.1 hj).1
      rw [inv.done j oj s hj hd (hall j hjl)]
      exact (hseq.keeps (j + 1) ops.size (by omega) (Nat.le_refl _) (fun k ok h1 h2 hk hdk => by have := hok.one k ok j oj s hk hj hdk hd; omega)).symm
    · have hno : ∀ (j : Nat) (oj : Oper), ops[j]? = some oj → oj.dst ≠ some s := fun j oj hj hd => hw ⟨j, oj, hj, hd⟩
      rw [inv.rest s (fun j oj hj _ => hno j oj hj)]
      exact (hseq.keeps 0 ops.size (by omega) (Nat.le_refl _) (fun k ok _ _ hk => hno k ok hk)).symm
  have hd : a.defers = (acts ops.size).defers := by rw [inv.defers, (hseq.size ops.size (Nat.le_refl _)).2]
  cases a
  cases h : acts ops.size
  rw [h] at ht hd
  simp only at ht hd
  subst ht hd
  rfl

theorem range_split (n i : Nat) (h : i < n) : List.range n = List.range i ++ i :: (List.range' (i + 1) (n - (i + 1))) := by
  obtain ⟨m, rfl⟩ : ∃ m, n = i + (m + 1) := ⟨n - (i + 1), by omega⟩
  rw [show i + (m + 1) - (i + 1) = m from by omega, List.range_eq_range', List.range_eq_range', ← List.range'_append_1, List.range'_succ]
  simp

theorem wpAny_of (hok : Ok ops) (hseq : Seq P ops I acts) {Q : Exit → Act → World → Prop} (hQ : ∀ w, I w → Q .normal (acts ops.size) w) :
    ∀ (fuel : Nat) (listed : Array Bool) (a : Act) (w : World), Inv ops acts listed a → I w → (ops.size ≤ fuel + ((List.range ops.size).filter fun i => listed.getD i false).length) → wpAny P .any ops Q fuel listed a w
  | 0, listed, a, w, inv, hI, hf => by
    have hall : Region.ready .any ops listed = [] := by
      rw [List.eq_nil_iff_forall_not_mem]
      intro i hi
      obtain ⟨hun, oi, ho, _⟩ := mem_ready.1 hi
      have hil := (Array.getElem?_eq_some_iff.1 ho).1
      have hlen : ((List.range ops.size).filter fun i => listed.getD i false).length = (List.range ops.size).length := by
        have := List.length_filter_le (fun i => listed.getD i false) (List.range ops.size)
        rw [List.length_range] at this ⊢
        omega
      have := List.length_filter_eq_length_iff.1 hlen i (List.mem_range.2 hil)
      rw [getD_both hun] at this
      cases this
    exact ⟨hall, by rw [final hok hseq inv hall]; exact hQ w hI⟩
  | fuel + 1, listed, a, w, inv, hI, hf => by
    refine ⟨fun hr => by rw [final hok hseq inv hr]; exact hQ w hI, fun i hi => wpOp_of hok hseq inv hI hi fun a' w' inv' hI' => wpAny_of hok hseq hQ fuel _ a' w' inv' hI' ?_⟩
    obtain ⟨hun, oi, ho, _⟩ := mem_ready.1 hi
    have hil := (Array.getElem?_eq_some_iff.1 ho).1
    have hlt : ((List.range ops.size).filter fun i => listed.getD i false).length < ((List.range ops.size).filter fun j => (listed.setIfInBounds i true).getD j false).length := by
      rw [← List.countP_eq_length_filter, ← List.countP_eq_length_filter]
      have hsplit := range_split ops.size i hil
      rw [hsplit, List.countP_append, List.countP_append, List.countP_cons, List.countP_cons]
      have h1 : List.countP (fun i => listed.getD i false) (List.range i) ≤ List.countP (fun j => (listed.setIfInBounds i true).getD j false) (List.range i) := List.countP_mono_left fun j _ h => getD_set_true h
      have h2 : List.countP (fun i => listed.getD i false) (List.range' (i + 1) (ops.size - (i + 1))) ≤ List.countP (fun j => (listed.setIfInBounds i true).getD j false) (List.range' (i + 1) (ops.size - (i + 1))) := List.countP_mono_left fun j _ h => getD_set_true h
      have h3 : (listed.setIfInBounds i true).getD i false = true := by simp [inv.size, hil]
      rw [h3, getD_both hun]
      simp
      simp at h1 h2
      omega
    omega

/-- THE LAW: the region is walked once, in the order of its text. -/
theorem region {id : Nat} {l : List Oper} {a : Act} {w : World} {Q : Exit → Act → World → Prop} (I : World → Prop) (hm : P.follows .mixedOrders = true) (hok : ok l.toArray = true)
    (hI : I { w with drawn := w.drawn + 1 }) (h : walk P l.toArray I (fun a' => ∀ w', I w' → Q .normal a' w') l a) : (Code.region id l.toArray true).wp P Q a w := by
  obtain ⟨acts, h0, hst, hQ⟩ := walk_acts l a h
  have hseq : Seq P l.toArray I acts := ⟨fun i o hi => hst i o (by simpa using hi), fun i o hi => (hst i o (by simpa using hi)).put hI⟩
  have hsz : l.toArray.size = l.length := by simp
  refine wp_region_any hm (wpAny_of (ok_spec hok) hseq (by rw [hsz]; exact hQ) _ _ a _ ⟨by simp, fun j oj _ hl => (by rw [getD_replicate_false] at hl; cases hl), by rw [h0], by rw [h0], fun j oj s _ _ hl => (by rw [getD_replicate_false] at hl; cases hl), fun s _ => by rw [h0]⟩ hI (by omega))

theorem walk_nil {Q : Act → Prop} {a : Act} (h : Q a) : walk P ops I Q [] a := h
theorem walk_no {Q : Act → Prop} {a : Act} {o : Oper} {rest : List Oper} (hw : Region.wanted o (yielded ops a.tmps) = false) (h : walk P ops I Q rest (a.put o.dst undef)) : walk P ops I Q (o :: rest) a :=
  ⟨_, .inl ⟨hw, rfl⟩, h⟩
theorem walk_yes {Q : Act → Prop} {a a1 : Act} {o : Oper} {rest : List Oper} (hw : Region.wanted o (yielded ops a.tmps) = true)
    (hs : ∀ wx, I wx → ∀ K : Act → World → Prop, (∀ w', I w' → K a1 w') → o.wp P a wx K NoEnd) (hd : a1.defers = a.defers) (h : walk P ops I Q rest a1) : walk P ops I Q (o :: rest) a :=
  ⟨a1, .inr ⟨hw, hd, fun wx hI => hs wx hI _ (fun _ h' => ⟨rfl, h'⟩)⟩, h⟩
end
end Bag
end

section
open Go.RowKit

/-- The two bytes of a sum. -/
def two (n : Nat) : List UInt8 := [UInt8.ofNat (n / 256), UInt8.ofNat (n % 256)]
theorem app_bl (s : ByteArray) (l : List UInt8) : s ++ (⟨l.toArray⟩ : ByteArray) = ⟨(bl s ++ l).toArray⟩ := by
  obtain ⟨⟨d⟩⟩ := s
  rw [ByteArray.mk_append_mk]
theorem bl_take (s : ByteArray) (c : Nat) : bl (s.extract 0 c) = (bl s).take c := by
  show (s.extract 0 c).data.toList = s.data.toList.take c
  rw [ByteArray.data_extract, Array.toList_extract, List.extract_eq_take_drop]
  rfl
theorem bl_len (s : ByteArray) : (bl s).length = s.size := Array.length_toList
end

section
open Go.RowKit

theorem ba_ext {a b : ByteArray} (h : a.data.toList = b.data.toList) : a = b := by
  obtain ⟨⟨x⟩⟩ := a
  obtain ⟨⟨y⟩⟩ := b
  simp only at h
  rw [h]
theorem ba_app (a b : ByteArray) : (a ++ b).data.toList = a.data.toList ++ b.data.toList := by
  rw [ByteArray.data_append, Array.toList_append]
theorem ba_cut (a : ByteArray) (i j : Nat) : (a.extract i j).data.toList = (a.data.toList.drop i).take (j - i) := by
  rw [ByteArray.data_extract, Array.toList_extract, List.extract_eq_take_drop]
theorem ba_len (a : ByteArray) : a.data.toList.length = a.size := Array.length_toList
theorem ba_size (a b : ByteArray) : (a ++ b).size = a.size + b.size := by
  rw [← ba_len, ba_app, List.length_append, ba_len, ba_len]
theorem ba_csize (a : ByteArray) (i j : Nat) : (a.extract i j).size = min (j - i) (a.size - i) := by
  rw [← ba_len, ba_cut, List.length_take, List.length_drop, ba_len]
/-- A store: its halves and the number of the one that counts. -/
structure St where
  a : ByteArray
  b : ByteArray
  sel : Int
namespace St
def zero : St := ⟨⟨#[]⟩, ⟨#[]⟩, 0⟩
def agg (s : St) : Value := .agg #[.string s.a, .string s.b, .int .i64 s.sel]
def row (s : St) : Array Value := #[.string s.a, .string s.b, .int .i64 s.sel]
/-- A half: 1 is the second, all else the first. -/
def get (s : St) (h : Int) : ByteArray := if h = 1 then s.b else s.a
def put (s : St) (h : Int) (x : ByteArray) : St := if h = 1 then ⟨s.a, x, s.sel⟩ else ⟨x, s.b, s.sel⟩
def cur (s : St) : ByteArray := if s.sel = 1 then s.b else s.a
def isB (room : Int) (s : St) : Bool := decide (1 ≤ room ∧ room ≤ 65536 ∧ (s.a.size : Int) ≤ room ∧ (s.b.size : Int) ≤ room ∧ (s.sel = 0 ∨ s.sel = 1))
/-- The first of the common errors. -/
def chk (room : Int) (s : St) (h bud : Int) : Int := if isB room s = false then 1 else if ¬ (h = 0 ∨ h = 1) ∨ bud < 0 then 2 else 0
/-- What a call hands back. -/
def writeF (room : Int) (s : St) (h : Int) (d : ByteArray) (bud : Int) : St × Int × Int :=
  if chk room s h bud = 0 then
    if room < (s.get h).size + d.size then (zero, 0, 7)
    else if bud < d.size then (s.put h (s.get h ++ d.extract 0 bud.toNat), 0, 8)
    else (s.put h (s.get h ++ d), bud - d.size, 0)
  else (zero, 0, chk room s h bud)
def eraseF (room : Int) (s : St) (h : Int) (bud : Int) : St × Int × Int :=
  if chk room s h bud = 0 then if bud = 0 then (s, 0, 8) else (s.put h ⟨#[]⟩, bud - 1, 0) else (zero, 0, chk room s h bud)
def chooseF (room : Int) (s : St) (h : Int) (bud : Int) : St × Int × Int :=
  if chk room s h bud = 0 then if bud = 0 then (s, 0, 8) else (⟨s.a, s.b, h⟩, bud - 1, 0) else (zero, 0, chk room s h bud)
/-- The three results. -/
def ans (x : St × Int × Int) : Value := .tuple #[x.1.agg, .int .i64 x.2.1, .int .i64 x.2.2]

theorem chk_zero {room : Int} {s : St} {h bud : Int} (e : chk room s h bud = 0) : isB room s = true ∧ (h = 0 ∨ h = 1) ∧ 0 ≤ bud := by
  unfold chk at e
  split at e
  · omega
  · rename_i hb
    split at e
    · omega
    · rename_i hc
      refine ⟨by simpa using hb, ?_, ?_⟩ <;> omega
theorem isB_of {room : Int} {s : St} (e : isB room s = true) : 1 ≤ room ∧ room ≤ 65536 ∧ (s.a.size : Int) ≤ room ∧ (s.b.size : Int) ≤ room ∧ (s.sel = 0 ∨ s.sel = 1) := by
  simpa [isB] using e
theorem get_size {room : Int} {s : St} (e : isB room s = true) (h : Int) : ((s.get h).size : Int) ≤ room := by
  have := isB_of e
  unfold get
  split <;> omega
end St
theorem ret_st {x y : St × Int × Int} (h : x = y) : Ending.returned (St.ans x) = .returned (St.ans y) := by rw [h]
theorem ret_b {a b : ByteArray} (h : a = b) : Ending.returned (.string a) = .returned (.string b) := by rw [h]
theorem ret_i {a b : Int} (h : a = b) : Ending.returned (.int .i64 a) = .returned (.int .i64 b) := by rw [h]
end

section
open Go.RowKit

/-- A set of calls: the bits of its calls up and down. -/
structure Cs where
  up : Nat
  dn : Nat
/-- An entry. -/
structure En where
  f : Int
  d : Int
  car : Int
  mv : Int
  md : Bool
def En.cells (e : En) : List Value := [.int .i64 e.f, .int .i64 e.d, .int .i64 e.car, .int .i64 e.mv, .bool e.md]
namespace Cs
def empty : Cs := ⟨0, 0⟩
def ok (c : Cs) : Prop := c.up < 4294967296 ∧ c.dn < 4294967296
def agg (c : Cs) : Value := .agg #[.int .u32 c.up, .int .u32 c.dn]
def union (a b : Cs) : Cs := ⟨a.up ||| b.up, a.dn ||| b.dn⟩
def both (a b : Cs) : Cs := ⟨a.up &&& b.up, a.dn &&& b.dn⟩
def minus (a b : Cs) : Cs := ⟨a.up &&& (4294967295 - b.up), a.dn &&& (4294967295 - b.dn)⟩
def bitAt (f : Int) : Nat := if 0 ≤ f ∧ f < 32 then 2 ^ f.toNat else 0
def low (f : Int) : Nat := 2 ^ (min (max f 0) 32).toNat - 1
def one (f d : Int) : Cs := if d = 1 then ⟨bitAt f, 0⟩ else if d = 2 then ⟨0, bitAt f⟩ else empty
def eqB (a b : Cs) : Bool := a.up == b.up && a.dn == b.dn
def has (c : Cs) (f d : Int) : Bool := !(eqB (both c (one f d)) empty)
def above (c : Cs) (f : Int) : Cs := minus c ⟨bitAt f ||| low f, bitAt f ||| low f⟩
def below (c : Cs) (f : Int) : Cs := both c ⟨low f, low f⟩

theorem nat_ext {x y : Nat} (hx : x < 4294967296) (hy : y < 4294967296) (h : ∀ k, k < 32 → x.testBit k = y.testBit k) : x = y := by
  apply Nat.eq_of_testBit_eq
  intro k
  by_cases hk : k < 32
  · exact h k hk
  · have hp : 4294967296 ≤ 2 ^ k := by
      have := Nat.pow_le_pow_right (n := 2) (by decide) (show 32 ≤ k by omega)
      exact this
    rw [Nat.testBit_lt_two_pow (by omega), Nat.testBit_lt_two_pow (by omega)]
theorem pow_lt {k : Nat} (h : k < 32) : 2 ^ k < 4294967296 := Nat.pow_lt_pow_right (by decide) (show k < 32 from h)
theorem and_lt {x y : Nat} (hx : x < 4294967296) : x &&& y < 4294967296 := Nat.lt_of_le_of_lt Nat.and_le_left hx
theorem empty_ok : empty.ok := by constructor <;> show (0 : Nat) < 4294967296 <;> decide
theorem bitAt_lt (f : Int) : bitAt f < 4294967296 := by
  unfold bitAt
  split
  · exact pow_lt (by omega)
  · decide
theorem one_ok (f d : Int) : (one f d).ok := by
  unfold one
  split
  · exact ⟨bitAt_lt f, by show (0 : Nat) < 4294967296; decide⟩
  · split
    · exact ⟨by show (0 : Nat) < 4294967296; decide, bitAt_lt f⟩
    · exact empty_ok
theorem bit_and (x y k : Nat) : (x &&& y).testBit k = (x.testBit k && y.testBit k) := Nat.testBit_and x y k
theorem bit_pow (j k : Nat) : (2 ^ j).testBit k = decide (j = k) := Nat.testBit_two_pow
/-- The calls at the floors below n that p picks. -/
def sel (c : Cs) (p : Nat → Bool) : Nat → Cs
  | 0 => empty
  | k + 1 => if p k then union (sel c p k) (both c ⟨2 ^ k, 2 ^ k⟩) else sel c p k
theorem has_one {x k : Nat} (hx : x < 4294967296) : (x &&& 2 ^ k == 0) = !x.testBit k := by
  rw [Bool.eq_iff_iff, beq_iff_eq, Bool.not_eq_true']
  constructor
  · intro h
    have := congrArg (fun z => Nat.testBit z k) h
    simpa [bit_and, bit_pow] using this
  · intro h
    refine nat_ext (and_lt hx) (by decide) fun j _ => ?_
    rw [bit_and, bit_pow, Nat.zero_testBit]
    by_cases hj : k = j
    · subst hj; rw [h]; rfl
    · rw [decide_eq_false hj, Bool.and_false]
theorem bitAt_nat {k : Nat} (hk : k < 32) : bitAt (k : Int) = 2 ^ k := by unfold bitAt; rw [if_pos (by omega), Int.toNat_natCast]
theorem has_up {c : Cs} (h : c.ok) {k : Nat} (hk : k < 32) : has c k 1 = c.up.testBit k := by
  unfold has one both eqB empty
  rw [if_pos rfl, bitAt_nat hk]
  show (!((c.up &&& 2 ^ k == 0) && (c.dn &&& 0 == 0))) = _
  rw [has_one h.1, Nat.and_zero]
  simp
theorem has_dn {c : Cs} (h : c.ok) {k : Nat} (hk : k < 32) : has c k 2 = c.dn.testBit k := by
  unfold has one both eqB empty
  rw [if_neg (by decide), if_pos rfl, bitAt_nat hk]
  show (!((c.up &&& 0 == 0) && (c.dn &&& 2 ^ k == 0))) = _
  rw [has_one h.2, Nat.and_zero]
  simp
theorem has_floor (c : Cs) {f : Int} (hf : ¬ (0 ≤ f ∧ f < 32)) (d : Int) : has c f d = false := by
  have : one f d = empty := by
    unfold one bitAt
    rw [if_neg hf]
    split
    · rfl
    · split <;> rfl
  unfold has
  rw [this]
  unfold both eqB empty
  simp
theorem has_dir (c : Cs) (f : Int) {d : Int} (h1 : d ≠ 1) (h2 : d ≠ 2) : has c f d = false := by
  unfold has one
  rw [if_neg h1, if_neg h2]
  unfold both eqB empty
  simp

/-- How many of the first n are true. -/
def cnt (p : Nat → Bool) : Nat → Nat
  | 0 => 0
  | n + 1 => cnt p n + (p n).toNat
theorem cnt_le (p : Nat → Bool) : ∀ n, cnt p n ≤ n
  | 0 => Nat.le_refl _
  | n + 1 => by
    have := cnt_le p n
    have h2 : (p n).toNat ≤ 1 := Bool.toNat_le _
    show cnt p n + _ ≤ _
    omega
theorem ones_cnt : ∀ b : Fin 256, Go.Lib.onesCount b.val = cnt b.val.testBit 8 := by decide +kernel
def pop (x : Nat) : Nat := Go.Lib.onesCount (x / 16777216) + Go.Lib.onesCount (x / 65536 % 256) + Go.Lib.onesCount (x / 256 % 256) + Go.Lib.onesCount (x % 256)
theorem pop_cnt {x : Nat} (hx : x < 4294967296) : pop x = cnt x.testBit 32 := by
  have e1 : ∀ j, (x / 16777216).testBit j = x.testBit (24 + j) := fun j => by
    have h : (x / 2 ^ 24).testBit j = x.testBit (j + 24) := Nat.testBit_div_two_pow x j
    rw [Nat.add_comm]; exact h
  have e2 : ∀ j, j < 8 → (x / 65536 % 256).testBit j = x.testBit (16 + j) := fun j hj => by
    have := Nat.testBit_mod_two_pow (x / 65536) 8 j
    rw [show (2 : Nat) ^ 8 = 256 from rfl] at this
    rw [this, decide_eq_true hj, Bool.true_and]
    have h : (x / 2 ^ 16).testBit j = x.testBit (j + 16) := Nat.testBit_div_two_pow x j
    rw [Nat.add_comm]; exact h
  have e3 : ∀ j, j < 8 → (x / 256 % 256).testBit j = x.testBit (8 + j) := fun j hj => by
    have := Nat.testBit_mod_two_pow (x / 256) 8 j
    rw [show (2 : Nat) ^ 8 = 256 from rfl] at this
    rw [this, decide_eq_true hj, Bool.true_and]
    have h : (x / 2 ^ 8).testBit j = x.testBit (j + 8) := Nat.testBit_div_two_pow x j
    rw [Nat.add_comm]; exact h
  have e4 : ∀ j, j < 8 → (x % 256).testBit j = x.testBit j := fun j hj => by
    have := Nat.testBit_mod_two_pow x 8 j
    rw [show (2 : Nat) ^ 8 = 256 from rfl] at this
    rw [this, decide_eq_true hj, Bool.true_and]
  have o1 := ones_cnt ⟨x / 16777216, by omega⟩
  have o2 := ones_cnt ⟨x / 65536 % 256, by omega⟩
  have o3 := ones_cnt ⟨x / 256 % 256, by omega⟩
  have o4 := ones_cnt ⟨x % 256, by omega⟩
  simp only at o1 o2 o3 o4
  unfold pop
  rw [o1, o2, o3, o4]
  have sh : ∀ (p q : Nat → Bool) (o : Nat), (∀ j, j < 8 → p j = q (o + j)) → cnt q (o + 8) = cnt q o + cnt p 8 := by
    intro p q o h
    have : ∀ n, n ≤ 8 → cnt q (o + n) = cnt q o + cnt p n := by
      intro n
      induction n with
      | zero => intro _; rfl
      | succ n ih =>
        intro hn
        show cnt q (o + n) + (q (o + n)).toNat = cnt q o + (cnt p n + (p n).toNat)
        rw [ih (by omega), h n (by omega), Nat.add_assoc]
    exact this 8 (Nat.le_refl _)
  have s1 := sh _ _ 24 (fun j _ => e1 j)
  have s2 := sh _ _ 16 e2
  have s3 := sh _ _ 8 e3
  have s4 := sh _ _ 0 (fun j hj => (e4 j hj).trans (by rw [Nat.zero_add]))
  have z : cnt x.testBit 0 = 0 := rfl
  simp only [Nat.reduceAdd] at s1 s2 s3 s4
  omega
def count (c : Cs) : Nat := pop c.up + pop c.dn

/-- The calls of a set at the floors below n, in order. -/
def prs (c : Cs) : Nat → List (Nat × Nat)
  | 0 => []
  | k + 1 => prs c k ++ ((if c.up.testBit k then [(k, 1)] else []) ++ (if c.dn.testBit k then [(k, 2)] else []))
def en (x : Nat × Nat) : En := ⟨x.1, x.2, -1, 0, false⟩
theorem count_le {c : Cs} (h : c.ok) : count c ≤ 64 := by
  unfold count
  rw [pop_cnt h.1, pop_cnt h.2]
  have h1 := cnt_le c.up.testBit 32
  have h2 := cnt_le c.dn.testBit 32
  omega
def of (l : List En) : Cs := l.foldl (fun c e => union c (one e.f e.d)) empty
end Cs
end
end Go.Proofs.Ytifbkoaggjikpaa
