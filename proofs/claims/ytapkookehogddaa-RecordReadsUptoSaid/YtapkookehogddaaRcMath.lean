/- Records, plainly. No statement of the seat is proved here. -/
import Derived.Test.YtapkookehogddaaIsCall
import Derived.Test.YtapkookehogddaaSampleValid
import Derived.Test.YtapkookehogddaaCrcRefSum
import Derived.Test.YtapkookehogddaaCrcSeal
import Derived.Test.YtapkookehogddaaStMath
namespace Go.Proofs.Ytapkookehogddaa
open Go.RowKit

structure Rc where
  kind : Int
  floor : Int
  dir : Int
  car : Int
  value : Int
deriving DecidableEq
namespace Rc
def zero : Rc := ⟨0, 0, 0, 0, 0⟩
def cells (r : Rc) : List Value := [.int .i64 r.kind, .int .i64 r.floor, .int .i64 r.dir, .int .i64 r.car, .int .i64 r.value]
def agg (r : Rc) : Value := .agg #[.int .i64 r.kind, .int .i64 r.floor, .int .i64 r.dir, .int .i64 r.car, .int .i64 r.value]
def fitB (r : Rc) (lo hi v : Int) : Bool := decide (lo ≤ r.car) && (decide (r.car ≤ hi) && (decide (0 ≤ r.value) && decide (r.value ≤ v)))
def callB (b : BldD) (r : Rc) : Bool := isCallF b r.floor r.dir
def carB (b : BldD) (r : Rc) : Bool := decide (validE b = 0) && (decide (r.floor = 0) && decide (r.dir = 0))
def okB (b : BldD) (r : Rc) : Bool :=
  if r.kind = 1 ∨ r.kind = 2 then callB b r && fitB r 0 0 0
  else if r.kind = 3 then callB b r && fitB r (-2) (b.cars.length - 1) 0
  else if r.kind = 4 then carB b r && fitB r 0 (b.cars.length - 1) 4
  else if r.kind = 5 ∨ r.kind = 6 then carB b r && fitB r 0 (b.cars.length - 1) 1
  else if r.kind = 7 then callB b r && fitB r 0 1 255
  else false

theorem call_of {b : BldD} {r : Rc} (h : callB b r = true) : validE b = 0 ∧ 0 ≤ r.floor ∧ r.floor < 32 ∧ 0 ≤ r.dir ∧ r.dir ≤ 2 := by
  by_cases hv : validE b = 0
  · have hF := fine_of hv
    obtain ⟨⟨h1, h2⟩, -, -⟩ := hF
    simp [callB, isCallF, hv, inAll] at h
    omega
  · simp [callB, isCallF, hv] at h
theorem car_of {b : BldD} {r : Rc} (h : carB b r = true) : validE b = 0 ∧ 0 ≤ r.floor ∧ r.floor < 32 ∧ 0 ≤ r.dir ∧ r.dir ≤ 2 := by
  simp [carB] at h
  omega
theorem ok_of {b : BldD} {r : Rc} (h : okB b r = true) : validE b = 0 ∧ 1 ≤ r.kind ∧ r.kind ≤ 7 ∧ 0 ≤ r.floor ∧ r.floor < 32 ∧ 0 ≤ r.dir ∧ r.dir ≤ 2 ∧ -2 ≤ r.car ∧ r.car ≤ 8 ∧ 0 ≤ r.value ∧ r.value ≤ 255 := by
  have hc : validE b = 0 → b.cars.length ≤ 8 := fun hv => (fine_of hv).cars.2
  unfold okB at h
  split at h
  · rw [Bool.and_eq_true] at h
    have := call_of h.1
    have h2 := h.2
    simp [fitB] at h2
    omega
  split at h
  · rw [Bool.and_eq_true] at h
    have := call_of h.1
    have := hc this.1
    have h2 := h.2
    simp [fitB] at h2
    omega
  split at h
  · rw [Bool.and_eq_true] at h
    have := car_of h.1
    have := hc this.1
    have h2 := h.2
    simp [fitB] at h2
    omega
  split at h
  · rw [Bool.and_eq_true] at h
    have := car_of h.1
    have := hc this.1
    have h2 := h.2
    simp [fitB] at h2
    omega
  split at h
  · rw [Bool.and_eq_true] at h
    have := call_of h.1
    have h2 := h.2
    simp [fitB] at h2
    omega
  · cases h
theorem ok_bad {b : BldD} {r : Rc} (h : ¬ validE b = 0) : okB b r = false := by
  cases e : okB b r
  · rfl
  · exact absurd (ok_of e).1 h

/-- A byte. -/
def u (n : Int) : UInt8 := UInt8.ofNat (n % 256).toNat
theorem u_nat (n : Int) : ((u n).toNat : Int) = n % 256 := by
  unfold u
  have : (n % 256).toNat < 256 := by omega
  rw [UInt8.toNat_ofNat_of_lt' (by simpa using this)]
  omega
def five (r : Rc) : List UInt8 := [u r.kind, u r.floor, u r.dir, u (r.car + 2), u r.value]
def six (r : Rc) : List UInt8 := five r ++ [UInt8.ofNat (sum8 (five r))]
theorem six_len (r : Rc) : (six r).length = 6 := rfl
def encS (b : BldD) (r : Rc) : ByteArray := if okB b r then ⟨(six r).toArray⟩ else ⟨#[]⟩
def encE (b : BldD) (r : Rc) : Int := if okB b r then 0 else 1
def ofL (l : List UInt8) : Rc := ⟨(l.getD 0 0).toNat, (l.getD 1 0).toNat, (l.getD 2 0).toNat, ((l.getD 3 0).toNat : Int) - 2, (l.getD 4 0).toNat⟩
def decE (b : BldD) (l : List UInt8) : Int := if ¬ validE b = 0 then 1 else if ¬ l.length = 6 then 4 else if ¬ (l.getD 5 0).toNat = sum8 (l.take 5) then 5 else if okB b (ofL l) then 0 else 9
def decR (b : BldD) (l : List UInt8) : Rc := if decE b l = 0 then ofL l else zero

theorem ofL_six {b : BldD} {r : Rc} (h : okB b r = true) : ofL (six r) = r := by
  have := ok_of h
  obtain ⟨k, f, d, c, v⟩ := r
  simp only at this
  unfold ofL six five
  simp only [List.cons_append, List.getD_cons_zero, List.getD_cons_succ, u_nat]
  congr 1 <;> omega
theorem sum_u8 (l : List UInt8) : (UInt8.ofNat (sum8 l)).toNat = sum8 l := UInt8.toNat_ofNat_of_lt' (by simpa using sum8_lt l)
theorem decE_six {b : BldD} {r : Rc} (h : okB b r = true) : decE b (six r) = 0 := by
  unfold decE
  rw [if_neg (by simp [(ok_of h).1]), if_neg (by simp [six_len]), if_neg, if_pos (by rw [ofL_six h]; exact h)]
  have e5 : (six r).getD 5 0 = UInt8.ofNat (sum8 (five r)) := rfl
  have et : (six r).take 5 = five r := rfl
  rw [e5, et, sum_u8]; simp
theorem decR_six {b : BldD} {r : Rc} (h : okB b r = true) : decR b (six r) = r := by
  unfold decR; rw [if_pos (decE_six h), ofL_six h]
theorem six_inj {b : BldD} {r s : Rc} (h : okB b r = true) (k : okB b s = true) (e : six r = six s) : r = s := by
  rw [← ofL_six h, ← ofL_six k, e]
theorem decE_len {b : BldD} {l : List UInt8} (h : decE b l = 0) : l.length = 6 := by
  unfold decE at h
  split at h
  · omega
  split at h
  · omega
  rename_i h2; omega
theorem decE_ok {b : BldD} {l : List UInt8} (h : decE b l = 0) : validE b = 0 := by
  unfold decE at h
  split at h
  · omega
  rename_i h2; omega

/-- One bit of a byte is changed: the sum does not fit any more. -/
theorem sum8_set {l : List UInt8} {k : Nat} (hk : k < l.length) {v : UInt8} (hv : v ≠ l[k]) : sum8 (l.set k v) ≠ sum8 l := by
  intro h
  have hd : (7 : Nat) < 2 ^ (0 + 7 + 1) := by decide
  unfold sum8 at h
  rw [Crc.reg_set (m := 0) hd (by decide) l k hk v] at h
  have h0 : Crc.shN (0 + 7 + 1) 7 (8 * (l.length - k)) ((l[k].toNat ^^^ v.toNat) * 2 ^ 0) = 0 := by
    have := congrArg (fun x => Crc.reg 0 7 0 l ^^^ x) h
    simpa [Crc.xor_cancel] using this
  have hp := Crc.shN_ne_zero (n := 7) hd (by decide) _ (Nat.lt_of_le_of_lt (Nat.le_of_eq (by rw [Nat.pow_zero, Nat.mul_one])) (Crc.xor_byte l[k] v)) h0
  rw [Nat.pow_zero, Nat.mul_one] at hp
  exact hv (UInt8.toNat_inj.1 (Crc.xor_zero_eq hp).symm)
theorem flip_ne (c : UInt8) (k : Nat) : c ^^^ UInt8.ofNat (2 ^ (k % 8)) ≠ c := by
  intro h
  have h1 := congrArg UInt8.toNat h
  have h8 : k % 8 < 8 := Nat.mod_lt _ (by omega)
  have hp : 2 ^ (k % 8) < 256 := Nat.lt_of_le_of_lt (Nat.pow_le_pow_right (by omega) (show k % 8 ≤ 7 by omega)) (by omega)
  rw [UInt8.toNat_xor, UInt8.toNat_ofNat_of_lt' (by simpa using hp)] at h1
  have := congrArg (fun x => c.toNat ^^^ x) h1
  simp [Crc.xor_cancel] at this
theorem decE_flip {b : BldD} {r : Rc} (hv : validE b = 0) {k : Nat} (hk : k < 48) : decE b ((six r).set (k / 8) ((six r).getD (k / 8) 0 ^^^ UInt8.ofNat (2 ^ (k % 8)))) = 5 := by
  have hl : k / 8 < (six r).length := by rw [six_len]; omega
  have he : (six r).getD (k / 8) 0 = (six r)[k / 8] := by simp [List.getD, hl]
  have hne := flip_ne ((six r)[k / 8]) k
  rw [he]
  generalize hx : (six r)[k / 8] ^^^ UInt8.ofNat (2 ^ (k % 8)) = x at *
  unfold decE
  rw [if_neg (by simp [hv]), if_neg (by simp [six_len]), if_pos]
  by_cases h5 : k / 8 < 5
  · have e5 : ((six r).set (k / 8) x).getD 5 0 = UInt8.ofNat (sum8 (five r)) := by
      have : ((six r).set (k / 8) x)[5]? = (six r)[5]? := List.getElem?_set_ne (by omega)
      simp only [List.getD, this]; rfl
    have et : ((six r).set (k / 8) x).take 5 = (five r).set (k / 8) x := by
      rw [List.take_set]; rfl
    rw [e5, et, sum_u8]
    have h5l : k / 8 < (five r).length := h5
    have hg : (six r)[k / 8] = (five r)[k / 8] := List.getElem_append_left h5l
    exact fun h => sum8_set h5l (fun h' => hne (h'.trans hg.symm)) h.symm
  · have h5' : k / 8 = 5 := by omega
    have e5 : ((six r).set (k / 8) x).getD 5 0 = x := by
      rw [h5']
      simp [List.getD, six_len]
    have et : ((six r).set (k / 8) x).take 5 = five r := by
      rw [List.take_set, List.set_eq_of_length_le (by simp [six_len]; omega)]; rfl
    rw [e5, et]
    intro h
    refine hne ?_
    have hg : (six r)[k / 8] = UInt8.ofNat (sum8 (five r)) := by simp only [h5']; rfl
    rw [hg]
    apply UInt8.toNat_inj.1
    rw [h, sum_u8]

/-- The i-th piece of six bytes. -/
def cutL (l : List UInt8) (i : Nat) : List UInt8 := (l.drop (6 * i)).take 6
def runB (b : BldD) (l : List UInt8) (k : Nat) : Prop := ∀ i, i < k → decE b (cutL l i) = 0
def recsOf (b : BldD) (l : List UInt8) (k : Nat) : List Rc := (List.range k).map fun i => decR b (cutL l i)
/-- How many records stand at the beginning. -/
def isCnt (b : BldD) (l : List UInt8) (k : Nat) : Prop := runB b l k ∧ ¬ decE b (cutL l k) = 0
theorem runB_zero (b : BldD) (l : List UInt8) : runB b l 0 := fun i hi => absurd hi (Nat.not_lt_zero i)
theorem runB_succ {b : BldD} {l : List UInt8} {k : Nat} (h : runB b l k) (e : decE b (cutL l k) = 0) : runB b l (k + 1) := by
  intro i hi
  rcases Nat.lt_or_ge i k with h1 | h1
  · exact h i h1
  · obtain rfl : i = k := by omega
    exact e
theorem recsOf_succ (b : BldD) (l : List UInt8) (k : Nat) : recsOf b l (k + 1) = recsOf b l k ++ [decR b (cutL l k)] := by
  unfold recsOf; rw [List.range_succ, List.map_append]; rfl
theorem recsOf_len (b : BldD) (l : List UInt8) (k : Nat) : (recsOf b l k).length = k := by simp [recsOf]
theorem cnt_one {b : BldD} {l : List UInt8} {k m : Nat} (h : isCnt b l k) (g : isCnt b l m) : k = m := by
  rcases Nat.lt_trichotomy k m with h1 | h1 | h1
  · exact absurd (g.1 k h1) h.2
  · exact h1
  · exact absurd (h.1 m h1) g.2
theorem cnt_ge {b : BldD} {l : List UInt8} {k m : Nat} (h : isCnt b l k) (g : runB b l m) : m ≤ k := by
  rcases Nat.lt_or_ge k m with h1 | h1
  · exact absurd (g k h1) h.2
  · exact h1
theorem runB_le {b : BldD} {l : List UInt8} {k : Nat} (h : runB b l k) : 6 * k ≤ l.length := by
  rcases Nat.eq_zero_or_pos k with rfl | hk
  · omega
  · have := decE_len (h (k - 1) (by omega))
    unfold cutL at this
    rw [List.length_take, List.length_drop] at this
    omega
theorem cnt_bad {b : BldD} {l : List UInt8} {k : Nat} (hv : ¬ validE b = 0) (h : isCnt b l k) : k = 0 := by
  rcases Nat.eq_zero_or_pos k with rfl | hk
  · rfl
  · exact absurd (decE_ok (h.1 0 hk)) hv
def joinS (x : List Rc) : List UInt8 := x.flatMap six
theorem joinS_cons (r : Rc) (x : List Rc) : joinS (r :: x) = six r ++ joinS x := rfl
theorem joinS_snoc (x : List Rc) (r : Rc) : joinS (x ++ [r]) = joinS x ++ six r := by
  unfold joinS; rw [List.flatMap_append]; simp
theorem joinS_len (x : List Rc) : (joinS x).length = 6 * x.length := by
  induction x with
  | nil => rfl
  | cons r x ih => rw [joinS_cons, List.length_append, ih, six_len, List.length_cons]; omega
theorem cut_join : ∀ (x : List Rc) (t : List UInt8) (i : Nat) (h : i < x.length), cutL (joinS x ++ t) i = six x[i]
  | r :: x, t, 0, _ => by
    rw [joinS_cons, List.append_assoc]
    unfold cutL
    rw [Nat.mul_zero, List.drop_zero]
    exact List.take_left' (six_len r)
  | r :: x, t, i + 1, h => by
    rw [joinS_cons, List.append_assoc]
    have := cut_join x t i (by simpa using h)
    unfold cutL at this ⊢
    rw [show 6 * (i + 1) = 6 + 6 * i from by omega]
    have e : (six r ++ (joinS x ++ t)).drop (6 + 6 * i) = (joinS x ++ t).drop (6 * i) := by
      have := (List.drop_drop (i := 6 * i) (j := 6) (l := six r ++ (joinS x ++ t))).symm
      rw [List.drop_left' (six_len r)] at this
      first | exact this | (rw [Nat.add_comm]; exact this)
    rw [e]
    exact this
theorem run_join {b : BldD} {x : List Rc} (h : ∀ r, r ∈ x → okB b r = true) (t : List UInt8) : runB b (joinS x ++ t) x.length := by
  intro i hi
  rw [cut_join x t i hi]
  exact decE_six (h _ (List.getElem_mem hi))
theorem recs_join {b : BldD} {x : List Rc} (h : ∀ r, r ∈ x → okB b r = true) (t : List UInt8) {k : Nat} (hk : x.length ≤ k) : (recsOf b (joinS x ++ t) k).take x.length = x := by
  apply List.ext_getElem
  · rw [List.length_take, recsOf_len]; omega
  · intro i h1 h2
    rw [List.getElem_take]
    simp only [recsOf, List.getElem_map, List.getElem_range]
    rw [cut_join x t i h2, decR_six (h _ (List.getElem_mem h2))]
theorem join_inj {b : BldD} : ∀ {x y : List Rc} (_ : ∀ r, r ∈ x → okB b r = true) (_ : ∀ r, r ∈ y → okB b r = true) (_ : joinS x = joinS y), x = y
  | [], [], _, _, _ => rfl
  | [], r :: y, _, _, e => by have := congrArg List.length e; rw [joinS_len, joinS_len] at this; simp at this
  | r :: x, [], _, _, e => by have := congrArg List.length e; rw [joinS_len, joinS_len] at this; simp at this
  | r :: x, s :: y, h, g, e => by
    rw [joinS_cons, joinS_cons] at e
    obtain ⟨e1, e2⟩ := List.append_inj e (by rw [six_len, six_len])
    rw [six_inj (h r List.mem_cons_self) (g s List.mem_cons_self) e1, join_inj (fun q hq => h q (List.mem_cons_of_mem _ hq)) (fun q hq => g q (List.mem_cons_of_mem _ hq)) e2]

/-- The law's records out of numbers. -/
def recAt (F C : Nat) (n v : Nat) : Rc :=
  if n % 7 = 3 then ⟨4, 0, 0, (n / 7 % C : Nat), (v % 5 : Nat)⟩
  else if n % 7 = 4 ∨ n % 7 = 5 then ⟨(1 + n % 7 : Nat), 0, 0, (n / 7 % C : Nat), (v % 2 : Nat)⟩
  else ⟨(1 + n % 7 : Nat), (v / 2 % (F - 1) + v % 2 : Nat), (1 + v % 2 : Nat), if n % 7 = 2 then ((n / 7 % (C + 2) : Nat) : Int) - 2 else if n % 7 = 6 then ((n / 7 % 2 : Nat) : Int) else 0, if n % 7 = 6 then ((n / 14 : Nat) : Int) else 0⟩
def recK (F C : Nat) (l : List Nat) (k : Nat) : Rc := recAt F C (l.getD (2 * k) 0) (l.getD (2 * k + 1) 0)
def recL (F C : Nat) (l : List Nat) (k : Nat) : List Rc := (List.range k).map (recK F C l)
theorem recL_zero (F C : Nat) (l : List Nat) : recL F C l 0 = [] := rfl
theorem recL_succ (F C : Nat) (l : List Nat) (k : Nat) : recL F C l (k + 1) = recL F C l k ++ [recK F C l k] := by
  unfold recL; rw [List.range_succ, List.map_append]; rfl
theorem recL_len (F C : Nat) (l : List Nat) (k : Nat) : (recL F C l k).length = k := by simp [recL]
theorem recAt_ok {F C : Nat} (h1 : 2 ≤ F) (h2 : F ≤ 32) (h3 : 1 ≤ C) (h4 : C ≤ 8) {n v : Nat} (hn : n < 256) : okB (sampleD F C) (recAt F C n v) = true := by
  have hv := sample_valid F C (by omega) (by omega) h3 h4
  have hl : (sampleD (F : Int) C).cars.length = C := by simp [sampleD, sampleCars_length]
  have hf : (sampleD (F : Int) C).floors = F := rfl
  have m1 : n / 7 % C < C := Nat.mod_lt _ (by omega)
  have m2 : n / 7 % (C + 2) < C + 2 := Nat.mod_lt _ (by omega)
  have m3 : v / 2 % (F - 1) < F - 1 := Nat.mod_lt _ (by omega)
  have hcases : n % 7 = 0 ∨ n % 7 = 1 ∨ n % 7 = 2 ∨ n % 7 = 3 ∨ n % 7 = 4 ∨ n % 7 = 5 ∨ n % 7 = 6 := by omega
  unfold recAt
  generalize n / 7 % C = q1 at *
  generalize n / 7 % (C + 2) = q2 at *
  generalize v / 2 % (F - 1) = q3 at *
  have m4 : n / 14 ≤ 18 := by omega
  generalize n / 14 = q4 at *
  have m5 : n / 7 % 2 < 2 := by omega
  generalize n / 7 % 2 = q5 at *
  have m6 : v % 2 < 2 := by omega
  have hcall : isCallF (sampleD F C) ((q3 + v % 2 : Nat) : Int) ((1 + v % 2 : Nat) : Int) = true := by
    rcases (show v % 2 = 0 ∨ v % 2 = 1 by omega) with e | e
    · simp [isCallF, hv, hf, inAll, e]; omega
    · simp [isCallF, hv, hf, inAll, e]; omega
  simp only [Int.natCast_add, Int.cast_ofNat_Int] at hcall
  have m7 : v % 5 < 5 := by omega
  generalize v % 5 = q7 at *
  generalize v % 2 = q6 at *
  rcases hcases with e | e | e | e | e | e | e
  · simp only [e, okB, callB, fitB]
    simp [hcall]
  · simp only [e, okB, callB, fitB]
    simp [hcall]
  · simp only [e, okB, callB, fitB]
    simp [hcall, hl]
    omega
  · simp only [e, okB, carB, fitB]
    simp [hv, hl]
    omega
  · simp only [e, okB, carB, fitB]
    simp [hv, hl]
    omega
  · simp only [e, okB, carB, fitB]
    simp [hv, hl]
    omega
  · simp only [e, okB, callB, fitB]
    simp [hcall]
    omega
theorem recL_ok {F C : Nat} (h1 : 2 ≤ F) (h2 : F ≤ 32) (h3 : 1 ≤ C) (h4 : C ≤ 8) {l : List Nat} (hl : ∀ n, n ∈ l → n < 256) (k : Nat) : ∀ r, r ∈ recL F C l k → okB (sampleD F C) r = true := by
  intro r hr
  obtain ⟨i, _, rfl⟩ := List.mem_map.1 hr
  refine recAt_ok h1 h2 h3 h4 ?_
  rw [List.getD_eq_getElem?_getD]
  cases e : l[2 * i]? with
  | none => simp
  | some x => simpa using hl x (List.mem_of_getElem? e)
end Rc
end Go.Proofs.Ytapkookehogddaa
