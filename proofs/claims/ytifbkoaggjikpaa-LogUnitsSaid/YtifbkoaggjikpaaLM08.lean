/- What the texts behind this one rest on: several texts in one. No statement of the seat is proved here. -/
import Derived.Test.YtifbkoaggjikpaaLM07
import Derived.Test.YtifbkoaggjikpaaLM04
import Derived.Test.YtifbkoaggjikpaaLM06
import Derived.Test.YtifbkoaggjikpaaLM01
import Derived.Test.YtifbkoaggjikpaaLM02
import Derived.Deep.AppendLies
import Derived.Laws.OwnMore
import Derived.ChangeKeysEq
import Derived.BigQuiet
import Derived.Test.YtifbkoaggjikpaaLM05
namespace Go.Proofs.Ytifbkoaggjikpaa
section
open Go.RowKit

theorem loads_sample : ascB [0, 4591870180066957722, 4605380978949069210, 4607632778762754458, 9218868437227405312] = true := by decide +kernel

theorem carFits_sample (f : Int) (i : Nat) (h1 : 2 ≤ f) : carFitsB f (sampleCar f i) = true := by
  have h2 := Int.emod_nonneg (i : Int) (by omega : f ≠ 0)
  have h3 := Int.emod_lt_of_pos (i : Int) (by omega : 0 < f)
  simp [carFitsB, sampleCar, inAll]
  omega

theorem sample_valid (f : Int) (n : Nat) (h1 : 2 ≤ f) (h2 : f ≤ 32) (h3 : 1 ≤ n) (h4 : n ≤ 8) : validE (sampleD f n) = 0 := by
  have a1 : inAll 2 32 [(sampleD f n).floors] = true := by simp [inAll, sampleD]; omega
  have a2 : inAll 1 8 [((sampleD f n).cars.length : Int)] = true := by simp [inAll, sampleD, sampleCars_length]; omega
  have a3 : timesFitB (sampleD f n) = true := by
    unfold timesFitB
    have : (sampleD f n).cars.all (carFitsB (sampleD f n).floors) = true := by
      rw [List.all_eq_true]
      intro c hc
      simp only [sampleD, sampleCars, List.mem_map] at hc ⊢
      obtain ⟨i, _, rfl⟩ := hc
      exact carFits_sample f i h1
    rw [this]
    rfl
  have a4 : loadsB (sampleD f n) = true := loads_sample
  have a5 : roomB (sampleD f n) = true := by simp [roomB, inAll, sampleD, sampleCars_length]; omega
  unfold validE
  rw [a1, a2, a3, a4, a5]
  rfl
end

section
open Go.RowKit

structure Rc where
  kind : Int
  floor : Int
  dir : Int
  car : Int
  value : Int
deriving DecidableEq
namespace Rc
def zero : Rc := ⟨0, 0, 0, 0, 0⟩
def cells (r : Rc) : List Value := [.int .i64 r.kind, .int .i64 r.floor, .int .i64 r.dir, .int .i64 r.car, .int .i64 r.value]
def agg (r : Rc) : Value := .agg #[.int .i64 r.kind, .int .i64 r.floor, .int .i64 r.dir, .int .i64 r.car, .int .i64 r.value]
def fitB (r : Rc) (lo hi v : Int) : Bool := decide (lo ≤ r.car) && (decide (r.car ≤ hi) && (decide (0 ≤ r.value) && decide (r.value ≤ v)))
def callB (b : BldD) (r : Rc) : Bool := isCallF b r.floor r.dir
def carB (b : BldD) (r : Rc) : Bool := decide (validE b = 0) && (decide (r.floor = 0) && decide (r.dir = 0))
def okB (b : BldD) (r : Rc) : Bool :=
  if r.kind = 1 ∨ r.kind = 2 then callB b r && fitB r 0 0 0
  else if r.kind = 3 then callB b r && fitB r (-2) (b.cars.length - 1) 0
  else if r.kind = 4 then carB b r && fitB r 0 (b.cars.length - 1) 4
  else if r.kind = 5 ∨ r.kind = 6 then carB b r && fitB r 0 (b.cars.length - 1) 1
  else if r.kind = 7 then callB b r && fitB r 0 1 255
  else false

theorem call_of {b : BldD} {r : Rc} (h : callB b r = true) : validE b = 0 ∧ 0 ≤ r.floor ∧ r.floor < 32 ∧ 0 ≤ r.dir ∧ r.dir ≤ 2 := by
  by_cases hv : validE b = 0
  · have hF := fine_of hv
    obtain ⟨⟨h1, h2⟩, -, -⟩ := hF
    simp [callB, isCallF, hv, inAll] at h
    omega
  · simp [callB, isCallF, hv] at h
theorem car_of {b : BldD} {r : Rc} (h : carB b r = true) : validE b = 0 ∧ 0 ≤ r.floor ∧ r.floor < 32 ∧ 0 ≤ r.dir ∧ r.dir ≤ 2 := by
  simp [carB] at h
  omega
theorem ok_of {b : BldD} {r : Rc} (h : okB b r = true) : validE b = 0 ∧ 1 ≤ r.kind ∧ r.kind ≤ 7 ∧ 0 ≤ r.floor ∧ r.floor < 32 ∧ 0 ≤ r.dir ∧ r.dir ≤ 2 ∧ -2 ≤ r.car ∧ r.car ≤ 8 ∧ 0 ≤ r.value ∧ r.value ≤ 255 := by
  have hc : validE b = 0 → b.cars.length ≤ 8 := fun hv => (fine_of hv).cars.2
  unfold okB at h
  split at h
  · rw [Bool.and_eq_true] at h
    have := call_of h.1
    have h2 := h.2
    simp [fitB] at h2
    omega
  split at h
  · rw [Bool.and_eq_true] at h
    have := call_of h.1
    have := hc this.1
    have h2 := h.2
    simp [fitB] at h2
    omega
  split at h
  · rw [Bool.and_eq_true] at h
    have := car_of h.1
    have := hc this.1
    have h2 := h.2
    simp [fitB] at h2
    omega
  split at h
  · rw [Bool.and_eq_true] at h
    have := car_of h.1
    have := hc this.1
    have h2 := h.2
    simp [fitB] at h2
    omega
  split at h
  · rw [Bool.and_eq_true] at h
    have := call_of h.1
    have h2 := h.2
    simp [fitB] at h2
    omega
  · cases h
theorem ok_bad {b : BldD} {r : Rc} (h : ¬ validE b = 0) : okB b r = false := by
  cases e : okB b r
  · rfl
  · exact absurd (ok_of e).1 h

/-- A byte. -/
def u (n : Int) : UInt8 := UInt8.ofNat (n % 256).toNat
theorem u_nat (n : Int) : ((u n).toNat : Int) = n % 256 := by
  unfold u
  have : (n % 256).toNat < 256 := by omega
  rw [UInt8.toNat_ofNat_of_lt' (by simpa using this)]
  omega
def five (r : Rc) : List UInt8 := [u r.kind, u r.floor, u r.dir, u (r.car + 2), u r.value]
def six (r : Rc) : List UInt8 := five r ++ [UInt8.ofNat (sum8 (five r))]
theorem six_len (r : Rc) : (six r).length = 6 := rfl
def encS (b : BldD) (r : Rc) : ByteArray := if okB b r then ⟨(six r).toArray⟩ else ⟨#[]⟩
def encE (b : BldD) (r : Rc) : Int := if okB b r then 0 else 1
def ofL (l : List UInt8) : Rc := ⟨(l.getD 0 0).toNat, (l.getD 1 0).toNat, (l.getD 2 0).toNat, ((l.getD 3 0).toNat : Int) - 2, (l.getD 4 0).toNat⟩
def decE (b : BldD) (l : List UInt8) : Int := if ¬ validE b = 0 then 1 else if ¬ l.length = 6 then 4 else if ¬ (l.getD 5 0).toNat = sum8 (l.take 5) then 5 else if okB b (ofL l) then 0 else 9
def decR (b : BldD) (l : List UInt8) : Rc := if decE b l = 0 then ofL l else zero

theorem ofL_six {b : BldD} {r : Rc} (h : okB b r = true) : ofL (six r) = r := by
  have := ok_of h
  obtain ⟨k, f, d, c, v⟩ := r
  simp only at this
  unfold ofL six five
  simp only [List.cons_append, List.getD_cons_zero, List.getD_cons_succ, u_nat]
  congr 1 <;> omega
theorem sum_u8 (l : List UInt8) : (UInt8.ofNat (sum8 l)).toNat = sum8 l := UInt8.toNat_ofNat_of_lt' (by simpa using sum8_lt l)
theorem decE_six {b : BldD} {r : Rc} (h : okB b r = true) : decE b (six r) = 0 := by
  unfold decE
  rw [if_neg (by simp [(ok_of h).1]), if_neg (by simp [six_len]), if_neg, if_pos (by rw [ofL_six h]; exact h)]
  have e5 : (six r).getD 5 0 = UInt8.ofNat (sum8 (five r)) := rfl
  have et : (six r).take 5 = five r := rfl
  rw [e5, et, sum_u8]; simp
theorem decR_six {b : BldD} {r : Rc} (h : okB b r = true) : decR b (six r) = r := by
  unfold decR; rw [if_pos (decE_six h), ofL_six h]
theorem decE_len {b : BldD} {l : List UInt8} (h : decE b l = 0) : l.length = 6 := by
  unfold decE at h
  split at h
  · omega
  split at h
  · omega
  rename_i h2; omega
/-- The i-th piece of six bytes. -/
def cutL (l : List UInt8) (i : Nat) : List UInt8 := (l.drop (6 * i)).take 6
def runB (b : BldD) (l : List UInt8) (k : Nat) : Prop := ∀ i, i < k → decE b (cutL l i) = 0
def recsOf (b : BldD) (l : List UInt8) (k : Nat) : List Rc := (List.range k).map fun i => decR b (cutL l i)
/-- How many records stand at the beginning. -/
def isCnt (b : BldD) (l : List UInt8) (k : Nat) : Prop := runB b l k ∧ ¬ decE b (cutL l k) = 0
theorem runB_zero (b : BldD) (l : List UInt8) : runB b l 0 := fun i hi => absurd hi (Nat.not_lt_zero i)
theorem runB_succ {b : BldD} {l : List UInt8} {k : Nat} (h : runB b l k) (e : decE b (cutL l k) = 0) : runB b l (k + 1) := by
  intro i hi
  rcases Nat.lt_or_ge i k with h1 | h1
  · exact h i h1
  · obtain rfl : i = k := by omega
    exact e
theorem recsOf_succ (b : BldD) (l : List UInt8) (k : Nat) : recsOf b l (k + 1) = recsOf b l k ++ [decR b (cutL l k)] := by
  unfold recsOf; rw [List.range_succ, List.map_append]; rfl
theorem recsOf_len (b : BldD) (l : List UInt8) (k : Nat) : (recsOf b l k).length = k := by simp [recsOf]
theorem cnt_one {b : BldD} {l : List UInt8} {k m : Nat} (h : isCnt b l k) (g : isCnt b l m) : k = m := by
  rcases Nat.lt_trichotomy k m with h1 | h1 | h1
  · exact absurd (g.1 k h1) h.2
  · exact h1
  · exact absurd (h.1 m h1) g.2
theorem runB_le {b : BldD} {l : List UInt8} {k : Nat} (h : runB b l k) : 6 * k ≤ l.length := by
  rcases Nat.eq_zero_or_pos k with rfl | hk
  · omega
  · have := decE_len (h (k - 1) (by omega))
    unfold cutL at this
    rw [List.length_take, List.length_drop] at this
    omega
def joinS (x : List Rc) : List UInt8 := x.flatMap six
theorem joinS_cons (r : Rc) (x : List Rc) : joinS (r :: x) = six r ++ joinS x := rfl
theorem joinS_len (x : List Rc) : (joinS x).length = 6 * x.length := by
  induction x with
  | nil => rfl
  | cons r x ih => rw [joinS_cons, List.length_append, ih, six_len, List.length_cons]; omega
theorem cut_join : ∀ (x : List Rc) (t : List UInt8) (i : Nat) (h : i < x.length), cutL (joinS x ++ t) i = six x[i]
  | r :: x, t, 0, _ => by
    rw [joinS_cons, List.append_assoc]
    unfold cutL
    rw [Nat.mul_zero, List.drop_zero]
    exact List.take_left' (six_len r)
  | r :: x, t, i + 1, h => by
    rw [joinS_cons, List.append_assoc]
    have := cut_join x t i (by simpa using h)
    unfold cutL at this ⊢
    rw [show 6 * (i + 1) = 6 + 6 * i from by omega]
    have e : (six r ++ (joinS x ++ t)).drop (6 + 6 * i) = (joinS x ++ t).drop (6 * i) := by
      have := (List.drop_drop (i := 6 * i) (j := 6) (l := six r ++ (joinS x ++ t))).symm
      rw [List.drop_left' (six_len r)] at this
      first | exact this | (rw [Nat.add_comm]; exact this)
    rw [e]
    exact this
theorem run_join {b : BldD} {x : List Rc} (h : ∀ r, r ∈ x → okB b r = true) (t : List UInt8) : runB b (joinS x ++ t) x.length := by
  intro i hi
  rw [cut_join x t i hi]
  exact decE_six (h _ (List.getElem_mem hi))
theorem recs_join {b : BldD} {x : List Rc} (h : ∀ r, r ∈ x → okB b r = true) (t : List UInt8) {k : Nat} (hk : x.length ≤ k) : (recsOf b (joinS x ++ t) k).take x.length = x := by
  apply List.ext_getElem
  · rw [List.length_take, recsOf_len]; omega
  · intro i h1 h2
    rw [List.getElem_take]
    simp only [recsOf, List.getElem_map, List.getElem_range]
    rw [cut_join x t i h2, decR_six (h _ (List.getElem_mem h2))]
/-- The law's records out of numbers. -/
def recAt (F C : Nat) (n v : Nat) : Rc :=
  if n % 7 = 3 then ⟨4, 0, 0, (n / 7 % C : Nat), (v % 5 : Nat)⟩
  else if n % 7 = 4 ∨ n % 7 = 5 then ⟨(1 + n % 7 : Nat), 0, 0, (n / 7 % C : Nat), (v % 2 : Nat)⟩
  else ⟨(1 + n % 7 : Nat), (v / 2 % (F - 1) + v % 2 : Nat), (1 + v % 2 : Nat), if n % 7 = 2 then ((n / 7 % (C + 2) : Nat) : Int) - 2 else if n % 7 = 6 then ((n / 7 % 2 : Nat) : Int) else 0, if n % 7 = 6 then ((n / 14 : Nat) : Int) else 0⟩
def recK (F C : Nat) (l : List Nat) (k : Nat) : Rc := recAt F C (l.getD (2 * k) 0) (l.getD (2 * k + 1) 0)
def recL (F C : Nat) (l : List Nat) (k : Nat) : List Rc := (List.range k).map (recK F C l)
theorem recL_zero (F C : Nat) (l : List Nat) : recL F C l 0 = [] := rfl
theorem recL_succ (F C : Nat) (l : List Nat) (k : Nat) : recL F C l (k + 1) = recL F C l k ++ [recK F C l k] := by
  unfold recL; rw [List.range_succ, List.map_append]; rfl
theorem recL_len (F C : Nat) (l : List Nat) (k : Nat) : (recL F C l k).length = k := by simp [recL]
theorem recAt_ok {F C : Nat} (h1 : 2 ≤ F) (h2 : F ≤ 32) (h3 : 1 ≤ C) (h4 : C ≤ 8) {n v : Nat} (hn : n < 256) : okB (sampleD F C) (recAt F C n v) = true := by
  have hv := sample_valid F C (by omega) (by omega) h3 h4
  have hl : (sampleD (F : Int) C).cars.length = C := by simp [sampleD, sampleCars_length]
  have hf : (sampleD (F : Int) C).floors = F := rfl
  have m1 : n / 7 % C < C := Nat.mod_lt _ (by omega)
  have m2 : n / 7 % (C + 2) < C + 2 := Nat.mod_lt _ (by omega)
  have m3 : v / 2 % (F - 1) < F - 1 := Nat.mod_lt _ (by omega)
  have hcases : n % 7 = 0 ∨ n % 7 = 1 ∨ n % 7 = 2 ∨ n % 7 = 3 ∨ n % 7 = 4 ∨ n % 7 = 5 ∨ n % 7 = 6 := by omega
  unfold recAt
  generalize n / 7 % C = q1 at *
  generalize n / 7 % (C + 2) = q2 at *
  generalize v / 2 % (F - 1) = q3 at *
  have m4 : n / 14 ≤ 18 := by omega
  generalize n / 14 = q4 at *
  have m5 : n / 7 % 2 < 2 := by omega
  generalize n / 7 % 2 = q5 at *
  have m6 : v % 2 < 2 := by omega
  have hcall : isCallF (sampleD F C) ((q3 + v % 2 : Nat) : Int) ((1 + v % 2 : Nat) : Int) = true := by
    rcases (show v % 2 = 0 ∨ v % 2 = 1 by omega) with e | e
    · simp [isCallF, hv, hf, inAll, e]; omega
    · simp [isCallF, hv, hf, inAll, e]; omega
  simp only [Int.natCast_add, Int.cast_ofNat_Int] at hcall
  have m7 : v % 5 < 5 := by omega
  generalize v % 5 = q7 at *
  generalize v % 2 = q6 at *
  rcases hcases with e | e | e | e | e | e | e
  · simp only [e, okB, callB, fitB]
    simp [hcall]
  · simp only [e, okB, callB, fitB]
    simp [hcall]
  · simp only [e, okB, callB, fitB]
    simp [hcall, hl]
    omega
  · simp only [e, okB, carB, fitB]
    simp [hv, hl]
    omega
  · simp only [e, okB, carB, fitB]
    simp [hv, hl]
    omega
  · simp only [e, okB, carB, fitB]
    simp [hv, hl]
    omega
  · simp only [e, okB, callB, fitB]
    simp [hcall]
    omega
theorem recL_ok {F C : Nat} (h1 : 2 ≤ F) (h2 : F ≤ 32) (h3 : 1 ≤ C) (h4 : C ≤ 8) {l : List Nat} (hl : ∀ n, n ∈ l → n < 256) (k : Nat) : ∀ r, r ∈ recL F C l k → okB (sampleD F C) r = true := by
  intro r hr
  obtain ⟨i, _, rfl⟩ := List.mem_map.1 hr
  refine recAt_ok h1 h2 h3 h4 ?_
  rw [List.getD_eq_getElem?_getD]
  cases e : l[2 * i]? with
  | none => simp
  | some x => simpa using hl x (List.mem_of_getElem? e)
end Rc
end

section
open Go.RowKit

namespace Lg
/-- The order of entries: by floor, then by direction. -/
def lessE (a b : En) : Bool := decide (a.f < b.f) || (decide (a.f = b.f) && decide (a.d < b.d))
theorem lessE_iff (a b : En) : lessE a b = true ↔ a.f < b.f ∨ (a.f = b.f ∧ a.d < b.d) := by simp [lessE]
theorem lessE_trans {a b c : En} (h : lessE a b = true) (g : lessE b c = true) : lessE a c = true := by
  rw [lessE_iff] at *; omega
theorem lessE_irr (a : En) : lessE a a = false := by
  cases h : lessE a a
  · rfl
  · rw [lessE_iff] at h; omega
theorem lessE_total {a b : En} (h : lessE a b = false) (hk : ¬ (a.f = b.f ∧ a.d = b.d)) : lessE b a = true := by
  have : ¬ lessE a b = true := by rw [h]; decide
  rw [lessE_iff] at *; omega
/-- Entries in order. -/
def Srt (l : List En) : Prop := l.Pairwise fun a b => lessE a b = true
def sortedB : List En → Bool
  | [] => true
  | [_] => true
  | a :: b :: r => lessE a b && sortedB (b :: r)
theorem sortedB_iff : ∀ l : List En, sortedB l = true ↔ Srt l
  | [] => by simp [sortedB, Srt]
  | [a] => by simp [sortedB, Srt]
  | a :: b :: r => by
    rw [sortedB, Bool.and_eq_true, sortedB_iff (b :: r)]
    unfold Srt
    rw [List.pairwise_cons (a := a)]
    constructor
    · rintro ⟨h, g⟩
      refine ⟨fun c hc => ?_, g⟩
      rcases List.mem_cons.1 hc with rfl | hc
      · exact h
      · exact lessE_trans h ((List.pairwise_cons.1 g).1 c hc)
    · rintro ⟨h, g⟩
      exact ⟨h b List.mem_cons_self, g⟩
/-- An entry of a building. -/
def enB (b : BldD) (e : En) : Bool := isCallF b e.f e.d && (decide (-2 ≤ e.car) && (decide (e.car < b.cars.length) && (decide (0 ≤ e.mv) && decide (e.mv ≤ 255))))
end Lg

/-- An image. -/
structure Img where
  ph : List Int
  fl : List Bool
  lv : List Bool
  en : List En
namespace Img
open Lg
def zero : Img := ⟨[], [], [], []⟩
def phB (p : Int) : Bool := decide (0 ≤ p) && decide (p ≤ 4)
structure Good (b : BldD) (m : Img) : Prop where
  val : validE b = 0
  ph : m.ph.length = b.cars.length
  fl : m.fl.length = b.cars.length
  lv : m.lv.length = b.cars.length
  phs : ∀ p ∈ m.ph, 0 ≤ p ∧ p ≤ 4
  ens : ∀ e ∈ m.en, enB b e = true
  srt : Srt m.en
def isB (b : BldD) (m : Img) : Bool := decide (validE b = 0) && (decide (m.ph.length = b.cars.length) && (decide (m.fl.length = b.cars.length) && (decide (m.lv.length = b.cars.length) && (m.ph.all phB && (m.en.all (enB b) && sortedB m.en)))))
theorem isB_iff {b : BldD} {m : Img} : isB b m = true ↔ Good b m := by
  unfold isB
  simp only [Bool.and_eq_true, decide_eq_true_eq, sortedB_iff, List.all_eq_true, phB]
  constructor
  · rintro ⟨h1, h2, h3, h4, h5, h6, h7⟩
    exact ⟨h1, h2, h3, h4, h5, h6, h7⟩
  · intro h
    exact ⟨h.val, h.ph, h.fl, h.lv, h.phs, h.ens, h.srt⟩
def init (n : Nat) : Img := ⟨List.replicate n 0, List.replicate n false, List.replicate n false, []⟩
theorem init_good {b : BldD} (h : validE b = 0) : Good b (init b.cars.length) :=
  ⟨h, by simp [init], by simp [init], by simp [init], fun p hp => by
    simp only [init, List.mem_replicate] at hp
    rw [hp.2]; decide, fun e he => by simp [init] at he, List.Pairwise.nil⟩

/-- The place of a call's entry. -/
def at_ (l : List En) (f d : Int) : Option Nat := l.findIdx? fun e => decide (e.f = f) && decide (e.d = d)
/-- Another entry, in its place. -/
def ins (e : En) : List En → List En
  | [] => [e]
  | a :: r => if lessE e a then e :: a :: r else a :: ins e r
def applyE (l : List En) (r : Rc) : List En :=
  match at_ l r.floor r.dir with
  | none => if r.kind = 1 then ins ⟨r.floor, r.dir, -1, 0, false⟩ l else l
  | some i => if r.kind = 2 then l.eraseIdx i else if r.kind = 3 then l.modify i (fun e => { e with car := r.car }) else if r.kind = 7 then l.modify i (fun e => { e with mv := r.value, md := decide (r.car = 1) }) else l
def applyM (m : Img) (r : Rc) : Img :=
  if r.kind = 4 then { m with ph := m.ph.set r.car.toNat r.value }
  else if r.kind = 5 then { m with fl := m.fl.set r.car.toNat (decide (r.value = 1)) }
  else if r.kind = 6 then { m with lv := m.lv.set r.car.toNat (decide (r.value = 1)) }
  else { m with en := applyE m.en r }
theorem at_none {l : List En} {f d : Int} (h : at_ l f d = none) : ∀ e ∈ l, ¬ (e.f = f ∧ e.d = d) := by
  unfold at_ at h
  rw [List.findIdx?_eq_none_iff] at h
  intro e he hk
  have := h e he
  simp [hk.1, hk.2] at this
theorem at_some {l : List En} {f d : Int} {i : Nat} (h : at_ l f d = some i) : ∃ hi : i < l.length, (l[i]).f = f ∧ (l[i]).d = d := by
  unfold at_ at h
  rw [List.findIdx?_eq_some_iff_getElem] at h
  obtain ⟨hi, hp, -⟩ := h
  exact ⟨hi, by simpa using hp⟩
theorem ins_mem {e x : En} : ∀ {l : List En}, x ∈ ins e l → x = e ∨ x ∈ l
  | [], h => by simp [ins] at h; exact .inl h
  | a :: r, h => by
    unfold ins at h
    split at h
    · simpa using h
    · rcases List.mem_cons.1 h with rfl | h
      · exact .inr List.mem_cons_self
      · rcases ins_mem h with rfl | h
        · exact .inl rfl
        · exact .inr (List.mem_cons_of_mem _ h)
theorem ins_srt {e : En} : ∀ {l : List En}, Srt l → (∀ x ∈ l, ¬ (x.f = e.f ∧ x.d = e.d)) → Srt (ins e l)
  | [], _, _ => List.pairwise_singleton _ _
  | a :: r, h, hk => by
    have h1 := List.pairwise_cons.1 h
    unfold ins
    split
    · rename_i hl
      refine List.pairwise_cons.2 ⟨fun x hx => ?_, h⟩
      rcases List.mem_cons.1 hx with rfl | hx
      · exact hl
      · exact lessE_trans hl (h1.1 x hx)
    · rename_i hl
      have hl' : lessE e a = false := by simpa using hl
      have hae : lessE a e = true := lessE_total hl' (fun hh => hk a List.mem_cons_self ⟨hh.1.symm, hh.2.symm⟩)
      refine List.pairwise_cons.2 ⟨fun x hx => ?_, ins_srt h1.2 fun x hx => hk x (List.mem_cons_of_mem _ hx)⟩
      rcases ins_mem hx with rfl | hx
      · exact hae
      · exact h1.1 x hx
/-- The last place: behind all others. -/
theorem ins_last {e : En} : ∀ {l : List En}, (∀ x ∈ l, lessE x e = true) → ins e l = l ++ [e]
  | [], _ => rfl
  | a :: r, h => by
    have ha := h a List.mem_cons_self
    have hn : lessE e a = false := by
      cases hh : lessE e a
      · rfl
      · have := lessE_trans ha hh
        rw [lessE_irr] at this; cases this
    unfold ins
    rw [hn, ins_last fun x hx => h x (List.mem_cons_of_mem _ hx)]
    rfl
theorem modify_srt {l : List En} (h : Srt l) (i : Nat) {g : En → En} (hg : ∀ e, (g e).f = e.f ∧ (g e).d = e.d) : Srt (l.modify i g) := by
  unfold Srt at *
  rw [List.pairwise_iff_getElem] at *
  intro j k hj hk hjk
  rw [List.length_modify] at hj hk
  have := h j k hj hk hjk
  rw [List.getElem_modify, List.getElem_modify]
  rw [lessE_iff] at *
  have e1 := hg l[j]
  have e2 := hg l[k]
  split <;> split <;> (try rw [e1.1, e1.2]) <;> (try rw [e2.1, e2.2]) <;> exact this
theorem modify_mem {l : List En} {i : Nat} {g : En → En} {x : En} (h : x ∈ l.modify i g) : x ∈ l ∨ ∃ y ∈ l, x = g y := by
  obtain ⟨j, hj, rfl⟩ := List.getElem_of_mem h
  rw [List.length_modify] at hj
  rw [List.getElem_modify]
  split
  · exact .inr ⟨_, List.getElem_mem hj, rfl⟩
  · exact .inl (List.getElem_mem hj)
theorem callB_of {b : BldD} {r : Rc} (h : Rc.okB b r = true) (hk : ¬ (r.kind = 4 ∨ r.kind = 5 ∨ r.kind = 6)) : isCallF b r.floor r.dir = true := by
  unfold Rc.okB at h
  split at h
  · exact (Bool.and_eq_true _ _ ▸ h).1
  split at h
  · exact (Bool.and_eq_true _ _ ▸ h).1
  split at h
  · omega
  split at h
  · omega
  split at h
  · exact (Bool.and_eq_true _ _ ▸ h).1
  · cases h
theorem applyM_good {b : BldD} {m : Img} {r : Rc} (h : Good b m) (hr : Rc.okB b r = true) : Good b (applyM m r) := by
  have hR := Rc.ok_of hr
  unfold applyM
  split
  · rename_i hk
    have hv : 0 ≤ r.value ∧ r.value ≤ 4 := by
      unfold Rc.okB at hr
      rw [if_neg (by omega), if_neg (by omega), if_pos hk, Bool.and_eq_true] at hr
      have := hr.2
      simp [Rc.fitB] at this
      omega
    exact ⟨h.val, by simp [h.ph], h.fl, h.lv, fun p hp => by
      rcases List.mem_or_eq_of_mem_set hp with hp | rfl
      · exact h.phs p hp
      · exact hv, h.ens, h.srt⟩
  split
  · exact ⟨h.val, h.ph, by simp [h.fl], h.lv, h.phs, h.ens, h.srt⟩
  split
  · exact ⟨h.val, h.ph, h.fl, by simp [h.lv], h.phs, h.ens, h.srt⟩
  rename_i k4 k5 k6
  have hcall := callB_of hr (by omega)
  have key : (∀ e ∈ applyE m.en r, enB b e = true) ∧ Srt (applyE m.en r) := by
    unfold applyE
    split
    · rename_i hat
      split
      · refine ⟨fun e he => ?_, ins_srt h.srt (at_none hat)⟩
        rcases ins_mem he with rfl | he
        · simp [enB, hcall]
          have := (fine_of h.val).cars.1
          omega
        · exact h.ens e he
      · exact ⟨h.ens, h.srt⟩
    · split
      · exact ⟨fun e he => h.ens e (List.mem_of_mem_eraseIdx he), h.srt.sublist (List.eraseIdx_sublist ..)⟩
      split
      · rename_i k3
        refine ⟨fun e he => ?_, modify_srt h.srt _ fun e => ⟨rfl, rfl⟩⟩
        rcases modify_mem he with he | ⟨y, hy, rfl⟩
        · exact h.ens e he
        · have := h.ens y hy
          have hf : Rc.fitB r (-2) (b.cars.length - 1) 0 = true := by
            unfold Rc.okB at hr
            rw [if_neg (by omega), if_pos k3, Bool.and_eq_true] at hr
            exact hr.2
          simp [enB, Rc.fitB] at this hf ⊢
          exact ⟨this.1, by omega, by omega, this.2.2.2.1, this.2.2.2.2⟩
      split
      · rename_i k7
        refine ⟨fun e he => ?_, modify_srt h.srt _ fun e => ⟨rfl, rfl⟩⟩
        rcases modify_mem he with he | ⟨y, hy, rfl⟩
        · exact h.ens e he
        · have := h.ens y hy
          simp [enB] at this ⊢
          exact ⟨this.1, this.2.1, this.2.2.1, by omega, by omega⟩
      · exact ⟨h.ens, h.srt⟩
  exact ⟨h.val, h.ph, h.fl, h.lv, h.phs, key.1, key.2⟩
end Img
end

section
open Go.RowKit

namespace Img
open Lg
def one (c : Bool) : Int := if c then 1 else 0
theorem one_is (c : Bool) : decide (one c = 1) = c := by cases c <;> rfl
/-- The records of a car, and of an entry. -/
def carR (m : Img) (i : Nat) : List Rc := [⟨4, 0, 0, i, m.ph.getD i 0⟩, ⟨5, 0, 0, i, one (m.fl.getD i false)⟩, ⟨6, 0, 0, i, one (m.lv.getD i false)⟩]
def entR (e : En) : List Rc := [⟨1, e.f, e.d, 0, 0⟩, ⟨3, e.f, e.d, e.car, 0⟩, ⟨7, e.f, e.d, one e.md, e.mv⟩]
def snapM (m : Img) : List Rc := (List.range m.ph.length).flatMap (carR m) ++ m.en.flatMap entR
theorem snapM_len (m : Img) : (snapM m).length = 3 * (m.ph.length + m.en.length) := by
  have h1 : ∀ k, ((List.range k).flatMap (carR m)).length = 3 * k := fun k => by
    induction k with
    | zero => rfl
    | succ k ih => rw [List.range_succ, List.flatMap_append, List.length_append, ih]; simp [carR]; omega
  have h2 : ∀ l : List En, (l.flatMap entR).length = 3 * l.length := fun l => by
    induction l with
    | nil => rfl
    | cons e l ih => rw [List.flatMap_cons, List.length_append, ih, List.length_cons]; show 3 + _ = _; omega
  rw [snapM, List.length_append, h1, h2]; omega
theorem set_step {α : Type} (l : List α) (x y : α) {k : Nat} (hk : k < l.length) : (l.take k ++ List.replicate (l.length - k) x).set k (l.getD k y) = l.take (k + 1) ++ List.replicate (l.length - (k + 1)) x := by
  have e : l.length - k = (l.length - (k + 1)) + 1 := by omega
  rw [e, List.replicate_succ, ← List.take_append_getElem hk, List.append_assoc]
  have hl : (l.take k).length = k := by rw [List.length_take]; omega
  rw [List.set_append_right _ _ (by omega), hl, Nat.sub_self, List.set_cons_zero]
  simp [List.getD, hk]
def part (m : Img) (k : Nat) : Img := ⟨m.ph.take k ++ List.replicate (m.ph.length - k) 0, m.fl.take k ++ List.replicate (m.fl.length - k) false, m.lv.take k ++ List.replicate (m.lv.length - k) false, []⟩
theorem cars_fold {b : BldD} {m : Img} (h : Good b m) : ∀ k, k ≤ b.cars.length → ((List.range k).flatMap (carR m)).foldl applyM (init b.cars.length) = part m k
  | 0, _ => by
    show init b.cars.length = part m 0
    unfold part init
    rw [h.ph, h.fl, h.lv]
    simp
  | k + 1, hk => by
    rw [List.range_succ, List.flatMap_append, List.foldl_append, cars_fold h k (by omega)]
    have e1 := set_step m.ph 0 0 (show k < m.ph.length by rw [h.ph]; omega)
    have e2 := set_step m.fl false false (show k < m.fl.length by rw [h.fl]; omega)
    have e3 := set_step m.lv false false (show k < m.lv.length by rw [h.lv]; omega)
    have t1 : ((k : Nat) : Int).toNat = k := rfl
    simp only [List.flatMap_cons, List.flatMap_nil, List.append_nil, carR, List.foldl_cons, List.foldl_nil, applyM, part, t1, one_is]
    simp only [e1, e2, e3, if_true, if_false, show ¬ (5 : Int) = 4 by decide, show ¬ (6 : Int) = 4 by decide, show ¬ (6 : Int) = 5 by decide]
theorem at_new {l : List En} {e : En} (h : ∀ x ∈ l, ¬ (x.f = e.f ∧ x.d = e.d)) {y : En} (hy : y.f = e.f ∧ y.d = e.d) : at_ (l ++ [y]) e.f e.d = some l.length := by
  unfold at_
  rw [List.findIdx?_append]
  have hn : l.findIdx? (fun x => decide (x.f = e.f) && decide (x.d = e.d)) = none := by
    rw [List.findIdx?_eq_none_iff]
    intro x hx
    have := h x hx
    cases hh : (decide (x.f = e.f) && decide (x.d = e.d))
    · rfl
    · simp at hh; exact absurd hh this
  rw [hn]
  simp [List.findIdx?_cons, hy.1, hy.2]
theorem at_not {l : List En} {f d : Int} (h : ∀ x ∈ l, ¬ (x.f = f ∧ x.d = d)) : at_ l f d = none := by
  unfold at_
  rw [List.findIdx?_eq_none_iff]
  intro x hx
  have := h x hx
  cases hh : (decide (x.f = f) && decide (x.d = d))
  · rfl
  · simp at hh; exact absurd hh this
theorem modify_last {l : List En} (x : En) (g : En → En) : (l ++ [x]).modify l.length g = l ++ [g x] := by
  induction l with
  | nil => rfl
  | cons a l ih => simp [List.modify_succ_cons, ih]
theorem applyM_en (m : Img) (r : Rc) (h : 3 < r.kind → 6 < r.kind) : applyM m r = { m with en := applyE m.en r } := by
  unfold applyM
  rw [if_neg (by omega), if_neg (by omega), if_neg (by omega)]
theorem ent_step {m : Img} {e : En} (h : ∀ x ∈ m.en, lessE x e = true) : (entR e).foldl applyM m = { m with en := m.en ++ [e] } := by
  have hk : ∀ x ∈ m.en, ¬ (x.f = e.f ∧ x.d = e.d) := fun x hx hh => by
    have := h x hx
    rw [lessE_iff] at this
    omega
  have hl := ins_last (e := ⟨e.f, e.d, -1, 0, false⟩) (l := m.en) (fun x hx => by have := h x hx; rw [lessE_iff] at this ⊢; exact this)
  have a1 := at_not hk
  have a2 := at_new hk (y := ⟨e.f, e.d, -1, 0, false⟩) ⟨rfl, rfl⟩
  have a3 := at_new hk (y := ⟨e.f, e.d, e.car, 0, false⟩) ⟨rfl, rfl⟩
  have s1 : applyM m ⟨1, e.f, e.d, 0, 0⟩ = { m with en := m.en ++ [⟨e.f, e.d, -1, 0, false⟩] } := by
    rw [applyM_en _ _ (by simp)]
    unfold applyE
    rw [a1]
    simp only [if_true]
    rw [hl]
  have s2 : applyM { m with en := m.en ++ [⟨e.f, e.d, -1, 0, false⟩] } ⟨3, e.f, e.d, e.car, 0⟩ = { m with en := m.en ++ [⟨e.f, e.d, e.car, 0, false⟩] } := by
    rw [applyM_en _ _ (by simp)]
    unfold applyE
    simp only
    rw [a2]
    simp only [if_true, show ¬ (3 : Int) = 2 by decide, if_false]
    rw [modify_last]
  have s3 : applyM { m with en := m.en ++ [⟨e.f, e.d, e.car, 0, false⟩] } ⟨7, e.f, e.d, one e.md, e.mv⟩ = { m with en := m.en ++ [e] } := by
    rw [applyM_en _ _ (by simp)]
    unfold applyE
    simp only
    rw [a3]
    simp only [if_true, show ¬ (7 : Int) = 2 by decide, show ¬ (7 : Int) = 3 by decide, if_false]
    rw [modify_last]
    simp only [one_is]
  simp only [entR, List.foldl_cons, List.foldl_nil]
  rw [s1, s2, s3]
theorem ents_fold : ∀ (l : List En) (m : Img), Srt (m.en ++ l) → (l.flatMap entR).foldl applyM m = { m with en := m.en ++ l }
  | [], m, _ => by simp
  | e :: l, m, h => by
    rw [List.flatMap_cons, List.foldl_append]
    have h1 : ∀ x ∈ m.en, lessE x e = true := fun x hx => (List.pairwise_append.1 h).2.2 x hx e List.mem_cons_self
    rw [ent_step h1, ents_fold l _ (by simpa [List.append_assoc] using h)]
    simp
/-- THE SNAPSHOT: its records make the image again. -/
theorem snap_fold {b : BldD} {m : Img} (h : Good b m) : (snapM m).foldl applyM (init b.cars.length) = m := by
  unfold snapM
  rw [List.foldl_append, h.ph, cars_fold h _ (Nat.le_refl _)]
  have e : part m b.cars.length = { m with en := [] } := by
    unfold part
    rw [h.ph, h.fl, h.lv, List.take_of_length_le (by rw [h.ph]; omega), List.take_of_length_le (by rw [h.fl]; omega), List.take_of_length_le (by rw [h.lv]; omega)]
    simp
  rw [e, ents_fold _ _ (by simpa using h.srt)]
  simp
theorem one_le (c : Bool) : 0 ≤ one c ∧ one c ≤ 1 := by cases c <;> decide
theorem carB_of {b : BldD} (h : validE b = 0) (k c v : Int) : Rc.carB b ⟨k, 0, 0, c, v⟩ = true := by simp [Rc.carB, h]
theorem snap_ok {b : BldD} {m : Img} (h : Good b m) : ∀ r ∈ snapM m, Rc.okB b r = true := by
  intro r hr
  unfold snapM at hr
  rcases List.mem_append.1 hr with hr | hr
  · obtain ⟨i, hi, hr⟩ := List.mem_flatMap.1 hr
    rw [List.mem_range, h.ph] at hi
    have hp : 0 ≤ m.ph.getD i 0 ∧ m.ph.getD i 0 ≤ 4 := by
      have hi' : i < m.ph.length := by rw [h.ph]; exact hi
      rw [List.getD_eq_getElem?_getD, List.getElem?_eq_getElem hi']
      exact h.phs _ (List.getElem_mem hi')
    have h1 := one_le (m.fl.getD i false)
    have h2 := one_le (m.lv.getD i false)
    simp only [carR, List.mem_cons, List.not_mem_nil, or_false] at hr
    rcases hr with rfl | rfl | rfl
    · simp only [Rc.okB, carB_of h.val, Rc.fitB]; simp; simp only [List.getD_eq_getElem?_getD] at hp h1 h2; omega
    · simp only [Rc.okB, carB_of h.val, Rc.fitB]; simp; simp only [List.getD_eq_getElem?_getD] at hp h1 h2; omega
    · simp only [Rc.okB, carB_of h.val, Rc.fitB]; simp; simp only [List.getD_eq_getElem?_getD] at hp h1 h2; omega
  · obtain ⟨e, he, hr⟩ := List.mem_flatMap.1 hr
    have hE := h.ens e he
    have h1 := one_le e.md
    simp only [entR, List.mem_cons, List.not_mem_nil, or_false] at hr
    simp [enB] at hE
    rcases hr with rfl | rfl | rfl
    · simp [Rc.okB, Rc.callB, hE.1, Rc.fitB]
    · simp [Rc.okB, Rc.callB, hE.1, Rc.fitB]; omega
    · simp [Rc.okB, Rc.callB, hE.1, Rc.fitB]; omega
end Img
end

section
open Go.RowKit

namespace Lg
open Img
end Lg
end

section
open Go.RowKit

namespace Rc
/-- Whole records, and less than one more behind them. -/
theorem cnt_join {b : BldD} {x : List Rc} (h : ∀ r, r ∈ x → okB b r = true) {t : List UInt8} (ht : t.length < 6) : isCnt b (joinS x ++ t) x.length ∧ recsOf b (joinS x ++ t) x.length = x := by
  refine ⟨⟨run_join h t, fun e => ?_⟩, ?_⟩
  · have := decE_len e
    unfold cutL at this
    rw [List.length_take, List.length_drop, List.length_append, joinS_len] at this
    omega
  · have := recs_join h t (Nat.le_refl x.length)
    rw [List.take_of_length_le (by rw [recsOf_len]; omega)] at this
    exact this
end Rc
namespace Lg
open Img
/-- The image behind records, beginning with that of a new building. -/
def rep (b : BldD) (x : List Rc) : Img := x.foldl applyM (init b.cars.length)
theorem rep_snoc (b : BldD) (x : List Rc) (r : Rc) : rep b (x ++ [r]) = applyM (rep b x) r := by unfold rep; rw [List.foldl_append]; rfl
theorem fold_good {b : BldD} {x : List Rc} : ∀ {m : Img}, Img.Good b m → (∀ r ∈ x, Rc.okB b r = true) → Img.Good b (x.foldl applyM m) := by
  induction x with
  | nil => exact fun h _ => h
  | cons r x ih => exact fun h hx => ih (applyM_good h (hx r List.mem_cons_self)) fun q hq => hx q (List.mem_cons_of_mem _ hq)
theorem rep_good {b : BldD} (hv : validE b = 0) {x : List Rc} (hx : ∀ r ∈ x, Rc.okB b r = true) : Img.Good b (rep b x) := fold_good (init_good hv) hx
/-- What a text is replayed to. -/
def Rpl (b : BldD) (l : List UInt8) (m : Img) : Prop := ∃ k, Rc.isCnt b l k ∧ m = rep b (Rc.recsOf b l k)
theorem rpl_one {b : BldD} {l : List UInt8} {m q : Img} (h : Rpl b l m) (g : Rpl b l q) : m = q := by
  obtain ⟨k, h1, rfl⟩ := h
  obtain ⟨j, g1, rfl⟩ := g
  rw [Rc.cnt_one h1 g1]
theorem rpl_join {b : BldD} {x : List Rc} (h : ∀ r ∈ x, Rc.okB b r = true) {t : List UInt8} (ht : t.length < 6) : Rpl b (Rc.joinS x ++ t) (rep b x) :=
  ⟨x.length, (Rc.cnt_join h ht).1, by rw [(Rc.cnt_join h ht).2]⟩
/-- The bytes of records. -/
def bytesR (x : List Rc) : ByteArray := ⟨(Rc.joinS x).toArray⟩
theorem bytesR_size (x : List Rc) : (bytesR x).size = 6 * x.length := by
  show (Rc.joinS x).toArray.size = _
  rw [List.size_toArray, Rc.joinS_len]
theorem bytesR_app (x y : List Rc) : bytesR x ++ bytesR y = bytesR (x ++ y) := by
  apply ba_ext
  rw [ba_app]
  show Rc.joinS x ++ Rc.joinS y = Rc.joinS (x ++ y)
  unfold Rc.joinS
  rw [List.flatMap_append]
/-- Is there room for another call? -/
def roomB (b : BldD) (m : Img) : Bool := isB b m && decide (18 * ((b.cars.length : Int) + m.en.length + 1) + 6 ≤ b.room)
def okS (b : BldD) (s : St) (bud : Int) : Bool := decide (validE b = 0) && (St.isB b.room s && decide (0 ≤ bud))
def compactF (b : BldD) (s : St) (m : Img) (bud : Int) : St × Int × Int :=
  if okS b s bud && isB b m then
    let e := St.eraseF b.room s (1 - s.sel) bud
    if e.2.2 = 0 then
      let w := St.writeF b.room e.1 (1 - s.sel) (bytesR (snapM m)) e.2.1
      if w.2.2 = 0 then St.chooseF b.room w.1 (1 - s.sel) w.2.1 else (w.1, 0, w.2.2)
    else (e.1, 0, e.2.2)
  else (St.zero, 0, 1)
theorem chk_ok {room : Int} {s : St} {h bud : Int} (hB : St.isB room s = true) (hh : h = 0 ∨ h = 1) (hb : 0 ≤ bud) : St.chk room s h bud = 0 := by
  unfold St.chk
  rw [if_neg (by rw [hB]; decide), if_neg (by omega)]
theorem put_isB {room : Int} {s : St} (hB : St.isB room s = true) (h : Int) {x : ByteArray} (hx : (x.size : Int) ≤ room) : St.isB room (s.put h x) = true := by
  have := St.isB_of hB
  unfold St.put
  split
  · simp only [St.isB, decide_eq_true_eq]; exact ⟨this.1, this.2.1, this.2.2.1, hx, this.2.2.2.2⟩
  · simp only [St.isB, decide_eq_true_eq]; exact ⟨this.1, this.2.1, hx, this.2.2.2.1, this.2.2.2.2⟩
theorem put_sel (s : St) (h : Int) (x : ByteArray) : (s.put h x).sel = s.sel := by unfold St.put; split <;> rfl
theorem put_get (s : St) (h : Int) (x : ByteArray) : (s.put h x).get h = x := by
  unfold St.put St.get
  by_cases hh : h = 1
  · rw [if_pos hh, if_pos hh]
  · rw [if_neg hh, if_neg hh]
theorem put_put (s : St) (h : Int) (x y : ByteArray) : (s.put h x).put h y = s.put h y := by
  unfold St.put
  by_cases hh : h = 1
  · simp only [if_pos hh]
  · simp only [if_neg hh]
/-- A store into the half that does not count. -/
theorem put_cur {s : St} (hs : s.sel = 0 ∨ s.sel = 1) (x : ByteArray) : (s.put (1 - s.sel) x).cur = s.cur := by
  unfold St.put St.cur
  rcases hs with h | h
  · rw [h]; simp
  · rw [h]; simp
theorem erase_zero {room : Int} {s : St} {h : Int} (hB : St.isB room s = true) (hh : h = 0 ∨ h = 1) : St.eraseF room s h 0 = (s, 0, 8) := by
  unfold St.eraseF
  rw [if_pos (chk_ok hB hh (by omega)), if_pos rfl]
theorem erase_pos {room : Int} {s : St} {h bud : Int} (hB : St.isB room s = true) (hh : h = 0 ∨ h = 1) (hb : 0 < bud) : St.eraseF room s h bud = (s.put h ⟨#[]⟩, bud - 1, 0) := by
  unfold St.eraseF
  rw [if_pos (chk_ok hB hh (by omega)), if_neg (by omega)]
theorem write_short {room : Int} {s : St} {h bud : Int} {d : ByteArray} (hB : St.isB room s = true) (hh : h = 0 ∨ h = 1) (hr : ((s.get h).size : Int) + d.size ≤ room) (hb : 0 ≤ bud) (hd : bud < d.size) :
    St.writeF room s h d bud = (s.put h (s.get h ++ d.extract 0 bud.toNat), 0, 8) := by
  unfold St.writeF
  rw [if_pos (chk_ok hB hh hb), if_neg (by omega), if_pos hd]
theorem write_all {room : Int} {s : St} {h bud : Int} {d : ByteArray} (hB : St.isB room s = true) (hh : h = 0 ∨ h = 1) (hr : ((s.get h).size : Int) + d.size ≤ room) (hd : d.size ≤ bud) :
    St.writeF room s h d bud = (s.put h (s.get h ++ d), bud - d.size, 0) := by
  unfold St.writeF
  rw [if_pos (chk_ok hB hh (by omega)), if_neg (by omega), if_neg (by omega)]
theorem choose_zero {room : Int} {s : St} {h : Int} (hB : St.isB room s = true) (hh : h = 0 ∨ h = 1) : St.chooseF room s h 0 = (s, 0, 8) := by
  unfold St.chooseF
  rw [if_pos (chk_ok hB hh (by omega)), if_pos rfl]
theorem choose_pos {room : Int} {s : St} {h bud : Int} (hB : St.isB room s = true) (hh : h = 0 ∨ h = 1) (hb : 0 < bud) : St.chooseF room s h bud = (⟨s.a, s.b, h⟩, bud - 1, 0) := by
  unfold St.chooseF
  rw [if_pos (chk_ok hB hh (by omega)), if_neg (by omega)]
theorem nil_app (d : ByteArray) : (⟨#[]⟩ : ByteArray) ++ d = d := by
  apply ba_ext
  rw [ba_app]
  rfl
/-- What a Compact leaves: all is done, or the current half is as it was. -/
theorem compact_cases {b : BldD} {s : St} {m : Img} {bud : Int} (hs : okS b s bud = true) (hm : Img.Good b m) (hr : (6 * (snapM m).length : Int) ≤ b.room) :
    (bud < 2 + 6 * (snapM m).length ∧ ∃ s', compactF b s m bud = (s', 0, 8) ∧ s'.sel = s.sel ∧ s'.cur = s.cur ∧ St.isB b.room s' = true) ∨
    (2 + 6 * (snapM m).length ≤ bud ∧ ∃ s', compactF b s m bud = (s', bud - (2 + 6 * (snapM m).length), 0) ∧ s'.sel = 1 - s.sel ∧ s'.cur = bytesR (snapM m) ∧ St.isB b.room s' = true) := by
  have hs' := hs
  simp only [okS, Bool.and_eq_true, decide_eq_true_eq] at hs'
  obtain ⟨hv, hB, hb0⟩ := hs'
  have hsel := (St.isB_of hB).2.2.2.2
  have hh : 1 - s.sel = 0 ∨ 1 - s.sel = 1 := by omega
  have hz := bytesR_size (snapM m)
  have hz2 : (⟨#[]⟩ : ByteArray).size = 0 := rfl
  have hroom := (St.isB_of hB).1
  have hD : ((bytesR (snapM m)).size : Int) = 6 * (snapM m).length := by rw [hz]; omega
  unfold compactF
  rw [hs, isB_iff.2 hm]
  simp only [Bool.and_self, if_true]
  generalize bytesR (snapM m) = D at *
  generalize ((snapM m).length : Int) = L at *
  rcases (show bud = 0 ∨ 0 < bud by omega) with rfl | hb
  · left
    rw [erase_zero hB hh]
    simp only [show ¬ (8 : Int) = 0 by decide, if_false]
    exact ⟨by omega, s, rfl, rfl, rfl, hB⟩
  rw [erase_pos hB hh hb]
  simp only [if_true]
  have hB1 : St.isB b.room (s.put (1 - s.sel) ⟨#[]⟩) = true := put_isB hB _ (by rw [hz2]; omega)
  have hg1 : (s.put (1 - s.sel) ⟨#[]⟩).get (1 - s.sel) = ⟨#[]⟩ := put_get _ _ _
  rcases (show bud - 1 < L * 6 ∨ L * 6 ≤ bud - 1 by omega) with hw | hw
  · left
    rw [write_short hB1 hh (by rw [hg1, hz2]; omega) (by omega) (by omega)]
    simp only [show ¬ (8 : Int) = 0 by decide, if_false]
    rw [hg1, nil_app, put_put]
    exact ⟨by omega, _, rfl, put_sel _ _ _, put_cur hsel _, put_isB hB _ (by rw [ba_csize]; omega)⟩
  rw [write_all hB1 hh (by rw [hg1, hz2]; omega) (by omega)]
  simp only [if_true]
  rw [hg1, nil_app, put_put]
  have hB2 : St.isB b.room (s.put (1 - s.sel) D) = true := put_isB hB _ (by omega)
  rcases (show bud - 1 - (D.size : Int) = 0 ∨ 0 < bud - 1 - (D.size : Int) by omega) with hc | hc
  · left
    rw [hc, choose_zero hB2 hh]
    exact ⟨by omega, _, rfl, put_sel _ _ _, put_cur hsel _, hB2⟩
  · right
    rw [choose_pos hB2 hh hc]
    refine ⟨by omega, ⟨(s.put (1 - s.sel) D).a, (s.put (1 - s.sel) D).b, 1 - s.sel⟩, ?_, rfl, ?_, ?_⟩
    · rw [show bud - 1 - (D.size : Int) - 1 = bud - (2 + 6 * L) by omega]
    · exact put_get s (1 - s.sel) D
    · have := St.isB_of hB2
      simp only [St.isB, decide_eq_true_eq]
      exact ⟨this.1, this.2.1, this.2.2.1, this.2.2.2.1, hh⟩
end Lg
end

section
open Go.RowKit

namespace Lg
open Img
/-- Is an entry's call ahead of this one? -/
def lessK (f d : Int) (e : En) : Bool := decide (e.f < f) || (decide (e.f = f) && decide (e.d < d))
theorem lessK_iff (f d : Int) (e : En) : lessK f d e = true ↔ e.f < f ∨ (e.f = f ∧ e.d < d) := by simp [lessK]
/-- How many entries are ahead of a call. -/
def pos (l : List En) (f d : Int) : Nat := (l.takeWhile (lessK f d)).length
theorem pos_le (l : List En) (f d : Int) : pos l f d ≤ l.length := by
  unfold pos
  exact (List.takeWhile_sublist _).length_le
theorem pos_iff {f d : Int} : ∀ {l : List En}, Srt l → ∀ {i : Nat} (hi : i < l.length), lessK f d l[i] = true ↔ i < pos l f d
  | a :: r, h, i, hi => by
    have h1 := List.pairwise_cons.1 h
    unfold pos
    by_cases ha : lessK f d a = true
    · rw [List.takeWhile_cons_of_pos ha, List.length_cons]
      cases i with
      | zero => simp [ha]
      | succ i =>
        have := pos_iff (f := f) (d := d) h1.2 (i := i) (by simpa using hi)
        unfold pos at this
        rw [List.getElem_cons_succ, this]
        omega
    · rw [List.takeWhile_cons_of_neg ha]
      simp only [List.length_nil, Nat.not_lt_zero, iff_false]
      cases i with
      | zero => exact ha
      | succ i =>
        intro hh
        refine ha ?_
        have := h1.1 _ (List.getElem_mem (show i < r.length by simpa using hi))
        rw [List.getElem_cons_succ] at hh
        rw [lessE_iff] at this
        rw [lessK_iff] at hh ⊢
        omega
/-- Is there an entry of the call at its place? -/
def fndB (l : List En) (f d : Int) : Bool := match l[pos l f d]? with | some e => decide (e.f = f) && decide (e.d = d) | none => false
theorem fnd_iff {l : List En} {f d : Int} : fndB l f d = true ↔ ∃ h : pos l f d < l.length, (l[pos l f d]).f = f ∧ (l[pos l f d]).d = d := by
  unfold fndB
  rcases Nat.lt_or_ge (pos l f d) l.length with h | h
  · rw [List.getElem?_eq_getElem h]; simp [h]
  · rw [List.getElem?_eq_none h]; simp; omega
theorem fnd_of {l : List En} {f d : Int} (h : pos l f d < l.length) : fndB l f d = (decide ((l[pos l f d]).f = f) && decide ((l[pos l f d]).d = d)) := by
  unfold fndB; rw [List.getElem?_eq_getElem h]
theorem fnd_end {l : List En} {f d : Int} (h : ¬ pos l f d < l.length) : fndB l f d = false := by
  unfold fndB; rw [List.getElem?_eq_none (by omega)]
theorem at_of_fnd {l : List En} {f d : Int} (hs : Srt l) (h : fndB l f d = true) : at_ l f d = some (pos l f d) := by
  obtain ⟨hl, h1, h2⟩ := fnd_iff.1 h
  unfold at_
  rw [List.findIdx?_eq_some_iff_getElem]
  refine ⟨hl, by simp [h1, h2], fun j hj => ?_⟩
  have := (pos_iff (f := f) (d := d) hs (show j < l.length by omega)).2 hj
  rw [lessK_iff] at this
  simp
  omega
theorem key_pos {l : List En} {f d : Int} (hs : Srt l) {i : Nat} (hi : i < l.length) (hf : (l[i]).f = f) (hd : (l[i]).d = d) : i = pos l f d := by
  have h1 : ¬ i < pos l f d := by
    rw [← pos_iff hs hi, lessK_iff]; omega
  rcases Nat.lt_or_ge (pos l f d) i with h2 | h2
  · have h3 : ¬ lessK f d l[pos l f d] = true := by rw [pos_iff hs (by omega)]; omega
    unfold Srt at hs
    rw [List.pairwise_iff_getElem] at hs
    have := hs (pos l f d) i (by omega) hi h2
    rw [lessE_iff] at this
    rw [lessK_iff] at h3
    omega
  · omega
theorem at_of_not {l : List En} {f d : Int} (hs : Srt l) (h : fndB l f d = false) : at_ l f d = none := by
  unfold at_
  rw [List.findIdx?_eq_none_iff]
  intro e he
  obtain ⟨i, hi, rfl⟩ := List.getElem_of_mem he
  cases hh : (decide ((l[i]).f = f) && decide ((l[i]).d = d))
  · rfl
  · simp at hh
    have hp := key_pos hs hi hh.1 hh.2
    have : fndB l f d = true := fnd_iff.2 ⟨by omega, by simp only [← hp]; exact hh⟩
    rw [this] at h; cases h
theorem ins_pos {e : En} : ∀ {l : List En}, (∀ x ∈ l, ¬ (x.f = e.f ∧ x.d = e.d)) → ins e l = l.take (pos l e.f e.d) ++ e :: l.drop (pos l e.f e.d)
  | [], _ => rfl
  | a :: r, h => by
    unfold ins pos
    by_cases ha : lessK e.f e.d a = true
    · have : lessE e a = false := by
        cases hh : lessE e a
        · rfl
        · rw [lessE_iff] at hh; rw [lessK_iff] at ha; omega
      rw [this, List.takeWhile_cons_of_pos ha, List.length_cons, List.take_succ_cons, List.drop_succ_cons]
      have ih := ins_pos (e := e) (l := r) fun x hx => h x (List.mem_cons_of_mem _ hx)
      unfold pos at ih
      rw [ih]; rfl
    · have : lessE e a = true := by
        have := h a List.mem_cons_self
        rw [lessE_iff]; rw [lessK_iff] at ha; omega
      rw [this, List.takeWhile_cons_of_neg ha]; rfl
theorem ins_len' (e : En) : ∀ l : List En, (ins e l).length = l.length + 1
  | [] => rfl
  | a :: r => by
    unfold ins
    split
    · rfl
    · rw [List.length_cons, ins_len' e r, List.length_cons]
end Lg
end

section
open Go.RowKit

def flatR (l : List Rc) : List Value := l.flatMap Rc.cells
theorem flatR_nil : flatR [] = [] := rfl
theorem flatR_cons (c : Rc) (l : List Rc) : flatR (c :: l) = c.cells ++ flatR l := rfl
theorem flatR_append (l m : List Rc) : flatR (l ++ m) = flatR l ++ flatR m := by unfold flatR; rw [List.flatMap_append]
theorem flatR_snoc (l : List Rc) (c : Rc) : flatR (l ++ [c]) = flatR l ++ c.cells := by rw [flatR_append, flatR_cons, flatR_nil, List.append_nil]
theorem flatR_length (l : List Rc) : (flatR l).length = l.length * 5 := by
  induction l with
  | nil => rfl
  | cons c l ih => rw [flatR_cons, List.length_append, ih, List.length_cons]; show 5 + _ = _; omega
theorem flatR_get : ∀ (l : List Rc) (i : Nat) (h : i < l.length) (j : Nat), j < 5 → (flatR l)[i * 5 + j]? = (l[i]).cells[j]?
  | c :: l, 0, _, j, hj => by
    rw [flatR_cons, Nat.zero_mul, Nat.zero_add, List.getElem?_append_left (by show j < 5; exact hj)]; rfl
  | c :: l, i + 1, h, j, hj => by
    rw [flatR_cons, List.getElem?_append_right (by show 5 ≤ _; omega), show (i + 1) * 5 + j - c.cells.length = i * 5 + j from by show (i + 1) * 5 + j - 5 = _; omega]
    exact flatR_get l i (by simpa using h) j hj
/-- A list of records at an address, and as a slice. -/
def RAt (w : World) (A : Option Addr) (l : List Rc) : Prop := l = [] ∨ ∃ b off, A = some ⟨b, off, none⟩ ∧ w.rangeAt b off (flatR l)
def RV (w : World) (v : Value) (l : List Rc) : Prop := ∃ A cap, v = .slice A l.length cap ∧ RAt w A l
theorem RAt.below {w w' : World} {A : Option Addr} {l : List Rc} (h : RAt w A l) (hb : Below w.heap.size w w') : RAt w' A l := by
  rcases h with h | ⟨b, off, hA, hr⟩
  · exact .inl h
  · exact .inr ⟨b, off, hA, fun j v hv => (hb.cell (World.block_lt_of_cell? w _ (hr j v hv))).trans (hr j v hv)⟩
theorem RV.below {w w' : World} {v : Value} {l : List Rc} (h : RV w v l) (hb : Below w.heap.size w w') : RV w' v l := by
  obtain ⟨A, cap, hv, hA⟩ := h
  exact ⟨A, cap, hv, hA.below hb⟩
theorem RAt.at_ {w : World} {A : Option Addr} {l : List Rc} (h : RAt w A l) {k : Nat} (hk : k < l.length) :
    ∃ b off, A = some ⟨b, off, none⟩ ∧ b < w.heap.size ∧ w.cell? ⟨b, off + k * 5, none⟩ = some (.int .i64 (l[k]).kind) ∧ w.cell? ⟨b, off + k * 5 + 1, none⟩ = some (.int .i64 (l[k]).floor) ∧ w.cell? ⟨b, off + k * 5 + 2, none⟩ = some (.int .i64 (l[k]).dir) ∧
      w.cell? ⟨b, off + k * 5 + 3, none⟩ = some (.int .i64 (l[k]).car) ∧ w.cell? ⟨b, off + k * 5 + 4, none⟩ = some (.int .i64 (l[k]).value) := by
  rcases h with h | ⟨b, off, hA, hr⟩
  · rw [h] at hk; simp at hk
  · have hc := fun j v (hj : j < 5) (e : (l[k]).cells[j]? = some v) => hr (k * 5 + j) v ((flatR_get l k hk j hj).trans e)
    have h0 := hc 0 _ (by omega) rfl
    refine ⟨b, off, hA, World.block_lt_of_cell? w _ h0, h0, hc 1 _ (by omega) rfl, hc 2 _ (by omega) rfl, hc 3 _ (by omega) rfl, hc 4 _ (by omega) rfl⟩
theorem RV.of_own {w : World} {base n : Nat} {v : Value} {l : List Rc} (h : w.ownsRow base 41 5 v n (flatR l)) : n = l.length ∧ RV w v l := by
  obtain ⟨hl, h | ⟨g, cap, cur, hv, _, hg, _, _, _, ht⟩⟩ := h
  · rw [flatR_length] at hl
    obtain ⟨rfl, rfl⟩ := h
    have : l = [] := List.eq_nil_of_length_eq_zero (by omega)
    subst this
    exact ⟨rfl, none, 0, rfl, .inl rfl⟩
  · rw [flatR_length] at hl
    have hn : n = l.length := by omega
    refine ⟨hn, some ⟨g, 0, none⟩, cap, by rw [hv, hn], .inr ⟨g, 0, rfl, fun j u hu => ?_⟩⟩
    rw [Nat.zero_add, cell_of_row w g j cur _ (0, 0) hg, ← Array.getElem?_toList]
    rw [← ht, List.getElem?_take] at hu
    split at hu
    · exact hu
    · cases hu
theorem rcInfo : (Try.prog.info? 41).map (fun i => (i.zero, i.size, i.bytes)) = some (some (.agg #[.int .i64 0, .int .i64 0, .int .i64 0, .int .i64 0, .int .i64 0]), 5, 40) := by kernel_rfl
end

section
open Go.RowKit

/-- Are two records equal? -/
def Rc.eqB (x y : Rc) : Bool := decide (x = y)
end

section
open Go.RowKit

theorem CarsAt.set {w : World} {B : Nat} {A : Option Addr} {cs : List CarD} (h : CarsAt w B A cs) {p : Addr} (hp : ∀ a, A = some a → a.block ≠ p.block) (v : Value) : CarsAt (w.setCell p v) B A cs := by
  rcases h with h | ⟨b, off, hA, hb, h⟩
  · exact .inl h
  · exact .inr ⟨b, off, hA, hb, fun i hi j hj => (World.cell?_of_block (w := w) (Below.heap_setCell w p v b (hp _ hA))).trans (h i hi j hj)⟩

end

section
open Go.RowKit

namespace Lg
open Img
/-- Is a record refused for lack of room? -/
def fullB (b : BldD) (m : Img) (r : Rc) : Bool := decide (r.kind = 1) && ((at_ m.en r.floor r.dir).isNone && !roomB b m)
def appendF (b : BldD) (s : St) (m : Img) (r : Rc) (bud : Int) : St × Img × Int × Int :=
  if okS b s bud && (isB b m && Rc.okB b r) then
    if fullB b m r then (St.zero, Img.zero, 0, 7)
    else
      let x := if (s.cur.size : Int) + 6 ≤ b.room then St.writeF b.room s s.sel (bytesR [r]) bud else compactF b s (applyM m r) bud
      if x.2.2 = 0 then (x.1, applyM m r, x.2.1, 0) else if x.2.2 = 8 then (x.1, m, 0, 8) else (St.zero, Img.zero, 0, x.2.2)
  else (St.zero, Img.zero, 0, 1)
/-- The current half holds whole records whose image is m, and m has its room. -/
structure Jrn (b : BldD) (s : St) (m : Img) : Prop where
  st : St.isB b.room s = true
  good : Img.Good b m
  room : 18 * ((b.cars.length : Int) + m.en.length) + 6 ≤ b.room
  recs : ∃ x, (∀ r ∈ x, Rc.okB b r = true) ∧ s.cur = bytesR x ∧ rep b x = m
/-- What is left of a store by a power failure. -/
structure Cut (b : BldD) (s : St) (m : Img) : Prop where
  st : St.isB b.room s = true
  good : Img.Good b m
  room : 18 * ((b.cars.length : Int) + m.en.length) + 6 ≤ b.room
  rpl : Rpl b (bl s.cur) m
theorem Jrn.cut {b : BldD} {s : St} {m : Img} (h : Jrn b s m) : Cut b s m := by
  obtain ⟨x, hx, hc, hm⟩ := h.recs
  refine ⟨h.st, h.good, h.room, ?_⟩
  rw [hc]
  have := rpl_join hx (t := []) (by decide)
  rw [List.append_nil, hm] at this
  exact this
theorem ins_len (e : En) : ∀ l : List En, (ins e l).length = l.length + 1
  | [] => rfl
  | a :: r => by
    unfold ins
    split
    · rfl
    · rw [List.length_cons, ins_len e r, List.length_cons]
theorem applyM_len {b : BldD} {m : Img} {r : Rc} (hf : fullB b m r = false) (hm : Img.Good b m) (hr : 18 * ((b.cars.length : Int) + m.en.length) + 6 ≤ b.room) : 18 * ((b.cars.length : Int) + (applyM m r).en.length) + 6 ≤ b.room := by
  unfold applyM
  split
  · exact hr
  split
  · exact hr
  split
  · exact hr
  show 18 * ((b.cars.length : Int) + (applyE m.en r).length) + 6 ≤ b.room
  unfold applyE
  split
  · rename_i hat
    split
    · rename_i hk
      rw [ins_len]
      unfold fullB at hf
      rw [hat] at hf
      simp [hk] at hf
      unfold roomB at hf
      rw [isB_iff.2 hm] at hf
      simp at hf
      omega
    · exact hr
  · split
    · have := (List.eraseIdx_sublist m.en ‹Nat›).length_le
      omega
    split
    · rw [List.length_modify]; exact hr
    split
    · rw [List.length_modify]; exact hr
    · exact hr
theorem cur_get (s : St) : s.get s.sel = s.cur := by
  unfold St.get St.cur; rfl
theorem put_own {s : St} (x : ByteArray) : (s.put s.sel x).cur = x := by
  unfold St.put St.cur
  by_cases hh : s.sel = 1
  · simp [hh]
  · simp [hh]
/-- APPEND, under any budget: all is done, or the journal's image is the one before. -/
theorem append_cases {b : BldD} {s : St} {m : Img} {r : Rc} {bud : Int} (h : Jrn b s m) (hr : Rc.okB b r = true) (hf : fullB b m r = false) (hb : 0 ≤ bud) :
    ∃ need : Int, 6 ≤ need ∧ (need = if (s.cur.size : Int) + 6 ≤ b.room then 6 else 2 + 6 * (snapM (applyM m r)).length) ∧
      ((bud < need ∧ ∃ s', appendF b s m r bud = (s', m, 0, 8) ∧ Cut b s' m) ∨ (need ≤ bud ∧ ∃ s', appendF b s m r bud = (s', applyM m r, bud - need, 0) ∧ Jrn b s' (applyM m r))) := by
  have hg := applyM_good h.good hr
  have hl := applyM_len hf h.good h.room
  have hsel := (St.isB_of h.st).2.2.2.2
  have hok : okS b s bud = true := by simp [okS, h.good.val, h.st, hb]
  have hcur := cur_get s
  have hsix : (bytesR [r]).size = 6 := bytesR_size [r]
  obtain ⟨x, hx, hc, hm⟩ := h.recs
  unfold appendF
  rw [hok, isB_iff.2 h.good, hr, hf]
  simp only [Bool.and_self, if_true, Bool.false_eq_true, if_false]
  by_cases hroom : (s.cur.size : Int) + 6 ≤ b.room
  · simp only [if_pos hroom]
    refine ⟨6, by omega, rfl, ?_⟩
    rcases (show bud < 6 ∨ 6 ≤ bud by omega) with hw | hw
    · left
      rw [write_short h.st hsel (by rw [hcur, hsix]; omega) hb (by rw [hsix]; omega)]
      simp only [show ¬ (8 : Int) = 0 by decide, if_false, if_true]
      refine ⟨hw, _, rfl, put_isB h.st _ (by rw [ba_size, hcur, ba_csize, hsix]; omega), h.good, h.room, ?_⟩
      rw [put_own, hcur, hc]
      have e : bl (bytesR x ++ (bytesR [r]).extract 0 bud.toNat) = Rc.joinS x ++ (bl (bytesR [r])).take bud.toNat := by
        unfold bl
        rw [ba_app, ba_cut]
        simp only [List.drop_zero, Nat.sub_zero]
        rfl
      rw [e]
      have hlt : ((bl (bytesR [r])).take bud.toNat).length < 6 := by rw [List.length_take]; omega
      have := rpl_join hx hlt
      rw [hm] at this
      exact this
    · right
      rw [write_all h.st hsel (by rw [hcur, hsix]; omega) (by rw [hsix]; omega)]
      simp only [if_true]
      refine ⟨hw, _, by rw [hsix]; rfl, put_isB h.st _ (by rw [ba_size, hcur, hsix]; omega), hg, hl, x ++ [r], fun q hq => ?_, ?_, ?_⟩
      · rcases List.mem_append.1 hq with hq | hq
        · exact hx q hq
        · rw [List.mem_singleton.1 hq]; exact hr
      · rw [put_own, hcur, hc, bytesR_app]
      · rw [rep_snoc, hm]
  · simp only [if_neg hroom]
    have hsl := snapM_len (applyM m r)
    rw [hg.ph] at hsl
    have hcar := (fine_of h.good.val).cars.1
    refine ⟨_, by omega, rfl, ?_⟩
    rcases compact_cases hok hg (by rw [hsl]; omega) with ⟨h1, s', h2, h3, h4, h5⟩ | ⟨h1, s', h2, h3, h4, h5⟩
    · left
      rw [h2]
      simp only [show ¬ (8 : Int) = 0 by decide, if_false, if_true]
      refine ⟨h1, s', rfl, h5, h.good, h.room, ?_⟩
      rw [h4]
      exact h.cut.rpl
    · right
      rw [h2]
      simp only [if_true]
      exact ⟨h1, s', rfl, h5, hg, hl, snapM (applyM m r), snap_ok hg, h4, snap_fold hg⟩
/-- RECOVER, under any budget: what is left stands for the same image; all is done, or it can be done again. -/
theorem recover_cases {b : BldD} {s : St} {p : Img} {bud : Int} (h : Cut b s p) (hb : 0 ≤ bud) :
    (bud < 2 + 6 * (snapM p).length ∧ ∃ s', compactF b s p bud = (s', 0, 8) ∧ Cut b s' p) ∨ (2 + 6 * (snapM p).length ≤ bud ∧ ∃ s', compactF b s p bud = (s', bud - (2 + 6 * (snapM p).length), 0) ∧ Jrn b s' p) := by
  have hok : okS b s bud = true := by simp [okS, h.good.val, h.st, hb]
  have hsl := snapM_len p
  rw [h.good.ph] at hsl
  have hr := h.room
  rcases compact_cases hok h.good (by rw [hsl]; omega) with ⟨h1, s', h2, h3, h4, h5⟩ | ⟨h1, s', h2, h3, h4, h5⟩
  · exact .inl ⟨h1, s', h2, h5, h.good, h.room, by rw [h4]; exact h.rpl⟩
  · exact .inr ⟨h1, s', h2, h5, h.good, h.room, snapM p, snap_ok h.good, h4, snap_fold h.good⟩
/-- The journal of a new building. -/
theorem jrn_new {b : BldD} (hv : validE b = 0) (hr : 18 * (b.cars.length : Int) + 6 ≤ b.room) (h2 : b.room ≤ 65536) : Jrn b St.zero (init b.cars.length) := by
  have hc := (fine_of hv).cars.1
  refine ⟨?_, init_good hv, by simp [init]; omega, [], by simp, rfl, rfl⟩
  simp only [St.isB, St.zero, decide_eq_true_eq]
  have hz : ((⟨#[]⟩ : ByteArray).size : Int) = 0 := rfl
  exact ⟨by omega, h2, by omega, by omega, .inl trivial⟩
end Lg
end
end Go.Proofs.Ytifbkoaggjikpaa
