/- The store, plainly. No statement of the seat is proved here. -/
import Derived.Test.YtapkookehogddaaMem
namespace Go.Proofs.Ytapkookehogddaa
open Go.RowKit

theorem ba_ext {a b : ByteArray} (h : a.data.toList = b.data.toList) : a = b := by
  obtain ⟨⟨x⟩⟩ := a
  obtain ⟨⟨y⟩⟩ := b
  simp only at h
  rw [h]
theorem ba_app (a b : ByteArray) : (a ++ b).data.toList = a.data.toList ++ b.data.toList := by
  rw [ByteArray.data_append, Array.toList_append]
theorem ba_cut (a : ByteArray) (i j : Nat) : (a.extract i j).data.toList = (a.data.toList.drop i).take (j - i) := by
  rw [ByteArray.data_extract, Array.toList_extract, List.extract_eq_take_drop]
theorem ba_len (a : ByteArray) : a.data.toList.length = a.size := Array.length_toList
theorem ba_size (a b : ByteArray) : (a ++ b).size = a.size + b.size := by
  rw [← ba_len, ba_app, List.length_append, ba_len, ba_len]
theorem ba_csize (a : ByteArray) (i j : Nat) : (a.extract i j).size = min (j - i) (a.size - i) := by
  rw [← ba_len, ba_cut, List.length_take, List.length_drop, ba_len]
theorem ba_take_len (a : ByteArray) {n : Nat} (h : n ≤ a.size) : (a.extract 0 n).size = n := by rw [ba_csize]; omega
theorem ba_all (a : ByteArray) : a.extract 0 a.size = a := by
  apply ba_ext
  rw [ba_cut, List.drop_zero, List.take_of_length_le]
  rw [ba_len]; omega
theorem ba_none (a : ByteArray) (b : ByteArray) : a ++ b.extract 0 0 = a := by
  apply ba_ext
  rw [ba_app, ba_cut]
  simp
theorem ba_nil (a : ByteArray) : a ++ (⟨#[]⟩ : ByteArray) = a := by
  apply ba_ext
  rw [ba_app]
  simp
theorem ba_step (a d : ByteArray) (i : Nat) : (a ++ d.extract 0 i) ++ d.extract i (i + 1) = a ++ d.extract 0 (i + 1) := by
  apply ba_ext
  rw [ba_app, ba_app, ba_app, ba_cut, ba_cut, ba_cut, List.append_assoc]
  simp only [List.drop_zero, Nat.sub_zero, Nat.add_sub_cancel_left]
  rw [List.take_add]
theorem ba_split (a d : ByteArray) {k n : Nat} (h : k ≤ n) : (a ++ d.extract 0 k) ++ d.extract k n = a ++ d.extract 0 n := by
  apply ba_ext
  rw [ba_app, ba_app, ba_app, ba_cut, ba_cut, ba_cut, List.append_assoc]
  simp only [List.drop_zero, Nat.sub_zero]
  obtain ⟨m, rfl⟩ : ∃ m, n = k + m := ⟨n - k, by omega⟩
  rw [List.take_add, Nat.add_sub_cancel_left]
theorem ba_cut_cut (d : ByteArray) (i j k : Nat) (h : i + k ≤ j) : (d.extract i j).extract 0 k = d.extract i (i + k) := by
  apply ba_ext
  rw [ba_cut, ba_cut, ba_cut]
  simp only [List.drop_zero, Nat.sub_zero, Nat.add_sub_cancel_left]
  rw [List.take_take]
  congr 1
  omega

/-- A store: its halves and the number of the one that counts. -/
structure St where
  a : ByteArray
  b : ByteArray
  sel : Int
namespace St
def zero : St := ⟨⟨#[]⟩, ⟨#[]⟩, 0⟩
def agg (s : St) : Value := .agg #[.string s.a, .string s.b, .int .i64 s.sel]
def row (s : St) : Array Value := #[.string s.a, .string s.b, .int .i64 s.sel]
/-- A half: 1 is the second, all else the first. -/
def get (s : St) (h : Int) : ByteArray := if h = 1 then s.b else s.a
def put (s : St) (h : Int) (x : ByteArray) : St := if h = 1 then ⟨s.a, x, s.sel⟩ else ⟨x, s.b, s.sel⟩
def cur (s : St) : ByteArray := if s.sel = 1 then s.b else s.a
def isB (room : Int) (s : St) : Bool := decide (1 ≤ room ∧ room ≤ 65536 ∧ (s.a.size : Int) ≤ room ∧ (s.b.size : Int) ≤ room ∧ (s.sel = 0 ∨ s.sel = 1))
/-- The first of the common errors. -/
def chk (room : Int) (s : St) (h bud : Int) : Int := if isB room s = false then 1 else if ¬ (h = 0 ∨ h = 1) ∨ bud < 0 then 2 else 0
/-- What a call hands back. -/
def writeF (room : Int) (s : St) (h : Int) (d : ByteArray) (bud : Int) : St × Int × Int :=
  if chk room s h bud = 0 then
    if room < (s.get h).size + d.size then (zero, 0, 7)
    else if bud < d.size then (s.put h (s.get h ++ d.extract 0 bud.toNat), 0, 8)
    else (s.put h (s.get h ++ d), bud - d.size, 0)
  else (zero, 0, chk room s h bud)
def eraseF (room : Int) (s : St) (h : Int) (bud : Int) : St × Int × Int :=
  if chk room s h bud = 0 then if bud = 0 then (s, 0, 8) else (s.put h ⟨#[]⟩, bud - 1, 0) else (zero, 0, chk room s h bud)
def chooseF (room : Int) (s : St) (h : Int) (bud : Int) : St × Int × Int :=
  if chk room s h bud = 0 then if bud = 0 then (s, 0, 8) else (⟨s.a, s.b, h⟩, bud - 1, 0) else (zero, 0, chk room s h bud)
/-- The three results. -/
def ans (x : St × Int × Int) : Value := .tuple #[x.1.agg, .int .i64 x.2.1, .int .i64 x.2.2]

theorem chk_zero {room : Int} {s : St} {h bud : Int} (e : chk room s h bud = 0) : isB room s = true ∧ (h = 0 ∨ h = 1) ∧ 0 ≤ bud := by
  unfold chk at e
  split at e
  · omega
  · rename_i hb
    split at e
    · omega
    · rename_i hc
      refine ⟨by simpa using hb, ?_, ?_⟩ <;> omega
theorem isB_of {room : Int} {s : St} (e : isB room s = true) : 1 ≤ room ∧ room ≤ 65536 ∧ (s.a.size : Int) ≤ room ∧ (s.b.size : Int) ≤ room ∧ (s.sel = 0 ∨ s.sel = 1) := by
  simpa [isB] using e
theorem get_size {room : Int} {s : St} (e : isB room s = true) (h : Int) : ((s.get h).size : Int) ≤ room := by
  have := isB_of e
  unfold get
  split <;> omega
end St
theorem ret_st {x y : St × Int × Int} (h : x = y) : Ending.returned (St.ans x) = .returned (St.ans y) := by rw [h]
theorem ret_b {a b : ByteArray} (h : a = b) : Ending.returned (.string a) = .returned (.string b) := by rw [h]
theorem ret_i {a b : Int} (h : a = b) : Ending.returned (.int .i64 a) = .returned (.int .i64 b) := by rw [h]
end Go.Proofs.Ytapkookehogddaa
