/- What the texts behind this one rest on: several texts in one. No statement of the seat is proved here. -/
import Derived.Test.YthbfpdkgbkpmiaaG5
import Derived.Test.YthbfpdkgbkpmiaaBag
import Derived.ChangeSame
import Derived.ChangeOld
import Derived.ChangeMaps5
namespace Go.Proofs.Ythbfpdkgbkpmiaa
section
open Go.RowKit

/-- The two bytes of a sum. -/
def two (n : Nat) : List UInt8 := [UInt8.ofNat (n / 256), UInt8.ofNat (n % 256)]
def endL (l : List UInt8) : List UInt8 := two (sum16 l)

theorem app_bl (s : ByteArray) (l : List UInt8) : s ++ (⟨l.toArray⟩ : ByteArray) = ⟨(bl s ++ l).toArray⟩ := by
  obtain ⟨⟨d⟩⟩ := s
  rw [ByteArray.mk_append_mk]
theorem two_len (n : Nat) : (two n).length = 2 := rfl
theorem bytes_u (l : List UInt8) : bl ⟨l.toArray⟩ = l := rfl

theorem conv2 (w : World) (n : Nat) (hn : n < 65536) :
    (convert 55 9 (.slice (some ⟨w.heap.size, 0, none⟩) 2 2)).run Try.prog (w.alloc (.cells #[.int .u8 ((n : Int) / 256), .int .u8 ((n : Int) % 256)] 5)) =
      .ok (.string ⟨(two n).toArray⟩) (w.alloc (.cells #[.int .u8 ((n : Int) / 256), .int .u8 ((n : Int) % 256)] 5)) := by
  refine run_convert_bytes_back _ _ _ 5 _ 2 (two n) (by kernel_rfl) (by kernel_rfl) (by kernel_rfl) ?_
  intro j hj
  have hj' : j < 2 := hj
  have ha : (Addr.add ⟨w.heap.size, 0, none⟩ j) = ⟨w.heap.size, j, none⟩ := by unfold Addr.add; split <;> simp_all
  rw [ha, cell_of_row _ _ _ _ _ (0, 0) (heap_alloc_new w _)]
  have e0 : ((two n)[0]'(by rw [two_len]; omega)).toNat = n / 256 := by simp [two]; omega
  have e1 : ((two n)[1]'(by rw [two_len]; omega)).toNat = n % 256 := by simp [two]
  have h01 : j = 0 ∨ j = 1 := by omega
  rcases h01 with rfl | rfl
  · rw [e0]; exact congrArg some (congrArg (Value.int .u8) (by omega))
  · rw [e1]; exact congrArg some (congrArg (Value.int .u8) (by omega))

set_option maxRecDepth 100000 in
set_option maxHeartbeats 400000 in
theorem end_any (s : ByteArray) (w : World) (hs : s.size ≤ maxLen) :
    Calls Try.prog 75 #[.string s] w fun e w' => e = .returned (.string ⟨(endL (bl s)).toArray⟩) ∧ Below w.heap.size w w' := by
  unfold endL
  have hb := sum16_lt (bl s)
  obtain ⟨n, hn⟩ : ∃ n, n = sum16 (bl s) := ⟨_, rfl⟩
  have HN := Lib.hid hn
  rw [← hn] at hb ⊢
  clear hn
  have hc := conv2 w n hb
  go_enter Try.func75, Try.ntmps75
  go_wp2_with (go_at_call 83; refine (sum16_any _ _ hs).mono ?_; rw [← HN.out]; rintro e w' ⟨rfl, rfl⟩)
  go_ret
  exact ⟨rfl, (Below.refl _ _).alloc (Nat.le_refl _) _⟩

/-- A sealed string. -/
def sealL (l : List UInt8) : List UInt8 := l ++ endL l
theorem sealL_length (l : List UInt8) : (sealL l).length = l.length + 2 := by simp [sealL, endL, two_len]

set_option maxRecDepth 100000 in
set_option maxHeartbeats 400000 in
theorem seal_any (s : ByteArray) (w : World) (hs : s.size ≤ 1000000) :
    Calls Try.prog 54 #[.string s] w fun e w' => e = .returned (.string ⟨(sealL (bl s)).toArray⟩) ∧ Below w.heap.size w w' := by
  have hm : s.size ≤ maxLen := by unfold maxLen; omega
  have hl : ¬ 9223372036854775807 < s.size + (endL (bl s)).length := by simp only [endL, two_len]; omega
  go_enter Try.func54, Try.ntmps54
  go_wp2_with (go_at_call 75; refine (end_any _ _ hm).mono ?_; rintro e w1 ⟨rfl, hb⟩)
  go_ret
  exact ⟨by rw [app_bl]; rfl, hb⟩
set_option maxRecDepth 100000 in
set_option maxHeartbeats 400000 in
theorem refSeal_any (s : ByteArray) (w : World) (hs : s.size ≤ 1000000) :
    Calls Try.prog 22 #[.string s] w fun e w' => e = .returned (.string ⟨(sealL (bl s)).toArray⟩) ∧ Below w.heap.size w w' := by
  have hm : s.size ≤ maxLen := by unfold maxLen; omega
  unfold sealL endL
  have hb := sum16_lt (bl s)
  obtain ⟨n, hn⟩ : ∃ n, n = sum16 (bl s) := ⟨_, rfl⟩
  have HN := Lib.hid hn
  rw [← hn] at hb ⊢
  clear hn
  have hc := conv2 w n hb
  have hl : ¬ 9223372036854775807 < s.size + (two n).length := by simp only [two_len]; omega
  go_enter Try.func22, Try.ntmps22
  go_wp2_with (go_at_call 45; refine (refSum16_any _ _ hm).mono ?_; rw [← HN.out]; rintro e w1 ⟨rfl, rfl⟩)
  go_ret
  exact ⟨by rw [app_bl]; rfl, (Below.refl _ _).alloc (Nat.le_refl _) _⟩

/-- What Open gives: the string and the error's number. -/
def openOk (l : List UInt8) : Bool := decide (2 ≤ l.length ∧ l.drop (l.length - 2) = endL (l.take (l.length - 2)))
def openS (l : List UInt8) : List UInt8 := if openOk l then l.take (l.length - 2) else []
def openE (l : List UInt8) : Int := if l.length < 2 then 4 else if openOk l then 0 else 5

theorem openOk_at {l : List UInt8} (h : 2 ≤ l.length) : openOk l = (l.drop (l.length - 2) == endL (l.take (l.length - 2))) := by
  unfold openOk
  rw [Bool.eq_iff_iff]
  simp [h]
theorem openOk_small {l : List UInt8} (h : l.length < 2) : openOk l = false := by unfold openOk; simp; omega

theorem bl_take (s : ByteArray) (c : Nat) : bl (s.extract 0 c) = (bl s).take c := by
  show (s.extract 0 c).data.toList = s.data.toList.take c
  rw [ByteArray.data_extract, Array.toList_extract, List.extract_eq_take_drop]
  rfl
theorem bl_drop (s : ByteArray) (c : Nat) : (s.extract c s.size).toList = (bl s).drop c := by
  rw [ByteArray.toList_eq]
  show (s.extract c s.size).data.toList = s.data.toList.drop c
  rw [ByteArray.data_extract, Array.toList_extract, List.extract_eq_take_drop]
  exact List.take_of_length_le (by rw [List.length_drop]; exact Nat.le_refl _)
theorem bl_len (s : ByteArray) : (bl s).length = s.size := Array.length_toList
theorem bl_mk (s : ByteArray) : (⟨(bl s).toArray⟩ : ByteArray) = s := by obtain ⟨⟨d⟩⟩ := s; rfl
theorem ret_open {a a' : ByteArray} {b b' : Int} (h : a = a') (k : b = b') : Ending.returned (.tuple #[.string a, .int .i64 b]) = .returned (.tuple #[.string a', .int .i64 b']) := by rw [h, k]

set_option maxRecDepth 100000 in
set_option maxHeartbeats 400000 in
theorem open_any (s : ByteArray) (w : World) (hs : s.size ≤ 1000000) :
    Calls Try.prog 63 #[.string s] w fun e w' => e = .returned (.tuple #[.string ⟨(openS (bl s)).toArray⟩, .int .i64 (openE (bl s))]) ∧ Below w.heap.size w w' := by
  have hm : s.size ≤ maxLen := by unfold maxLen; omega
  by_cases h2 : s.size < 2
  · have hd : decide ((s.size : Int) < 2) = true := by simp; omega
    go_enter Try.func63, Try.ntmps63
    go_wp2
    go_ret2
    have hl : (bl s).length < 2 := by rw [bl_len]; exact h2
    refine ⟨ret_open (a := ⟨#[]⟩) (b := 4) ?_ ?_, Below.refl _ _⟩
    · simp [openS, openOk_small hl]
    · unfold openE; rw [if_pos hl]
  · have hd : decide ((s.size : Int) < 2) = false := by simp; omega
    go_enter Try.func63, Try.ntmps63
    go_wp2_with fail
    have c1 : (2 : Int) ≤ s.size := by omega
    have c2 : (s.size : Int) - 2 ≤ s.size := by omega
    have c3 : (0 : Int) ≤ (s.size : Int) - 2 := by omega
    have hcut : ((s.size : Int) - 2).toNat = s.size - 2 := by omega
    refine Bag.region (fun wx => Below w.heap.size w wx) (by kernel_rfl) (by kernel_rfl) (Below.refl _ _).drew ?_
    iterate 8 (first
        | (apply Bag.walk_yes (by rfl)
           (intro wx hx K hK
            go_simp
            first
              | (go_at_call 75; refine (end_any _ _ (by simp; omega)).mono ?_; rintro e w1 ⟨rfl, hb⟩; exact hK _ (hx.trans (hb.mono hx.size)))
              | (go_at_K; exact hK _ hx))
           rfl)
        | (refine Bag.walk_no (by rfl) ?_; simp only [Act.put, List.setIfInBounds_toArray, List.set_cons_succ, List.set_cons_zero]))
    refine Bag.walk_nil (fun w4 hx => ?_)
    clear hcut
    go_wp2_with fail
    all_goals
      rename_i h
      go_ret2
      have hl : 2 ≤ (bl s).length := by rw [bl_len]; omega
      have hk := openOk_at hl
      rw [bl_len, ← bl_drop, ← bl_take] at hk
      rw [← hk] at h
    · have h' : openOk (bl s) = false := by simpa using h
      refine ⟨ret_open (a := ⟨#[]⟩) (b := 5) ?_ ?_, hx⟩
      · simp [openS, h']
      · unfold openE; rw [if_neg (by omega), h']; rfl
    · have h' : openOk (bl s) = true := by simpa using h
      refine ⟨ret_open (a := s.extract 0 (s.size - 2)) (b := 0) ?_ ?_, hx⟩
      · simp only [openS, h', if_true]; rw [← bl_mk (s.extract 0 (s.size - 2)), bl_take, bl_len]
      · unfold openE; rw [if_neg (by omega), h']; rfl
end

section
open Go.RowKit

/-- Bytes lie in a block. -/
def BytesAt (W : World) (g : Nat) (l : List UInt8) : Prop :=
  ∀ j, j < l.length → W.cell? ⟨g, j, none⟩ = some (.int .u8 (((l.getD j 0).toNat : Nat) : Int)) ∧ W.frozen? ⟨g, j, none⟩ = false

/-- What a loop over new bytes keeps. -/
def FlipRel (w : World) (g : Nat) (l : List UInt8) (W : World) : Prop := BytesAt W g l ∧ Below w.heap.size w W ∧ g < W.heap.size

theorem flipRel_new (w : World) (s : ByteArray) (e : TypeId) (c : Nat) (fr : Nat) (hfr : s.size ≤ fr) :
    FlipRel w w.heap.size (bl s) (w.drew.alloc (.cells (bytesRow s c) e (fr, fr + 1))) := by
  refine ⟨fun j hj => ?_, (Below.refl _ _).drew.alloc (Nat.le_refl _) _, by simp⟩
  have hj' : j < s.data.size := by rw [bl_len] at hj; exact hj
  refine ⟨?_, ?_⟩
  · have := World.cell?_alloc_mark w.drew (bytesRow s c) e (fr, fr + 1) j
    rw [show w.drew.heap.size = w.heap.size from rfl] at this
    rw [this, bytesRow_at s c j hj']
    simp [bl, List.getD, Array.getElem?_eq_getElem hj']
  · have := World.frozen?_alloc_mark w.drew (bytesRow s c) e fr (fr + 1) j
    rw [show w.drew.heap.size = w.heap.size from rfl] at this
    have hlt : j < s.size := hj'
    rw [this]
    simp; omega

theorem addr_add (g j : Nat) : (⟨g, 0, none⟩ : Addr).add j = ⟨g, j, none⟩ := by unfold Addr.add; split <;> simp_all
theorem flipRel_set {w W : World} {l : List UInt8} {j : Nat} (h : FlipRel w w.heap.size l W) (hj : j < l.length) (v : UInt8) :
    FlipRel w w.heap.size (l.set j v) (W.setCell ⟨w.heap.size, j, none⟩ (.int .u8 ((v.toNat : Nat) : Int))) := by
  refine ⟨fun i hi => ?_, h.2.1.setCell (Nat.le_refl _) _, by simpa using h.2.2⟩
  rw [List.length_set] at hi
  rw [World.frozen?_setCell]
  refine ⟨?_, (h.1 i hi).2⟩
  by_cases hij : j = i
  · subst hij
    rw [World.cell?_setCell_same W _ _ (h.1 j hj).1]
    simp [List.getD, hj]
  · rw [World.cell?_setCell_other W _ _ _ (by intro he; injection he; omega), (h.1 i hi).1]
    simp [List.getD, List.getElem?_set_ne hij]
theorem bytes_back {P : Program} {W : World} {g : Nat} {l : List UInt8} (h : BytesAt W g l) (src dst e : TypeId) (n cap : Nat) (hn : n = l.length)
    (hs : P.underlying src = some (.slice e)) (he : P.underlying e = some (.int .u8)) (hd : P.underlying dst = some .string) :
    (convert src dst (.slice (some ⟨g, 0, none⟩) n cap)).run P W = .ok (.string ⟨l.toArray⟩) W := by
  subst hn
  refine run_convert_bytes_back _ _ _ e _ cap l hs he hd fun j hj => ?_
  rw [addr_add, (h j hj).1]
  simp [List.getD, hj]
end

section
open Go.RowKit

theorem openOk_seal (l : List UInt8) : openOk (sealL l) = true := by
  rw [openOk_at (by rw [sealL_length]; omega), sealL_length]
  simp [sealL]
theorem openS_seal (l : List UInt8) : openS (sealL l) = l := by
  unfold openS; rw [openOk_seal, if_pos rfl, sealL_length]; simp [sealL]
end
end Go.Proofs.Ythbfpdkgbkpmiaa
