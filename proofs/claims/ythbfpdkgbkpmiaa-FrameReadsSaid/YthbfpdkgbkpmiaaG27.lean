/- What the texts behind this one rest on: several texts in one. No statement of the seat is proved here. -/
import Derived.Test.YthbfpdkgbkpmiaaFrameSane
import Derived.ChangeSame
import Derived.ChangeOld
import Derived.ChangeMaps5
namespace Go.Proofs.Ythbfpdkgbkpmiaa
section
open Go.RowKit Frm

/-- A slice of bytes that came in. -/
def MBytes (w : World) (v : Value) (ms : List UInt8) : Prop :=
  (v = .slice none 0 0 ∧ ms = []) ∨ ∃ a cap, v = .slice (some a) ms.length cap ∧ ∀ j, j < ms.length → w.cell? (a.add j) = some (.int .u8 (((ms.getD j 0).toNat : Nat) : Int))

theorem make_bytes' (n : Nat) (hn : n ≤ 1000000) : ∃ C : Array Value, C = Array.replicate n (.int .u8 0) ∧ ∀ w : World, (Instr.makeSlice 55 (.int .i64 n) (.int .i64 n)).run Try.prog w = .ok (.slice (some ⟨w.heap.size, 0, none⟩) n n) (w.alloc (.cells C 5)) := by
  refine ⟨_, rfl, fun w => ?_⟩
  have := run_make (P := Try.prog) w 55 5 Try.t5 (.int .u8 0) Try.underlying55 (by kernel_rfl) (by kernel_rfl) .i64 .i64 n n (by omega) (Int.le_refl _) (by show ((1 : Nat) : Int) * (n : Int) ≤ _; omega) (by omega)
  rw [this, Int.toNat_natCast]
  have e : madeCells (Value.int .u8 0).cells (n * (Try.t5).size) = Array.replicate n (.int .u8 0) := by
    apply Array.ext
    · rw [size_madeCells, Array.size_replicate]; show n * 1 = n; omega
    · intro i h1 h2
      have hi : i % 1 = 0 := Nat.mod_one i
      simp [madeCells, Value.cells, hi]
  rw [e]

theorem frozen_row {w : World} {g : Nat} {cs : Array Value} {t : TypeId} (hg : w.heap[g]? = some (.cells cs t (0, 0))) (j : Nat) : w.frozen? ⟨g, j, none⟩ = false := by simp [World.frozen?, hg]
end

section
open Go.RowKit Frm

/-- The bytes that num has laid behind k rounds. -/
def numK (n size k : Nat) : List UInt8 := numL n k ++ List.replicate (size - k) 0
theorem numK_length (n size k : Nat) (h : k ≤ size) : (numK n size k).length = size := by
  rw [numK, List.length_append, numL_length, List.length_replicate]; omega
theorem numK_set (n size k : Nat) (h : k < size) : (numK n size k).set k (UInt8.ofNat (n / 256 ^ k % 256)) = numK n size (k + 1) := by
  unfold numK
  rw [List.set_append_right _ _ (by rw [numL_length]; omega), numL_length, Nat.sub_self, numL_snoc, List.append_assoc, show size - k = (size - (k + 1)) + 1 from by omega, List.replicate_succ]
  rfl
theorem numK_end (n size : Nat) : numK n size size = numL n size := by unfold numK; simp

theorem bytes_new (w : World) (n : Nat) : FlipRel w w.heap.size (List.replicate n 0) (w.alloc (.cells (Array.replicate n (.int .u8 0)) 5)) := by
  have hg := heap_alloc_new w (.cells (Array.replicate n (.int .u8 0)) 5)
  refine ⟨fun j hj => ⟨?_, frozen_row hg j⟩, (Below.refl _ _).alloc (Nat.le_refl _) _, by simp⟩
  rw [cell_of_row _ _ _ _ _ (0, 0) hg]
  have hj' : j < n := by simpa using hj
  simp [hj', List.getD]

set_option maxRecDepth 100000 in
set_option maxHeartbeats 1000000 in
theorem refNum_any (n size : Nat) (w : World) (hs : size ≤ 8) :
    Calls Try.prog 32 #[.int .u64 n, .int .i64 size] w fun e w' => e = .returned (.string ⟨(numL n size).toArray⟩) ∧ Below w.heap.size w w' := by
  obtain ⟨C, hC, hmk⟩ := make_bytes' size (by omega)
  have hnew := bytes_new w size
  rw [← hC] at hnew
  have HN := Lib.hid hnew
  clear hC hnew
  go_enter Try.func32, Try.ntmps32
  go_wp2_with fail
  clear hmk
  go_loopw [6] (fun v W => ∃ k : Nat, k ≤ size ∧ v = .int .i64 k ∧ FlipRel w w.heap.size (numK n size k) W) (fun v _ => size - (intOf v).toNat)
  case atStart => exact ⟨0, Nat.zero_le _, rfl, HN.out⟩
  case round =>
    obtain ⟨k, hk, rfl, hrel⟩ := hrel
    have hlen := numK_length n size k hk
    by_cases hlt : k < size
    · have hq256 : n / 256 ^ k % 256 < 256 := Nat.mod_lt _ (by omega)
      have hw8 : IntKind.i64.wrap (8 * (k : Int)) = 8 * (k : Int) := IntWalk.i64_in _ (by omega)
      have h80 : (0 : Int) ≤ 8 * (k : Int) := by omega
      have h81 : 8 * (k : Int) ≤ 64 := by omega
      have h82 : (8 * (k : Int)).toNat = 8 * k := by omega
      have hv : IntKind.u8.wrap ((n : Int) / 2 ^ (8 * k)) = (((UInt8.ofNat (n / 256 ^ k % 256)).toNat : Nat) : Int) := by
        have e : (UInt8.ofNat (n / 256 ^ k % 256)).toNat = n / 256 ^ k % 256 := by simp
        rw [e, IntKind.wrap_u8]
        rw [show (256 : Nat) ^ k = 2 ^ (8 * k) from by rw [Nat.pow_mul]]
        norm_cast
      obtain ⟨c0, f0⟩ := hrel.1 k (by omega)
      have HR := Lib.hid (flipRel_set hrel (j := k) (by omega) (UInt8.ofNat (n / 256 ^ k % 256)))
      rw [numK_set n size k hlt] at HR
      generalize UInt8.ofNat (n / 256 ^ k % 256) = q at *
      clear hrel hlen
      go_wp2
      go_roundw
      case rel => exact ⟨k + 1, by omega, by go_num, HR.out⟩
      case measure => simp [intOf]; omega
    · obtain rfl : k = size := by omega
      rw [numK_end] at hrel
      have hconv := bytes_back (P := Try.prog) hrel.1 55 9 5 k k (by rw [numL_length]) (by kernel_rfl) (by kernel_rfl) (by kernel_rfl)
      have HR := Lib.hid hrel
      clear hrel
      go_wp2_with fail
      go_ret
      exact ⟨rfl, HR.out.2.1⟩

set_option maxRecDepth 100000 in
set_option maxHeartbeats 1000000 in
theorem refCalls_any (u d : Nat) (w : World) (hu : u < 4294967296) (hd : d < 4294967296) :
    Calls Try.prog 33 #[.agg #[.int .u32 u, .int .u32 d]] w fun e w' => e = .returned (.string ⟨(numL u 4 ++ numL d 4).toArray⟩) ∧ Below w.heap.size w w' := by
  have e12 : (⟨(numL u 4).toArray⟩ : ByteArray) ++ (⟨(numL d 4).toArray⟩ : ByteArray) = ⟨(numL u 4 ++ numL d 4).toArray⟩ := (app_bl _ _).trans (by rw [bytes_u])
  have z1 : (⟨(numL u 4).toArray⟩ : ByteArray).size = 4 := List.size_toArray.trans (numL_length 4 u)
  have z2 : (⟨(numL d 4).toArray⟩ : ByteArray).size = 4 := List.size_toArray.trans (numL_length 4 d)
  have F1 := Lib.hid (fun wx => refNum_any u 4 wx (by omega))
  have F2 := Lib.hid (fun wx => refNum_any d 4 wx (by omega))
  rw [← e12]
  generalize (⟨(numL u 4).toArray⟩ : ByteArray) = S1 at *
  generalize (⟨(numL d 4).toArray⟩ : ByteArray) = S2 at *
  clear e12
  have hu1 : IntKind.u64.wrap (u : Int) = (u : Int) := by rw [IntKind.wrap_u64]; omega
  have hd1 : IntKind.u64.wrap (d : Int) = (d : Int) := by rw [IntKind.wrap_u64]; omega
  have hx0 : Below (w.heap.size + 1) (w.alloc (.cells #[.int .u32 u, .int .u32 d] 28)) ((w.alloc (.cells #[.int .u32 u, .int .u32 d] 28)).drew) := (Below.refl _ _).drew
  go_enter Try.func33, Try.ntmps33
  go_wp2_with fail
  refine Bag.region (fun wx => Below (w.heap.size + 1) (w.alloc (.cells #[.int .u32 u, .int .u32 d] 28)) wx) (by kernel_rfl) (by kernel_rfl) hx0 ?_
  iterate 3
    (apply Bag.walk_yes (by rfl)
     (intro wx hx K hK
      have c0 : wx.cell? ⟨w.heap.size, 0, none⟩ = some (.int .u32 u) := cell_new_below hx 0
      have c1 : wx.cell? ⟨w.heap.size, 1, none⟩ = some (.int .u32 d) := cell_new_below hx 1
      have HX := Lib.hid hx
      clear hx
      go_simp
      go_at_K; exact hK _ HX.out)
     rfl)
  iterate 1
    (apply Bag.walk_yes (by rfl)
     (intro wx hx K hK
      have c0 : wx.cell? ⟨w.heap.size, 0, none⟩ = some (.int .u32 u) := cell_new_below hx 0
      have c1 : wx.cell? ⟨w.heap.size, 1, none⟩ = some (.int .u32 d) := cell_new_below hx 1
      have HX := Lib.hid hx
      clear hx
      go_simp
      go_at_call 32; refine (F1.out _).mono ?_; rintro e w3 ⟨rfl, hb3⟩; exact hK _ (HX.out.trans (hb3.mono (box_size HX.out))))
     rfl)
  iterate 3
    (apply Bag.walk_yes (by rfl)
     (intro wx hx K hK
      have c0 : wx.cell? ⟨w.heap.size, 0, none⟩ = some (.int .u32 u) := cell_new_below hx 0
      have c1 : wx.cell? ⟨w.heap.size, 1, none⟩ = some (.int .u32 d) := cell_new_below hx 1
      have HX := Lib.hid hx
      clear hx
      go_simp
      go_at_K; exact hK _ HX.out)
     rfl)
  iterate 1
    (apply Bag.walk_yes (by rfl)
     (intro wx hx K hK
      have c0 : wx.cell? ⟨w.heap.size, 0, none⟩ = some (.int .u32 u) := cell_new_below hx 0
      have c1 : wx.cell? ⟨w.heap.size, 1, none⟩ = some (.int .u32 d) := cell_new_below hx 1
      have HX := Lib.hid hx
      clear hx
      go_simp
      go_at_call 32; refine (F2.out _).mono ?_; rintro e w3 ⟨rfl, hb3⟩; exact hK _ (HX.out.trans (hb3.mono (box_size HX.out))))
     rfl)
  iterate 2
    (apply Bag.walk_yes (by rfl)
     (intro wx hx K hK
      have c0 : wx.cell? ⟨w.heap.size, 0, none⟩ = some (.int .u32 u) := cell_new_below hx 0
      have c1 : wx.cell? ⟨w.heap.size, 1, none⟩ = some (.int .u32 d) := cell_new_below hx 1
      have HX := Lib.hid hx
      clear hx
      go_simp
      go_at_K; exact hK _ HX.out)
     rfl)
  refine Bag.walk_nil (fun w3 hx => ?_)
  go_wp2_with fail
  go_ret
  exact ⟨rfl, below_of_new hx⟩

set_option maxRecDepth 100000 in
set_option maxHeartbeats 1000000 in
theorem refBits_any (l : List Bool) (g cap : Nat) (w : World) (hl : l.length ≤ 8) (hc : ∀ j (h : j < l.length), w.cell? ⟨g, j, none⟩ = some (.bool l[j])) :
    Calls Try.prog 34 #[.slice (some ⟨g, 0, none⟩) l.length cap] w fun e w' => e = .returned (.string ⟨(numL (flg l) 1).toArray⟩) ∧ Below w.heap.size w w' := by
  have HC := Lib.hid hc
  clear hc
  go_enter Try.func34, Try.ntmps34
  go_wp2_with fail
  go_loopw [3, 4] (fun v i W => ∃ k : Nat, k ≤ l.length ∧ i = .int .i64 k ∧ v = .int .u64 (flg (l.take k) : Nat) ∧ W = w) (fun _ i _ => l.length - (intOf i).toNat)
  case atStart => exact ⟨0, Nat.zero_le _, rfl, rfl, rfl⟩
  case round =>
    obtain ⟨k, hk, rfl, rfl, rfl⟩ := hrel
    by_cases hlt : k < l.length
    · have hcell := HC.out k hlt
      have hfl := flg_lt (l.take k)
      rw [List.length_take, Nat.min_eq_left (by omega)] at hfl
      have hp : 2 ^ k < 256 := Nat.pow_lt_pow_right (a := 2) (by omega) (show k < 8 by omega)
      have hft : flg (l.take (k + 1)) = flg (l.take k) + 2 ^ k * (l[k]).toNat := by
        have h := flg_take (l := l) (k := k) (by omega)
        rw [h, List.getD_eq_getElem?_getD, List.getElem?_eq_getElem hlt]; rfl
      have hor : bits .or .u64 ((flg (l.take k) : Nat) : Int) (2 ^ k) = ((flg (l.take k) + 2 ^ k : Nat) : Int) := by
        have h := u64_or_nat (flg (l.take k)) (2 ^ k * 1) (by omega) (by omega)
        rw [or_add _ 1 k hfl, Nat.mul_one] at h
        rw [← h, Int.natCast_pow]; rfl
      have hw1 : IntKind.u64.wrap (2 ^ k) = (2 ^ k : Int) := by
        rw [IntKind.wrap_u64, show ((2 : Int) ^ k) = ((2 ^ k : Nat) : Int) from by rw [Int.natCast_pow]; rfl]
        omega
      generalize hb : l[k] = b at *
      generalize flg (l.take k) = n at *
      cases b with
      | true =>
        have HFT := Lib.hid hft
        clear hft
        go_wp2_with fail
        refine ⟨⟨k + 1, by omega, by go_num, ?_, trivial⟩, by simp [intOf]; omega⟩
        rw [HFT.out, Int.natCast_add, Int.natCast_mul, Int.natCast_pow]
        simp
      | false =>
        have HFT := Lib.hid hft
        clear hft
        go_wp2_with fail
        refine ⟨⟨k + 1, by omega, by go_num, ?_, trivial⟩, by simp [intOf]; omega⟩
        rw [HFT.out]
        simp
    · obtain rfl : k = l.length := by omega
      rw [List.take_length]
      have F := Lib.hid (fun wx => refNum_any (flg l) 1 wx (by omega))
      go_wp2_with fail
      refine (F.out _).mono ?_
      rintro e w3 ⟨rfl, hb3⟩
      go_wp2_with fail
      go_ret
      exact ⟨rfl, hb3⟩
end
end Go.Proofs.Ythbfpdkgbkpmiaa
