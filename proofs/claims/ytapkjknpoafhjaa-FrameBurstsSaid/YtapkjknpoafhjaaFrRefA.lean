/- What the texts behind this one rest on: several texts in one. No statement of the seat is proved here. -/
import Derived.Test.YtapkjknpoafhjaaFrSane
import Derived.ChangeSame
import Derived.ChangeOld
import Derived.ChangeMaps5
import Derived.Test.YtapkjknpoafhjaaRefValid
import Derived.Test.YtapkjknpoafhjaaService
import Derived.Test.YtapkjknpoafhjaaHall
import Derived.Test.YtapkjknpoafhjaaBox
namespace Go.Proofs.Ytapkjknpoafhjaa
section
open Go.RowKit Frm

theorem ReadE_31 {x : BldD} {s : ByteArray} {code : Int} (h1 : openOkIn x s) (h : ReadE x s code) : code = 31 := by
  obtain ⟨a, b, c, d⟩ := h1
  rcases h with h | h | h | h | h
  · exact absurd a h.1
  · exact absurd b h.2.1
  · exact absurd c h.2.2.1
  · rw [h.2.2.2.1] at d; cases d
  · exact h.2.2

/-- A slice of bytes that came in. -/
def MBytes (w : World) (v : Value) (ms : List UInt8) : Prop :=
  (v = .slice none 0 0 ∧ ms = []) ∨ ∃ a cap, v = .slice (some a) ms.length cap ∧ ∀ j, j < ms.length → w.cell? (a.add j) = some (.int .u8 (((ms.getD j 0).toNat : Nat) : Int))

theorem make_bytes' (n : Nat) (hn : n ≤ 1000000) : ∃ C : Array Value, C = Array.replicate n (.int .u8 0) ∧ ∀ w : World, (Instr.makeSlice 55 (.int .i64 n) (.int .i64 n)).run Try.prog w = .ok (.slice (some ⟨w.heap.size, 0, none⟩) n n) (w.alloc (.cells C 5)) := by
  refine ⟨_, rfl, fun w => ?_⟩
  have := run_make (P := Try.prog) w 55 5 Try.t5 (.int .u8 0) Try.underlying55 (by kernel_rfl) (by kernel_rfl) .i64 .i64 n n (by omega) (Int.le_refl _) (by show ((1 : Nat) : Int) * (n : Int) ≤ _; omega) (by omega)
  rw [this, Int.toNat_natCast]
  have e : madeCells (Value.int .u8 0).cells (n * (Try.t5).size) = Array.replicate n (.int .u8 0) := by
    apply Array.ext
    · rw [size_madeCells, Array.size_replicate]; show n * 1 = n; omega
    · intro i h1 h2
      have hi : i % 1 = 0 := Nat.mod_one i
      simp [madeCells, Value.cells, hi]
  rw [e]

theorem frozen_row {w : World} {g : Nat} {cs : Array Value} {t : TypeId} (hg : w.heap[g]? = some (.cells cs t (0, 0))) (j : Nat) : w.frozen? ⟨g, j, none⟩ = false := by simp [World.frozen?, hg]

/-- Bytes that were copied onto a new row of zeros: all of it are bytes. -/
theorem copy_bytes (w : World) (n : Nat) (v : Value) (ms : List UInt8) (ty : TypeId) (h : MBytes w v ms) :
    ∃ L w' k, (Builtin.copy_ #[55, 55] ty #[.slice (some ⟨w.heap.size, 0, none⟩) n n, v]).run Try.prog (w.alloc (.cells (Array.replicate n (.int .u8 0)) 5)) = .ok k w' ∧ L.length = n ∧ BytesAt w' w.heap.size L ∧ Below w.heap.size w w' ∧ w'.heap.size = w.heap.size + 1 := by
  have hlw : ∀ o p, p.block < w.heap.size → (w.alloc o).cell? p = w.cell? p := fun o p hp => World.cell?_of_block (w := w) (Below.heap_alloc w o p.block hp)
  have hg := heap_alloc_new w (.cells (Array.replicate n (.int .u8 0)) 5)
  have hb0 : Below w.heap.size w (w.alloc (.cells (Array.replicate n (.int .u8 0)) 5)) := (Below.refl _ _).alloc (Nat.le_refl _) _
  rcases h with ⟨rfl, rfl⟩ | ⟨a, cap, rfl, hc⟩
  · refine ⟨List.replicate n 0, w.alloc (.cells (Array.replicate n (.int .u8 0)) 5), goInt 0, ?_, by simp, fun j hj => ⟨?_, ?_⟩, hb0, by simp⟩
    · have hu := Try.underlying55
      obtain ⟨i, hi, hz, hsize, hby⟩ := info_parts byteInfo
      simp [Builtin.copy_, run_underlying hu, Builtin.lenOf, Builtin.firstCells, sizeOf, typeInfo, hi, storeCells]
    · rw [cell_of_row _ _ _ _ _ (0, 0) hg]
      have hj' : j < n := by simpa using hj
      simp [hj', List.getD]
    · exact frozen_row hg j
  · have hkk : Nat.min ms.length n ≤ n := Nat.min_le_right _ _
    have hkl : Nat.min ms.length n ≤ ms.length := Nat.min_le_left _ _
    have hcl : ((ms.take (Nat.min ms.length n)).map fun b => Value.int .u8 ((b.toNat : Nat) : Int)).length = Nat.min ms.length n := by rw [List.length_map, List.length_take]; omega
    have hr := run_copy_row (P := Try.prog) (w.alloc (.cells (Array.replicate n (.int .u8 0)) 5)) 55 55 ty 5 w.heap.size 0 n n a ms.length cap (Array.replicate n (.int .u8 0)) 5 ((ms.take (Nat.min ms.length n)).map fun b => Value.int .u8 ((b.toNat : Nat) : Int)) Try.underlying55 (by
      obtain ⟨i, hi, hz, hsize, hby⟩ := info_parts byteInfo
      rw [hi]; simp [hsize]) hg hcl (fun j u hu => by
        rw [List.getElem?_map] at hu
        cases hq : (ms.take (Nat.min ms.length n))[j]? with
        | none => rw [hq] at hu; cases hu
        | some b =>
          rw [hq] at hu
          simp only [Option.map_some, Option.some.injEq] at hu
          have hj : j < ms.length := by have := (List.getElem?_eq_some_iff.1 hq).1; rw [List.length_take] at this; omega
          have hbq : ms.getD j 0 = b := by
            rw [List.getElem?_take] at hq
            split at hq
            · rw [List.getD_eq_getElem?_getD, hq]; rfl
            · cases hq
          have h1 := hc j hj
          rw [hlw _ _ (World.block_lt_of_cell? w _ h1), h1, ← hu, hbq]) (by rw [hcl]; simp; exact hkk) (by
        intro u hu
        rw [List.mem_map] at hu
        obtain ⟨b, _, rfl⟩ := hu
        rfl)
    refine ⟨ms.take (Nat.min ms.length n) ++ List.replicate (n - Nat.min ms.length n) 0, _, _, hr, ?_, fun j hj => ⟨?_, ?_⟩, ?_, by simp⟩
    · rw [List.length_append, List.length_take, List.length_replicate]; omega
    · have hlen : (ms.take (Nat.min ms.length n)).length = Nat.min ms.length n := by rw [List.length_take]; omega
      rw [List.length_append, hlen, List.length_replicate] at hj
      rw [cell_of_row _ _ _ _ _ (0, 0) (setRow_heap _ _ _ _ _ _ hg)]
      have hjn : j < n := by omega
      by_cases hjk : j < Nat.min ms.length n
      · have h1 : (ms.take (Nat.min ms.length n))[j]? = some ((ms.take (Nat.min ms.length n))[j]'(by omega)) := List.getElem?_eq_getElem (by omega)
        simp only [List.take_zero, List.nil_append, List.getElem?_toArray]
        rw [List.getElem?_append_left (by rw [hcl]; exact hjk), List.getElem?_map, h1, List.getD_eq_getElem?_getD, List.getElem?_append_left (by omega), h1]
        rfl
      · simp only [List.take_zero, List.nil_append, List.getElem?_toArray]
        rw [List.getElem?_append_right (by rw [hcl]; omega), hcl, List.getD_eq_getElem?_getD, List.getElem?_append_right (by omega), hlen]
        simp only [Array.toList_replicate, List.drop_replicate, List.getElem?_replicate, Nat.zero_add]
        rw [if_pos (by omega), if_pos (by omega)]
        rfl
    · exact frozen_row (setRow_heap _ _ _ _ _ _ hg) j
    · refine hb0.trans ⟨rfl, rfl, rfl, by simp, fun k hk => setRow_other _ _ _ _ (by omega)⟩
end

section
open Go.RowKit Frm

/-- The bytes that num has laid behind k rounds. -/
def numK (n size k : Nat) : List UInt8 := numL n k ++ List.replicate (size - k) 0
theorem numK_length (n size k : Nat) (h : k ≤ size) : (numK n size k).length = size := by
  rw [numK, List.length_append, numL_length, List.length_replicate]; omega
theorem numK_set (n size k : Nat) (h : k < size) : (numK n size k).set k (UInt8.ofNat (n / 256 ^ k % 256)) = numK n size (k + 1) := by
  unfold numK
  rw [List.set_append_right _ _ (by rw [numL_length]; omega), numL_length, Nat.sub_self, numL_snoc, List.append_assoc, show size - k = (size - (k + 1)) + 1 from by omega, List.replicate_succ]
  rfl
theorem numK_end (n size : Nat) : numK n size size = numL n size := by unfold numK; simp

theorem bytes_new (w : World) (n : Nat) : FlipRel w w.heap.size (List.replicate n 0) (w.alloc (.cells (Array.replicate n (.int .u8 0)) 5)) := by
  have hg := heap_alloc_new w (.cells (Array.replicate n (.int .u8 0)) 5)
  refine ⟨fun j hj => ⟨?_, frozen_row hg j⟩, (Below.refl _ _).alloc (Nat.le_refl _) _, by simp⟩
  rw [cell_of_row _ _ _ _ _ (0, 0) hg]
  have hj' : j < n := by simpa using hj
  simp [hj', List.getD]

set_option maxRecDepth 100000 in
set_option maxHeartbeats 1000000 in
theorem refNum_any (n size : Nat) (w : World) (hs : size ≤ 8) :
    Calls Try.prog 32 #[.int .u64 n, .int .i64 size] w fun e w' => e = .returned (.string ⟨(numL n size).toArray⟩) ∧ Below w.heap.size w w' := by
  obtain ⟨C, hC, hmk⟩ := make_bytes' size (by omega)
  have hnew := bytes_new w size
  rw [← hC] at hnew
  have HN := Lib.hid hnew
  clear hC hnew
  go_enter Try.func32, Try.ntmps32
  go_wp2_with fail
  clear hmk
  go_loopw [6] (fun v W => ∃ k : Nat, k ≤ size ∧ v = .int .i64 k ∧ FlipRel w w.heap.size (numK n size k) W) (fun v _ => size - (intOf v).toNat)
  case atStart => exact ⟨0, Nat.zero_le _, rfl, HN.out⟩
  case round =>
    obtain ⟨k, hk, rfl, hrel⟩ := hrel
    have hlen := numK_length n size k hk
    by_cases hlt : k < size
    · have hq256 : n / 256 ^ k % 256 < 256 := Nat.mod_lt _ (by omega)
      have hw8 : IntKind.i64.wrap (8 * (k : Int)) = 8 * (k : Int) := IntWalk.i64_in _ (by omega)
      have h80 : (0 : Int) ≤ 8 * (k : Int) := by omega
      have h81 : 8 * (k : Int) ≤ 64 := by omega
      have h82 : (8 * (k : Int)).toNat = 8 * k := by omega
      have hv : IntKind.u8.wrap ((n : Int) / 2 ^ (8 * k)) = (((UInt8.ofNat (n / 256 ^ k % 256)).toNat : Nat) : Int) := by
        have e : (UInt8.ofNat (n / 256 ^ k % 256)).toNat = n / 256 ^ k % 256 := by simp
        rw [e, IntKind.wrap_u8]
        rw [show (256 : Nat) ^ k = 2 ^ (8 * k) from by rw [Nat.pow_mul]]
        norm_cast
      obtain ⟨c0, f0⟩ := hrel.1 k (by omega)
      have HR := Lib.hid (flipRel_set hrel (j := k) (by omega) (UInt8.ofNat (n / 256 ^ k % 256)))
      rw [numK_set n size k hlt] at HR
      generalize UInt8.ofNat (n / 256 ^ k % 256) = q at *
      clear hrel hlen
      go_wp2
      go_roundw
      case rel => exact ⟨k + 1, by omega, by go_num, HR.out⟩
      case measure => simp [intOf]; omega
    · obtain rfl : k = size := by omega
      rw [numK_end] at hrel
      have hconv := bytes_back (P := Try.prog) hrel.1 55 9 5 k k (by rw [numL_length]) (by kernel_rfl) (by kernel_rfl) (by kernel_rfl)
      have HR := Lib.hid hrel
      clear hrel
      go_wp2_with fail
      go_ret
      exact ⟨rfl, HR.out.2.1⟩

set_option maxRecDepth 100000 in
set_option maxHeartbeats 1000000 in
theorem refCalls_any (u d : Nat) (w : World) (hu : u < 4294967296) (hd : d < 4294967296) :
    Calls Try.prog 33 #[.agg #[.int .u32 u, .int .u32 d]] w fun e w' => e = .returned (.string ⟨(numL u 4 ++ numL d 4).toArray⟩) ∧ Below w.heap.size w w' := by
  have e12 : (⟨(numL u 4).toArray⟩ : ByteArray) ++ (⟨(numL d 4).toArray⟩ : ByteArray) = ⟨(numL u 4 ++ numL d 4).toArray⟩ := (app_bl _ _).trans (by rw [bytes_u])
  have z1 : (⟨(numL u 4).toArray⟩ : ByteArray).size = 4 := List.size_toArray.trans (numL_length 4 u)
  have z2 : (⟨(numL d 4).toArray⟩ : ByteArray).size = 4 := List.size_toArray.trans (numL_length 4 d)
  have F1 := Lib.hid (fun wx => refNum_any u 4 wx (by omega))
  have F2 := Lib.hid (fun wx => refNum_any d 4 wx (by omega))
  rw [← e12]
  generalize (⟨(numL u 4).toArray⟩ : ByteArray) = S1 at *
  generalize (⟨(numL d 4).toArray⟩ : ByteArray) = S2 at *
  clear e12
  have hu1 : IntKind.u64.wrap (u : Int) = (u : Int) := by rw [IntKind.wrap_u64]; omega
  have hd1 : IntKind.u64.wrap (d : Int) = (d : Int) := by rw [IntKind.wrap_u64]; omega
  have hx0 : Below (w.heap.size + 1) (w.alloc (.cells #[.int .u32 u, .int .u32 d] 28)) ((w.alloc (.cells #[.int .u32 u, .int .u32 d] 28)).drew) := (Below.refl _ _).drew
  go_enter Try.func33, Try.ntmps33
  go_wp2_with fail
  refine Bag.region (fun wx => Below (w.heap.size + 1) (w.alloc (.cells #[.int .u32 u, .int .u32 d] 28)) wx) (by kernel_rfl) (by kernel_rfl) hx0 ?_
  iterate 3
    (apply Bag.walk_yes (by rfl)
     (intro wx hx K hK
      have c0 : wx.cell? ⟨w.heap.size, 0, none⟩ = some (.int .u32 u) := cell_new_below hx 0
      have c1 : wx.cell? ⟨w.heap.size, 1, none⟩ = some (.int .u32 d) := cell_new_below hx 1
      have HX := Lib.hid hx
      clear hx
      go_simp
      go_at_K; exact hK _ HX.out)
     rfl)
  iterate 1
    (apply Bag.walk_yes (by rfl)
     (intro wx hx K hK
      have c0 : wx.cell? ⟨w.heap.size, 0, none⟩ = some (.int .u32 u) := cell_new_below hx 0
      have c1 : wx.cell? ⟨w.heap.size, 1, none⟩ = some (.int .u32 d) := cell_new_below hx 1
      have HX := Lib.hid hx
      clear hx
      go_simp
      go_at_call 32; refine (F1.out _).mono ?_; rintro e w3 ⟨rfl, hb3⟩; exact hK _ (HX.out.trans (hb3.mono (box_size HX.out))))
     rfl)
  iterate 3
    (apply Bag.walk_yes (by rfl)
     (intro wx hx K hK
      have c0 : wx.cell? ⟨w.heap.size, 0, none⟩ = some (.int .u32 u) := cell_new_below hx 0
      have c1 : wx.cell? ⟨w.heap.size, 1, none⟩ = some (.int .u32 d) := cell_new_below hx 1
      have HX := Lib.hid hx
      clear hx
      go_simp
      go_at_K; exact hK _ HX.out)
     rfl)
  iterate 1
    (apply Bag.walk_yes (by rfl)
     (intro wx hx K hK
      have c0 : wx.cell? ⟨w.heap.size, 0, none⟩ = some (.int .u32 u) := cell_new_below hx 0
      have c1 : wx.cell? ⟨w.heap.size, 1, none⟩ = some (.int .u32 d) := cell_new_below hx 1
      have HX := Lib.hid hx
      clear hx
      go_simp
      go_at_call 32; refine (F2.out _).mono ?_; rintro e w3 ⟨rfl, hb3⟩; exact hK _ (HX.out.trans (hb3.mono (box_size HX.out))))
     rfl)
  iterate 2
    (apply Bag.walk_yes (by rfl)
     (intro wx hx K hK
      have c0 : wx.cell? ⟨w.heap.size, 0, none⟩ = some (.int .u32 u) := cell_new_below hx 0
      have c1 : wx.cell? ⟨w.heap.size, 1, none⟩ = some (.int .u32 d) := cell_new_below hx 1
      have HX := Lib.hid hx
      clear hx
      go_simp
      go_at_K; exact hK _ HX.out)
     rfl)
  refine Bag.walk_nil (fun w3 hx => ?_)
  go_wp2_with fail
  go_ret
  exact ⟨rfl, below_of_new hx⟩

set_option maxRecDepth 100000 in
set_option maxHeartbeats 1000000 in
theorem refBits_any (l : List Bool) (g cap : Nat) (w : World) (hl : l.length ≤ 8) (hc : ∀ j (h : j < l.length), w.cell? ⟨g, j, none⟩ = some (.bool l[j])) :
    Calls Try.prog 34 #[.slice (some ⟨g, 0, none⟩) l.length cap] w fun e w' => e = .returned (.string ⟨(numL (flg l) 1).toArray⟩) ∧ Below w.heap.size w w' := by
  have HC := Lib.hid hc
  clear hc
  go_enter Try.func34, Try.ntmps34
  go_wp2_with fail
  go_loopw [3, 4] (fun v i W => ∃ k : Nat, k ≤ l.length ∧ i = .int .i64 k ∧ v = .int .u64 (flg (l.take k) : Nat) ∧ W = w) (fun _ i _ => l.length - (intOf i).toNat)
  case atStart => exact ⟨0, Nat.zero_le _, rfl, rfl, rfl⟩
  case round =>
    obtain ⟨k, hk, rfl, rfl, rfl⟩ := hrel
    by_cases hlt : k < l.length
    · have hcell := HC.out k hlt
      have hfl := flg_lt (l.take k)
      rw [List.length_take, Nat.min_eq_left (by omega)] at hfl
      have hp : 2 ^ k < 256 := Nat.pow_lt_pow_right (a := 2) (by omega) (show k < 8 by omega)
      have hft : flg (l.take (k + 1)) = flg (l.take k) + 2 ^ k * (l[k]).toNat := by
        have h := flg_take (l := l) (k := k) (by omega)
        rw [h, List.getD_eq_getElem?_getD, List.getElem?_eq_getElem hlt]; rfl
      have hor : bits .or .u64 ((flg (l.take k) : Nat) : Int) (2 ^ k) = ((flg (l.take k) + 2 ^ k : Nat) : Int) := by
        have h := u64_or_nat (flg (l.take k)) (2 ^ k * 1) (by omega) (by omega)
        rw [or_add _ 1 k hfl, Nat.mul_one] at h
        rw [← h, Int.natCast_pow]; rfl
      have hw1 : IntKind.u64.wrap (2 ^ k) = (2 ^ k : Int) := by
        rw [IntKind.wrap_u64, show ((2 : Int) ^ k) = ((2 ^ k : Nat) : Int) from by rw [Int.natCast_pow]; rfl]
        omega
      generalize hb : l[k] = b at *
      generalize flg (l.take k) = n at *
      cases b with
      | true =>
        have HFT := Lib.hid hft
        clear hft
        go_wp2_with fail
        refine ⟨⟨k + 1, by omega, by go_num, ?_, trivial⟩, by simp [intOf]; omega⟩
        rw [HFT.out, Int.natCast_add, Int.natCast_mul, Int.natCast_pow]
        simp
      | false =>
        have HFT := Lib.hid hft
        clear hft
        go_wp2_with fail
        refine ⟨⟨k + 1, by omega, by go_num, ?_, trivial⟩, by simp [intOf]; omega⟩
        rw [HFT.out]
        simp
    · obtain rfl : k = l.length := by omega
      rw [List.take_length]
      have F := Lib.hid (fun wx => refNum_any (flg l) 1 wx (by omega))
      go_wp2_with fail
      refine (F.out _).mono ?_
      rintro e w3 ⟨rfl, hb3⟩
      go_wp2_with fail
      go_ret
      exact ⟨rfl, hb3⟩
end

section
open Go.RowKit

def isCallF (b : BldD) (floor dir : Int) : Bool :=
  decide (validE b = 0) && ((decide (dir = 1) && inAll 0 (b.floors - 2) [floor]) || (decide (dir = 2) && inAll 1 (b.floors - 1) [floor]))

theorem isCallF_bad {b : BldD} {floor dir : Int} (h : ¬ validE b = 0) : isCallF b floor dir = false := by simp [isCallF, h]

set_option maxHeartbeats 2000000 in
theorem refIsCall_any (b : BldD) (A : Option Addr) (cap : Nat) (floor dir : Int) (w : World) (hn : b.cars.length ≤ 140737488355328) (hc : CarsAt w w.heap.size A b.cars) :
    Calls Try.prog 84 #[b.agg A cap, .int .i64 floor, .int .i64 dir] w fun e w' => e = .returned (.bool (isCallF b floor dir)) ∧ Below w.heap.size w w' := by
  have HC := Lib.hid hc
  clear hc
  by_cases hv : validE b = 0
  · have hF := fine_of hv
    have HE : Hid (isCallF b floor dir = ((decide (dir = 1) && inAll 0 (b.floors - 2) [floor]) || (decide (dir = 2) && inAll 1 (b.floors - 1) [floor]))) := by show _ = _; simp [isCallF, hv]
    obtain ⟨f, d, r, p, e1, e2, e3, cs⟩ := b
    obtain ⟨⟨hf1, hf2⟩, -, -⟩ := hF
    simp only at hf1 hf2 hn HC HE
    simp only [BldD.agg]
    have hdir : dir = 1 ∨ dir = 2 ∨ (dir ≠ 1 ∧ dir ≠ 2) := by omega
    rcases Bool.eq_false_or_eq_true (inAll 0 (f - 2) [floor]) with q1 | q1
    all_goals
      rcases hdir with rfl | rfl | ⟨hd1, hd2⟩
      all_goals
        go_enter Try.func84, Try.ntmps84
        go_wp2_with fail
        refine (refValid_any ⟨f, d, r, p, e1, e2, e3, cs⟩ A cap _ hn ((HC.out.below (by go_grown)).more (by simp))).mono ?_
        rintro e w' ⟨rfl, hb1⟩
        have hbel := ((Below.refl w.heap.size w).alloc (Nat.le_refl _) _).trans (hb1.mono (by simp))
        obtain ⟨hc1, hf1'⟩ := bcell hb1
        go_wp2_with (go_at_call 70; refine (refIn_any _ _ _ _).mono ?_; rintro e w2 ⟨rfl, rfl⟩)
        go_ret
        exact ⟨ret_bool (by rw [HE.out]; simp [*]), hbel⟩
  · have HS := Lib.hid (isCallF_bad (floor := floor) (dir := dir) hv)
    obtain ⟨f, d, r, p, e1, e2, e3, cs⟩ := b
    simp only at hn HC
    simp only [BldD.agg]
    obtain ⟨v, hw⟩ : ∃ v, v = validE ⟨f, d, r, p, e1, e2, e3, cs⟩ := ⟨_, rfl⟩
    rw [← hw] at hv
    have HW := Lib.hid hw
    clear hw
    go_enter Try.func84, Try.ntmps84
    go_wp2_with fail
    refine (refValid_any ⟨f, d, r, p, e1, e2, e3, cs⟩ A cap _ hn ((HC.out.below (by go_grown)).more (by simp))).mono ?_
    rw [← HW.out]
    rintro e w' ⟨rfl, hb1⟩
    have hbel := ((Below.refl w.heap.size w).alloc (Nat.le_refl _) _).trans (hb1.mono (by simp))
    go_wp2_with fail
    go_ret
    exact ⟨ret_bool HS.out.symm, hbel⟩
end

section
open Go.RowKit

def hallUpTo (b : BldD) (k : Nat) : Nat := if validE b = 0 then 2 ^ (min k (b.floors.toNat - 1)) - 1 else 0
def hallDownTo (b : BldD) (k : Nat) : Nat := if validE b = 0 then 2 ^ (min k b.floors.toNat) - 2 else 0

theorem hallUpTo_zero (b : BldD) : hallUpTo b 0 = 0 := by simp [hallUpTo]
theorem hallDownTo_zero (b : BldD) : hallDownTo b 0 = 0 := by simp [hallDownTo]

theorem hallUpTo_end {b : BldD} : hallUpTo b 32 = hallUp b := by
  by_cases hv : validE b = 0
  · have hF := fine_of hv
    obtain ⟨⟨h1, h2⟩, -, -⟩ := hF
    have : min 32 (b.floors.toNat - 1) = b.floors.toNat - 1 := by omega
    simp [hallUpTo, hallUp, hv, this]
  · simp [hallUpTo, hallUp, hv]

theorem hallDownTo_end {b : BldD} : hallDownTo b 32 = hallDown b := by
  by_cases hv : validE b = 0
  · have hF := fine_of hv
    obtain ⟨⟨h1, h2⟩, -, -⟩ := hF
    have : min 32 b.floors.toNat = b.floors.toNat := by omega
    simp [hallDownTo, hallDown, hv, this]
  · simp [hallDownTo, hallDown, hv]

theorem hallUpTo_no {b : BldD} {k : Nat} (h : isCallF b k 1 = false) : hallUpTo b (k + 1) = hallUpTo b k := by
  by_cases hv : validE b = 0
  · have hF := fine_of hv
    obtain ⟨⟨h1, h2⟩, -, -⟩ := hF
    simp [isCallF, hv, inAll] at h
    have : min (k + 1) (b.floors.toNat - 1) = min k (b.floors.toNat - 1) := by omega
    simp [hallUpTo, hv, this]
  · simp [hallUpTo, hv]

theorem hallDownTo_no {b : BldD} {k : Nat} (h : isCallF b k 2 = false) : hallDownTo b (k + 1) = hallDownTo b k := by
  by_cases hv : validE b = 0
  · have hF := fine_of hv
    obtain ⟨⟨h1, h2⟩, -, -⟩ := hF
    simp [isCallF, hv, inAll] at h
    by_cases h0 : k = 0
    · subst h0
      have : min 1 b.floors.toNat = 1 := by omega
      simp [hallDownTo, hv, this]
    · have : min (k + 1) b.floors.toNat = min k b.floors.toNat := by omega
      simp [hallDownTo, hv, this]
  · simp [hallDownTo, hv]

theorem hallUpTo_yes {b : BldD} {k : Nat} (h : isCallF b k 1 = true) : k < 32 ∧ hallUpTo b k = 2 ^ k - 1 ∧ hallUpTo b (k + 1) = 2 ^ (k + 1) - 1 := by
  by_cases hv : validE b = 0
  · have hF := fine_of hv
    obtain ⟨⟨h1, h2⟩, -, -⟩ := hF
    simp [isCallF, hv, inAll] at h
    have e1 : min (k + 1) (b.floors.toNat - 1) = k + 1 := by omega
    have e2 : min k (b.floors.toNat - 1) = k := by omega
    simp [hallUpTo, hv, e1, e2]; omega
  · simp [isCallF, hv] at h

theorem hallDownTo_yes {b : BldD} {k : Nat} (h : isCallF b k 2 = true) : k < 32 ∧ 1 ≤ k ∧ hallDownTo b k = 2 ^ k - 2 ∧ hallDownTo b (k + 1) = 2 ^ (k + 1) - 2 := by
  by_cases hv : validE b = 0
  · have hF := fine_of hv
    obtain ⟨⟨h1, h2⟩, -, -⟩ := hF
    simp [isCallF, hv, inAll] at h
    have e1 : min (k + 1) b.floors.toNat = k + 1 := by omega
    have e2 : min k b.floors.toNat = k := by omega
    simp [hallDownTo, hv, e1, e2]; omega
  · simp [isCallF, hv] at h

theorem up_or {k : Nat} (h : k < 32) : bits .or .u32 ((2 ^ k - 1 : Nat) : Int) (2 ^ k % 4294967296) = ((2 ^ (k + 1) - 1 : Nat) : Int) := by
  have h' : ∀ G : Fin 32, bits .or .u32 ((2 ^ G.val - 1 : Nat) : Int) (2 ^ G.val % 4294967296) = ((2 ^ (G.val + 1) - 1 : Nat) : Int) := by decide +kernel
  exact h' ⟨k, h⟩
theorem down_or {k : Nat} (h : k < 32) (HK : 1 ≤ k) : bits .or .u32 ((2 ^ k - 2 : Nat) : Int) (2 ^ k % 4294967296) = ((2 ^ (k + 1) - 2 : Nat) : Int) := by
  have h' : ∀ G : Fin 32, 1 ≤ G.val → bits .or .u32 ((2 ^ G.val - 2 : Nat) : Int) (2 ^ G.val % 4294967296) = ((2 ^ (G.val + 1) - 2 : Nat) : Int) := by decide +kernel
  exact h' ⟨k, h⟩ HK
/-- A set of calls in memory. -/
def twoAt (w : World) (b : Nat) (u d : Nat) : Prop :=
  w.cell? ⟨b, 0, none⟩ = some (.int .u32 u) ∧ w.cell? ⟨b, 1, none⟩ = some (.int .u32 d) ∧ w.frozen? ⟨b, 0, none⟩ = false ∧ w.frozen? ⟨b, 1, none⟩ = false

set_option maxHeartbeats 2000000 in
theorem refHall_any (b : BldD) (A : Option Addr) (cap : Nat) (w : World) (hn : b.cars.length ≤ 140737488355328) (hc : CarsAt w w.heap.size A b.cars) :
    Calls Try.prog 80 #[b.agg A cap] w fun e w' => e = .returned (callsV (hallUp b) (hallDown b)) ∧ Below w.heap.size w w' := by
  have HC := Lib.hid hc
  clear hc
  have HU0 := Lib.hid (hallUpTo_zero b)
  have HD0 := Lib.hid (hallDownTo_zero b)
  have HUE := Lib.hid (hallUpTo_end (b := b))
  have HDE := Lib.hid (hallDownTo_end (b := b))
  obtain ⟨f, d, r, p, e1, e2, e3, cs⟩ := b
  simp only at hn HC
  simp only [BldD.agg]
  go_enter Try.func80, Try.ntmps80
  go_wp2_with fail
  go_loopw [4] (fun v4 wr => ∃ k : Nat, k ≤ 32 ∧ v4 = .int .i64 k ∧ Below (w.heap.size + 1) (w.alloc (.cells #[.int .i64 f, .int .i64 d, .int .i64 r, .int .i64 p, .float .f64 e1, .float .f64 e2, .float .f64 e3, .slice A cs.length cap] 25)) wr ∧ w.heap.size + 3 ≤ wr.heap.size ∧ twoAt wr (w.heap.size + 1) 0 0 ∧ twoAt wr (w.heap.size + 2) (hallUpTo ⟨f, d, r, p, e1, e2, e3, cs⟩ k) (hallDownTo ⟨f, d, r, p, e1, e2, e3, cs⟩ k)) (fun v4 _ => 32 - (intOf v4).toNat)
  case atStart =>
    refine ⟨0, by omega, rfl, ?_, by simp, ?_, ?_⟩
    · go_grown
    · refine ⟨?_, ?_, ?_, ?_⟩ <;> simp [go_sem]
    · rw [HU0.out, HD0.out]
      refine ⟨?_, ?_, ?_, ?_⟩ <;> simp [go_sem]
  case round =>
    obtain ⟨k, hk, rfl, hbel, hz, ⟨q0, q1, q2, q3⟩, ⟨u0, u1, u2, u3⟩⟩ := hrel
    by_cases hlt : k < 32
    · obtain ⟨-, g0, g1, g2, g3, g4, g5, g6, g7⟩ := boxS hbel
      rcases Bool.eq_false_or_eq_true (isCallF ⟨f, d, r, p, e1, e2, e3, cs⟩ k 1) with c1 | c1
      · obtain ⟨-, eU, eV⟩ := hallUpTo_yes c1
        rw [eU] at u0
        have C1 := Lib.hid c1
        clear c1 eU
        have NM : Hid (_ = _) := Lib.hid ((up_or hlt).trans (congrArg (Nat.cast (R := Int)) eV.symm))
        clear eV
        go_wp2_with fail
        refine (refIsCall_any ⟨f, d, r, p, e1, e2, e3, cs⟩ A cap k 1 _ hn ((HC.out.below (below_of_new hbel)).more (by omega))).mono ?_
        rw [C1.out]
        rintro e w1 ⟨rfl, hb1⟩
        obtain ⟨hc1, hf1⟩ := bcell hb1
        have hbel1 := hbel.trans (hb1.mono (by omega))
        have hzw1 := hb1.size
        obtain ⟨q0, q1, q2, q3, u0, u1, u2, u3⟩ : (w1.cell? ⟨w.heap.size + 1, 0, none⟩ = some (.int .u32 0) ∧ w1.cell? ⟨w.heap.size + 1, 1, none⟩ = some (.int .u32 0) ∧ w1.frozen? ⟨w.heap.size + 1, 0, none⟩ = false ∧ w1.frozen? ⟨w.heap.size + 1, 1, none⟩ = false ∧ w1.cell? ⟨w.heap.size + 2, 0, none⟩ = some (.int .u32 (2 ^ k - 1 : Nat)) ∧ w1.cell? ⟨w.heap.size + 2, 1, none⟩ = some (.int .u32 (hallDownTo ⟨f, d, r, p, e1, e2, e3, cs⟩ k : Nat)) ∧ w1.frozen? ⟨w.heap.size + 2, 0, none⟩ = false ∧ w1.frozen? ⟨w.heap.size + 2, 1, none⟩ = false) :=
          ⟨(hc1 _ _ (by omega)).trans q0, (hc1 _ _ (by omega)).trans q1, (hf1 _ _ (by omega)).trans q2, (hf1 _ _ (by omega)).trans q3, (hc1 _ _ (by omega)).trans u0, (hc1 _ _ (by omega)).trans u1, (hf1 _ _ (by omega)).trans u2, (hf1 _ _ (by omega)).trans u3⟩
        clear hc1 hf1 hb1 g0 g1 g2 g3 g4 g5 g6 g7
        obtain ⟨-, g0, g1, g2, g3, g4, g5, g6, g7⟩ := boxS hbel1
        go_wp2_with fail
        rw [NM.out]
        obtain ⟨w2, hW⟩ : ∃ X, X = w1.setCell ⟨w.heap.size + 1 + 1, 0, none⟩ (.int .u32 (hallUpTo ⟨f, d, r, p, e1, e2, e3, cs⟩ (k + 1) : Nat)) := ⟨_, rfl⟩
        have hzw2 : w2.heap.size = w1.heap.size := by rw [hW]; simp
        have hbel2 : Below (w.heap.size + 1) _ w2 := hW ▸ hbel1.setCell (by show w.heap.size + 1 ≤ w.heap.size + 1 + 1; omega) _
        obtain ⟨q0, q1, q2, q3, u0, u1, u2, u3⟩ : (w2.cell? ⟨w.heap.size + 1, 0, none⟩ = some (.int .u32 0) ∧ w2.cell? ⟨w.heap.size + 1, 1, none⟩ = some (.int .u32 0) ∧ w2.frozen? ⟨w.heap.size + 1, 0, none⟩ = false ∧ w2.frozen? ⟨w.heap.size + 1, 1, none⟩ = false ∧ w2.cell? ⟨w.heap.size + 2, 0, none⟩ = some (.int .u32 (hallUpTo ⟨f, d, r, p, e1, e2, e3, cs⟩ (k + 1) : Nat)) ∧ w2.cell? ⟨w.heap.size + 2, 1, none⟩ = some (.int .u32 (hallDownTo ⟨f, d, r, p, e1, e2, e3, cs⟩ k : Nat)) ∧ w2.frozen? ⟨w.heap.size + 2, 0, none⟩ = false ∧ w2.frozen? ⟨w.heap.size + 2, 1, none⟩ = false) := by
          subst hW
          refine ⟨?_, ?_, ?_, ?_, ?_, ?_, ?_, ?_⟩ <;> simp [go_sem, q0, q1, q2, q3, u0, u1, u2, u3]
        rw [← hW]
        clear hW g0 g1 g2 g3 g4 g5 g6 g7
        obtain ⟨-, g0, g1, g2, g3, g4, g5, g6, g7⟩ := boxS hbel2
        clear NM
        rcases Bool.eq_false_or_eq_true (isCallF ⟨f, d, r, p, e1, e2, e3, cs⟩ k 2) with c2 | c2
        · obtain ⟨-, h1k, eU, eV⟩ := hallDownTo_yes c2
          rw [eU] at u1
          have C2 := Lib.hid c2
          clear c2 eU
          have NM : Hid (_ = _) := Lib.hid ((down_or hlt h1k).trans (congrArg (Nat.cast (R := Int)) eV.symm))
          clear eV
          go_wp2_with fail
          refine (refIsCall_any ⟨f, d, r, p, e1, e2, e3, cs⟩ A cap k 2 _ hn ((HC.out.below (below_of_new hbel2)).more (by omega))).mono ?_
          rw [C2.out]
          rintro e w3 ⟨rfl, hb1⟩
          obtain ⟨hc1, hf1⟩ := bcell hb1
          have hbel3 := hbel2.trans (hb1.mono (by omega))
          have hzw3 := hb1.size
          obtain ⟨q0, q1, q2, q3, u0, u1, u2, u3⟩ : (w3.cell? ⟨w.heap.size + 1, 0, none⟩ = some (.int .u32 0) ∧ w3.cell? ⟨w.heap.size + 1, 1, none⟩ = some (.int .u32 0) ∧ w3.frozen? ⟨w.heap.size + 1, 0, none⟩ = false ∧ w3.frozen? ⟨w.heap.size + 1, 1, none⟩ = false ∧ w3.cell? ⟨w.heap.size + 2, 0, none⟩ = some (.int .u32 (hallUpTo ⟨f, d, r, p, e1, e2, e3, cs⟩ (k + 1) : Nat)) ∧ w3.cell? ⟨w.heap.size + 2, 1, none⟩ = some (.int .u32 (2 ^ k - 2 : Nat)) ∧ w3.frozen? ⟨w.heap.size + 2, 0, none⟩ = false ∧ w3.frozen? ⟨w.heap.size + 2, 1, none⟩ = false) :=
            ⟨(hc1 _ _ (by omega)).trans q0, (hc1 _ _ (by omega)).trans q1, (hf1 _ _ (by omega)).trans q2, (hf1 _ _ (by omega)).trans q3, (hc1 _ _ (by omega)).trans u0, (hc1 _ _ (by omega)).trans u1, (hf1 _ _ (by omega)).trans u2, (hf1 _ _ (by omega)).trans u3⟩
          clear hc1 hf1 hb1 g0 g1 g2 g3 g4 g5 g6 g7
          obtain ⟨-, g0, g1, g2, g3, g4, g5, g6, g7⟩ := boxS hbel3
          go_wp2_with fail
          rw [NM.out]
          obtain ⟨w4, hW⟩ : ∃ X, X = w3.setCell ⟨w.heap.size + 1 + 1, 1, none⟩ (.int .u32 (hallDownTo ⟨f, d, r, p, e1, e2, e3, cs⟩ (k + 1) : Nat)) := ⟨_, rfl⟩
          have hzw4 : w4.heap.size = w3.heap.size := by rw [hW]; simp
          have hbel4 : Below (w.heap.size + 1) _ w4 := hW ▸ hbel3.setCell (by show w.heap.size + 1 ≤ w.heap.size + 1 + 1; omega) _
          obtain ⟨q0, q1, q2, q3, u0, u1, u2, u3⟩ : (w4.cell? ⟨w.heap.size + 1, 0, none⟩ = some (.int .u32 0) ∧ w4.cell? ⟨w.heap.size + 1, 1, none⟩ = some (.int .u32 0) ∧ w4.frozen? ⟨w.heap.size + 1, 0, none⟩ = false ∧ w4.frozen? ⟨w.heap.size + 1, 1, none⟩ = false ∧ w4.cell? ⟨w.heap.size + 2, 0, none⟩ = some (.int .u32 (hallUpTo ⟨f, d, r, p, e1, e2, e3, cs⟩ (k + 1) : Nat)) ∧ w4.cell? ⟨w.heap.size + 2, 1, none⟩ = some (.int .u32 (hallDownTo ⟨f, d, r, p, e1, e2, e3, cs⟩ (k + 1) : Nat)) ∧ w4.frozen? ⟨w.heap.size + 2, 0, none⟩ = false ∧ w4.frozen? ⟨w.heap.size + 2, 1, none⟩ = false) := by
            subst hW
            refine ⟨?_, ?_, ?_, ?_, ?_, ?_, ?_, ?_⟩ <;> simp [go_sem, q0, q1, q2, q3, u0, u1, u2, u3]
          rw [← hW]
          clear hW g0 g1 g2 g3 g4 g5 g6 g7
          obtain ⟨-, g0, g1, g2, g3, g4, g5, g6, g7⟩ := boxS hbel4
          go_wp2_with fail
          go_roundw
          case rel => exact ⟨k + 1, by omega, by go_num, hbel4, by omega, ⟨q0, q1, q2, q3⟩, ⟨u0, u1, u2, u3⟩⟩
          case measure => simp [intOf]; omega
        · rw [← hallDownTo_no c2] at u1
          have C2 := Lib.hid c2
          clear c2
          go_wp2_with fail
          refine (refIsCall_any ⟨f, d, r, p, e1, e2, e3, cs⟩ A cap k 2 _ hn ((HC.out.below (below_of_new hbel2)).more (by omega))).mono ?_
          rw [C2.out]
          rintro e w3 ⟨rfl, hb1⟩
          obtain ⟨hc1, hf1⟩ := bcell hb1
          have hbel3 := hbel2.trans (hb1.mono (by omega))
          have hzw3 := hb1.size
          obtain ⟨q0, q1, q2, q3, u0, u1, u2, u3⟩ : (w3.cell? ⟨w.heap.size + 1, 0, none⟩ = some (.int .u32 0) ∧ w3.cell? ⟨w.heap.size + 1, 1, none⟩ = some (.int .u32 0) ∧ w3.frozen? ⟨w.heap.size + 1, 0, none⟩ = false ∧ w3.frozen? ⟨w.heap.size + 1, 1, none⟩ = false ∧ w3.cell? ⟨w.heap.size + 2, 0, none⟩ = some (.int .u32 (hallUpTo ⟨f, d, r, p, e1, e2, e3, cs⟩ (k + 1) : Nat)) ∧ w3.cell? ⟨w.heap.size + 2, 1, none⟩ = some (.int .u32 (hallDownTo ⟨f, d, r, p, e1, e2, e3, cs⟩ (k + 1) : Nat)) ∧ w3.frozen? ⟨w.heap.size + 2, 0, none⟩ = false ∧ w3.frozen? ⟨w.heap.size + 2, 1, none⟩ = false) :=
            ⟨(hc1 _ _ (by omega)).trans q0, (hc1 _ _ (by omega)).trans q1, (hf1 _ _ (by omega)).trans q2, (hf1 _ _ (by omega)).trans q3, (hc1 _ _ (by omega)).trans u0, (hc1 _ _ (by omega)).trans u1, (hf1 _ _ (by omega)).trans u2, (hf1 _ _ (by omega)).trans u3⟩
          clear hc1 hf1 hb1 g0 g1 g2 g3 g4 g5 g6 g7
          obtain ⟨-, g0, g1, g2, g3, g4, g5, g6, g7⟩ := boxS hbel3
          go_wp2_with fail
          go_wp2_with fail
          go_roundw
          case rel => exact ⟨k + 1, by omega, by go_num, hbel3, by omega, ⟨q0, q1, q2, q3⟩, ⟨u0, u1, u2, u3⟩⟩
          case measure => simp [intOf]; omega
      · rw [← hallUpTo_no c1] at u0
        have C1 := Lib.hid c1
        clear c1
        go_wp2_with fail
        refine (refIsCall_any ⟨f, d, r, p, e1, e2, e3, cs⟩ A cap k 1 _ hn ((HC.out.below (below_of_new hbel)).more (by omega))).mono ?_
        rw [C1.out]
        rintro e w1 ⟨rfl, hb1⟩
        obtain ⟨hc1, hf1⟩ := bcell hb1
        have hbel1 := hbel.trans (hb1.mono (by omega))
        have hzw1 := hb1.size
        obtain ⟨q0, q1, q2, q3, u0, u1, u2, u3⟩ : (w1.cell? ⟨w.heap.size + 1, 0, none⟩ = some (.int .u32 0) ∧ w1.cell? ⟨w.heap.size + 1, 1, none⟩ = some (.int .u32 0) ∧ w1.frozen? ⟨w.heap.size + 1, 0, none⟩ = false ∧ w1.frozen? ⟨w.heap.size + 1, 1, none⟩ = false ∧ w1.cell? ⟨w.heap.size + 2, 0, none⟩ = some (.int .u32 (hallUpTo ⟨f, d, r, p, e1, e2, e3, cs⟩ (k + 1) : Nat)) ∧ w1.cell? ⟨w.heap.size + 2, 1, none⟩ = some (.int .u32 (hallDownTo ⟨f, d, r, p, e1, e2, e3, cs⟩ k : Nat)) ∧ w1.frozen? ⟨w.heap.size + 2, 0, none⟩ = false ∧ w1.frozen? ⟨w.heap.size + 2, 1, none⟩ = false) :=
          ⟨(hc1 _ _ (by omega)).trans q0, (hc1 _ _ (by omega)).trans q1, (hf1 _ _ (by omega)).trans q2, (hf1 _ _ (by omega)).trans q3, (hc1 _ _ (by omega)).trans u0, (hc1 _ _ (by omega)).trans u1, (hf1 _ _ (by omega)).trans u2, (hf1 _ _ (by omega)).trans u3⟩
        clear hc1 hf1 hb1 g0 g1 g2 g3 g4 g5 g6 g7
        obtain ⟨-, g0, g1, g2, g3, g4, g5, g6, g7⟩ := boxS hbel1
        go_wp2_with fail
        rcases Bool.eq_false_or_eq_true (isCallF ⟨f, d, r, p, e1, e2, e3, cs⟩ k 2) with c2 | c2
        · obtain ⟨-, h1k, eU, eV⟩ := hallDownTo_yes c2
          rw [eU] at u1
          have C2 := Lib.hid c2
          clear c2 eU
          have NM : Hid (_ = _) := Lib.hid ((down_or hlt h1k).trans (congrArg (Nat.cast (R := Int)) eV.symm))
          clear eV
          go_wp2_with fail
          refine (refIsCall_any ⟨f, d, r, p, e1, e2, e3, cs⟩ A cap k 2 _ hn ((HC.out.below (below_of_new hbel1)).more (by omega))).mono ?_
          rw [C2.out]
          rintro e w3 ⟨rfl, hb1⟩
          obtain ⟨hc1, hf1⟩ := bcell hb1
          have hbel3 := hbel1.trans (hb1.mono (by omega))
          have hzw3 := hb1.size
          obtain ⟨q0, q1, q2, q3, u0, u1, u2, u3⟩ : (w3.cell? ⟨w.heap.size + 1, 0, none⟩ = some (.int .u32 0) ∧ w3.cell? ⟨w.heap.size + 1, 1, none⟩ = some (.int .u32 0) ∧ w3.frozen? ⟨w.heap.size + 1, 0, none⟩ = false ∧ w3.frozen? ⟨w.heap.size + 1, 1, none⟩ = false ∧ w3.cell? ⟨w.heap.size + 2, 0, none⟩ = some (.int .u32 (hallUpTo ⟨f, d, r, p, e1, e2, e3, cs⟩ (k + 1) : Nat)) ∧ w3.cell? ⟨w.heap.size + 2, 1, none⟩ = some (.int .u32 (2 ^ k - 2 : Nat)) ∧ w3.frozen? ⟨w.heap.size + 2, 0, none⟩ = false ∧ w3.frozen? ⟨w.heap.size + 2, 1, none⟩ = false) :=
            ⟨(hc1 _ _ (by omega)).trans q0, (hc1 _ _ (by omega)).trans q1, (hf1 _ _ (by omega)).trans q2, (hf1 _ _ (by omega)).trans q3, (hc1 _ _ (by omega)).trans u0, (hc1 _ _ (by omega)).trans u1, (hf1 _ _ (by omega)).trans u2, (hf1 _ _ (by omega)).trans u3⟩
          clear hc1 hf1 hb1 g0 g1 g2 g3 g4 g5 g6 g7
          obtain ⟨-, g0, g1, g2, g3, g4, g5, g6, g7⟩ := boxS hbel3
          go_wp2_with fail
          rw [NM.out]
          obtain ⟨w4, hW⟩ : ∃ X, X = w3.setCell ⟨w.heap.size + 1 + 1, 1, none⟩ (.int .u32 (hallDownTo ⟨f, d, r, p, e1, e2, e3, cs⟩ (k + 1) : Nat)) := ⟨_, rfl⟩
          have hzw4 : w4.heap.size = w3.heap.size := by rw [hW]; simp
          have hbel4 : Below (w.heap.size + 1) _ w4 := hW ▸ hbel3.setCell (by show w.heap.size + 1 ≤ w.heap.size + 1 + 1; omega) _
          obtain ⟨q0, q1, q2, q3, u0, u1, u2, u3⟩ : (w4.cell? ⟨w.heap.size + 1, 0, none⟩ = some (.int .u32 0) ∧ w4.cell? ⟨w.heap.size + 1, 1, none⟩ = some (.int .u32 0) ∧ w4.frozen? ⟨w.heap.size + 1, 0, none⟩ = false ∧ w4.frozen? ⟨w.heap.size + 1, 1, none⟩ = false ∧ w4.cell? ⟨w.heap.size + 2, 0, none⟩ = some (.int .u32 (hallUpTo ⟨f, d, r, p, e1, e2, e3, cs⟩ (k + 1) : Nat)) ∧ w4.cell? ⟨w.heap.size + 2, 1, none⟩ = some (.int .u32 (hallDownTo ⟨f, d, r, p, e1, e2, e3, cs⟩ (k + 1) : Nat)) ∧ w4.frozen? ⟨w.heap.size + 2, 0, none⟩ = false ∧ w4.frozen? ⟨w.heap.size + 2, 1, none⟩ = false) := by
            subst hW
            refine ⟨?_, ?_, ?_, ?_, ?_, ?_, ?_, ?_⟩ <;> simp [go_sem, q0, q1, q2, q3, u0, u1, u2, u3]
          rw [← hW]
          clear hW g0 g1 g2 g3 g4 g5 g6 g7
          obtain ⟨-, g0, g1, g2, g3, g4, g5, g6, g7⟩ := boxS hbel4
          go_wp2_with fail
          go_roundw
          case rel => exact ⟨k + 1, by omega, by go_num, hbel4, by omega, ⟨q0, q1, q2, q3⟩, ⟨u0, u1, u2, u3⟩⟩
          case measure => simp [intOf]; omega
        · rw [← hallDownTo_no c2] at u1
          have C2 := Lib.hid c2
          clear c2
          go_wp2_with fail
          refine (refIsCall_any ⟨f, d, r, p, e1, e2, e3, cs⟩ A cap k 2 _ hn ((HC.out.below (below_of_new hbel1)).more (by omega))).mono ?_
          rw [C2.out]
          rintro e w3 ⟨rfl, hb1⟩
          obtain ⟨hc1, hf1⟩ := bcell hb1
          have hbel3 := hbel1.trans (hb1.mono (by omega))
          have hzw3 := hb1.size
          obtain ⟨q0, q1, q2, q3, u0, u1, u2, u3⟩ : (w3.cell? ⟨w.heap.size + 1, 0, none⟩ = some (.int .u32 0) ∧ w3.cell? ⟨w.heap.size + 1, 1, none⟩ = some (.int .u32 0) ∧ w3.frozen? ⟨w.heap.size + 1, 0, none⟩ = false ∧ w3.frozen? ⟨w.heap.size + 1, 1, none⟩ = false ∧ w3.cell? ⟨w.heap.size + 2, 0, none⟩ = some (.int .u32 (hallUpTo ⟨f, d, r, p, e1, e2, e3, cs⟩ (k + 1) : Nat)) ∧ w3.cell? ⟨w.heap.size + 2, 1, none⟩ = some (.int .u32 (hallDownTo ⟨f, d, r, p, e1, e2, e3, cs⟩ (k + 1) : Nat)) ∧ w3.frozen? ⟨w.heap.size + 2, 0, none⟩ = false ∧ w3.frozen? ⟨w.heap.size + 2, 1, none⟩ = false) :=
            ⟨(hc1 _ _ (by omega)).trans q0, (hc1 _ _ (by omega)).trans q1, (hf1 _ _ (by omega)).trans q2, (hf1 _ _ (by omega)).trans q3, (hc1 _ _ (by omega)).trans u0, (hc1 _ _ (by omega)).trans u1, (hf1 _ _ (by omega)).trans u2, (hf1 _ _ (by omega)).trans u3⟩
          clear hc1 hf1 hb1 g0 g1 g2 g3 g4 g5 g6 g7
          obtain ⟨-, g0, g1, g2, g3, g4, g5, g6, g7⟩ := boxS hbel3
          go_wp2_with fail
          go_wp2_with fail
          go_roundw
          case rel => exact ⟨k + 1, by omega, by go_num, hbel3, by omega, ⟨q0, q1, q2, q3⟩, ⟨u0, u1, u2, u3⟩⟩
          case measure => simp [intOf]; omega
    · obtain rfl : k = 32 := by omega
      go_wp2_with fail
      refine bodyPost_ret (v := .agg #[.int .u32 (hallUpTo ⟨f, d, r, p, e1, e2, e3, cs⟩ 32), .int .u32 (hallDownTo ⟨f, d, r, p, e1, e2, e3, cs⟩ 32)]) (by simp [results, Try.results80, go_sem, q0, q1]) rfl ?_
      exact ⟨ret_calls (by rw [HUE.out]) (by rw [HDE.out]), ((below_of_new hbel).setCell (by show w.heap.size ≤ w.heap.size + 1; omega) _).setCell (by show w.heap.size ≤ w.heap.size + 1; omega) _⟩
end

section
open Go.RowKit Frm

/-- Some floors of F. -/
def floorsB (F : Int) (n : Nat) : Bool := n / 2 ^ F.toNat == 0

theorem refBetween_any (n lo hi : Int) (w : World) : Calls Try.prog 60 #[.int .i64 n, .int .i64 lo, .int .i64 hi] w fun e w' => e = .returned (.bool (inB lo hi n)) ∧ w' = w := by
  by_cases h1 : lo ≤ n
  · have d1 : decide (n ≥ lo) = true := decide_eq_true h1
    have d1' : decide (lo ≤ n) = true := decide_eq_true h1
    by_cases h2 : n ≤ hi
    · have d2 : decide (n ≤ hi) = true := decide_eq_true h2
      have hr : inB lo hi n = true := by simp [inB, h1, h2]
      rw [hr]
      go_enter Try.func60, Try.ntmps60
      go_wp2
      go_ret
      exact ⟨rfl, rfl⟩
    · have d2 : decide (n ≤ hi) = false := decide_eq_false h2
      have hr : inB lo hi n = false := by simp [inB, h1, h2]
      rw [hr]
      go_enter Try.func60, Try.ntmps60
      go_wp2
      go_ret
      exact ⟨rfl, rfl⟩
  · have d1 : decide (n ≥ lo) = false := decide_eq_false h1
    have d1' : decide (lo ≤ n) = false := decide_eq_false h1
    have hr : inB lo hi n = false := by simp [inB, h1]
    rw [hr]
    go_enter Try.func60, Try.ntmps60
    go_wp2
    go_ret
    exact ⟨rfl, rfl⟩

theorem refFloors_any (b : BldD) (A : Option Addr) (cap n : Nat) (w : World) (hn : n < 4294967296) (hF : 0 ≤ b.floors ∧ b.floors ≤ 32) :
    Calls Try.prog 61 #[b.agg A cap, .int .u32 n] w fun e w' => e = .returned (.bool (floorsB b.floors n)) ∧ Below w.heap.size w w' := by
  obtain ⟨f, d, r, p, e1, e2, e3, cs⟩ := b
  simp only [BldD.agg] at *
  obtain ⟨h1, h2⟩ := hF
  have hw : IntKind.u64.wrap (n : Int) = (n : Int) := by rw [IntKind.wrap_u64]; omega
  have hwf : IntKind.u64.wrap f = f := by rw [IntKind.wrap_u64]; omega
  have hr : ((n : Int) / 2 ^ f.toNat == 0) = floorsB f n := by
    unfold floorsB
    rw [show ((2 : Int) ^ f.toNat) = ((2 ^ f.toNat : Nat) : Int) from by rw [Int.natCast_pow]; rfl, ← Int.natCast_ediv]
    cases hq : (n / 2 ^ f.toNat == 0) with
    | true => rw [beq_iff_eq] at hq ⊢; omega
    | false => rw [beq_eq_false_iff_ne] at hq ⊢; omega
  generalize floorsB f n = q at *
  go_enter Try.func61, Try.ntmps61
  go_wp2
  go_ret
  exact ⟨rfl, (Below.refl _ _).alloc (Nat.le_refl _) _⟩

theorem refWithin_any (b : BldD) (A : Option Addr) (cap u d : Nat) (w : World) (hn : b.cars.length ≤ 140737488355328) (hc : CarsAt w w.heap.size A b.cars) (hu : u < 4294967296) (hd : d < 4294967296) :
    Calls Try.prog 59 #[b.agg A cap, callsV u d] w fun e w' => e = .returned (.bool (setB u (hallUp b) && setB d (hallDown b))) ∧ Below w.heap.size w w' := by
  have F := Lib.hid (fun wx (h : Below w.heap.size w wx) => refHall_any b A cap wx hn ((hc.below h).more h.size))
  have hu1 := hallUp_lt b
  have hd1 := hallDown_lt b
  have q1 := u32_andNot u (hallUp b) hu hu1
  have q2 := u32_andNot d (hallDown b) hd hd1
  clear hc hu1 hd1
  generalize hallUp b = U at *
  generalize hallDown b = D at *
  generalize setB u U = s1 at *
  generalize setB d D = s2 at *
  obtain ⟨f, dd, r, p, e1, e2, e3, cs⟩ := b
  simp only [BldD.agg, callsV] at *
  go_enter Try.func59, Try.ntmps59
  go_wp2_with fail
  refine (F.out _ (by go_grown)).mono ?_
  rintro e w2 ⟨rfl, hb2⟩
  have hz2 : w.heap.size + 1 < w2.heap.size := by have := hb2.size; simp at this; omega
  have hbw : Below w.heap.size w w2 := Below.trans (by go_grown : Below w.heap.size w _) (hb2.mono (by simp; omega))
  have c0 : ∀ o, (w2.alloc o).cell? ⟨w.heap.size + 1, 0, none⟩ = some (.int .u32 u) := fun o => (World.cell?_of_block (w := w2) (Below.heap_alloc w2 o _ hz2)).trans ((hb2.cell (p := ⟨w.heap.size + 1, 0, none⟩) (by simp)).trans (by rw [World.cell?_alloc_at _ _ _ _ (by simp)]; rfl))
  have c1 : ∀ o, (w2.alloc o).cell? ⟨w.heap.size + 1, 1, none⟩ = some (.int .u32 d) := fun o => (World.cell?_of_block (w := w2) (Below.heap_alloc w2 o _ hz2)).trans ((hb2.cell (p := ⟨w.heap.size + 1, 1, none⟩) (by simp)).trans (by rw [World.cell?_alloc_at _ _ _ _ (by simp)]; rfl))
  clear hb2 hz2
  have HBW := Lib.hid hbw
  clear hbw
  cases s1
  all_goals
    cases s2
    all_goals
      go_wp2_with fail
      go_ret
      exact ⟨rfl, HBW.out.alloc (HBW.out.size) _⟩
end

section
open Go.RowKit Frm

def carIs (F : Int) (c : CarIn) : Bool := floorsB F c.floors && (floorsB F c.calls && (inB 0 (F - 1) c.floor && inB 0 2 c.door))
def headIs (x : BldD) (y : In) : Bool := (setB y.pu (hallUp x) && setB y.pd (hallDown x)) && (inB 0 8 y.kind && (inB 0 ((x.cars.length : Int) - 1) y.car && (!(y.kind == 0 && y.car != 0) && decide ((y.cars.length : Int) = (x.cars.length : Int)))))
def isInB (x : BldD) (y : In) : Bool := decide (validE x = 0) && (headIs x y && y.cars.all (carIs x.floors))

theorem all_no {F : Int} {ys : List CarIn} {m : Nat} (h : m < ys.length) (hc : carIs F ys[m] = false) : ys.all (carIs F) = false := by
  rw [List.all_eq_false]
  exact ⟨ys[m], List.getElem_mem h, by simp [hc]⟩
theorem all_take {F : Int} {ys : List CarIn} {m : Nat} (h : m < ys.length) (hc : carIs F ys[m] = true) (ht : (ys.take m).all (carIs F) = true) : (ys.take (m + 1)).all (carIs F) = true := by
  rw [List.take_succ_eq_append_getElem h, List.all_append, ht]
  simp [hc]

set_option maxRecDepth 100000 in
set_option maxHeartbeats 4000000 in
theorem refIsIn_any (x : BldD) (A : Option Addr) (cap : Nat) (y : In) (A' : Option Addr) (cp : Nat) (w : World) (hxn : x.cars.length ≤ 140737488355328) (hc : CarsAt w w.heap.size A x.cars) (hn : y.cars.length ≤ 1000) (hy : saneIn y) (hv : CarsV w A' y.cars) :
    Calls Try.prog 31 #[x.agg A cap, inAgg y A' cp] w fun e w' => e = .returned (.bool (isInB x y)) ∧ Below w.heap.size w w' := by
  have F1 := Lib.hid (fun wx (h : Below w.heap.size w wx) => refValid_any x A cap wx hxn ((hc.below h).more h.size))
  have F2 := Lib.hid (fun wx (h : Below w.heap.size w wx) => refWithin_any x A cap y.pu y.pd wx hxn ((hc.below h).more h.size) hy.1 hy.2.1)
  have HV := Lib.hid hv
  have HSC : Hid (∀ c ∈ y.cars, saneCar c) := hy.2.2.2.2
  clear hc hv hy
  have HIS : Hid (isInB x y = (decide (validE x = 0) && (headIs x y && y.cars.all (carIs x.floors)))) := rfl
  have HHS : Hid (headIs x y = ((setB y.pu (hallUp x) && setB y.pd (hallDown x)) && (inB 0 8 y.kind && (inB 0 ((x.cars.length : Int) - 1) y.car && (!(y.kind == 0 && y.car != 0) && decide ((y.cars.length : Int) = (x.cars.length : Int))))))) := rfl
  generalize isInB x y = R at *
  generalize headIs x y = HD at *
  have hcw : IntKind.i64.wrap ((x.cars.length : Int) - 1) = (x.cars.length : Int) - 1 := IntWalk.i64_in _ (by omega)
  have F3 : Hid (validE x = 0 → 0 ≤ x.floors ∧ x.floors ≤ 32 ∧ ∀ (n : Nat) wx, n < 4294967296 → Calls Try.prog 61 #[x.agg A cap, .int .u32 n] wx fun e w' => e = .returned (.bool (floorsB x.floors n)) ∧ Below wx.heap.size wx w') := fun h => by
    obtain ⟨⟨hf1, hf2⟩, -, -⟩ := fine_of h
    exact ⟨by omega, by omega, fun n wx hn => refFloors_any x A cap n wx hn ⟨by omega, by omega⟩⟩
  obtain ⟨pu, pd, kind, car, ys⟩ := y
  obtain ⟨V, hV⟩ : ∃ V, V = validE x := ⟨_, rfl⟩
  rw [← hV] at F1 HIS F3
  clear hV
  generalize (setB pu (hallUp x) && setB pd (hallDown x)) = S at *
  obtain ⟨f, d, r, p, e1, e2, e3, cs⟩ := x
  simp only [BldD.agg, inAgg, callsV] at *
  by_cases hV : V = 0
  case neg =>
    have hne : (V != 0) = true := bne_iff_ne.2 hV
    obtain rfl : R = false := by rw [HIS.out, decide_eq_false hV]; rfl
    clear hV
    go_enter Try.func31, Try.ntmps31
    go_wp2_with fail
    obtain ⟨W0, hW0⟩ : ∃ W0, W0 = (w.alloc (.cells #[.int .i64 f, .int .i64 d, .int .i64 r, .int .i64 p, .float .f64 e1, .float .f64 e2, .float .f64 e3, .slice A cs.length cap] 25)).alloc (.cells #[.int .u32 pu, .int .u32 pd, .int .i64 kind, .int .i64 car, .slice A' ys.length cp] 33) := ⟨_, rfl⟩
    rw [← hW0]
    have hs0 : W0.heap.size = w.heap.size + 2 := by rw [hW0]; simp
    have HBW : Hid (Below w.heap.size w W0) := by rw [hW0]; exact ((Below.refl _ _).alloc (Nat.le_refl _) _).alloc (by simp) _
    have HB : Hid (∀ wx, Below W0.heap.size W0 wx → wx.cell? ⟨w.heap.size, 0, none⟩ = some (.int .i64 f) ∧ wx.cell? ⟨w.heap.size, 1, none⟩ = some (.int .i64 d) ∧ wx.cell? ⟨w.heap.size, 2, none⟩ = some (.int .i64 r) ∧ wx.cell? ⟨w.heap.size, 3, none⟩ = some (.int .i64 p) ∧ wx.cell? ⟨w.heap.size, 4, none⟩ = some (.float .f64 e1) ∧ wx.cell? ⟨w.heap.size, 5, none⟩ = some (.float .f64 e2) ∧ wx.cell? ⟨w.heap.size, 6, none⟩ = some (.float .f64 e3) ∧ wx.cell? ⟨w.heap.size, 7, none⟩ = some (.slice A cs.length cap) ∧ wx.cell? ⟨w.heap.size + 1, 0, none⟩ = some (.int .u32 pu) ∧ wx.cell? ⟨w.heap.size + 1, 1, none⟩ = some (.int .u32 pd) ∧ wx.cell? ⟨w.heap.size + 1, 2, none⟩ = some (.int .i64 kind) ∧ wx.cell? ⟨w.heap.size + 1, 3, none⟩ = some (.int .i64 car) ∧ wx.cell? ⟨w.heap.size + 1, 4, none⟩ = some (.slice A' ys.length cp)) := fun wx h => by
      have r0 : wx.heap[w.heap.size]? = some (.cells #[.int .i64 f, .int .i64 d, .int .i64 r, .int .i64 p, .float .f64 e1, .float .f64 e2, .float .f64 e3, .slice A cs.length cap] 25 (0, 0)) := (h.block _ (by omega)).trans (by rw [hW0]; exact (Below.heap_alloc _ _ _ (by simp)).trans (heap_alloc_new w _))
      have r1 : wx.heap[w.heap.size + 1]? = some (.cells #[.int .u32 pu, .int .u32 pd, .int .i64 kind, .int .i64 car, .slice A' ys.length cp] 33 (0, 0)) := (h.block _ (by omega)).trans (by
        rw [hW0]
        have h := heap_alloc_new (w.alloc (.cells #[.int .i64 f, .int .i64 d, .int .i64 r, .int .i64 p, .float .f64 e1, .float .f64 e2, .float .f64 e3, .slice A cs.length cap] 25)) (.cells #[.int .u32 pu, .int .u32 pd, .int .i64 kind, .int .i64 car, .slice A' ys.length cp] 33)
        have e : (w.alloc (.cells #[.int .i64 f, .int .i64 d, .int .i64 r, .int .i64 p, .float .f64 e1, .float .f64 e2, .float .f64 e3, .slice A cs.length cap] 25)).heap.size = w.heap.size + 1 := by simp
        rw [e] at h
        exact h)
      exact ⟨cell_of_row _ _ _ _ _ (0, 0) r0, cell_of_row _ _ _ _ _ (0, 0) r0, cell_of_row _ _ _ _ _ (0, 0) r0, cell_of_row _ _ _ _ _ (0, 0) r0, cell_of_row _ _ _ _ _ (0, 0) r0, cell_of_row _ _ _ _ _ (0, 0) r0, cell_of_row _ _ _ _ _ (0, 0) r0, cell_of_row _ _ _ _ _ (0, 0) r0, cell_of_row _ _ _ _ _ (0, 0) r1, cell_of_row _ _ _ _ _ (0, 0) r1, cell_of_row _ _ _ _ _ (0, 0) r1, cell_of_row _ _ _ _ _ (0, 0) r1, cell_of_row _ _ _ _ _ (0, 0) r1⟩
    clear hW0
    refine (F1.out W0 HBW.out).mono ?_
    rintro e w1 ⟨rfl, hb1⟩
    obtain ⟨a0, a1, a2, a3, a4, a5, a6, a7, a8, a9, a10, a11, a12⟩ := HB.out w1 hb1
    have HX := Lib.hid hb1
    clear hb1
    go_wp2_with fail
    go_ret
    exact ⟨rfl, HBW.out.trans (HX.out.mono (by omega))⟩
  subst hV
  obtain ⟨hf0, hf32, hfl⟩ := F3.out rfl
  have FL := Lib.hid hfl
  clear F3 hfl
  rw [decide_eq_true rfl, Bool.true_and] at HIS
  cases S with
  | false =>
    obtain rfl : HD = false := by rw [HHS.out]; rfl
    obtain rfl : R = false := by rw [HIS.out]; rfl
    go_enter Try.func31, Try.ntmps31
    go_wp2_with fail
    obtain ⟨W0, hW0⟩ : ∃ W0, W0 = (w.alloc (.cells #[.int .i64 f, .int .i64 d, .int .i64 r, .int .i64 p, .float .f64 e1, .float .f64 e2, .float .f64 e3, .slice A cs.length cap] 25)).alloc (.cells #[.int .u32 pu, .int .u32 pd, .int .i64 kind, .int .i64 car, .slice A' ys.length cp] 33) := ⟨_, rfl⟩
    rw [← hW0]
    have hs0 : W0.heap.size = w.heap.size + 2 := by rw [hW0]; simp
    have HBW : Hid (Below w.heap.size w W0) := by rw [hW0]; exact ((Below.refl _ _).alloc (Nat.le_refl _) _).alloc (by simp) _
    have HB : Hid (∀ wx, Below W0.heap.size W0 wx → wx.cell? ⟨w.heap.size, 0, none⟩ = some (.int .i64 f) ∧ wx.cell? ⟨w.heap.size, 1, none⟩ = some (.int .i64 d) ∧ wx.cell? ⟨w.heap.size, 2, none⟩ = some (.int .i64 r) ∧ wx.cell? ⟨w.heap.size, 3, none⟩ = some (.int .i64 p) ∧ wx.cell? ⟨w.heap.size, 4, none⟩ = some (.float .f64 e1) ∧ wx.cell? ⟨w.heap.size, 5, none⟩ = some (.float .f64 e2) ∧ wx.cell? ⟨w.heap.size, 6, none⟩ = some (.float .f64 e3) ∧ wx.cell? ⟨w.heap.size, 7, none⟩ = some (.slice A cs.length cap) ∧ wx.cell? ⟨w.heap.size + 1, 0, none⟩ = some (.int .u32 pu) ∧ wx.cell? ⟨w.heap.size + 1, 1, none⟩ = some (.int .u32 pd) ∧ wx.cell? ⟨w.heap.size + 1, 2, none⟩ = some (.int .i64 kind) ∧ wx.cell? ⟨w.heap.size + 1, 3, none⟩ = some (.int .i64 car) ∧ wx.cell? ⟨w.heap.size + 1, 4, none⟩ = some (.slice A' ys.length cp)) := fun wx h => by
      have r0 : wx.heap[w.heap.size]? = some (.cells #[.int .i64 f, .int .i64 d, .int .i64 r, .int .i64 p, .float .f64 e1, .float .f64 e2, .float .f64 e3, .slice A cs.length cap] 25 (0, 0)) := (h.block _ (by omega)).trans (by rw [hW0]; exact (Below.heap_alloc _ _ _ (by simp)).trans (heap_alloc_new w _))
      have r1 : wx.heap[w.heap.size + 1]? = some (.cells #[.int .u32 pu, .int .u32 pd, .int .i64 kind, .int .i64 car, .slice A' ys.length cp] 33 (0, 0)) := (h.block _ (by omega)).trans (by
        rw [hW0]
        have h := heap_alloc_new (w.alloc (.cells #[.int .i64 f, .int .i64 d, .int .i64 r, .int .i64 p, .float .f64 e1, .float .f64 e2, .float .f64 e3, .slice A cs.length cap] 25)) (.cells #[.int .u32 pu, .int .u32 pd, .int .i64 kind, .int .i64 car, .slice A' ys.length cp] 33)
        have e : (w.alloc (.cells #[.int .i64 f, .int .i64 d, .int .i64 r, .int .i64 p, .float .f64 e1, .float .f64 e2, .float .f64 e3, .slice A cs.length cap] 25)).heap.size = w.heap.size + 1 := by simp
        rw [e] at h
        exact h)
      exact ⟨cell_of_row _ _ _ _ _ (0, 0) r0, cell_of_row _ _ _ _ _ (0, 0) r0, cell_of_row _ _ _ _ _ (0, 0) r0, cell_of_row _ _ _ _ _ (0, 0) r0, cell_of_row _ _ _ _ _ (0, 0) r0, cell_of_row _ _ _ _ _ (0, 0) r0, cell_of_row _ _ _ _ _ (0, 0) r0, cell_of_row _ _ _ _ _ (0, 0) r0, cell_of_row _ _ _ _ _ (0, 0) r1, cell_of_row _ _ _ _ _ (0, 0) r1, cell_of_row _ _ _ _ _ (0, 0) r1, cell_of_row _ _ _ _ _ (0, 0) r1, cell_of_row _ _ _ _ _ (0, 0) r1⟩
    clear hW0
    refine (F1.out W0 HBW.out).mono ?_
    rintro e w1 ⟨rfl, hb1⟩
    obtain ⟨a0, a1, a2, a3, a4, a5, a6, a7, a8, a9, a10, a11, a12⟩ := HB.out w1 hb1
    have HX := Lib.hid hb1
    clear hb1
    go_wp2_with fail
    clear a0 a1 a2 a3 a4 a5 a6 a7 a8 a9 a10 a11 a12
    refine (F2.out w1 (HBW.out.trans (HX.out.mono (by omega)))).mono ?_
    rintro e w2 ⟨rfl, hb2⟩
    have hx2 := HX.out.trans (hb2.mono HX.out.size)
    obtain ⟨a0, a1, a2, a3, a4, a5, a6, a7, a8, a9, a10, a11, a12⟩ := HB.out w2 hx2
    have HX := Lib.hid hx2
    clear hb2 hx2
    go_wp2_with fail
    go_ret
    exact ⟨rfl, HBW.out.trans (HX.out.mono (by omega))⟩
  | true =>
  cases hk : inB 0 8 kind with
  | false =>
    obtain rfl : HD = false := by rw [HHS.out, hk]; rfl
    obtain rfl : R = false := by rw [HIS.out]; rfl
    go_enter Try.func31, Try.ntmps31
    go_wp2_with fail
    obtain ⟨W0, hW0⟩ : ∃ W0, W0 = (w.alloc (.cells #[.int .i64 f, .int .i64 d, .int .i64 r, .int .i64 p, .float .f64 e1, .float .f64 e2, .float .f64 e3, .slice A cs.length cap] 25)).alloc (.cells #[.int .u32 pu, .int .u32 pd, .int .i64 kind, .int .i64 car, .slice A' ys.length cp] 33) := ⟨_, rfl⟩
    rw [← hW0]
    have hs0 : W0.heap.size = w.heap.size + 2 := by rw [hW0]; simp
    have HBW : Hid (Below w.heap.size w W0) := by rw [hW0]; exact ((Below.refl _ _).alloc (Nat.le_refl _) _).alloc (by simp) _
    have HB : Hid (∀ wx, Below W0.heap.size W0 wx → wx.cell? ⟨w.heap.size, 0, none⟩ = some (.int .i64 f) ∧ wx.cell? ⟨w.heap.size, 1, none⟩ = some (.int .i64 d) ∧ wx.cell? ⟨w.heap.size, 2, none⟩ = some (.int .i64 r) ∧ wx.cell? ⟨w.heap.size, 3, none⟩ = some (.int .i64 p) ∧ wx.cell? ⟨w.heap.size, 4, none⟩ = some (.float .f64 e1) ∧ wx.cell? ⟨w.heap.size, 5, none⟩ = some (.float .f64 e2) ∧ wx.cell? ⟨w.heap.size, 6, none⟩ = some (.float .f64 e3) ∧ wx.cell? ⟨w.heap.size, 7, none⟩ = some (.slice A cs.length cap) ∧ wx.cell? ⟨w.heap.size + 1, 0, none⟩ = some (.int .u32 pu) ∧ wx.cell? ⟨w.heap.size + 1, 1, none⟩ = some (.int .u32 pd) ∧ wx.cell? ⟨w.heap.size + 1, 2, none⟩ = some (.int .i64 kind) ∧ wx.cell? ⟨w.heap.size + 1, 3, none⟩ = some (.int .i64 car) ∧ wx.cell? ⟨w.heap.size + 1, 4, none⟩ = some (.slice A' ys.length cp)) := fun wx h => by
      have r0 : wx.heap[w.heap.size]? = some (.cells #[.int .i64 f, .int .i64 d, .int .i64 r, .int .i64 p, .float .f64 e1, .float .f64 e2, .float .f64 e3, .slice A cs.length cap] 25 (0, 0)) := (h.block _ (by omega)).trans (by rw [hW0]; exact (Below.heap_alloc _ _ _ (by simp)).trans (heap_alloc_new w _))
      have r1 : wx.heap[w.heap.size + 1]? = some (.cells #[.int .u32 pu, .int .u32 pd, .int .i64 kind, .int .i64 car, .slice A' ys.length cp] 33 (0, 0)) := (h.block _ (by omega)).trans (by
        rw [hW0]
        have h := heap_alloc_new (w.alloc (.cells #[.int .i64 f, .int .i64 d, .int .i64 r, .int .i64 p, .float .f64 e1, .float .f64 e2, .float .f64 e3, .slice A cs.length cap] 25)) (.cells #[.int .u32 pu, .int .u32 pd, .int .i64 kind, .int .i64 car, .slice A' ys.length cp] 33)
        have e : (w.alloc (.cells #[.int .i64 f, .int .i64 d, .int .i64 r, .int .i64 p, .float .f64 e1, .float .f64 e2, .float .f64 e3, .slice A cs.length cap] 25)).heap.size = w.heap.size + 1 := by simp
        rw [e] at h
        exact h)
      exact ⟨cell_of_row _ _ _ _ _ (0, 0) r0, cell_of_row _ _ _ _ _ (0, 0) r0, cell_of_row _ _ _ _ _ (0, 0) r0, cell_of_row _ _ _ _ _ (0, 0) r0, cell_of_row _ _ _ _ _ (0, 0) r0, cell_of_row _ _ _ _ _ (0, 0) r0, cell_of_row _ _ _ _ _ (0, 0) r0, cell_of_row _ _ _ _ _ (0, 0) r0, cell_of_row _ _ _ _ _ (0, 0) r1, cell_of_row _ _ _ _ _ (0, 0) r1, cell_of_row _ _ _ _ _ (0, 0) r1, cell_of_row _ _ _ _ _ (0, 0) r1, cell_of_row _ _ _ _ _ (0, 0) r1⟩
    clear hW0
    refine (F1.out W0 HBW.out).mono ?_
    rintro e w1 ⟨rfl, hb1⟩
    obtain ⟨a0, a1, a2, a3, a4, a5, a6, a7, a8, a9, a10, a11, a12⟩ := HB.out w1 hb1
    have HX := Lib.hid hb1
    clear hb1
    go_wp2_with fail
    clear a0 a1 a2 a3 a4 a5 a6 a7 a8 a9 a10 a11 a12
    refine (F2.out w1 (HBW.out.trans (HX.out.mono (by omega)))).mono ?_
    rintro e w2 ⟨rfl, hb2⟩
    have hx2 := HX.out.trans (hb2.mono HX.out.size)
    obtain ⟨a0, a1, a2, a3, a4, a5, a6, a7, a8, a9, a10, a11, a12⟩ := HB.out w2 hx2
    have HX := Lib.hid hx2
    clear hb2 hx2
    go_wp2_with fail
    clear a0 a1 a2 a3 a4 a5 a6 a7 a8 a9 a10 a11 a12
    refine (refBetween_any kind 0 8 _).mono ?_
    rintro e w3 ⟨rfl, rfl⟩
    rw [hk]
    obtain ⟨a0, a1, a2, a3, a4, a5, a6, a7, a8, a9, a10, a11, a12⟩ := HB.out w3 HX.out
    go_wp2_with fail
    go_ret
    exact ⟨rfl, HBW.out.trans (HX.out.mono (by omega))⟩
  | true =>
  cases hr : inB 0 ((cs.length : Int) - 1) car with
  | false =>
    obtain rfl : HD = false := by rw [HHS.out, hk, hr]; rfl
    obtain rfl : R = false := by rw [HIS.out]; rfl
    go_enter Try.func31, Try.ntmps31
    go_wp2_with fail
    obtain ⟨W0, hW0⟩ : ∃ W0, W0 = (w.alloc (.cells #[.int .i64 f, .int .i64 d, .int .i64 r, .int .i64 p, .float .f64 e1, .float .f64 e2, .float .f64 e3, .slice A cs.length cap] 25)).alloc (.cells #[.int .u32 pu, .int .u32 pd, .int .i64 kind, .int .i64 car, .slice A' ys.length cp] 33) := ⟨_, rfl⟩
    rw [← hW0]
    have hs0 : W0.heap.size = w.heap.size + 2 := by rw [hW0]; simp
    have HBW : Hid (Below w.heap.size w W0) := by rw [hW0]; exact ((Below.refl _ _).alloc (Nat.le_refl _) _).alloc (by simp) _
    have HB : Hid (∀ wx, Below W0.heap.size W0 wx → wx.cell? ⟨w.heap.size, 0, none⟩ = some (.int .i64 f) ∧ wx.cell? ⟨w.heap.size, 1, none⟩ = some (.int .i64 d) ∧ wx.cell? ⟨w.heap.size, 2, none⟩ = some (.int .i64 r) ∧ wx.cell? ⟨w.heap.size, 3, none⟩ = some (.int .i64 p) ∧ wx.cell? ⟨w.heap.size, 4, none⟩ = some (.float .f64 e1) ∧ wx.cell? ⟨w.heap.size, 5, none⟩ = some (.float .f64 e2) ∧ wx.cell? ⟨w.heap.size, 6, none⟩ = some (.float .f64 e3) ∧ wx.cell? ⟨w.heap.size, 7, none⟩ = some (.slice A cs.length cap) ∧ wx.cell? ⟨w.heap.size + 1, 0, none⟩ = some (.int .u32 pu) ∧ wx.cell? ⟨w.heap.size + 1, 1, none⟩ = some (.int .u32 pd) ∧ wx.cell? ⟨w.heap.size + 1, 2, none⟩ = some (.int .i64 kind) ∧ wx.cell? ⟨w.heap.size + 1, 3, none⟩ = some (.int .i64 car) ∧ wx.cell? ⟨w.heap.size + 1, 4, none⟩ = some (.slice A' ys.length cp)) := fun wx h => by
      have r0 : wx.heap[w.heap.size]? = some (.cells #[.int .i64 f, .int .i64 d, .int .i64 r, .int .i64 p, .float .f64 e1, .float .f64 e2, .float .f64 e3, .slice A cs.length cap] 25 (0, 0)) := (h.block _ (by omega)).trans (by rw [hW0]; exact (Below.heap_alloc _ _ _ (by simp)).trans (heap_alloc_new w _))
      have r1 : wx.heap[w.heap.size + 1]? = some (.cells #[.int .u32 pu, .int .u32 pd, .int .i64 kind, .int .i64 car, .slice A' ys.length cp] 33 (0, 0)) := (h.block _ (by omega)).trans (by
        rw [hW0]
        have h := heap_alloc_new (w.alloc (.cells #[.int .i64 f, .int .i64 d, .int .i64 r, .int .i64 p, .float .f64 e1, .float .f64 e2, .float .f64 e3, .slice A cs.length cap] 25)) (.cells #[.int .u32 pu, .int .u32 pd, .int .i64 kind, .int .i64 car, .slice A' ys.length cp] 33)
        have e : (w.alloc (.cells #[.int .i64 f, .int .i64 d, .int .i64 r, .int .i64 p, .float .f64 e1, .float .f64 e2, .float .f64 e3, .slice A cs.length cap] 25)).heap.size = w.heap.size + 1 := by simp
        rw [e] at h
        exact h)
      exact ⟨cell_of_row _ _ _ _ _ (0, 0) r0, cell_of_row _ _ _ _ _ (0, 0) r0, cell_of_row _ _ _ _ _ (0, 0) r0, cell_of_row _ _ _ _ _ (0, 0) r0, cell_of_row _ _ _ _ _ (0, 0) r0, cell_of_row _ _ _ _ _ (0, 0) r0, cell_of_row _ _ _ _ _ (0, 0) r0, cell_of_row _ _ _ _ _ (0, 0) r0, cell_of_row _ _ _ _ _ (0, 0) r1, cell_of_row _ _ _ _ _ (0, 0) r1, cell_of_row _ _ _ _ _ (0, 0) r1, cell_of_row _ _ _ _ _ (0, 0) r1, cell_of_row _ _ _ _ _ (0, 0) r1⟩
    clear hW0
    refine (F1.out W0 HBW.out).mono ?_
    rintro e w1 ⟨rfl, hb1⟩
    obtain ⟨a0, a1, a2, a3, a4, a5, a6, a7, a8, a9, a10, a11, a12⟩ := HB.out w1 hb1
    have HX := Lib.hid hb1
    clear hb1
    go_wp2_with fail
    clear a0 a1 a2 a3 a4 a5 a6 a7 a8 a9 a10 a11 a12
    refine (F2.out w1 (HBW.out.trans (HX.out.mono (by omega)))).mono ?_
    rintro e w2 ⟨rfl, hb2⟩
    have hx2 := HX.out.trans (hb2.mono HX.out.size)
    obtain ⟨a0, a1, a2, a3, a4, a5, a6, a7, a8, a9, a10, a11, a12⟩ := HB.out w2 hx2
    have HX := Lib.hid hx2
    clear hb2 hx2
    go_wp2_with fail
    clear a0 a1 a2 a3 a4 a5 a6 a7 a8 a9 a10 a11 a12
    refine (refBetween_any kind 0 8 _).mono ?_
    rintro e w3 ⟨rfl, rfl⟩
    rw [hk]
    obtain ⟨a0, a1, a2, a3, a4, a5, a6, a7, a8, a9, a10, a11, a12⟩ := HB.out w3 HX.out
    go_wp2_with fail
    clear a0 a1 a2 a3 a4 a5 a6 a7 a8 a9 a10 a11 a12
    refine (refBetween_any car 0 ((cs.length : Int) - 1) _).mono ?_
    rintro e w4 ⟨rfl, rfl⟩
    rw [hr]
    obtain ⟨a0, a1, a2, a3, a4, a5, a6, a7, a8, a9, a10, a11, a12⟩ := HB.out w4 HX.out
    go_wp2_with fail
    go_ret
    exact ⟨rfl, HBW.out.trans (HX.out.mono (by omega))⟩
  | true =>
  cases hz : (kind == 0 && car != 0) with
  | true =>
    obtain rfl : HD = false := by rw [HHS.out, hk, hr, hz]; rfl
    obtain rfl : R = false := by rw [HIS.out]; rfl
    rw [Bool.and_eq_true] at hz
    obtain ⟨hz1, hz2⟩ := hz
    go_enter Try.func31, Try.ntmps31
    go_wp2_with fail
    obtain ⟨W0, hW0⟩ : ∃ W0, W0 = (w.alloc (.cells #[.int .i64 f, .int .i64 d, .int .i64 r, .int .i64 p, .float .f64 e1, .float .f64 e2, .float .f64 e3, .slice A cs.length cap] 25)).alloc (.cells #[.int .u32 pu, .int .u32 pd, .int .i64 kind, .int .i64 car, .slice A' ys.length cp] 33) := ⟨_, rfl⟩
    rw [← hW0]
    have hs0 : W0.heap.size = w.heap.size + 2 := by rw [hW0]; simp
    have HBW : Hid (Below w.heap.size w W0) := by rw [hW0]; exact ((Below.refl _ _).alloc (Nat.le_refl _) _).alloc (by simp) _
    have HB : Hid (∀ wx, Below W0.heap.size W0 wx → wx.cell? ⟨w.heap.size, 0, none⟩ = some (.int .i64 f) ∧ wx.cell? ⟨w.heap.size, 1, none⟩ = some (.int .i64 d) ∧ wx.cell? ⟨w.heap.size, 2, none⟩ = some (.int .i64 r) ∧ wx.cell? ⟨w.heap.size, 3, none⟩ = some (.int .i64 p) ∧ wx.cell? ⟨w.heap.size, 4, none⟩ = some (.float .f64 e1) ∧ wx.cell? ⟨w.heap.size, 5, none⟩ = some (.float .f64 e2) ∧ wx.cell? ⟨w.heap.size, 6, none⟩ = some (.float .f64 e3) ∧ wx.cell? ⟨w.heap.size, 7, none⟩ = some (.slice A cs.length cap) ∧ wx.cell? ⟨w.heap.size + 1, 0, none⟩ = some (.int .u32 pu) ∧ wx.cell? ⟨w.heap.size + 1, 1, none⟩ = some (.int .u32 pd) ∧ wx.cell? ⟨w.heap.size + 1, 2, none⟩ = some (.int .i64 kind) ∧ wx.cell? ⟨w.heap.size + 1, 3, none⟩ = some (.int .i64 car) ∧ wx.cell? ⟨w.heap.size + 1, 4, none⟩ = some (.slice A' ys.length cp)) := fun wx h => by
      have r0 : wx.heap[w.heap.size]? = some (.cells #[.int .i64 f, .int .i64 d, .int .i64 r, .int .i64 p, .float .f64 e1, .float .f64 e2, .float .f64 e3, .slice A cs.length cap] 25 (0, 0)) := (h.block _ (by omega)).trans (by rw [hW0]; exact (Below.heap_alloc _ _ _ (by simp)).trans (heap_alloc_new w _))
      have r1 : wx.heap[w.heap.size + 1]? = some (.cells #[.int .u32 pu, .int .u32 pd, .int .i64 kind, .int .i64 car, .slice A' ys.length cp] 33 (0, 0)) := (h.block _ (by omega)).trans (by
        rw [hW0]
        have h := heap_alloc_new (w.alloc (.cells #[.int .i64 f, .int .i64 d, .int .i64 r, .int .i64 p, .float .f64 e1, .float .f64 e2, .float .f64 e3, .slice A cs.length cap] 25)) (.cells #[.int .u32 pu, .int .u32 pd, .int .i64 kind, .int .i64 car, .slice A' ys.length cp] 33)
        have e : (w.alloc (.cells #[.int .i64 f, .int .i64 d, .int .i64 r, .int .i64 p, .float .f64 e1, .float .f64 e2, .float .f64 e3, .slice A cs.length cap] 25)).heap.size = w.heap.size + 1 := by simp
        rw [e] at h
        exact h)
      exact ⟨cell_of_row _ _ _ _ _ (0, 0) r0, cell_of_row _ _ _ _ _ (0, 0) r0, cell_of_row _ _ _ _ _ (0, 0) r0, cell_of_row _ _ _ _ _ (0, 0) r0, cell_of_row _ _ _ _ _ (0, 0) r0, cell_of_row _ _ _ _ _ (0, 0) r0, cell_of_row _ _ _ _ _ (0, 0) r0, cell_of_row _ _ _ _ _ (0, 0) r0, cell_of_row _ _ _ _ _ (0, 0) r1, cell_of_row _ _ _ _ _ (0, 0) r1, cell_of_row _ _ _ _ _ (0, 0) r1, cell_of_row _ _ _ _ _ (0, 0) r1, cell_of_row _ _ _ _ _ (0, 0) r1⟩
    clear hW0
    refine (F1.out W0 HBW.out).mono ?_
    rintro e w1 ⟨rfl, hb1⟩
    obtain ⟨a0, a1, a2, a3, a4, a5, a6, a7, a8, a9, a10, a11, a12⟩ := HB.out w1 hb1
    have HX := Lib.hid hb1
    clear hb1
    go_wp2_with fail
    clear a0 a1 a2 a3 a4 a5 a6 a7 a8 a9 a10 a11 a12
    refine (F2.out w1 (HBW.out.trans (HX.out.mono (by omega)))).mono ?_
    rintro e w2 ⟨rfl, hb2⟩
    have hx2 := HX.out.trans (hb2.mono HX.out.size)
    obtain ⟨a0, a1, a2, a3, a4, a5, a6, a7, a8, a9, a10, a11, a12⟩ := HB.out w2 hx2
    have HX := Lib.hid hx2
    clear hb2 hx2
    go_wp2_with fail
    clear a0 a1 a2 a3 a4 a5 a6 a7 a8 a9 a10 a11 a12
    refine (refBetween_any kind 0 8 _).mono ?_
    rintro e w3 ⟨rfl, rfl⟩
    rw [hk]
    obtain ⟨a0, a1, a2, a3, a4, a5, a6, a7, a8, a9, a10, a11, a12⟩ := HB.out w3 HX.out
    go_wp2_with fail
    clear a0 a1 a2 a3 a4 a5 a6 a7 a8 a9 a10 a11 a12
    refine (refBetween_any car 0 ((cs.length : Int) - 1) _).mono ?_
    rintro e w4 ⟨rfl, rfl⟩
    rw [hr]
    obtain ⟨a0, a1, a2, a3, a4, a5, a6, a7, a8, a9, a10, a11, a12⟩ := HB.out w4 HX.out
    go_wp2_with fail
    go_ret
    exact ⟨rfl, HBW.out.trans (HX.out.mono (by omega))⟩
  | false =>
  by_cases hl : (ys.length : Int) = (cs.length : Int)
  case neg =>
    have hlb : ((ys.length : Int) != (cs.length : Int)) = true := bne_iff_ne.2 hl
    obtain rfl : HD = false := by rw [HHS.out, hk, hr, hz, decide_eq_false hl]; rfl
    obtain rfl : R = false := by rw [HIS.out]; rfl
    clear hl
    cases hz1 : (kind == 0) with
    | false =>
      go_enter Try.func31, Try.ntmps31
      go_wp2_with fail
      obtain ⟨W0, hW0⟩ : ∃ W0, W0 = (w.alloc (.cells #[.int .i64 f, .int .i64 d, .int .i64 r, .int .i64 p, .float .f64 e1, .float .f64 e2, .float .f64 e3, .slice A cs.length cap] 25)).alloc (.cells #[.int .u32 pu, .int .u32 pd, .int .i64 kind, .int .i64 car, .slice A' ys.length cp] 33) := ⟨_, rfl⟩
      rw [← hW0]
      have hs0 : W0.heap.size = w.heap.size + 2 := by rw [hW0]; simp
      have HBW : Hid (Below w.heap.size w W0) := by rw [hW0]; exact ((Below.refl _ _).alloc (Nat.le_refl _) _).alloc (by simp) _
      have HB : Hid (∀ wx, Below W0.heap.size W0 wx → wx.cell? ⟨w.heap.size, 0, none⟩ = some (.int .i64 f) ∧ wx.cell? ⟨w.heap.size, 1, none⟩ = some (.int .i64 d) ∧ wx.cell? ⟨w.heap.size, 2, none⟩ = some (.int .i64 r) ∧ wx.cell? ⟨w.heap.size, 3, none⟩ = some (.int .i64 p) ∧ wx.cell? ⟨w.heap.size, 4, none⟩ = some (.float .f64 e1) ∧ wx.cell? ⟨w.heap.size, 5, none⟩ = some (.float .f64 e2) ∧ wx.cell? ⟨w.heap.size, 6, none⟩ = some (.float .f64 e3) ∧ wx.cell? ⟨w.heap.size, 7, none⟩ = some (.slice A cs.length cap) ∧ wx.cell? ⟨w.heap.size + 1, 0, none⟩ = some (.int .u32 pu) ∧ wx.cell? ⟨w.heap.size + 1, 1, none⟩ = some (.int .u32 pd) ∧ wx.cell? ⟨w.heap.size + 1, 2, none⟩ = some (.int .i64 kind) ∧ wx.cell? ⟨w.heap.size + 1, 3, none⟩ = some (.int .i64 car) ∧ wx.cell? ⟨w.heap.size + 1, 4, none⟩ = some (.slice A' ys.length cp)) := fun wx h => by
        have r0 : wx.heap[w.heap.size]? = some (.cells #[.int .i64 f, .int .i64 d, .int .i64 r, .int .i64 p, .float .f64 e1, .float .f64 e2, .float .f64 e3, .slice A cs.length cap] 25 (0, 0)) := (h.block _ (by omega)).trans (by rw [hW0]; exact (Below.heap_alloc _ _ _ (by simp)).trans (heap_alloc_new w _))
        have r1 : wx.heap[w.heap.size + 1]? = some (.cells #[.int .u32 pu, .int .u32 pd, .int .i64 kind, .int .i64 car, .slice A' ys.length cp] 33 (0, 0)) := (h.block _ (by omega)).trans (by
          rw [hW0]
          have h := heap_alloc_new (w.alloc (.cells #[.int .i64 f, .int .i64 d, .int .i64 r, .int .i64 p, .float .f64 e1, .float .f64 e2, .float .f64 e3, .slice A cs.length cap] 25)) (.cells #[.int .u32 pu, .int .u32 pd, .int .i64 kind, .int .i64 car, .slice A' ys.length cp] 33)
          have e : (w.alloc (.cells #[.int .i64 f, .int .i64 d, .int .i64 r, .int .i64 p, .float .f64 e1, .float .f64 e2, .float .f64 e3, .slice A cs.length cap] 25)).heap.size = w.heap.size + 1 := by simp
          rw [e] at h
          exact h)
        exact ⟨cell_of_row _ _ _ _ _ (0, 0) r0, cell_of_row _ _ _ _ _ (0, 0) r0, cell_of_row _ _ _ _ _ (0, 0) r0, cell_of_row _ _ _ _ _ (0, 0) r0, cell_of_row _ _ _ _ _ (0, 0) r0, cell_of_row _ _ _ _ _ (0, 0) r0, cell_of_row _ _ _ _ _ (0, 0) r0, cell_of_row _ _ _ _ _ (0, 0) r0, cell_of_row _ _ _ _ _ (0, 0) r1, cell_of_row _ _ _ _ _ (0, 0) r1, cell_of_row _ _ _ _ _ (0, 0) r1, cell_of_row _ _ _ _ _ (0, 0) r1, cell_of_row _ _ _ _ _ (0, 0) r1⟩
      clear hW0
      refine (F1.out W0 HBW.out).mono ?_
      rintro e w1 ⟨rfl, hb1⟩
      obtain ⟨a0, a1, a2, a3, a4, a5, a6, a7, a8, a9, a10, a11, a12⟩ := HB.out w1 hb1
      have HX := Lib.hid hb1
      clear hb1
      go_wp2_with fail
      clear a0 a1 a2 a3 a4 a5 a6 a7 a8 a9 a10 a11 a12
      refine (F2.out w1 (HBW.out.trans (HX.out.mono (by omega)))).mono ?_
      rintro e w2 ⟨rfl, hb2⟩
      have hx2 := HX.out.trans (hb2.mono HX.out.size)
      obtain ⟨a0, a1, a2, a3, a4, a5, a6, a7, a8, a9, a10, a11, a12⟩ := HB.out w2 hx2
      have HX := Lib.hid hx2
      clear hb2 hx2
      go_wp2_with fail
      clear a0 a1 a2 a3 a4 a5 a6 a7 a8 a9 a10 a11 a12
      refine (refBetween_any kind 0 8 _).mono ?_
      rintro e w3 ⟨rfl, rfl⟩
      rw [hk]
      obtain ⟨a0, a1, a2, a3, a4, a5, a6, a7, a8, a9, a10, a11, a12⟩ := HB.out w3 HX.out
      go_wp2_with fail
      clear a0 a1 a2 a3 a4 a5 a6 a7 a8 a9 a10 a11 a12
      refine (refBetween_any car 0 ((cs.length : Int) - 1) _).mono ?_
      rintro e w4 ⟨rfl, rfl⟩
      rw [hr]
      obtain ⟨a0, a1, a2, a3, a4, a5, a6, a7, a8, a9, a10, a11, a12⟩ := HB.out w4 HX.out
      go_wp2_with fail
      go_ret
      exact ⟨rfl, HBW.out.trans (HX.out.mono (by omega))⟩

    | true =>
      have hz2 : (car != 0) = false := by rw [hz1] at hz; exact hz
      go_enter Try.func31, Try.ntmps31
      go_wp2_with fail
      obtain ⟨W0, hW0⟩ : ∃ W0, W0 = (w.alloc (.cells #[.int .i64 f, .int .i64 d, .int .i64 r, .int .i64 p, .float .f64 e1, .float .f64 e2, .float .f64 e3, .slice A cs.length cap] 25)).alloc (.cells #[.int .u32 pu, .int .u32 pd, .int .i64 kind, .int .i64 car, .slice A' ys.length cp] 33) := ⟨_, rfl⟩
      rw [← hW0]
      have hs0 : W0.heap.size = w.heap.size + 2 := by rw [hW0]; simp
      have HBW : Hid (Below w.heap.size w W0) := by rw [hW0]; exact ((Below.refl _ _).alloc (Nat.le_refl _) _).alloc (by simp) _
      have HB : Hid (∀ wx, Below W0.heap.size W0 wx → wx.cell? ⟨w.heap.size, 0, none⟩ = some (.int .i64 f) ∧ wx.cell? ⟨w.heap.size, 1, none⟩ = some (.int .i64 d) ∧ wx.cell? ⟨w.heap.size, 2, none⟩ = some (.int .i64 r) ∧ wx.cell? ⟨w.heap.size, 3, none⟩ = some (.int .i64 p) ∧ wx.cell? ⟨w.heap.size, 4, none⟩ = some (.float .f64 e1) ∧ wx.cell? ⟨w.heap.size, 5, none⟩ = some (.float .f64 e2) ∧ wx.cell? ⟨w.heap.size, 6, none⟩ = some (.float .f64 e3) ∧ wx.cell? ⟨w.heap.size, 7, none⟩ = some (.slice A cs.length cap) ∧ wx.cell? ⟨w.heap.size + 1, 0, none⟩ = some (.int .u32 pu) ∧ wx.cell? ⟨w.heap.size + 1, 1, none⟩ = some (.int .u32 pd) ∧ wx.cell? ⟨w.heap.size + 1, 2, none⟩ = some (.int .i64 kind) ∧ wx.cell? ⟨w.heap.size + 1, 3, none⟩ = some (.int .i64 car) ∧ wx.cell? ⟨w.heap.size + 1, 4, none⟩ = some (.slice A' ys.length cp)) := fun wx h => by
        have r0 : wx.heap[w.heap.size]? = some (.cells #[.int .i64 f, .int .i64 d, .int .i64 r, .int .i64 p, .float .f64 e1, .float .f64 e2, .float .f64 e3, .slice A cs.length cap] 25 (0, 0)) := (h.block _ (by omega)).trans (by rw [hW0]; exact (Below.heap_alloc _ _ _ (by simp)).trans (heap_alloc_new w _))
        have r1 : wx.heap[w.heap.size + 1]? = some (.cells #[.int .u32 pu, .int .u32 pd, .int .i64 kind, .int .i64 car, .slice A' ys.length cp] 33 (0, 0)) := (h.block _ (by omega)).trans (by
          rw [hW0]
          have h := heap_alloc_new (w.alloc (.cells #[.int .i64 f, .int .i64 d, .int .i64 r, .int .i64 p, .float .f64 e1, .float .f64 e2, .float .f64 e3, .slice A cs.length cap] 25)) (.cells #[.int .u32 pu, .int .u32 pd, .int .i64 kind, .int .i64 car, .slice A' ys.length cp] 33)
          have e : (w.alloc (.cells #[.int .i64 f, .int .i64 d, .int .i64 r, .int .i64 p, .float .f64 e1, .float .f64 e2, .float .f64 e3, .slice A cs.length cap] 25)).heap.size = w.heap.size + 1 := by simp
          rw [e] at h
          exact h)
        exact ⟨cell_of_row _ _ _ _ _ (0, 0) r0, cell_of_row _ _ _ _ _ (0, 0) r0, cell_of_row _ _ _ _ _ (0, 0) r0, cell_of_row _ _ _ _ _ (0, 0) r0, cell_of_row _ _ _ _ _ (0, 0) r0, cell_of_row _ _ _ _ _ (0, 0) r0, cell_of_row _ _ _ _ _ (0, 0) r0, cell_of_row _ _ _ _ _ (0, 0) r0, cell_of_row _ _ _ _ _ (0, 0) r1, cell_of_row _ _ _ _ _ (0, 0) r1, cell_of_row _ _ _ _ _ (0, 0) r1, cell_of_row _ _ _ _ _ (0, 0) r1, cell_of_row _ _ _ _ _ (0, 0) r1⟩
      clear hW0
      refine (F1.out W0 HBW.out).mono ?_
      rintro e w1 ⟨rfl, hb1⟩
      obtain ⟨a0, a1, a2, a3, a4, a5, a6, a7, a8, a9, a10, a11, a12⟩ := HB.out w1 hb1
      have HX := Lib.hid hb1
      clear hb1
      go_wp2_with fail
      clear a0 a1 a2 a3 a4 a5 a6 a7 a8 a9 a10 a11 a12
      refine (F2.out w1 (HBW.out.trans (HX.out.mono (by omega)))).mono ?_
      rintro e w2 ⟨rfl, hb2⟩
      have hx2 := HX.out.trans (hb2.mono HX.out.size)
      obtain ⟨a0, a1, a2, a3, a4, a5, a6, a7, a8, a9, a10, a11, a12⟩ := HB.out w2 hx2
      have HX := Lib.hid hx2
      clear hb2 hx2
      go_wp2_with fail
      clear a0 a1 a2 a3 a4 a5 a6 a7 a8 a9 a10 a11 a12
      refine (refBetween_any kind 0 8 _).mono ?_
      rintro e w3 ⟨rfl, rfl⟩
      rw [hk]
      obtain ⟨a0, a1, a2, a3, a4, a5, a6, a7, a8, a9, a10, a11, a12⟩ := HB.out w3 HX.out
      go_wp2_with fail
      clear a0 a1 a2 a3 a4 a5 a6 a7 a8 a9 a10 a11 a12
      refine (refBetween_any car 0 ((cs.length : Int) - 1) _).mono ?_
      rintro e w4 ⟨rfl, rfl⟩
      rw [hr]
      obtain ⟨a0, a1, a2, a3, a4, a5, a6, a7, a8, a9, a10, a11, a12⟩ := HB.out w4 HX.out
      go_wp2_with fail
      go_ret
      exact ⟨rfl, HBW.out.trans (HX.out.mono (by omega))⟩
  have hlb : ((ys.length : Int) != (cs.length : Int)) = false := bne_eq_false_iff_eq.2 hl
  have hfw : IntKind.i64.wrap (f - 1) = f - 1 := IntWalk.i64_in _ (by omega)
  cases hz1 : (kind == 0)
  case' true => have hz2 : (car != 0) = false := by rw [hz1] at hz; exact hz
  all_goals
      go_enter Try.func31, Try.ntmps31
      go_wp2_with fail
      obtain ⟨W0, hW0⟩ : ∃ W0, W0 = (w.alloc (.cells #[.int .i64 f, .int .i64 d, .int .i64 r, .int .i64 p, .float .f64 e1, .float .f64 e2, .float .f64 e3, .slice A cs.length cap] 25)).alloc (.cells #[.int .u32 pu, .int .u32 pd, .int .i64 kind, .int .i64 car, .slice A' ys.length cp] 33) := ⟨_, rfl⟩
      rw [← hW0]
      have hs0 : W0.heap.size = w.heap.size + 2 := by rw [hW0]; simp
      have HBW : Hid (Below w.heap.size w W0) := by rw [hW0]; exact ((Below.refl _ _).alloc (Nat.le_refl _) _).alloc (by simp) _
      have HB : Hid (∀ wx, Below W0.heap.size W0 wx → wx.cell? ⟨w.heap.size, 0, none⟩ = some (.int .i64 f) ∧ wx.cell? ⟨w.heap.size, 1, none⟩ = some (.int .i64 d) ∧ wx.cell? ⟨w.heap.size, 2, none⟩ = some (.int .i64 r) ∧ wx.cell? ⟨w.heap.size, 3, none⟩ = some (.int .i64 p) ∧ wx.cell? ⟨w.heap.size, 4, none⟩ = some (.float .f64 e1) ∧ wx.cell? ⟨w.heap.size, 5, none⟩ = some (.float .f64 e2) ∧ wx.cell? ⟨w.heap.size, 6, none⟩ = some (.float .f64 e3) ∧ wx.cell? ⟨w.heap.size, 7, none⟩ = some (.slice A cs.length cap) ∧ wx.cell? ⟨w.heap.size + 1, 0, none⟩ = some (.int .u32 pu) ∧ wx.cell? ⟨w.heap.size + 1, 1, none⟩ = some (.int .u32 pd) ∧ wx.cell? ⟨w.heap.size + 1, 2, none⟩ = some (.int .i64 kind) ∧ wx.cell? ⟨w.heap.size + 1, 3, none⟩ = some (.int .i64 car) ∧ wx.cell? ⟨w.heap.size + 1, 4, none⟩ = some (.slice A' ys.length cp)) := fun wx h => by
        have r0 : wx.heap[w.heap.size]? = some (.cells #[.int .i64 f, .int .i64 d, .int .i64 r, .int .i64 p, .float .f64 e1, .float .f64 e2, .float .f64 e3, .slice A cs.length cap] 25 (0, 0)) := (h.block _ (by omega)).trans (by rw [hW0]; exact (Below.heap_alloc _ _ _ (by simp)).trans (heap_alloc_new w _))
        have r1 : wx.heap[w.heap.size + 1]? = some (.cells #[.int .u32 pu, .int .u32 pd, .int .i64 kind, .int .i64 car, .slice A' ys.length cp] 33 (0, 0)) := (h.block _ (by omega)).trans (by
          rw [hW0]
          have h := heap_alloc_new (w.alloc (.cells #[.int .i64 f, .int .i64 d, .int .i64 r, .int .i64 p, .float .f64 e1, .float .f64 e2, .float .f64 e3, .slice A cs.length cap] 25)) (.cells #[.int .u32 pu, .int .u32 pd, .int .i64 kind, .int .i64 car, .slice A' ys.length cp] 33)
          have e : (w.alloc (.cells #[.int .i64 f, .int .i64 d, .int .i64 r, .int .i64 p, .float .f64 e1, .float .f64 e2, .float .f64 e3, .slice A cs.length cap] 25)).heap.size = w.heap.size + 1 := by simp
          rw [e] at h
          exact h)
        exact ⟨cell_of_row _ _ _ _ _ (0, 0) r0, cell_of_row _ _ _ _ _ (0, 0) r0, cell_of_row _ _ _ _ _ (0, 0) r0, cell_of_row _ _ _ _ _ (0, 0) r0, cell_of_row _ _ _ _ _ (0, 0) r0, cell_of_row _ _ _ _ _ (0, 0) r0, cell_of_row _ _ _ _ _ (0, 0) r0, cell_of_row _ _ _ _ _ (0, 0) r0, cell_of_row _ _ _ _ _ (0, 0) r1, cell_of_row _ _ _ _ _ (0, 0) r1, cell_of_row _ _ _ _ _ (0, 0) r1, cell_of_row _ _ _ _ _ (0, 0) r1, cell_of_row _ _ _ _ _ (0, 0) r1⟩
      clear hW0
      refine (F1.out W0 HBW.out).mono ?_
      rintro e w1 ⟨rfl, hb1⟩
      obtain ⟨a0, a1, a2, a3, a4, a5, a6, a7, a8, a9, a10, a11, a12⟩ := HB.out w1 hb1
      have HX := Lib.hid hb1
      clear hb1
      go_wp2_with fail
      clear a0 a1 a2 a3 a4 a5 a6 a7 a8 a9 a10 a11 a12
      refine (F2.out w1 (HBW.out.trans (HX.out.mono (by omega)))).mono ?_
      rintro e w2 ⟨rfl, hb2⟩
      have hx2 := HX.out.trans (hb2.mono HX.out.size)
      obtain ⟨a0, a1, a2, a3, a4, a5, a6, a7, a8, a9, a10, a11, a12⟩ := HB.out w2 hx2
      have HX := Lib.hid hx2
      clear hb2 hx2
      go_wp2_with fail
      clear a0 a1 a2 a3 a4 a5 a6 a7 a8 a9 a10 a11 a12
      refine (refBetween_any kind 0 8 _).mono ?_
      rintro e w3 ⟨rfl, rfl⟩
      rw [hk]
      obtain ⟨a0, a1, a2, a3, a4, a5, a6, a7, a8, a9, a10, a11, a12⟩ := HB.out w3 HX.out
      go_wp2_with fail
      clear a0 a1 a2 a3 a4 a5 a6 a7 a8 a9 a10 a11 a12
      refine (refBetween_any car 0 ((cs.length : Int) - 1) _).mono ?_
      rintro e w4 ⟨rfl, rfl⟩
      rw [hr]
      obtain ⟨a0, a1, a2, a3, a4, a5, a6, a7, a8, a9, a10, a11, a12⟩ := HB.out w4 HX.out
      go_wp2_with fail
      clear a0 a1 a2 a3 a4 a5 a6 a7 a8 a9 a10 a11 a12
      go_loopw [5] (fun v wr => ∃ m : Nat, m ≤ ys.length ∧ v = .int .i64 m ∧ (ys.take m).all (carIs f) = true ∧ Below W0.heap.size W0 wr) (fun v _ => ys.length - (intOf v).toNat)
      case atStart => exact ⟨0, Nat.zero_le _, rfl, rfl, HX.out⟩
      case round =>
        obtain ⟨m, hm, rfl, hall, hbr⟩ := hrel
        have hs0r : W0.heap.size ≤ wr.heap.size := hbr.size
        obtain ⟨a0, a1, a2, a3, a4, a5, a6, a7, a8, a9, a10, a11, a12⟩ := HB.out wr hbr
        have HBR := Lib.hid hbr
        have HALL := Lib.hid hall
        clear hbr hall
        rcases Nat.lt_or_ge m ys.length with hlt | hge
        case inr =>
          obtain rfl : m = ys.length := by omega
          go_wp2_with fail
          go_ret
          have hall := HALL.out
          rw [List.take_length] at hall
          have hR : R = true := by rw [HIS.out, hall, HHS.out, hk, hr, hz, decide_eq_true hl]; rfl
          exact ⟨by subst hR; rfl, HBW.out.trans (HBR.out.mono (by omega))⟩
        have hbwr := HBW.out.trans (HBR.out.mono (by omega))
        rcases HV.out.below hbwr with h0 | ⟨b, off, rfl, hv⟩
        · subst h0; simp at hlt
        have g := hv m hlt
        have hsc := HSC.out ys[m] (List.getElem_mem hlt)
        have HNO : Hid (carIs f ys[m] = false → ys.all (carIs f) = false) := all_no hlt
        have HYES : Hid (carIs f ys[m] = true → (ys.take (m + 1)).all (carIs f) = true) := fun h => all_take hlt h HALL.out
        clear hbwr hv
        generalize ys[m] = c at g hsc HNO HYES
        have g0 : wr.cell? ⟨b, off + m * 11, none⟩ = some (.int .u32 c.floors) := g 0 _ rfl
        have g1 : wr.cell? ⟨b, off + m * 11 + 1, none⟩ = some (.bool c.up) := g 1 _ rfl
        have g2 : wr.cell? ⟨b, off + m * 11 + 2, none⟩ = some (.bool c.down) := g 2 _ rfl
        have g3 : wr.cell? ⟨b, off + m * 11 + 3, none⟩ = some (.bool c.opened) := g 3 _ rfl
        have g4 : wr.cell? ⟨b, off + m * 11 + 4, none⟩ = some (.bool c.closed) := g 4 _ rfl
        have g5 : wr.cell? ⟨b, off + m * 11 + 5, none⟩ = some (.int .i64 c.floor) := g 5 _ rfl
        have g6 : wr.cell? ⟨b, off + m * 11 + 6, none⟩ = some (.bool c.level) := g 6 _ rfl
        have g7 : wr.cell? ⟨b, off + m * 11 + 7, none⟩ = some (.int .i64 c.door) := g 7 _ rfl
        have g8 : wr.cell? ⟨b, off + m * 11 + 8, none⟩ = some (.bool c.block) := g 8 _ rfl
        have g9 : wr.cell? ⟨b, off + m * 11 + 9, none⟩ = some (.int .u32 c.calls) := g 9 _ rfl
        have g10 : wr.cell? ⟨b, off + m * 11 + 10, none⟩ = some (.float .f64 c.load) := g 10 _ rfl
        have hbl : b < wr.heap.size := World.block_lt_of_cell? wr _ g0
        clear g
        have hpast : ∀ o j, (wr.alloc o).cell? ⟨w.heap.size, j, none⟩ = wr.cell? ⟨w.heap.size, j, none⟩ := fun o j => World.cell?_of_block (w := wr) (Below.heap_alloc wr o w.heap.size (by omega))
        have p0 := fun o => (hpast o 0).trans a0
        have p1 := fun o => (hpast o 1).trans a1
        have p2 := fun o => (hpast o 2).trans a2
        have p3 := fun o => (hpast o 3).trans a3
        have p4 := fun o => (hpast o 4).trans a4
        have p5 := fun o => (hpast o 5).trans a5
        have p6 := fun o => (hpast o 6).trans a6
        have p7 := fun o => (hpast o 7).trans a7
        clear hpast
        go_wp2_with fail
        obtain ⟨W1, hW1⟩ : ∃ W1, W1 = wr.alloc (.cells #[.int .u32 c.floors, .bool c.up, .bool c.down, .bool c.opened, .bool c.closed, .int .i64 c.floor, .bool c.level, .int .i64 c.door, .bool c.block, .int .u32 c.calls, .float .f64 c.load] 71) := ⟨_, rfl⟩
        rw [← hW1]
        have hs1 : W1.heap.size = wr.heap.size + 1 := by rw [hW1]; simp
        have HB1B : Hid (Below W0.heap.size W0 W1) := by rw [hW1]; exact HBR.out.alloc hs0r _
        have HB1 : Hid (∀ wx, Below W1.heap.size W1 wx → wx.cell? ⟨w.heap.size, 0, none⟩ = some (.int .i64 f) ∧ wx.cell? ⟨w.heap.size, 1, none⟩ = some (.int .i64 d) ∧ wx.cell? ⟨w.heap.size, 2, none⟩ = some (.int .i64 r) ∧ wx.cell? ⟨w.heap.size, 3, none⟩ = some (.int .i64 p) ∧ wx.cell? ⟨w.heap.size, 4, none⟩ = some (.float .f64 e1) ∧ wx.cell? ⟨w.heap.size, 5, none⟩ = some (.float .f64 e2) ∧ wx.cell? ⟨w.heap.size, 6, none⟩ = some (.float .f64 e3) ∧ wx.cell? ⟨w.heap.size, 7, none⟩ = some (.slice A cs.length cap) ∧ wx.cell? ⟨wr.heap.size, 0, none⟩ = some (.int .u32 c.floors) ∧ wx.cell? ⟨wr.heap.size, 1, none⟩ = some (.bool c.up) ∧ wx.cell? ⟨wr.heap.size, 2, none⟩ = some (.bool c.down) ∧ wx.cell? ⟨wr.heap.size, 3, none⟩ = some (.bool c.opened) ∧ wx.cell? ⟨wr.heap.size, 4, none⟩ = some (.bool c.closed) ∧ wx.cell? ⟨wr.heap.size, 5, none⟩ = some (.int .i64 c.floor) ∧ wx.cell? ⟨wr.heap.size, 6, none⟩ = some (.bool c.level) ∧ wx.cell? ⟨wr.heap.size, 7, none⟩ = some (.int .i64 c.door) ∧ wx.cell? ⟨wr.heap.size, 8, none⟩ = some (.bool c.block) ∧ wx.cell? ⟨wr.heap.size, 9, none⟩ = some (.int .u32 c.calls) ∧ wx.cell? ⟨wr.heap.size, 10, none⟩ = some (.float .f64 c.load)) := fun wx h => by
          obtain ⟨a0, a1, a2, a3, a4, a5, a6, a7, -⟩ := HB.out wx (HB1B.out.trans (h.mono (by omega)))
          have r1 : wx.heap[wr.heap.size]? = some (.cells #[.int .u32 c.floors, .bool c.up, .bool c.down, .bool c.opened, .bool c.closed, .int .i64 c.floor, .bool c.level, .int .i64 c.door, .bool c.block, .int .u32 c.calls, .float .f64 c.load] 71 (0, 0)) := (h.block _ (by omega)).trans (by rw [hW1]; exact heap_alloc_new wr _)
          exact ⟨a0, a1, a2, a3, a4, a5, a6, a7, cell_of_row _ _ _ _ _ (0, 0) r1, cell_of_row _ _ _ _ _ (0, 0) r1, cell_of_row _ _ _ _ _ (0, 0) r1, cell_of_row _ _ _ _ _ (0, 0) r1, cell_of_row _ _ _ _ _ (0, 0) r1, cell_of_row _ _ _ _ _ (0, 0) r1, cell_of_row _ _ _ _ _ (0, 0) r1, cell_of_row _ _ _ _ _ (0, 0) r1, cell_of_row _ _ _ _ _ (0, 0) r1, cell_of_row _ _ _ _ _ (0, 0) r1, cell_of_row _ _ _ _ _ (0, 0) r1⟩
        clear hW1 p0 p1 p2 p3 p4 p5 p6 p7 a0 a1 a2 a3 a4 a5 a6 a7 a8 a9 a10 a11 a12 g0 g1 g2 g3 g4 g5 g6 g7 g8 g9 g10
        cases q1 : floorsB f c.floors
        case false =>
          refine (FL.out c.floors W1 hsc.1).mono ?_
          rintro e w5 ⟨rfl, hb5⟩
          rw [q1]
          have hx5 := hb5
          obtain ⟨a0, a1, a2, a3, a4, a5, a6, a7, c0, c1, c2, c3, c4, c5, c6, c7, c8, c9, c10⟩ := HB1.out w5 hx5
          have HX5 := Lib.hid hx5
          clear hb5 hx5
          go_wp2_with fail
          go_ret
          have hR : R = false := by rw [HIS.out, HNO.out (by simp [carIs, q1]), Bool.and_false]
          exact ⟨by subst hR; rfl, HBW.out.trans ((HB1B.out.trans (HX5.out.mono (by have := HB1B.out.size; omega))).mono (by omega))⟩
        cases q2 : floorsB f c.calls
        case false =>
          refine (FL.out c.floors W1 hsc.1).mono ?_
          rintro e w5 ⟨rfl, hb5⟩
          rw [q1]
          have hx5 := hb5
          obtain ⟨a0, a1, a2, a3, a4, a5, a6, a7, c0, c1, c2, c3, c4, c5, c6, c7, c8, c9, c10⟩ := HB1.out w5 hx5
          have HX5 := Lib.hid hx5
          clear hb5 hx5
          go_wp2_with fail
          clear a0 a1 a2 a3 a4 a5 a6 a7 c0 c1 c2 c3 c4 c5 c6 c7 c8 c9 c10
          refine (FL.out c.calls w5 hsc.2.1).mono ?_
          rintro e w6 ⟨rfl, hb5⟩
          rw [q2]
          have hx5 := HX5.out.trans (hb5.mono HX5.out.size)
          obtain ⟨a0, a1, a2, a3, a4, a5, a6, a7, c0, c1, c2, c3, c4, c5, c6, c7, c8, c9, c10⟩ := HB1.out w6 hx5
          have HX5 := Lib.hid hx5
          clear hb5 hx5
          go_wp2_with fail
          go_ret
          have hR : R = false := by rw [HIS.out, HNO.out (by simp [carIs, q1, q2]), Bool.and_false]
          exact ⟨by subst hR; rfl, HBW.out.trans ((HB1B.out.trans (HX5.out.mono (by have := HB1B.out.size; omega))).mono (by omega))⟩
        cases q3 : inB 0 (f - 1) c.floor
        case false =>
          refine (FL.out c.floors W1 hsc.1).mono ?_
          rintro e w5 ⟨rfl, hb5⟩
          rw [q1]
          have hx5 := hb5
          obtain ⟨a0, a1, a2, a3, a4, a5, a6, a7, c0, c1, c2, c3, c4, c5, c6, c7, c8, c9, c10⟩ := HB1.out w5 hx5
          have HX5 := Lib.hid hx5
          clear hb5 hx5
          go_wp2_with fail
          clear a0 a1 a2 a3 a4 a5 a6 a7 c0 c1 c2 c3 c4 c5 c6 c7 c8 c9 c10
          refine (FL.out c.calls w5 hsc.2.1).mono ?_
          rintro e w6 ⟨rfl, hb5⟩
          rw [q2]
          have hx5 := HX5.out.trans (hb5.mono HX5.out.size)
          obtain ⟨a0, a1, a2, a3, a4, a5, a6, a7, c0, c1, c2, c3, c4, c5, c6, c7, c8, c9, c10⟩ := HB1.out w6 hx5
          have HX5 := Lib.hid hx5
          clear hb5 hx5
          go_wp2_with fail
          clear a0 a1 a2 a3 a4 a5 a6 a7 c0 c1 c2 c3 c4 c5 c6 c7 c8 c9 c10
          refine (refBetween_any c.floor 0 (f - 1) _).mono ?_
          rintro e w7 ⟨rfl, rfl⟩
          rw [q3]
          obtain ⟨a0, a1, a2, a3, a4, a5, a6, a7, c0, c1, c2, c3, c4, c5, c6, c7, c8, c9, c10⟩ := HB1.out w7 HX5.out
          go_wp2_with fail
          go_ret
          have hR : R = false := by rw [HIS.out, HNO.out (by simp [carIs, q1, q2, q3]), Bool.and_false]
          exact ⟨by subst hR; rfl, HBW.out.trans ((HB1B.out.trans (HX5.out.mono (by have := HB1B.out.size; omega))).mono (by omega))⟩
        cases q4 : inB 0 2 c.door
        case false =>
          refine (FL.out c.floors W1 hsc.1).mono ?_
          rintro e w5 ⟨rfl, hb5⟩
          rw [q1]
          have hx5 := hb5
          obtain ⟨a0, a1, a2, a3, a4, a5, a6, a7, c0, c1, c2, c3, c4, c5, c6, c7, c8, c9, c10⟩ := HB1.out w5 hx5
          have HX5 := Lib.hid hx5
          clear hb5 hx5
          go_wp2_with fail
          clear a0 a1 a2 a3 a4 a5 a6 a7 c0 c1 c2 c3 c4 c5 c6 c7 c8 c9 c10
          refine (FL.out c.calls w5 hsc.2.1).mono ?_
          rintro e w6 ⟨rfl, hb5⟩
          rw [q2]
          have hx5 := HX5.out.trans (hb5.mono HX5.out.size)
          obtain ⟨a0, a1, a2, a3, a4, a5, a6, a7, c0, c1, c2, c3, c4, c5, c6, c7, c8, c9, c10⟩ := HB1.out w6 hx5
          have HX5 := Lib.hid hx5
          clear hb5 hx5
          go_wp2_with fail
          clear a0 a1 a2 a3 a4 a5 a6 a7 c0 c1 c2 c3 c4 c5 c6 c7 c8 c9 c10
          refine (refBetween_any c.floor 0 (f - 1) _).mono ?_
          rintro e w7 ⟨rfl, rfl⟩
          rw [q3]
          obtain ⟨a0, a1, a2, a3, a4, a5, a6, a7, c0, c1, c2, c3, c4, c5, c6, c7, c8, c9, c10⟩ := HB1.out w7 HX5.out
          go_wp2_with fail
          clear a0 a1 a2 a3 a4 a5 a6 a7 c0 c1 c2 c3 c4 c5 c6 c7 c8 c9 c10
          refine (refBetween_any c.door 0 2 _).mono ?_
          rintro e w8 ⟨rfl, rfl⟩
          rw [q4]
          obtain ⟨a0, a1, a2, a3, a4, a5, a6, a7, c0, c1, c2, c3, c4, c5, c6, c7, c8, c9, c10⟩ := HB1.out w8 HX5.out
          go_wp2_with fail
          go_ret
          have hR : R = false := by rw [HIS.out, HNO.out (by simp [carIs, q1, q2, q3, q4]), Bool.and_false]
          exact ⟨by subst hR; rfl, HBW.out.trans ((HB1B.out.trans (HX5.out.mono (by have := HB1B.out.size; omega))).mono (by omega))⟩
        refine (FL.out c.floors W1 hsc.1).mono ?_
        rintro e w5 ⟨rfl, hb5⟩
        rw [q1]
        have hx5 := hb5
        obtain ⟨a0, a1, a2, a3, a4, a5, a6, a7, c0, c1, c2, c3, c4, c5, c6, c7, c8, c9, c10⟩ := HB1.out w5 hx5
        have HX5 := Lib.hid hx5
        clear hb5 hx5
        go_wp2_with fail
        clear a0 a1 a2 a3 a4 a5 a6 a7 c0 c1 c2 c3 c4 c5 c6 c7 c8 c9 c10
        refine (FL.out c.calls w5 hsc.2.1).mono ?_
        rintro e w6 ⟨rfl, hb5⟩
        rw [q2]
        have hx5 := HX5.out.trans (hb5.mono HX5.out.size)
        obtain ⟨a0, a1, a2, a3, a4, a5, a6, a7, c0, c1, c2, c3, c4, c5, c6, c7, c8, c9, c10⟩ := HB1.out w6 hx5
        have HX5 := Lib.hid hx5
        clear hb5 hx5
        go_wp2_with fail
        clear a0 a1 a2 a3 a4 a5 a6 a7 c0 c1 c2 c3 c4 c5 c6 c7 c8 c9 c10
        refine (refBetween_any c.floor 0 (f - 1) _).mono ?_
        rintro e w7 ⟨rfl, rfl⟩
        rw [q3]
        obtain ⟨a0, a1, a2, a3, a4, a5, a6, a7, c0, c1, c2, c3, c4, c5, c6, c7, c8, c9, c10⟩ := HB1.out w7 HX5.out
        go_wp2_with fail
        clear a0 a1 a2 a3 a4 a5 a6 a7 c0 c1 c2 c3 c4 c5 c6 c7 c8 c9 c10
        refine (refBetween_any c.door 0 2 _).mono ?_
        rintro e w8 ⟨rfl, rfl⟩
        rw [q4]
        obtain ⟨a0, a1, a2, a3, a4, a5, a6, a7, c0, c1, c2, c3, c4, c5, c6, c7, c8, c9, c10⟩ := HB1.out w8 HX5.out
        go_wp2_with fail
        go_roundw
        case rel => exact ⟨m + 1, by omega, by go_num, HYES.out (by simp [carIs, q1, q2, q3, q4]), HB1B.out.trans (HX5.out.mono (by have := HB1B.out.size; omega))⟩
        case measure => simp [intOf]; omega
end

section
open Go.RowKit Frm

theorem hall_or : ∀ F, 2 ≤ F → F ≤ 32 → (2 ^ (F - 1) - 1) ||| (2 ^ F - 2) = 2 ^ F - 1 := by
  intro F h1 h2
  have h : ∀ G : Fin 33, 2 ≤ G.val → (2 ^ (G.val - 1) - 1) ||| (2 ^ G.val - 2) = 2 ^ G.val - 1 := by decide +kernel
  exact h ⟨F, by omega⟩ h1

theorem setB_floors {x : BldD} (h : validE x = 0) (n : Nat) : setB n (hallUp x ||| hallDown x) = floorsB x.floors n := by
  obtain ⟨⟨hf1, hf2⟩, -, -⟩ := fine_of h
  have e : hallUp x ||| hallDown x = 2 ^ x.floors.toNat - 1 := by
    rw [show hallUp x = 2 ^ (x.floors.toNat - 1) - 1 from if_pos h, show hallDown x = 2 ^ x.floors.toNat - 2 from if_pos h]
    exact hall_or _ (by omega) (by omega)
  have hp : 0 < 2 ^ x.floors.toNat := Nat.two_pow_pos _
  rw [e, setB, floorsB, Nat.and_two_pow_sub_one_eq_mod, Bool.eq_iff_iff, beq_iff_eq, beq_iff_eq, Nat.div_eq_zero_iff]
  constructor
  · intro hq
    right
    rw [← hq]
    exact Nat.mod_lt _ hp
  · rintro (hq | hq)
    · omega
    · exact Nat.mod_eq_of_lt hq

theorem last_iff (kind car : Int) (C : Nat) (hC : 1 ≤ C) : inB 0 (lastC kind C) car = (inB 0 ((C : Int) - 1) car && !(kind == 0 && car != 0)) := by
  unfold lastC
  by_cases hk : kind = 0
  · subst hk
    rw [if_pos rfl]
    by_cases hc : car = 0
    · subst hc; simp [inB]; omega
    · have : (car != 0) = true := bne_iff_ne.2 hc
      simp [inB, this]
      intro h1; omega
  · rw [if_neg hk]
    have : (kind == 0) = false := beq_eq_false_iff_ne.2 hk
    simp [this]

theorem carIs_iff {x : BldD} (h : validE x = 0) (l : List UInt8) (c : CarIn) : Kind.carOk .wr l c (hallUp x ||| hallDown x) x.floors ↔ carIs x.floors c = true := by
  have hq : Kind.carQ .wr l c < 2 ^ 6 := flg_lt c.flags
  unfold Kind.carOk carIs
  simp only [Kind.num, Kind.numI, setB_floors h, Bool.and_eq_true]
  constructor
  · rintro ⟨a, -, b, c, d⟩; exact ⟨a, d, b, c⟩
  · rintro ⟨a, d, b, c⟩; exact ⟨a, hq, b, c, d⟩

theorem isIn_iff (x : BldD) (y : In) : isInB x y = true ↔ inOk x y := by
  unfold isInB inOk
  by_cases hv : validE x = 0
  · have hC := (fine_of hv).cars.1
    have hl := last_iff y.kind y.car x.cars.length hC
    rw [decide_eq_true hv, Bool.true_and, Bool.and_eq_true, List.all_eq_true]
    unfold headIs Kind.inOk Kind.headOk1 Kind.headOk2
    simp only [Kind.num, Kind.numI, Bool.and_eq_true, decide_eq_true_eq]
    constructor
    · rintro ⟨⟨⟨s1, s2⟩, k, c, z, e⟩, ha⟩
      have e' : y.cars.length = x.cars.length := by omega
      refine ⟨hv, e', ⟨s1, s2⟩, ⟨k, ?_⟩, fun i h => (carIs_iff hv _ _).2 (ha _ (List.getElem_mem h))⟩
      rw [e', hl, c, z]; rfl
    · rintro ⟨-, e', ⟨s1, s2⟩, ⟨k, c⟩, ha⟩
      rw [e', hl, Bool.and_eq_true] at c
      refine ⟨⟨⟨s1, s2⟩, k, c.1, c.2, by omega⟩, fun c hc => ?_⟩
      obtain ⟨i, hi, rfl⟩ := List.getElem_of_mem hc
      exact (carIs_iff hv _ _).1 (ha i hi)
  · simp [hv]
end
end Go.Proofs.Ytapkjknpoafhjaa
