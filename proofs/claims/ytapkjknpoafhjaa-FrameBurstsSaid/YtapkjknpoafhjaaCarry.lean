/- frame's carriers: a number is written behind a text, or read from the rest of one. No statement of the seat is proved here. -/
import Derived.Test.YtapkjknpoafhjaaKept
import Derived.Test.YtapkjknpoafhjaaFrameMath
import Derived.Deep.RegionLaw
namespace Go.Proofs.Ytapkjknpoafhjaa
open Go.RowKit Frm

/-- The text that a writer at block b has written. -/
def WrAt (N : Nat) (w : World) (b : Nat) (l : List UInt8) : Prop :=
  N ≤ b ∧ w.frozen? ⟨b, 0, none⟩ = false ∧ ∃ g cap, N ≤ g ∧ w.cell? ⟨b, 0, none⟩ = some (.slice (some ⟨g, 0, none⟩) l.length cap) ∧ TextAt w g cap l
/-- The text that a reader at block b has before it. -/
def RdAt (N : Nat) (w : World) (b : Nat) (l : List UInt8) : Prop :=
  N ≤ b ∧ w.frozen? ⟨b, 0, none⟩ = false ∧ w.cell? ⟨b, 0, none⟩ = some (.string ⟨l.toArray⟩)

theorem numL_snoc (n k : Nat) : numL n (k + 1) = numL n k ++ [UInt8.ofNat (n / 256 ^ k % 256)] := by
  induction k generalizing n with
  | zero => simp [numL]
  | succ k ih =>
    rw [numL, ih, numL, List.cons_append, Nat.div_div_eq_div_mul, Nat.pow_succ, Nat.mul_comm 256]

/-- All below N and all but the writer's own is kept by an append onto its text. -/
theorem kept_grown {N g : Nat} {w w' : World} (hg : w.grownBy w' (some g)) (hN : N ≤ g) (hN' : N ≤ w.heap.size) {cap : Nat} {l : List UInt8} (ht : TextAt w g cap l) (hf : ∀ p, p.block < w.heap.size → w'.frozen? p = w.frozen? p) (S : Addr → Prop) : Kept N S w w' :=
  ⟨(Below.refl N w).grown hg hN' (fun k hk => by simp at hk; omega), fun p v hp hv _ => by
    have hne := ht.apart hp hv
    exact hg.cell hp (by simpa using hne), hf⟩

set_option maxRecDepth 100000 in
set_option maxHeartbeats 1000000 in
theorem wcarry_any (N b n size : Nat) (l : List UInt8) (w : World) (hs : size ≤ 8) (hl : l.length ≤ 900000) (hN : N ≤ w.heap.size) (h : WrAt N w b l) :
    Calls Try.prog 101 #[.pointer (some ⟨b, 0, none⟩), .int .u64 n, .int .i64 size] w fun e w' => e = .returned (.int .u64 n) ∧ WrAt N w' b (l ++ numL n size) ∧ Kept N (fun p => p.block = b) w w' := by
  go_enter Try.func101, Try.ntmps101
  go_wp2_with fail
  go_loopw [9] (fun v wr => ∃ k : Nat, k ≤ size ∧ v = .int .i64 k ∧ WrAt N wr b (l ++ numL n k) ∧ Kept N (fun p => p.block = b) w wr) (fun v _ => size - (intOf v).toNat)
  case atStart => exact ⟨0, Nat.zero_le _, rfl, by simpa [numL] using h, Kept.refl _ _ _⟩
  case round =>
    obtain ⟨k, hk, rfl, ⟨hb1, hb2, g, cap, hg, hcell, ht⟩, hkept⟩ := hrel
    by_cases hlt : k < size
    · have HT := Lib.hid ht
      have HK := Lib.hid hkept
      clear ht hkept
      have hq256 : n / 256 ^ k % 256 < 256 := Nat.mod_lt _ (by omega)
      have hw8 : IntKind.i64.wrap (8 * (k : Int)) = 8 * (k : Int) := IntWalk.i64_in _ (by omega)
      have h80 : (0 : Int) ≤ 8 * (k : Int) := by omega
      have h81 : 8 * (k : Int) ≤ 64 := by omega
      have h82 : (8 * (k : Int)).toNat = 8 * k := by omega
      have hv : IntKind.u8.wrap ((n : Int) / 2 ^ (8 * k)) = ((n / 256 ^ k % 256 : Nat) : Int) := by
        rw [IntKind.wrap_u8]
        rw [show (256 : Nat) ^ k = 2 ^ (8 * k) from by rw [Nat.pow_mul]]
        norm_cast
      obtain ⟨q, hq⟩ : ∃ q, q = n / 256 ^ k % 256 := ⟨_, rfl⟩
      obtain ⟨m, hm⟩ : ∃ m, m = (l ++ numL n k).length := ⟨_, rfl⟩
      rw [← hq] at hv hq256
      rw [← hm] at hcell
      have hm1 : m ≤ 1000000 := by rw [hm, List.length_append, numL_length]; omega
      have HQ := Lib.hid hq
      have HM := Lib.hid hm
      clear hq hm
      have hbg : b ≠ g := HT.out.apart hcell rfl
      have hblt : b < wr.heap.size := World.block_lt_of_cell? wr _ hcell
      have hfar : ∀ o : Obj, (wr.drew.alloc o).cell? ⟨b, 0, none⟩ = some (.slice (some ⟨g, 0, none⟩) m cap) := fun o => (World.cell?_of_block (w := wr.drew) (Below.heap_alloc wr.drew o b (World.block_lt_of_cell? wr _ hcell))).trans hcell
      go_wp2_with fail
      go_region_law (refine step_append_byte rfl (.tmp 16) (.tmp 22) rfl g wr.heap.size cap (l ++ numL n k) q m HM.out rfl rfl hq256 (HT.out.drew.alloc _) (HM.out ▸ hm1) (by simp) ?_; intro g' cap' w1 ht1 hg1 hgg hfz1; have hc1 : w1.cell? ⟨b, 0, none⟩ = some (.slice (some ⟨g, 0, none⟩) m cap) := hg1.cell (hfar _) (by simpa using hbg); have hf1 : w1.frozen? ⟨b, 0, none⟩ = false := (hfz1 _ (by simp; omega)).trans ((World.frozen?_alloc_old wr.drew _ _ (by show b ≠ wr.heap.size; omega)).trans hb2))
      all_goals
        go_wp2_with fail
        go_roundw
        case rel =>
          have hsz : (wr.alloc (Obj.cells #[Value.int .u8 (q : Int)] 5)).drew.heap.size = wr.heap.size + 1 := by simp [World.drew]
          have hgl : N ≤ g' := by rcases hgg with h1 | h1 <;> omega
          have hb1g : b ≠ g' := by rcases hgg with h1 | h1 <;> omega
          have hkk := HK.out
          refine ⟨k + 1, by omega, by go_num, ⟨hb1, ?_, g', cap', hgl, ?_, ?_⟩, ?_⟩
          · rw [World.frozen?_setCell]; exact hf1
          · rw [World.cell?_setCell_same w1 _ _ hc1, HM.out, numL_snoc]
            simp [Nat.add_assoc]
          · rw [numL_snoc, ← List.append_assoc, ← HQ.out]
            exact ht1.setCell hb1g _
          · have k1 : Kept N (fun p => p.block = b) wr (wr.alloc (Obj.cells #[Value.int .u8 (q : Int)] 5)).drew := ((Kept.refl _ _ _).alloc (by have := hkk.below.size; omega) _).drew
            have k2 := kept_grown hg1 hg (by have := hkk.below.size; omega) (HT.out.alloc _).drew hfz1 (fun p => p.block = b)
            exact (hkk.trans (k1.trans k2)).setCell hb1 rfl _
        case measure => simp [intOf]; omega
    · obtain rfl : k = size := by omega
      have HT := Lib.hid ht
      go_wp2_with fail
      go_ret
      exact ⟨rfl, ⟨hb1, hb2, g, cap, hg, hcell, HT.out⟩, hkept⟩

theorem valL_snoc (l : List UInt8) (b : UInt8) : valL (l ++ [b]) = valL l + 256 ^ l.length * b.toNat := by
  induction l with
  | nil => simp [valL]
  | cons c l ih =>
    rw [List.cons_append, valL, ih, valL, List.length_cons, Nat.pow_succ, Nat.mul_add, ← Nat.mul_assoc, Nat.mul_comm 256 (256 ^ l.length)]
    omega
theorem valL_take {l : List UInt8} {k : Nat} (h : k < l.length) : valL (l.take (k + 1)) = valL (l.take k) + 256 ^ k * l[k].toNat := by
  rw [List.take_succ_eq_append_getElem h, valL_snoc, List.length_take, Nat.min_eq_left (by omega)]
theorem u64_or_nat (a b : Nat) (ha : a < 18446744073709551616) (hb : b < 18446744073709551616) : bits .or .u64 (a : Int) (b : Int) = ((a ||| b : Nat) : Int) := by
  have hx : a ||| b < 2 ^ 64 := Nat.or_lt_two_pow ha hb
  show IntKind.u64.wrap ((BitVec.ofInt 64 (a : Int) ||| BitVec.ofInt 64 (b : Int)).toNat : Int) = _
  have e : ∀ c : Nat, c < 18446744073709551616 → (BitVec.ofInt 64 (c : Int)).toNat = c := by
    intro c hc; rw [BitVec.ofInt_natCast, BitVec.toNat_ofNat]; exact Nat.mod_eq_of_lt hc
  rw [BitVec.toNat_or, e a ha, e b hb, IntKind.wrap_u64]
  omega
theorem or_add (a b k : Nat) (ha : a < 2 ^ k) : a ||| 2 ^ k * b = a + 2 ^ k * b := by
  rw [Nat.or_comm, Nat.add_comm]
  exact (Nat.two_pow_add_eq_or_of_lt ha b).symm
/-- One byte more of a number. -/
theorem byte_or (l : List UInt8) (k : Nat) (h : k < l.length) (hk : k < 8) :
    bits .or .u64 ((valL (l.take k) : Nat) : Int) (IntKind.u64.wrap (((l[k].toNat : Nat) : Int) * 2 ^ (8 * k))) = ((valL (l.take (k + 1)) : Nat) : Int) := by
  have h1 := valL_lt (l.take k)
  rw [List.length_take, Nat.min_eq_left (by omega), show (256 : Nat) ^ k = 2 ^ (8 * k) from by rw [Nat.pow_mul]] at h1
  have h2 := l[k].toNat_lt
  have h3 : l[k].toNat * 2 ^ (8 * k) < 18446744073709551616 := by
    have : 2 ^ (8 * k) ≤ 2 ^ 56 := Nat.pow_le_pow_right (by omega) (by omega)
    calc l[k].toNat * 2 ^ (8 * k) ≤ 255 * 2 ^ 56 := Nat.mul_le_mul (by omega) this
      _ < _ := by decide
  have h4 : 2 ^ (8 * k) ≤ 2 ^ 56 := Nat.pow_le_pow_right (by omega) (by omega)
  rw [show (((l[k].toNat : Nat) : Int) * 2 ^ (8 * k)) = ((l[k].toNat * 2 ^ (8 * k) : Nat) : Int) from by norm_cast, IntKind.wrap_u64,
    show ((l[k].toNat * 2 ^ (8 * k) : Nat) : Int) % 18446744073709551616 = ((l[k].toNat * 2 ^ (8 * k) : Nat) : Int) from by omega,
    u64_or_nat _ _ (by omega) h3, valL_take h, show (256 : Nat) ^ k = 2 ^ (8 * k) from by rw [Nat.pow_mul], Nat.mul_comm l[k].toNat, or_add _ _ _ h1]

set_option maxRecDepth 100000 in
set_option maxHeartbeats 1000000 in
theorem rcarry_any (N b size : Nat) (n : Int) (l : List UInt8) (w : World) (hs : size ≤ 8) (hl : size ≤ l.length) (hm : l.length ≤ 1000000) (h : RdAt N w b l) :
    Calls Try.prog 102 #[.pointer (some ⟨b, 0, none⟩), .int .u64 n, .int .i64 size] w fun e w' => e = .returned (.int .u64 (valL (l.take size) : Nat)) ∧ RdAt N w' b (l.drop size) ∧ Kept N (fun p => p.block = b) w w' := by
  obtain ⟨hb1, hb2, hc⟩ := h
  go_enter Try.func102, Try.ntmps102
  go_wp2_with fail
  go_loop [7, 10] (fun r v => ∃ k : Nat, k ≤ size ∧ v = .int .i64 k ∧ r = .int .u64 (valL (l.take k) : Nat)) (fun _ v => size - (intOf v).toNat)
  case atStart => exact ⟨0, Nat.zero_le _, rfl, by simp [valL]⟩
  case round =>
    obtain ⟨k, hk, rfl, rfl⟩ := hrel
    by_cases hlt : k < size
    · have hkl : k < l.length := by omega
      have hw8 : IntKind.i64.wrap (8 * (k : Int)) = 8 * (k : Int) := IntWalk.i64_in _ (by omega)
      have h80 : (0 : Int) ≤ 8 * (k : Int) := by omega
      have h81 : 8 * (k : Int) ≤ 64 := by omega
      have h82 : (8 * (k : Int)).toNat = 8 * k := by omega
      have HB := Lib.hid (byte_or l k hkl (by omega))
      go_wp2_with fail
      go_round
      case rel =>
        refine ⟨k + 1, by omega, by go_num, ?_⟩
        have e : IntKind.u64.wrap ((l[k].toNat : Nat) : Int) = ((l[k].toNat : Nat) : Int) := by rw [IntKind.wrap_u64]; have := l[k].toNat_lt; omega
        have e2 : ((⟨l.toArray⟩ : ByteArray)[k]'(by simpa [ByteArray.size] using hkl)) = l[k] := rfl
        rw [e2, e, HB.out]
      case measure => simp [intOf]; omega
    · obtain rfl : k = size := by omega
      go_wp2_with fail
      go_ret
      have e : (⟨l.toArray⟩ : ByteArray).extract k l.length = ⟨(l.drop k).toArray⟩ := by
        apply ByteArray.ext
        rw [ByteArray.data_extract]
        apply Array.ext'
        rw [Array.toList_extract, List.extract_eq_take_drop]
        exact List.take_of_length_le (by simp)
      rw [e]
      refine ⟨rfl, ⟨hb1, (World.frozen?_setCell _ _ _ _).trans hb2, World.cell?_setCell_same w _ _ hc⟩, Kept.setCell (p := ⟨b, 0, none⟩) (Kept.refl N (fun p => p.block = b) w) hb1 rfl _⟩
end Go.Proofs.Ytapkjknpoafhjaa
