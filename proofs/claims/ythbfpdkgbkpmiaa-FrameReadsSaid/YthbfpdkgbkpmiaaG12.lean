/- What the texts behind this one rest on: several texts in one. No statement of the seat is proved here. -/
import Derived.Test.YthbfpdkgbkpmiaaKept
import Derived.Test.YthbfpdkgbkpmiaaFrameMath
import Derived.Deep.RegionLaw
import Derived.Test.YthbfpdkgbkpmiaaG4
namespace Go.Proofs.Ythbfpdkgbkpmiaa
section
open Go.RowKit Frm

/-- The text that a writer at block b has written. -/
def WrAt (N : Nat) (w : World) (b : Nat) (l : List UInt8) : Prop :=
  N ≤ b ∧ w.frozen? ⟨b, 0, none⟩ = false ∧ ∃ g cap, N ≤ g ∧ w.cell? ⟨b, 0, none⟩ = some (.slice (some ⟨g, 0, none⟩) l.length cap) ∧ TextAt w g cap l
/-- The text that a reader at block b has before it. -/
def RdAt (N : Nat) (w : World) (b : Nat) (l : List UInt8) : Prop :=
  N ≤ b ∧ w.frozen? ⟨b, 0, none⟩ = false ∧ w.cell? ⟨b, 0, none⟩ = some (.string ⟨l.toArray⟩)

theorem numL_snoc (n k : Nat) : numL n (k + 1) = numL n k ++ [UInt8.ofNat (n / 256 ^ k % 256)] := by
  induction k generalizing n with
  | zero => simp [numL]
  | succ k ih =>
    rw [numL, ih, numL, List.cons_append, Nat.div_div_eq_div_mul, Nat.pow_succ, Nat.mul_comm 256]

/-- All below N and all but the writer's own is kept by an append onto its text. -/
theorem kept_grown {N g : Nat} {w w' : World} (hg : w.grownBy w' (some g)) (hN : N ≤ g) (hN' : N ≤ w.heap.size) {cap : Nat} {l : List UInt8} (ht : TextAt w g cap l) (hf : ∀ p, p.block < w.heap.size → w'.frozen? p = w.frozen? p) (S : Addr → Prop) : Kept N S w w' :=
  ⟨(Below.refl N w).grown hg hN' (fun k hk => by simp at hk; omega), fun p v hp hv _ => by
    have hne := ht.apart hp hv
    exact hg.cell hp (by simpa using hne), hf⟩

set_option maxRecDepth 100000 in
set_option maxHeartbeats 1000000 in
theorem wcarry_any (N b n size : Nat) (l : List UInt8) (w : World) (hs : size ≤ 8) (hl : l.length ≤ 900000) (hN : N ≤ w.heap.size) (h : WrAt N w b l) :
    Calls Try.prog 101 #[.pointer (some ⟨b, 0, none⟩), .int .u64 n, .int .i64 size] w fun e w' => e = .returned (.int .u64 n) ∧ WrAt N w' b (l ++ numL n size) ∧ Kept N (fun p => p.block = b) w w' := by
  go_enter Try.func101, Try.ntmps101
  go_wp2_with fail
  go_loopw [9] (fun v wr => ∃ k : Nat, k ≤ size ∧ v = .int .i64 k ∧ WrAt N wr b (l ++ numL n k) ∧ Kept N (fun p => p.block = b) w wr) (fun v _ => size - (intOf v).toNat)
  case atStart => exact ⟨0, Nat.zero_le _, rfl, by simpa [numL] using h, Kept.refl _ _ _⟩
  case round =>
    obtain ⟨k, hk, rfl, ⟨hb1, hb2, g, cap, hg, hcell, ht⟩, hkept⟩ := hrel
    by_cases hlt : k < size
    · have HT := Lib.hid ht
      have HK := Lib.hid hkept
      clear ht hkept
      have hq256 : n / 256 ^ k % 256 < 256 := Nat.mod_lt _ (by omega)
      have hw8 : IntKind.i64.wrap (8 * (k : Int)) = 8 * (k : Int) := IntWalk.i64_in _ (by omega)
      have h80 : (0 : Int) ≤ 8 * (k : Int) := by omega
      have h81 : 8 * (k : Int) ≤ 64 := by omega
      have h82 : (8 * (k : Int)).toNat = 8 * k := by omega
      have hv : IntKind.u8.wrap ((n : Int) / 2 ^ (8 * k)) = ((n / 256 ^ k % 256 : Nat) : Int) := by
        rw [IntKind.wrap_u8]
        rw [show (256 : Nat) ^ k = 2 ^ (8 * k) from by rw [Nat.pow_mul]]
        norm_cast
      obtain ⟨q, hq⟩ : ∃ q, q = n / 256 ^ k % 256 := ⟨_, rfl⟩
      obtain ⟨m, hm⟩ : ∃ m, m = (l ++ numL n k).length := ⟨_, rfl⟩
      rw [← hq] at hv hq256
      rw [← hm] at hcell
      have hm1 : m ≤ 1000000 := by rw [hm, List.length_append, numL_length]; omega
      have HQ := Lib.hid hq
      have HM := Lib.hid hm
      clear hq hm
      have hbg : b ≠ g := HT.out.apart hcell rfl
      have hblt : b < wr.heap.size := World.block_lt_of_cell? wr _ hcell
      have hfar : ∀ o : Obj, (wr.drew.alloc o).cell? ⟨b, 0, none⟩ = some (.slice (some ⟨g, 0, none⟩) m cap) := fun o => (World.cell?_of_block (w := wr.drew) (Below.heap_alloc wr.drew o b (World.block_lt_of_cell? wr _ hcell))).trans hcell
      go_wp2_with fail
      go_region_law (refine step_append_byte rfl (.tmp 16) (.tmp 22) rfl g wr.heap.size cap (l ++ numL n k) q m HM.out rfl rfl hq256 (HT.out.drew.alloc _) (HM.out ▸ hm1) (by simp) ?_; intro g' cap' w1 ht1 hg1 hgg hfz1; have hc1 : w1.cell? ⟨b, 0, none⟩ = some (.slice (some ⟨g, 0, none⟩) m cap) := hg1.cell (hfar _) (by simpa using hbg); have hf1 : w1.frozen? ⟨b, 0, none⟩ = false := (hfz1 _ (by simp; omega)).trans ((World.frozen?_alloc_old wr.drew _ _ (by show b ≠ wr.heap.size; omega)).trans hb2))
      all_goals
        go_wp2_with fail
        go_roundw
        case rel =>
          have hsz : (wr.alloc (Obj.cells #[Value.int .u8 (q : Int)] 5)).drew.heap.size = wr.heap.size + 1 := by simp [World.drew]
          have hgl : N ≤ g' := by rcases hgg with h1 | h1 <;> omega
          have hb1g : b ≠ g' := by rcases hgg with h1 | h1 <;> omega
          have hkk := HK.out
          refine ⟨k + 1, by omega, by go_num, ⟨hb1, ?_, g', cap', hgl, ?_, ?_⟩, ?_⟩
          · rw [World.frozen?_setCell]; exact hf1
          · rw [World.cell?_setCell_same w1 _ _ hc1, HM.out, numL_snoc]
            simp [Nat.add_assoc]
          · rw [numL_snoc, ← List.append_assoc, ← HQ.out]
            exact ht1.setCell hb1g _
          · have k1 : Kept N (fun p => p.block = b) wr (wr.alloc (Obj.cells #[Value.int .u8 (q : Int)] 5)).drew := ((Kept.refl _ _ _).alloc (by have := hkk.below.size; omega) _).drew
            have k2 := kept_grown hg1 hg (by have := hkk.below.size; omega) (HT.out.alloc _).drew hfz1 (fun p => p.block = b)
            exact (hkk.trans (k1.trans k2)).setCell hb1 rfl _
        case measure => simp [intOf]; omega
    · obtain rfl : k = size := by omega
      have HT := Lib.hid ht
      go_wp2_with fail
      go_ret
      exact ⟨rfl, ⟨hb1, hb2, g, cap, hg, hcell, HT.out⟩, hkept⟩

theorem valL_snoc (l : List UInt8) (b : UInt8) : valL (l ++ [b]) = valL l + 256 ^ l.length * b.toNat := by
  induction l with
  | nil => simp [valL]
  | cons c l ih =>
    rw [List.cons_append, valL, ih, valL, List.length_cons, Nat.pow_succ, Nat.mul_add, ← Nat.mul_assoc, Nat.mul_comm 256 (256 ^ l.length)]
    omega
theorem valL_take {l : List UInt8} {k : Nat} (h : k < l.length) : valL (l.take (k + 1)) = valL (l.take k) + 256 ^ k * l[k].toNat := by
  rw [List.take_succ_eq_append_getElem h, valL_snoc, List.length_take, Nat.min_eq_left (by omega)]
theorem u64_or_nat (a b : Nat) (ha : a < 18446744073709551616) (hb : b < 18446744073709551616) : bits .or .u64 (a : Int) (b : Int) = ((a ||| b : Nat) : Int) := by
  have hx : a ||| b < 2 ^ 64 := Nat.or_lt_two_pow ha hb
  show IntKind.u64.wrap ((BitVec.ofInt 64 (a : Int) ||| BitVec.ofInt 64 (b : Int)).toNat : Int) = _
  have e : ∀ c : Nat, c < 18446744073709551616 → (BitVec.ofInt 64 (c : Int)).toNat = c := by
    intro c hc; rw [BitVec.ofInt_natCast, BitVec.toNat_ofNat]; exact Nat.mod_eq_of_lt hc
  rw [BitVec.toNat_or, e a ha, e b hb, IntKind.wrap_u64]
  omega
theorem or_add (a b k : Nat) (ha : a < 2 ^ k) : a ||| 2 ^ k * b = a + 2 ^ k * b := by
  rw [Nat.or_comm, Nat.add_comm]
  exact (Nat.two_pow_add_eq_or_of_lt ha b).symm
/-- One byte more of a number. -/
theorem byte_or (l : List UInt8) (k : Nat) (h : k < l.length) (hk : k < 8) :
    bits .or .u64 ((valL (l.take k) : Nat) : Int) (IntKind.u64.wrap (((l[k].toNat : Nat) : Int) * 2 ^ (8 * k))) = ((valL (l.take (k + 1)) : Nat) : Int) := by
  have h1 := valL_lt (l.take k)
  rw [List.length_take, Nat.min_eq_left (by omega), show (256 : Nat) ^ k = 2 ^ (8 * k) from by rw [Nat.pow_mul]] at h1
  have h2 := l[k].toNat_lt
  have h3 : l[k].toNat * 2 ^ (8 * k) < 18446744073709551616 := by
    have : 2 ^ (8 * k) ≤ 2 ^ 56 := Nat.pow_le_pow_right (by omega) (by omega)
    calc l[k].toNat * 2 ^ (8 * k) ≤ 255 * 2 ^ 56 := Nat.mul_le_mul (by omega) this
      _ < _ := by decide
  have h4 : 2 ^ (8 * k) ≤ 2 ^ 56 := Nat.pow_le_pow_right (by omega) (by omega)
  rw [show (((l[k].toNat : Nat) : Int) * 2 ^ (8 * k)) = ((l[k].toNat * 2 ^ (8 * k) : Nat) : Int) from by norm_cast, IntKind.wrap_u64,
    show ((l[k].toNat * 2 ^ (8 * k) : Nat) : Int) % 18446744073709551616 = ((l[k].toNat * 2 ^ (8 * k) : Nat) : Int) from by omega,
    u64_or_nat _ _ (by omega) h3, valL_take h, show (256 : Nat) ^ k = 2 ^ (8 * k) from by rw [Nat.pow_mul], Nat.mul_comm l[k].toNat, or_add _ _ _ h1]

set_option maxRecDepth 100000 in
set_option maxHeartbeats 1000000 in
theorem rcarry_any (N b size : Nat) (n : Int) (l : List UInt8) (w : World) (hs : size ≤ 8) (hl : size ≤ l.length) (hm : l.length ≤ 1000000) (h : RdAt N w b l) :
    Calls Try.prog 102 #[.pointer (some ⟨b, 0, none⟩), .int .u64 n, .int .i64 size] w fun e w' => e = .returned (.int .u64 (valL (l.take size) : Nat)) ∧ RdAt N w' b (l.drop size) ∧ Kept N (fun p => p.block = b) w w' := by
  obtain ⟨hb1, hb2, hc⟩ := h
  go_enter Try.func102, Try.ntmps102
  go_wp2_with fail
  go_loop [7, 10] (fun r v => ∃ k : Nat, k ≤ size ∧ v = .int .i64 k ∧ r = .int .u64 (valL (l.take k) : Nat)) (fun _ v => size - (intOf v).toNat)
  case atStart => exact ⟨0, Nat.zero_le _, rfl, by simp [valL]⟩
  case round =>
    obtain ⟨k, hk, rfl, rfl⟩ := hrel
    by_cases hlt : k < size
    · have hkl : k < l.length := by omega
      have hw8 : IntKind.i64.wrap (8 * (k : Int)) = 8 * (k : Int) := IntWalk.i64_in _ (by omega)
      have h80 : (0 : Int) ≤ 8 * (k : Int) := by omega
      have h81 : 8 * (k : Int) ≤ 64 := by omega
      have h82 : (8 * (k : Int)).toNat = 8 * k := by omega
      have HB := Lib.hid (byte_or l k hkl (by omega))
      go_wp2_with fail
      go_round
      case rel =>
        refine ⟨k + 1, by omega, by go_num, ?_⟩
        have e : IntKind.u64.wrap ((l[k].toNat : Nat) : Int) = ((l[k].toNat : Nat) : Int) := by rw [IntKind.wrap_u64]; have := l[k].toNat_lt; omega
        have e2 : ((⟨l.toArray⟩ : ByteArray)[k]'(by simpa [ByteArray.size] using hkl)) = l[k] := rfl
        rw [e2, e, HB.out]
      case measure => simp [intOf]; omega
    · obtain rfl : k = size := by omega
      go_wp2_with fail
      go_ret
      have e : (⟨l.toArray⟩ : ByteArray).extract k l.length = ⟨(l.drop k).toArray⟩ := by
        apply ByteArray.ext
        rw [ByteArray.data_extract]
        apply Array.ext'
        rw [Array.toList_extract, List.extract_eq_take_drop]
        exact List.take_of_length_le (by simp)
      rw [e]
      refine ⟨rfl, ⟨hb1, (World.frozen?_setCell _ _ _ _).trans hb2, World.cell?_setCell_same w _ _ hc⟩, Kept.setCell (p := ⟨b, 0, none⟩) (Kept.refl N (fun p => p.block = b) w) hb1 rfl _⟩
end

section
open Go.RowKit Frm

inductive Kind where
  | wr
  | rd

/-- The carrier, as a value of the interface. -/
def Kind.v : Kind → Nat → Value
  | .wr, b => .iface 107 (.pointer (some ⟨b, 0, none⟩))
  | .rd, b => .iface 125 (.pointer (some ⟨b, 0, none⟩))
def Kind.At : Kind → Nat → World → Nat → List UInt8 → Prop
  | .wr, N, w, b, l => WrAt N w b l
  | .rd, N, w, b, l => RdAt N w b l
/-- Enough is left to be read, or not too much has been written. -/
def Kind.Room : Kind → List UInt8 → Nat → Prop
  | .wr, l, size => l.length + size ≤ 900000
  | .rd, l, size => size ≤ l.length ∧ l.length ≤ 900000
theorem Kind.Room.left {k : Kind} {l : List UInt8} {s t : Nat} (h : k.Room l (s + t)) : k.Room l s := by
  cases k
  · have h : l.length + (s + t) ≤ 900000 := h
    show l.length + s ≤ 900000
    omega
  · exact ⟨by have := h.1; omega, h.2⟩
/-- The number that is carried, and the text behind it. -/
def Kind.num : Kind → List UInt8 → Nat → Nat → Nat
  | .wr, _, n, _ => n
  | .rd, l, _, size => valL (l.take size)
def Kind.next : Kind → List UInt8 → Nat → Nat → List UInt8
  | .wr, l, n, size => l ++ numL n size
  | .rd, l, _, size => l.drop size

theorem Kind.Room.right {k : Kind} {l : List UInt8} {s t : Nat} (h : k.Room l (s + t)) (n : Nat) : k.Room (k.next l n s) t := by
  cases k
  · have h : l.length + (s + t) ≤ 900000 := h
    show (l ++ numL n s).length + t ≤ 900000
    rw [List.length_append, numL_length]
    omega
  · have h1 := h.1
    have h2 := h.2
    show t ≤ (l.drop s).length ∧ (l.drop s).length ≤ 900000
    rw [List.length_drop]
    omega

/-- The fields' struct. -/
def fieldsA (c : Value) (x : BldD) (A : Option Addr) (cap u d : Nat) (code : Int) : Array Value :=
  #[c, .int .i64 x.floors, .int .i64 x.debounce, .int .i64 x.room, .int .i64 x.park, .float .f64 x.empty, .float .f64 x.full, .float .f64 x.over, .slice A x.cars.length cap, .int .u32 u, .int .u32 d, .int .i64 code]

/-- The panic of a value that is not allowed. -/
def refusedP (code : Int) : Ending := .panicked [{ v := .iface 138 (.agg #[.int .i64 code]), recovered := false }]

theorem expect_yes (c : Value) (x : BldD) (A : Option Addr) (cap u d : Nat) (code : Int) (w : World) :
    Calls Try.prog 55 #[.agg (fieldsA c x A cap u d code), .bool true] w fun e w' => e = .returned (.tuple #[]) ∧ Below w.heap.size w w' := by
  unfold fieldsA
  go_enter Try.func55, Try.ntmps55
  go_wp2_with fail
  go_end0
  exact ⟨rfl, by go_grown⟩
theorem expect_no (c : Value) (x : BldD) (A : Option Addr) (cap u d : Nat) (code : Int) (w : World) :
    Calls Try.prog 55 #[.agg (fieldsA c x A cap u d code), .bool false] w fun e w' => e = refusedP code ∧ Below w.heap.size w w' := by
  unfold fieldsA
  go_enter Try.func55, Try.ntmps55
  go_wp2_with fail
  exact ⟨rfl, rfl, by go_grown⟩

/-- Which method it is. -/
theorem meth_wr (b : Nat) (w : World) : (method 273 107 (.pointer (some ⟨b, 0, none⟩)) "overlay/frame.carry").run Try.prog w = .ok (101, .pointer (some ⟨b, 0, none⟩)) w := by kernel_rfl
theorem meth_rd (b : Nat) (w : World) : (method 273 125 (.pointer (some ⟨b, 0, none⟩)) "overlay/frame.carry").run Try.prog w = .ok (102, .pointer (some ⟨b, 0, none⟩)) w := by kernel_rfl

/-- Either carrier carries. -/
theorem carry_wr (N b n size : Nat) (l : List UInt8) (w : World) (hs : size ≤ 8) (hN : N ≤ w.heap.size) (hR : Kind.Room .wr l size) (h : Kind.At .wr N w b l) :
    Calls Try.prog 101 #[.pointer (some ⟨b, 0, none⟩), .int .u64 n, .int .i64 size] w fun e w' => e = .returned (.int .u64 (Kind.num .wr l n size : Nat)) ∧ Kind.At .wr N w' b (Kind.next .wr l n size) ∧ Kept N (fun p => p.block = b) w w' :=
  wcarry_any N b n size l w hs (Nat.le_trans (Nat.le_add_right _ _) hR) hN h
theorem carry_rd (N b n size : Nat) (l : List UInt8) (w : World) (hs : size ≤ 8) (hR : Kind.Room .rd l size) (h : Kind.At .rd N w b l) :
    Calls Try.prog 102 #[.pointer (some ⟨b, 0, none⟩), .int .u64 n, .int .i64 size] w fun e w' => e = .returned (.int .u64 (Kind.num .rd l n size : Nat)) ∧ Kind.At .rd N w' b (Kind.next .rd l n size) ∧ Kept N (fun p => p.block = b) w w' :=
  rcarry_any N b size n l w hs hR.1 (by have := hR.2; omega) h
theorem Kind.lt {k : Kind} {N b : Nat} {w : World} {l : List UInt8} (h : k.At N w b l) : b < w.heap.size ∧ N ≤ b := by
  cases k
  · obtain ⟨h1, _, g, cap, _, hc, _⟩ := h
    exact ⟨World.block_lt_of_cell? w _ hc, h1⟩
  · exact ⟨World.block_lt_of_cell? w _ h.2.2, h.1⟩
theorem Kind.At.drew {k : Kind} {N b : Nat} {w : World} {l : List UInt8} (h : k.At N w b l) : k.At N w.drew b l := by
  cases k
  · obtain ⟨h1, h2, g, cap, h3, hc, ht⟩ := h
    exact ⟨h1, h2, g, cap, h3, hc, ht.drew⟩
  · exact ⟨h.1, h.2.1, h.2.2⟩
theorem Kind.At.alloc {k : Kind} {N b : Nat} {w : World} {l : List UInt8} (h : k.At N w b l) (o : Obj) : k.At N (w.alloc o) b l := by
  have hlt := (Kind.lt h).1
  cases k
  · obtain ⟨h1, h2, g, cap, h3, hc, ht⟩ := h
    exact ⟨h1, (World.frozen?_of_block (w := w) (Below.heap_alloc w o b hlt)).trans h2, g, cap, h3, (World.cell?_of_block (w := w) (Below.heap_alloc w o b hlt)).trans hc, ht.alloc o⟩
  · exact ⟨h.1, (World.frozen?_of_block (w := w) (Below.heap_alloc w o b hlt)).trans h.2.1, (World.cell?_of_block (w := w) (Below.heap_alloc w o b hlt)).trans h.2.2⟩
theorem Kind.At.setCell {k : Kind} {N b : Nat} {w : World} {l : List UInt8} (h : k.At N w b l) {p : Addr} {v0 : Value} (hp : w.cell? p = some v0) (hv : plainV v0 = true) (hb : p.block ≠ b) (v : Value) : k.At N (w.setCell p v) b l := by
  cases k
  · obtain ⟨h1, h2, g, cap, h3, hc, ht⟩ := h
    exact ⟨h1, (World.frozen?_setCell _ _ _ _).trans h2, g, cap, h3, (World.cell?_of_block (w := w) (Below.heap_setCell w p v b (Ne.symm hb))).trans hc, ht.setCell (ht.apart hp hv) v⟩
  · exact ⟨h.1, (World.frozen?_setCell _ _ _ _).trans h.2.1, (World.cell?_of_block (w := w) (Below.heap_setCell w p v b (Ne.symm hb))).trans h.2.2⟩
theorem Kind.At.below {k : Kind} {N b : Nat} {w w' : World} {l : List UInt8} (h : k.At N w b l) (hb : Below w.heap.size w w') : k.At N w' b l := by
  have hlt := (Kind.lt h).1
  cases k
  · obtain ⟨h1, h2, g, cap, h3, hc, ht⟩ := h
    exact ⟨h1, (hb.frozen (p := ⟨b, 0, none⟩) hlt).trans h2, g, cap, h3, (hb.cell (p := ⟨b, 0, none⟩) hlt).trans hc, ht.of_block (hb.block g ht.lt)⟩
  · exact ⟨h.1, (hb.frozen (p := ⟨b, 0, none⟩) hlt).trans h.2.1, (hb.cell (p := ⟨b, 0, none⟩) hlt).trans h.2.2⟩
theorem Kind.num_lt {k : Kind} {l : List UInt8} {n size : Nat} (hn : n < 256 ^ size) : k.num l n size < 256 ^ size := by
  cases k
  · exact hn
  · exact Nat.lt_of_lt_of_le (valL_lt _) (Nat.pow_le_pow_right (by omega) (by rw [List.length_take]; omega))

/-- The box of the fields, and its cells. -/
theorem boxF {N : Nat} {S : Addr → Prop} {w wx : World} {c : Value} {x : BldD} {A : Option Addr} {cap u d : Nat} {code : Int} (hc : plainV c = true) (hS : ∀ o, ¬ S ⟨w.heap.size, o, none⟩)
    (h : Kept N S (w.alloc (.cells (fieldsA c x A cap u d code) 77)) wx) :
    wx.cell? ⟨w.heap.size, 0, none⟩ = some c ∧ wx.cell? ⟨w.heap.size, 1, none⟩ = some (.int .i64 x.floors) ∧ wx.cell? ⟨w.heap.size, 2, none⟩ = some (.int .i64 x.debounce) ∧ wx.cell? ⟨w.heap.size, 3, none⟩ = some (.int .i64 x.room) ∧ wx.cell? ⟨w.heap.size, 4, none⟩ = some (.int .i64 x.park) ∧
    wx.cell? ⟨w.heap.size, 5, none⟩ = some (.float .f64 x.empty) ∧ wx.cell? ⟨w.heap.size, 6, none⟩ = some (.float .f64 x.full) ∧ wx.cell? ⟨w.heap.size, 7, none⟩ = some (.float .f64 x.over) ∧ wx.cell? ⟨w.heap.size, 8, none⟩ = some (.slice A x.cars.length cap) ∧
    wx.cell? ⟨w.heap.size, 9, none⟩ = some (.int .u32 u) ∧ wx.cell? ⟨w.heap.size, 10, none⟩ = some (.int .u32 d) ∧ wx.cell? ⟨w.heap.size, 11, none⟩ = some (.int .i64 code) := by
  have hb := heap_alloc_new w (.cells (fieldsA c x A cap u d code) 77)
  have key : ∀ j v, (fieldsA c x A cap u d code)[j]? = some v → plainV v = true → wx.cell? ⟨w.heap.size, j, none⟩ = some v := fun j v hj hv =>
    h.cell _ _ ((cell_of_row _ _ j _ _ (0, 0) hb).trans hj) hv (hS j)
  exact ⟨key 0 _ rfl hc, key 1 _ rfl rfl, key 2 _ rfl rfl, key 3 _ rfl rfl, key 4 _ rfl rfl, key 5 _ rfl rfl, key 6 _ rfl rfl, key 7 _ rfl rfl, key 8 _ rfl rfl, key 9 _ rfl rfl, key 10 _ rfl rfl, key 11 _ rfl rfl⟩

/-- All of s lies in all. -/
def setB (s all : Nat) : Bool := s &&& all == s
theorem u32_andNot (s all : Nat) (hs : s < 4294967296) (ha : all < 4294967296) : (bits .andNot .u32 (s : Int) (all : Int) == 0) = setB s all := by
  have e : ∀ c : Nat, c < 4294967296 → (BitVec.ofInt 32 (c : Int)).toNat = c := by
    intro c hc; rw [BitVec.ofInt_natCast, BitVec.toNat_ofNat]; exact Nat.mod_eq_of_lt hc
  have h1 : bits .andNot .u32 (s : Int) (all : Int) = (((BitVec.ofInt 32 (s : Int) &&& ~~~ BitVec.ofInt 32 (all : Int)).toNat : Nat) : Int) := by
    show IntKind.u32.wrap ((BitVec.ofInt 32 (s : Int) &&& ~~~ BitVec.ofInt 32 (all : Int)).toNat : Int) = _
    rw [IntKind.wrap_u32]
    have := (BitVec.ofInt 32 (s : Int) &&& ~~~ BitVec.ofInt 32 (all : Int)).isLt
    omega
  rw [h1]
  unfold setB
  have hS := e s hs
  have hA := e all ha
  generalize BitVec.ofInt 32 (s : Int) = X at *
  generalize BitVec.ofInt 32 (all : Int) = Y at *
  subst hS hA
  rw [Bool.eq_iff_iff]
  simp only [beq_iff_eq]
  constructor
  · intro h
    have h0 : X &&& ~~~Y = 0#32 := BitVec.eq_of_toNat_eq (by simpa using h)
    have h2 : X &&& Y = X := by
      ext i hi
      have := congrArg (fun z : BitVec 32 => z[i]) h0
      simp at this
      simp
      exact this
    rw [← BitVec.toNat_and, h2]
  · intro h
    have h2 : X &&& Y = X := BitVec.eq_of_toNat_eq (by rw [BitVec.toNat_and]; exact h)
    have h0 : X &&& ~~~Y = 0#32 := by
      ext i hi
      have := congrArg (fun z : BitVec 32 => z[i]) h2
      simp at this
      simp
      exact this
    rw [h0]; rfl

set_option maxRecDepth 100000 in
set_option maxHeartbeats 1000000 in
theorem set_any (k : Kind) (N b : Nat) (px : Addr) (all old : Nat) (l : List UInt8) (x : BldD) (A : Option Addr) (cap u d : Nat) (code : Int) (w : World) (hall : all < 4294967296) (hold : old < 4294967296) (hN : N ≤ w.heap.size)
    (hC : k.At N w b l) (hR : k.Room l 4) (hp : w.cell? px = some (.int .u32 old)) (hpf : w.frozen? px = false) (hpb : px.block ≠ b) (hpN : N ≤ px.block) :
    Calls Try.prog 76 #[.agg (fieldsA (k.v b) x A cap u d code), .pointer (some px), .int .u32 all] w fun e w' => Kept N (fun p => p.block = b ∨ p = px) w w' ∧
      ((setB (k.num l old 4) all = true ∧ e = .returned (.tuple #[]) ∧ k.At N w' b (k.next l old 4) ∧ w'.cell? px = some (.int .u32 (k.num l old 4 : Nat))) ∨ (setB (k.num l old 4) all = false ∧ e = refusedP code)) := by
  have hs : k.num l old 4 < 4294967296 := k.num_lt (by omega)
  obtain ⟨hbw, hNb⟩ := Kind.lt hC
  have hpw := World.block_lt_of_cell? w px hp
  have hcv : plainV (k.v b) = true := by cases k <;> rfl
  have hk0 : Kept N (fun p => p.block = b) w (w.alloc (.cells (fieldsA (k.v b) x A cap u d code) 77)) := (Kept.refl _ _ _).alloc hN _
  have hbox := fun wx (h : Kept N (fun p => p.block = b) (w.alloc (.cells (fieldsA (k.v b) x A cap u d code) 77)) wx) => boxF (wx := wx) hcv (fun o => by show ¬ w.heap.size = b; omega) h
  have hpx := fun wx (h : Kept N (fun p => p.block = b) (w.alloc (.cells (fieldsA (k.v b) x A cap u d code) 77)) wx) => (hk0.trans h).cell px _ hp rfl hpb
  have hwo : IntKind.u64.wrap (old : Int) = (old : Int) := by rw [IntKind.wrap_u64]; omega
  have hws : IntKind.u32.wrap ((k.num l old 4 : Nat) : Int) = ((k.num l old 4 : Nat) : Int) := by rw [IntKind.wrap_u32]; omega
  have HB := Lib.hid hbox
  have HX := Lib.hid hpx
  have HK0 := Lib.hid hk0
  clear hbox hpx hk0
  go_enter Try.func76, Try.ntmps76
  go_wp2_with fail
  cases k
  · refine Chain.chain (fun p wx => Kept N (fun p => p.block = b) (w.alloc (.cells (fieldsA (Kind.v .wr b) x A cap u d code) 77)) wx ∧ Kind.At .wr N wx b (if p = 0 then l else Kind.next .wr l old 4)) (fun _ _ => False) [8] (by kernel_rfl) (by kernel_rfl) (fun _ _ _ _ h => h.elim) ⟨(Kept.refl _ _ _).drew, (hC.alloc _).drew⟩ ?_
    iterate 8
      (apply Chain.walk_quiet (by rfl) (by decide)
       (intro p wx _ _ hx K hK
        obtain ⟨c0, -⟩ := HB.out wx hx.1
        have cx := HX.out wx hx.1
        simp only [Kind.v] at c0
        go_simp
        go_at_K
        exact hK _ hx)
       exact ⟨_, rfl⟩)
    apply Chain.walk_turn 0 (by rfl) (by rfl)
    · intro wx hx K hK
      have hm := meth_wr b wx
      go_simp
      go_at_call 101
      refine (carry_wr N b old 4 l wx (by omega) (by have := hx.1.below.size; simp at this; omega) hR hx.2).mono ?_
      rintro e w1 ⟨rfl, hA1, hK1⟩
      exact hK w1 ⟨hx.1.trans hK1, hA1⟩
    · exact ⟨_, rfl⟩
    iterate 2
      (apply Chain.walk_quiet (by rfl) (by decide)
       (intro p wx _ _ hx K hK
        go_simp
        go_at_K
        exact hK _ hx)
       exact ⟨_, rfl⟩)
    refine Chain.walk_nil (fun w2 hx => ?_)
    obtain ⟨hk2, hA2⟩ := hx
    replace hA2 : Kind.At .wr N w2 b (Kind.next .wr l old 4) := hA2
    obtain ⟨c0, c1, c2, c3, c4, c5, c6, c7, c8, c9, c10, c11⟩ := HB.out w2 hk2
    have cx := HX.out w2 hk2
    have hsz := hk2.below.size
    simp only [World.size_alloc] at hsz
    have hwk := HK0.out.trans hk2
    have HN := Lib.hid hwk
    have HA2 := Lib.hid hA2
    have hu := u32_andNot _ all hs hall
    clear hk2 hwk hA2
    rcases Bool.eq_false_or_eq_true (setB (Kind.num .wr l old 4) all) with hb | hb
    · rw [hb] at hu
      have HBB := Lib.hid hb
      clear hb
      go_wp2_with fail
      refine (expect_yes (Kind.v .wr b) x A cap u d code _).mono ?_
      rintro e w3 ⟨rfl, hb3⟩
      have hk3 := HN.out.trans (Kept.of_below (N := N) hb3 (by omega) (fun p => p.block = b))
      have cx3 := (hb3.cell (World.block_lt_of_cell? w2 px cx)).trans cx
      have cf3 : w3.frozen? px = false := (hk3.froz px hpw).trans hpf
      have HA3 := Lib.hid (HA2.out.below hb3)
      have HK3 := Lib.hid (hk3.mono (S' := fun p => p.block = b ∨ p = px) (fun p hp => .inl hp))
      clear hk3 hb3 c0 c1 c2 c3 c4 c5 c6 c7 c8 c9 c10 c11 cx
      go_wp2_with fail
      go_end0
      refine ⟨HK3.out.setCell hpN (.inr rfl) _, .inl ⟨HBB.out, rfl, HA3.out.setCell cx3 rfl hpb _, World.cell?_setCell_same _ _ _ cx3⟩⟩
    · rw [hb] at hu
      have HBB := Lib.hid hb
      clear hb
      go_wp2_with fail
      refine (expect_no (Kind.v .wr b) x A cap u d code _).mono ?_
      rintro e w3 ⟨rfl, hb3⟩
      refine ⟨rfl, (HN.out.trans (Kept.of_below (N := N) hb3 (by omega) (fun p => p.block = b))).mono (fun p hp => .inl hp), .inr ⟨HBB.out, rfl⟩⟩
  · refine Chain.chain (fun p wx => Kept N (fun p => p.block = b) (w.alloc (.cells (fieldsA (Kind.v .rd b) x A cap u d code) 77)) wx ∧ Kind.At .rd N wx b (if p = 0 then l else Kind.next .rd l old 4)) (fun _ _ => False) [8] (by kernel_rfl) (by kernel_rfl) (fun _ _ _ _ h => h.elim) ⟨(Kept.refl _ _ _).drew, (hC.alloc _).drew⟩ ?_
    iterate 8
      (apply Chain.walk_quiet (by rfl) (by decide)
       (intro p wx _ _ hx K hK
        obtain ⟨c0, -⟩ := HB.out wx hx.1
        have cx := HX.out wx hx.1
        simp only [Kind.v] at c0
        go_simp
        go_at_K
        exact hK _ hx)
       exact ⟨_, rfl⟩)
    apply Chain.walk_turn 0 (by rfl) (by rfl)
    · intro wx hx K hK
      have hm := meth_rd b wx
      go_simp
      go_at_call 102
      refine (carry_rd N b old 4 l wx (by omega) hR hx.2).mono ?_
      rintro e w1 ⟨rfl, hA1, hK1⟩
      exact hK w1 ⟨hx.1.trans hK1, hA1⟩
    · exact ⟨_, rfl⟩
    iterate 2
      (apply Chain.walk_quiet (by rfl) (by decide)
       (intro p wx _ _ hx K hK
        go_simp
        go_at_K
        exact hK _ hx)
       exact ⟨_, rfl⟩)
    refine Chain.walk_nil (fun w2 hx => ?_)
    obtain ⟨hk2, hA2⟩ := hx
    replace hA2 : Kind.At .rd N w2 b (Kind.next .rd l old 4) := hA2
    obtain ⟨c0, c1, c2, c3, c4, c5, c6, c7, c8, c9, c10, c11⟩ := HB.out w2 hk2
    have cx := HX.out w2 hk2
    have hsz := hk2.below.size
    simp only [World.size_alloc] at hsz
    have hwk := HK0.out.trans hk2
    have HN := Lib.hid hwk
    have HA2 := Lib.hid hA2
    have hu := u32_andNot _ all hs hall
    clear hk2 hwk hA2
    rcases Bool.eq_false_or_eq_true (setB (Kind.num .rd l old 4) all) with hb | hb
    · rw [hb] at hu
      have HBB := Lib.hid hb
      clear hb
      go_wp2_with fail
      refine (expect_yes (Kind.v .rd b) x A cap u d code _).mono ?_
      rintro e w3 ⟨rfl, hb3⟩
      have hk3 := HN.out.trans (Kept.of_below (N := N) hb3 (by omega) (fun p => p.block = b))
      have cx3 := (hb3.cell (World.block_lt_of_cell? w2 px cx)).trans cx
      have cf3 : w3.frozen? px = false := (hk3.froz px hpw).trans hpf
      have HA3 := Lib.hid (HA2.out.below hb3)
      have HK3 := Lib.hid (hk3.mono (S' := fun p => p.block = b ∨ p = px) (fun p hp => .inl hp))
      clear hk3 hb3 c0 c1 c2 c3 c4 c5 c6 c7 c8 c9 c10 c11 cx
      go_wp2_with fail
      go_end0
      refine ⟨HK3.out.setCell hpN (.inr rfl) _, .inl ⟨HBB.out, rfl, HA3.out.setCell cx3 rfl hpb _, World.cell?_setCell_same _ _ _ cx3⟩⟩
    · rw [hb] at hu
      have HBB := Lib.hid hb
      clear hb
      go_wp2_with fail
      refine (expect_no (Kind.v .rd b) x A cap u d code _).mono ?_
      rintro e w3 ⟨rfl, hb3⟩
      refine ⟨rfl, (HN.out.trans (Kept.of_below (N := N) hb3 (by omega) (fun p => p.block = b))).mono (fun p hp => .inl hp), .inr ⟨HBB.out, rfl⟩⟩
end
end Go.Proofs.Ythbfpdkgbkpmiaa
