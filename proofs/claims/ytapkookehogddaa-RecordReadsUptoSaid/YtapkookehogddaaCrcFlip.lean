/- overlaylaw02.flipped: some of 16 neighbouring bits are changed. No statement of the seat is proved here. -/
import Derived.Test.YtapkookehogddaaCrcSeal
namespace Go.Proofs.Ytapkookehogddaa
open Go.RowKit

/-- Bytes lie in a block. -/
def BytesAt (W : World) (g : Nat) (l : List UInt8) : Prop :=
  ∀ j, j < l.length → W.cell? ⟨g, j, none⟩ = some (.int .u8 (((l.getD j 0).toNat : Nat) : Int)) ∧ W.frozen? ⟨g, j, none⟩ = false

/-- What a loop over new bytes keeps. -/
def FlipRel (w : World) (g : Nat) (l : List UInt8) (W : World) : Prop := BytesAt W g l ∧ Below w.heap.size w W ∧ g < W.heap.size

theorem flipRel_new (w : World) (s : ByteArray) (e : TypeId) (c : Nat) (fr : Nat) (hfr : s.size ≤ fr) :
    FlipRel w w.heap.size (bl s) (w.drew.alloc (.cells (bytesRow s c) e (fr, fr + 1))) := by
  refine ⟨fun j hj => ?_, (Below.refl _ _).drew.alloc (Nat.le_refl _) _, by simp⟩
  have hj' : j < s.data.size := by rw [bl_len] at hj; exact hj
  refine ⟨?_, ?_⟩
  · have := World.cell?_alloc_mark w.drew (bytesRow s c) e (fr, fr + 1) j
    rw [show w.drew.heap.size = w.heap.size from rfl] at this
    rw [this, bytesRow_at s c j hj']
    simp [bl, List.getD, Array.getElem?_eq_getElem hj']
  · have := World.frozen?_alloc_mark w.drew (bytesRow s c) e fr (fr + 1) j
    rw [show w.drew.heap.size = w.heap.size from rfl] at this
    have hlt : j < s.size := hj'
    rw [this]
    simp; omega

theorem addr_add (g j : Nat) : (⟨g, 0, none⟩ : Addr).add j = ⟨g, j, none⟩ := by unfold Addr.add; split <;> simp_all
theorem flipRel_set {w W : World} {l : List UInt8} {j : Nat} (h : FlipRel w w.heap.size l W) (hj : j < l.length) (v : UInt8) :
    FlipRel w w.heap.size (l.set j v) (W.setCell ⟨w.heap.size, j, none⟩ (.int .u8 ((v.toNat : Nat) : Int))) := by
  refine ⟨fun i hi => ?_, h.2.1.setCell (Nat.le_refl _) _, by simpa using h.2.2⟩
  rw [List.length_set] at hi
  rw [World.frozen?_setCell]
  refine ⟨?_, (h.1 i hi).2⟩
  by_cases hij : j = i
  · subst hij
    rw [World.cell?_setCell_same W _ _ (h.1 j hj).1]
    simp [List.getD, hj]
  · rw [World.cell?_setCell_other W _ _ _ (by intro he; injection he; omega), (h.1 i hi).1]
    simp [List.getD, List.getElem?_set_ne hij]
theorem bytes_back {P : Program} {W : World} {g : Nat} {l : List UInt8} (h : BytesAt W g l) (src dst e : TypeId) (n cap : Nat) (hn : n = l.length)
    (hs : P.underlying src = some (.slice e)) (he : P.underlying e = some (.int .u8)) (hd : P.underlying dst = some .string) :
    (convert src dst (.slice (some ⟨g, 0, none⟩) n cap)).run P W = .ok (.string ⟨l.toArray⟩) W := by
  subst hn
  refine run_convert_bytes_back _ _ _ e _ cap l hs he hd fun j hj => ?_
  rw [addr_add, (h j hj).1]
  simp [List.getD, hj]

theorem mask_bit (mask k : Nat) (hm : mask < 65536) : bits .and .i64 ((mask : Int) / 2 ^ k) 1 = if mask.testBit k then 1 else 0 := by
  have e : ((mask : Int) / 2 ^ k) = ((mask / 2 ^ k : Nat) : Int) := by simp
  have hle : mask / 2 ^ k ≤ mask := Nat.div_le_self _ _
  rw [e]
  generalize hq : mask / 2 ^ k = q at *
  have h1 := bits_mask .i64 63 (by decide) (fun n h0 h1 => by rw [IntKind.wrap_i64]; omega) 1 (by decide) (q : Int) (by omega) (by omega)
  have h2 : bits .and .i64 (q : Int) 1 = (q : Int) % 2 := h1
  rw [h2, Nat.testBit_eq_decide_div_mod_eq, hq]
  by_cases h : q % 2 = 1
  · simp [h]; omega
  · simp [h]; omega
theorem mask_bit_yes (mask k : Nat) (hm : mask < 65536) (h : mask.testBit k = true) : bits .and .i64 ((mask : Int) / 2 ^ k) 1 = 1 := by rw [mask_bit mask k hm, if_pos h]
theorem mask_bit_no (mask k : Nat) (hm : mask < 65536) (h : ¬ mask.testBit k = true) : bits .and .i64 ((mask : Int) / 2 ^ k) 1 = 0 := by rw [mask_bit mask k hm, if_neg h]
theorem flip_byte (c : UInt8) (p : Nat) : bits .xor .u8 (c.toNat : Int) (2 ^ (7 - p % 8) % 256) = (((c ^^^ UInt8.ofNat (2 ^ (7 - p % 8))).toNat : Nat) : Int) := by
  have hb := Crc.bit_byte p
  have hlt : (UInt8.ofNat (2 ^ (7 - p % 8))).toNat < 256 := UInt8.toNat_lt _
  have e : ((2 : Int) ^ (7 - p % 8) % 256) = ((2 ^ (7 - p % 8) : Nat) : Int) := by
    rw [hb] at hlt
    have : ((2 : Int) ^ (7 - p % 8)) = ((2 ^ (7 - p % 8) : Nat) : Int) := by simp
    rw [this]; omega
  rw [e, UInt8.toNat_xor, hb]
  exact u8_xor_nat _ _ c.toNat_lt (hb ▸ hlt)

end Go.Proofs.Ytapkookehogddaa
