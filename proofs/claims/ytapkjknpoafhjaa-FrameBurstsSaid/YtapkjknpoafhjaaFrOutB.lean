/- What the texts behind this one rest on: several texts in one. No statement of the seat is proved here. -/
import Derived.Test.YtapkjknpoafhjaaFrOutA
import Derived.Test.YtapkjknpoafhjaaReadLayout
import Derived.Test.YtapkjknpoafhjaaWrite
import Derived.Test.YtapkjknpoafhjaaIn
import Derived.Test.YtapkjknpoafhjaaRead
import Derived.Test.YtapkjknpoafhjaaReadIn
import Derived.Test.YtapkjknpoafhjaaWriteBack
namespace Go.Proofs.Ytapkjknpoafhjaa
section
open Go.RowKit Frm

/-- No outputs yet, for some cars. -/
def noOh : OutH := ⟨0, 0, 0, 0, false, false, 0⟩
def noOu (C : Nat) : Ou := ⟨noOh, List.replicate C default⟩
/-- What a carrier makes of outputs. -/
def Kind.ouR (k : Kind) (l : List UInt8) (y : Ou) : Ou := ⟨k.ohR l y.h, (List.range y.cars.length).map fun i => k.coAt (k.ohN l y.h) y.cars i⟩

theorem make_cos (n : Nat) (hn : n ≤ 1000) : ∃ C : Array Value, (∀ i, i < n → ∀ j v, (coV default)[j]? = some v → C[i * 9 + j]? = some v) ∧ ∀ w : World, (Instr.makeSlice 44 (.int .i64 n) (.int .i64 n)).run Try.prog w = .ok (.slice (some ⟨w.heap.size, 0, none⟩) n n) (w.alloc (.cells C 93)) := by
  obtain ⟨i0, hi0, hz0, hz1, hz2⟩ := info_parts carOutInfo
  refine ⟨madeCells (Value.agg (coV ⟨0, 0, false, 0, 0, false, 0, 0, false⟩).toArray).cells (n * 9), fun i hi j v hj => ?_, fun w => ?_⟩
  · have hj11 : j < 9 := (List.getElem?_eq_some_iff.1 hj).1
    have hsz : (madeCells (Value.agg (coV ⟨0, 0, false, 0, 0, false, 0, 0, false⟩).toArray).cells (n * 9)).size = n * 9 := size_madeCells _ _
    have hlt : i * 9 + j < n * 9 := by omega
    rw [Array.getElem?_eq_getElem (by rw [hsz]; exact hlt)]
    have hmod : (i * 9 + j) % 9 = j := by omega
    have hs : (Value.agg (coV ⟨0, 0, false, 0, 0, false, 0, 0, false⟩).toArray).cells.size = 9 := rfl
    simp only [madeCells, Array.getElem_map, Array.getElem_range, hs, hmod]
    match j, hj with
    | 0, hj => exact hj
    | 1, hj => exact hj
    | 2, hj => exact hj
    | 3, hj => exact hj
    | 4, hj => exact hj
    | 5, hj => exact hj
    | 6, hj => exact hj
    | 7, hj => exact hj
    | 8, hj => exact hj
    | j + 9, hj => omega
  · have := run_make (P := Try.prog) w 44 93 i0 _ Try.underlying44 hi0 hz0 .i64 .i64 n n (by omega) (Int.le_refl _) (by rw [hz2]; omega) (by omega)
    rw [this, Int.toNat_natCast, hz1]

set_option maxRecDepth 100000 in
set_option maxHeartbeats 2000000 in
theorem rdOutLayout_any (N b bx bb : Nat) (l : List UInt8) (x : BldD) (A : Option Addr) (cap u d : Nat) (code : Int) (w : World) (hu : u < 4294967296) (hd : d < 4294967296) (hx : 1 ≤ x.cars.length ∧ x.cars.length ≤ 1000) (hN : N ≤ w.heap.size)
    (hC : Kind.At .rd N w b l) (hR : 19 + 19 * x.cars.length ≤ l.length ∧ l.length ≤ 100000) (hp : CellsAt w bx 0 (ohV noOh none 0 0)) (hf : ∀ j, j < 8 → w.frozen? ⟨bx, j, none⟩ = false) (hpb : bx ≠ b) (hpN : N ≤ bx)
    (hbb : w.cell? ⟨bb, 7, none⟩ = some (.slice A x.cars.length cap)) :
    Calls Try.prog 42 #[.agg (fieldsA (Kind.v .rd b) x A cap u d code), .pointer (some ⟨bb, 0, none⟩), .pointer (some ⟨bx, 0, none⟩)] w fun e w' => Kept N (fun p => p.block = b ∨ p.block = bx) w w' ∧
      ((Kind.ouOk .rd l (noOu x.cars.length) u d x.cars.length ∧ e = .returned (.tuple #[]) ∧ ∃ g, w.heap.size < g ∧ g < w'.heap.size ∧
          CellsAt w' bx 0 (ohV (Kind.ouR .rd l (noOu x.cars.length)).h (some ⟨g, 0, none⟩) x.cars.length x.cars.length) ∧
          ∀ i, i < x.cars.length → CellsAt w' g (i * 9) (coV ((Kind.ouR .rd l (noOu x.cars.length)).cars.getD i default))) ∨ (¬ Kind.ouOk .rd l (noOu x.cars.length) u d x.cars.length ∧ e = refusedP code)) := by
  obtain ⟨hbw, hNb⟩ := Kind.lt hC
  have hpw : bx < w.heap.size := World.block_lt_of_cell? w _ (hp 0 _ rfl)
  have hbbw : bb < w.heap.size := World.block_lt_of_cell? w _ hbb
  have c4 := hp 7 _ rfl
  simp only [Nat.zero_add] at c4
  have f4 := hf 7 (by omega)
  obtain ⟨C, hCC, hmk⟩ := make_cos x.cars.length hx.2
  have HCC := Lib.hid hCC
  have HP := Lib.hid hp
  have HF := Lib.hid hf
  clear hp hf hCC
  have c4' : ∀ o o', ((w.alloc o).alloc o').cell? ⟨bx, 7, none⟩ = some (.slice none 0 0) := fun o o' => (World.cell?_of_block (w := w) (((Below.heap_alloc _ o' bx (by simp; omega))).trans (Below.heap_alloc w o bx hpw))).trans c4
  have hne : ¬ w.heap.size = bx := by omega
  have hne' : ¬ bx = w.heap.size := by omega
  unfold fieldsA
  go_enter Try.func42, Try.ntmps42
  go_wp2_with fail
  obtain ⟨W0, hW0⟩ : ∃ W0, W0 = w.setCell ⟨bx, 7, none⟩ (.slice (some ⟨w.heap.size + 1, 0, none⟩) x.cars.length x.cars.length) := ⟨_, rfl⟩
  rw [← hW0]
  have hs0 : W0.heap.size = w.heap.size := by rw [hW0]; simp [World.setCell]
  have hA0 : Kind.At .rd N W0 b l := by rw [hW0]; exact hC.setCell c4 rfl hpb _
  have k0 : Kept N (fun p => p.block = b ∨ p.block = bx) w W0 := by rw [hW0]; exact (Kept.refl _ _ _).setCell hpN (.inr rfl) _
  have h4 : W0.cell? ⟨bx, 7, none⟩ = some (.slice (some ⟨w.heap.size + 1, 0, none⟩) x.cars.length x.cars.length) := by rw [hW0]; exact World.cell?_setCell_same _ _ _ c4
  have hh : CellsAt W0 bx 0 (ohV noOh (some ⟨w.heap.size + 1, 0, none⟩) x.cars.length x.cars.length) := by
    intro j v hj
    by_cases h4j : j = 7
    · subst h4j; cases hj; exact h4
    · rw [hW0, World.cell?_setCell_other _ _ _ _ (by intro he; injection he with _ he; omega)]
      refine HP.out j v ?_
      match j, hj with
      | 0, hj => exact hj
      | 1, hj => exact hj
      | 2, hj => exact hj
      | 3, hj => exact hj
      | 4, hj => exact hj
      | 5, hj => exact hj
      | 6, hj => exact hj
      | 7, hj => exact absurd rfl h4j
      | j + 8, hj => cases hj
  have hfz : ∀ j, j < 8 → W0.frozen? ⟨bx, j, none⟩ = false := fun j hj => by rw [hW0, World.frozen?_setCell]; exact HF.out j hj
  obtain ⟨o1, ho1⟩ : ∃ o1, o1 = Obj.cells #[Kind.v .rd b, .int .i64 x.floors, .int .i64 x.debounce, .int .i64 x.room, .int .i64 x.park, .float .f64 x.empty, .float .f64 x.full, .float .f64 x.over, .slice A x.cars.length cap, .int .u32 u, .int .u32 d, .int .i64 code] 77 := ⟨_, rfl⟩
  rw [← ho1]
  have hb1 : Below W0.heap.size W0 ((W0.alloc o1).alloc (.cells C 93)) := ((Below.refl _ _).alloc (Nat.le_refl _) _).alloc (by simp) _
  have hs2 : ((W0.alloc o1).alloc (.cells C 93)).heap.size = w.heap.size + 2 := by simp [hs0]
  have hgn : ((W0.alloc o1).alloc (.cells C 93)).heap[w.heap.size + 1]? = some (.cells C 93 (0, 0)) := by
    have := heap_alloc_new (W0.alloc o1) (.cells C 93)
    have e : (W0.alloc o1).heap.size = w.heap.size + 1 := by simp [hs0]
    rw [e] at this; exact this
  have hlen : (noOu x.cars.length).cars.length = x.cars.length := by simp [noOu]
  have hzc : ∀ i (h : i < (noOu x.cars.length).cars.length), (noOu x.cars.length).cars[i] = default := fun i h => by simp [noOu]
  have k2 : Kept N (fun p => p.block = b ∨ p.block = bx) w ((W0.alloc o1).alloc (.cells C 93)) := k0.trans (Kept.of_below hb1 (by omega) _)
  have hA2 := hA0.below hb1
  have hh2 := hh.below hb1
  have hf2 : ∀ j, j < 8 → ((W0.alloc o1).alloc (.cells C 93)).frozen? ⟨bx, j, none⟩ = false := fun j hj => (hb1.frozen (p := ⟨bx, j, none⟩) (by show bx < W0.heap.size; omega)).trans (hfz j hj)
  rw [ho1] at *
  clear ho1 hb1 hW0 k0 hA0 hh hfz h4 c4 c4' f4 hmk
  have h0 := outputs_any .rd N b bx (w.heap.size + 1) x.cars.length noOh (noOu x.cars.length).cars l x A cap u d code _ hu hd hlen (by rw [hlen]; exact hx.2) ⟨⟨by decide, by decide⟩, ⟨by decide, by decide⟩, by decide, by decide⟩ (fun c hc => by
      simp only [noOu, List.mem_replicate] at hc
      rw [hc.2]
      exact ⟨⟨by decide, by decide⟩, ⟨by decide, by decide⟩, ⟨by decide, by decide⟩, by decide, by decide⟩) (by rw [hs2]; omega) hA2 (by rw [hlen]; exact ⟨hR.1, by omega⟩) (by rw [hlen]; exact hh2) (fun j hj => hf2 j (by omega)) hpb hpN (fun i h => by
      rw [hzc i h]
      intro j v hj
      rw [cell_of_row _ _ _ _ _ (0, 0) hgn]
      exact HCC.out i (by rw [hlen] at h; exact h) j v hj) (fun j => by simp [World.frozen?, hgn]) (by omega) (by omega) (by omega) (by rw [hs2]; omega)
  refine h0.mono ?_
  rintro e w3 ⟨hk3, ⟨ok, rfl, hA3, hh3, hc3⟩ | ⟨ok, rfl⟩⟩
  · have hkk : Kept N (fun p => p.block = b ∨ p.block = bx) w w3 := k2.past hk3 (fun p hp hs => hs.elim .inl (fun h => h.elim (fun h => .inr h.1) (fun h => absurd h (by omega))))
    rw [hlen] at hh3
    have HKK := Lib.hid hkk
    have HOK := Lib.hid ok
    have HH3 := Lib.hid hh3
    have HC3 := Lib.hid hc3
    have HS3 := Lib.hid hk3.below.size
    have HS2 := Lib.hid hs2
    have HLEN := Lib.hid hlen
    clear hk3 ok hA3 hkk hh3 hc3 hA2 hh2 hf2 k2 hgn h0 hs2 hlen hzc
    go_wp2_with fail
    go_end0
    refine ⟨HKK.out, .inl ⟨⟨HLEN.out, HOK.out⟩, rfl, w.heap.size + 1, by omega, by have := HS3.out; have h2 := HS2.out; omega, HH3.out, fun i h => ?_⟩⟩
    have := HC3.out i (by have e := HLEN.out; omega)
    simp only [Kind.ouR]
    rw [List.getD_eq_getElem?_getD, List.getElem?_map, List.getElem?_range (by have e := HLEN.out; omega)]
    exact this
  · exact ⟨rfl, k2.past hk3 (fun p hp hs => hs.elim .inl (fun h => h.elim (fun h => .inr h.1) (fun h => absurd h (by omega)))), .inr ⟨fun hh => ok hh.2, rfl⟩⟩
end

section
open Go.RowKit Frm

theorem coN_length (l : List UInt8) (c : CarOut) : (Kind.coN .wr l c).length = l.length + 19 := by
  simp only [Kind.coN, Kind.coL4, Kind.coL3, Kind.coL2, Kind.coL1, Kind.next, List.length_append, numL_length]
theorem cosN_length : ∀ (cs : List CarOut) (l : List UInt8), (Kind.cosN .wr l cs).length = l.length + 19 * cs.length
  | [], l => by simp [Kind.cosN]
  | c :: cs, l => by rw [Kind.cosN, cosN_length cs, coN_length, List.length_cons]; omega
theorem ouN_length (l : List UInt8) (y : Ou) : (Kind.ouN .wr l y).length = l.length + 19 + 19 * y.cars.length := by
  simp only [Kind.ouN, cosN_length, Kind.ohN, Kind.ohL3, Kind.ohL2, Kind.ohL1, Kind.next, List.length_append, numL_length]

/-- The inputs that In accepts. -/
def ouOk (x : BldD) (y : Ou) : Prop := validE x = 0 ∧ Kind.ouOk .wr (headL 90 x.cars.length) y (hallUp x) (hallDown x) x.cars.length
def ouText (x : BldD) (y : Ou) : List UInt8 := sealL (Kind.ouN .wr (headL 90 x.cars.length) y)

theorem enterOut (args : Array Value) (w : World) : (callFunc 38 args).run Try.prog w = .ok (.enter 38 args) w := by kernel_rfl

set_option maxRecDepth 100000 in
set_option maxHeartbeats 4000000 in
theorem writeOut_any (N bx cp : Nat) (A' : Option Addr) (y : Ou) (x : BldD) (A : Option Addr) (cap : Nat) (w : World) (hxn : x.cars.length ≤ 140737488355328) (hc : CarsAt w w.heap.size A x.cars) (hn : y.cars.length ≤ 1000) (hy : saneOu y) (hN : N ≤ w.heap.size)
    (hp : CellsAt w bx 0 (ohV y.h A' y.cars.length cp)) (hf : ∀ j, j < 8 → w.frozen? ⟨bx, j, none⟩ = false) (hpN : N ≤ bx) (hv : CosV w A' y.cars) :
    Calls Try.prog 27 #[x.agg A cap, .int .u8 90, .func (.func 38) #[] #[.pointer (some ⟨bx, 0, none⟩)]] w fun e w' => Below N w w' ∧
      ((ouOk x y ∧ e = .returned (.tuple #[.string ⟨(ouText x y).toArray⟩, .int .i64 0])) ∨ (¬ ouOk x y ∧ e = .returned (.tuple #[.string ⟨#[]⟩, .int .i64 1]))) := by
  have hpw : bx < w.heap.size := World.block_lt_of_cell? w _ (hp 0 _ rfl)
  have HC := Lib.hid hc
  have HP := Lib.hid hp
  have HF := Lib.hid hf
  have HV := Lib.hid hv
  have HVA := Lib.hid (fun wx (h : Below w.heap.size w wx) => valid_any x A cap wx hxn ((HC.out.below h).more h.size))
  have HHD := Lib.hid (fun wx (hx : x.cars.length < 256) => head_any x A cap 90 wx (by omega) hx)
  have HFO := Lib.hid (fun b wx (h : Below w.heap.size w wx) => fieldsOf_any 107 (.pointer (some ⟨b, 0, none⟩)) x A cap 1 wx hxn ((HC.out.below h).more h.size))
  clear hc hp hf hv
  by_cases hva : validE x = 0
  · have hF := fine_of hva
    have HFI := Lib.hid hF
    have hC1 : 1 ≤ x.cars.length ∧ x.cars.length ≤ 8 := hF.cars
    have HU := Lib.hid (hallUp_lt x)
    have HD := Lib.hid (hallDown_lt x)
    have HOKD : Hid (ouOk x y ↔ Kind.ouOk .wr (headL 90 x.cars.length) y (hallUp x) (hallDown x) x.cars.length) := ⟨fun h => h.2, fun h => ⟨hva, h⟩⟩
    rw [hva] at HVA
    clear hva hF
    generalize hallUp x = U at *
    generalize hallDown x = D at *
    have HTX : Hid (ouText x y = sealL (Kind.ouN .wr (headL 90 x.cars.length) y)) := rfl
    generalize ouText x y = T at *
    generalize ouOk x y = OK at *
    have hl2 : (headL 90 x.cars.length).length = 2 := rfl
    generalize headL 90 x.cars.length = L at *
    obtain ⟨f, d, r, p, e1, e2, e3, cs⟩ := x
    simp only [BldD.agg] at *
    go_enter Try.func27, Try.ntmps27
    go_wp2_with fail
    refine (HVA.out _ (by go_grown)).mono ?_
    rintro e w1 ⟨rfl, hb1⟩
    have hx1 : Below (w.heap.size + 1) (w.alloc (.cells #[.int .i64 f, .int .i64 d, .int .i64 r, .int .i64 p, .float .f64 e1, .float .f64 e2, .float .f64 e3, .slice A cs.length cap] 25)) w1 := hb1.mono (by simp)
    obtain ⟨-, g0, g1, g2, g3, g4, g5, g6, g7⟩ := boxS hx1
    go_wp2_with fail
    refine (HHD.out _ (by omega)).mono ?_
    rintro e w2 ⟨rfl, hb2⟩
    have hs1 := box_size hx1
    have hx2 := hx1.trans (hb2.mono hs1)
    have hs2 := box_size hx2
    clear g0 g1 g2 g3 g4 g5 g6 g7 hb1 hb2
    obtain ⟨-, g0, g1, g2, g3, g4, g5, g6, g7⟩ := boxS hx2
    obtain ⟨gc, hconv, htext⟩ := text_new w2 ⟨L.toArray⟩ (by show L.toArray.size ≤ _; rw [List.size_toArray]; omega)
    have hts : (⟨L.toArray⟩ : ByteArray).size = 2 := by show L.toArray.size = 2; rw [List.size_toArray]; exact hl2
    rw [hts] at hconv
    have hpast : ∀ o o' j, ((w2.alloc o).alloc o').cell? ⟨w.heap.size, j, none⟩ = w2.cell? ⟨w.heap.size, j, none⟩ := fun o o' j => World.cell?_of_block (w := w2) ((Below.heap_alloc (w2.alloc o) o' w.heap.size (by simp; omega)).trans (Below.heap_alloc w2 o w.heap.size (by omega)))
    have p0 := fun o o' => (hpast o o' 0).trans g0
    have p1 := fun o o' => (hpast o o' 1).trans g1
    have p2 := fun o o' => (hpast o o' 2).trans g2
    have p3 := fun o o' => (hpast o o' 3).trans g3
    have p4 := fun o o' => (hpast o o' 4).trans g4
    have p5 := fun o o' => (hpast o o' 5).trans g5
    have p6 := fun o o' => (hpast o o' 6).trans g6
    have p7 := fun o o' => (hpast o o' 7).trans g7
    obtain ⟨o1, ho1⟩ : ∃ o1, o1 = Obj.cells (bytesRow ⟨L.toArray⟩ gc) 5 ((bytesRow ⟨L.toArray⟩ gc).size, (bytesRow ⟨L.toArray⟩ gc).size + 1) := ⟨_, rfl⟩
    rw [← ho1] at hconv htext
    have HX2 := Lib.hid hx2
    have HTT := Lib.hid htext
    clear hpast htext hx1 hx2 ho1
    go_wp2_with fail
    obtain ⟨W4, hW4⟩ : ∃ W4, W4 = ((w2.alloc o1).alloc (.cells #[.slice (some ⟨w2.heap.size, 0, none⟩) 2 gc] 110)).drew := ⟨_, rfl⟩
    rw [← hW4]
    have hb24 : Below w2.heap.size w2 W4 := by rw [hW4]; exact (((Below.refl _ _).alloc (Nat.le_refl _) _).alloc (by simp) _).drew
    have hbw4 : Below w.heap.size w W4 := (below_of_new HX2.out).trans (hb24.mono (by omega))
    have hs4 : W4.heap.size = w2.heap.size + 2 := by rw [hW4]; simp [World.drew]
    have hg4 : W4.heap[w2.heap.size + 1]? = some (.cells #[.slice (some ⟨w2.heap.size, 0, none⟩) 2 gc] 110 (0, 0)) := by
      rw [hW4]
      have := heap_alloc_new (w2.alloc o1) (.cells #[.slice (some ⟨w2.heap.size, 0, none⟩) 2 gc] 110)
      have e : (w2.alloc o1).heap.size = w2.heap.size + 1 := by simp
      rw [e] at this; exact this
    have hT4 : TextAt W4 w2.heap.size gc L := by
      have h1 : TextAt (w2.drew.alloc o1) w2.heap.size gc L := HTT.out
      refine h1.of_block ?_
      rw [hW4]
      exact Below.heap_alloc (w2.alloc o1) _ w2.heap.size (by simp)
    have hA4 : Kind.At .wr N W4 (w2.heap.size + 1) L := ⟨by omega, by simp [World.frozen?, hg4], w2.heap.size, gc, by omega, by rw [cell_of_row _ _ _ _ _ (0, 0) hg4, hl2]; rfl, hT4⟩
    have hA4' := Lib.hid hA4
    have HBW4 := Lib.hid hbw4
    clear hW4 hb24 hbw4 hg4 hT4 hA4 hconv
    clear g0 g1 g2 g3 g4 g5 g6 g7 p0 p1 p2 p3 p4 p5 p6 p7
    refine (HFO.out (w2.heap.size + 1) W4 HBW4.out).mono ?_
    rintro e w5 ⟨rfl, hb5⟩
    have hbw5 := HBW4.out.trans (hb5.mono HBW4.out.size)
    have hA5 := Lib.hid (hA4'.out.below hb5)
    have HBW5 := Lib.hid hbw5
    have hs5 : W4.heap.size ≤ w5.heap.size := hb5.size
    clear hb5 hbw5
    go_wp2_with fail
    refine (run_any 38 #[] #[.pointer (some ⟨bx, 0, none⟩)] (fun w1 => Kind.ouOk .wr L y U D cs.length ∧ Kind.At .wr N w1 (w2.heap.size + 1) (Kind.ouN .wr L y) ∧ Below N w w1) (fun w1 => ¬ Kind.ouOk .wr L y U D cs.length ∧ Below N w w1) _ ⟨f, d, r, p, e1, e2, e3, cs⟩ A cap U D 1 w5 enterOut (fun wx hbx hsx hcx hfx => ?_)).mono ?_
    · have hwx := HBW5.out.trans (hbx.mono HBW5.out.size)
      refine (outLayout_any N (w2.heap.size + 1) bx cp A' y L ⟨f, d, r, p, e1, e2, e3, cs⟩ A cap U D 1 wx HU.out HD.out ⟨hC1.1, by show cs.length ≤ 1000; omega⟩ hn hy (by omega) (hA5.out.below hbx) (by omega) (HP.out.below hwx) (fun j hj => (hwx.frozen (p := ⟨bx, j, none⟩) hpw).trans (HF.out j hj)) (by omega) hpN (HV.out.below hwx)).mono ?_
      rintro e w6 ⟨hk6, hr6⟩
      refine ⟨hk6.cell _ _ hcx rfl (fun hh => hh.elim (fun h => by have : w5.heap.size + 1 = w2.heap.size + 1 := h; omega) (fun h => by have : w5.heap.size + 1 = bx := h; have := HBW5.out.size; omega)), (hk6.froz _ (by show w5.heap.size + 1 < wx.heap.size; omega)).trans hfx, ?_⟩
      have hb6 : Below N w w6 := (hwx.mono hN).trans hk6.below
      rcases hr6 with ⟨ok, rfl, hA6⟩ | ⟨ok, rfl⟩
      · exact .inl ⟨rfl, ok, hA6, hb6⟩
      · exact .inr ⟨rfl, ok, hb6⟩
    rintro e w7 ⟨w6, hc6, hg6, ⟨rfl, ok, hA6, hb6⟩ | ⟨rfl, ok, hb6⟩⟩
    · have hA7 := hA6.grown hg6 hc6 rfl (by omega)
      obtain ⟨hq1, hq2, g, gcap, hq3, hq4, hq5⟩ := hA7
      have hb7 : Below N w w7 := hb6.grown hg6 (by have := hb6.size; omega) (fun k hk => by simp at hk; have := HBW5.out.size; omega)
      have HB7 := Lib.hid hb7
      have HOK := Lib.hid (HOKD.out.2 ok)
      have hback := text_back hq5
      have hNl : (Kind.ouN .wr L y).length ≤ 900000 := by rw [ouN_length]; omega
      generalize Kind.ouN .wr L y = M at *
      clear hA6 hb6 hb7 ok hc6 hg6 hq5
      go_wp2_with fail
      refine (seal_any ⟨M.toArray⟩ _ (by show M.toArray.size ≤ _; rw [List.size_toArray]; omega)).mono ?_
      rintro e w8 ⟨rfl, hb8⟩
      go_wp2_with fail
      go_ret2
      exact ⟨HB7.out.trans (hb8.mono (by have := HB7.out.size; omega)), .inl ⟨HOK.out, by rw [HTX.out]; rfl⟩⟩
    · have hb7 : Below N w w7 := hb6.grown hg6 (by have := hb6.size; omega) (fun k hk => by simp at hk; have := HBW5.out.size; omega)
      have HB7 := Lib.hid hb7
      have HOK : Hid (¬ OK) := fun h => ok (HOKD.out.1 h)
      clear hb6 hb7 ok hc6 hg6
      go_wp2_with fail
      go_ret2
      exact ⟨HB7.out, .inr ⟨HOK.out, rfl⟩⟩
  · have HNV : Hid (¬ ouOk x y) := fun h => hva h.1
    have hne : (validE x != 0) = true := bne_iff_ne.2 hva
    generalize validE x = V at *
    clear hva
    obtain ⟨f, d, r, p, e1, e2, e3, cs⟩ := x
    simp only [BldD.agg] at *
    go_enter Try.func27, Try.ntmps27
    go_wp2_with fail
    refine (HVA.out _ (by go_grown)).mono ?_
    rintro e w1 ⟨rfl, hb1⟩
    go_wp2_with fail
    go_ret2
    exact ⟨(((Below.refl w.heap.size w).alloc (Nat.le_refl _) _).trans (hb1.mono (by simp))).mono hN, .inr ⟨HNV.out, rfl⟩⟩
end

section
open Go.RowKit Frm

/-- Outputs as a value: their cars lie at A. -/
def ouAgg (y : Ou) (A : Option Addr) (cp : Nat) : Value := .agg #[.int .u32 y.h.au, .int .u32 y.h.ad, .int .u32 y.h.su, .int .u32 y.h.sd, .bool y.h.bad, .bool y.h.full, .int .i64 y.h.st, .slice A y.cars.length cp]

set_option maxRecDepth 100000 in
set_option maxHeartbeats 1000000 in
theorem out_any (x : BldD) (A : Option Addr) (cap : Nat) (y : Ou) (A' : Option Addr) (cp : Nat) (w : World) (hxn : x.cars.length ≤ 140737488355328) (hc : CarsAt w w.heap.size A x.cars) (hn : y.cars.length ≤ 1000) (hy : saneOu y) (hv : CosV w A' y.cars) :
    Calls Try.prog 16 #[x.agg A cap, ouAgg y A' cp] w fun e w' => Below w.heap.size w w' ∧
      ((ouOk x y ∧ e = .returned (.tuple #[.string ⟨(ouText x y).toArray⟩, .int .i64 0])) ∨ (¬ ouOk x y ∧ e = .returned (.tuple #[.string ⟨#[]⟩, .int .i64 1]))) := by
  have hmf : ∀ (fn : Fn) (first cap : Array Value) (w : World), (Instr.makeFunc fn first cap).run Try.prog w = .ok (.func fn first cap) w := fun _ _ _ _ => rfl
  have HW := Lib.hid (fun bx wx (hb : Below w.heap.size w wx) (hp : CellsAt wx bx 0 (ohV y.h A' y.cars.length cp)) (hf : ∀ j, j < 8 → wx.frozen? ⟨bx, j, none⟩ = false) (hpN : w.heap.size ≤ bx) =>
    writeOut_any w.heap.size bx cp A' y x A cap wx hxn ((hc.below hb).more hb.size) hn hy hb.size hp hf hpN (hv.below hb))
  clear hc hv
  generalize ouOk x y = OK at *
  generalize ouText x y = T at *
  obtain ⟨f, d, r, p, e1, e2, e3, cs⟩ := x
  simp only [BldD.agg, ouAgg] at *
  go_enter Try.func16, Try.ntmps16
  go_wp2_with fail
  refine (HW.out (w.heap.size + 1) _ (by go_grown) (fun j v hj => ?_) (fun j _ => ?_) (by omega)).mono ?_
  · rw [Nat.zero_add, World.cell?_alloc_at _ _ _ _ (by simp)]
    simpa [ohV] using hj
  · exact World.frozen?_alloc_at _ _ _ _ (by simp)
  rintro e w1 ⟨hb, ⟨ok, rfl⟩ | ⟨ok, rfl⟩⟩
  · have HB := Lib.hid hb
    have HOK := Lib.hid ok
    clear hb ok
    go_wp2_with fail
    go_ret2
    exact ⟨Below.trans (by go_grown) HB.out, .inl ⟨HOK.out, rfl⟩⟩
  · have HB := Lib.hid hb
    have HOK := Lib.hid ok
    clear hb ok
    go_wp2_with fail
    go_ret2
    exact ⟨Below.trans (by go_grown) HB.out, .inr ⟨HOK.out, rfl⟩⟩
end

section
open Go.RowKit Frm

/-- What reading inputs asks, up to the values. -/
def openOkOut (x : BldD) (s : ByteArray) : Prop := validE x = 0 ∧ (s.size : Int) = 23 + 19 * (x.cars.length : Int) ∧ (bl s).take 2 = headL 90 x.cars.length ∧ openOk (bl s) = true
def readOkOut (x : BldD) (s : ByteArray) : Prop := Kind.ouOk .rd (bodyL s) (noOu x.cars.length) (hallUp x) (hallDown x) x.cars.length
/-- What ReadIn returns as its error. -/
def ReadOE (x : BldD) (s : ByteArray) (code : Int) : Prop :=
  (validE x ≠ 0 ∧ code = 1) ∨
  (validE x = 0 ∧ (s.size : Int) ≠ 23 + 19 * (x.cars.length : Int) ∧ code = 4) ∨
  (validE x = 0 ∧ (s.size : Int) = 23 + 19 * (x.cars.length : Int) ∧ (bl s).take 2 ≠ headL 90 x.cars.length ∧ code = 30) ∨
  (validE x = 0 ∧ (s.size : Int) = 23 + 19 * (x.cars.length : Int) ∧ (bl s).take 2 = headL 90 x.cars.length ∧ openOk (bl s) = false ∧ code = 5) ∨
  (openOkOut x s ∧ ¬ readOkOut x s ∧ code = 31)
/-- Inputs lie in a variable. -/
def OuBox (w : World) (bx : Nat) (y : Ou) (A : Option Addr) (cp : Nat) : Prop := CellsAt w bx 0 (ohV y.h A y.cars.length cp) ∧ CosV w A y.cars

theorem enterRdOut (args : Array Value) (w : World) : (callFunc 42 args).run Try.prog w = .ok (.enter 42 args) w := by kernel_rfl

set_option maxRecDepth 100000 in
set_option maxHeartbeats 4000000 in
theorem readOut_any (N bx bb : Nat) (sz : Int) (s : ByteArray) (x : BldD) (A : Option Addr) (cap : Nat) (w : World) (hxn : x.cars.length ≤ 140737488355328) (hc : CarsAt w w.heap.size A x.cars) (hs : s.size ≤ maxLen) (hsz : validE x = 0 → sz = 23 + 19 * (x.cars.length : Int)) (hN : N ≤ w.heap.size)
    (hp : CellsAt w bx 0 (ohV noOh none 0 0)) (hf : ∀ j, j < 8 → w.frozen? ⟨bx, j, none⟩ = false) (hpN : N ≤ bx) (hbb : w.cell? ⟨bb, 7, none⟩ = some (.slice A x.cars.length cap)) :
    Calls Try.prog 36 #[x.agg A cap, .int .u8 90, .int .i64 sz, .string s, .func (.func 42) #[] #[.pointer (some ⟨bb, 0, none⟩), .pointer (some ⟨bx, 0, none⟩)]] w fun e w' => Below N w w' ∧
      ((openOkOut x s ∧ readOkOut x s ∧ e = .returned (.int .i64 0) ∧ ∃ g, w.heap.size ≤ g ∧ OuBox w' bx (Kind.ouR .rd (bodyL s) (noOu x.cars.length)) (some ⟨g, 0, none⟩) x.cars.length) ∨ (∃ code, ReadOE x s code ∧ code ≠ 0 ∧ e = .returned (.int .i64 code))) := by
  have hpw : bx < w.heap.size := World.block_lt_of_cell? w _ (hp 0 _ rfl)
  have HC := Lib.hid hc
  have HP := Lib.hid hp
  have HF := Lib.hid hf
  have HBB := Lib.hid hbb
  have HVA := Lib.hid (fun wx (h : Below w.heap.size w wx) => valid_any x A cap wx hxn ((HC.out.below h).more h.size))
  have HHD := Lib.hid (fun wx (hx : x.cars.length < 256) => head_any x A cap 90 wx (by omega) hx)
  have HFO := Lib.hid (fun b wx (h : Below w.heap.size w wx) => fieldsOf_any 125 (.pointer (some ⟨b, 0, none⟩)) x A cap 31 wx hxn ((HC.out.below h).more h.size))
  clear hc hp hf hbb
  unfold maxLen at hs
  by_cases hva : validE x = 0
  · have hF := fine_of hva
    have hC1 : 1 ≤ x.cars.length ∧ x.cars.length ≤ 8 := hF.cars
    have hsz' := hsz hva
    clear hsz
    by_cases hsi : (s.size : Int) = sz
    · have hd1 : ((s.size : Int) != sz) = false := by rw [hsi]; exact bne_self_eq_false _
      have hsz2 : s.size = 23 + 19 * x.cars.length := by omega
      have HSZ := Lib.hid hsz2
      have HVV := Lib.hid hva
      have HU := Lib.hid (hallUp_lt x)
      have HD := Lib.hid (hallDown_lt x)
      rw [hva] at HVA
      clear hva hF hsz' hsi
      have hl2 : (headL 90 x.cars.length).length = 2 := rfl
      rcases Bool.eq_false_or_eq_true ((bl s).take 2 == headL 90 x.cars.length) with hpr | hpr
      · have HPR : Hid ((bl s).take 2 = headL 90 x.cars.length) := eq_of_beq hpr
        by_cases hop : openOk (bl s) = true
        · have hoe : openE (bl s) = 0 := by unfold openE; rw [if_neg (by rw [bl_len]; omega), if_pos hop]
          have HOE := Lib.hid hoe
          clear hoe
          have HOA : Hid (openOkOut x s) := ⟨HVV.out, by have := HSZ.out; omega, HPR.out, hop⟩
          have hos : (openS (bl s)).length = 21 + 19 * x.cars.length := by unfold openS; rw [if_pos hop, List.length_take, bl_len]; omega
          have hbl : (bodyL s).length = 19 + 19 * x.cars.length := by unfold bodyL; rw [List.length_drop, hos]; omega
          have HOS := Lib.hid hos
          have HBL := Lib.hid hbl
          have hs2s : 2 ≤ s.size := by omega
          have hs6 : s.size ≤ 1000000 := by omega
          clear hos hbl hsz2
          have HRD : Hid (¬ readOkOut x s → ReadOE x s 31) := fun h => .inr (.inr (.inr (.inr ⟨HOA.out, h, rfl⟩)))
          have HRI : Hid (readOkOut x s ↔ Kind.ouOk .rd (bodyL s) (noOu x.cars.length) (hallUp x) (hallDown x) x.cars.length) := Iff.rfl
          have HBD : Hid (bodyL s = (openS (bl s)).drop 2) := rfl
          clear hop
          generalize hallUp x = U at *
          generalize hallDown x = D at *
          generalize bodyL s = BD at *
          generalize hOS : openS (bl s) = OS at *
          have HOSE := Lib.hid hOS
          clear hOS
          generalize hL : headL 90 x.cars.length = L at *
          have HL := Lib.hid hL
          clear hL
          obtain ⟨f, d, r, p, e1, e2, e3, cs⟩ := x
          simp only [BldD.agg] at *
          go_enter Try.func36, Try.ntmps36
          go_wp2_with fail
          refine (HVA.out _ (by go_grown)).mono ?_
          rintro e w1 ⟨rfl, hb1⟩
          have hx1 : Below (w.heap.size + 1) (w.alloc (.cells #[.int .i64 f, .int .i64 d, .int .i64 r, .int .i64 p, .float .f64 e1, .float .f64 e2, .float .f64 e3, .slice A cs.length cap] 25)) w1 := hb1.mono (by simp)
          obtain ⟨-, g0, g1, g2, g3, g4, g5, g6, g7⟩ := boxS hx1
          have hs1 := box_size hx1
          go_wp2_with fail
          refine (HHD.out _ (by omega)).mono ?_
          rintro e w2 ⟨rfl, hb2⟩
          have hx2 := hx1.trans (hb2.mono hs1)
          have hs2 := box_size hx2
          clear g0 g1 g2 g3 g4 g5 g6 g7 hb1 hb2 hx1
          go_wp2_with fail
          refine (prefix_any s L _ (by omega) (by omega)).mono ?_
          rw [hl2, hpr]
          rintro e w2' ⟨rfl, rfl⟩
          go_wp2_with fail
          refine (open_any s _ (by omega)).mono ?_
          rw [HOSE.out, HOE.out]
          rintro e w3 ⟨rfl, hb3⟩
          have hx3 := hx2.trans (hb3.mono hs2)
          have hs3 := box_size hx3
          clear hb3 hx2
          obtain ⟨-, g0, g1, g2, g3, g4, g5, g6, g7⟩ := boxS hx3
          go_wp2_with fail
          refine (HHD.out _ (by omega)).mono ?_
          rintro e w4 ⟨rfl, hb4⟩
          have hx4 := hx3.trans (hb4.mono hs3)
          have hs4 := box_size hx4
          clear hb4 hx3 g0 g1 g2 g3 g4 g5 g6 g7
          obtain ⟨-, g0, g1, g2, g3, g4, g5, g6, g7⟩ := boxS hx4
          have hLs : (⟨L.toArray⟩ : ByteArray).size = 2 := by show L.toArray.size = 2; rw [List.size_toArray]; exact hl2
          have hOsz : (⟨OS.toArray⟩ : ByteArray).size = OS.length := by show OS.toArray.size = _; rw [List.size_toArray]
          have hO2 : 2 ≤ OS.length := by have := HOS.out; omega
          have hO6 : OS.length ≤ 1000 := by have := HOS.out; omega
          have hpast : ∀ o j, (w4.alloc o).cell? ⟨w.heap.size, j, none⟩ = w4.cell? ⟨w.heap.size, j, none⟩ := fun o j => World.cell?_of_block (w := w4) (Below.heap_alloc w4 o w.heap.size (by omega))
          have p0 := fun o => (hpast o 0).trans g0
          have p1 := fun o => (hpast o 1).trans g1
          have p2 := fun o => (hpast o 2).trans g2
          have p3 := fun o => (hpast o 3).trans g3
          have p4 := fun o => (hpast o 4).trans g4
          have p5 := fun o => (hpast o 5).trans g5
          have p6 := fun o => (hpast o 6).trans g6
          have p7 := fun o => (hpast o 7).trans g7
          have HX4 := Lib.hid hx4
          clear hx4 hpast
          go_wp2_with fail
          rw [ext_drop]
          obtain ⟨W5, hW5⟩ : ∃ W5, W5 = w4.alloc (.cells #[.string ⟨(OS.drop 2).toArray⟩] 127) := ⟨_, rfl⟩
          rw [← hW5]
          have hb45 : Below w4.heap.size w4 W5 := by rw [hW5]; exact (Below.refl _ _).alloc (Nat.le_refl _) _
          have hbw5 : Below w.heap.size w W5 := (below_of_new HX4.out).trans (hb45.mono (by omega))
          have hs5 : W5.heap.size = w4.heap.size + 1 := by rw [hW5]; simp
          have hg5 : W5.heap[w4.heap.size]? = some (.cells #[.string ⟨(OS.drop 2).toArray⟩] 127 (0, 0)) := by rw [hW5]; exact heap_alloc_new w4 _
          have hA5 : Kind.At .rd N W5 w4.heap.size BD := ⟨by omega, by simp [World.frozen?, hg5], by rw [cell_of_row _ _ _ _ _ (0, 0) hg5, HBD.out]; rfl⟩
          have HA5 := Lib.hid hA5
          have HBW5 := Lib.hid hbw5
          clear hW5 hb45 hbw5 hg5 hA5 g0 g1 g2 g3 g4 g5 g6 g7 p0 p1 p2 p3 p4 p5 p6 p7
          refine (HFO.out w4.heap.size W5 HBW5.out).mono ?_
          rintro e w6 ⟨rfl, hb6⟩
          have hbw6 := HBW5.out.trans (hb6.mono HBW5.out.size)
          have HA6 := Lib.hid (HA5.out.below hb6)
          have HBW6 := Lib.hid hbw6
          have hs6' : W5.heap.size ≤ w6.heap.size := hb6.size
          clear hb6 hbw6
          go_wp2_with fail
          refine (run_any 42 #[] #[.pointer (some ⟨bb, 0, none⟩), .pointer (some ⟨bx, 0, none⟩)] (fun w1 => Kind.ouOk .rd BD (noOu cs.length) U D cs.length ∧ (∃ g, w6.heap.size + 1 < g ∧ g < w1.heap.size ∧ CellsAt w1 bx 0 (ohV (Kind.ouR .rd BD (noOu cs.length)).h (some ⟨g, 0, none⟩) cs.length cs.length) ∧ ∀ i, i < cs.length → CellsAt w1 g (i * 9) (coV ((Kind.ouR .rd BD (noOu cs.length)).cars.getD i default))) ∧ Below N w w1) (fun w1 => ¬ Kind.ouOk .rd BD (noOu cs.length) U D cs.length ∧ Below N w w1) _ ⟨f, d, r, p, e1, e2, e3, cs⟩ A cap U D 31 w6 enterRdOut (fun wx hbx hsx hcx hfx => ?_)).mono ?_
          · have hwx := HBW6.out.trans (hbx.mono HBW6.out.size)
            refine (rdOutLayout_any N w4.heap.size bx bb BD ⟨f, d, r, p, e1, e2, e3, cs⟩ A cap U D 31 wx HU.out HD.out ⟨hC1.1, by show cs.length ≤ 1000; omega⟩ (by omega) (HA6.out.below hbx) ⟨by have := HBL.out; show 19 + 19 * cs.length ≤ _; omega, by have := HBL.out; omega⟩ (HP.out.below hwx) (fun j hj => (hwx.frozen (p := ⟨bx, j, none⟩) hpw).trans (HF.out j hj)) (by omega) hpN ((hwx.cell (World.block_lt_of_cell? w _ HBB.out)).trans HBB.out)).mono ?_
            rintro e w7 ⟨hk7, hr7⟩
            refine ⟨hk7.cell _ _ hcx rfl (fun hh => hh.elim (fun h => by have : w6.heap.size + 1 = w4.heap.size := h; omega) (fun h => by have : w6.heap.size + 1 = bx := h; have := HBW6.out.size; omega)), (hk7.froz _ (by show w6.heap.size + 1 < wx.heap.size; omega)).trans hfx, ?_⟩
            have hb7 : Below N w w7 := (hwx.mono hN).trans hk7.below
            rcases hr7 with ⟨ok, rfl, g, hg1, hg2, hg3, hg4⟩ | ⟨ok, rfl⟩
            · exact .inl ⟨rfl, ok, ⟨g, by omega, hg2, hg3, hg4⟩, hb7⟩
            · exact .inr ⟨rfl, ok, hb7⟩
          rintro e w8 ⟨w7, hc7, hg7, ⟨rfl, ok, ⟨g, hg1, hg2, hg3, hg4⟩, hb7⟩ | ⟨rfl, ok, hb7⟩⟩
          · have hb8 : Below N w w8 := hb7.grown hg7 (by have := hb7.size; omega) (fun k hk => by simp at hk; have := HBW6.out.size; omega)
            have hin : OuBox w8 bx (Kind.ouR .rd BD (noOu cs.length)) (some ⟨g, 0, none⟩) cs.length := by
              have hlc : (Kind.ouR .rd BD (noOu cs.length)).cars.length = cs.length := by simp [Kind.ouR, noOu]
              refine ⟨?_, .inr ⟨g, 0, rfl, fun i hi => ?_⟩⟩
              · rw [hlc]
                exact fun j v hj => hg7.cell (hg3 j v hj) (by show some bx ≠ some (w6.heap.size + 1); have := HBW6.out.size; intro h; have := Option.some.inj h; omega)
              · rw [Nat.zero_add]
                have := hg4 i (by omega)
                rw [List.getD_eq_getElem?_getD, List.getElem?_eq_getElem hi] at this
                exact fun j v hj => hg7.cell (this j v hj) (by show some g ≠ some (w6.heap.size + 1); intro h; have := Option.some.inj h; omega)
            have HB8 := Lib.hid hb8
            have HIN := Lib.hid hin
            have HOK := Lib.hid ok
            clear hb7 hb8 ok hc7 hg7 hin hg3 hg4
            go_wp2_with fail
            go_ret
            exact ⟨HB8.out, .inl ⟨HOA.out, HRI.out.2 HOK.out, rfl, g, by have := HBW6.out.size; omega, HIN.out⟩⟩
          · have hb8 : Below N w w8 := hb7.grown hg7 (by have := hb7.size; omega) (fun k hk => by simp at hk; have := HBW6.out.size; omega)
            have HB8 := Lib.hid hb8
            have HE : Hid (ReadOE ⟨f, d, r, p, e1, e2, e3, cs⟩ s 31) := HRD.out (fun h => ok (HRI.out.1 h))
            clear hb7 hb8 ok hc7 hg7
            go_wp2_with fail
            go_ret
            exact ⟨HB8.out, .inr ⟨31, HE.out, by decide, rfl⟩⟩
        · have hof : openOk (bl s) = false := by cases h : openOk (bl s) <;> simp_all
          have hoe : openE (bl s) = 5 := by unfold openE; rw [if_neg (by rw [bl_len]; omega), if_neg hop]
          have HOE := Lib.hid hoe
          have HE : Hid (ReadOE x s 5) := .inr (.inr (.inr (.inl ⟨HVV.out, by have := HSZ.out; omega, HPR.out, hof, rfl⟩)))
          have hs2s : 2 ≤ s.size := by omega
          have hs6 : s.size ≤ 1000000 := by omega
          clear hoe hop hof hsz2
          generalize hOS : openS (bl s) = OS at *
          have HOSE := Lib.hid hOS
          clear hOS
          generalize headL 90 x.cars.length = L at *
          obtain ⟨f, d, r, p, e1, e2, e3, cs⟩ := x
          simp only [BldD.agg] at *
          go_enter Try.func36, Try.ntmps36
          go_wp2_with fail
          refine (HVA.out _ (by go_grown)).mono ?_
          rintro e w1 ⟨rfl, hb1⟩
          have hx1 : Below (w.heap.size + 1) (w.alloc (.cells #[.int .i64 f, .int .i64 d, .int .i64 r, .int .i64 p, .float .f64 e1, .float .f64 e2, .float .f64 e3, .slice A cs.length cap] 25)) w1 := hb1.mono (by simp)
          obtain ⟨-, g0, g1, g2, g3, g4, g5, g6, g7⟩ := boxS hx1
          have hs1 := box_size hx1
          go_wp2_with fail
          refine (HHD.out _ (by omega)).mono ?_
          rintro e w2 ⟨rfl, hb2⟩
          have hx2 := hx1.trans (hb2.mono hs1)
          have hs2 := box_size hx2
          clear g0 g1 g2 g3 g4 g5 g6 g7 hb1 hb2 hx1
          go_wp2_with fail
          refine (prefix_any s L _ (by omega) (by omega)).mono ?_
          rw [hl2, hpr]
          rintro e w2' ⟨rfl, rfl⟩
          go_wp2_with fail
          refine (open_any s _ (by omega)).mono ?_
          rw [HOSE.out, HOE.out]
          rintro e w3 ⟨rfl, hb3⟩
          have hx3 := hx2.trans (hb3.mono hs2)
          have HX3 := Lib.hid hx3
          clear hb3 hx2 hx3
          go_wp2_with fail
          go_ret
          exact ⟨(below_of_new HX3.out).mono hN, .inr ⟨5, HE.out, by decide, rfl⟩⟩
      · have HE : Hid (ReadOE x s 30) := .inr (.inr (.inl ⟨HVV.out, by have := HSZ.out; omega, fun h => by rw [h] at hpr; simp at hpr, rfl⟩))
        have hs2s : 2 ≤ s.size := by omega
        have hs6 : s.size ≤ 1000000 := by omega
        clear hsz2
        generalize headL 90 x.cars.length = L at *
        obtain ⟨f, d, r, p, e1, e2, e3, cs⟩ := x
        simp only [BldD.agg] at *
        go_enter Try.func36, Try.ntmps36
        go_wp2_with fail
        refine (HVA.out _ (by go_grown)).mono ?_
        rintro e w1 ⟨rfl, hb1⟩
        have hx1 : Below (w.heap.size + 1) (w.alloc (.cells #[.int .i64 f, .int .i64 d, .int .i64 r, .int .i64 p, .float .f64 e1, .float .f64 e2, .float .f64 e3, .slice A cs.length cap] 25)) w1 := hb1.mono (by simp)
        obtain ⟨-, g0, g1, g2, g3, g4, g5, g6, g7⟩ := boxS hx1
        have hs1 := box_size hx1
        go_wp2_with fail
        refine (HHD.out _ (by omega)).mono ?_
        rintro e w2 ⟨rfl, hb2⟩
        have hx2 := hx1.trans (hb2.mono hs1)
        have hs2 := box_size hx2
        clear g0 g1 g2 g3 g4 g5 g6 g7 hb1 hb2 hx1
        go_wp2_with fail
        refine (prefix_any s L _ (by omega) (by omega)).mono ?_
        rw [hl2, hpr]
        rintro e w2' ⟨rfl, rfl⟩
        have HX2 := Lib.hid hx2
        clear hx2
        go_wp2_with fail
        go_ret
        exact ⟨(below_of_new HX2.out).mono hN, .inr ⟨30, HE.out, by decide, rfl⟩⟩
    · have hd1 : ((s.size : Int) != sz) = true := bne_iff_ne.2 hsi
      have HE : Hid (ReadOE x s 4) := .inr (.inl ⟨hva, by rw [← hsz']; exact hsi, rfl⟩)
      rw [hva] at HVA
      clear hva hF hsz' hsi
      obtain ⟨f, d, r, p, e1, e2, e3, cs⟩ := x
      simp only [BldD.agg] at *
      go_enter Try.func36, Try.ntmps36
      go_wp2_with fail
      refine (HVA.out _ (by go_grown)).mono ?_
      rintro e w1 ⟨rfl, hb1⟩
      go_wp2_with fail
      go_ret
      exact ⟨(((Below.refl w.heap.size w).alloc (Nat.le_refl _) _).trans (hb1.mono (by simp))).mono hN, .inr ⟨4, HE.out, by decide, rfl⟩⟩
  · have HE : Hid (ReadOE x s 1) := .inl ⟨hva, rfl⟩
    have hne : (validE x != 0) = true := bne_iff_ne.2 hva
    generalize validE x = V at *
    clear hva hsz
    obtain ⟨f, d, r, p, e1, e2, e3, cs⟩ := x
    simp only [BldD.agg] at *
    go_enter Try.func36, Try.ntmps36
    go_wp2_with fail
    refine (HVA.out _ (by go_grown)).mono ?_
    rintro e w1 ⟨rfl, hb1⟩
    go_wp2_with fail
    go_ret
    exact ⟨(((Below.refl w.heap.size w).alloc (Nat.le_refl _) _).trans (hb1.mono (by simp))).mono hN, .inr ⟨1, HE.out, by decide, rfl⟩⟩
end

section
open Go.RowKit Frm

/-- The inputs that bytes stand for, if they stand for any. -/
def ouOf (x : BldD) (s : ByteArray) : Ou := Kind.ouR .rd (bodyL s) (noOu x.cars.length)
def zeroOu : Ou := ⟨noOh, []⟩
theorem ouOf_length (x : BldD) (s : ByteArray) : (ouOf x s).cars.length = x.cars.length := by simp [ouOf, Kind.ouR, noOu]


theorem CosV.far {w w' : World} {g : Nat} {ys : List CarOut} (h : CosV w (some ⟨g, 0, none⟩) ys) (hk : ∀ q : Addr, q.block = g → w'.cell? q = w.cell? q) : CosV w' (some ⟨g, 0, none⟩) ys := by
  rcases h with h | ⟨b, off, hA, h⟩
  · exact .inl h
  · have hA2 := Option.some.inj hA
    have hb : g = b := congrArg Addr.block hA2
    exact .inr ⟨b, off, hA, fun i hi j v hj => (hk _ hb.symm).trans (h i hi j v hj)⟩

set_option maxRecDepth 100000 in
set_option maxHeartbeats 4000000 in
theorem rdOutTop_any (x : BldD) (A : Option Addr) (cap : Nat) (s : ByteArray) (w : World) (hxn : x.cars.length ≤ 140737488355328) (hc : CarsAt w w.heap.size A x.cars) (hs : s.size ≤ maxLen) :
    Calls Try.prog 18 #[x.agg A cap, .string s] w fun e w' => Below w.heap.size w w' ∧
      ((openOkOut x s ∧ readOkOut x s ∧ ∃ g, CosV w' (some ⟨g, 0, none⟩) (ouOf x s).cars ∧ e = .returned (.tuple #[ouAgg (ouOf x s) (some ⟨g, 0, none⟩) x.cars.length, .int .i64 0])) ∨ (∃ code, ReadOE x s code ∧ code ≠ 0 ∧ e = .returned (.tuple #[ouAgg zeroOu none 0, .int .i64 code]))) := by
  have hmf : ∀ (fn : Fn) (first cap : Array Value) (w : World), (Instr.makeFunc fn first cap).run Try.prog w = .ok (.func fn first cap) w := fun _ _ _ _ => rfl
  have HSI := Lib.hid (fun wx (h : Below w.heap.size w wx) => size_any x A cap wx hxn ((hc.below h).more h.size))
  have HRD := Lib.hid (fun bx bb wx (h : Below w.heap.size w wx) (hp : CellsAt wx bx 0 (ohV noOh none 0 0)) (hf : ∀ j, j < 8 → wx.frozen? ⟨bx, j, none⟩ = false) (hpN : w.heap.size + 2 ≤ bx) (h2 : w.heap.size + 2 ≤ wx.heap.size) (hbb : wx.cell? ⟨bb, 7, none⟩ = some (.slice A x.cars.length cap)) =>
    readOut_any (w.heap.size + 2) bx bb (sizeOut x) s x A cap wx hxn ((hc.below h).more h.size) hs (fun hv => if_pos hv) h2 hp hf hpN hbb)
  clear hc
  generalize sizeIn x = SI at *
  generalize sizeOut x = SO at *
  have hlen := ouOf_length x s
  have HOF : Hid (ouOf x s = Kind.ouR .rd (bodyL s) (noOu x.cars.length)) := rfl
  generalize ouOf x s = y at *
  rw [← HOF.out] at HRD
  have HLEN := Lib.hid hlen
  clear HOF hlen
  generalize openOkOut x s = OK1 at *
  generalize readOkOut x s = OK2 at *
  generalize hE : ReadOE x s = RE at *
  clear hE
  obtain ⟨f, d, r, p, e1, e2, e3, cs⟩ := x
  obtain ⟨⟨au, ad, su, sd, bad, full, st⟩, ys⟩ := y
  simp only [BldD.agg, ouAgg, zeroOu, OuBox, List.length_nil, noOh] at *
  go_enter Try.func18, Try.ntmps18
  go_wp2_with fail
  refine (HSI.out _ (by go_grown)).mono ?_
  rintro e w1 ⟨rfl, hb1⟩
  obtain ⟨W0, hW0⟩ : ∃ W0, W0 = ((w.alloc (.cells #[.int .i64 f, .int .i64 d, .int .i64 r, .int .i64 p, .float .f64 e1, .float .f64 e2, .float .f64 e3, .slice A cs.length cap] 25)).alloc (.cells #[.int .u32 0, .int .u32 0, .int .u32 0, .int .u32 0, .bool false, .bool false, .int .i64 0, .slice none 0 0] 46)).alloc (.cells #[.int .u32 0, .int .u32 0, .int .u32 0, .int .u32 0, .bool false, .bool false, .int .i64 0, .slice none 0 0] 46) := ⟨_, rfl⟩
  rw [← hW0] at hb1
  have hs0 : W0.heap.size = w.heap.size + 3 := by rw [hW0]; simp
  have hbw0 : Below w.heap.size w W0 := by rw [hW0]; exact (((Below.refl _ _).alloc (Nat.le_refl _) _).alloc (by simp) _).alloc (by simp; omega) _
  have hq0 : W0.heap[w.heap.size]? = some (.cells #[.int .i64 f, .int .i64 d, .int .i64 r, .int .i64 p, .float .f64 e1, .float .f64 e2, .float .f64 e3, .slice A cs.length cap] 25 (0, 0)) := by
    rw [hW0]
    exact (Below.heap_alloc _ _ _ (by simp; omega)).trans ((Below.heap_alloc _ _ _ (by simp)).trans (heap_alloc_new w _))
  have hq1 : W0.heap[w.heap.size + 1]? = some (.cells #[.int .u32 0, .int .u32 0, .int .u32 0, .int .u32 0, .bool false, .bool false, .int .i64 0, .slice none 0 0] 46 (0, 0)) := by
    rw [hW0]
    have h := heap_alloc_new (w.alloc (.cells #[.int .i64 f, .int .i64 d, .int .i64 r, .int .i64 p, .float .f64 e1, .float .f64 e2, .float .f64 e3, .slice A cs.length cap] 25)) (.cells #[.int .u32 0, .int .u32 0, .int .u32 0, .int .u32 0, .bool false, .bool false, .int .i64 0, .slice none 0 0] 46)
    have e : (w.alloc (.cells #[.int .i64 f, .int .i64 d, .int .i64 r, .int .i64 p, .float .f64 e1, .float .f64 e2, .float .f64 e3, .slice A cs.length cap] 25)).heap.size = w.heap.size + 1 := by simp
    rw [e] at h
    exact (Below.heap_alloc _ _ _ (by simp)).trans h
  have hq2 : W0.heap[w.heap.size + 2]? = some (.cells #[.int .u32 0, .int .u32 0, .int .u32 0, .int .u32 0, .bool false, .bool false, .int .i64 0, .slice none 0 0] 46 (0, 0)) := by
    rw [hW0]
    have h := heap_alloc_new ((w.alloc (.cells #[.int .i64 f, .int .i64 d, .int .i64 r, .int .i64 p, .float .f64 e1, .float .f64 e2, .float .f64 e3, .slice A cs.length cap] 25)).alloc (.cells #[.int .u32 0, .int .u32 0, .int .u32 0, .int .u32 0, .bool false, .bool false, .int .i64 0, .slice none 0 0] 46)) (.cells #[.int .u32 0, .int .u32 0, .int .u32 0, .int .u32 0, .bool false, .bool false, .int .i64 0, .slice none 0 0] 46)
    have e : ((w.alloc (.cells #[.int .i64 f, .int .i64 d, .int .i64 r, .int .i64 p, .float .f64 e1, .float .f64 e2, .float .f64 e3, .slice A cs.length cap] 25)).alloc (.cells #[.int .u32 0, .int .u32 0, .int .u32 0, .int .u32 0, .bool false, .bool false, .int .i64 0, .slice none 0 0] 46)).heap.size = w.heap.size + 2 := by simp
    rw [e] at h
    exact h
  have hbw1 : Below w.heap.size w w1 := hbw0.trans (hb1.mono (by omega))
  have hr0 : w1.heap[w.heap.size]? = some (.cells #[.int .i64 f, .int .i64 d, .int .i64 r, .int .i64 p, .float .f64 e1, .float .f64 e2, .float .f64 e3, .slice A cs.length cap] 25 (0, 0)) := (hb1.block _ (by omega)).trans hq0
  have hr1 : w1.heap[w.heap.size + 1]? = some (.cells #[.int .u32 0, .int .u32 0, .int .u32 0, .int .u32 0, .bool false, .bool false, .int .i64 0, .slice none 0 0] 46 (0, 0)) := (hb1.block _ (by omega)).trans hq1
  have hr2 : w1.heap[w.heap.size + 2]? = some (.cells #[.int .u32 0, .int .u32 0, .int .u32 0, .int .u32 0, .bool false, .bool false, .int .i64 0, .slice none 0 0] 46 (0, 0)) := (hb1.block _ (by omega)).trans hq2
  have hs1 : w.heap.size + 3 ≤ w1.heap.size := by have := hb1.size; omega
  have g0 : w1.cell? ⟨w.heap.size, 0, none⟩ = some (.int .i64 f) := cell_of_row _ _ _ _ _ (0, 0) hr0
  have g1 : w1.cell? ⟨w.heap.size, 1, none⟩ = some (.int .i64 d) := cell_of_row _ _ _ _ _ (0, 0) hr0
  have g2 : w1.cell? ⟨w.heap.size, 2, none⟩ = some (.int .i64 r) := cell_of_row _ _ _ _ _ (0, 0) hr0
  have g3 : w1.cell? ⟨w.heap.size, 3, none⟩ = some (.int .i64 p) := cell_of_row _ _ _ _ _ (0, 0) hr0
  have g4 : w1.cell? ⟨w.heap.size, 4, none⟩ = some (.float .f64 e1) := cell_of_row _ _ _ _ _ (0, 0) hr0
  have g5 : w1.cell? ⟨w.heap.size, 5, none⟩ = some (.float .f64 e2) := cell_of_row _ _ _ _ _ (0, 0) hr0
  have g6 : w1.cell? ⟨w.heap.size, 6, none⟩ = some (.float .f64 e3) := cell_of_row _ _ _ _ _ (0, 0) hr0
  have g7 : w1.cell? ⟨w.heap.size, 7, none⟩ = some (.slice A cs.length cap) := cell_of_row _ _ _ _ _ (0, 0) hr0
  have HBW1 := Lib.hid hbw1
  have HR1 := Lib.hid hr1
  have HR2 := Lib.hid hr2
  have G7 := Lib.hid g7
  clear hW0 hb1 hbw0 hq0 hq1 hq2 hbw1 hr0 hr1 hr2
  go_wp2_with fail
  refine (HRD.out (w.heap.size + 1 + 1) w.heap.size w1 HBW1.out (fun j v hj => ?_) (fun j _ => ?_) (by omega) (by omega) G7.out).mono ?_
  · rw [Nat.zero_add, cell_of_row _ _ _ _ _ (0, 0) HR2.out]
    simpa [ohV] using hj
  · have := HR2.out
    simp [World.frozen?, this]
  clear g0 g1 g2 g3 g4 g5 g6 g7
  rintro e w2 ⟨hb2, ⟨ok1, ok2, rfl, g, hg, hin1, hin2⟩ | ⟨code, hre, hne, rfl⟩⟩
  · have hs2 := hb2.size
    have hr1 : w2.heap[w.heap.size + 1]? = some (.cells #[.int .u32 0, .int .u32 0, .int .u32 0, .int .u32 0, .bool false, .bool false, .int .i64 0, .slice none 0 0] 46 (0, 0)) := (hb2.block _ (by omega)).trans HR1.out
    have hbw2 : Below w.heap.size w w2 := HBW1.out.trans (hb2.mono (by omega))
    have x0 := hin1 0 _ rfl
    have x1 := hin1 1 _ rfl
    have x2 := hin1 2 _ rfl
    have x3 := hin1 3 _ rfl
    have x4 := hin1 4 _ rfl
    have x5 := hin1 5 _ rfl
    have x6 := hin1 6 _ rfl
    have x7 := hin1 7 _ rfl
    simp only [Nat.zero_add] at x0 x1 x2 x3 x4 x5 x6 x7
    have y0 : w2.cell? ⟨w.heap.size + 1, 0, none⟩ = some (.int .u32 0) := cell_of_row _ _ _ _ _ (0, 0) hr1
    have z0 : w2.frozen? ⟨w.heap.size + 1, 0, none⟩ = false := by simp [World.frozen?, hr1]
    have y1 : w2.cell? ⟨w.heap.size + 1, 1, none⟩ = some (.int .u32 0) := cell_of_row _ _ _ _ _ (0, 0) hr1
    have z1 : w2.frozen? ⟨w.heap.size + 1, 1, none⟩ = false := by simp [World.frozen?, hr1]
    have y2 : w2.cell? ⟨w.heap.size + 1, 2, none⟩ = some (.int .u32 0) := cell_of_row _ _ _ _ _ (0, 0) hr1
    have z2 : w2.frozen? ⟨w.heap.size + 1, 2, none⟩ = false := by simp [World.frozen?, hr1]
    have y3 : w2.cell? ⟨w.heap.size + 1, 3, none⟩ = some (.int .u32 0) := cell_of_row _ _ _ _ _ (0, 0) hr1
    have z3 : w2.frozen? ⟨w.heap.size + 1, 3, none⟩ = false := by simp [World.frozen?, hr1]
    have y4 : w2.cell? ⟨w.heap.size + 1, 4, none⟩ = some (.bool false) := cell_of_row _ _ _ _ _ (0, 0) hr1
    have z4 : w2.frozen? ⟨w.heap.size + 1, 4, none⟩ = false := by simp [World.frozen?, hr1]
    have y5 : w2.cell? ⟨w.heap.size + 1, 5, none⟩ = some (.bool false) := cell_of_row _ _ _ _ _ (0, 0) hr1
    have z5 : w2.frozen? ⟨w.heap.size + 1, 5, none⟩ = false := by simp [World.frozen?, hr1]
    have y6 : w2.cell? ⟨w.heap.size + 1, 6, none⟩ = some (.int .i64 0) := cell_of_row _ _ _ _ _ (0, 0) hr1
    have z6 : w2.frozen? ⟨w.heap.size + 1, 6, none⟩ = false := by simp [World.frozen?, hr1]
    have y7 : w2.cell? ⟨w.heap.size + 1, 7, none⟩ = some (.slice none 0 0) := cell_of_row _ _ _ _ _ (0, 0) hr1
    have z7 : w2.frozen? ⟨w.heap.size + 1, 7, none⟩ = false := by simp [World.frozen?, hr1]
    have HB := Lib.hid hbw2
    have HCV := Lib.hid hin2
    have HO := Lib.hid (And.intro ok1 ok2)
    clear hb2 hr1 hbw2 hin1 hin2 ok1 ok2
    go_wp2_with fail
    refine bodyPost_ret (v := .tuple #[.agg #[.int .u32 au, .int .u32 ad, .int .u32 su, .int .u32 sd, .bool bad, .bool full, .int .i64 st, .slice (some ⟨g, 0, none⟩) ys.length cs.length], .int .i64 0]) (by simp [results, Try.results18, go_sem, y0, y1, y2, y3, y4, y5, y6, y7]) rfl ?_
    refine ⟨HB.out.trans (by go_grown), .inl ⟨HO.out.1, HO.out.2, g, ?_, rfl⟩⟩
    have hne : g ≠ w.heap.size + 1 := by omega
    exact HCV.out.far (fun q hq => by
      have hne' : q.block ≠ w.heap.size + 1 := by rw [hq]; exact hne
      rw [cell_far _ _ _ _ hne', cell_far _ _ _ _ hne', cell_far _ _ _ _ hne', cell_far _ _ _ _ hne', cell_far _ _ _ _ hne', cell_far _ _ _ _ hne', cell_far _ _ _ _ hne', cell_far _ _ _ _ hne'])
  · have hs2 := hb2.size
    have hr1 : w2.heap[w.heap.size + 1]? = some (.cells #[.int .u32 0, .int .u32 0, .int .u32 0, .int .u32 0, .bool false, .bool false, .int .i64 0, .slice none 0 0] 46 (0, 0)) := (hb2.block _ (by omega)).trans HR1.out
    have hbw2 : Below w.heap.size w w2 := HBW1.out.trans (hb2.mono (by omega))
    have hne' : (code != 0) = true := bne_iff_ne.2 hne
    have y0 : w2.cell? ⟨w.heap.size + 1, 0, none⟩ = some (.int .u32 0) := cell_of_row _ _ _ _ _ (0, 0) hr1
    have z0 : w2.frozen? ⟨w.heap.size + 1, 0, none⟩ = false := by simp [World.frozen?, hr1]
    have y1 : w2.cell? ⟨w.heap.size + 1, 1, none⟩ = some (.int .u32 0) := cell_of_row _ _ _ _ _ (0, 0) hr1
    have z1 : w2.frozen? ⟨w.heap.size + 1, 1, none⟩ = false := by simp [World.frozen?, hr1]
    have y2 : w2.cell? ⟨w.heap.size + 1, 2, none⟩ = some (.int .u32 0) := cell_of_row _ _ _ _ _ (0, 0) hr1
    have z2 : w2.frozen? ⟨w.heap.size + 1, 2, none⟩ = false := by simp [World.frozen?, hr1]
    have y3 : w2.cell? ⟨w.heap.size + 1, 3, none⟩ = some (.int .u32 0) := cell_of_row _ _ _ _ _ (0, 0) hr1
    have z3 : w2.frozen? ⟨w.heap.size + 1, 3, none⟩ = false := by simp [World.frozen?, hr1]
    have y4 : w2.cell? ⟨w.heap.size + 1, 4, none⟩ = some (.bool false) := cell_of_row _ _ _ _ _ (0, 0) hr1
    have z4 : w2.frozen? ⟨w.heap.size + 1, 4, none⟩ = false := by simp [World.frozen?, hr1]
    have y5 : w2.cell? ⟨w.heap.size + 1, 5, none⟩ = some (.bool false) := cell_of_row _ _ _ _ _ (0, 0) hr1
    have z5 : w2.frozen? ⟨w.heap.size + 1, 5, none⟩ = false := by simp [World.frozen?, hr1]
    have y6 : w2.cell? ⟨w.heap.size + 1, 6, none⟩ = some (.int .i64 0) := cell_of_row _ _ _ _ _ (0, 0) hr1
    have z6 : w2.frozen? ⟨w.heap.size + 1, 6, none⟩ = false := by simp [World.frozen?, hr1]
    have y7 : w2.cell? ⟨w.heap.size + 1, 7, none⟩ = some (.slice none 0 0) := cell_of_row _ _ _ _ _ (0, 0) hr1
    have z7 : w2.frozen? ⟨w.heap.size + 1, 7, none⟩ = false := by simp [World.frozen?, hr1]
    have HB := Lib.hid hbw2
    have HO := Lib.hid (And.intro hre hne)
    clear hb2 hr1 hbw2 hre hne
    go_wp2_with fail
    refine bodyPost_ret (v := .tuple #[.agg #[.int .u32 0, .int .u32 0, .int .u32 0, .int .u32 0, .bool false, .bool false, .int .i64 0, .slice none 0 0], .int .i64 code]) (by simp [results, Try.results18, go_sem, y0, y1, y2, y3, y4, y5, y6, y7]) rfl ?_
    exact ⟨HB.out.trans (by go_grown), .inr ⟨code, HO.out.1, HO.out.2, rfl⟩⟩
end

section
open Go.RowKit Frm

def Kind.cosR (k : Kind) : List UInt8 → List CarOut → List CarOut
  | _, [] => []
  | l, c :: cs => k.coR l c :: k.cosR (k.coN l c) cs
theorem Kind.cosR_map (k : Kind) : ∀ (cs : List CarOut) (l : List UInt8), (List.range cs.length).map (fun i => k.coAt l cs i) = k.cosR l cs
  | [], l => rfl
  | c :: cs, l => by
    rw [List.length_cons, List.range_succ_eq_map, List.map_cons, List.map_map, Kind.cosR, ← Kind.cosR_map k cs (k.coN l c)]
    congr 1
theorem Kind.cosR_length (k : Kind) : ∀ (cs : List CarOut) (l : List UInt8), (k.cosR l cs).length = cs.length
  | [], _ => rfl
  | c :: cs, l => by rw [Kind.cosR, List.length_cons, List.length_cons, Kind.cosR_length k cs]
def coB (c : CarOut) : List UInt8 := numL c.iu 4 ++ (numL c.id 4 ++ (numL c.lu 4 ++ (numL c.ld 4 ++ (numL (flg c.flags) 1 ++ (numL (m64 c.cmd) 1 ++ numL (m64 c.ph) 1)))))
theorem coB_length (c : CarOut) : (coB c).length = 19 := by simp [coB, numL_length]
theorem coN_wr (t : List UInt8) (c : CarOut) : Kind.coN .wr t c = t ++ coB c := by
  simp [Kind.coN, Kind.coL4, Kind.coL3, Kind.coL2, Kind.coL1, Kind.next, coB]
def fitCo (c : CarOut) : Prop := (c.iu < 4294967296 ∧ c.id < 4294967296) ∧ (c.lu < 4294967296 ∧ c.ld < 4294967296) ∧ (0 ≤ c.cmd ∧ c.cmd < 256) ∧ (0 ≤ c.ph ∧ c.ph < 256)
def okCo (c : CarOut) (u d : Nat) : Prop := (setB c.iu u = true ∧ setB c.id d = true) ∧ (setB c.lu u = true ∧ setB c.ld d = true) ∧ inB 0 5 c.cmd = true ∧ inB 0 4 c.ph = true
theorem co_read (c c0 : CarOut) (r : List UInt8) (h : fitCo c) : Kind.coR .rd (coB c ++ r) c0 = c ∧ Kind.coN .rd (coB c ++ r) c0 = r ∧ ∀ u d, okCo c u d → Kind.coOk .rd (coB c ++ r) c0 u d := by
  obtain ⟨⟨h1, h2⟩, ⟨h3, h4⟩, ⟨h5, h5'⟩, h6, h6'⟩ := h
  have hq : flg c.flags < 8 := flg_lt c.flags
  have e0 : coB c ++ r = numL c.iu 4 ++ (numL c.id 4 ++ (numL c.lu 4 ++ (numL c.ld 4 ++ (numL (flg c.flags) 1 ++ (numL (m64 c.cmd) 1 ++ (numL (m64 c.ph) 1 ++ r)))))) := by simp [coB]
  have n0 : Kind.next .rd (coB c ++ r) c0.iu 4 = numL c.id 4 ++ (numL c.lu 4 ++ (numL c.ld 4 ++ (numL (flg c.flags) 1 ++ (numL (m64 c.cmd) 1 ++ (numL (m64 c.ph) 1 ++ r))))) := by rw [e0, rd_next_app]
  have n1 : Kind.coL1 .rd (coB c ++ r) c0 = numL c.lu 4 ++ (numL c.ld 4 ++ (numL (flg c.flags) 1 ++ (numL (m64 c.cmd) 1 ++ (numL (m64 c.ph) 1 ++ r)))) := by unfold Kind.coL1; rw [n0, rd_next_app]
  have n1' : Kind.next .rd (Kind.coL1 .rd (coB c ++ r) c0) c0.lu 4 = numL c.ld 4 ++ (numL (flg c.flags) 1 ++ (numL (m64 c.cmd) 1 ++ (numL (m64 c.ph) 1 ++ r))) := by rw [n1, rd_next_app]
  have n2 : Kind.coL2 .rd (coB c ++ r) c0 = numL (flg c.flags) 1 ++ (numL (m64 c.cmd) 1 ++ (numL (m64 c.ph) 1 ++ r)) := by unfold Kind.coL2; rw [n1', rd_next_app]
  have n3 : Kind.coL3 .rd (coB c ++ r) c0 = numL (m64 c.cmd) 1 ++ (numL (m64 c.ph) 1 ++ r) := by unfold Kind.coL3; rw [n2, rd_next_app]
  have n4 : Kind.coL4 .rd (coB c ++ r) c0 = numL (m64 c.ph) 1 ++ r := by unfold Kind.coL4; rw [n3, rd_next_app]
  have n5 : Kind.coN .rd (coB c ++ r) c0 = r := by unfold Kind.coN; rw [n4, rd_next_app]
  have v0 : Kind.num .rd (coB c ++ r) c0.iu 4 = c.iu := by rw [e0, rd_num_app _ _ _ _ h1]
  have v1 : Kind.num .rd (Kind.next .rd (coB c ++ r) c0.iu 4) c0.id 4 = c.id := by rw [n0, rd_num_app _ _ _ _ h2]
  have v2 : Kind.num .rd (Kind.coL1 .rd (coB c ++ r) c0) c0.lu 4 = c.lu := by rw [n1, rd_num_app _ _ _ _ h3]
  have v3 : Kind.num .rd (Kind.next .rd (Kind.coL1 .rd (coB c ++ r) c0) c0.lu 4) c0.ld 4 = c.ld := by rw [n1', rd_num_app _ _ _ _ h4]
  have vq : Kind.coQ .rd (coB c ++ r) c0 = flg c.flags := by unfold Kind.coQ; rw [n2, rd_num_app _ _ _ _ (by omega)]
  have v5 : Kind.numI .rd (Kind.coL3 .rd (coB c ++ r) c0) c0.cmd 1 = c.cmd := by rw [n3, rd_numI_app _ _ _ _ h5 (by omega) (by omega)]
  have v6 : Kind.numI .rd (Kind.coL4 .rd (coB c ++ r) c0) c0.ph 1 = c.ph := by rw [n4, rd_numI_app _ _ _ _ h6 (by omega) (by omega)]
  refine ⟨?_, n5, fun u d k => ⟨⟨by rw [v0]; exact k.1.1, by rw [v1]; exact k.1.2⟩, ⟨by rw [v2]; exact k.2.1.1, by rw [v3]; exact k.2.1.2⟩, by rw [vq]; exact hq, by rw [v5]; exact k.2.2.1, by rw [v6]; exact k.2.2.2⟩⟩
  obtain ⟨iu, id, cut, lu, ld, gong, cmd, ph, flag⟩ := c
  simp only [Kind.coR, Kind.co4, Kind.co3, Kind.co2, Kind.co1]
  rw [vq, v0, v1, v2, v3, v5, v6]
  simp only [flg_testBit, CarOut.flags]
  rfl
theorem cosN_wr : ∀ (cs : List CarOut) (t : List UInt8), Kind.cosN .wr t cs = t ++ cs.flatMap coB
  | [], t => by simp [Kind.cosN]
  | c :: cs, t => by rw [Kind.cosN, cosN_wr cs, coN_wr, List.flatMap_cons, List.append_assoc]
theorem cos_read (u d : Nat) : ∀ (cs : List CarOut) (r : List UInt8), (∀ c ∈ cs, fitCo c) → (∀ c ∈ cs, okCo c u d) →
    Kind.cosR .rd (cs.flatMap coB ++ r) (List.replicate cs.length default) = cs ∧ Kind.cosN .rd (cs.flatMap coB ++ r) (List.replicate cs.length default) = r ∧
      ∀ i (h : i < (List.replicate cs.length (default : CarOut)).length), Kind.coOk .rd (Kind.cosN .rd (cs.flatMap coB ++ r) ((List.replicate cs.length default).take i)) (List.replicate cs.length default)[i] u d
  | [], r, _, _ => ⟨rfl, rfl, fun i h => absurd h (by simp)⟩
  | c :: cs, r, hf, hk => by
    obtain ⟨m1, m2, m3⟩ := co_read c default (cs.flatMap coB ++ r) (hf c (by simp))
    obtain ⟨p1, p2, p3⟩ := cos_read u d cs r (fun c hc => hf c (by simp [hc])) (fun c hc => hk c (by simp [hc]))
    have e : (c :: cs).flatMap coB ++ r = coB c ++ (cs.flatMap coB ++ r) := by rw [List.flatMap_cons, List.append_assoc]
    have er : List.replicate (c :: cs).length (default : CarOut) = default :: List.replicate cs.length default := by rw [List.length_cons, List.replicate_succ]
    rw [e]
    simp only [er]
    refine ⟨?_, ?_, fun i h => ?_⟩
    · rw [Kind.cosR, m1, m2, p1]
    · rw [Kind.cosN, m2, p2]
    · cases i with
      | zero => exact m3 u d (hk c (by simp))
      | succ i =>
        have := p3 i (by simpa using h)
        rw [List.take_succ_cons, Kind.cosN, m2]
        exact this
/-- The bytes of what stands ahead of the cars. -/
def ohB (h : OutH) : List UInt8 := numL h.au 4 ++ (numL h.ad 4 ++ (numL h.su 4 ++ (numL h.sd 4 ++ (numL (flg h.flags) 1 ++ numL (m64 h.st) 2))))
theorem ohB_length (h : OutH) : (ohB h).length = 19 := by simp [ohB, numL_length]
theorem ohN_wr (t : List UInt8) (h : OutH) : Kind.ohN .wr t h = t ++ ohB h := by
  simp [Kind.ohN, Kind.ohL3, Kind.ohL2, Kind.ohL1, Kind.next, ohB]
def fitOh (h : OutH) : Prop := (h.au < 4294967296 ∧ h.ad < 4294967296) ∧ (h.su < 4294967296 ∧ h.sd < 4294967296) ∧ (0 ≤ h.st ∧ h.st < 65536)
def okOh (h : OutH) (u d : Nat) : Prop := (setB h.au u = true ∧ setB h.ad d = true) ∧ (setB h.su u = true ∧ setB h.sd d = true) ∧ inB 0 65535 h.st = true
theorem oh_read (c c0 : OutH) (r : List UInt8) (h : fitOh c) : Kind.ohR .rd (ohB c ++ r) c0 = c ∧ Kind.ohN .rd (ohB c ++ r) c0 = r ∧ ∀ u d, okOh c u d → Kind.ohOk .rd (ohB c ++ r) c0 u d := by
  obtain ⟨⟨h1, h2⟩, ⟨h3, h4⟩, h5, h5'⟩ := h
  have hq : flg c.flags < 4 := flg_lt c.flags
  have e0 : ohB c ++ r = numL c.au 4 ++ (numL c.ad 4 ++ (numL c.su 4 ++ (numL c.sd 4 ++ (numL (flg c.flags) 1 ++ (numL (m64 c.st) 2 ++ r))))) := by simp [ohB]
  have n0 : Kind.next .rd (ohB c ++ r) c0.au 4 = numL c.ad 4 ++ (numL c.su 4 ++ (numL c.sd 4 ++ (numL (flg c.flags) 1 ++ (numL (m64 c.st) 2 ++ r)))) := by rw [e0, rd_next_app]
  have n1 : Kind.ohL1 .rd (ohB c ++ r) c0 = numL c.su 4 ++ (numL c.sd 4 ++ (numL (flg c.flags) 1 ++ (numL (m64 c.st) 2 ++ r))) := by unfold Kind.ohL1; rw [n0, rd_next_app]
  have n1' : Kind.next .rd (Kind.ohL1 .rd (ohB c ++ r) c0) c0.su 4 = numL c.sd 4 ++ (numL (flg c.flags) 1 ++ (numL (m64 c.st) 2 ++ r)) := by rw [n1, rd_next_app]
  have n2 : Kind.ohL2 .rd (ohB c ++ r) c0 = numL (flg c.flags) 1 ++ (numL (m64 c.st) 2 ++ r) := by unfold Kind.ohL2; rw [n1', rd_next_app]
  have n3 : Kind.ohL3 .rd (ohB c ++ r) c0 = numL (m64 c.st) 2 ++ r := by unfold Kind.ohL3; rw [n2, rd_next_app]
  have n5 : Kind.ohN .rd (ohB c ++ r) c0 = r := by unfold Kind.ohN; rw [n3, rd_next_app]
  have v0 : Kind.num .rd (ohB c ++ r) c0.au 4 = c.au := by rw [e0, rd_num_app _ _ _ _ h1]
  have v1 : Kind.num .rd (Kind.next .rd (ohB c ++ r) c0.au 4) c0.ad 4 = c.ad := by rw [n0, rd_num_app _ _ _ _ h2]
  have v2 : Kind.num .rd (Kind.ohL1 .rd (ohB c ++ r) c0) c0.su 4 = c.su := by rw [n1, rd_num_app _ _ _ _ h3]
  have v3 : Kind.num .rd (Kind.next .rd (Kind.ohL1 .rd (ohB c ++ r) c0) c0.su 4) c0.sd 4 = c.sd := by rw [n1', rd_num_app _ _ _ _ h4]
  have vq : Kind.ohQ .rd (ohB c ++ r) c0 = flg c.flags := by unfold Kind.ohQ; rw [n2, rd_num_app _ _ _ _ (by omega)]
  have v5 : Kind.numI .rd (Kind.ohL3 .rd (ohB c ++ r) c0) c0.st 2 = c.st := by rw [n3, rd_numI_app _ _ _ _ h5 (by omega) (by omega)]
  refine ⟨?_, n5, fun u d k => ⟨⟨by rw [v0]; exact k.1.1, by rw [v1]; exact k.1.2⟩, ⟨by rw [v2]; exact k.2.1.1, by rw [v3]; exact k.2.1.2⟩, by rw [vq]; exact hq, by rw [v5]; exact k.2.2⟩⟩
  obtain ⟨au, ad, su, sd, bad, full, st⟩ := c
  simp only [Kind.ohR, Kind.oh3, Kind.oh2, Kind.oh1]
  rw [vq, v0, v1, v2, v3, v5]
  simp only [flg_testBit, OutH.flags]
  rfl
def ouB (y : Ou) : List UInt8 := ohB y.h ++ y.cars.flatMap coB
theorem ouN_wr (t : List UInt8) (y : Ou) : Kind.ouN .wr t y = t ++ ouB y := by
  rw [Kind.ouN, cosN_wr, ohN_wr, ouB, List.append_assoc]
/-- What Out accepts, plainly. -/
theorem ouOk_wr {t : List UInt8} {y : Ou} {u d C : Nat} (ok : Kind.ouOk .wr t y u d C) : y.cars.length = C ∧ okOh y.h u d ∧ ∀ c ∈ y.cars, okCo c u d := by
  obtain ⟨h1, ⟨k1, k2, k3, k4⟩, h3⟩ := ok
  refine ⟨h1, ⟨k1, k2, k4⟩, fun c hc => ?_⟩
  obtain ⟨i, hi, rfl⟩ := List.mem_iff_getElem.1 hc
  obtain ⟨m1, m2, _, m4, m5⟩ := h3 i hi
  exact ⟨m1, m2, m4, m5⟩
theorem ou_read (t : List UInt8) (y : Ou) (u d C : Nat) (hy : saneOu y) (ok : Kind.ouOk .wr t y u d C) :
    Kind.ouOk .rd (ouB y) (noOu C) u d C ∧ Kind.ouR .rd (ouB y) (noOu C) = y := by
  obtain ⟨h1, h2, h3⟩ := ouOk_wr ok
  obtain ⟨hd0, cs⟩ := y
  obtain ⟨hsh, hcs⟩ := hy
  simp only at h1 h2 h3 hsh hcs
  subst h1
  have f1 : fitOh hd0 := ⟨hsh.1, hsh.2.1, by have := inB_iff.1 h2.2.2; omega, by have := inB_iff.1 h2.2.2; omega⟩
  obtain ⟨p1, p2, p3⟩ := oh_read hd0 noOh (cs.flatMap coB) f1
  obtain ⟨q1, q2, q3⟩ := cos_read u d cs [] (fun c h => ⟨(hcs c h).1, (hcs c h).2.1, by have := inB_iff.1 (h3 c h).2.2.1; omega, by have := inB_iff.1 (h3 c h).2.2.2; omega⟩) h3
  rw [List.append_nil] at q1 q2 q3
  refine ⟨⟨by simp [noOu], p3 u d h2, ?_⟩, ?_⟩
  · show ∀ i (h : i < (noOu cs.length).cars.length), Kind.coOk .rd (Kind.cosN .rd (Kind.ohN .rd (ohB hd0 ++ cs.flatMap coB) noOh) ((noOu cs.length).cars.take i)) (noOu cs.length).cars[i] u d
    rw [p2]; exact q3
  · have hm : (Kind.ouR .rd (ouB ⟨hd0, cs⟩) (noOu cs.length)).cars = cs := by
      have h := Kind.cosR_map .rd (noOu cs.length).cars (Kind.ohN .rd (ohB hd0 ++ cs.flatMap coB) noOh)
      refine Eq.trans h ?_
      rw [p2]; exact q1
    have hh : (Kind.ouR .rd (ouB ⟨hd0, cs⟩) (noOu cs.length)).h = hd0 := p1
    generalize Kind.ouR .rd (ouB ⟨hd0, cs⟩) (noOu cs.length) = Z at *
    obtain ⟨z1, z2⟩ := Z
    simp only at hm hh
    rw [hm, hh]
/-- The frame of valid outputs is read, and gives them. -/
theorem frame_readO {x : BldD} {y : Ou} (hy : saneOu y) (ok : ouOk x y) : openOkOut x ⟨(ouText x y).toArray⟩ ∧ readOkOut x ⟨(ouText x y).toArray⟩ ∧ ouOf x ⟨(ouText x y).toArray⟩ = y := by
  obtain ⟨hv, ok⟩ := ok
  have hF := fine_of hv
  have hb : bl ⟨(ouText x y).toArray⟩ = sealL (headL 90 x.cars.length ++ ouB y) := by
    show ouText x y = _
    unfold ouText; rw [ouN_wr]
  have hl : (ouB y).length = 19 + 19 * x.cars.length := by
    have h := ouN_length (headL 90 x.cars.length) y
    rw [ouN_wr, List.length_append] at h
    have h2 : (headL 90 x.cars.length).length = 2 := rfl
    rw [h2, ok.1] at h
    omega
  have hbody : bodyL ⟨(ouText x y).toArray⟩ = ouB y := by
    unfold bodyL
    rw [hb, openS_seal, List.drop_left' (show (headL 90 x.cars.length).length = 2 from rfl)]
  obtain ⟨k1, k2⟩ := ou_read (headL 90 x.cars.length) y (hallUp x) (hallDown x) x.cars.length hy ok
  refine ⟨⟨hv, ?_, ?_, ?_⟩, ?_, ?_⟩
  · have : (⟨(ouText x y).toArray⟩ : ByteArray).size = (bl ⟨(ouText x y).toArray⟩).length := (bl_len _).symm
    rw [this, hb, sealL_length, List.length_append, hl]
    have h2 : (headL 90 x.cars.length).length = 2 := rfl
    rw [h2]
    omega
  · rw [hb]
    unfold sealL
    rw [List.append_assoc, List.take_left' (show (headL 90 x.cars.length).length = 2 from rfl)]
  · rw [hb, openOk_seal]
  · unfold readOkOut; rw [hbody]; exact k1
  · unfold ouOf; rw [hbody]; exact k2
end
end Go.Proofs.Ytapkjknpoafhjaa
