/- What the texts behind this one rest on: several texts in one. No statement of the seat is proved here. -/
import Derived.Test.YthbfpdkgbkpmiaaInputs
import Derived.Test.YthbfpdkgbkpmiaaClone
import Derived.Test.YthbfpdkgbkpmiaaG15
import Derived.Test.YthbfpdkgbkpmiaaG3
namespace Go.Proofs.Ythbfpdkgbkpmiaa
section
open Go.RowKit Frm

/-- Inputs that a carrier accepts. -/
def Kind.inOk (k : Kind) (l : List UInt8) (x : In) (u d C : Nat) (F : Int) : Prop :=
  x.cars.length = C ∧ k.headOk1 l x.pu x.pd u d ∧ k.headOk2 (k.headL1 l x.pu x.pd) x.kind x.car x.cars.length ∧ ∀ i (h : i < x.cars.length), k.carOk (k.carsN (k.headL2 l x.pu x.pd x.kind x.car) (x.cars.take i)) x.cars[i] (u ||| d) F
/-- The text behind them. -/
def Kind.inN (k : Kind) (l : List UInt8) (x : In) : List UInt8 := k.carsN (k.headL2 l x.pu x.pd x.kind x.car) x.cars
/-- The numbers are those of their types. -/
def saneIn (x : In) : Prop := x.pu < 4294967296 ∧ x.pd < 4294967296 ∧ In64 x.kind ∧ In64 x.car ∧ ∀ c ∈ x.cars, saneCar c

theorem Kept.past {N : Nat} {S S2 : Addr → Prop} {w w' w'' : World} (h : Kept N S w w') (k : Kept N S2 w' w'') (hs : ∀ p, p.block < w.heap.size → S2 p → S p) : Kept N S w w'' :=
  ⟨h.below.trans k.below, fun p v hp hv hn => k.cell p v (h.cell p v hp hv hn) hv (fun h2 => hn (hs p (World.block_lt_of_cell? w p hp) h2)), fun p hp => (k.froz p (Nat.lt_of_lt_of_le hp h.below.size)).trans (h.froz p hp)⟩

theorem CarsV.below {w w' : World} {A : Option Addr} {cs : List CarIn} (h : CarsV w A cs) (hb : Below w.heap.size w w') : CarsV w' A cs := by
  rcases h with h | ⟨b, off, hA, h⟩
  · exact .inl h
  · exact .inr ⟨b, off, hA, fun i hi => (h i hi).below hb⟩

set_option maxRecDepth 100000 in
set_option maxHeartbeats 2000000 in
theorem inLayout_any (N b bx cp : Nat) (A' : Option Addr) (y : In) (l : List UInt8) (x : BldD) (A : Option Addr) (cap u d : Nat) (code : Int) (w : World) (hu : u < 4294967296) (hd : d < 4294967296) (hF : 0 ≤ x.floors ∧ x.floors ≤ 1000) (hx : 1 ≤ x.cars.length ∧ x.cars.length ≤ 1000) (hn : y.cars.length ≤ 1000) (hy : saneIn y) (hN : N ≤ w.heap.size)
    (hC : Kind.At .wr N w b l) (hR : l.length ≤ 100000) (hp : CellsAt w bx 0 (inHeadV y.pu y.pd y.kind y.car A' y.cars.length cp)) (hf : ∀ j, j < 5 → w.frozen? ⟨bx, j, none⟩ = false) (hpb : bx ≠ b) (hpN : N ≤ bx) (hv : CarsV w A' y.cars) :
    Calls Try.prog 28 #[.agg (fieldsA (Kind.v .wr b) x A cap u d code), .pointer (some ⟨bx, 0, none⟩)] w fun e w' => Kept N (fun p => p.block = b ∨ p.block = bx) w w' ∧
      ((Kind.inOk .wr l y u d x.cars.length x.floors ∧ e = .returned (.tuple #[]) ∧ Kind.At .wr N w' b (Kind.inN .wr l y)) ∨ (¬ Kind.inOk .wr l y u d x.cars.length x.floors ∧ e = refusedP code)) := by
  obtain ⟨hbw, hNb⟩ := Kind.lt hC
  have hpw : bx < w.heap.size := World.block_lt_of_cell? w _ (hp 0 _ rfl)
  obtain ⟨pu, pd, kind, car, cs⟩ := y
  obtain ⟨hpu, hpd, hki, hca, hcs⟩ := hy
  simp only at *
  have c4 := hp 4 _ rfl
  simp only [Nat.zero_add] at c4
  have f4 := hf 4 (by omega)
  have HV := Lib.hid hv
  have HP := Lib.hid hp
  have HF := Lib.hid hf
  clear hv hp hf
  unfold fieldsA
  go_enter Try.func28, Try.ntmps28
  go_wp2_with fail
  have hb0 : Below w.heap.size w (w.alloc (.cells (fieldsA (Kind.v .wr b) x A cap u d code) 77)) := (Below.refl _ _).alloc (Nat.le_refl _) _
  refine (clone_any A' cp cs _ hn (HV.out.below hb0)).mono ?_
  rintro e w1 ⟨hb1, A2, cp2, rfl, hnew⟩
  replace hb1 : Below (w.alloc (.cells (fieldsA (Kind.v .wr b) x A cap u d code) 77)).heap.size (w.alloc (.cells (fieldsA (Kind.v .wr b) x A cap u d code) 77)) w1 := hb1
  replace hnew : NewCars (w.alloc (.cells (fieldsA (Kind.v .wr b) x A cap u d code) 77)) w1 A2 cs := hnew
  have hz0 : (w.alloc (.cells (fieldsA (Kind.v .wr b) x A cap u d code) 77)).heap.size = w.heap.size + 1 := by simp
  have hb2 : Below w.heap.size w w1 := hb0.trans (hb1.mono (by omega))
  have hsz := hb1.size
  obtain ⟨c0, c1, c2, c3, c5, c6, c7, c8, c9, c10, c11, c12⟩ := boxF (wx := w1) (S := fun _ => False) (N := N) (x := x) (A := A) (cap := cap) (u := u) (d := d) (code := code) (c := Kind.v .wr b) rfl (fun _ h => h) (Kept.of_below hb1 (by omega) _)
  have c4' : w1.cell? ⟨bx, 4, none⟩ = some (.slice A' cs.length cp) := (hb2.cell (p := ⟨bx, 4, none⟩) hpw).trans c4
  have f4' : w1.frozen? ⟨bx, 4, none⟩ = false := (hb2.frozen (p := ⟨bx, 4, none⟩) hpw).trans f4
  have hne : ¬ w.heap.size = bx := by omega
  have hne' : ¬ bx = w.heap.size := by omega
  have HB2 := Lib.hid hb2
  have HNEW := Lib.hid hnew
  rw [hz0] at hsz
  clear hb0 hb1 hz0 hb2 hnew c4 f4
  go_wp2_with fail
  have hA1 : Kind.At .wr N (w1.setCell ⟨bx, 4, none⟩ (.slice A2 cs.length cp2)) b l := (hC.below HB2.out).setCell c4' rfl hpb _
  have k1 : Kept N (fun p => p.block = b ∨ p.block = bx) w (w1.setCell ⟨bx, 4, none⟩ (.slice A2 cs.length cp2)) := (Kept.of_below HB2.out hN _).setCell hpN (.inr rfl) _
  have hs1 : (w1.setCell ⟨bx, 4, none⟩ (.slice A2 cs.length cp2)).heap.size = w1.heap.size := by simp [World.setCell]
  have h4 : (w1.setCell ⟨bx, 4, none⟩ (.slice A2 cs.length cp2)).cell? ⟨bx, 4, none⟩ = some (.slice A2 cs.length cp2) := World.cell?_setCell_same _ _ _ c4'
  by_cases hnc : cs.length = x.cars.length
  · rcases HNEW.out with h0 | ⟨g, rfl, hg1, hg2, hg3, hg4⟩
    · subst h0; simp at hnc; omega
    · have hgw : w.heap.size < g := by simp at hg1; omega
      refine (inputs_any .wr N b bx g cp2 pu pd kind car cs l x A cap u d code _ hu hd hF hnc hn hpu hpd hki hca hcs (by omega) hA1 (by show l.length + (10 + 19 * cs.length) ≤ 900000; omega) (fun j v hj => ?_) (fun j hj => ?_) hpb hpN (fun i h => ?_) (fun j => ?_) (by omega) (by omega) (by omega) (by omega)).mono ?_
      · by_cases h4j : j = 4
        · subst h4j; cases hj; exact h4
        · rw [World.cell?_setCell_other _ _ _ _ (by intro he; injection he with _ he; omega), HB2.out.cell (p := ⟨bx, 0 + j, none⟩) hpw]
          refine HP.out j v ?_
          match j, hj with
          | 0, hj => exact hj
          | 1, hj => exact hj
          | 2, hj => exact hj
          | 3, hj => exact hj
          | 4, hj => exact absurd rfl h4j
          | j + 5, hj => cases hj
      · rw [World.frozen?_setCell, HB2.out.frozen (p := ⟨bx, j, none⟩) hpw]
        exact HF.out j (by omega)
      · intro j v hj
        rw [World.cell?_setCell_other _ _ _ _ (by intro he; injection he with he; omega)]
        exact hg3 i h j v hj
      · rw [World.frozen?_setCell]; exact hg4 j
      rintro e w3 ⟨hk3, ⟨ok, rfl, hA3, _, _⟩ | ⟨ok, rfl⟩⟩
      · have hkk : Kept N (fun p => p.block = b ∨ p.block = bx) w w3 := k1.past hk3 (fun p hp hs => hs.elim .inl (fun h => h.elim (fun h => .inr h.1) (fun h => absurd h (by omega))))
        have HKK := Lib.hid hkk
        have HOK := Lib.hid ok
        have HA3 := Lib.hid hA3
        clear hk3 ok hA3 hkk hA1 k1 h4 c0 c1 c2 c3 c5 c6 c7 c8 c9 c10 c11 c12
        go_wp2_with fail
        go_end0
        exact ⟨HKK.out, .inl ⟨⟨hnc, HOK.out.1, HOK.out.2.1, HOK.out.2.2⟩, rfl, HA3.out⟩⟩
      · exact ⟨rfl, k1.past hk3 (fun p hp hs => hs.elim .inl (fun h => h.elim (fun h => .inr h.1) (fun h => absurd h (by omega)))), .inr ⟨fun hh => ok ⟨hh.2.1, hh.2.2.1, hh.2.2.2⟩, rfl⟩⟩
  · refine (inputs_no .wr N b bx cs.length cp2 A2 l x A cap u d code _ hnc (by omega) hA1 h4 hpb).mono ?_
    rintro e w3 ⟨hk3, rfl⟩
    exact ⟨rfl, k1.trans (hk3.mono (fun p hp => .inl hp)), .inr ⟨fun hh => hnc hh.1, rfl⟩⟩
end

section
open Go.RowKit Frm

/-- No inputs yet, for some cars. -/
def noIn (C : Nat) : In := ⟨0, 0, 0, 0, List.replicate C default⟩
/-- What a carrier makes of inputs. -/
def Kind.inR (k : Kind) (l : List UInt8) (y : In) : In := ⟨k.num l y.pu 4, k.num (k.next l y.pu 4) y.pd 4, k.numI (k.headL1 l y.pu y.pd) y.kind 1, k.numI (k.next (k.headL1 l y.pu y.pd) (m64 y.kind) 1) y.car 1, (List.range y.cars.length).map fun i => k.carAt (k.headL2 l y.pu y.pd y.kind y.car) y.cars i⟩

theorem make_cars (n : Nat) (hn : n ≤ 1000) : ∃ C : Array Value, (∀ i, i < n → ∀ j v, (carV default)[j]? = some v → C[i * 11 + j]? = some v) ∧ ∀ w : World, (Instr.makeSlice 31 (.int .i64 n) (.int .i64 n)).run Try.prog w = .ok (.slice (some ⟨w.heap.size, 0, none⟩) n n) (w.alloc (.cells C 71)) := by
  obtain ⟨i0, hi0, hz0, hz1, hz2⟩ := info_parts carInInfo
  refine ⟨madeCells (Value.agg (carV ⟨0, false, false, false, false, 0, false, 0, false, 0, 0⟩).toArray).cells (n * 11), fun i hi j v hj => ?_, fun w => ?_⟩
  · have hj11 : j < 11 := (List.getElem?_eq_some_iff.1 hj).1
    have hsz : (madeCells (Value.agg (carV ⟨0, false, false, false, false, 0, false, 0, false, 0, 0⟩).toArray).cells (n * 11)).size = n * 11 := size_madeCells _ _
    have hlt : i * 11 + j < n * 11 := by omega
    rw [Array.getElem?_eq_getElem (by rw [hsz]; exact hlt)]
    have hmod : (i * 11 + j) % 11 = j := by omega
    have hs : (Value.agg (carV ⟨0, false, false, false, false, 0, false, 0, false, 0, 0⟩).toArray).cells.size = 11 := rfl
    simp only [madeCells, Array.getElem_map, Array.getElem_range, hs, hmod]
    match j, hj with
    | 0, hj => exact hj
    | 1, hj => exact hj
    | 2, hj => exact hj
    | 3, hj => exact hj
    | 4, hj => exact hj
    | 5, hj => exact hj
    | 6, hj => exact hj
    | 7, hj => exact hj
    | 8, hj => exact hj
    | 9, hj => exact hj
    | 10, hj => exact hj
    | j + 11, hj => omega
  · have := run_make (P := Try.prog) w 31 71 i0 _ Try.underlying31 hi0 hz0 .i64 .i64 n n (by omega) (Int.le_refl _) (by rw [hz2]; omega) (by omega)
    rw [this, Int.toNat_natCast, hz1]

set_option maxRecDepth 100000 in
set_option maxHeartbeats 2000000 in
theorem readLayout_any (N b bx bb : Nat) (l : List UInt8) (x : BldD) (A : Option Addr) (cap u d : Nat) (code : Int) (w : World) (hu : u < 4294967296) (hd : d < 4294967296) (hF : 0 ≤ x.floors ∧ x.floors ≤ 1000) (hx : 1 ≤ x.cars.length ∧ x.cars.length ≤ 1000) (hN : N ≤ w.heap.size)
    (hC : Kind.At .rd N w b l) (hR : 10 + 19 * x.cars.length ≤ l.length ∧ l.length ≤ 100000) (hp : CellsAt w bx 0 (inHeadV 0 0 0 0 none 0 0)) (hf : ∀ j, j < 5 → w.frozen? ⟨bx, j, none⟩ = false) (hpb : bx ≠ b) (hpN : N ≤ bx)
    (hbb : w.cell? ⟨bb, 7, none⟩ = some (.slice A x.cars.length cap)) :
    Calls Try.prog 37 #[.agg (fieldsA (Kind.v .rd b) x A cap u d code), .pointer (some ⟨bb, 0, none⟩), .pointer (some ⟨bx, 0, none⟩)] w fun e w' => Kept N (fun p => p.block = b ∨ p.block = bx) w w' ∧
      ((Kind.inOk .rd l (noIn x.cars.length) u d x.cars.length x.floors ∧ e = .returned (.tuple #[]) ∧ ∃ g, w.heap.size < g ∧ g < w'.heap.size ∧
          CellsAt w' bx 0 (inHeadV (Kind.inR .rd l (noIn x.cars.length)).pu (Kind.inR .rd l (noIn x.cars.length)).pd (Kind.inR .rd l (noIn x.cars.length)).kind (Kind.inR .rd l (noIn x.cars.length)).car (some ⟨g, 0, none⟩) x.cars.length x.cars.length) ∧
          ∀ i, i < x.cars.length → CellsAt w' g (i * 11) (carV ((Kind.inR .rd l (noIn x.cars.length)).cars.getD i default))) ∨ (¬ Kind.inOk .rd l (noIn x.cars.length) u d x.cars.length x.floors ∧ e = refusedP code)) := by
  obtain ⟨hbw, hNb⟩ := Kind.lt hC
  have hpw : bx < w.heap.size := World.block_lt_of_cell? w _ (hp 0 _ rfl)
  have hbbw : bb < w.heap.size := World.block_lt_of_cell? w _ hbb
  have c4 := hp 4 _ rfl
  simp only [Nat.zero_add] at c4
  have f4 := hf 4 (by omega)
  obtain ⟨C, hCC, hmk⟩ := make_cars x.cars.length hx.2
  have HCC := Lib.hid hCC
  have HP := Lib.hid hp
  have HF := Lib.hid hf
  clear hp hf hCC
  have c4' : ∀ o o', ((w.alloc o).alloc o').cell? ⟨bx, 4, none⟩ = some (.slice none 0 0) := fun o o' => (World.cell?_of_block (w := w) (((Below.heap_alloc _ o' bx (by simp; omega))).trans (Below.heap_alloc w o bx hpw))).trans c4
  have hne : ¬ w.heap.size = bx := by omega
  have hne' : ¬ bx = w.heap.size := by omega
  unfold fieldsA
  go_enter Try.func37, Try.ntmps37
  go_wp2_with fail
  obtain ⟨W0, hW0⟩ : ∃ W0, W0 = w.setCell ⟨bx, 4, none⟩ (.slice (some ⟨w.heap.size + 1, 0, none⟩) x.cars.length x.cars.length) := ⟨_, rfl⟩
  rw [← hW0]
  have hs0 : W0.heap.size = w.heap.size := by rw [hW0]; simp [World.setCell]
  have hA0 : Kind.At .rd N W0 b l := by rw [hW0]; exact hC.setCell c4 rfl hpb _
  have k0 : Kept N (fun p => p.block = b ∨ p.block = bx) w W0 := by rw [hW0]; exact (Kept.refl _ _ _).setCell hpN (.inr rfl) _
  have h4 : W0.cell? ⟨bx, 4, none⟩ = some (.slice (some ⟨w.heap.size + 1, 0, none⟩) x.cars.length x.cars.length) := by rw [hW0]; exact World.cell?_setCell_same _ _ _ c4
  have hh : CellsAt W0 bx 0 (inHeadV 0 0 0 0 (some ⟨w.heap.size + 1, 0, none⟩) x.cars.length x.cars.length) := by
    intro j v hj
    by_cases h4j : j = 4
    · subst h4j; cases hj; exact h4
    · rw [hW0, World.cell?_setCell_other _ _ _ _ (by intro he; injection he with _ he; omega)]
      refine HP.out j v ?_
      match j, hj with
      | 0, hj => exact hj
      | 1, hj => exact hj
      | 2, hj => exact hj
      | 3, hj => exact hj
      | 4, hj => exact absurd rfl h4j
      | j + 5, hj => cases hj
  have hfz : ∀ j, j < 5 → W0.frozen? ⟨bx, j, none⟩ = false := fun j hj => by rw [hW0, World.frozen?_setCell]; exact HF.out j hj
  obtain ⟨o1, ho1⟩ : ∃ o1, o1 = Obj.cells #[Kind.v .rd b, .int .i64 x.floors, .int .i64 x.debounce, .int .i64 x.room, .int .i64 x.park, .float .f64 x.empty, .float .f64 x.full, .float .f64 x.over, .slice A x.cars.length cap, .int .u32 u, .int .u32 d, .int .i64 code] 77 := ⟨_, rfl⟩
  rw [← ho1]
  have hb1 : Below W0.heap.size W0 ((W0.alloc o1).alloc (.cells C 71)) := ((Below.refl _ _).alloc (Nat.le_refl _) _).alloc (by simp) _
  have hs2 : ((W0.alloc o1).alloc (.cells C 71)).heap.size = w.heap.size + 2 := by simp [hs0]
  have hgn : ((W0.alloc o1).alloc (.cells C 71)).heap[w.heap.size + 1]? = some (.cells C 71 (0, 0)) := by
    have := heap_alloc_new (W0.alloc o1) (.cells C 71)
    have e : (W0.alloc o1).heap.size = w.heap.size + 1 := by simp [hs0]
    rw [e] at this; exact this
  have hlen : (noIn x.cars.length).cars.length = x.cars.length := by simp [noIn]
  have hzc : ∀ i (h : i < (noIn x.cars.length).cars.length), (noIn x.cars.length).cars[i] = default := fun i h => by simp [noIn]
  have k2 : Kept N (fun p => p.block = b ∨ p.block = bx) w ((W0.alloc o1).alloc (.cells C 71)) := k0.trans (Kept.of_below hb1 (by omega) _)
  have hA2 := hA0.below hb1
  have hh2 := hh.below hb1
  have hf2 : ∀ j, j < 5 → ((W0.alloc o1).alloc (.cells C 71)).frozen? ⟨bx, j, none⟩ = false := fun j hj => (hb1.frozen (p := ⟨bx, j, none⟩) (by show bx < W0.heap.size; omega)).trans (hfz j hj)
  rw [ho1] at *
  clear ho1 hb1 hW0 k0 hA0 hh hfz h4 c4 c4' f4 hmk
  have h0 := inputs_any .rd N b bx (w.heap.size + 1) x.cars.length 0 0 0 0 (noIn x.cars.length).cars l x A cap u d code _ hu hd hF hlen (by rw [hlen]; exact hx.2) (by omega) (by omega) ⟨by omega, by omega⟩ ⟨by omega, by omega⟩ (fun c hc => by
      simp only [noIn, List.mem_replicate] at hc
      rw [hc.2]
      exact ⟨by decide, by decide, by decide, ⟨by decide, by decide⟩, by decide, by decide⟩) (by rw [hs2]; omega) hA2 (by rw [hlen]; exact ⟨hR.1, by omega⟩) (by rw [hlen]; exact hh2) (fun j hj => hf2 j (by omega)) hpb hpN (fun i h => by
      rw [hzc i h]
      intro j v hj
      rw [cell_of_row _ _ _ _ _ (0, 0) hgn]
      exact HCC.out i (by rw [hlen] at h; exact h) j v hj) (fun j => by simp [World.frozen?, hgn]) (by omega) (by omega) (by omega) (by rw [hs2]; omega)
  refine h0.mono ?_
  rintro e w3 ⟨hk3, ⟨ok, rfl, hA3, hh3, hc3⟩ | ⟨ok, rfl⟩⟩
  · have hkk : Kept N (fun p => p.block = b ∨ p.block = bx) w w3 := k2.past hk3 (fun p hp hs => hs.elim .inl (fun h => h.elim (fun h => .inr h.1) (fun h => absurd h (by omega))))
    rw [hlen] at hh3
    have HKK := Lib.hid hkk
    have HOK := Lib.hid ok
    have HH3 := Lib.hid hh3
    have HC3 := Lib.hid hc3
    have HS3 := Lib.hid hk3.below.size
    have HS2 := Lib.hid hs2
    have HLEN := Lib.hid hlen
    clear hk3 ok hA3 hkk hh3 hc3 hA2 hh2 hf2 k2 hgn h0 hs2 hlen hzc
    go_wp2_with fail
    go_end0
    refine ⟨HKK.out, .inl ⟨⟨HLEN.out, HOK.out⟩, rfl, w.heap.size + 1, by omega, by have := HS3.out; have h2 := HS2.out; omega, HH3.out, fun i h => ?_⟩⟩
    have := HC3.out i (by have e := HLEN.out; omega)
    simp only [Kind.inR]
    rw [List.getD_eq_getElem?_getD, List.getElem?_map, List.getElem?_range (by have e := HLEN.out; omega)]
    exact this
  · exact ⟨rfl, k2.past hk3 (fun p hp hs => hs.elim .inl (fun h => h.elim (fun h => .inr h.1) (fun h => absurd h (by omega)))), .inr ⟨fun hh => ok hh.2, rfl⟩⟩
end

section
open Go.RowKit Frm

theorem hallUp_lt (x : BldD) : hallUp x < 4294967296 := by
  unfold hallUp
  split
  · rename_i h
    have hF := fine_of h
    have : 2 ^ (x.floors.toNat - 1) ≤ 2 ^ 31 := Nat.pow_le_pow_right (by omega) (by have := hF.floors; omega)
    omega
  · omega
theorem hallDown_lt (x : BldD) : hallDown x < 4294967296 := by
  unfold hallDown
  split
  · rename_i h
    have hF := fine_of h
    have : 2 ^ x.floors.toNat ≤ 2 ^ 32 := Nat.pow_le_pow_right (by omega) (by have := hF.floors; omega)
    have h1 : 1 ≤ 2 ^ x.floors.toNat := Nat.one_le_two_pow
    omega
  · omega

/-- []byte(s): a row that may be appended to. -/
theorem text_new (w : World) (s : ByteArray) (hs : s.size ≤ 1000000) : ∃ cap, (convert 9 55 (.string s)).run Try.prog w = .ok (.slice (some ⟨w.heap.size, 0, none⟩) s.size cap) (w.drew.alloc (.cells (bytesRow s cap) 5 ((bytesRow s cap).size, (bytesRow s cap).size + 1))) ∧
    TextAt (w.drew.alloc (.cells (bytesRow s cap) 5 ((bytesRow s cap).size, (bytesRow s cap).size + 1))) w.heap.size cap (bl s) := by
  refine ⟨_, run_bytes_of_string w 9 55 5 s Try.underlying9 Try.underlying55 Try.underlying5, ?_⟩
  have hge := grownCap_ge w s.size 0 5
  have hle : grownCap w s.size 0 5 ≤ maxLen := grownCap_le_maxLen w s.size 0 5 (by unfold maxLen; omega)
  generalize grownCap w s.size 0 5 = C at *
  have hsz : (bytesRow s C).size = C := by
    have : s.data.size = s.size := rfl
    simp [bytesRow]; omega
  refine ⟨bytesRow s C, _, _, heap_alloc_new w.drew _, fun o ho => by omega, by rw [bl_len]; exact hge, hsz.symm, hle, fun j hj => ?_, fun j v hv => ?_⟩
  · have hj' : j < s.data.size := by rw [bl_len] at hj; exact hj
    rw [bytesRow_at s C j hj']
    simp [bl, List.getD, Array.getElem?_eq_getElem hj']
  · have := Array.mem_of_getElem? hv
    simp only [bytesRow, Array.mem_append, Array.mem_map, Array.mem_replicate] at this
    rcases this with ⟨b, _, rfl⟩ | ⟨_, rfl⟩ <;> rfl

/-- What bytes of a text are, converted back. -/
theorem text_back {w : World} {g cap : Nat} {l : List UInt8} (h : TextAt w g cap l) : (convert 55 9 (.slice (some ⟨g, 0, none⟩) l.length cap)).run Try.prog w = .ok (.string ⟨l.toArray⟩) w := by
  refine run_convert_bytes_back _ _ _ 5 _ cap l (by kernel_rfl) (by kernel_rfl) (by kernel_rfl) fun j hj => ?_
  rw [addr_add, h.cell hj]
  simp [List.getD, hj]

theorem Kind.At.grown {k : Kind} {N b er : Nat} {w w' : World} {l : List UInt8} (h : k.At N w b l) (hg : w.grownBy w' (some er)) {v : Value} (he : w.cell? ⟨er, 0, none⟩ = some v) (hv : plainV v = true) (hb : b ≠ er) : k.At N w' b l := by
  have hlt := (Kind.lt h).1
  have hblk : w'.heap[b]? = w.heap[b]? := hg.block b hlt (fun e => hb (Option.some.inj e))
  cases k
  · obtain ⟨h1, h2, g, cap, h3, hc, ht⟩ := h
    have hne : g ≠ er := fun e => (ht.apart he hv) e.symm
    exact ⟨h1, (World.frozen?_of_block (w := w) hblk).trans h2, g, cap, h3, (World.cell?_of_block (w := w) hblk).trans hc, ht.of_block (hg.block g ht.lt (fun e => hne (Option.some.inj e)))⟩
  · exact ⟨h.1, (World.frozen?_of_block (w := w) hblk).trans h.2.1, (World.cell?_of_block (w := w) hblk).trans h.2.2⟩

theorem carN_length (l : List UInt8) (c : CarIn) : (Kind.carN .wr l c).length = l.length + 19 := by
  simp only [Kind.carN, Kind.carL5, Kind.carL4, Kind.carL3, Kind.carL2, Kind.next, List.length_append, numL_length]
theorem carsN_length : ∀ (cs : List CarIn) (l : List UInt8), (Kind.carsN .wr l cs).length = l.length + 19 * cs.length
  | [], l => by simp [Kind.carsN]
  | c :: cs, l => by rw [Kind.carsN, carsN_length cs, carN_length, List.length_cons]; omega
theorem inN_length (l : List UInt8) (y : In) : (Kind.inN .wr l y).length = l.length + 10 + 19 * y.cars.length := by
  simp only [Kind.inN, carsN_length, Kind.headL2, Kind.headL1, Kind.next, List.length_append, numL_length]

/-- The inputs that In accepts. -/
def inOk (x : BldD) (y : In) : Prop := validE x = 0 ∧ Kind.inOk .wr (headL 165 x.cars.length) y (hallUp x) (hallDown x) x.cars.length x.floors
def inText (x : BldD) (y : In) : List UInt8 := sealL (Kind.inN .wr (headL 165 x.cars.length) y)

theorem enter28 (args : Array Value) (w : World) : (callFunc 28 args).run Try.prog w = .ok (.enter 28 args) w := by kernel_rfl

set_option maxRecDepth 100000 in
set_option maxHeartbeats 4000000 in
theorem writeIn_any (N bx cp : Nat) (A' : Option Addr) (y : In) (x : BldD) (A : Option Addr) (cap : Nat) (w : World) (hxn : x.cars.length ≤ 140737488355328) (hc : CarsAt w w.heap.size A x.cars) (hn : y.cars.length ≤ 1000) (hy : saneIn y) (hN : N ≤ w.heap.size)
    (hp : CellsAt w bx 0 (inHeadV y.pu y.pd y.kind y.car A' y.cars.length cp)) (hf : ∀ j, j < 5 → w.frozen? ⟨bx, j, none⟩ = false) (hpN : N ≤ bx) (hv : CarsV w A' y.cars) :
    Calls Try.prog 27 #[x.agg A cap, .int .u8 165, .func (.func 28) #[] #[.pointer (some ⟨bx, 0, none⟩)]] w fun e w' => Below N w w' ∧
      ((inOk x y ∧ e = .returned (.tuple #[.string ⟨(inText x y).toArray⟩, .int .i64 0])) ∨ (¬ inOk x y ∧ e = .returned (.tuple #[.string ⟨#[]⟩, .int .i64 1]))) := by
  have hpw : bx < w.heap.size := World.block_lt_of_cell? w _ (hp 0 _ rfl)
  have HC := Lib.hid hc
  have HP := Lib.hid hp
  have HF := Lib.hid hf
  have HV := Lib.hid hv
  have HVA := Lib.hid (fun wx (h : Below w.heap.size w wx) => valid_any x A cap wx hxn ((HC.out.below h).more h.size))
  have HHD := Lib.hid (fun wx (hx : x.cars.length < 256) => head_any x A cap 165 wx (by omega) hx)
  have HFO := Lib.hid (fun b wx (h : Below w.heap.size w wx) => fieldsOf_any 107 (.pointer (some ⟨b, 0, none⟩)) x A cap 1 wx hxn ((HC.out.below h).more h.size))
  clear hc hp hf hv
  by_cases hva : validE x = 0
  · have hF := fine_of hva
    have HFI := Lib.hid hF
    have hC1 : 1 ≤ x.cars.length ∧ x.cars.length ≤ 8 := hF.cars
    have hFl : 0 ≤ x.floors ∧ x.floors ≤ 1000 := by have := hF.floors; omega
    have HU := Lib.hid (hallUp_lt x)
    have HD := Lib.hid (hallDown_lt x)
    have HOKD : Hid (inOk x y ↔ Kind.inOk .wr (headL 165 x.cars.length) y (hallUp x) (hallDown x) x.cars.length x.floors) := ⟨fun h => h.2, fun h => ⟨hva, h⟩⟩
    rw [hva] at HVA
    clear hva hF
    generalize hallUp x = U at *
    generalize hallDown x = D at *
    have HTX : Hid (inText x y = sealL (Kind.inN .wr (headL 165 x.cars.length) y)) := rfl
    generalize inText x y = T at *
    generalize inOk x y = OK at *
    have hl2 : (headL 165 x.cars.length).length = 2 := rfl
    generalize headL 165 x.cars.length = L at *
    obtain ⟨f, d, r, p, e1, e2, e3, cs⟩ := x
    simp only [BldD.agg] at *
    go_enter Try.func27, Try.ntmps27
    go_wp2_with fail
    refine (HVA.out _ (by go_grown)).mono ?_
    rintro e w1 ⟨rfl, hb1⟩
    have hx1 : Below (w.heap.size + 1) (w.alloc (.cells #[.int .i64 f, .int .i64 d, .int .i64 r, .int .i64 p, .float .f64 e1, .float .f64 e2, .float .f64 e3, .slice A cs.length cap] 25)) w1 := hb1.mono (by simp)
    obtain ⟨-, g0, g1, g2, g3, g4, g5, g6, g7⟩ := boxS hx1
    go_wp2_with fail
    refine (HHD.out _ (by omega)).mono ?_
    rintro e w2 ⟨rfl, hb2⟩
    have hs1 := box_size hx1
    have hx2 := hx1.trans (hb2.mono hs1)
    have hs2 := box_size hx2
    clear g0 g1 g2 g3 g4 g5 g6 g7 hb1 hb2
    obtain ⟨-, g0, g1, g2, g3, g4, g5, g6, g7⟩ := boxS hx2
    obtain ⟨gc, hconv, htext⟩ := text_new w2 ⟨L.toArray⟩ (by show L.toArray.size ≤ _; rw [List.size_toArray]; omega)
    have hts : (⟨L.toArray⟩ : ByteArray).size = 2 := by show L.toArray.size = 2; rw [List.size_toArray]; exact hl2
    rw [hts] at hconv
    have hpast : ∀ o o' j, ((w2.alloc o).alloc o').cell? ⟨w.heap.size, j, none⟩ = w2.cell? ⟨w.heap.size, j, none⟩ := fun o o' j => World.cell?_of_block (w := w2) ((Below.heap_alloc (w2.alloc o) o' w.heap.size (by simp; omega)).trans (Below.heap_alloc w2 o w.heap.size (by omega)))
    have p0 := fun o o' => (hpast o o' 0).trans g0
    have p1 := fun o o' => (hpast o o' 1).trans g1
    have p2 := fun o o' => (hpast o o' 2).trans g2
    have p3 := fun o o' => (hpast o o' 3).trans g3
    have p4 := fun o o' => (hpast o o' 4).trans g4
    have p5 := fun o o' => (hpast o o' 5).trans g5
    have p6 := fun o o' => (hpast o o' 6).trans g6
    have p7 := fun o o' => (hpast o o' 7).trans g7
    obtain ⟨o1, ho1⟩ : ∃ o1, o1 = Obj.cells (bytesRow ⟨L.toArray⟩ gc) 5 ((bytesRow ⟨L.toArray⟩ gc).size, (bytesRow ⟨L.toArray⟩ gc).size + 1) := ⟨_, rfl⟩
    rw [← ho1] at hconv htext
    have HX2 := Lib.hid hx2
    have HTT := Lib.hid htext
    clear hpast htext hx1 hx2 ho1
    go_wp2_with fail
    obtain ⟨W4, hW4⟩ : ∃ W4, W4 = ((w2.alloc o1).alloc (.cells #[.slice (some ⟨w2.heap.size, 0, none⟩) 2 gc] 110)).drew := ⟨_, rfl⟩
    rw [← hW4]
    have hb24 : Below w2.heap.size w2 W4 := by rw [hW4]; exact (((Below.refl _ _).alloc (Nat.le_refl _) _).alloc (by simp) _).drew
    have hbw4 : Below w.heap.size w W4 := (below_of_new HX2.out).trans (hb24.mono (by omega))
    have hs4 : W4.heap.size = w2.heap.size + 2 := by rw [hW4]; simp [World.drew]
    have hg4 : W4.heap[w2.heap.size + 1]? = some (.cells #[.slice (some ⟨w2.heap.size, 0, none⟩) 2 gc] 110 (0, 0)) := by
      rw [hW4]
      have := heap_alloc_new (w2.alloc o1) (.cells #[.slice (some ⟨w2.heap.size, 0, none⟩) 2 gc] 110)
      have e : (w2.alloc o1).heap.size = w2.heap.size + 1 := by simp
      rw [e] at this; exact this
    have hT4 : TextAt W4 w2.heap.size gc L := by
      have h1 : TextAt (w2.drew.alloc o1) w2.heap.size gc L := HTT.out
      refine h1.of_block ?_
      rw [hW4]
      exact Below.heap_alloc (w2.alloc o1) _ w2.heap.size (by simp)
    have hA4 : Kind.At .wr N W4 (w2.heap.size + 1) L := ⟨by omega, by simp [World.frozen?, hg4], w2.heap.size, gc, by omega, by rw [cell_of_row _ _ _ _ _ (0, 0) hg4, hl2]; rfl, hT4⟩
    have hA4' := Lib.hid hA4
    have HBW4 := Lib.hid hbw4
    clear hW4 hb24 hbw4 hg4 hT4 hA4 hconv
    clear g0 g1 g2 g3 g4 g5 g6 g7 p0 p1 p2 p3 p4 p5 p6 p7
    refine (HFO.out (w2.heap.size + 1) W4 HBW4.out).mono ?_
    rintro e w5 ⟨rfl, hb5⟩
    have hbw5 := HBW4.out.trans (hb5.mono HBW4.out.size)
    have hA5 := Lib.hid (hA4'.out.below hb5)
    have HBW5 := Lib.hid hbw5
    have hs5 : W4.heap.size ≤ w5.heap.size := hb5.size
    clear hb5 hbw5
    go_wp2_with fail
    refine (run_any 28 #[] #[.pointer (some ⟨bx, 0, none⟩)] (fun w1 => Kind.inOk .wr L y U D cs.length f ∧ Kind.At .wr N w1 (w2.heap.size + 1) (Kind.inN .wr L y) ∧ Below N w w1) (fun w1 => ¬ Kind.inOk .wr L y U D cs.length f ∧ Below N w w1) _ ⟨f, d, r, p, e1, e2, e3, cs⟩ A cap U D 1 w5 enter28 (fun wx hbx hsx hcx hfx => ?_)).mono ?_
    · have hwx := HBW5.out.trans (hbx.mono HBW5.out.size)
      refine (inLayout_any N (w2.heap.size + 1) bx cp A' y L ⟨f, d, r, p, e1, e2, e3, cs⟩ A cap U D 1 wx HU.out HD.out hFl ⟨hC1.1, by show cs.length ≤ 1000; omega⟩ hn hy (by omega) (hA5.out.below hbx) (by omega) (HP.out.below hwx) (fun j hj => (hwx.frozen (p := ⟨bx, j, none⟩) hpw).trans (HF.out j hj)) (by omega) hpN (HV.out.below hwx)).mono ?_
      rintro e w6 ⟨hk6, hr6⟩
      refine ⟨hk6.cell _ _ hcx rfl (fun hh => hh.elim (fun h => by have : w5.heap.size + 1 = w2.heap.size + 1 := h; omega) (fun h => by have : w5.heap.size + 1 = bx := h; have := HBW5.out.size; omega)), (hk6.froz _ (by show w5.heap.size + 1 < wx.heap.size; omega)).trans hfx, ?_⟩
      have hb6 : Below N w w6 := (hwx.mono hN).trans hk6.below
      rcases hr6 with ⟨ok, rfl, hA6⟩ | ⟨ok, rfl⟩
      · exact .inl ⟨rfl, ok, hA6, hb6⟩
      · exact .inr ⟨rfl, ok, hb6⟩
    rintro e w7 ⟨w6, hc6, hg6, ⟨rfl, ok, hA6, hb6⟩ | ⟨rfl, ok, hb6⟩⟩
    · have hA7 := hA6.grown hg6 hc6 rfl (by omega)
      obtain ⟨hq1, hq2, g, gcap, hq3, hq4, hq5⟩ := hA7
      have hb7 : Below N w w7 := hb6.grown hg6 (by have := hb6.size; omega) (fun k hk => by simp at hk; have := HBW5.out.size; omega)
      have HB7 := Lib.hid hb7
      have HOK := Lib.hid (HOKD.out.2 ok)
      have hback := text_back hq5
      have hNl : (Kind.inN .wr L y).length ≤ 900000 := by rw [inN_length]; omega
      generalize Kind.inN .wr L y = M at *
      clear hA6 hb6 hb7 ok hc6 hg6 hq5
      go_wp2_with fail
      refine (seal_any ⟨M.toArray⟩ _ (by show M.toArray.size ≤ _; rw [List.size_toArray]; omega)).mono ?_
      rintro e w8 ⟨rfl, hb8⟩
      go_wp2_with fail
      go_ret2
      exact ⟨HB7.out.trans (hb8.mono (by have := HB7.out.size; omega)), .inl ⟨HOK.out, by rw [HTX.out]; rfl⟩⟩
    · have hb7 : Below N w w7 := hb6.grown hg6 (by have := hb6.size; omega) (fun k hk => by simp at hk; have := HBW5.out.size; omega)
      have HB7 := Lib.hid hb7
      have HOK : Hid (¬ OK) := fun h => ok (HOKD.out.1 h)
      clear hb6 hb7 ok hc6 hg6
      go_wp2_with fail
      go_ret2
      exact ⟨HB7.out, .inr ⟨HOK.out, rfl⟩⟩
  · have HNV : Hid (¬ inOk x y) := fun h => hva h.1
    have hne : (validE x != 0) = true := bne_iff_ne.2 hva
    generalize validE x = V at *
    clear hva
    obtain ⟨f, d, r, p, e1, e2, e3, cs⟩ := x
    simp only [BldD.agg] at *
    go_enter Try.func27, Try.ntmps27
    go_wp2_with fail
    refine (HVA.out _ (by go_grown)).mono ?_
    rintro e w1 ⟨rfl, hb1⟩
    go_wp2_with fail
    go_ret2
    exact ⟨(((Below.refl w.heap.size w).alloc (Nat.le_refl _) _).trans (hb1.mono (by simp))).mono hN, .inr ⟨HNV.out, rfl⟩⟩
end
end Go.Proofs.Ythbfpdkgbkpmiaa
