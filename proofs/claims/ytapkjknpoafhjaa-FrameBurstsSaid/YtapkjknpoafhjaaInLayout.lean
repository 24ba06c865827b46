/- frame.In's layout: the cars are cloned, and the inputs carried. No statement of the seat is proved here. -/
import Derived.Test.YtapkjknpoafhjaaInputs
import Derived.Test.YtapkjknpoafhjaaClone
import Derived.Test.YtapkjknpoafhjaaRun
namespace Go.Proofs.Ytapkjknpoafhjaa
open Go.RowKit Frm

/-- Inputs that a carrier accepts. -/
def Kind.inOk (k : Kind) (l : List UInt8) (x : In) (u d C : Nat) (F : Int) : Prop :=
  x.cars.length = C ∧ k.headOk1 l x.pu x.pd u d ∧ k.headOk2 (k.headL1 l x.pu x.pd) x.kind x.car x.cars.length ∧ ∀ i (h : i < x.cars.length), k.carOk (k.carsN (k.headL2 l x.pu x.pd x.kind x.car) (x.cars.take i)) x.cars[i] (u ||| d) F
/-- The text behind them. -/
def Kind.inN (k : Kind) (l : List UInt8) (x : In) : List UInt8 := k.carsN (k.headL2 l x.pu x.pd x.kind x.car) x.cars
/-- The numbers are those of their types. -/
def saneIn (x : In) : Prop := x.pu < 4294967296 ∧ x.pd < 4294967296 ∧ In64 x.kind ∧ In64 x.car ∧ ∀ c ∈ x.cars, saneCar c

theorem Kept.past {N : Nat} {S S2 : Addr → Prop} {w w' w'' : World} (h : Kept N S w w') (k : Kept N S2 w' w'') (hs : ∀ p, p.block < w.heap.size → S2 p → S p) : Kept N S w w'' :=
  ⟨h.below.trans k.below, fun p v hp hv hn => k.cell p v (h.cell p v hp hv hn) hv (fun h2 => hn (hs p (World.block_lt_of_cell? w p hp) h2)), fun p hp => (k.froz p (Nat.lt_of_lt_of_le hp h.below.size)).trans (h.froz p hp)⟩

theorem CarsV.below {w w' : World} {A : Option Addr} {cs : List CarIn} (h : CarsV w A cs) (hb : Below w.heap.size w w') : CarsV w' A cs := by
  rcases h with h | ⟨b, off, hA, h⟩
  · exact .inl h
  · exact .inr ⟨b, off, hA, fun i hi => (h i hi).below hb⟩

set_option maxRecDepth 100000 in
set_option maxHeartbeats 2000000 in
theorem inLayout_any (N b bx cp : Nat) (A' : Option Addr) (y : In) (l : List UInt8) (x : BldD) (A : Option Addr) (cap u d : Nat) (code : Int) (w : World) (hu : u < 4294967296) (hd : d < 4294967296) (hF : 0 ≤ x.floors ∧ x.floors ≤ 1000) (hx : 1 ≤ x.cars.length ∧ x.cars.length ≤ 1000) (hn : y.cars.length ≤ 1000) (hy : saneIn y) (hN : N ≤ w.heap.size)
    (hC : Kind.At .wr N w b l) (hR : l.length ≤ 100000) (hp : CellsAt w bx 0 (inHeadV y.pu y.pd y.kind y.car A' y.cars.length cp)) (hf : ∀ j, j < 5 → w.frozen? ⟨bx, j, none⟩ = false) (hpb : bx ≠ b) (hpN : N ≤ bx) (hv : CarsV w A' y.cars) :
    Calls Try.prog 28 #[.agg (fieldsA (Kind.v .wr b) x A cap u d code), .pointer (some ⟨bx, 0, none⟩)] w fun e w' => Kept N (fun p => p.block = b ∨ p.block = bx) w w' ∧
      ((Kind.inOk .wr l y u d x.cars.length x.floors ∧ e = .returned (.tuple #[]) ∧ Kind.At .wr N w' b (Kind.inN .wr l y)) ∨ (¬ Kind.inOk .wr l y u d x.cars.length x.floors ∧ e = refusedP code)) := by
  obtain ⟨hbw, hNb⟩ := Kind.lt hC
  have hpw : bx < w.heap.size := World.block_lt_of_cell? w _ (hp 0 _ rfl)
  obtain ⟨pu, pd, kind, car, cs⟩ := y
  obtain ⟨hpu, hpd, hki, hca, hcs⟩ := hy
  simp only at *
  have c4 := hp 4 _ rfl
  simp only [Nat.zero_add] at c4
  have f4 := hf 4 (by omega)
  have HV := Lib.hid hv
  have HP := Lib.hid hp
  have HF := Lib.hid hf
  clear hv hp hf
  unfold fieldsA
  go_enter Try.func28, Try.ntmps28
  go_wp2_with fail
  have hb0 : Below w.heap.size w (w.alloc (.cells (fieldsA (Kind.v .wr b) x A cap u d code) 77)) := (Below.refl _ _).alloc (Nat.le_refl _) _
  refine (clone_any A' cp cs _ hn (HV.out.below hb0)).mono ?_
  rintro e w1 ⟨hb1, A2, cp2, rfl, hnew⟩
  replace hb1 : Below (w.alloc (.cells (fieldsA (Kind.v .wr b) x A cap u d code) 77)).heap.size (w.alloc (.cells (fieldsA (Kind.v .wr b) x A cap u d code) 77)) w1 := hb1
  replace hnew : NewCars (w.alloc (.cells (fieldsA (Kind.v .wr b) x A cap u d code) 77)) w1 A2 cs := hnew
  have hz0 : (w.alloc (.cells (fieldsA (Kind.v .wr b) x A cap u d code) 77)).heap.size = w.heap.size + 1 := by simp
  have hb2 : Below w.heap.size w w1 := hb0.trans (hb1.mono (by omega))
  have hsz := hb1.size
  obtain ⟨c0, c1, c2, c3, c5, c6, c7, c8, c9, c10, c11, c12⟩ := boxF (wx := w1) (S := fun _ => False) (N := N) (x := x) (A := A) (cap := cap) (u := u) (d := d) (code := code) (c := Kind.v .wr b) rfl (fun _ h => h) (Kept.of_below hb1 (by omega) _)
  have c4' : w1.cell? ⟨bx, 4, none⟩ = some (.slice A' cs.length cp) := (hb2.cell (p := ⟨bx, 4, none⟩) hpw).trans c4
  have f4' : w1.frozen? ⟨bx, 4, none⟩ = false := (hb2.frozen (p := ⟨bx, 4, none⟩) hpw).trans f4
  have hne : ¬ w.heap.size = bx := by omega
  have hne' : ¬ bx = w.heap.size := by omega
  have HB2 := Lib.hid hb2
  have HNEW := Lib.hid hnew
  rw [hz0] at hsz
  clear hb0 hb1 hz0 hb2 hnew c4 f4
  go_wp2_with fail
  have hA1 : Kind.At .wr N (w1.setCell ⟨bx, 4, none⟩ (.slice A2 cs.length cp2)) b l := (hC.below HB2.out).setCell c4' rfl hpb _
  have k1 : Kept N (fun p => p.block = b ∨ p.block = bx) w (w1.setCell ⟨bx, 4, none⟩ (.slice A2 cs.length cp2)) := (Kept.of_below HB2.out hN _).setCell hpN (.inr rfl) _
  have hs1 : (w1.setCell ⟨bx, 4, none⟩ (.slice A2 cs.length cp2)).heap.size = w1.heap.size := by simp [World.setCell]
  have h4 : (w1.setCell ⟨bx, 4, none⟩ (.slice A2 cs.length cp2)).cell? ⟨bx, 4, none⟩ = some (.slice A2 cs.length cp2) := World.cell?_setCell_same _ _ _ c4'
  by_cases hnc : cs.length = x.cars.length
  · rcases HNEW.out with h0 | ⟨g, rfl, hg1, hg2, hg3, hg4⟩
    · subst h0; simp at hnc; omega
    · have hgw : w.heap.size < g := by simp at hg1; omega
      refine (inputs_any .wr N b bx g cp2 pu pd kind car cs l x A cap u d code _ hu hd hF hnc hn hpu hpd hki hca hcs (by omega) hA1 (by show l.length + (10 + 19 * cs.length) ≤ 900000; omega) (fun j v hj => ?_) (fun j hj => ?_) hpb hpN (fun i h => ?_) (fun j => ?_) (by omega) (by omega) (by omega) (by omega)).mono ?_
      · by_cases h4j : j = 4
        · subst h4j; cases hj; exact h4
        · rw [World.cell?_setCell_other _ _ _ _ (by intro he; injection he with _ he; omega), HB2.out.cell (p := ⟨bx, 0 + j, none⟩) hpw]
          refine HP.out j v ?_
          match j, hj with
          | 0, hj => exact hj
          | 1, hj => exact hj
          | 2, hj => exact hj
          | 3, hj => exact hj
          | 4, hj => exact absurd rfl h4j
          | j + 5, hj => cases hj
      · rw [World.frozen?_setCell, HB2.out.frozen (p := ⟨bx, j, none⟩) hpw]
        exact HF.out j (by omega)
      · intro j v hj
        rw [World.cell?_setCell_other _ _ _ _ (by intro he; injection he with he; omega)]
        exact hg3 i h j v hj
      · rw [World.frozen?_setCell]; exact hg4 j
      rintro e w3 ⟨hk3, ⟨ok, rfl, hA3, _, _⟩ | ⟨ok, rfl⟩⟩
      · have hkk : Kept N (fun p => p.block = b ∨ p.block = bx) w w3 := k1.past hk3 (fun p hp hs => hs.elim .inl (fun h => h.elim (fun h => .inr h.1) (fun h => absurd h (by omega))))
        have HKK := Lib.hid hkk
        have HOK := Lib.hid ok
        have HA3 := Lib.hid hA3
        clear hk3 ok hA3 hkk hA1 k1 h4 c0 c1 c2 c3 c5 c6 c7 c8 c9 c10 c11 c12
        go_wp2_with fail
        go_end0
        exact ⟨HKK.out, .inl ⟨⟨hnc, HOK.out.1, HOK.out.2.1, HOK.out.2.2⟩, rfl, HA3.out⟩⟩
      · exact ⟨rfl, k1.past hk3 (fun p hp hs => hs.elim .inl (fun h => h.elim (fun h => .inr h.1) (fun h => absurd h (by omega)))), .inr ⟨fun hh => ok ⟨hh.2.1, hh.2.2.1, hh.2.2.2⟩, rfl⟩⟩
  · refine (inputs_no .wr N b bx cs.length cp2 A2 l x A cap u d code _ hnc (by omega) hA1 h4 hpb).mono ?_
    rintro e w3 ⟨hk3, rfl⟩
    exact ⟨rfl, k1.trans (hk3.mono (fun p hp => .inl hp)), .inr ⟨fun hh => hnc hh.1, rfl⟩⟩
end Go.Proofs.Ytapkjknpoafhjaa
