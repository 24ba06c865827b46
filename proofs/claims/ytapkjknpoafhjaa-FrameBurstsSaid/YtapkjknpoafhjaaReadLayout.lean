/- frame.ReadIn's layout: cars are made, and the inputs carried. No statement of the seat is proved here. -/
import Derived.Test.YtapkjknpoafhjaaInLayout
namespace Go.Proofs.Ytapkjknpoafhjaa
open Go.RowKit Frm

/-- No inputs yet, for some cars. -/
def noIn (C : Nat) : In := ⟨0, 0, 0, 0, List.replicate C default⟩
/-- What a carrier makes of inputs. -/
def Kind.inR (k : Kind) (l : List UInt8) (y : In) : In := ⟨k.num l y.pu 4, k.num (k.next l y.pu 4) y.pd 4, k.numI (k.headL1 l y.pu y.pd) y.kind 1, k.numI (k.next (k.headL1 l y.pu y.pd) (m64 y.kind) 1) y.car 1, (List.range y.cars.length).map fun i => k.carAt (k.headL2 l y.pu y.pd y.kind y.car) y.cars i⟩

theorem make_cars (n : Nat) (hn : n ≤ 1000) : ∃ C : Array Value, (∀ i, i < n → ∀ j v, (carV default)[j]? = some v → C[i * 11 + j]? = some v) ∧ ∀ w : World, (Instr.makeSlice 31 (.int .i64 n) (.int .i64 n)).run Try.prog w = .ok (.slice (some ⟨w.heap.size, 0, none⟩) n n) (w.alloc (.cells C 71)) := by
  obtain ⟨i0, hi0, hz0, hz1, hz2⟩ := info_parts carInInfo
  refine ⟨madeCells (Value.agg (carV ⟨0, false, false, false, false, 0, false, 0, false, 0, 0⟩).toArray).cells (n * 11), fun i hi j v hj => ?_, fun w => ?_⟩
  · have hj11 : j < 11 := (List.getElem?_eq_some_iff.1 hj).1
    have hsz : (madeCells (Value.agg (carV ⟨0, false, false, false, false, 0, false, 0, false, 0, 0⟩).toArray).cells (n * 11)).size = n * 11 := size_madeCells _ _
    have hlt : i * 11 + j < n * 11 := by omega
    rw [Array.getElem?_eq_getElem (by rw [hsz]; exact hlt)]
    have hmod : (i * 11 + j) % 11 = j := by omega
    have hs : (Value.agg (carV ⟨0, false, false, false, false, 0, false, 0, false, 0, 0⟩).toArray).cells.size = 11 := rfl
    simp only [madeCells, Array.getElem_map, Array.getElem_range, hs, hmod]
    match j, hj with
    | 0, hj => exact hj
    | 1, hj => exact hj
    | 2, hj => exact hj
    | 3, hj => exact hj
    | 4, hj => exact hj
    | 5, hj => exact hj
    | 6, hj => exact hj
    | 7, hj => exact hj
    | 8, hj => exact hj
    | 9, hj => exact hj
    | 10, hj => exact hj
    | j + 11, hj => omega
  · have := run_make (P := Try.prog) w 31 71 i0 _ Try.underlying31 hi0 hz0 .i64 .i64 n n (by omega) (Int.le_refl _) (by rw [hz2]; omega) (by omega)
    rw [this, Int.toNat_natCast, hz1]

set_option maxRecDepth 100000 in
set_option maxHeartbeats 2000000 in
theorem readLayout_any (N b bx bb : Nat) (l : List UInt8) (x : BldD) (A : Option Addr) (cap u d : Nat) (code : Int) (w : World) (hu : u < 4294967296) (hd : d < 4294967296) (hF : 0 ≤ x.floors ∧ x.floors ≤ 1000) (hx : 1 ≤ x.cars.length ∧ x.cars.length ≤ 1000) (hN : N ≤ w.heap.size)
    (hC : Kind.At .rd N w b l) (hR : 10 + 19 * x.cars.length ≤ l.length ∧ l.length ≤ 100000) (hp : CellsAt w bx 0 (inHeadV 0 0 0 0 none 0 0)) (hf : ∀ j, j < 5 → w.frozen? ⟨bx, j, none⟩ = false) (hpb : bx ≠ b) (hpN : N ≤ bx)
    (hbb : w.cell? ⟨bb, 7, none⟩ = some (.slice A x.cars.length cap)) :
    Calls Try.prog 37 #[.agg (fieldsA (Kind.v .rd b) x A cap u d code), .pointer (some ⟨bb, 0, none⟩), .pointer (some ⟨bx, 0, none⟩)] w fun e w' => Kept N (fun p => p.block = b ∨ p.block = bx) w w' ∧
      ((Kind.inOk .rd l (noIn x.cars.length) u d x.cars.length x.floors ∧ e = .returned (.tuple #[]) ∧ ∃ g, w.heap.size < g ∧ g < w'.heap.size ∧
          CellsAt w' bx 0 (inHeadV (Kind.inR .rd l (noIn x.cars.length)).pu (Kind.inR .rd l (noIn x.cars.length)).pd (Kind.inR .rd l (noIn x.cars.length)).kind (Kind.inR .rd l (noIn x.cars.length)).car (some ⟨g, 0, none⟩) x.cars.length x.cars.length) ∧
          ∀ i, i < x.cars.length → CellsAt w' g (i * 11) (carV ((Kind.inR .rd l (noIn x.cars.length)).cars.getD i default))) ∨ (¬ Kind.inOk .rd l (noIn x.cars.length) u d x.cars.length x.floors ∧ e = refusedP code)) := by
  obtain ⟨hbw, hNb⟩ := Kind.lt hC
  have hpw : bx < w.heap.size := World.block_lt_of_cell? w _ (hp 0 _ rfl)
  have hbbw : bb < w.heap.size := World.block_lt_of_cell? w _ hbb
  have c4 := hp 4 _ rfl
  simp only [Nat.zero_add] at c4
  have f4 := hf 4 (by omega)
  obtain ⟨C, hCC, hmk⟩ := make_cars x.cars.length hx.2
  have HCC := Lib.hid hCC
  have HP := Lib.hid hp
  have HF := Lib.hid hf
  clear hp hf hCC
  have c4' : ∀ o o', ((w.alloc o).alloc o').cell? ⟨bx, 4, none⟩ = some (.slice none 0 0) := fun o o' => (World.cell?_of_block (w := w) (((Below.heap_alloc _ o' bx (by simp; omega))).trans (Below.heap_alloc w o bx hpw))).trans c4
  have hne : ¬ w.heap.size = bx := by omega
  have hne' : ¬ bx = w.heap.size := by omega
  unfold fieldsA
  go_enter Try.func37, Try.ntmps37
  go_wp2_with fail
  obtain ⟨W0, hW0⟩ : ∃ W0, W0 = w.setCell ⟨bx, 4, none⟩ (.slice (some ⟨w.heap.size + 1, 0, none⟩) x.cars.length x.cars.length) := ⟨_, rfl⟩
  rw [← hW0]
  have hs0 : W0.heap.size = w.heap.size := by rw [hW0]; simp [World.setCell]
  have hA0 : Kind.At .rd N W0 b l := by rw [hW0]; exact hC.setCell c4 rfl hpb _
  have k0 : Kept N (fun p => p.block = b ∨ p.block = bx) w W0 := by rw [hW0]; exact (Kept.refl _ _ _).setCell hpN (.inr rfl) _
  have h4 : W0.cell? ⟨bx, 4, none⟩ = some (.slice (some ⟨w.heap.size + 1, 0, none⟩) x.cars.length x.cars.length) := by rw [hW0]; exact World.cell?_setCell_same _ _ _ c4
  have hh : CellsAt W0 bx 0 (inHeadV 0 0 0 0 (some ⟨w.heap.size + 1, 0, none⟩) x.cars.length x.cars.length) := by
    intro j v hj
    by_cases h4j : j = 4
    · subst h4j; cases hj; exact h4
    · rw [hW0, World.cell?_setCell_other _ _ _ _ (by intro he; injection he with _ he; omega)]
      refine HP.out j v ?_
      match j, hj with
      | 0, hj => exact hj
      | 1, hj => exact hj
      | 2, hj => exact hj
      | 3, hj => exact hj
      | 4, hj => exact absurd rfl h4j
      | j + 5, hj => cases hj
  have hfz : ∀ j, j < 5 → W0.frozen? ⟨bx, j, none⟩ = false := fun j hj => by rw [hW0, World.frozen?_setCell]; exact HF.out j hj
  obtain ⟨o1, ho1⟩ : ∃ o1, o1 = Obj.cells #[Kind.v .rd b, .int .i64 x.floors, .int .i64 x.debounce, .int .i64 x.room, .int .i64 x.park, .float .f64 x.empty, .float .f64 x.full, .float .f64 x.over, .slice A x.cars.length cap, .int .u32 u, .int .u32 d, .int .i64 code] 77 := ⟨_, rfl⟩
  rw [← ho1]
  have hb1 : Below W0.heap.size W0 ((W0.alloc o1).alloc (.cells C 71)) := ((Below.refl _ _).alloc (Nat.le_refl _) _).alloc (by simp) _
  have hs2 : ((W0.alloc o1).alloc (.cells C 71)).heap.size = w.heap.size + 2 := by simp [hs0]
  have hgn : ((W0.alloc o1).alloc (.cells C 71)).heap[w.heap.size + 1]? = some (.cells C 71 (0, 0)) := by
    have := heap_alloc_new (W0.alloc o1) (.cells C 71)
    have e : (W0.alloc o1).heap.size = w.heap.size + 1 := by simp [hs0]
    rw [e] at this; exact this
  have hlen : (noIn x.cars.length).cars.length = x.cars.length := by simp [noIn]
  have hzc : ∀ i (h : i < (noIn x.cars.length).cars.length), (noIn x.cars.length).cars[i] = default := fun i h => by simp [noIn]
  have k2 : Kept N (fun p => p.block = b ∨ p.block = bx) w ((W0.alloc o1).alloc (.cells C 71)) := k0.trans (Kept.of_below hb1 (by omega) _)
  have hA2 := hA0.below hb1
  have hh2 := hh.below hb1
  have hf2 : ∀ j, j < 5 → ((W0.alloc o1).alloc (.cells C 71)).frozen? ⟨bx, j, none⟩ = false := fun j hj => (hb1.frozen (p := ⟨bx, j, none⟩) (by show bx < W0.heap.size; omega)).trans (hfz j hj)
  rw [ho1] at *
  clear ho1 hb1 hW0 k0 hA0 hh hfz h4 c4 c4' f4 hmk
  have h0 := inputs_any .rd N b bx (w.heap.size + 1) x.cars.length 0 0 0 0 (noIn x.cars.length).cars l x A cap u d code _ hu hd hF hlen (by rw [hlen]; exact hx.2) (by omega) (by omega) ⟨by omega, by omega⟩ ⟨by omega, by omega⟩ (fun c hc => by
      simp only [noIn, List.mem_replicate] at hc
      rw [hc.2]
      exact ⟨by decide, by decide, by decide, ⟨by decide, by decide⟩, by decide, by decide⟩) (by rw [hs2]; omega) hA2 (by rw [hlen]; exact ⟨hR.1, by omega⟩) (by rw [hlen]; exact hh2) (fun j hj => hf2 j (by omega)) hpb hpN (fun i h => by
      rw [hzc i h]
      intro j v hj
      rw [cell_of_row _ _ _ _ _ (0, 0) hgn]
      exact HCC.out i (by rw [hlen] at h; exact h) j v hj) (fun j => by simp [World.frozen?, hgn]) (by omega) (by omega) (by omega) (by rw [hs2]; omega)
  refine h0.mono ?_
  rintro e w3 ⟨hk3, ⟨ok, rfl, hA3, hh3, hc3⟩ | ⟨ok, rfl⟩⟩
  · have hkk : Kept N (fun p => p.block = b ∨ p.block = bx) w w3 := k2.past hk3 (fun p hp hs => hs.elim .inl (fun h => h.elim (fun h => .inr h.1) (fun h => absurd h (by omega))))
    rw [hlen] at hh3
    have HKK := Lib.hid hkk
    have HOK := Lib.hid ok
    have HH3 := Lib.hid hh3
    have HC3 := Lib.hid hc3
    have HS3 := Lib.hid hk3.below.size
    have HS2 := Lib.hid hs2
    have HLEN := Lib.hid hlen
    clear hk3 ok hA3 hkk hh3 hc3 hA2 hh2 hf2 k2 hgn h0 hs2 hlen hzc
    go_wp2_with fail
    go_end0
    refine ⟨HKK.out, .inl ⟨⟨HLEN.out, HOK.out⟩, rfl, w.heap.size + 1, by omega, by have := HS3.out; have h2 := HS2.out; omega, HH3.out, fun i h => ?_⟩⟩
    have := HC3.out i (by have e := HLEN.out; omega)
    simp only [Kind.inR]
    rw [List.getD_eq_getElem?_getD, List.getElem?_map, List.getElem?_range (by have e := HLEN.out; omega)]
    exact this
  · exact ⟨rfl, k2.past hk3 (fun p hp hs => hs.elim .inl (fun h => h.elim (fun h => .inr h.1) (fun h => absurd h (by omega)))), .inr ⟨fun hh => ok hh.2, rfl⟩⟩
end Go.Proofs.Ytapkjknpoafhjaa
