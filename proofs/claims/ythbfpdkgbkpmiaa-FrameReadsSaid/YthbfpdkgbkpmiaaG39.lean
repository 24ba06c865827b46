/- What the texts behind this one rest on: several texts in one. No statement of the seat is proved here. -/
import Derived.Test.YthbfpdkgbkpmiaaOutputs
import Derived.Test.YthbfpdkgbkpmiaaClone
import Derived.Test.YthbfpdkgbkpmiaaG0
import Derived.Test.YthbfpdkgbkpmiaaG20
import Derived.Test.YthbfpdkgbkpmiaaIn
namespace Go.Proofs.Ythbfpdkgbkpmiaa
section
open Go.RowKit Frm

theorem carOutInfo : (Try.prog.info? 93).map (fun i => (i.zero, i.size, i.bytes)) = some (some (.agg (coV ⟨0, 0, false, 0, 0, false, 0, 0, false⟩).toArray), 9, 48) := by kernel_rfl

/-- Cars lie in memory at an address. -/
def CosV (w : World) (A : Option Addr) (cs : List CarOut) : Prop :=
  cs = [] ∨ ∃ b off, A = some ⟨b, off, none⟩ ∧ ∀ i (h : i < cs.length), CellsAt w b (off + i * 9) (coV cs[i])
def flatOu (cs : List CarOut) : List Value := cs.flatMap coV
theorem flatOu_length (cs : List CarOut) : (flatOu cs).length = cs.length * 9 := by
  induction cs with
  | nil => rfl
  | cons c cs ih => unfold flatOu at ih ⊢; rw [List.flatMap_cons, List.length_append, ih, List.length_cons]; show 9 + _ = _; omega
theorem flatOu_at : ∀ (cs : List CarOut) (i : Nat) (h : i < cs.length) (j : Nat), j < 9 → (flatOu cs)[i * 9 + j]? = (coV cs[i])[j]?
  | [], i, h, _, _ => absurd h (by simp)
  | c :: cs, 0, h, j, hj => by
    unfold flatOu
    rw [List.flatMap_cons, List.getElem?_append_left (by show 0 * 9 + j < 9; omega)]
    simp
  | c :: cs, i + 1, h, j, hj => by
    unfold flatOu
    rw [List.flatMap_cons, List.getElem?_append_right (by show 9 ≤ _; omega)]
    have := flatOu_at cs i (by simpa using h) j hj
    unfold flatOu at this
    have e : (i + 1) * 9 + j - (coV c).length = i * 9 + j := by show (i + 1) * 9 + j - 9 = _; omega
    rw [e, this]
    rfl
theorem flatOu_one (cs : List CarOut) : ∀ u ∈ flatOu cs, u.oneCell' = true := by
  intro u hu
  unfold flatOu at hu
  rw [List.mem_flatMap] at hu
  obtain ⟨c, _, hc⟩ := hu
  simp only [coV, List.mem_cons, List.not_mem_nil, or_false] at hc
  rcases hc with rfl | rfl | rfl | rfl | rfl | rfl | rfl | rfl | rfl <;> rfl
theorem CosV.flat {w : World} {b off : Nat} {cs : List CarOut} (h : ∀ i (h : i < cs.length), CellsAt w b (off + i * 9) (coV cs[i])) : ∀ j u, (flatOu cs)[j]? = some u → w.cell? ((⟨b, off, none⟩ : Addr).add j) = some u := by
  intro j u hu
  have hj : j < cs.length * 9 := by
    have := (List.getElem?_eq_some_iff.1 hu).1
    rwa [flatOu_length] at this
  have hadd : (⟨b, off, none⟩ : Addr).add j = ⟨b, off + j, none⟩ := by unfold Addr.add; split <;> simp_all
  have e : j = j / 9 * 9 + j % 9 := by omega
  have hi : j / 9 < cs.length := by omega
  rw [e, flatOu_at cs _ hi _ (by omega)] at hu
  have := h _ hi _ _ hu
  rw [hadd, show off + j = off + j / 9 * 9 + j % 9 from by omega]
  exact this
/-- What owns cars has them. -/
theorem owns_cos {w : World} {base g n cap : Nat} {e : TypeId} {cs : List CarOut} (h : w.ownsRow base e 9 (.slice (some ⟨g, 0, none⟩) n cap) n (flatOu cs)) :
    (∀ i (h : i < cs.length), CellsAt w g (i * 9) (coV cs[i])) ∧ ∀ j, w.frozen? ⟨g, j, none⟩ = false := by
  constructor
  · intro i hi j v hj
    have hj11 : j < 9 := (List.getElem?_eq_some_iff.1 hj).1
    have := h.cells (g := g) rfl (i * 9 + j) v (by rw [flatOu_at cs i hi j hj11]; exact hj)
    have hadd : (⟨g, 0, none⟩ : Addr).add (i * 9 + j) = ⟨g, i * 9 + j, none⟩ := by unfold Addr.add; split <;> simp_all
    rwa [hadd] at this
  · intro j
    rcases h.2 with ⟨hv, _⟩ | ⟨g1, cap1, cur, hv, _, hg, _⟩
    · cases hv
    · injection hv with e1 _ _
      injection e1 with e1
      injection e1 with e1
      subst e1
      simp [World.frozen?, hg]
end

section
open Go.RowKit Frm

/-- Outputs. -/
structure Ou where
  h : OutH
  cars : List CarOut
/-- Outputs that a carrier accepts. -/
def Kind.ouOk (k : Kind) (l : List UInt8) (y : Ou) (u d C : Nat) : Prop :=
  y.cars.length = C ∧ k.ohOk l y.h u d ∧ ∀ i (h : i < y.cars.length), k.coOk (k.cosN (k.ohN l y.h) (y.cars.take i)) y.cars[i] u d
/-- The text behind them. -/
def Kind.ouN (k : Kind) (l : List UInt8) (y : Ou) : List UInt8 := k.cosN (k.ohN l y.h) y.cars
def saneOu (y : Ou) : Prop := saneOh y.h ∧ ∀ c ∈ y.cars, saneCo c

theorem CosV.below {w w' : World} {A : Option Addr} {cs : List CarOut} (h : CosV w A cs) (hb : Below w.heap.size w w') : CosV w' A cs := by
  rcases h with h | ⟨b, off, hA, h⟩
  · exact .inl h
  · exact .inr ⟨b, off, hA, fun i hi => (h i hi).below hb⟩
end

section
open Go.RowKit Frm

/-- No outputs yet, for some cars. -/
def noOh : OutH := ⟨0, 0, 0, 0, false, false, 0⟩
def noOu (C : Nat) : Ou := ⟨noOh, List.replicate C default⟩
/-- What a carrier makes of outputs. -/
def Kind.ouR (k : Kind) (l : List UInt8) (y : Ou) : Ou := ⟨k.ohR l y.h, (List.range y.cars.length).map fun i => k.coAt (k.ohN l y.h) y.cars i⟩

theorem make_cos (n : Nat) (hn : n ≤ 1000) : ∃ C : Array Value, (∀ i, i < n → ∀ j v, (coV default)[j]? = some v → C[i * 9 + j]? = some v) ∧ ∀ w : World, (Instr.makeSlice 44 (.int .i64 n) (.int .i64 n)).run Try.prog w = .ok (.slice (some ⟨w.heap.size, 0, none⟩) n n) (w.alloc (.cells C 93)) := by
  obtain ⟨i0, hi0, hz0, hz1, hz2⟩ := info_parts carOutInfo
  refine ⟨madeCells (Value.agg (coV ⟨0, 0, false, 0, 0, false, 0, 0, false⟩).toArray).cells (n * 9), fun i hi j v hj => ?_, fun w => ?_⟩
  · have hj11 : j < 9 := (List.getElem?_eq_some_iff.1 hj).1
    have hsz : (madeCells (Value.agg (coV ⟨0, 0, false, 0, 0, false, 0, 0, false⟩).toArray).cells (n * 9)).size = n * 9 := size_madeCells _ _
    have hlt : i * 9 + j < n * 9 := by omega
    rw [Array.getElem?_eq_getElem (by rw [hsz]; exact hlt)]
    have hmod : (i * 9 + j) % 9 = j := by omega
    have hs : (Value.agg (coV ⟨0, 0, false, 0, 0, false, 0, 0, false⟩).toArray).cells.size = 9 := rfl
    simp only [madeCells, Array.getElem_map, Array.getElem_range, hs, hmod]
    match j, hj with
    | 0, hj => exact hj
    | 1, hj => exact hj
    | 2, hj => exact hj
    | 3, hj => exact hj
    | 4, hj => exact hj
    | 5, hj => exact hj
    | 6, hj => exact hj
    | 7, hj => exact hj
    | 8, hj => exact hj
    | j + 9, hj => omega
  · have := run_make (P := Try.prog) w 44 93 i0 _ Try.underlying44 hi0 hz0 .i64 .i64 n n (by omega) (Int.le_refl _) (by rw [hz2]; omega) (by omega)
    rw [this, Int.toNat_natCast, hz1]

set_option maxRecDepth 100000 in
set_option maxHeartbeats 2000000 in
theorem rdOutLayout_any (N b bx bb : Nat) (l : List UInt8) (x : BldD) (A : Option Addr) (cap u d : Nat) (code : Int) (w : World) (hu : u < 4294967296) (hd : d < 4294967296) (hx : 1 ≤ x.cars.length ∧ x.cars.length ≤ 1000) (hN : N ≤ w.heap.size)
    (hC : Kind.At .rd N w b l) (hR : 19 + 19 * x.cars.length ≤ l.length ∧ l.length ≤ 100000) (hp : CellsAt w bx 0 (ohV noOh none 0 0)) (hf : ∀ j, j < 8 → w.frozen? ⟨bx, j, none⟩ = false) (hpb : bx ≠ b) (hpN : N ≤ bx)
    (hbb : w.cell? ⟨bb, 7, none⟩ = some (.slice A x.cars.length cap)) :
    Calls Try.prog 42 #[.agg (fieldsA (Kind.v .rd b) x A cap u d code), .pointer (some ⟨bb, 0, none⟩), .pointer (some ⟨bx, 0, none⟩)] w fun e w' => Kept N (fun p => p.block = b ∨ p.block = bx) w w' ∧
      ((Kind.ouOk .rd l (noOu x.cars.length) u d x.cars.length ∧ e = .returned (.tuple #[]) ∧ ∃ g, w.heap.size < g ∧ g < w'.heap.size ∧
          CellsAt w' bx 0 (ohV (Kind.ouR .rd l (noOu x.cars.length)).h (some ⟨g, 0, none⟩) x.cars.length x.cars.length) ∧
          ∀ i, i < x.cars.length → CellsAt w' g (i * 9) (coV ((Kind.ouR .rd l (noOu x.cars.length)).cars.getD i default))) ∨ (¬ Kind.ouOk .rd l (noOu x.cars.length) u d x.cars.length ∧ e = refusedP code)) := by
  obtain ⟨hbw, hNb⟩ := Kind.lt hC
  have hpw : bx < w.heap.size := World.block_lt_of_cell? w _ (hp 0 _ rfl)
  have hbbw : bb < w.heap.size := World.block_lt_of_cell? w _ hbb
  have c4 := hp 7 _ rfl
  simp only [Nat.zero_add] at c4
  have f4 := hf 7 (by omega)
  obtain ⟨C, hCC, hmk⟩ := make_cos x.cars.length hx.2
  have HCC := Lib.hid hCC
  have HP := Lib.hid hp
  have HF := Lib.hid hf
  clear hp hf hCC
  have c4' : ∀ o o', ((w.alloc o).alloc o').cell? ⟨bx, 7, none⟩ = some (.slice none 0 0) := fun o o' => (World.cell?_of_block (w := w) (((Below.heap_alloc _ o' bx (by simp; omega))).trans (Below.heap_alloc w o bx hpw))).trans c4
  have hne : ¬ w.heap.size = bx := by omega
  have hne' : ¬ bx = w.heap.size := by omega
  unfold fieldsA
  go_enter Try.func42, Try.ntmps42
  go_wp2_with fail
  obtain ⟨W0, hW0⟩ : ∃ W0, W0 = w.setCell ⟨bx, 7, none⟩ (.slice (some ⟨w.heap.size + 1, 0, none⟩) x.cars.length x.cars.length) := ⟨_, rfl⟩
  rw [← hW0]
  have hs0 : W0.heap.size = w.heap.size := by rw [hW0]; simp [World.setCell]
  have hA0 : Kind.At .rd N W0 b l := by rw [hW0]; exact hC.setCell c4 rfl hpb _
  have k0 : Kept N (fun p => p.block = b ∨ p.block = bx) w W0 := by rw [hW0]; exact (Kept.refl _ _ _).setCell hpN (.inr rfl) _
  have h4 : W0.cell? ⟨bx, 7, none⟩ = some (.slice (some ⟨w.heap.size + 1, 0, none⟩) x.cars.length x.cars.length) := by rw [hW0]; exact World.cell?_setCell_same _ _ _ c4
  have hh : CellsAt W0 bx 0 (ohV noOh (some ⟨w.heap.size + 1, 0, none⟩) x.cars.length x.cars.length) := by
    intro j v hj
    by_cases h4j : j = 7
    · subst h4j; cases hj; exact h4
    · rw [hW0, World.cell?_setCell_other _ _ _ _ (by intro he; injection he with _ he; omega)]
      refine HP.out j v ?_
      match j, hj with
      | 0, hj => exact hj
      | 1, hj => exact hj
      | 2, hj => exact hj
      | 3, hj => exact hj
      | 4, hj => exact hj
      | 5, hj => exact hj
      | 6, hj => exact hj
      | 7, hj => exact absurd rfl h4j
      | j + 8, hj => cases hj
  have hfz : ∀ j, j < 8 → W0.frozen? ⟨bx, j, none⟩ = false := fun j hj => by rw [hW0, World.frozen?_setCell]; exact HF.out j hj
  obtain ⟨o1, ho1⟩ : ∃ o1, o1 = Obj.cells #[Kind.v .rd b, .int .i64 x.floors, .int .i64 x.debounce, .int .i64 x.room, .int .i64 x.park, .float .f64 x.empty, .float .f64 x.full, .float .f64 x.over, .slice A x.cars.length cap, .int .u32 u, .int .u32 d, .int .i64 code] 77 := ⟨_, rfl⟩
  rw [← ho1]
  have hb1 : Below W0.heap.size W0 ((W0.alloc o1).alloc (.cells C 93)) := ((Below.refl _ _).alloc (Nat.le_refl _) _).alloc (by simp) _
  have hs2 : ((W0.alloc o1).alloc (.cells C 93)).heap.size = w.heap.size + 2 := by simp [hs0]
  have hgn : ((W0.alloc o1).alloc (.cells C 93)).heap[w.heap.size + 1]? = some (.cells C 93 (0, 0)) := by
    have := heap_alloc_new (W0.alloc o1) (.cells C 93)
    have e : (W0.alloc o1).heap.size = w.heap.size + 1 := by simp [hs0]
    rw [e] at this; exact this
  have hlen : (noOu x.cars.length).cars.length = x.cars.length := by simp [noOu]
  have hzc : ∀ i (h : i < (noOu x.cars.length).cars.length), (noOu x.cars.length).cars[i] = default := fun i h => by simp [noOu]
  have k2 : Kept N (fun p => p.block = b ∨ p.block = bx) w ((W0.alloc o1).alloc (.cells C 93)) := k0.trans (Kept.of_below hb1 (by omega) _)
  have hA2 := hA0.below hb1
  have hh2 := hh.below hb1
  have hf2 : ∀ j, j < 8 → ((W0.alloc o1).alloc (.cells C 93)).frozen? ⟨bx, j, none⟩ = false := fun j hj => (hb1.frozen (p := ⟨bx, j, none⟩) (by show bx < W0.heap.size; omega)).trans (hfz j hj)
  rw [ho1] at *
  clear ho1 hb1 hW0 k0 hA0 hh hfz h4 c4 c4' f4 hmk
  have h0 := outputs_any .rd N b bx (w.heap.size + 1) x.cars.length noOh (noOu x.cars.length).cars l x A cap u d code _ hu hd hlen (by rw [hlen]; exact hx.2) ⟨⟨by decide, by decide⟩, ⟨by decide, by decide⟩, by decide, by decide⟩ (fun c hc => by
      simp only [noOu, List.mem_replicate] at hc
      rw [hc.2]
      exact ⟨⟨by decide, by decide⟩, ⟨by decide, by decide⟩, ⟨by decide, by decide⟩, by decide, by decide⟩) (by rw [hs2]; omega) hA2 (by rw [hlen]; exact ⟨hR.1, by omega⟩) (by rw [hlen]; exact hh2) (fun j hj => hf2 j (by omega)) hpb hpN (fun i h => by
      rw [hzc i h]
      intro j v hj
      rw [cell_of_row _ _ _ _ _ (0, 0) hgn]
      exact HCC.out i (by rw [hlen] at h; exact h) j v hj) (fun j => by simp [World.frozen?, hgn]) (by omega) (by omega) (by omega) (by rw [hs2]; omega)
  refine h0.mono ?_
  rintro e w3 ⟨hk3, ⟨ok, rfl, hA3, hh3, hc3⟩ | ⟨ok, rfl⟩⟩
  · have hkk : Kept N (fun p => p.block = b ∨ p.block = bx) w w3 := k2.past hk3 (fun p hp hs => hs.elim .inl (fun h => h.elim (fun h => .inr h.1) (fun h => absurd h (by omega))))
    rw [hlen] at hh3
    have HKK := Lib.hid hkk
    have HOK := Lib.hid ok
    have HH3 := Lib.hid hh3
    have HC3 := Lib.hid hc3
    have HS3 := Lib.hid hk3.below.size
    have HS2 := Lib.hid hs2
    have HLEN := Lib.hid hlen
    clear hk3 ok hA3 hkk hh3 hc3 hA2 hh2 hf2 k2 hgn h0 hs2 hlen hzc
    go_wp2_with fail
    go_end0
    refine ⟨HKK.out, .inl ⟨⟨HLEN.out, HOK.out⟩, rfl, w.heap.size + 1, by omega, by have := HS3.out; have h2 := HS2.out; omega, HH3.out, fun i h => ?_⟩⟩
    have := HC3.out i (by have e := HLEN.out; omega)
    simp only [Kind.ouR]
    rw [List.getD_eq_getElem?_getD, List.getElem?_map, List.getElem?_range (by have e := HLEN.out; omega)]
    exact this
  · exact ⟨rfl, k2.past hk3 (fun p hp hs => hs.elim .inl (fun h => h.elim (fun h => .inr h.1) (fun h => absurd h (by omega)))), .inr ⟨fun hh => ok hh.2, rfl⟩⟩
end

section
open Go.RowKit Frm

theorem coN_length (l : List UInt8) (c : CarOut) : (Kind.coN .wr l c).length = l.length + 19 := by
  simp only [Kind.coN, Kind.coL4, Kind.coL3, Kind.coL2, Kind.coL1, Kind.next, List.length_append, numL_length]
theorem cosN_length : ∀ (cs : List CarOut) (l : List UInt8), (Kind.cosN .wr l cs).length = l.length + 19 * cs.length
  | [], l => by simp [Kind.cosN]
  | c :: cs, l => by rw [Kind.cosN, cosN_length cs, coN_length, List.length_cons]; omega
theorem ouN_length (l : List UInt8) (y : Ou) : (Kind.ouN .wr l y).length = l.length + 19 + 19 * y.cars.length := by
  simp only [Kind.ouN, cosN_length, Kind.ohN, Kind.ohL3, Kind.ohL2, Kind.ohL1, Kind.next, List.length_append, numL_length]

/-- The inputs that In accepts. -/
def ouOk (x : BldD) (y : Ou) : Prop := validE x = 0 ∧ Kind.ouOk .wr (headL 90 x.cars.length) y (hallUp x) (hallDown x) x.cars.length
def ouText (x : BldD) (y : Ou) : List UInt8 := sealL (Kind.ouN .wr (headL 90 x.cars.length) y)
end

section
open Go.RowKit Frm

/-- Outputs as a value: their cars lie at A. -/
def ouAgg (y : Ou) (A : Option Addr) (cp : Nat) : Value := .agg #[.int .u32 y.h.au, .int .u32 y.h.ad, .int .u32 y.h.su, .int .u32 y.h.sd, .bool y.h.bad, .bool y.h.full, .int .i64 y.h.st, .slice A y.cars.length cp]
end
end Go.Proofs.Ythbfpdkgbkpmiaa
