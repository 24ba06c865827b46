/- What the texts behind this one rest on: several texts in one. No statement of the seat is proved here. -/
import Derived.Test.YtapkjknpoafhjaaNumber
import Derived.Test.YtapkjknpoafhjaaCarIn
import Derived.Test.YtapkjknpoafhjaaInputs
import Derived.Test.YtapkjknpoafhjaaClone
import Derived.Test.YtapkjknpoafhjaaSample
import Derived.Test.YtapkjknpoafhjaaInLayout
namespace Go.Proofs.Ytapkjknpoafhjaa
section
open Go.RowKit Frm

/-- What lies behind the blocks that were does not count. -/
theorem Kept.fresh {N g : Nat} {S : Addr → Prop} {w w1 w2 : World} (h0 : Kept N S w w1) (h : Kept N (fun p => S p ∨ p.block = g) w1 w2) (hg : w.heap.size ≤ g) : Kept N S w w2 :=
  ⟨h0.below.trans h.below, fun p v hp hv hn => h.cell p v (h0.cell p v hp hv hn) hv (fun hh => hh.elim hn (fun e => by have := World.block_lt_of_cell? w p hp; omega)), fun p hp => (h.froz p (Nat.lt_of_lt_of_le hp h0.below.size)).trans (h0.froz p hp)⟩

set_option maxRecDepth 100000 in
set_option maxHeartbeats 1000000 in
theorem status_any (k : Kind) (N b : Nat) (px : Addr) (old : Int) (l : List UInt8) (x : BldD) (A : Option Addr) (cap u d : Nat) (code : Int) (w : World) (ho1 : -9223372036854775808 ≤ old) (ho2 : old ≤ 9223372036854775807) (hN : N ≤ w.heap.size)
    (hC : k.At N w b l) (hR : k.Room l 2) (hp : w.cell? px = some (.int .i64 old)) (hpf : w.frozen? px = false) (hpb : px.block ≠ b) (hpN : N ≤ px.block) :
    Calls Try.prog 65 #[.agg (fieldsA (k.v b) x A cap u d code), .pointer (some px)] w fun e w' => Kept N (fun p => p.block = b ∨ p = px) w w' ∧
      ((inB 0 65535 (k.numI l old 2) = true ∧ e = .returned (.tuple #[]) ∧ k.At N w' b (k.next l (m64 old) 2) ∧ w'.cell? px = some (.int .i64 (k.numI l old 2))) ∨ (inB 0 65535 (k.numI l old 2) = false ∧ e = refusedP code)) := by
  obtain ⟨hbw, hNb⟩ := Kind.lt hC
  have hpw := World.block_lt_of_cell? w px hp
  have hk1 : Kept N (fun p => p.block = b ∨ p = px) w ((w.alloc (.cells (fieldsA (k.v b) x A cap u d code) 77)).alloc (.cells #[.int .i64 old] 3)) := ((Kept.refl _ _ _).alloc hN _).alloc (by simp; omega) _
  have hA1 := (hC.alloc (.cells (fieldsA (k.v b) x A cap u d code) 77)).alloc (.cells #[.int .i64 old] 3)
  have hq := heap_alloc_new (w.alloc (.cells (fieldsA (k.v b) x A cap u d code) 77)) (.cells #[.int .i64 old] 3)
  have hz : (w.alloc (.cells (fieldsA (k.v b) x A cap u d code) 77)).heap.size = w.heap.size + 1 := by simp
  rw [hz] at hq
  have hq0 := cell_of_row _ _ 0 _ _ (0, 0) hq
  have hqf : ∀ i, World.frozen? _ ⟨w.heap.size + 1, i, none⟩ = false := fun i => frozen_of_row _ _ _ _ _ hq
  have hk2 : Kept N (fun p => p.block = b) w ((w.alloc (.cells (fieldsA (k.v b) x A cap u d code) 77)).alloc (.cells #[.int .i64 old] 3)) := ((Kept.refl _ _ _).alloc hN _).alloc (by simp; omega) _
  have HPX := Lib.hid (hk2.cell px _ hp rfl hpb)
  have HK1 := Lib.hid hk1
  have HA1 := Lib.hid hA1
  have HQ0 := Lib.hid hq0
  have HQF := Lib.hid hqf
  have HP1 := Lib.hid (hk1.froz px hpw |>.trans hpf)
  clear hk1 hk2 hA1 hq hz hq0 hqf
  unfold fieldsA
  go_enter Try.func65, Try.ntmps65
  go_wp2_with fail
  refine (number_any k N b ⟨w.heap.size + 1, 0, none⟩ old 0 65535 2 l x A cap u d code _ (by omega) ho1 ho2 (by simp; omega) HA1.out hR HQ0.out (HQF.out 0) (by show w.heap.size + 1 ≠ b; omega) (by show N ≤ w.heap.size + 1; omega)).mono ?_
  rintro e w3 ⟨hk3, ⟨ok, rfl, hA3, hc3⟩ | ⟨ok, rfl⟩⟩
  · have hk4 : Kept N (fun p => p.block = b ∨ p = px) w w3 := Kept.fresh (g := w.heap.size + 1) HK1.out (hk3.mono (fun p hp => hp.elim (fun h => .inl (.inl h)) (fun h => .inr (by rw [h])))) (Nat.le_succ _)
    have hs : px.block ≠ w.heap.size + 1 := by omega
    have HK4 := Lib.hid hk4
    have HA3 := Lib.hid hA3
    have hpc := hk3.cell px _ HPX.out rfl (fun hh => hh.elim hpb (fun h => hs (by rw [h])))
    have hpf3 : w3.frozen? px = false := (hk3.froz px (by have := hk3.below.size; have := World.block_lt_of_cell? _ px HPX.out; omega)).trans HP1.out
    have HOK := Lib.hid ok
    clear hk3 ok
    have hbx : (⟨w.heap.size + 1, 0, none⟩ : Addr).block ≠ px.block := fun h => hs h.symm
    go_wp2_with fail
    go_end0
    exact ⟨HK4.out.setCell hpN (.inr rfl) _, .inl ⟨HOK.out, rfl, HA3.out.setCell hpc rfl hpb _, World.cell?_setCell_same _ _ _ hpc⟩⟩
  · exact ⟨rfl, Kept.fresh (g := w.heap.size + 1) HK1.out (hk3.mono (fun p hp => hp.elim (fun h => .inl (.inl h)) (fun h => .inr (by rw [h])))) (Nat.le_succ _), .inr ⟨ok, rfl⟩⟩
end

section
open Go.RowKit Frm

/-- What a car is told. -/
structure CarOut where
  iu : Nat
  id : Nat
  cut : Bool
  lu : Nat
  ld : Nat
  gong : Bool
  cmd : Int
  ph : Int
  flag : Bool
instance : Inhabited CarOut := ⟨⟨0, 0, false, 0, 0, false, 0, 0, false⟩⟩
def CarOut.flags (c : CarOut) : List Bool := [c.cut, c.gong, c.flag]
def coV (c : CarOut) : List Value := [.int .u32 c.iu, .int .u32 c.id, .bool c.cut, .int .u32 c.lu, .int .u32 c.ld, .bool c.gong, .int .i64 c.cmd, .int .i64 c.ph, .bool c.flag]
theorem coV_plain (c : CarOut) : ∀ v ∈ coV c, plainV v = true := by
  intro v hv
  simp only [coV, List.mem_cons, List.not_mem_nil, or_false] at hv
  rcases hv with rfl | rfl | rfl | rfl | rfl | rfl | rfl | rfl | rfl <;> rfl
def Kind.coL1 (k : Kind) (l : List UInt8) (c : CarOut) : List UInt8 := k.next (k.next l c.iu 4) c.id 4
def Kind.coL2 (k : Kind) (l : List UInt8) (c : CarOut) : List UInt8 := k.next (k.next (k.coL1 l c) c.lu 4) c.ld 4
def Kind.coQ (k : Kind) (l : List UInt8) (c : CarOut) : Nat := k.num (k.coL2 l c) (flg c.flags) 1
def Kind.coL3 (k : Kind) (l : List UInt8) (c : CarOut) : List UInt8 := k.next (k.coL2 l c) (flg c.flags) 1
def Kind.coL4 (k : Kind) (l : List UInt8) (c : CarOut) : List UInt8 := k.next (k.coL3 l c) (m64 c.cmd) 1
def Kind.coN (k : Kind) (l : List UInt8) (c : CarOut) : List UInt8 := k.next (k.coL4 l c) (m64 c.ph) 1
def Kind.co1 (k : Kind) (l : List UInt8) (c : CarOut) : CarOut := { c with iu := k.num l c.iu 4, id := k.num (k.next l c.iu 4) c.id 4 }
def Kind.co2 (k : Kind) (l : List UInt8) (c : CarOut) : CarOut := { k.co1 l c with lu := k.num (k.coL1 l c) c.lu 4, ld := k.num (k.next (k.coL1 l c) c.lu 4) c.ld 4 }
def Kind.co3 (k : Kind) (l : List UInt8) (c : CarOut) : CarOut := { k.co2 l c with cut := (k.coQ l c).testBit 0, gong := (k.coQ l c).testBit 1, flag := (k.coQ l c).testBit 2 }
def Kind.co4 (k : Kind) (l : List UInt8) (c : CarOut) : CarOut := { k.co3 l c with cmd := k.numI (k.coL3 l c) c.cmd 1 }
def Kind.coR (k : Kind) (l : List UInt8) (c : CarOut) : CarOut := { k.co4 l c with ph := k.numI (k.coL4 l c) c.ph 1 }
def Kind.setsOk (k : Kind) (l : List UInt8) (a0 a1 u d : Nat) : Prop := setB (k.num l a0 4) u = true ∧ setB (k.num (k.next l a0 4) a1 4) d = true
def Kind.coOk (k : Kind) (l : List UInt8) (c : CarOut) (u d : Nat) : Prop :=
  k.setsOk l c.iu c.id u d ∧ k.setsOk (k.coL1 l c) c.lu c.ld u d ∧ k.coQ l c < 2 ^ 3 ∧ inB 0 5 (k.numI (k.coL3 l c) c.cmd 1) = true ∧ inB 0 4 (k.numI (k.coL4 l c) c.ph 1) = true
/-- The numbers are those of their types. -/
def saneCo (c : CarOut) : Prop := (c.iu < 4294967296 ∧ c.id < 4294967296) ∧ (c.lu < 4294967296 ∧ c.ld < 4294967296) ∧ In64 c.cmd ∧ In64 c.ph
def flagsO (pb po : Nat) : List Addr := [⟨pb, po + 2, none⟩, ⟨pb, po + 5, none⟩, ⟨pb, po + 8, none⟩]
theorem flagsO_nodup (pb po : Nat) : (flagsO pb po).Nodup := by simp [flagsO]

set_option maxRecDepth 100000 in
set_option maxHeartbeats 2000000 in
theorem carOutput_any (k : Kind) (N b pb po : Nat) (c : CarOut) (l : List UInt8) (x : BldD) (A : Option Addr) (cap u d : Nat) (code : Int) (w : World) (hu : u < 4294967296) (hd : d < 4294967296) (hc : saneCo c) (hN : N ≤ w.heap.size)
    (hC : k.At N w b l) (hR : k.Room l 19) (hp : CellsAt w pb po (coV c)) (hf : ∀ j, j < 9 → w.frozen? ⟨pb, po + j, none⟩ = false) (hpb : pb ≠ b) (hpN : N ≤ pb) :
    Calls Try.prog 66 #[.agg (fieldsA (k.v b) x A cap u d code), .pointer (some ⟨pb, po, none⟩)] w fun e w' => Kept N (fun p => p.block = b ∨ (p.block = pb ∧ po ≤ p.off ∧ p.off < po + 9)) w w' ∧
      ((k.coOk l c u d ∧ e = .returned (.tuple #[]) ∧ k.At N w' b (k.coN l c) ∧ CellsAt w' pb po (coV (k.coR l c))) ∨ (¬ k.coOk l c u d ∧ e = refusedP code)) := by
  have hpw : pb < w.heap.size := World.block_lt_of_cell? w _ (hp 0 _ rfl)
  obtain ⟨⟨hiu, hid⟩, ⟨hlu, hld⟩, ⟨hcm1, hcm2⟩, hph1, hph2⟩ := hc
  obtain ⟨hbw, hNb⟩ := Kind.lt hC
  have hcv : plainV (k.v b) = true := by cases k <;> rfl
  have hk0 : Kept N (fun p => p.block = b ∨ (p.block = pb ∧ po ≤ p.off ∧ p.off < po + 9)) w (w.alloc (.cells (fieldsA (k.v b) x A cap u d code) 77)) := (Kept.refl _ _ _).alloc hN _
  have hbox := fun wx (h : Kept N (fun p => p.block = b ∨ (p.block = pb ∧ po ≤ p.off ∧ p.off < po + 9)) (w.alloc (.cells (fieldsA (k.v b) x A cap u d code) 77)) wx) => boxF (wx := wx) hcv (fun o => by
    intro hh
    rcases hh with hh | hh
    · exact absurd hh (by show ¬ w.heap.size = b; omega)
    · have := hh.1; simp at this; omega) h
  have hA0 := hC.alloc (.cells (fieldsA (k.v b) x A cap u d code) 77)
  have hk1 : Kept N (fun p => p.block = b) w (w.alloc (.cells (fieldsA (k.v b) x A cap u d code) 77)) := (Kept.refl _ _ _).alloc hN _
  have HK1 := Lib.hid hk1
  clear hk1
  have HB := Lib.hid hbox
  have HK0 := Lib.hid hk0
  have HA0 := Lib.hid hA0
  have hz0 : (w.alloc (.cells (fieldsA (k.v b) x A cap u d code) 77)).heap.size = w.heap.size + 1 := by simp
  clear hbox hk0 hA0
  go_enter Try.func66, Try.ntmps66
  go_wp2_with fail
  generalize w.alloc (.cells (fieldsA (k.v b) x A cap u d code) 77) = W0 at *
  have V0 := Lib.hid (hp.kept HK1.out (coV_plain c) (fun _ _ => hpb))
  have hr : ∀ wx j, Kept N (fun p => p.block = b ∨ (p.block = pb ∧ po ≤ p.off ∧ p.off < po + 9)) W0 wx → j < 9 → wx.frozen? ⟨pb, po + j, none⟩ = false := fun wx j h hj => ((HK0.out.trans h).froz _ hpw).trans (hf j hj)
  have HR := Lib.hid hr
  clear hr hp hf
  refine Chain.chain (fun p wx => Kept N (fun p => p.block = b ∨ (p.block = pb ∧ po ≤ p.off ∧ p.off < po + 9)) W0 wx ∧ (if p = 0 then Below W0.heap.size W0 wx else (k.At N wx b (k.coL1 l c) ∧ (k.setsOk l c.iu c.id u d) ∧ CellsAt wx pb po (coV (k.co1 l c))))) (fun e wx => e = Exit.panic [{ v := .iface 138 (.agg #[.int .i64 code]), recovered := false }] ∧ ¬ (k.setsOk l c.iu c.id u d) ∧ Kept N (fun p => p.block = b ∨ (p.block = pb ∧ po ≤ p.off ∧ p.off < po + 9)) w wx) [5] (by kernel_rfl) (by kernel_rfl) (fun e a' w' hdf he => ?_) ⟨Kept.drew (Kept.refl _ _ _), (Below.refl _ _).drew⟩ ?_
  · obtain ⟨rfl, hx⟩ := he
    exact ⟨hdf, hx.2, .inr ⟨fun hh => hx.1 hh.1, rfl⟩⟩
  iterate 5
    (apply Chain.walk_quiet (by rfl) (by decide)
     (intro p wx _ _ hx K hK
      obtain ⟨c0, c1, c2, c3, c4, c5, c6, c7, c8, c9, c10, c11⟩ := HB.out wx hx.1
      have HX := Lib.hid hx
      clear hx
      go_simp
      go_at_K
      exact hK _ HX.out)
     exact ⟨_, rfl⟩)
  apply Chain.walk_turn 0 (by rfl) (by rfl)
  · intro wx hx K hK
    obtain ⟨hkx, hbx⟩ := hx
    replace hbx : Below W0.heap.size W0 wx := hbx
    have HKX := Lib.hid hkx
    have HBX := Lib.hid hbx
    clear hkx hbx
    go_simp
    go_at_call 56
    refine (calls_any k N b pb (po + 0) c.iu c.id l x A cap u d code wx hu hd hiu hid (by have := HKX.out.below.size; omega) (HA0.out.below HBX.out) (Kind.Room.left (s := 8) (t := 11) hR) ((V0.out.below HBX.out) 0 _ rfl) ((V0.out.below HBX.out) 1 _ rfl) (HR.out wx 0 HKX.out (by omega)) (HR.out wx 1 HKX.out (by omega)) hpb hpN).mono ?_
    rintro e w3 ⟨hk3, ⟨ok, rfl, hA3, hc3⟩ | ⟨ok, rfl⟩⟩
    · exact hK _ ⟨HKX.out.trans (hk3.mono (fun p hp => by rcases hp with hp | rfl | rfl; exact .inl hp; exact .inr ⟨rfl, by show po ≤ po + 0; omega, by show po + 0 < po + 9; omega⟩; exact .inr ⟨rfl, by show po ≤ po + 1; omega, by show po + 1 < po + 9; omega⟩)), hA3, ok, (V0.out.below HBX.out |>.step hk3 (coV_plain _) (fun j v hj => by
        have hno : ∀ j, (j ≠ 0 ∧ j ≠ 1) → ¬ ((⟨pb, po + j, none⟩ : Addr).block = b ∨ (⟨pb, po + j, none⟩ : Addr) = ⟨pb, po + 0, none⟩ ∨ (⟨pb, po + j, none⟩ : Addr) = ⟨pb, po + 0 + 1, none⟩) := fun j hj hh => hh.elim hpb (fun h => h.elim (fun h => by injection h with _ h; omega) (fun h => by injection h with _ h; omega))
        match j, hj with
        | 0, hj => cases hj; exact .inl hc3.1
        | 1, hj => cases hj; exact .inl hc3.2
        | 2, hj => exact .inr ⟨hj, hno 2 (by omega)⟩
        | 3, hj => exact .inr ⟨hj, hno 3 (by omega)⟩
        | 4, hj => exact .inr ⟨hj, hno 4 (by omega)⟩
        | 5, hj => exact .inr ⟨hj, hno 5 (by omega)⟩
        | 6, hj => exact .inr ⟨hj, hno 6 (by omega)⟩
        | 7, hj => exact .inr ⟨hj, hno 7 (by omega)⟩
        | 8, hj => exact .inr ⟨hj, hno 8 (by omega)⟩
        | j + 9, hj => cases hj))⟩
    · exact ⟨rfl, ok, (HK0.out.trans HKX.out).trans (hk3.mono (fun p hp => by rcases hp with hp | rfl | rfl; exact .inl hp; exact .inr ⟨rfl, by show po ≤ po + 0; omega, by show po + 0 < po + 9; omega⟩; exact .inr ⟨rfl, by show po ≤ po + 1; omega, by show po + 1 < po + 9; omega⟩))⟩
  · exact ⟨undef, rfl⟩
  refine Chain.walk_nil (fun w1 hx => ?_)
  obtain ⟨hk2, hx⟩ := hx
  replace hx : (k.At N w1 b (k.coL1 l c) ∧ (k.setsOk l c.iu c.id u d) ∧ CellsAt w1 pb po (coV (k.co1 l c))) := hx
  obtain ⟨hA3, hs3, hv3⟩ := hx
  have HS1 := Lib.hid hs3
  have HA1 := Lib.hid hA3
  have V1 := Lib.hid hv3
  have HK11 := Lib.hid hk2
  clear hA3 hv3 hk2 hs3
  go_wp2_with fail
  refine Chain.chain (fun p wx => Kept N (fun p => p.block = b ∨ (p.block = pb ∧ po ≤ p.off ∧ p.off < po + 9)) W0 wx ∧ (if p = 0 then Below w1.heap.size w1 wx else (k.At N wx b (k.coL2 l c) ∧ (k.setsOk (k.coL1 l c) c.lu c.ld u d) ∧ CellsAt wx pb po (coV (k.co2 l c))))) (fun e wx => e = Exit.panic [{ v := .iface 138 (.agg #[.int .i64 code]), recovered := false }] ∧ ¬ (k.setsOk (k.coL1 l c) c.lu c.ld u d) ∧ Kept N (fun p => p.block = b ∨ (p.block = pb ∧ po ≤ p.off ∧ p.off < po + 9)) w wx) [4] (by kernel_rfl) (by kernel_rfl) (fun e a' w' hdf he => ?_) ⟨Kept.drew (HK11.out), (Below.refl _ _).drew⟩ ?_
  · obtain ⟨rfl, hx⟩ := he
    exact ⟨hdf, hx.2, .inr ⟨fun hh => hx.1 hh.2.1, rfl⟩⟩
  iterate 4
    (apply Chain.walk_quiet (by rfl) (by decide)
     (intro p wx _ _ hx K hK
      obtain ⟨c0, c1, c2, c3, c4, c5, c6, c7, c8, c9, c10, c11⟩ := HB.out wx hx.1
      have HX := Lib.hid hx
      clear hx
      go_simp
      go_at_K
      exact hK _ HX.out)
     exact ⟨_, rfl⟩)
  apply Chain.walk_turn 0 (by rfl) (by rfl)
  · intro wx hx K hK
    obtain ⟨hkx, hbx⟩ := hx
    replace hbx : Below w1.heap.size w1 wx := hbx
    have HKX := Lib.hid hkx
    have HBX := Lib.hid hbx
    clear hkx hbx
    go_simp
    go_at_call 56
    refine (calls_any k N b pb (po + 3) c.lu c.ld (k.coL1 l c) x A cap u d code wx hu hd hlu hld (by have := HKX.out.below.size; omega) (HA1.out.below HBX.out) (Kind.Room.left (s := 8) (t := 3) (Kind.Room.right (s := 4) (t := 11) (Kind.Room.right (s := 4) (t := 15) hR c.iu) c.id)) ((V1.out.below HBX.out) 3 _ rfl) ((V1.out.below HBX.out) 4 _ rfl) (HR.out wx 3 HKX.out (by omega)) (HR.out wx 4 HKX.out (by omega)) hpb hpN).mono ?_
    rintro e w3 ⟨hk3, ⟨ok, rfl, hA3, hc3⟩ | ⟨ok, rfl⟩⟩
    · exact hK _ ⟨HKX.out.trans (hk3.mono (fun p hp => by rcases hp with hp | rfl | rfl; exact .inl hp; exact .inr ⟨rfl, by show po ≤ po + 3; omega, by show po + 3 < po + 9; omega⟩; exact .inr ⟨rfl, by show po ≤ po + 4; omega, by show po + 4 < po + 9; omega⟩)), hA3, ok, (V1.out.below HBX.out |>.step hk3 (coV_plain _) (fun j v hj => by
        have hno : ∀ j, (j ≠ 3 ∧ j ≠ 4) → ¬ ((⟨pb, po + j, none⟩ : Addr).block = b ∨ (⟨pb, po + j, none⟩ : Addr) = ⟨pb, po + 3, none⟩ ∨ (⟨pb, po + j, none⟩ : Addr) = ⟨pb, po + 3 + 1, none⟩) := fun j hj hh => hh.elim hpb (fun h => h.elim (fun h => by injection h with _ h; omega) (fun h => by injection h with _ h; omega))
        match j, hj with
        | 0, hj => exact .inr ⟨hj, hno 0 (by omega)⟩
        | 1, hj => exact .inr ⟨hj, hno 1 (by omega)⟩
        | 2, hj => exact .inr ⟨hj, hno 2 (by omega)⟩
        | 3, hj => cases hj; exact .inl hc3.1
        | 4, hj => cases hj; exact .inl hc3.2
        | 5, hj => exact .inr ⟨hj, hno 5 (by omega)⟩
        | 6, hj => exact .inr ⟨hj, hno 6 (by omega)⟩
        | 7, hj => exact .inr ⟨hj, hno 7 (by omega)⟩
        | 8, hj => exact .inr ⟨hj, hno 8 (by omega)⟩
        | j + 9, hj => cases hj))⟩
    · exact ⟨rfl, ok, (HK0.out.trans HKX.out).trans (hk3.mono (fun p hp => by rcases hp with hp | rfl | rfl; exact .inl hp; exact .inr ⟨rfl, by show po ≤ po + 3; omega, by show po + 3 < po + 9; omega⟩; exact .inr ⟨rfl, by show po ≤ po + 4; omega, by show po + 4 < po + 9; omega⟩))⟩
  · exact ⟨undef, rfl⟩
  refine Chain.walk_nil (fun w2 hx => ?_)
  obtain ⟨hk2, hx⟩ := hx
  replace hx : (k.At N w2 b (k.coL2 l c) ∧ (k.setsOk (k.coL1 l c) c.lu c.ld u d) ∧ CellsAt w2 pb po (coV (k.co2 l c))) := hx
  obtain ⟨hA3, hs3, hv3⟩ := hx
  have HS2 := Lib.hid hs3
  have HA2 := Lib.hid hA3
  have V2 := Lib.hid hv3
  have HK12 := Lib.hid hk2
  clear hA3 hv3 hk2 hs3
  go_wp2_with fail
  refine Chain.chain (fun p wx => Kept N (fun p => p.block = b ∨ (p.block = pb ∧ po ≤ p.off ∧ p.off < po + 9)) W0 wx ∧ (if p = 0 then (Below w2.heap.size w2 wx ∧ wx.heap.size = w2.heap.size) else if p = 1 then (Below w2.heap.size w2 wx ∧ ∀ j a, (flagsO pb po)[j]? = some a → wx.cell? ⟨w2.heap.size, j, none⟩ = some (.pointer (some a))) else (k.At N wx b (k.coL3 l c) ∧ k.coQ l c < 2 ^ 3 ∧ CellsAt wx pb po (coV (k.co3 l c))))) (fun e wx => e = Exit.panic [{ v := .iface 138 (.agg #[.int .i64 code]), recovered := false }] ∧ ¬ k.coQ l c < 2 ^ 3 ∧ Kept N (fun p => p.block = b ∨ (p.block = pb ∧ po ≤ p.off ∧ p.off < po + 9)) w wx) [11, 12] (by kernel_rfl) (by kernel_rfl) (fun e a' w' hdf he => ?_) ⟨Kept.drew HK12.out, (Below.refl _ _).drew, rfl⟩ ?_
  · obtain ⟨rfl, hx⟩ := he
    exact ⟨hdf, hx.2, .inr ⟨fun hh => hx.1 hh.2.2.1, rfl⟩⟩
  iterate 11
    (apply Chain.walk_quiet (by rfl) (by decide)
     (intro p wx _ _ hx K hK
      obtain ⟨c0, c1, c2, c3, c4, c5, c6, c7, c8, c9, c10, c11⟩ := HB.out wx hx.1
      have HX := Lib.hid hx
      clear hx
      go_simp
      go_at_K
      exact hK _ HX.out)
     exact ⟨_, rfl⟩)
  apply Chain.walk_turn 0 (by rfl) (by rfl)
  · intro wx hx K hK
    obtain ⟨hkx, hbx, hsx⟩ := hx
    have HKX := Lib.hid hkx
    have HBX := Lib.hid hbx
    have hw2 : w2.heap.size = wx.heap.size := hsx.symm
    clear hkx hbx hsx
    go_simp
    rw [← hw2]
    go_at_K
    refine hK _ ⟨HKX.out.alloc (by have := HKX.out.below.size; omega) _, HBX.out.alloc (by omega) _, ?_⟩
    intro j a hj
    rw [hw2, cell_of_row _ _ j _ _ (0, 0) (heap_alloc_new wx _)]
    match j, hj with
    | 0, hj => cases hj; rfl
    | 1, hj => cases hj; rfl
    | 2, hj => cases hj; rfl
    | j + 3, hj => cases hj
  · exact ⟨_, rfl⟩
  apply Chain.walk_turn 1 (by rfl) (by rfl)
  · intro wx hx K hK
    obtain ⟨hkx, hbx, hsx⟩ := hx
    have HKX := Lib.hid hkx
    have HBX := Lib.hid hbx
    have HPX := Lib.hid hsx
    have hz2 : W0.heap.size ≤ w2.heap.size := HK12.out.below.size
    have VX := Lib.hid (V2.out.below hbx)
    have HCX := Lib.hid (HA2.out.below hbx)
    clear hkx hbx hsx
    go_simp
    go_at_call 64
    refine (flags_any k N b w2.heap.size 3 (flagsO pb po) c.flags (k.coL2 l c) x A cap u d code wx rfl (by show 3 ≤ 8; omega) (by have := HKX.out.below.size; omega) HCX.out (Kind.Room.left (s := 1) (t := 2) (Kind.Room.right (s := 4) (t := 3) (Kind.Room.right (s := 4) (t := 7) (Kind.Room.right (s := 4) (t := 11) (Kind.Room.right (s := 4) (t := 15) hR c.iu) c.id) c.lu) c.ld)) (fun j h => HPX.out j _ (List.getElem?_eq_getElem h)) (fun j h => ?_) (flagsO_nodup pb po) (by omega)).mono ?_
    · have hj : j < 3 := h
      have h6 : j = 0 ∨ j = 1 ∨ j = 2 := by omega
      rcases h6 with rfl | rfl | rfl
      · exact ⟨VX.out 2 _ rfl, HR.out wx 2 HKX.out (by omega), hpb, hpN, by show pb ≠ w2.heap.size; omega⟩
      · exact ⟨VX.out 5 _ rfl, HR.out wx 5 HKX.out (by omega), hpb, hpN, by show pb ≠ w2.heap.size; omega⟩
      · exact ⟨VX.out 8 _ rfl, HR.out wx 8 HKX.out (by omega), hpb, hpN, by show pb ≠ w2.heap.size; omega⟩
    rintro e w3 ⟨hk3, ⟨ok, rfl, hA3, hc3⟩ | ⟨ok, rfl⟩⟩
    · refine hK _ ⟨HKX.out.trans (hk3.mono (fun p hp => Or.elim hp .inl (fun h => .inr (by simp only [flagsO, List.mem_cons, List.not_mem_nil, or_false] at h; rcases h with rfl | rfl | rfl <;> exact ⟨rfl, by simp, by simp⟩)))), hA3, ok, VX.out.step hk3 (coV_plain _) (fun j v hj => ?_)⟩
      have hno : ∀ j, (j ≠ 2 ∧ j ≠ 5 ∧ j ≠ 8) → ¬ ((⟨pb, po + j, none⟩ : Addr).block = b ∨ (⟨pb, po + j, none⟩ : Addr) ∈ flagsO pb po) := fun j hj hh => hh.elim hpb (fun h => by
        simp only [flagsO, List.mem_cons, List.not_mem_nil, or_false, Addr.mk.injEq] at h; omega)
      match j, hj with
      | 0, hj => exact .inr ⟨hj, hno 0 (by omega)⟩
      | 1, hj => exact .inr ⟨hj, hno 1 (by omega)⟩
      | 2, hj => cases hj; exact .inl (hc3 0 (by show 0 < 3; omega))
      | 3, hj => exact .inr ⟨hj, hno 3 (by omega)⟩
      | 4, hj => exact .inr ⟨hj, hno 4 (by omega)⟩
      | 5, hj => cases hj; exact .inl (hc3 1 (by show 1 < 3; omega))
      | 6, hj => exact .inr ⟨hj, hno 6 (by omega)⟩
      | 7, hj => exact .inr ⟨hj, hno 7 (by omega)⟩
      | 8, hj => cases hj; exact .inl (hc3 2 (by show 2 < 3; omega))
      | j + 9, hj => cases hj
    · exact ⟨rfl, Nat.le_of_not_lt (show ¬ k.coQ l c < 8 from ok), (HK0.out.trans HKX.out).trans (hk3.mono (fun p hp => Or.elim hp .inl (fun h => .inr (by simp only [flagsO, List.mem_cons, List.not_mem_nil, or_false] at h; rcases h with rfl | rfl | rfl <;> exact ⟨rfl, by simp, by simp⟩))))⟩
  · exact ⟨undef, rfl⟩
  refine Chain.walk_nil (fun w3 hx => ?_)
  obtain ⟨hk2, hx⟩ := hx
  replace hx : (k.At N w3 b (k.coL3 l c) ∧ k.coQ l c < 2 ^ 3 ∧ CellsAt w3 pb po (coV (k.co3 l c))) := hx
  obtain ⟨hA3, hs3, hv3⟩ := hx
  have HS3 := Lib.hid hs3
  have HA3 := Lib.hid hA3
  have V3 := Lib.hid hv3
  have HK13 := Lib.hid hk2
  clear hA3 hv3 hk2 hs3
  go_wp2_with fail
  refine Chain.chain (fun p wx => Kept N (fun p => p.block = b ∨ (p.block = pb ∧ po ≤ p.off ∧ p.off < po + 9)) W0 wx ∧ (if p = 0 then Below w3.heap.size w3 wx else (k.At N wx b (k.coL4 l c) ∧ (inB 0 5 (k.numI (k.coL3 l c) c.cmd 1) = true) ∧ CellsAt wx pb po (coV (k.co4 l c))))) (fun e wx => e = Exit.panic [{ v := .iface 138 (.agg #[.int .i64 code]), recovered := false }] ∧ ¬ (inB 0 5 (k.numI (k.coL3 l c) c.cmd 1) = true) ∧ Kept N (fun p => p.block = b ∨ (p.block = pb ∧ po ≤ p.off ∧ p.off < po + 9)) w wx) [4] (by kernel_rfl) (by kernel_rfl) (fun e a' w' hdf he => ?_) ⟨Kept.drew (HK13.out), (Below.refl _ _).drew⟩ ?_
  · obtain ⟨rfl, hx⟩ := he
    exact ⟨hdf, hx.2, .inr ⟨fun hh => hx.1 hh.2.2.2.1, rfl⟩⟩
  iterate 4
    (apply Chain.walk_quiet (by rfl) (by decide)
     (intro p wx _ _ hx K hK
      obtain ⟨c0, c1, c2, c3, c4, c5, c6, c7, c8, c9, c10, c11⟩ := HB.out wx hx.1
      have HX := Lib.hid hx
      clear hx
      go_simp
      go_at_K
      exact hK _ HX.out)
     exact ⟨_, rfl⟩)
  apply Chain.walk_turn 0 (by rfl) (by rfl)
  · intro wx hx K hK
    obtain ⟨hkx, hbx⟩ := hx
    replace hbx : Below w3.heap.size w3 wx := hbx
    have HKX := Lib.hid hkx
    have HBX := Lib.hid hbx
    clear hkx hbx
    go_simp
    go_at_call 77
    refine (number_any k N b ⟨pb, po + 6, none⟩ c.cmd 0 5 1 (k.coL3 l c) x A cap u d code wx (by omega) hcm1 hcm2 (by have := HKX.out.below.size; omega) (HA3.out.below HBX.out) (Kind.Room.left (s := 1) (t := 1) (Kind.Room.right (s := 1) (t := 2) (Kind.Room.right (s := 4) (t := 3) (Kind.Room.right (s := 4) (t := 7) (Kind.Room.right (s := 4) (t := 11) (Kind.Room.right (s := 4) (t := 15) hR c.iu) c.id) c.lu) c.ld) (flg c.flags))) ((V3.out.below HBX.out) 6 _ rfl) (HR.out wx 6 HKX.out (by omega)) hpb hpN).mono ?_
    rintro e w3 ⟨hk3, ⟨ok, rfl, hA3, hc3⟩ | ⟨ok, rfl⟩⟩
    · exact hK _ ⟨HKX.out.trans (hk3.mono (fun p hp => Or.elim hp .inl (fun h => .inr (by subst h; exact ⟨rfl, by show po ≤ po + 6; omega, by show po + 6 < po + 9; omega⟩)))), hA3, ok, (V3.out.below HBX.out |>.one hk3 (coV_plain _) hpb (fun v hv => by cases hv; exact hc3) (fun j hj => by match j, hj with | 0, hj => rfl | 1, hj => rfl | 2, hj => rfl | 3, hj => rfl | 4, hj => rfl | 5, hj => rfl | 6, hj => exact absurd rfl hj | 7, hj => rfl | 8, hj => rfl | j + 9, hj => rfl))⟩
    · exact ⟨rfl, by simp [ok], (HK0.out.trans HKX.out).trans (hk3.mono (fun p hp => Or.elim hp .inl (fun h => .inr (by subst h; exact ⟨rfl, by show po ≤ po + 6; omega, by show po + 6 < po + 9; omega⟩))))⟩
  · exact ⟨undef, rfl⟩
  refine Chain.walk_nil (fun w4 hx => ?_)
  obtain ⟨hk2, hx⟩ := hx
  replace hx : (k.At N w4 b (k.coL4 l c) ∧ (inB 0 5 (k.numI (k.coL3 l c) c.cmd 1) = true) ∧ CellsAt w4 pb po (coV (k.co4 l c))) := hx
  obtain ⟨hA3, hs3, hv3⟩ := hx
  have HS4 := Lib.hid hs3
  have HA4 := Lib.hid hA3
  have V4 := Lib.hid hv3
  have HK14 := Lib.hid hk2
  clear hA3 hv3 hk2 hs3
  go_wp2_with fail
  refine Chain.chain (fun p wx => Kept N (fun p => p.block = b ∨ (p.block = pb ∧ po ≤ p.off ∧ p.off < po + 9)) W0 wx ∧ (if p = 0 then Below w4.heap.size w4 wx else (k.At N wx b (k.coN l c) ∧ (inB 0 4 (k.numI (k.coL4 l c) c.ph 1) = true) ∧ CellsAt wx pb po (coV (k.coR l c))))) (fun e wx => e = Exit.panic [{ v := .iface 138 (.agg #[.int .i64 code]), recovered := false }] ∧ ¬ (inB 0 4 (k.numI (k.coL4 l c) c.ph 1) = true) ∧ Kept N (fun p => p.block = b ∨ (p.block = pb ∧ po ≤ p.off ∧ p.off < po + 9)) w wx) [4] (by kernel_rfl) (by kernel_rfl) (fun e a' w' hdf he => ?_) ⟨Kept.drew (HK14.out), (Below.refl _ _).drew⟩ ?_
  · obtain ⟨rfl, hx⟩ := he
    exact ⟨hdf, hx.2, .inr ⟨fun hh => hx.1 hh.2.2.2.2, rfl⟩⟩
  iterate 4
    (apply Chain.walk_quiet (by rfl) (by decide)
     (intro p wx _ _ hx K hK
      obtain ⟨c0, c1, c2, c3, c4, c5, c6, c7, c8, c9, c10, c11⟩ := HB.out wx hx.1
      have HX := Lib.hid hx
      clear hx
      go_simp
      go_at_K
      exact hK _ HX.out)
     exact ⟨_, rfl⟩)
  apply Chain.walk_turn 0 (by rfl) (by rfl)
  · intro wx hx K hK
    obtain ⟨hkx, hbx⟩ := hx
    replace hbx : Below w4.heap.size w4 wx := hbx
    have HKX := Lib.hid hkx
    have HBX := Lib.hid hbx
    clear hkx hbx
    go_simp
    go_at_call 77
    refine (number_any k N b ⟨pb, po + 7, none⟩ c.ph 0 4 1 (k.coL4 l c) x A cap u d code wx (by omega) hph1 hph2 (by have := HKX.out.below.size; omega) (HA4.out.below HBX.out) (Kind.Room.right (s := 1) (t := 1) (Kind.Room.right (s := 1) (t := 2) (Kind.Room.right (s := 4) (t := 3) (Kind.Room.right (s := 4) (t := 7) (Kind.Room.right (s := 4) (t := 11) (Kind.Room.right (s := 4) (t := 15) hR c.iu) c.id) c.lu) c.ld) (flg c.flags)) (m64 c.cmd)) ((V4.out.below HBX.out) 7 _ rfl) (HR.out wx 7 HKX.out (by omega)) hpb hpN).mono ?_
    rintro e w3 ⟨hk3, ⟨ok, rfl, hA3, hc3⟩ | ⟨ok, rfl⟩⟩
    · exact hK _ ⟨HKX.out.trans (hk3.mono (fun p hp => Or.elim hp .inl (fun h => .inr (by subst h; exact ⟨rfl, by show po ≤ po + 7; omega, by show po + 7 < po + 9; omega⟩)))), hA3, ok, (V4.out.below HBX.out |>.one hk3 (coV_plain _) hpb (fun v hv => by cases hv; exact hc3) (fun j hj => by match j, hj with | 0, hj => rfl | 1, hj => rfl | 2, hj => rfl | 3, hj => rfl | 4, hj => rfl | 5, hj => rfl | 6, hj => rfl | 7, hj => exact absurd rfl hj | 8, hj => rfl | j + 9, hj => rfl))⟩
    · exact ⟨rfl, by simp [ok], (HK0.out.trans HKX.out).trans (hk3.mono (fun p hp => Or.elim hp .inl (fun h => .inr (by subst h; exact ⟨rfl, by show po ≤ po + 7; omega, by show po + 7 < po + 9; omega⟩))))⟩
  · exact ⟨undef, rfl⟩
  refine Chain.walk_nil (fun w5 hx => ?_)
  obtain ⟨hk2, hx⟩ := hx
  replace hx : (k.At N w5 b (k.coN l c) ∧ (inB 0 4 (k.numI (k.coL4 l c) c.ph 1) = true) ∧ CellsAt w5 pb po (coV (k.coR l c))) := hx
  obtain ⟨hA3, hs3, hv3⟩ := hx
  have HS5 := Lib.hid hs3
  have HA5 := Lib.hid hA3
  have V5 := Lib.hid hv3
  have HK15 := Lib.hid hk2
  clear hA3 hv3 hk2 hs3
  go_wp2_with fail
  go_end0
  exact ⟨HK0.out.trans HK15.out, .inl ⟨⟨HS1.out, HS2.out, HS3.out, HS4.out, HS5.out⟩, rfl, HA5.out, V5.out⟩⟩
end

section
open Go.RowKit Frm

/-- What stands ahead of the cars. -/
structure OutH where
  au : Nat
  ad : Nat
  su : Nat
  sd : Nat
  bad : Bool
  full : Bool
  st : Int
def OutH.flags (h : OutH) : List Bool := [h.bad, h.full]
def ohV (h : OutH) (A : Option Addr) (n cap : Nat) : List Value := [.int .u32 h.au, .int .u32 h.ad, .int .u32 h.su, .int .u32 h.sd, .bool h.bad, .bool h.full, .int .i64 h.st, .slice A n cap]
theorem ohV_plain (h : OutH) (A : Option Addr) (n cap : Nat) : ∀ v ∈ ohV h A n cap, plainV v = true := by
  intro v hv
  simp only [ohV, List.mem_cons, List.not_mem_nil, or_false] at hv
  rcases hv with rfl | rfl | rfl | rfl | rfl | rfl | rfl | rfl <;> rfl
def Kind.cosN (k : Kind) : List UInt8 → List CarOut → List UInt8
  | l, [] => l
  | l, c :: cs => k.cosN (k.coN l c) cs
theorem Kind.cosN_snoc (k : Kind) : ∀ (cs : List CarOut) (l : List UInt8) (c : CarOut), k.cosN l (cs ++ [c]) = k.coN (k.cosN l cs) c
  | [], _, _ => rfl
  | a :: cs, l, c => by rw [List.cons_append, Kind.cosN, Kind.cosN_snoc k cs]; rfl
theorem Kind.cosN_take (k : Kind) {cs : List CarOut} {i : Nat} (h : i < cs.length) (l : List UInt8) : k.cosN l (cs.take (i + 1)) = k.coN (k.cosN l (cs.take i)) cs[i] := by
  rw [List.take_succ_eq_append_getElem h, Kind.cosN_snoc]
def Kind.ohL1 (k : Kind) (l : List UInt8) (h : OutH) : List UInt8 := k.next (k.next l h.au 4) h.ad 4
def Kind.ohL2 (k : Kind) (l : List UInt8) (h : OutH) : List UInt8 := k.next (k.next (k.ohL1 l h) h.su 4) h.sd 4
def Kind.ohQ (k : Kind) (l : List UInt8) (h : OutH) : Nat := k.num (k.ohL2 l h) (flg h.flags) 1
def Kind.ohL3 (k : Kind) (l : List UInt8) (h : OutH) : List UInt8 := k.next (k.ohL2 l h) (flg h.flags) 1
def Kind.ohN (k : Kind) (l : List UInt8) (h : OutH) : List UInt8 := k.next (k.ohL3 l h) (m64 h.st) 2
def Kind.oh1 (k : Kind) (l : List UInt8) (h : OutH) : OutH := { h with au := k.num l h.au 4, ad := k.num (k.next l h.au 4) h.ad 4 }
def Kind.oh2 (k : Kind) (l : List UInt8) (h : OutH) : OutH := { k.oh1 l h with su := k.num (k.ohL1 l h) h.su 4, sd := k.num (k.next (k.ohL1 l h) h.su 4) h.sd 4 }
def Kind.oh3 (k : Kind) (l : List UInt8) (h : OutH) : OutH := { k.oh2 l h with bad := (k.ohQ l h).testBit 0, full := (k.ohQ l h).testBit 1 }
def Kind.ohR (k : Kind) (l : List UInt8) (h : OutH) : OutH := { k.oh3 l h with st := k.numI (k.ohL3 l h) h.st 2 }
def Kind.ohOk (k : Kind) (l : List UInt8) (h : OutH) (u d : Nat) : Prop :=
  k.setsOk l h.au h.ad u d ∧ k.setsOk (k.ohL1 l h) h.su h.sd u d ∧ k.ohQ l h < 2 ^ 2 ∧ inB 0 65535 (k.numI (k.ohL3 l h) h.st 2) = true
def saneOh (h : OutH) : Prop := (h.au < 4294967296 ∧ h.ad < 4294967296) ∧ (h.su < 4294967296 ∧ h.sd < 4294967296) ∧ In64 h.st
/-- The car behind those before it. -/
def Kind.coAt (k : Kind) (l : List UInt8) (cs : List CarOut) (i : Nat) : CarOut := k.coR (k.cosN l (cs.take i)) (cs.getD i default)
theorem Kind.Room.co {k : Kind} {l : List UInt8} {t : Nat} (h : k.Room l (19 + t)) (c : CarOut) : k.Room (k.coN l c) t := by
  have h1 : k.Room (k.coL1 l c) (11 + t) := Kind.Room.right (s := 4) (Kind.Room.right (s := 4) (by rw [show 4 + (4 + (11 + t)) = 19 + t from by omega]; exact h) _) _
  have h2 : k.Room (k.coL2 l c) (3 + t) := Kind.Room.right (s := 4) (Kind.Room.right (s := 4) (by rw [show 4 + (4 + (3 + t)) = 11 + t from by omega]; exact h1) _) _
  have h3 : k.Room (k.coL3 l c) (2 + t) := Kind.Room.right (s := 1) (by rw [show 1 + (2 + t) = 3 + t from by omega]; exact h2) _
  have h4 : k.Room (k.coL4 l c) (1 + t) := Kind.Room.right (s := 1) (by rw [show 1 + (1 + t) = 2 + t from by omega]; exact h3) _
  exact Kind.Room.right (s := 1) h4 _
theorem Kind.Room.cos {k : Kind} : ∀ (cs : List CarOut) {l : List UInt8} {t : Nat}, k.Room l (19 * cs.length + t) → k.Room (k.cosN l cs) t
  | [], l, t, h => by
    show k.Room l t
    exact Kind.Room.mono h (by simp)
  | c :: cs, l, t, h => Kind.Room.cos cs (Kind.Room.co (t := 19 * cs.length + t) (by rw [show 19 + (19 * cs.length + t) = 19 * (c :: cs).length + t from by rw [List.length_cons]; omega]; exact h) c)
theorem Kind.Room.oh {k : Kind} {l : List UInt8} {t : Nat} (h : k.Room l (19 + t)) (hd : OutH) : k.Room (k.ohL1 l hd) (11 + t) ∧ k.Room (k.ohL2 l hd) (3 + t) ∧ k.Room (k.ohL3 l hd) (2 + t) ∧ k.Room (k.ohN l hd) t := by
  have h1 : k.Room (k.ohL1 l hd) (11 + t) := Kind.Room.right (s := 4) (Kind.Room.right (s := 4) (by rw [show 4 + (4 + (11 + t)) = 19 + t from by omega]; exact h) _) _
  have h2 : k.Room (k.ohL2 l hd) (3 + t) := Kind.Room.right (s := 4) (Kind.Room.right (s := 4) (by rw [show 4 + (4 + (3 + t)) = 11 + t from by omega]; exact h1) _) _
  have h3 : k.Room (k.ohL3 l hd) (2 + t) := Kind.Room.right (s := 1) (by rw [show 1 + (2 + t) = 3 + t from by omega]; exact h2) _
  exact ⟨h1, h2, h3, Kind.Room.right (s := 2) h3 _⟩
def flagsH (pb : Nat) : List Addr := [⟨pb, 4, none⟩, ⟨pb, 5, none⟩]
theorem flagsH_nodup (pb : Nat) : (flagsH pb).Nodup := by simp [flagsH]
set_option maxRecDepth 100000 in
set_option maxHeartbeats 2000000 in
/-- Another number of cars is refused. -/
theorem outputs_no (k : Kind) (N b pb n cp : Nat) (A' : Option Addr) (l : List UInt8) (x : BldD) (A : Option Addr) (cap u d : Nat) (code : Int) (w : World) (hn : n ≠ x.cars.length) (hN : N ≤ w.heap.size)
    (hC : k.At N w b l) (hp : w.cell? ⟨pb, 7, none⟩ = some (.slice A' n cp)) (hpb : pb ≠ b) :
    Calls Try.prog 40 #[.agg (fieldsA (k.v b) x A cap u d code), .pointer (some ⟨pb, 0, none⟩)] w fun e w' => Kept N (fun p => p.block = b) w w' ∧ e = refusedP code := by
  have hd0 : (((n : Nat) : Int) == (x.cars.length : Nat)) = false := beq_eq_false_iff_ne.2 (by omega)
  obtain ⟨hbw, hNb⟩ := Kind.lt hC
  have hcv : plainV (k.v b) = true := by cases k <;> rfl
  have hk0 : Kept N (fun p => p.block = b) w (w.alloc (.cells (fieldsA (k.v b) x A cap u d code) 77)) := (Kept.refl _ _ _).alloc hN _
  have hbox := fun wx (h : Kept N (fun p => p.block = b) (w.alloc (.cells (fieldsA (k.v b) x A cap u d code) 77)) wx) => boxF (wx := wx) hcv (fun o => by
    intro hh
    exact absurd hh (by show ¬ w.heap.size = b; omega)) h
  have hA0 := hC.alloc (.cells (fieldsA (k.v b) x A cap u d code) 77)
  have HB := Lib.hid hbox
  have HK0 := Lib.hid hk0
  have HA0 := Lib.hid hA0
  have hz0 : (w.alloc (.cells (fieldsA (k.v b) x A cap u d code) 77)).heap.size = w.heap.size + 1 := by simp
  clear hbox hk0 hA0
  go_enter Try.func40, Try.ntmps40
  go_wp2_with fail
  generalize w.alloc (.cells (fieldsA (k.v b) x A cap u d code) 77) = W0 at *
  have q0 := HK0.out.cell _ _ hp rfl hpb
  have Q0 := Lib.hid q0
  clear hp q0
  refine Chain.chain (fun p wx => p = 0 ∧ Below W0.heap.size W0 wx) (fun e wx => e = Exit.panic [{ v := .iface 138 (.agg #[.int .i64 code]), recovered := false }] ∧ Below W0.heap.size W0 wx) [11] (by kernel_rfl) (by kernel_rfl) (fun e a' w' hdf he => ?_) ⟨rfl, (Below.refl _ _).drew⟩ ?_
  · obtain ⟨rfl, hx⟩ := he
    exact ⟨hdf, HK0.out.trans (Kept.of_below (N := N) hx (by omega) _), rfl⟩
  iterate 11
    (apply Chain.walk_quiet (by rfl) (by decide)
     (intro p wx _ _ hx K hK
      obtain ⟨c0, c1, c2, c3, c4, c5, c6, c7, c8, c9, c10, c11⟩ := HB.out wx (Kept.of_below (N := N) hx.2 (by omega) _)
      have cx := (hx.2.cell (World.block_lt_of_cell? W0 _ Q0.out)).trans Q0.out
      have HX := Lib.hid hx
      clear hx
      go_simp
      go_at_K
      exact hK _ HX.out)
     exact ⟨_, rfl⟩)
  apply Chain.walk_turn 0 (by rfl) (by rfl) (a1 := Act.put _ none undef)
  · intro wx hx K hK
    have HX := Lib.hid hx
    clear hx
    go_simp
    go_at_call 55
    refine (expect_no (k.v b) x A cap u d code _).mono ?_
    rintro e w3 ⟨rfl, hb3⟩
    exact ⟨rfl, by have h := HX.out.2.trans (hb3.mono HX.out.2.size); rw [hz0] at h; exact h⟩
  · exact ⟨undef, rfl⟩
  refine Chain.walk_nil (fun w2 hx => absurd hx.1 (by decide))

set_option maxRecDepth 100000 in
set_option maxHeartbeats 4000000 in
theorem outputs_any (k : Kind) (N b pb cb cp : Nat) (hd0 : OutH) (cs : List CarOut) (l : List UInt8) (x : BldD) (A : Option Addr) (cap u d : Nat) (code : Int) (w : World) (hu : u < 4294967296) (hd : d < 4294967296) (hn : cs.length = x.cars.length) (hn8 : cs.length ≤ 1000) (hsh : saneOh hd0) (hcs : ∀ c ∈ cs, saneCo c) (hN : N ≤ w.heap.size)
    (hC : k.At N w b l) (hR : k.Room l (19 + 19 * cs.length)) (hp : CellsAt w pb 0 (ohV hd0 (some ⟨cb, 0, none⟩) cs.length cp)) (hf : ∀ j, j < 7 → w.frozen? ⟨pb, j, none⟩ = false) (hpb : pb ≠ b) (hpN : N ≤ pb)
    (hv : ∀ i (h : i < cs.length), CellsAt w cb (i * 9) (coV cs[i])) (hvf : ∀ j, w.frozen? ⟨cb, j, none⟩ = false) (hcb : cb ≠ b) (hcp : cb ≠ pb) (hcN : N ≤ cb) (hcl : cb < w.heap.size) :
    Calls Try.prog 40 #[.agg (fieldsA (k.v b) x A cap u d code), .pointer (some ⟨pb, 0, none⟩)] w fun e w' => Kept N (fun p => p.block = b ∨ (p.block = pb ∧ p.off < 7) ∨ p.block = cb) w w' ∧
      (((k.ohOk l hd0 u d ∧ ∀ i (h : i < cs.length), k.coOk (k.cosN (k.ohN l hd0) (cs.take i)) cs[i] u d) ∧ e = .returned (.tuple #[]) ∧ k.At N w' b (k.cosN (k.ohN l hd0) cs) ∧
          CellsAt w' pb 0 (ohV (k.ohR l hd0) (some ⟨cb, 0, none⟩) cs.length cp) ∧ ∀ i (h : i < cs.length), CellsAt w' cb (i * 9) (coV (k.coAt (k.ohN l hd0) cs i))) ∨
       (¬ (k.ohOk l hd0 u d ∧ ∀ i (h : i < cs.length), k.coOk (k.cosN (k.ohN l hd0) (cs.take i)) cs[i] u d) ∧ e = refusedP code)) := by
  have hpw : pb < w.heap.size := World.block_lt_of_cell? w _ (hp 0 _ rfl)
  have hde : (((cs.length : Nat) : Int) == (x.cars.length : Nat)) = true := by rw [hn]; exact beq_self_eq_true _
  obtain ⟨⟨hau, had⟩, ⟨hsu, hsd⟩, hst1, hst2⟩ := hsh
  obtain ⟨hr1, hr2, hr3, hr4⟩ := Kind.Room.oh hR hd0
  have R1 := Lib.hid hr1
  have R2 := Lib.hid hr2
  have R3 := Lib.hid hr3
  have R4 := Lib.hid hr4
  clear hr1 hr2 hr3 hr4
  obtain ⟨hbw, hNb⟩ := Kind.lt hC
  have hcv : plainV (k.v b) = true := by cases k <;> rfl
  have hk0 : Kept N (fun p => p.block = b ∨ (p.block = pb ∧ p.off < 7) ∨ p.block = cb) w (w.alloc (.cells (fieldsA (k.v b) x A cap u d code) 77)) := (Kept.refl _ _ _).alloc hN _
  have hbox := fun wx (h : Kept N (fun p => p.block = b ∨ (p.block = pb ∧ p.off < 7) ∨ p.block = cb) (w.alloc (.cells (fieldsA (k.v b) x A cap u d code) 77)) wx) => boxF (wx := wx) hcv (fun o => by
    intro hh
    rcases hh with hh | hh | hh
    · exact absurd hh (by show ¬ w.heap.size = b; omega)
    · have := hh.1; simp at this; omega
    · exact absurd hh (by show ¬ w.heap.size = cb; omega)) h
  have hA0 := hC.alloc (.cells (fieldsA (k.v b) x A cap u d code) 77)
  have hk1 : Kept N (fun p => p.block = b) w (w.alloc (.cells (fieldsA (k.v b) x A cap u d code) 77)) := (Kept.refl _ _ _).alloc hN _
  have HK1 := Lib.hid hk1
  clear hk1
  have HB := Lib.hid hbox
  have HK0 := Lib.hid hk0
  have HA0 := Lib.hid hA0
  have hz0 : (w.alloc (.cells (fieldsA (k.v b) x A cap u d code) 77)).heap.size = w.heap.size + 1 := by simp
  clear hbox hk0 hA0
  go_enter Try.func40, Try.ntmps40
  go_wp2_with fail
  generalize w.alloc (.cells (fieldsA (k.v b) x A cap u d code) 77) = W0 at *
  have V0 := Lib.hid (hp.kept HK1.out (ohV_plain _ _ _ _) (fun _ _ => hpb))
  have C0 : Hid (∀ i (h : i < cs.length), CellsAt W0 cb (i * 9) (coV cs[i])) := fun i h => (hv i h).kept HK1.out (coV_plain _) (fun _ _ => hcb)
  have hr : ∀ wx j, Kept N (fun p => p.block = b ∨ (p.block = pb ∧ p.off < 7) ∨ p.block = cb) W0 wx → j < 7 → wx.frozen? ⟨pb, j, none⟩ = false := fun wx j h hj => ((HK0.out.trans h).froz _ hpw).trans (hf j hj)
  have hr2 : ∀ wx j, Kept N (fun p => p.block = b ∨ (p.block = pb ∧ p.off < 7) ∨ p.block = cb) W0 wx → wx.frozen? ⟨cb, j, none⟩ = false := fun wx j h => ((HK0.out.trans h).froz _ hcl).trans (hvf j)
  have HR := Lib.hid hr
  have HR2 := Lib.hid hr2
  have HCS := Lib.hid hcs
  have HN := Lib.hid hn
  clear hn
  clear hr hr2 hp hf hv hvf hcs
  refine Bag.region (fun wx => Kept N (fun p => p.block = b ∨ (p.block = pb ∧ p.off < 7) ∨ p.block = cb) W0 wx ∧ Below W0.heap.size W0 wx) (by kernel_rfl) (by kernel_rfl) ⟨(Kept.refl _ _ _).drew, (Below.refl _ _).drew⟩ ?_
  iterate 11
    (apply Bag.walk_yes (by rfl)
     (intro wx hx K hK
      obtain ⟨c0, c1, c2, c3, c4, c5, c6, c7, c8, c9, c10, c11⟩ := HB.out wx hx.1
      have cx := (V0.out.below hx.2) 7 _ rfl
      have HX := Lib.hid hx
      clear hx
      simp only [Nat.zero_add] at cx
      go_simp
      go_at_K
      exact hK _ HX.out)
     rfl)
  apply Bag.walk_yes (by rfl)
  · intro wx hx K hK
    have HX := Lib.hid hx
    clear hx
    go_simp
    go_at_call 55
    refine (expect_yes (k.v b) x A cap u d code _).mono ?_
    rintro e w3 ⟨rfl, hb3⟩
    exact hK _ ⟨HX.out.1.trans (Kept.of_below (N := N) hb3 (by have := HX.out.1.below.size; omega) _), HX.out.2.trans (hb3.mono HX.out.2.size)⟩
  · rfl
  refine Bag.walk_nil (fun w1 hx => ?_)
  obtain ⟨hk2, hb2⟩ := hx
  have V1 := Lib.hid (V0.out.below hb2)
  have C1 : Hid (∀ i (h : i < cs.length), CellsAt w1 cb (i * 9) (coV cs[i])) := fun i h => (C0.out i h).below hb2
  have HA1 := Lib.hid (HA0.out.below hb2)
  have HK11 := Lib.hid hk2
  clear hk2 hb2
  go_wp2_with fail
  refine Chain.chain (fun p wx => Kept N (fun p => p.block = b ∨ (p.block = pb ∧ p.off < 7) ∨ p.block = cb) W0 wx ∧ (if p = 0 then Below w1.heap.size w1 wx else (k.At N wx b (k.ohL1 l hd0) ∧ (k.setsOk l hd0.au hd0.ad u d) ∧ CellsAt wx pb 0 (ohV (k.oh1 l hd0) (some ⟨cb, 0, none⟩) cs.length cp) ∧ ∀ i (h : i < cs.length), CellsAt wx cb (i * 9) (coV cs[i])))) (fun e wx => e = Exit.panic [{ v := .iface 138 (.agg #[.int .i64 code]), recovered := false }] ∧ ¬ (k.setsOk l hd0.au hd0.ad u d) ∧ Kept N (fun p => p.block = b ∨ (p.block = pb ∧ p.off < 7) ∨ p.block = cb) w wx) [4] (by kernel_rfl) (by kernel_rfl) (fun e a' w' hdf he => ?_) ⟨Kept.drew (HK11.out), (Below.refl _ _).drew⟩ ?_
  · obtain ⟨rfl, hx⟩ := he
    exact ⟨hdf, hx.2, .inr ⟨fun hh => hx.1 hh.1.1, rfl⟩⟩
  iterate 4
    (apply Chain.walk_quiet (by rfl) (by decide)
     (intro p wx _ _ hx K hK
      obtain ⟨c0, c1, c2, c3, c4, c5, c6, c7, c8, c9, c10, c11⟩ := HB.out wx hx.1
      have HX := Lib.hid hx
      clear hx
      go_simp
      go_at_K
      exact hK _ HX.out)
     exact ⟨_, rfl⟩)
  apply Chain.walk_turn 0 (by rfl) (by rfl)
  · intro wx hx K hK
    obtain ⟨hkx, hbx⟩ := hx
    replace hbx : Below w1.heap.size w1 wx := hbx
    have HKX := Lib.hid hkx
    have HBX := Lib.hid hbx
    clear hkx hbx
    go_simp
    go_at_call 56
    refine (calls_any k N b pb 0 hd0.au hd0.ad l x A cap u d code wx hu hd hau had (by have := HKX.out.below.size; omega) (HA1.out.below HBX.out) (Kind.Room.mono hR (by omega)) ((V1.out.below HBX.out) 0 _ rfl) ((V1.out.below HBX.out) 1 _ rfl) (HR.out wx 0 HKX.out (by omega)) (HR.out wx 1 HKX.out (by omega)) hpb hpN).mono ?_
    rintro e w3 ⟨hk3, ⟨ok, rfl, hA3, hc3⟩ | ⟨ok, rfl⟩⟩
    · exact hK _ ⟨HKX.out.trans (hk3.mono (fun p hp => by rcases hp with hp | rfl | rfl; exact .inl hp; exact .inr (.inl ⟨rfl, by show 0 < 7; omega⟩); exact .inr (.inl ⟨rfl, by show 1 < 7; omega⟩))), hA3, ok, (V1.out.below HBX.out |>.step hk3 (ohV_plain _ _ _ _) (fun j v hj => by
        have hno : ∀ j, (j ≠ 0 ∧ j ≠ 1) → ¬ ((⟨pb, 0 + j, none⟩ : Addr).block = b ∨ (⟨pb, 0 + j, none⟩ : Addr) = ⟨pb, 0, none⟩ ∨ (⟨pb, 0 + j, none⟩ : Addr) = ⟨pb, 0 + 1, none⟩) := fun j hj hh => hh.elim hpb (fun h => h.elim (fun h => by injection h with _ h; omega) (fun h => by injection h with _ h; omega))
        match j, hj with
        | 0, hj => cases hj; exact .inl hc3.1
        | 1, hj => cases hj; exact .inl hc3.2
        | 2, hj => exact .inr ⟨hj, hno 2 (by omega)⟩
        | 3, hj => exact .inr ⟨hj, hno 3 (by omega)⟩
        | 4, hj => exact .inr ⟨hj, hno 4 (by omega)⟩
        | 5, hj => exact .inr ⟨hj, hno 5 (by omega)⟩
        | 6, hj => exact .inr ⟨hj, hno 6 (by omega)⟩
        | 7, hj => exact .inr ⟨hj, hno 7 (by omega)⟩
        | j + 8, hj => cases hj)), fun i h => (C1.out i h).below HBX.out |>.kept hk3 (coV_plain _) (fun j _ hh => hh.elim hcb (fun h => h.elim (fun h => by injection h with h; exact hcp h) (fun h => by injection h with h; exact hcp h)))⟩
    · exact ⟨rfl, ok, (HK0.out.trans HKX.out).trans (hk3.mono (fun p hp => by rcases hp with hp | rfl | rfl; exact .inl hp; exact .inr (.inl ⟨rfl, by show 0 < 7; omega⟩); exact .inr (.inl ⟨rfl, by show 1 < 7; omega⟩)))⟩
  · exact ⟨undef, rfl⟩
  refine Chain.walk_nil (fun w2 hx => ?_)
  obtain ⟨hk2, hx⟩ := hx
  replace hx : (k.At N w2 b (k.ohL1 l hd0) ∧ (k.setsOk l hd0.au hd0.ad u d) ∧ CellsAt w2 pb 0 (ohV (k.oh1 l hd0) (some ⟨cb, 0, none⟩) cs.length cp) ∧ ∀ i (h : i < cs.length), CellsAt w2 cb (i * 9) (coV cs[i])) := hx
  obtain ⟨hA3, hs3, hv3, hcc3⟩ := hx
  have HS1 := Lib.hid hs3
  have HA2 := Lib.hid hA3
  have V2 := Lib.hid hv3
  have C2 := Lib.hid hcc3
  have HK12 := Lib.hid hk2
  clear hA3 hs3 hv3 hcc3 hk2
  go_wp2_with fail
  refine Chain.chain (fun p wx => Kept N (fun p => p.block = b ∨ (p.block = pb ∧ p.off < 7) ∨ p.block = cb) W0 wx ∧ (if p = 0 then Below w2.heap.size w2 wx else (k.At N wx b (k.ohL2 l hd0) ∧ (k.setsOk (k.ohL1 l hd0) hd0.su hd0.sd u d) ∧ CellsAt wx pb 0 (ohV (k.oh2 l hd0) (some ⟨cb, 0, none⟩) cs.length cp) ∧ ∀ i (h : i < cs.length), CellsAt wx cb (i * 9) (coV cs[i])))) (fun e wx => e = Exit.panic [{ v := .iface 138 (.agg #[.int .i64 code]), recovered := false }] ∧ ¬ (k.setsOk (k.ohL1 l hd0) hd0.su hd0.sd u d) ∧ Kept N (fun p => p.block = b ∨ (p.block = pb ∧ p.off < 7) ∨ p.block = cb) w wx) [4] (by kernel_rfl) (by kernel_rfl) (fun e a' w' hdf he => ?_) ⟨Kept.drew (HK12.out), (Below.refl _ _).drew⟩ ?_
  · obtain ⟨rfl, hx⟩ := he
    exact ⟨hdf, hx.2, .inr ⟨fun hh => hx.1 hh.1.2.1, rfl⟩⟩
  iterate 4
    (apply Chain.walk_quiet (by rfl) (by decide)
     (intro p wx _ _ hx K hK
      obtain ⟨c0, c1, c2, c3, c4, c5, c6, c7, c8, c9, c10, c11⟩ := HB.out wx hx.1
      have HX := Lib.hid hx
      clear hx
      go_simp
      go_at_K
      exact hK _ HX.out)
     exact ⟨_, rfl⟩)
  apply Chain.walk_turn 0 (by rfl) (by rfl)
  · intro wx hx K hK
    obtain ⟨hkx, hbx⟩ := hx
    replace hbx : Below w2.heap.size w2 wx := hbx
    have HKX := Lib.hid hkx
    have HBX := Lib.hid hbx
    clear hkx hbx
    go_simp
    go_at_call 56
    refine (calls_any k N b pb 2 hd0.su hd0.sd (k.ohL1 l hd0) x A cap u d code wx hu hd hsu hsd (by have := HKX.out.below.size; omega) (HA2.out.below HBX.out) (Kind.Room.mono R1.out (by omega)) ((V2.out.below HBX.out) 2 _ rfl) ((V2.out.below HBX.out) 3 _ rfl) (HR.out wx 2 HKX.out (by omega)) (HR.out wx 3 HKX.out (by omega)) hpb hpN).mono ?_
    rintro e w3 ⟨hk3, ⟨ok, rfl, hA3, hc3⟩ | ⟨ok, rfl⟩⟩
    · exact hK _ ⟨HKX.out.trans (hk3.mono (fun p hp => by rcases hp with hp | rfl | rfl; exact .inl hp; exact .inr (.inl ⟨rfl, by show 2 < 7; omega⟩); exact .inr (.inl ⟨rfl, by show 3 < 7; omega⟩))), hA3, ok, (V2.out.below HBX.out |>.step hk3 (ohV_plain _ _ _ _) (fun j v hj => by
        have hno : ∀ j, (j ≠ 2 ∧ j ≠ 3) → ¬ ((⟨pb, 0 + j, none⟩ : Addr).block = b ∨ (⟨pb, 0 + j, none⟩ : Addr) = ⟨pb, 2, none⟩ ∨ (⟨pb, 0 + j, none⟩ : Addr) = ⟨pb, 2 + 1, none⟩) := fun j hj hh => hh.elim hpb (fun h => h.elim (fun h => by injection h with _ h; omega) (fun h => by injection h with _ h; omega))
        match j, hj with
        | 0, hj => exact .inr ⟨hj, hno 0 (by omega)⟩
        | 1, hj => exact .inr ⟨hj, hno 1 (by omega)⟩
        | 2, hj => cases hj; exact .inl hc3.1
        | 3, hj => cases hj; exact .inl hc3.2
        | 4, hj => exact .inr ⟨hj, hno 4 (by omega)⟩
        | 5, hj => exact .inr ⟨hj, hno 5 (by omega)⟩
        | 6, hj => exact .inr ⟨hj, hno 6 (by omega)⟩
        | 7, hj => exact .inr ⟨hj, hno 7 (by omega)⟩
        | j + 8, hj => cases hj)), fun i h => (C2.out i h).below HBX.out |>.kept hk3 (coV_plain _) (fun j _ hh => hh.elim hcb (fun h => h.elim (fun h => by injection h with h; exact hcp h) (fun h => by injection h with h; exact hcp h)))⟩
    · exact ⟨rfl, ok, (HK0.out.trans HKX.out).trans (hk3.mono (fun p hp => by rcases hp with hp | rfl | rfl; exact .inl hp; exact .inr (.inl ⟨rfl, by show 2 < 7; omega⟩); exact .inr (.inl ⟨rfl, by show 3 < 7; omega⟩)))⟩
  · exact ⟨undef, rfl⟩
  refine Chain.walk_nil (fun w3 hx => ?_)
  obtain ⟨hk2, hx⟩ := hx
  replace hx : (k.At N w3 b (k.ohL2 l hd0) ∧ (k.setsOk (k.ohL1 l hd0) hd0.su hd0.sd u d) ∧ CellsAt w3 pb 0 (ohV (k.oh2 l hd0) (some ⟨cb, 0, none⟩) cs.length cp) ∧ ∀ i (h : i < cs.length), CellsAt w3 cb (i * 9) (coV cs[i])) := hx
  obtain ⟨hA3, hs3, hv3, hcc3⟩ := hx
  have HS2 := Lib.hid hs3
  have HA3 := Lib.hid hA3
  have V3 := Lib.hid hv3
  have C3 := Lib.hid hcc3
  have HK13 := Lib.hid hk2
  clear hA3 hs3 hv3 hcc3 hk2
  go_wp2_with fail
  refine Chain.chain (fun p wx => Kept N (fun p => p.block = b ∨ (p.block = pb ∧ p.off < 7) ∨ p.block = cb) W0 wx ∧ (if p = 0 then (Below w3.heap.size w3 wx ∧ wx.heap.size = w3.heap.size) else if p = 1 then (Below w3.heap.size w3 wx ∧ ∀ j a, (flagsH pb)[j]? = some a → wx.cell? ⟨w3.heap.size, j, none⟩ = some (.pointer (some a))) else (k.At N wx b (k.ohL3 l hd0) ∧ k.ohQ l hd0 < 2 ^ 2 ∧ CellsAt wx pb 0 (ohV (k.oh3 l hd0) (some ⟨cb, 0, none⟩) cs.length cp) ∧ ∀ i (h : i < cs.length), CellsAt wx cb (i * 9) (coV cs[i])))) (fun e wx => e = Exit.panic [{ v := .iface 138 (.agg #[.int .i64 code]), recovered := false }] ∧ ¬ k.ohQ l hd0 < 2 ^ 2 ∧ Kept N (fun p => p.block = b ∨ (p.block = pb ∧ p.off < 7) ∨ p.block = cb) w wx) [7, 8] (by kernel_rfl) (by kernel_rfl) (fun e a' w' hdf he => ?_) ⟨Kept.drew HK13.out, (Below.refl _ _).drew, rfl⟩ ?_
  · obtain ⟨rfl, hx⟩ := he
    exact ⟨hdf, hx.2, .inr ⟨fun hh => hx.1 hh.1.2.2.1, rfl⟩⟩
  iterate 7
    (apply Chain.walk_quiet (by rfl) (by decide)
     (intro p wx _ _ hx K hK
      obtain ⟨c0, c1, c2, c3, c4, c5, c6, c7, c8, c9, c10, c11⟩ := HB.out wx hx.1
      have HX := Lib.hid hx
      clear hx
      go_simp
      go_at_K
      exact hK _ HX.out)
     exact ⟨_, rfl⟩)
  apply Chain.walk_turn 0 (by rfl) (by rfl)
  · intro wx hx K hK
    obtain ⟨hkx, hbx, hsx⟩ := hx
    have HKX := Lib.hid hkx
    have HBX := Lib.hid hbx
    have hw2 : w3.heap.size = wx.heap.size := hsx.symm
    clear hkx hbx hsx
    go_simp
    rw [← hw2]
    go_at_K
    refine hK _ ⟨HKX.out.alloc (by have := HKX.out.below.size; omega) _, HBX.out.alloc (by omega) _, ?_⟩
    intro j a hj
    rw [hw2, cell_of_row _ _ j _ _ (0, 0) (heap_alloc_new wx _)]
    match j, hj with
    | 0, hj => cases hj; rfl
    | 1, hj => cases hj; rfl
    | j + 2, hj => cases hj
  · exact ⟨_, rfl⟩
  apply Chain.walk_turn 1 (by rfl) (by rfl)
  · intro wx hx K hK
    obtain ⟨hkx, hbx, hsx⟩ := hx
    have HKX := Lib.hid hkx
    have HBX := Lib.hid hbx
    have HPX := Lib.hid hsx
    have hz2 : W0.heap.size ≤ w3.heap.size := HK13.out.below.size
    have VX := Lib.hid (V3.out.below hbx)
    have CX := Lib.hid (fun i h => (C3.out i h).below hbx)
    have HCX := Lib.hid (HA3.out.below hbx)
    clear hkx hbx hsx
    go_simp
    go_at_call 64
    refine (flags_any k N b w3.heap.size 2 (flagsH pb) hd0.flags (k.ohL2 l hd0) x A cap u d code wx rfl (by show 2 ≤ 8; omega) (by have := HKX.out.below.size; omega) HCX.out (Kind.Room.mono R2.out (by omega)) (fun j h => HPX.out j _ (List.getElem?_eq_getElem h)) (fun j h => ?_) (flagsH_nodup pb) (by omega)).mono ?_
    · have hj : j < 2 := h
      have h6 : j = 0 ∨ j = 1 := by omega
      rcases h6 with rfl | rfl
      · exact ⟨VX.out 4 _ rfl, HR.out wx 4 HKX.out (by omega), hpb, hpN, by show pb ≠ w3.heap.size; omega⟩
      · exact ⟨VX.out 5 _ rfl, HR.out wx 5 HKX.out (by omega), hpb, hpN, by show pb ≠ w3.heap.size; omega⟩
    rintro e w4 ⟨hk3, ⟨ok, rfl, hA3, hc3⟩ | ⟨ok, rfl⟩⟩
    · refine hK _ ⟨HKX.out.trans (hk3.mono (fun p hp => Or.elim hp .inl (fun h => .inr (.inl (by simp only [flagsH, List.mem_cons, List.not_mem_nil, or_false] at h; rcases h with rfl | rfl <;> exact ⟨rfl, by simp⟩))))), hA3, ok, VX.out.step hk3 (ohV_plain _ _ _ _) (fun j v hj => ?_), fun i h => (CX.out i h).kept hk3 (coV_plain _) (fun j _ hh => hh.elim hcb (fun h => by
        simp only [flagsH, List.mem_cons, List.not_mem_nil, or_false, Addr.mk.injEq] at h
        rcases h with h | h <;> exact hcp h.1))⟩
      have hno : ∀ j, (j ≠ 4 ∧ j ≠ 5) → ¬ ((⟨pb, 0 + j, none⟩ : Addr).block = b ∨ (⟨pb, 0 + j, none⟩ : Addr) ∈ flagsH pb) := fun j hj hh => hh.elim hpb (fun h => by
        simp only [flagsH, List.mem_cons, List.not_mem_nil, or_false, Addr.mk.injEq] at h; omega)
      match j, hj with
      | 0, hj => exact .inr ⟨hj, hno 0 (by omega)⟩
      | 1, hj => exact .inr ⟨hj, hno 1 (by omega)⟩
      | 2, hj => exact .inr ⟨hj, hno 2 (by omega)⟩
      | 3, hj => exact .inr ⟨hj, hno 3 (by omega)⟩
      | 4, hj => cases hj; exact .inl (hc3 0 (by show 0 < 2; omega))
      | 5, hj => cases hj; exact .inl (hc3 1 (by show 1 < 2; omega))
      | 6, hj => exact .inr ⟨hj, hno 6 (by omega)⟩
      | 7, hj => exact .inr ⟨hj, hno 7 (by omega)⟩
      | j + 8, hj => cases hj
    · exact ⟨rfl, Nat.le_of_not_lt (show ¬ k.ohQ l hd0 < 4 from ok), (HK0.out.trans HKX.out).trans (hk3.mono (fun p hp => Or.elim hp .inl (fun h => .inr (.inl (by simp only [flagsH, List.mem_cons, List.not_mem_nil, or_false] at h; rcases h with rfl | rfl <;> exact ⟨rfl, by simp⟩)))))⟩
  · exact ⟨undef, rfl⟩
  refine Chain.walk_nil (fun w4 hx => ?_)
  obtain ⟨hk2, hx⟩ := hx
  replace hx : (k.At N w4 b (k.ohL3 l hd0) ∧ k.ohQ l hd0 < 2 ^ 2 ∧ CellsAt w4 pb 0 (ohV (k.oh3 l hd0) (some ⟨cb, 0, none⟩) cs.length cp) ∧ ∀ i (h : i < cs.length), CellsAt w4 cb (i * 9) (coV cs[i])) := hx
  obtain ⟨hA3, hs3, hv3, hcc3⟩ := hx
  have HS3 := Lib.hid hs3
  have HA4 := Lib.hid hA3
  have V4 := Lib.hid hv3
  have C4 := Lib.hid hcc3
  have HK14 := Lib.hid hk2
  clear hA3 hv3 hk2 hs3 hcc3
  go_wp2_with fail
  refine Chain.chain (fun p wx => Kept N (fun p => p.block = b ∨ (p.block = pb ∧ p.off < 7) ∨ p.block = cb) W0 wx ∧ (if p = 0 then Below w4.heap.size w4 wx else (k.At N wx b (k.ohN l hd0) ∧ (inB 0 65535 (k.numI (k.ohL3 l hd0) hd0.st 2) = true) ∧ CellsAt wx pb 0 (ohV (k.ohR l hd0) (some ⟨cb, 0, none⟩) cs.length cp) ∧ ∀ i (h : i < cs.length), CellsAt wx cb (i * 9) (coV cs[i])))) (fun e wx => e = Exit.panic [{ v := .iface 138 (.agg #[.int .i64 code]), recovered := false }] ∧ ¬ (inB 0 65535 (k.numI (k.ohL3 l hd0) hd0.st 2) = true) ∧ Kept N (fun p => p.block = b ∨ (p.block = pb ∧ p.off < 7) ∨ p.block = cb) w wx) [4] (by kernel_rfl) (by kernel_rfl) (fun e a' w' hdf he => ?_) ⟨Kept.drew (HK14.out), (Below.refl _ _).drew⟩ ?_
  · obtain ⟨rfl, hx⟩ := he
    exact ⟨hdf, hx.2, .inr ⟨fun hh => hx.1 hh.1.2.2.2, rfl⟩⟩
  iterate 4
    (apply Chain.walk_quiet (by rfl) (by decide)
     (intro p wx _ _ hx K hK
      obtain ⟨c0, c1, c2, c3, c4, c5, c6, c7, c8, c9, c10, c11⟩ := HB.out wx hx.1
      have HX := Lib.hid hx
      clear hx
      go_simp
      go_at_K
      exact hK _ HX.out)
     exact ⟨_, rfl⟩)
  apply Chain.walk_turn 0 (by rfl) (by rfl)
  · intro wx hx K hK
    obtain ⟨hkx, hbx⟩ := hx
    replace hbx : Below w4.heap.size w4 wx := hbx
    have HKX := Lib.hid hkx
    have HBX := Lib.hid hbx
    clear hkx hbx
    go_simp
    go_at_call 65
    refine (status_any k N b ⟨pb, 6, none⟩ hd0.st (k.ohL3 l hd0) x A cap u d code wx hst1 hst2 (by have := HKX.out.below.size; omega) (HA4.out.below HBX.out) (Kind.Room.mono R3.out (by omega)) ((V4.out.below HBX.out) 6 _ rfl) (HR.out wx 6 HKX.out (by omega)) hpb hpN).mono ?_
    rintro e w3 ⟨hk3, ⟨ok, rfl, hA3, hc3⟩ | ⟨ok, rfl⟩⟩
    · exact hK _ ⟨HKX.out.trans (hk3.mono (fun p hp => by rcases hp with hp | rfl; exact .inl hp; exact .inr (.inl ⟨rfl, by show 6 < 7; omega⟩))), hA3, ok, (V4.out.below HBX.out |>.step hk3 (ohV_plain _ _ _ _) (fun j v hj => by
        have hno : ∀ j, j ≠ 6 → ¬ ((⟨pb, 0 + j, none⟩ : Addr).block = b ∨ (⟨pb, 0 + j, none⟩ : Addr) = ⟨pb, 6, none⟩) := fun j hj hh => hh.elim hpb (fun h => by injection h with _ h; omega)
        match j, hj with
        | 0, hj => exact .inr ⟨hj, hno 0 (by omega)⟩
        | 1, hj => exact .inr ⟨hj, hno 1 (by omega)⟩
        | 2, hj => exact .inr ⟨hj, hno 2 (by omega)⟩
        | 3, hj => exact .inr ⟨hj, hno 3 (by omega)⟩
        | 4, hj => exact .inr ⟨hj, hno 4 (by omega)⟩
        | 5, hj => exact .inr ⟨hj, hno 5 (by omega)⟩
        | 6, hj => cases hj; exact .inl hc3
        | 7, hj => exact .inr ⟨hj, hno 7 (by omega)⟩
        | j + 8, hj => cases hj)), fun i h => (C4.out i h).below HBX.out |>.kept hk3 (coV_plain _) (fun j _ hh => hh.elim hcb (fun h => by injection h with h; exact hcp h))⟩
    · exact ⟨rfl, by simp [ok], (HK0.out.trans HKX.out).trans (hk3.mono (fun p hp => by rcases hp with hp | rfl; exact .inl hp; exact .inr (.inl ⟨rfl, by show 6 < 7; omega⟩)))⟩
  · exact ⟨undef, rfl⟩
  refine Chain.walk_nil (fun w5 hx => ?_)
  obtain ⟨hk2, hx⟩ := hx
  replace hx : (k.At N w5 b (k.ohN l hd0) ∧ (inB 0 65535 (k.numI (k.ohL3 l hd0) hd0.st 2) = true) ∧ CellsAt w5 pb 0 (ohV (k.ohR l hd0) (some ⟨cb, 0, none⟩) cs.length cp) ∧ ∀ i (h : i < cs.length), CellsAt w5 cb (i * 9) (coV cs[i])) := hx
  obtain ⟨hA3, hs3, hv3, hcc3⟩ := hx
  have HS4 := Lib.hid hs3
  have HA5 := Lib.hid hA3
  have V5 := Lib.hid hv3
  have C5 := Lib.hid hcc3
  have HK15 := Lib.hid hk2
  have c7 := hv3 7 _ rfl
  simp only [Nat.zero_add] at c7
  clear hA3 hs3 hv3 hcc3 hk2
  go_wp2_with fail
  go_loopw [46] (fun v wr => ∃ m : Nat, m ≤ cs.length ∧ v = .int .i64 m ∧ Kept N (fun p => p.block = b ∨ (p.block = pb ∧ p.off < 7) ∨ p.block = cb) W0 wr ∧ k.At N wr b (k.cosN (k.ohN l hd0) (cs.take m)) ∧ CellsAt wr pb 0 (ohV (k.ohR l hd0) (some ⟨cb, 0, none⟩) cs.length cp) ∧ (∀ i (h : i < cs.length), i < m → k.coOk (k.cosN (k.ohN l hd0) (cs.take i)) cs[i] u d) ∧ ∀ i (h : i < cs.length), CellsAt wr cb (i * 9) (coV (if i < m then k.coAt (k.ohN l hd0) cs i else cs[i]))) (fun v _ => cs.length - (intOf v).toNat)
  case atStart => exact ⟨0, Nat.zero_le _, rfl, HK15.out, HA5.out, V5.out, fun _ _ h => absurd h (by omega), fun i h => by rw [if_neg (by omega)]; exact C5.out i h⟩
  case round =>
    obtain ⟨m, hm, rfl, hkr, har, hvr, hor, hcr⟩ := hrel
    have HKR := Lib.hid hkr
    have HAR := Lib.hid har
    have HVR := Lib.hid hvr
    have HOR := Lib.hid hor
    have HCR := Lib.hid hcr
    clear hkr har hvr hor hcr c7
    by_cases hlt : m < cs.length
    · go_wp2_with fail
      refine Chain.chain (fun p wx => Kept N (fun p => p.block = b ∨ (p.block = pb ∧ p.off < 7) ∨ p.block = cb) W0 wx ∧ (if p = 0 then Below wr.heap.size wr wx else (k.At N wx b (k.coN (k.cosN (k.ohN l hd0) (cs.take m)) cs[m]) ∧ k.coOk (k.cosN (k.ohN l hd0) (cs.take m)) cs[m] u d ∧ CellsAt wx pb 0 (ohV (k.ohR l hd0) (some ⟨cb, 0, none⟩) cs.length cp) ∧ ∀ i (h : i < cs.length), CellsAt wx cb (i * 9) (coV (if i < m + 1 then k.coAt (k.ohN l hd0) cs i else cs[i]))))) (fun e wx => e = Exit.panic [{ v := .iface 138 (.agg #[.int .i64 code]), recovered := false }] ∧ ¬ k.coOk (k.cosN (k.ohN l hd0) (cs.take m)) cs[m] u d ∧ Kept N (fun p => p.block = b ∨ (p.block = pb ∧ p.off < 7) ∨ p.block = cb) w wx) [7] (by kernel_rfl) (by kernel_rfl) (fun e a' w' hdf he => ?_) ⟨Kept.drew (HKR.out), (Below.refl _ _).drew⟩ ?_
      · obtain ⟨rfl, hx⟩ := he
        exact ⟨hdf, hx.2, .inr ⟨fun hh => hx.1 (hh.2 m hlt), rfl⟩⟩
      iterate 7
        (apply Chain.walk_quiet (by rfl) (by decide)
         (intro p wx _ _ hx K hK
          obtain ⟨c0, c1, c2, c3, c4, c5, c6, c7, c8, c9, c10, c11⟩ := HB.out wx hx.1
          have cx : wx.cell? ⟨pb, 7, none⟩ = some (.slice (some ⟨cb, 0, none⟩) cs.length cp) := by
            have h5 : ¬ ((⟨pb, 7, none⟩ : Addr).block = b ∨ ((⟨pb, 7, none⟩ : Addr).block = pb ∧ (7 : Nat) < 7) ∨ (⟨pb, 7, none⟩ : Addr).block = cb) := fun hh => hh.elim hpb (fun h => h.elim (fun h => absurd h.2 (by omega)) (fun h => hcp h.symm))
            have h6 := V0.out 7 _ rfl
            simp only [Nat.zero_add] at h6
            exact hx.1.cell _ _ h6 rfl h5
          have HX := Lib.hid hx
          clear hx
          go_simp
          go_at_K
          exact hK _ HX.out)
         exact ⟨_, rfl⟩)
      apply Chain.walk_turn 0 (by rfl) (by rfl)
      · intro wx hx K hK
        obtain ⟨hkx, hbx⟩ := hx
        replace hbx : Below wr.heap.size wr wx := hbx
        have HKX := Lib.hid hkx
        have HBX := Lib.hid hbx
        clear hkx hbx
        go_simp
        go_at_call 66
        refine (carOutput_any k N b cb (m * 9) cs[m] (k.cosN (k.ohN l hd0) (cs.take m)) x A cap u d code wx hu hd (HCS.out _ (List.getElem_mem hlt)) (by have := HKX.out.below.size; omega) (HAR.out.below HBX.out) (Kind.Room.mono (Kind.Room.cos (cs.take m) (t := 19) (Kind.Room.mono R4.out (by rw [List.length_take]; omega))) (Nat.le_refl _)) (by have := (HCR.out m hlt).below HBX.out; rwa [if_neg (by omega)] at this) (fun j _ => HR2.out wx _ HKX.out) hcb hcN).mono ?_
        rintro e w3 ⟨hk3, ⟨ok, rfl, hA3, hc3⟩ | ⟨ok, rfl⟩⟩
        · exact hK _ ⟨HKX.out.trans (hk3.mono (fun p hp => Or.elim hp .inl (fun h => .inr (.inr h.1)))), hA3, ok, (HVR.out.below HBX.out).kept hk3 (ohV_plain _ _ _ _) (fun j _ hh => hh.elim hpb (fun h => hcp h.1.symm)), fun i h => by
            by_cases him : i = m
            · subst him
              rw [if_pos (by omega), Kind.coAt, List.getD_eq_getElem?_getD, List.getElem?_eq_getElem h]
              exact hc3
            · have h0 := ((HCR.out i h).below HBX.out).kept hk3 (coV_plain _) (fun j hj hh => hh.elim hcb (fun h => by
                have h1 : m * 9 ≤ i * 9 + j := h.2.1
                have h2 : i * 9 + j < m * 9 + 9 := h.2.2
                have h3 : j < 9 := hj
                omega))
              by_cases h1 : i < m
              · rw [if_pos h1] at h0; rw [if_pos (by omega)]; exact h0
              · rw [if_neg h1] at h0; rw [if_neg (by omega)]; exact h0⟩
        · exact ⟨rfl, ok, (HK0.out.trans HKX.out).trans (hk3.mono (fun p hp => Or.elim hp .inl (fun h => .inr (.inr h.1))))⟩
      · exact ⟨undef, rfl⟩
      refine Chain.walk_nil (fun w6 hx => ?_)
      obtain ⟨hk2, hx⟩ := hx
      replace hx : (k.At N w6 b (k.coN (k.cosN (k.ohN l hd0) (cs.take m)) cs[m]) ∧ k.coOk (k.cosN (k.ohN l hd0) (cs.take m)) cs[m] u d ∧ CellsAt w6 pb 0 (ohV (k.ohR l hd0) (some ⟨cb, 0, none⟩) cs.length cp) ∧ ∀ i (h : i < cs.length), CellsAt w6 cb (i * 9) (coV (if i < m + 1 then k.coAt (k.ohN l hd0) cs i else cs[i]))) := hx
      obtain ⟨hA3, hs3, hv3, hcc3⟩ := hx
      have HS6 := Lib.hid hs3
      have HA6 := Lib.hid hA3
      have V6 := Lib.hid hv3
      have C6 := Lib.hid hcc3
      have HK6 := Lib.hid hk2
      clear hA3 hs3 hv3 hcc3 hk2
      go_wp2_with fail
      go_roundw
      case rel =>
        refine ⟨m + 1, by omega, by go_num, HK6.out, ?_, V6.out, ?_, ?_⟩
        · rw [Kind.cosN_take k hlt]; exact HA6.out
        · intro i h hi
          by_cases him : i = m
          · subst him; exact HS6.out
          · exact HOR.out i h (by omega)
        · exact C6.out
      case measure => simp [intOf]; omega
    · obtain rfl : m = cs.length := by omega
      go_wp2_with fail
      go_end0
      refine ⟨HK0.out.trans HKR.out, .inl ⟨⟨⟨HS1.out, HS2.out, HS3.out, HS4.out⟩, fun i h => HOR.out i h h⟩, rfl, ?_, HVR.out, fun i h => ?_⟩⟩
      · have := HAR.out; rwa [List.take_length] at this
      · have := HCR.out i h; rwa [if_pos h] at this
end

section
open Go.RowKit Frm

theorem carOutInfo : (Try.prog.info? 93).map (fun i => (i.zero, i.size, i.bytes)) = some (some (.agg (coV ⟨0, 0, false, 0, 0, false, 0, 0, false⟩).toArray), 9, 48) := by kernel_rfl

/-- Cars lie in memory at an address. -/
def CosV (w : World) (A : Option Addr) (cs : List CarOut) : Prop :=
  cs = [] ∨ ∃ b off, A = some ⟨b, off, none⟩ ∧ ∀ i (h : i < cs.length), CellsAt w b (off + i * 9) (coV cs[i])
def flatOu (cs : List CarOut) : List Value := cs.flatMap coV
theorem flatOu_length (cs : List CarOut) : (flatOu cs).length = cs.length * 9 := by
  induction cs with
  | nil => rfl
  | cons c cs ih => unfold flatOu at ih ⊢; rw [List.flatMap_cons, List.length_append, ih, List.length_cons]; show 9 + _ = _; omega
theorem flatOu_at : ∀ (cs : List CarOut) (i : Nat) (h : i < cs.length) (j : Nat), j < 9 → (flatOu cs)[i * 9 + j]? = (coV cs[i])[j]?
  | [], i, h, _, _ => absurd h (by simp)
  | c :: cs, 0, h, j, hj => by
    unfold flatOu
    rw [List.flatMap_cons, List.getElem?_append_left (by show 0 * 9 + j < 9; omega)]
    simp
  | c :: cs, i + 1, h, j, hj => by
    unfold flatOu
    rw [List.flatMap_cons, List.getElem?_append_right (by show 9 ≤ _; omega)]
    have := flatOu_at cs i (by simpa using h) j hj
    unfold flatOu at this
    have e : (i + 1) * 9 + j - (coV c).length = i * 9 + j := by show (i + 1) * 9 + j - 9 = _; omega
    rw [e, this]
    rfl
theorem flatOu_one (cs : List CarOut) : ∀ u ∈ flatOu cs, u.oneCell' = true := by
  intro u hu
  unfold flatOu at hu
  rw [List.mem_flatMap] at hu
  obtain ⟨c, _, hc⟩ := hu
  simp only [coV, List.mem_cons, List.not_mem_nil, or_false] at hc
  rcases hc with rfl | rfl | rfl | rfl | rfl | rfl | rfl | rfl | rfl <;> rfl
theorem CosV.flat {w : World} {b off : Nat} {cs : List CarOut} (h : ∀ i (h : i < cs.length), CellsAt w b (off + i * 9) (coV cs[i])) : ∀ j u, (flatOu cs)[j]? = some u → w.cell? ((⟨b, off, none⟩ : Addr).add j) = some u := by
  intro j u hu
  have hj : j < cs.length * 9 := by
    have := (List.getElem?_eq_some_iff.1 hu).1
    rwa [flatOu_length] at this
  have hadd : (⟨b, off, none⟩ : Addr).add j = ⟨b, off + j, none⟩ := by unfold Addr.add; split <;> simp_all
  have e : j = j / 9 * 9 + j % 9 := by omega
  have hi : j / 9 < cs.length := by omega
  rw [e, flatOu_at cs _ hi _ (by omega)] at hu
  have := h _ hi _ _ hu
  rw [hadd, show off + j = off + j / 9 * 9 + j % 9 from by omega]
  exact this
/-- What owns cars has them. -/
theorem owns_cos {w : World} {base g n cap : Nat} {e : TypeId} {cs : List CarOut} (h : w.ownsRow base e 9 (.slice (some ⟨g, 0, none⟩) n cap) n (flatOu cs)) :
    (∀ i (h : i < cs.length), CellsAt w g (i * 9) (coV cs[i])) ∧ ∀ j, w.frozen? ⟨g, j, none⟩ = false := by
  constructor
  · intro i hi j v hj
    have hj11 : j < 9 := (List.getElem?_eq_some_iff.1 hj).1
    have := h.cells (g := g) rfl (i * 9 + j) v (by rw [flatOu_at cs i hi j hj11]; exact hj)
    have hadd : (⟨g, 0, none⟩ : Addr).add (i * 9 + j) = ⟨g, i * 9 + j, none⟩ := by unfold Addr.add; split <;> simp_all
    rwa [hadd] at this
  · intro j
    rcases h.2 with ⟨hv, _⟩ | ⟨g1, cap1, cur, hv, _, hg, _⟩
    · cases hv
    · injection hv with e1 _ _
      injection e1 with e1
      injection e1 with e1
      subst e1
      simp [World.frozen?, hg]

/-- What a call has made of cars: a row of its own, if there are any. -/
def NewCos (w w' : World) (A : Option Addr) (cs : List CarOut) : Prop :=
  cs = [] ∨ ∃ g, A = some ⟨g, 0, none⟩ ∧ w.heap.size ≤ g ∧ g < w'.heap.size ∧ (∀ i (h : i < cs.length), CellsAt w' g (i * 9) (coV cs[i])) ∧ ∀ j, w'.frozen? ⟨g, j, none⟩ = false

set_option maxRecDepth 100000 in
set_option maxHeartbeats 1000000 in
theorem cloneOut_any (A : Option Addr) (cp : Nat) (cs : List CarOut) (w : World) (hn : cs.length ≤ 1000) (hv : CosV w A cs) :
    Calls Try.prog 39 #[.slice A cs.length cp] w fun e w' => Below w.heap.size w w' ∧ ∃ A' cp', e = .returned (.slice A' cs.length cp') ∧ NewCos w w' A' cs := by
  obtain ⟨i0, hi0, hz0, hz1, hz2⟩ := info_parts carOutInfo
  rcases hv with rfl | ⟨b, off, rfl, hc⟩
  · cases A with
    | none =>
      have hq : ∀ w, (binOp .eql 44 (.slice none 0 cp) (.slice none 0 0)).run Try.prog w = .ok (.bool true) w := fun _ => by kernel_rfl
      go_enter Try.func39, Try.ntmps39
      go_wp2_with fail
      go_ret
      exact ⟨Below.refl _ _, none, 0, rfl, .inl rfl⟩
    | some a =>
      have hq : ∀ w, (binOp .eql 44 (.slice (some a) 0 cp) (.slice none 0 0)).run Try.prog w = .ok (.bool false) w := fun _ => by kernel_rfl
      have hl : ∀ w, (loadCellsFrom a 0 0 #[]).run Try.prog w = .ok #[] w := fun _ => rfl
      have hst : ∀ p w, (storeCells p [] 0).run Try.prog w = .ok () w := fun _ _ => rfl
      go_enter Try.func39, Try.ntmps39
      go_wp2_with fail
      go_ret
      exact ⟨by go_grown, _, _, rfl, .inl rfl⟩
  · have hq : ∀ w, (binOp .eql 44 (.slice (some ⟨b, off, none⟩) cs.length cp) (.slice none 0 0)).run Try.prog w = .ok (.bool false) w := fun _ => by kernel_rfl
    by_cases h0 : cs = []
    · subst h0
      have hl : ∀ w, (loadCellsFrom ⟨b, off, none⟩ 0 0 #[]).run Try.prog w = .ok #[] w := fun _ => rfl
      have hst : ∀ p w, (storeCells p [] 0).run Try.prog w = .ok () w := fun _ _ => rfl
      simp only [List.length_nil] at hq ⊢
      go_enter Try.func39, Try.ntmps39
      go_wp2_with fail
      go_ret
      exact ⟨by go_grown, _, _, rfl, .inl rfl⟩
    · have hpos : 0 < cs.length := List.length_pos_iff.2 h0
      have HC := Lib.hid hc
      have H0 := Lib.hid h0
      have HP := Lib.hid hpos
      clear hc h0 hpos
      go_enter Try.func39, Try.ntmps39
      go_wp2_with (at_builtin; refine wpList_append_lies _ rfl (.tmp 5) (.tmp 6) 44 rfl w.heap.size 93 i0 _ 9 48 Try.underlying44 hi0 hz0 hz1 hz2 rfl (by omega) (.slice (some ⟨w.heap.size, 0, none⟩) 0 0) 0 [] rfl (World.ownsRow_made w #[] 0 (Nat.le_refl _) (by unfold maxLen; omega) rfl) ⟨b, off, none⟩ cs.length cp (flatOu cs) rfl (flatOu_length cs) (CosV.flat (fun i h => (HC.out i h).below ((Below.refl _ _).alloc (Nat.le_refl _) _))) (flatOu_one cs) HP.out (by unfold maxLen; omega) (by omega) (by simp) _ rfl ?_; intro g cap' w1 hown hgrow hat hlt)
      go_ret
      simp only [List.nil_append, Nat.zero_add] at hown
      have hbel : Below w.heap.size w w1 := ((Below.refl w.heap.size w).alloc (Nat.le_refl _) (.cells #[] 93)).grown hgrow (by simp) (fun k hk => by simp [Value.ownBlock] at hk; omega)
      have hg : w.heap.size ≤ g := by
        rcases hat with h | h
        · simp [Value.ownBlock] at h; omega
        · rw [h]; simp
      obtain ⟨h1, h2⟩ := owns_cos hown
      exact ⟨hbel, some ⟨g, 0, none⟩, cap', by simp, .inr ⟨g, rfl, hg, hlt, h1, h2⟩⟩
end

section
open Go.RowKit Frm

/-- Outputs. -/
structure Ou where
  h : OutH
  cars : List CarOut
/-- Outputs that a carrier accepts. -/
def Kind.ouOk (k : Kind) (l : List UInt8) (y : Ou) (u d C : Nat) : Prop :=
  y.cars.length = C ∧ k.ohOk l y.h u d ∧ ∀ i (h : i < y.cars.length), k.coOk (k.cosN (k.ohN l y.h) (y.cars.take i)) y.cars[i] u d
/-- The text behind them. -/
def Kind.ouN (k : Kind) (l : List UInt8) (y : Ou) : List UInt8 := k.cosN (k.ohN l y.h) y.cars
def saneOu (y : Ou) : Prop := saneOh y.h ∧ ∀ c ∈ y.cars, saneCo c

theorem CosV.below {w w' : World} {A : Option Addr} {cs : List CarOut} (h : CosV w A cs) (hb : Below w.heap.size w w') : CosV w' A cs := by
  rcases h with h | ⟨b, off, hA, h⟩
  · exact .inl h
  · exact .inr ⟨b, off, hA, fun i hi => (h i hi).below hb⟩

set_option maxRecDepth 100000 in
set_option maxHeartbeats 2000000 in
theorem outLayout_any (N b bx cp : Nat) (A' : Option Addr) (y : Ou) (l : List UInt8) (x : BldD) (A : Option Addr) (cap u d : Nat) (code : Int) (w : World) (hu : u < 4294967296) (hd : d < 4294967296) (hx : 1 ≤ x.cars.length ∧ x.cars.length ≤ 1000) (hn : y.cars.length ≤ 1000) (hy : saneOu y) (hN : N ≤ w.heap.size)
    (hC : Kind.At .wr N w b l) (hR : l.length ≤ 100000) (hp : CellsAt w bx 0 (ohV y.h A' y.cars.length cp)) (hf : ∀ j, j < 8 → w.frozen? ⟨bx, j, none⟩ = false) (hpb : bx ≠ b) (hpN : N ≤ bx) (hv : CosV w A' y.cars) :
    Calls Try.prog 38 #[.agg (fieldsA (Kind.v .wr b) x A cap u d code), .pointer (some ⟨bx, 0, none⟩)] w fun e w' => Kept N (fun p => p.block = b ∨ p.block = bx) w w' ∧
      ((Kind.ouOk .wr l y u d x.cars.length ∧ e = .returned (.tuple #[]) ∧ Kind.At .wr N w' b (Kind.ouN .wr l y)) ∨ (¬ Kind.ouOk .wr l y u d x.cars.length ∧ e = refusedP code)) := by
  obtain ⟨hbw, hNb⟩ := Kind.lt hC
  have hpw : bx < w.heap.size := World.block_lt_of_cell? w _ (hp 0 _ rfl)
  obtain ⟨hd0, cs⟩ := y
  obtain ⟨hsh, hcs⟩ := hy
  simp only at *
  have c4 := hp 7 _ rfl
  simp only [Nat.zero_add] at c4
  have f4 := hf 7 (by omega)
  have HV := Lib.hid hv
  have HP := Lib.hid hp
  have HF := Lib.hid hf
  clear hv hp hf
  unfold fieldsA
  go_enter Try.func38, Try.ntmps38
  go_wp2_with fail
  have hb0 : Below w.heap.size w (w.alloc (.cells (fieldsA (Kind.v .wr b) x A cap u d code) 77)) := (Below.refl _ _).alloc (Nat.le_refl _) _
  refine (cloneOut_any A' cp cs _ hn (HV.out.below hb0)).mono ?_
  rintro e w1 ⟨hb1, A2, cp2, rfl, hnew⟩
  replace hb1 : Below (w.alloc (.cells (fieldsA (Kind.v .wr b) x A cap u d code) 77)).heap.size (w.alloc (.cells (fieldsA (Kind.v .wr b) x A cap u d code) 77)) w1 := hb1
  replace hnew : NewCos (w.alloc (.cells (fieldsA (Kind.v .wr b) x A cap u d code) 77)) w1 A2 cs := hnew
  have hz0 : (w.alloc (.cells (fieldsA (Kind.v .wr b) x A cap u d code) 77)).heap.size = w.heap.size + 1 := by simp
  have hb2 : Below w.heap.size w w1 := hb0.trans (hb1.mono (by omega))
  have hsz := hb1.size
  obtain ⟨c0, c1, c2, c3, c5, c6, c7, c8, c9, c10, c11, c12⟩ := boxF (wx := w1) (S := fun _ => False) (N := N) (x := x) (A := A) (cap := cap) (u := u) (d := d) (code := code) (c := Kind.v .wr b) rfl (fun _ h => h) (Kept.of_below hb1 (by omega) _)
  have c4' : w1.cell? ⟨bx, 7, none⟩ = some (.slice A' cs.length cp) := (hb2.cell (p := ⟨bx, 7, none⟩) hpw).trans c4
  have f4' : w1.frozen? ⟨bx, 7, none⟩ = false := (hb2.frozen (p := ⟨bx, 7, none⟩) hpw).trans f4
  have hne : ¬ w.heap.size = bx := by omega
  have hne' : ¬ bx = w.heap.size := by omega
  have HB2 := Lib.hid hb2
  have HNEW := Lib.hid hnew
  rw [hz0] at hsz
  clear hb0 hb1 hz0 hb2 hnew c4 f4
  go_wp2_with fail
  have hA1 : Kind.At .wr N (w1.setCell ⟨bx, 7, none⟩ (.slice A2 cs.length cp2)) b l := (hC.below HB2.out).setCell c4' rfl hpb _
  have k1 : Kept N (fun p => p.block = b ∨ p.block = bx) w (w1.setCell ⟨bx, 7, none⟩ (.slice A2 cs.length cp2)) := (Kept.of_below HB2.out hN _).setCell hpN (.inr rfl) _
  have hs1 : (w1.setCell ⟨bx, 7, none⟩ (.slice A2 cs.length cp2)).heap.size = w1.heap.size := by simp [World.setCell]
  have h4 : (w1.setCell ⟨bx, 7, none⟩ (.slice A2 cs.length cp2)).cell? ⟨bx, 7, none⟩ = some (.slice A2 cs.length cp2) := World.cell?_setCell_same _ _ _ c4'
  by_cases hnc : cs.length = x.cars.length
  · rcases HNEW.out with h0 | ⟨g, rfl, hg1, hg2, hg3, hg4⟩
    · subst h0; simp at hnc; omega
    · have hgw : w.heap.size < g := by simp at hg1; omega
      refine (outputs_any .wr N b bx g cp2 hd0 cs l x A cap u d code _ hu hd hnc hn hsh hcs (by omega) hA1 (by show l.length + (19 + 19 * cs.length) ≤ 900000; omega) (fun j v hj => ?_) (fun j hj => ?_) hpb hpN (fun i h => ?_) (fun j => ?_) (by omega) (by omega) (by omega) (by omega)).mono ?_
      · by_cases h4j : j = 7
        · subst h4j; cases hj; exact h4
        · rw [World.cell?_setCell_other _ _ _ _ (by intro he; injection he with _ he; omega), HB2.out.cell (p := ⟨bx, 0 + j, none⟩) hpw]
          refine HP.out j v ?_
          match j, hj with
          | 0, hj => exact hj
          | 1, hj => exact hj
          | 2, hj => exact hj
          | 3, hj => exact hj
          | 4, hj => exact hj
          | 5, hj => exact hj
          | 6, hj => exact hj
          | 7, hj => exact absurd rfl h4j
          | j + 8, hj => cases hj
      · rw [World.frozen?_setCell, HB2.out.frozen (p := ⟨bx, j, none⟩) hpw]
        exact HF.out j (by omega)
      · intro j v hj
        rw [World.cell?_setCell_other _ _ _ _ (by intro he; injection he with he; omega)]
        exact hg3 i h j v hj
      · rw [World.frozen?_setCell]; exact hg4 j
      rintro e w3 ⟨hk3, ⟨ok, rfl, hA3, _, _⟩ | ⟨ok, rfl⟩⟩
      · have hkk : Kept N (fun p => p.block = b ∨ p.block = bx) w w3 := k1.past hk3 (fun p hp hs => hs.elim .inl (fun h => h.elim (fun h => .inr h.1) (fun h => absurd h (by omega))))
        have HKK := Lib.hid hkk
        have HOK := Lib.hid ok
        have HA3 := Lib.hid hA3
        clear hk3 ok hA3 hkk hA1 k1 h4 c0 c1 c2 c3 c5 c6 c7 c8 c9 c10 c11 c12
        go_wp2_with fail
        go_end0
        exact ⟨HKK.out, .inl ⟨⟨hnc, HOK.out.1, HOK.out.2⟩, rfl, HA3.out⟩⟩
      · exact ⟨rfl, k1.past hk3 (fun p hp hs => hs.elim .inl (fun h => h.elim (fun h => .inr h.1) (fun h => absurd h (by omega)))), .inr ⟨fun hh => ok ⟨hh.2.1, hh.2.2⟩, rfl⟩⟩
  · refine (outputs_no .wr N b bx cs.length cp2 A2 l x A cap u d code _ hnc (by omega) hA1 h4 hpb).mono ?_
    rintro e w3 ⟨hk3, rfl⟩
    exact ⟨rfl, k1.trans (hk3.mono (fun p hp => .inl hp)), .inr ⟨fun hh => hnc hh.1, rfl⟩⟩
end
end Go.Proofs.Ytapkjknpoafhjaa
