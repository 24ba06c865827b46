/- frame's carOutput: what a car is told. No statement of the seat is proved here. -/
import Derived.Test.YthbfpdkgbkpmiaaCarIn
import Derived.Test.YthbfpdkgbkpmiaaG15
namespace Go.Proofs.Ythbfpdkgbkpmiaa
open Go.RowKit Frm

/-- What a car is told. -/
structure CarOut where
  iu : Nat
  id : Nat
  cut : Bool
  lu : Nat
  ld : Nat
  gong : Bool
  cmd : Int
  ph : Int
  flag : Bool
instance : Inhabited CarOut := ⟨⟨0, 0, false, 0, 0, false, 0, 0, false⟩⟩
def CarOut.flags (c : CarOut) : List Bool := [c.cut, c.gong, c.flag]
def coV (c : CarOut) : List Value := [.int .u32 c.iu, .int .u32 c.id, .bool c.cut, .int .u32 c.lu, .int .u32 c.ld, .bool c.gong, .int .i64 c.cmd, .int .i64 c.ph, .bool c.flag]
theorem coV_plain (c : CarOut) : ∀ v ∈ coV c, plainV v = true := by
  intro v hv
  simp only [coV, List.mem_cons, List.not_mem_nil, or_false] at hv
  rcases hv with rfl | rfl | rfl | rfl | rfl | rfl | rfl | rfl | rfl <;> rfl
def Kind.coL1 (k : Kind) (l : List UInt8) (c : CarOut) : List UInt8 := k.next (k.next l c.iu 4) c.id 4
def Kind.coL2 (k : Kind) (l : List UInt8) (c : CarOut) : List UInt8 := k.next (k.next (k.coL1 l c) c.lu 4) c.ld 4
def Kind.coQ (k : Kind) (l : List UInt8) (c : CarOut) : Nat := k.num (k.coL2 l c) (flg c.flags) 1
def Kind.coL3 (k : Kind) (l : List UInt8) (c : CarOut) : List UInt8 := k.next (k.coL2 l c) (flg c.flags) 1
def Kind.coL4 (k : Kind) (l : List UInt8) (c : CarOut) : List UInt8 := k.next (k.coL3 l c) (m64 c.cmd) 1
def Kind.coN (k : Kind) (l : List UInt8) (c : CarOut) : List UInt8 := k.next (k.coL4 l c) (m64 c.ph) 1
def Kind.co1 (k : Kind) (l : List UInt8) (c : CarOut) : CarOut := { c with iu := k.num l c.iu 4, id := k.num (k.next l c.iu 4) c.id 4 }
def Kind.co2 (k : Kind) (l : List UInt8) (c : CarOut) : CarOut := { k.co1 l c with lu := k.num (k.coL1 l c) c.lu 4, ld := k.num (k.next (k.coL1 l c) c.lu 4) c.ld 4 }
def Kind.co3 (k : Kind) (l : List UInt8) (c : CarOut) : CarOut := { k.co2 l c with cut := (k.coQ l c).testBit 0, gong := (k.coQ l c).testBit 1, flag := (k.coQ l c).testBit 2 }
def Kind.co4 (k : Kind) (l : List UInt8) (c : CarOut) : CarOut := { k.co3 l c with cmd := k.numI (k.coL3 l c) c.cmd 1 }
def Kind.coR (k : Kind) (l : List UInt8) (c : CarOut) : CarOut := { k.co4 l c with ph := k.numI (k.coL4 l c) c.ph 1 }
def Kind.setsOk (k : Kind) (l : List UInt8) (a0 a1 u d : Nat) : Prop := setB (k.num l a0 4) u = true ∧ setB (k.num (k.next l a0 4) a1 4) d = true
def Kind.coOk (k : Kind) (l : List UInt8) (c : CarOut) (u d : Nat) : Prop :=
  k.setsOk l c.iu c.id u d ∧ k.setsOk (k.coL1 l c) c.lu c.ld u d ∧ k.coQ l c < 2 ^ 3 ∧ inB 0 5 (k.numI (k.coL3 l c) c.cmd 1) = true ∧ inB 0 4 (k.numI (k.coL4 l c) c.ph 1) = true
/-- The numbers are those of their types. -/
def saneCo (c : CarOut) : Prop := (c.iu < 4294967296 ∧ c.id < 4294967296) ∧ (c.lu < 4294967296 ∧ c.ld < 4294967296) ∧ In64 c.cmd ∧ In64 c.ph
def flagsO (pb po : Nat) : List Addr := [⟨pb, po + 2, none⟩, ⟨pb, po + 5, none⟩, ⟨pb, po + 8, none⟩]
theorem flagsO_nodup (pb po : Nat) : (flagsO pb po).Nodup := by simp [flagsO]

set_option maxRecDepth 100000 in
set_option maxHeartbeats 2000000 in
theorem carOutput_any (k : Kind) (N b pb po : Nat) (c : CarOut) (l : List UInt8) (x : BldD) (A : Option Addr) (cap u d : Nat) (code : Int) (w : World) (hu : u < 4294967296) (hd : d < 4294967296) (hc : saneCo c) (hN : N ≤ w.heap.size)
    (hC : k.At N w b l) (hR : k.Room l 19) (hp : CellsAt w pb po (coV c)) (hf : ∀ j, j < 9 → w.frozen? ⟨pb, po + j, none⟩ = false) (hpb : pb ≠ b) (hpN : N ≤ pb) :
    Calls Try.prog 66 #[.agg (fieldsA (k.v b) x A cap u d code), .pointer (some ⟨pb, po, none⟩)] w fun e w' => Kept N (fun p => p.block = b ∨ (p.block = pb ∧ po ≤ p.off ∧ p.off < po + 9)) w w' ∧
      ((k.coOk l c u d ∧ e = .returned (.tuple #[]) ∧ k.At N w' b (k.coN l c) ∧ CellsAt w' pb po (coV (k.coR l c))) ∨ (¬ k.coOk l c u d ∧ e = refusedP code)) := by
  have hpw : pb < w.heap.size := World.block_lt_of_cell? w _ (hp 0 _ rfl)
  obtain ⟨⟨hiu, hid⟩, ⟨hlu, hld⟩, ⟨hcm1, hcm2⟩, hph1, hph2⟩ := hc
  obtain ⟨hbw, hNb⟩ := Kind.lt hC
  have hcv : plainV (k.v b) = true := by cases k <;> rfl
  have hk0 : Kept N (fun p => p.block = b ∨ (p.block = pb ∧ po ≤ p.off ∧ p.off < po + 9)) w (w.alloc (.cells (fieldsA (k.v b) x A cap u d code) 77)) := (Kept.refl _ _ _).alloc hN _
  have hbox := fun wx (h : Kept N (fun p => p.block = b ∨ (p.block = pb ∧ po ≤ p.off ∧ p.off < po + 9)) (w.alloc (.cells (fieldsA (k.v b) x A cap u d code) 77)) wx) => boxF (wx := wx) hcv (fun o => by
    intro hh
    rcases hh with hh | hh
    · exact absurd hh (by show ¬ w.heap.size = b; omega)
    · have := hh.1; simp at this; omega) h
  have hA0 := hC.alloc (.cells (fieldsA (k.v b) x A cap u d code) 77)
  have hk1 : Kept N (fun p => p.block = b) w (w.alloc (.cells (fieldsA (k.v b) x A cap u d code) 77)) := (Kept.refl _ _ _).alloc hN _
  have HK1 := Lib.hid hk1
  clear hk1
  have HB := Lib.hid hbox
  have HK0 := Lib.hid hk0
  have HA0 := Lib.hid hA0
  have hz0 : (w.alloc (.cells (fieldsA (k.v b) x A cap u d code) 77)).heap.size = w.heap.size + 1 := by simp
  clear hbox hk0 hA0
  go_enter Try.func66, Try.ntmps66
  go_wp2_with fail
  generalize w.alloc (.cells (fieldsA (k.v b) x A cap u d code) 77) = W0 at *
  have V0 := Lib.hid (hp.kept HK1.out (coV_plain c) (fun _ _ => hpb))
  have hr : ∀ wx j, Kept N (fun p => p.block = b ∨ (p.block = pb ∧ po ≤ p.off ∧ p.off < po + 9)) W0 wx → j < 9 → wx.frozen? ⟨pb, po + j, none⟩ = false := fun wx j h hj => ((HK0.out.trans h).froz _ hpw).trans (hf j hj)
  have HR := Lib.hid hr
  clear hr hp hf
  refine Chain.chain (fun p wx => Kept N (fun p => p.block = b ∨ (p.block = pb ∧ po ≤ p.off ∧ p.off < po + 9)) W0 wx ∧ (if p = 0 then Below W0.heap.size W0 wx else (k.At N wx b (k.coL1 l c) ∧ (k.setsOk l c.iu c.id u d) ∧ CellsAt wx pb po (coV (k.co1 l c))))) (fun e wx => e = Exit.panic [{ v := .iface 138 (.agg #[.int .i64 code]), recovered := false }] ∧ ¬ (k.setsOk l c.iu c.id u d) ∧ Kept N (fun p => p.block = b ∨ (p.block = pb ∧ po ≤ p.off ∧ p.off < po + 9)) w wx) [5] (by kernel_rfl) (by kernel_rfl) (fun e a' w' hdf he => ?_) ⟨Kept.drew (Kept.refl _ _ _), (Below.refl _ _).drew⟩ ?_
  · obtain ⟨rfl, hx⟩ := he
    exact ⟨hdf, hx.2, .inr ⟨fun hh => hx.1 hh.1, rfl⟩⟩
  iterate 5
    (apply Chain.walk_quiet (by rfl) (by decide)
     (intro p wx _ _ hx K hK
      obtain ⟨c0, c1, c2, c3, c4, c5, c6, c7, c8, c9, c10, c11⟩ := HB.out wx hx.1
      have HX := Lib.hid hx
      clear hx
      go_simp
      go_at_K
      exact hK _ HX.out)
     exact ⟨_, rfl⟩)
  apply Chain.walk_turn 0 (by rfl) (by rfl)
  · intro wx hx K hK
    obtain ⟨hkx, hbx⟩ := hx
    replace hbx : Below W0.heap.size W0 wx := hbx
    have HKX := Lib.hid hkx
    have HBX := Lib.hid hbx
    clear hkx hbx
    go_simp
    go_at_call 56
    refine (calls_any k N b pb (po + 0) c.iu c.id l x A cap u d code wx hu hd hiu hid (by have := HKX.out.below.size; omega) (HA0.out.below HBX.out) (Kind.Room.left (s := 8) (t := 11) hR) ((V0.out.below HBX.out) 0 _ rfl) ((V0.out.below HBX.out) 1 _ rfl) (HR.out wx 0 HKX.out (by omega)) (HR.out wx 1 HKX.out (by omega)) hpb hpN).mono ?_
    rintro e w3 ⟨hk3, ⟨ok, rfl, hA3, hc3⟩ | ⟨ok, rfl⟩⟩
    · exact hK _ ⟨HKX.out.trans (hk3.mono (fun p hp => by rcases hp with hp | rfl | rfl; exact .inl hp; exact .inr ⟨rfl, by show po ≤ po + 0; omega, by show po + 0 < po + 9; omega⟩; exact .inr ⟨rfl, by show po ≤ po + 1; omega, by show po + 1 < po + 9; omega⟩)), hA3, ok, (V0.out.below HBX.out |>.step hk3 (coV_plain _) (fun j v hj => by
        have hno : ∀ j, (j ≠ 0 ∧ j ≠ 1) → ¬ ((⟨pb, po + j, none⟩ : Addr).block = b ∨ (⟨pb, po + j, none⟩ : Addr) = ⟨pb, po + 0, none⟩ ∨ (⟨pb, po + j, none⟩ : Addr) = ⟨pb, po + 0 + 1, none⟩) := fun j hj hh => hh.elim hpb (fun h => h.elim (fun h => by injection h with _ h; omega) (fun h => by injection h with _ h; omega))
        match j, hj with
        | 0, hj => cases hj; exact .inl hc3.1
        | 1, hj => cases hj; exact .inl hc3.2
        | 2, hj => exact .inr ⟨hj, hno 2 (by omega)⟩
        | 3, hj => exact .inr ⟨hj, hno 3 (by omega)⟩
        | 4, hj => exact .inr ⟨hj, hno 4 (by omega)⟩
        | 5, hj => exact .inr ⟨hj, hno 5 (by omega)⟩
        | 6, hj => exact .inr ⟨hj, hno 6 (by omega)⟩
        | 7, hj => exact .inr ⟨hj, hno 7 (by omega)⟩
        | 8, hj => exact .inr ⟨hj, hno 8 (by omega)⟩
        | j + 9, hj => cases hj))⟩
    · exact ⟨rfl, ok, (HK0.out.trans HKX.out).trans (hk3.mono (fun p hp => by rcases hp with hp | rfl | rfl; exact .inl hp; exact .inr ⟨rfl, by show po ≤ po + 0; omega, by show po + 0 < po + 9; omega⟩; exact .inr ⟨rfl, by show po ≤ po + 1; omega, by show po + 1 < po + 9; omega⟩))⟩
  · exact ⟨undef, rfl⟩
  refine Chain.walk_nil (fun w1 hx => ?_)
  obtain ⟨hk2, hx⟩ := hx
  replace hx : (k.At N w1 b (k.coL1 l c) ∧ (k.setsOk l c.iu c.id u d) ∧ CellsAt w1 pb po (coV (k.co1 l c))) := hx
  obtain ⟨hA3, hs3, hv3⟩ := hx
  have HS1 := Lib.hid hs3
  have HA1 := Lib.hid hA3
  have V1 := Lib.hid hv3
  have HK11 := Lib.hid hk2
  clear hA3 hv3 hk2 hs3
  go_wp2_with fail
  refine Chain.chain (fun p wx => Kept N (fun p => p.block = b ∨ (p.block = pb ∧ po ≤ p.off ∧ p.off < po + 9)) W0 wx ∧ (if p = 0 then Below w1.heap.size w1 wx else (k.At N wx b (k.coL2 l c) ∧ (k.setsOk (k.coL1 l c) c.lu c.ld u d) ∧ CellsAt wx pb po (coV (k.co2 l c))))) (fun e wx => e = Exit.panic [{ v := .iface 138 (.agg #[.int .i64 code]), recovered := false }] ∧ ¬ (k.setsOk (k.coL1 l c) c.lu c.ld u d) ∧ Kept N (fun p => p.block = b ∨ (p.block = pb ∧ po ≤ p.off ∧ p.off < po + 9)) w wx) [4] (by kernel_rfl) (by kernel_rfl) (fun e a' w' hdf he => ?_) ⟨Kept.drew (HK11.out), (Below.refl _ _).drew⟩ ?_
  · obtain ⟨rfl, hx⟩ := he
    exact ⟨hdf, hx.2, .inr ⟨fun hh => hx.1 hh.2.1, rfl⟩⟩
  iterate 4
    (apply Chain.walk_quiet (by rfl) (by decide)
     (intro p wx _ _ hx K hK
      obtain ⟨c0, c1, c2, c3, c4, c5, c6, c7, c8, c9, c10, c11⟩ := HB.out wx hx.1
      have HX := Lib.hid hx
      clear hx
      go_simp
      go_at_K
      exact hK _ HX.out)
     exact ⟨_, rfl⟩)
  apply Chain.walk_turn 0 (by rfl) (by rfl)
  · intro wx hx K hK
    obtain ⟨hkx, hbx⟩ := hx
    replace hbx : Below w1.heap.size w1 wx := hbx
    have HKX := Lib.hid hkx
    have HBX := Lib.hid hbx
    clear hkx hbx
    go_simp
    go_at_call 56
    refine (calls_any k N b pb (po + 3) c.lu c.ld (k.coL1 l c) x A cap u d code wx hu hd hlu hld (by have := HKX.out.below.size; omega) (HA1.out.below HBX.out) (Kind.Room.left (s := 8) (t := 3) (Kind.Room.right (s := 4) (t := 11) (Kind.Room.right (s := 4) (t := 15) hR c.iu) c.id)) ((V1.out.below HBX.out) 3 _ rfl) ((V1.out.below HBX.out) 4 _ rfl) (HR.out wx 3 HKX.out (by omega)) (HR.out wx 4 HKX.out (by omega)) hpb hpN).mono ?_
    rintro e w3 ⟨hk3, ⟨ok, rfl, hA3, hc3⟩ | ⟨ok, rfl⟩⟩
    · exact hK _ ⟨HKX.out.trans (hk3.mono (fun p hp => by rcases hp with hp | rfl | rfl; exact .inl hp; exact .inr ⟨rfl, by show po ≤ po + 3; omega, by show po + 3 < po + 9; omega⟩; exact .inr ⟨rfl, by show po ≤ po + 4; omega, by show po + 4 < po + 9; omega⟩)), hA3, ok, (V1.out.below HBX.out |>.step hk3 (coV_plain _) (fun j v hj => by
        have hno : ∀ j, (j ≠ 3 ∧ j ≠ 4) → ¬ ((⟨pb, po + j, none⟩ : Addr).block = b ∨ (⟨pb, po + j, none⟩ : Addr) = ⟨pb, po + 3, none⟩ ∨ (⟨pb, po + j, none⟩ : Addr) = ⟨pb, po + 3 + 1, none⟩) := fun j hj hh => hh.elim hpb (fun h => h.elim (fun h => by injection h with _ h; omega) (fun h => by injection h with _ h; omega))
        match j, hj with
        | 0, hj => exact .inr ⟨hj, hno 0 (by omega)⟩
        | 1, hj => exact .inr ⟨hj, hno 1 (by omega)⟩
        | 2, hj => exact .inr ⟨hj, hno 2 (by omega)⟩
        | 3, hj => cases hj; exact .inl hc3.1
        | 4, hj => cases hj; exact .inl hc3.2
        | 5, hj => exact .inr ⟨hj, hno 5 (by omega)⟩
        | 6, hj => exact .inr ⟨hj, hno 6 (by omega)⟩
        | 7, hj => exact .inr ⟨hj, hno 7 (by omega)⟩
        | 8, hj => exact .inr ⟨hj, hno 8 (by omega)⟩
        | j + 9, hj => cases hj))⟩
    · exact ⟨rfl, ok, (HK0.out.trans HKX.out).trans (hk3.mono (fun p hp => by rcases hp with hp | rfl | rfl; exact .inl hp; exact .inr ⟨rfl, by show po ≤ po + 3; omega, by show po + 3 < po + 9; omega⟩; exact .inr ⟨rfl, by show po ≤ po + 4; omega, by show po + 4 < po + 9; omega⟩))⟩
  · exact ⟨undef, rfl⟩
  refine Chain.walk_nil (fun w2 hx => ?_)
  obtain ⟨hk2, hx⟩ := hx
  replace hx : (k.At N w2 b (k.coL2 l c) ∧ (k.setsOk (k.coL1 l c) c.lu c.ld u d) ∧ CellsAt w2 pb po (coV (k.co2 l c))) := hx
  obtain ⟨hA3, hs3, hv3⟩ := hx
  have HS2 := Lib.hid hs3
  have HA2 := Lib.hid hA3
  have V2 := Lib.hid hv3
  have HK12 := Lib.hid hk2
  clear hA3 hv3 hk2 hs3
  go_wp2_with fail
  refine Chain.chain (fun p wx => Kept N (fun p => p.block = b ∨ (p.block = pb ∧ po ≤ p.off ∧ p.off < po + 9)) W0 wx ∧ (if p = 0 then (Below w2.heap.size w2 wx ∧ wx.heap.size = w2.heap.size) else if p = 1 then (Below w2.heap.size w2 wx ∧ ∀ j a, (flagsO pb po)[j]? = some a → wx.cell? ⟨w2.heap.size, j, none⟩ = some (.pointer (some a))) else (k.At N wx b (k.coL3 l c) ∧ k.coQ l c < 2 ^ 3 ∧ CellsAt wx pb po (coV (k.co3 l c))))) (fun e wx => e = Exit.panic [{ v := .iface 138 (.agg #[.int .i64 code]), recovered := false }] ∧ ¬ k.coQ l c < 2 ^ 3 ∧ Kept N (fun p => p.block = b ∨ (p.block = pb ∧ po ≤ p.off ∧ p.off < po + 9)) w wx) [11, 12] (by kernel_rfl) (by kernel_rfl) (fun e a' w' hdf he => ?_) ⟨Kept.drew HK12.out, (Below.refl _ _).drew, rfl⟩ ?_
  · obtain ⟨rfl, hx⟩ := he
    exact ⟨hdf, hx.2, .inr ⟨fun hh => hx.1 hh.2.2.1, rfl⟩⟩
  iterate 11
    (apply Chain.walk_quiet (by rfl) (by decide)
     (intro p wx _ _ hx K hK
      obtain ⟨c0, c1, c2, c3, c4, c5, c6, c7, c8, c9, c10, c11⟩ := HB.out wx hx.1
      have HX := Lib.hid hx
      clear hx
      go_simp
      go_at_K
      exact hK _ HX.out)
     exact ⟨_, rfl⟩)
  apply Chain.walk_turn 0 (by rfl) (by rfl)
  · intro wx hx K hK
    obtain ⟨hkx, hbx, hsx⟩ := hx
    have HKX := Lib.hid hkx
    have HBX := Lib.hid hbx
    have hw2 : w2.heap.size = wx.heap.size := hsx.symm
    clear hkx hbx hsx
    go_simp
    rw [← hw2]
    go_at_K
    refine hK _ ⟨HKX.out.alloc (by have := HKX.out.below.size; omega) _, HBX.out.alloc (by omega) _, ?_⟩
    intro j a hj
    rw [hw2, cell_of_row _ _ j _ _ (0, 0) (heap_alloc_new wx _)]
    match j, hj with
    | 0, hj => cases hj; rfl
    | 1, hj => cases hj; rfl
    | 2, hj => cases hj; rfl
    | j + 3, hj => cases hj
  · exact ⟨_, rfl⟩
  apply Chain.walk_turn 1 (by rfl) (by rfl)
  · intro wx hx K hK
    obtain ⟨hkx, hbx, hsx⟩ := hx
    have HKX := Lib.hid hkx
    have HBX := Lib.hid hbx
    have HPX := Lib.hid hsx
    have hz2 : W0.heap.size ≤ w2.heap.size := HK12.out.below.size
    have VX := Lib.hid (V2.out.below hbx)
    have HCX := Lib.hid (HA2.out.below hbx)
    clear hkx hbx hsx
    go_simp
    go_at_call 64
    refine (flags_any k N b w2.heap.size 3 (flagsO pb po) c.flags (k.coL2 l c) x A cap u d code wx rfl (by show 3 ≤ 8; omega) (by have := HKX.out.below.size; omega) HCX.out (Kind.Room.left (s := 1) (t := 2) (Kind.Room.right (s := 4) (t := 3) (Kind.Room.right (s := 4) (t := 7) (Kind.Room.right (s := 4) (t := 11) (Kind.Room.right (s := 4) (t := 15) hR c.iu) c.id) c.lu) c.ld)) (fun j h => HPX.out j _ (List.getElem?_eq_getElem h)) (fun j h => ?_) (flagsO_nodup pb po) (by omega)).mono ?_
    · have hj : j < 3 := h
      have h6 : j = 0 ∨ j = 1 ∨ j = 2 := by omega
      rcases h6 with rfl | rfl | rfl
      · exact ⟨VX.out 2 _ rfl, HR.out wx 2 HKX.out (by omega), hpb, hpN, by show pb ≠ w2.heap.size; omega⟩
      · exact ⟨VX.out 5 _ rfl, HR.out wx 5 HKX.out (by omega), hpb, hpN, by show pb ≠ w2.heap.size; omega⟩
      · exact ⟨VX.out 8 _ rfl, HR.out wx 8 HKX.out (by omega), hpb, hpN, by show pb ≠ w2.heap.size; omega⟩
    rintro e w3 ⟨hk3, ⟨ok, rfl, hA3, hc3⟩ | ⟨ok, rfl⟩⟩
    · refine hK _ ⟨HKX.out.trans (hk3.mono (fun p hp => Or.elim hp .inl (fun h => .inr (by simp only [flagsO, List.mem_cons, List.not_mem_nil, or_false] at h; rcases h with rfl | rfl | rfl <;> exact ⟨rfl, by simp, by simp⟩)))), hA3, ok, VX.out.step hk3 (coV_plain _) (fun j v hj => ?_)⟩
      have hno : ∀ j, (j ≠ 2 ∧ j ≠ 5 ∧ j ≠ 8) → ¬ ((⟨pb, po + j, none⟩ : Addr).block = b ∨ (⟨pb, po + j, none⟩ : Addr) ∈ flagsO pb po) := fun j hj hh => hh.elim hpb (fun h => by
        simp only [flagsO, List.mem_cons, List.not_mem_nil, or_false, Addr.mk.injEq] at h; omega)
      match j, hj with
      | 0, hj => exact .inr ⟨hj, hno 0 (by omega)⟩
      | 1, hj => exact .inr ⟨hj, hno 1 (by omega)⟩
      | 2, hj => cases hj; exact .inl (hc3 0 (by show 0 < 3; omega))
      | 3, hj => exact .inr ⟨hj, hno 3 (by omega)⟩
      | 4, hj => exact .inr ⟨hj, hno 4 (by omega)⟩
      | 5, hj => cases hj; exact .inl (hc3 1 (by show 1 < 3; omega))
      | 6, hj => exact .inr ⟨hj, hno 6 (by omega)⟩
      | 7, hj => exact .inr ⟨hj, hno 7 (by omega)⟩
      | 8, hj => cases hj; exact .inl (hc3 2 (by show 2 < 3; omega))
      | j + 9, hj => cases hj
    · exact ⟨rfl, Nat.le_of_not_lt (show ¬ k.coQ l c < 8 from ok), (HK0.out.trans HKX.out).trans (hk3.mono (fun p hp => Or.elim hp .inl (fun h => .inr (by simp only [flagsO, List.mem_cons, List.not_mem_nil, or_false] at h; rcases h with rfl | rfl | rfl <;> exact ⟨rfl, by simp, by simp⟩))))⟩
  · exact ⟨undef, rfl⟩
  refine Chain.walk_nil (fun w3 hx => ?_)
  obtain ⟨hk2, hx⟩ := hx
  replace hx : (k.At N w3 b (k.coL3 l c) ∧ k.coQ l c < 2 ^ 3 ∧ CellsAt w3 pb po (coV (k.co3 l c))) := hx
  obtain ⟨hA3, hs3, hv3⟩ := hx
  have HS3 := Lib.hid hs3
  have HA3 := Lib.hid hA3
  have V3 := Lib.hid hv3
  have HK13 := Lib.hid hk2
  clear hA3 hv3 hk2 hs3
  go_wp2_with fail
  refine Chain.chain (fun p wx => Kept N (fun p => p.block = b ∨ (p.block = pb ∧ po ≤ p.off ∧ p.off < po + 9)) W0 wx ∧ (if p = 0 then Below w3.heap.size w3 wx else (k.At N wx b (k.coL4 l c) ∧ (inB 0 5 (k.numI (k.coL3 l c) c.cmd 1) = true) ∧ CellsAt wx pb po (coV (k.co4 l c))))) (fun e wx => e = Exit.panic [{ v := .iface 138 (.agg #[.int .i64 code]), recovered := false }] ∧ ¬ (inB 0 5 (k.numI (k.coL3 l c) c.cmd 1) = true) ∧ Kept N (fun p => p.block = b ∨ (p.block = pb ∧ po ≤ p.off ∧ p.off < po + 9)) w wx) [4] (by kernel_rfl) (by kernel_rfl) (fun e a' w' hdf he => ?_) ⟨Kept.drew (HK13.out), (Below.refl _ _).drew⟩ ?_
  · obtain ⟨rfl, hx⟩ := he
    exact ⟨hdf, hx.2, .inr ⟨fun hh => hx.1 hh.2.2.2.1, rfl⟩⟩
  iterate 4
    (apply Chain.walk_quiet (by rfl) (by decide)
     (intro p wx _ _ hx K hK
      obtain ⟨c0, c1, c2, c3, c4, c5, c6, c7, c8, c9, c10, c11⟩ := HB.out wx hx.1
      have HX := Lib.hid hx
      clear hx
      go_simp
      go_at_K
      exact hK _ HX.out)
     exact ⟨_, rfl⟩)
  apply Chain.walk_turn 0 (by rfl) (by rfl)
  · intro wx hx K hK
    obtain ⟨hkx, hbx⟩ := hx
    replace hbx : Below w3.heap.size w3 wx := hbx
    have HKX := Lib.hid hkx
    have HBX := Lib.hid hbx
    clear hkx hbx
    go_simp
    go_at_call 77
    refine (number_any k N b ⟨pb, po + 6, none⟩ c.cmd 0 5 1 (k.coL3 l c) x A cap u d code wx (by omega) hcm1 hcm2 (by have := HKX.out.below.size; omega) (HA3.out.below HBX.out) (Kind.Room.left (s := 1) (t := 1) (Kind.Room.right (s := 1) (t := 2) (Kind.Room.right (s := 4) (t := 3) (Kind.Room.right (s := 4) (t := 7) (Kind.Room.right (s := 4) (t := 11) (Kind.Room.right (s := 4) (t := 15) hR c.iu) c.id) c.lu) c.ld) (flg c.flags))) ((V3.out.below HBX.out) 6 _ rfl) (HR.out wx 6 HKX.out (by omega)) hpb hpN).mono ?_
    rintro e w3 ⟨hk3, ⟨ok, rfl, hA3, hc3⟩ | ⟨ok, rfl⟩⟩
    · exact hK _ ⟨HKX.out.trans (hk3.mono (fun p hp => Or.elim hp .inl (fun h => .inr (by subst h; exact ⟨rfl, by show po ≤ po + 6; omega, by show po + 6 < po + 9; omega⟩)))), hA3, ok, (V3.out.below HBX.out |>.one hk3 (coV_plain _) hpb (fun v hv => by cases hv; exact hc3) (fun j hj => by match j, hj with | 0, hj => rfl | 1, hj => rfl | 2, hj => rfl | 3, hj => rfl | 4, hj => rfl | 5, hj => rfl | 6, hj => exact absurd rfl hj | 7, hj => rfl | 8, hj => rfl | j + 9, hj => rfl))⟩
    · exact ⟨rfl, by simp [ok], (HK0.out.trans HKX.out).trans (hk3.mono (fun p hp => Or.elim hp .inl (fun h => .inr (by subst h; exact ⟨rfl, by show po ≤ po + 6; omega, by show po + 6 < po + 9; omega⟩))))⟩
  · exact ⟨undef, rfl⟩
  refine Chain.walk_nil (fun w4 hx => ?_)
  obtain ⟨hk2, hx⟩ := hx
  replace hx : (k.At N w4 b (k.coL4 l c) ∧ (inB 0 5 (k.numI (k.coL3 l c) c.cmd 1) = true) ∧ CellsAt w4 pb po (coV (k.co4 l c))) := hx
  obtain ⟨hA3, hs3, hv3⟩ := hx
  have HS4 := Lib.hid hs3
  have HA4 := Lib.hid hA3
  have V4 := Lib.hid hv3
  have HK14 := Lib.hid hk2
  clear hA3 hv3 hk2 hs3
  go_wp2_with fail
  refine Chain.chain (fun p wx => Kept N (fun p => p.block = b ∨ (p.block = pb ∧ po ≤ p.off ∧ p.off < po + 9)) W0 wx ∧ (if p = 0 then Below w4.heap.size w4 wx else (k.At N wx b (k.coN l c) ∧ (inB 0 4 (k.numI (k.coL4 l c) c.ph 1) = true) ∧ CellsAt wx pb po (coV (k.coR l c))))) (fun e wx => e = Exit.panic [{ v := .iface 138 (.agg #[.int .i64 code]), recovered := false }] ∧ ¬ (inB 0 4 (k.numI (k.coL4 l c) c.ph 1) = true) ∧ Kept N (fun p => p.block = b ∨ (p.block = pb ∧ po ≤ p.off ∧ p.off < po + 9)) w wx) [4] (by kernel_rfl) (by kernel_rfl) (fun e a' w' hdf he => ?_) ⟨Kept.drew (HK14.out), (Below.refl _ _).drew⟩ ?_
  · obtain ⟨rfl, hx⟩ := he
    exact ⟨hdf, hx.2, .inr ⟨fun hh => hx.1 hh.2.2.2.2, rfl⟩⟩
  iterate 4
    (apply Chain.walk_quiet (by rfl) (by decide)
     (intro p wx _ _ hx K hK
      obtain ⟨c0, c1, c2, c3, c4, c5, c6, c7, c8, c9, c10, c11⟩ := HB.out wx hx.1
      have HX := Lib.hid hx
      clear hx
      go_simp
      go_at_K
      exact hK _ HX.out)
     exact ⟨_, rfl⟩)
  apply Chain.walk_turn 0 (by rfl) (by rfl)
  · intro wx hx K hK
    obtain ⟨hkx, hbx⟩ := hx
    replace hbx : Below w4.heap.size w4 wx := hbx
    have HKX := Lib.hid hkx
    have HBX := Lib.hid hbx
    clear hkx hbx
    go_simp
    go_at_call 77
    refine (number_any k N b ⟨pb, po + 7, none⟩ c.ph 0 4 1 (k.coL4 l c) x A cap u d code wx (by omega) hph1 hph2 (by have := HKX.out.below.size; omega) (HA4.out.below HBX.out) (Kind.Room.right (s := 1) (t := 1) (Kind.Room.right (s := 1) (t := 2) (Kind.Room.right (s := 4) (t := 3) (Kind.Room.right (s := 4) (t := 7) (Kind.Room.right (s := 4) (t := 11) (Kind.Room.right (s := 4) (t := 15) hR c.iu) c.id) c.lu) c.ld) (flg c.flags)) (m64 c.cmd)) ((V4.out.below HBX.out) 7 _ rfl) (HR.out wx 7 HKX.out (by omega)) hpb hpN).mono ?_
    rintro e w3 ⟨hk3, ⟨ok, rfl, hA3, hc3⟩ | ⟨ok, rfl⟩⟩
    · exact hK _ ⟨HKX.out.trans (hk3.mono (fun p hp => Or.elim hp .inl (fun h => .inr (by subst h; exact ⟨rfl, by show po ≤ po + 7; omega, by show po + 7 < po + 9; omega⟩)))), hA3, ok, (V4.out.below HBX.out |>.one hk3 (coV_plain _) hpb (fun v hv => by cases hv; exact hc3) (fun j hj => by match j, hj with | 0, hj => rfl | 1, hj => rfl | 2, hj => rfl | 3, hj => rfl | 4, hj => rfl | 5, hj => rfl | 6, hj => rfl | 7, hj => exact absurd rfl hj | 8, hj => rfl | j + 9, hj => rfl))⟩
    · exact ⟨rfl, by simp [ok], (HK0.out.trans HKX.out).trans (hk3.mono (fun p hp => Or.elim hp .inl (fun h => .inr (by subst h; exact ⟨rfl, by show po ≤ po + 7; omega, by show po + 7 < po + 9; omega⟩))))⟩
  · exact ⟨undef, rfl⟩
  refine Chain.walk_nil (fun w5 hx => ?_)
  obtain ⟨hk2, hx⟩ := hx
  replace hx : (k.At N w5 b (k.coN l c) ∧ (inB 0 4 (k.numI (k.coL4 l c) c.ph 1) = true) ∧ CellsAt w5 pb po (coV (k.coR l c))) := hx
  obtain ⟨hA3, hs3, hv3⟩ := hx
  have HS5 := Lib.hid hs3
  have HA5 := Lib.hid hA3
  have V5 := Lib.hid hv3
  have HK15 := Lib.hid hk2
  clear hA3 hv3 hk2 hs3
  go_wp2_with fail
  go_end0
  exact ⟨HK0.out.trans HK15.out, .inl ⟨⟨HS1.out, HS2.out, HS3.out, HS4.out, HS5.out⟩, rfl, HA5.out, V5.out⟩⟩
end Go.Proofs.Ythbfpdkgbkpmiaa
