/- frame's carInput: what a car tells. No statement of the seat is proved here. -/
import Derived.Test.YthbfpdkgbkpmiaaCommand
import Derived.Test.YthbfpdkgbkpmiaaFlags
import Derived.Test.YthbfpdkgbkpmiaaG15
namespace Go.Proofs.Ythbfpdkgbkpmiaa
open Go.RowKit Frm

/-- Values lie in a row. -/
def CellsAt (w : World) (pb po : Nat) (vs : List Value) : Prop := ∀ j v, vs[j]? = some v → w.cell? ⟨pb, po + j, none⟩ = some v
theorem CellsAt.step {N pb po : Nat} {S : Addr → Prop} {w w' : World} {vs vs' : List Value} (h : CellsAt w pb po vs) (hk : Kept N S w w') (hp : ∀ v ∈ vs, plainV v = true)
    (hc : ∀ j v, vs'[j]? = some v → w'.cell? ⟨pb, po + j, none⟩ = some v ∨ (vs[j]? = some v ∧ ¬ S ⟨pb, po + j, none⟩)) : CellsAt w' pb po vs' := by
  intro j v hj
  rcases hc j v hj with h1 | ⟨h1, h2⟩
  · exact h1
  · exact hk.cell _ _ (h j v h1) (hp v (List.mem_of_getElem? h1)) h2
theorem CellsAt.below {pb po : Nat} {w w' : World} {vs : List Value} (h : CellsAt w pb po vs) (hb : Below w.heap.size w w') : CellsAt w' pb po vs := fun j v hj =>
  (hb.cell (World.block_lt_of_cell? w _ (h j v hj))).trans (h j v hj)
theorem CellsAt.kept {N pb po : Nat} {S : Addr → Prop} {w w' : World} {vs : List Value} (h : CellsAt w pb po vs) (hk : Kept N S w w') (hp : ∀ v ∈ vs, plainV v = true) (hs : ∀ j, j < vs.length → ¬ S ⟨pb, po + j, none⟩) : CellsAt w' pb po vs :=
  h.step hk hp fun j _ hj => .inr ⟨hj, hs j (List.getElem?_eq_some_iff.1 hj).1⟩

def carV (c : CarIn) : List Value := [.int .u32 c.floors, .bool c.up, .bool c.down, .bool c.opened, .bool c.closed, .int .i64 c.floor, .bool c.level, .int .i64 c.door, .bool c.block, .int .u32 c.calls, .float .f64 c.load]
theorem carV_plain (c : CarIn) : ∀ v ∈ carV c, plainV v = true := by
  intro v hv
  simp only [carV, List.mem_cons, List.not_mem_nil, or_false] at hv
  rcases hv with rfl | rfl | rfl | rfl | rfl | rfl | rfl | rfl | rfl | rfl | rfl <;> rfl
/-- One cell of a car's row is another. -/
theorem CellsAt.one {N b pb po i : Nat} {w w' : World} {vs vs' : List Value} (h : CellsAt w pb po vs) (hk : Kept N (fun p => p.block = b ∨ p = ⟨pb, po + i, none⟩) w w') (hp : ∀ v ∈ vs, plainV v = true) (hb : pb ≠ b)
    (hc : ∀ v, vs'[i]? = some v → w'.cell? ⟨pb, po + i, none⟩ = some v) (ho : ∀ j, j ≠ i → vs'[j]? = vs[j]?) : CellsAt w' pb po vs' := by
  refine h.step hk hp fun j v hj => ?_
  by_cases hij : j = i
  · subst hij; exact .inl (hc v hj)
  · exact .inr ⟨(ho j hij).symm.trans hj, fun hh => hh.elim hb (fun h2 => by injection h2 with _ h2; omega)⟩

/-- What a car's fields become, what is left of the text, and what is allowed. -/
def Kind.carQ (k : Kind) (l : List UInt8) (c : CarIn) : Nat := k.num (k.next l c.floors 4) (flg c.flags) 1
def Kind.carL2 (k : Kind) (l : List UInt8) (c : CarIn) : List UInt8 := k.next (k.next l c.floors 4) (flg c.flags) 1
def Kind.carL3 (k : Kind) (l : List UInt8) (c : CarIn) : List UInt8 := k.next (k.carL2 l c) (m64 c.floor) 1
def Kind.carL4 (k : Kind) (l : List UInt8) (c : CarIn) : List UInt8 := k.next (k.carL3 l c) (m64 c.door) 1
def Kind.carL5 (k : Kind) (l : List UInt8) (c : CarIn) : List UInt8 := k.next (k.carL4 l c) c.calls 4
def Kind.carN (k : Kind) (l : List UInt8) (c : CarIn) : List UInt8 := k.next (k.carL5 l c) c.load 8
def Kind.car1 (k : Kind) (l : List UInt8) (c : CarIn) : CarIn := { c with floors := k.num l c.floors 4 }
def Kind.car2 (k : Kind) (l : List UInt8) (c : CarIn) : CarIn := { k.car1 l c with up := (k.carQ l c).testBit 0, down := (k.carQ l c).testBit 1, opened := (k.carQ l c).testBit 2, closed := (k.carQ l c).testBit 3, level := (k.carQ l c).testBit 4, block := (k.carQ l c).testBit 5 }
def Kind.car3 (k : Kind) (l : List UInt8) (c : CarIn) : CarIn := { k.car2 l c with floor := k.numI (k.carL2 l c) c.floor 1 }
def Kind.car4 (k : Kind) (l : List UInt8) (c : CarIn) : CarIn := { k.car3 l c with door := k.numI (k.carL3 l c) c.door 1 }
def Kind.car5 (k : Kind) (l : List UInt8) (c : CarIn) : CarIn := { k.car4 l c with calls := k.num (k.carL4 l c) c.calls 4 }
def Kind.carR (k : Kind) (l : List UInt8) (c : CarIn) : CarIn := { k.car5 l c with load := k.num (k.carL5 l c) c.load 8 }
def Kind.carOk (k : Kind) (l : List UInt8) (c : CarIn) (all : Nat) (F : Int) : Prop :=
  setB (k.num l c.floors 4) all = true ∧ k.carQ l c < 2 ^ 6 ∧ inB 0 (F - 1) (k.numI (k.carL2 l c) c.floor 1) = true ∧ inB 0 2 (k.numI (k.carL3 l c) c.door 1) = true ∧ setB (k.num (k.carL4 l c) c.calls 4) all = true

def In64 (n : Int) : Prop := -9223372036854775808 ≤ n ∧ n ≤ 9223372036854775807
/-- The numbers are those of their types. -/
def saneCar (c : CarIn) : Prop := c.floors < 4294967296 ∧ c.calls < 4294967296 ∧ c.load < 18446744073709551616 ∧ In64 c.floor ∧ In64 c.door

def flagsP (pb po : Nat) : List Addr := [⟨pb, po + 1, none⟩, ⟨pb, po + 2, none⟩, ⟨pb, po + 3, none⟩, ⟨pb, po + 4, none⟩, ⟨pb, po + 6, none⟩, ⟨pb, po + 8, none⟩]
theorem flagsP_nodup (pb po : Nat) : (flagsP pb po).Nodup := by simp [flagsP]

set_option maxRecDepth 100000 in
set_option maxHeartbeats 2000000 in
theorem carInput_any (k : Kind) (N b pb po : Nat) (c : CarIn) (l : List UInt8) (x : BldD) (A : Option Addr) (cap u d : Nat) (code : Int) (w : World) (hu : u < 4294967296) (hd : d < 4294967296) (hF : 0 ≤ x.floors ∧ x.floors ≤ 1000) (hc : saneCar c) (hN : N ≤ w.heap.size)
    (hC : k.At N w b l) (hR : k.Room l 19) (hp : CellsAt w pb po (carV c)) (hf : ∀ j, j < 11 → w.frozen? ⟨pb, po + j, none⟩ = false) (hpb : pb ≠ b) (hpN : N ≤ pb) :
    Calls Try.prog 58 #[.agg (fieldsA (k.v b) x A cap u d code), .pointer (some ⟨pb, po, none⟩)] w fun e w' => Kept N (fun p => p.block = b ∨ (p.block = pb ∧ po ≤ p.off ∧ p.off < po + 11)) w w' ∧
      ((k.carOk l c (u ||| d) x.floors ∧ e = .returned (.tuple #[]) ∧ k.At N w' b (k.carN l c) ∧ CellsAt w' pb po (carV (k.carR l c))) ∨ (¬ k.carOk l c (u ||| d) x.floors ∧ e = refusedP code)) := by
  have hpw : pb < w.heap.size := World.block_lt_of_cell? w _ (hp 0 _ rfl)
  obtain ⟨hcf, hcc, hcl, ⟨hfl1, hfl2⟩, hdo1, hdo2⟩ := hc
  obtain ⟨hbw, hNb⟩ := Kind.lt hC
  have hcv : plainV (k.v b) = true := by cases k <;> rfl
  have hk0 : Kept N (fun p => p.block = b ∨ (p.block = pb ∧ po ≤ p.off ∧ p.off < po + 11)) w (w.alloc (.cells (fieldsA (k.v b) x A cap u d code) 77)) := (Kept.refl _ _ _).alloc hN _
  have hbox := fun wx (h : Kept N (fun p => p.block = b ∨ (p.block = pb ∧ po ≤ p.off ∧ p.off < po + 11)) (w.alloc (.cells (fieldsA (k.v b) x A cap u d code) 77)) wx) => boxF (wx := wx) hcv (fun o => by
    intro hh
    rcases hh with hh | hh
    · exact absurd hh (by show ¬ w.heap.size = b; omega)
    · have := hh.1; simp at this; omega) h
  have hA0 := hC.alloc (.cells (fieldsA (k.v b) x A cap u d code) 77)
  have hk1 : Kept N (fun p => p.block = b) w (w.alloc (.cells (fieldsA (k.v b) x A cap u d code) 77)) := (Kept.refl _ _ _).alloc hN _
  have HK1 := Lib.hid hk1
  clear hk1
  have HB := Lib.hid hbox
  have HK0 := Lib.hid hk0
  have HA0 := Lib.hid hA0
  have hz0 : (w.alloc (.cells (fieldsA (k.v b) x A cap u d code) 77)).heap.size = w.heap.size + 1 := by simp
  clear hbox hk0 hA0
  go_enter Try.func58, Try.ntmps58
  go_wp2_with fail
  generalize w.alloc (.cells (fieldsA (k.v b) x A cap u d code) 77) = W0 at *
  have V0 := Lib.hid (hp.kept HK1.out (carV_plain c) (fun _ _ => hpb))
  have hr : ∀ wx j, Kept N (fun p => p.block = b ∨ (p.block = pb ∧ po ≤ p.off ∧ p.off < po + 11)) W0 wx → j < 11 → wx.frozen? ⟨pb, po + j, none⟩ = false := fun wx j h hj => ((HK0.out.trans h).froz _ hpw).trans (hf j hj)
  have HR := Lib.hid hr
  clear hr hp hf
  refine Bag.region (fun wx => Kept N (fun p => p.block = b ∨ (p.block = pb ∧ po ≤ p.off ∧ p.off < po + 11)) W0 wx ∧ Below W0.heap.size W0 wx) (by kernel_rfl) (by kernel_rfl) ⟨(Kept.refl _ _ _).drew, (Below.refl _ _).drew⟩ ?_
  iterate 8
    (apply Bag.walk_yes (by rfl)
     (intro wx hx K hK
      have HX := Lib.hid hx
      clear hx
      go_simp
      go_at_K
      exact hK _ HX.out)
     rfl)
  refine Bag.walk_nil (fun w1 hx => ?_)
  obtain ⟨hk2, hb2⟩ := hx
  have V1 := Lib.hid (V0.out.below hb2)
  have HA1 := Lib.hid (HA0.out.below hb2)
  have HKA := Lib.hid hk2
  clear hk2 hb2
  go_wp2_with fail
  refine Chain.chain (fun p wx => Kept N (fun p => p.block = b ∨ (p.block = pb ∧ po ≤ p.off ∧ p.off < po + 11)) W0 wx ∧ (if p = 0 then Below w1.heap.size w1 wx else (k.At N wx b (k.next l c.floors 4) ∧ (setB (k.num l c.floors 4) (u ||| d) = true) ∧ CellsAt wx pb po (carV (k.car1 l c))))) (fun e wx => e = Exit.panic [{ v := .iface 138 (.agg #[.int .i64 code]), recovered := false }] ∧ ¬ (setB (k.num l c.floors 4) (u ||| d) = true) ∧ Kept N (fun p => p.block = b ∨ (p.block = pb ∧ po ≤ p.off ∧ p.off < po + 11)) w wx) [4] (by kernel_rfl) (by kernel_rfl) (fun e a' w' hdf he => ?_) ⟨Kept.drew (HKA.out), (Below.refl _ _).drew⟩ ?_
  · obtain ⟨rfl, hx⟩ := he
    exact ⟨hdf, hx.2, .inr ⟨fun hh => hx.1 hh.1, rfl⟩⟩
  iterate 4
    (apply Chain.walk_quiet (by rfl) (by decide)
     (intro p wx _ _ hx K hK
      obtain ⟨c0, c1, c2, c3, c4, c5, c6, c7, c8, c9, c10, c11⟩ := HB.out wx hx.1
      have HX := Lib.hid hx
      clear hx
      go_simp
      go_at_K
      exact hK _ HX.out)
     exact ⟨_, rfl⟩)
  apply Chain.walk_turn 0 (by rfl) (by rfl)
  · intro wx hx K hK
    obtain ⟨hkx, hbx⟩ := hx
    replace hbx : Below w1.heap.size w1 wx := hbx
    have HKX := Lib.hid hkx
    have HBX := Lib.hid hbx
    clear hkx hbx
    go_simp
    go_at_call 78
    refine (floors_any k N b ⟨pb, po + 0, none⟩ c.floors l x A cap u d code wx hu hd hcf (by have := HKX.out.below.size; omega) (HA1.out.below HBX.out) (Kind.Room.left (s := 4) (t := 15) hR) ((V1.out.below HBX.out) 0 _ rfl) (HR.out wx 0 HKX.out (by omega)) hpb hpN).mono ?_
    rintro e w3 ⟨hk3, ⟨ok, rfl, hA3, hc3⟩ | ⟨ok, rfl⟩⟩
    · exact hK _ ⟨HKX.out.trans (hk3.mono (fun p hp => Or.elim hp .inl (fun h => .inr (by subst h; exact ⟨rfl, by show po ≤ po + 0; omega, by show po + 0 < po + 11; omega⟩)))), hA3, ok, (V1.out.below HBX.out |>.one hk3 (carV_plain _) hpb (fun v hv => by cases hv; exact hc3) (fun j hj => by match j, hj with | 0, hj => exact absurd rfl hj | 1, hj => rfl | 2, hj => rfl | 3, hj => rfl | 4, hj => rfl | 5, hj => rfl | 6, hj => rfl | 7, hj => rfl | 8, hj => rfl | 9, hj => rfl | 10, hj => rfl | j + 11, hj => rfl))⟩
    · exact ⟨rfl, by simp [ok], (HK0.out.trans HKX.out).trans (hk3.mono (fun p hp => Or.elim hp .inl (fun h => .inr (by subst h; exact ⟨rfl, by show po ≤ po + 0; omega, by show po + 0 < po + 11; omega⟩))))⟩
  · exact ⟨undef, rfl⟩
  refine Chain.walk_nil (fun w2 hx => ?_)
  obtain ⟨hk2, hx⟩ := hx
  replace hx : (k.At N w2 b (k.next l c.floors 4) ∧ (setB (k.num l c.floors 4) (u ||| d) = true) ∧ CellsAt w2 pb po (carV (k.car1 l c))) := hx
  obtain ⟨hA3, hs3, hv3⟩ := hx
  have HS1 := Lib.hid hs3
  have HA2 := Lib.hid hA3
  have V2 := Lib.hid hv3
  have HK11 := Lib.hid hk2
  clear hA3 hv3 hk2 hs3
  go_wp2_with fail
  refine Chain.chain (fun p wx => Kept N (fun p => p.block = b ∨ (p.block = pb ∧ po ≤ p.off ∧ p.off < po + 11)) W0 wx ∧ (if p = 0 then (Below w2.heap.size w2 wx ∧ wx.heap.size = w2.heap.size) else if p = 1 then (Below w2.heap.size w2 wx ∧ ∀ j a, (flagsP pb po)[j]? = some a → wx.cell? ⟨w2.heap.size, j, none⟩ = some (.pointer (some a))) else (k.At N wx b (k.carL2 l c) ∧ k.carQ l c < 2 ^ 6 ∧ CellsAt wx pb po (carV (k.car2 l c))))) (fun e wx => e = Exit.panic [{ v := .iface 138 (.agg #[.int .i64 code]), recovered := false }] ∧ ¬ k.carQ l c < 2 ^ 6 ∧ Kept N (fun p => p.block = b ∨ (p.block = pb ∧ po ≤ p.off ∧ p.off < po + 11)) w wx) [19, 20] (by kernel_rfl) (by kernel_rfl) (fun e a' w' hdf he => ?_) ⟨Kept.drew HK11.out, (Below.refl _ _).drew, rfl⟩ ?_
  · obtain ⟨rfl, hx⟩ := he
    exact ⟨hdf, hx.2, .inr ⟨fun hh => hx.1 hh.2.1, rfl⟩⟩
  iterate 19
    (apply Chain.walk_quiet (by rfl) (by decide)
     (intro p wx _ _ hx K hK
      obtain ⟨c0, c1, c2, c3, c4, c5, c6, c7, c8, c9, c10, c11⟩ := HB.out wx hx.1
      have HX := Lib.hid hx
      clear hx
      go_simp
      go_at_K
      exact hK _ HX.out)
     exact ⟨_, rfl⟩)
  apply Chain.walk_turn 0 (by rfl) (by rfl)
  · intro wx hx K hK
    obtain ⟨hkx, hbx, hsx⟩ := hx
    have HKX := Lib.hid hkx
    have HBX := Lib.hid hbx
    have hw2 : w2.heap.size = wx.heap.size := hsx.symm
    clear hkx hbx hsx
    go_simp
    rw [← hw2]
    go_at_K
    refine hK _ ⟨HKX.out.alloc (by have := HKX.out.below.size; omega) _, HBX.out.alloc (by omega) _, ?_⟩
    intro j a hj
    rw [hw2, cell_of_row _ _ j _ _ (0, 0) (heap_alloc_new wx _)]
    match j, hj with
    | 0, hj => cases hj; rfl
    | 1, hj => cases hj; rfl
    | 2, hj => cases hj; rfl
    | 3, hj => cases hj; rfl
    | 4, hj => cases hj; rfl
    | 5, hj => cases hj; rfl
    | j + 6, hj => cases hj
  · exact ⟨_, rfl⟩
  apply Chain.walk_turn 1 (by rfl) (by rfl)
  · intro wx hx K hK
    obtain ⟨hkx, hbx, hsx⟩ := hx
    have HKX := Lib.hid hkx
    have HBX := Lib.hid hbx
    have HPX := Lib.hid hsx
    have hz2 : W0.heap.size ≤ w2.heap.size := HK11.out.below.size
    have VX := Lib.hid (V2.out.below hbx)
    have HCX := Lib.hid (HA2.out.below hbx)
    clear hkx hbx hsx
    go_simp
    go_at_call 64
    refine (flags_any k N b w2.heap.size 6 (flagsP pb po) c.flags (k.next l c.floors 4) x A cap u d code wx rfl (by show 6 ≤ 8; omega) (by have := HKX.out.below.size; omega) HCX.out (Kind.Room.left (s := 1) (t := 14) (Kind.Room.right (s := 4) (t := 15) hR c.floors)) (fun j h => HPX.out j _ (List.getElem?_eq_getElem h)) (fun j h => ?_) (flagsP_nodup pb po) (by omega)).mono ?_
    · have hj : j < 6 := h
      have h6 : j = 0 ∨ j = 1 ∨ j = 2 ∨ j = 3 ∨ j = 4 ∨ j = 5 := by omega
      rcases h6 with rfl | rfl | rfl | rfl | rfl | rfl
      · exact ⟨VX.out 1 _ rfl, HR.out wx 1 HKX.out (by omega), hpb, hpN, by show pb ≠ w2.heap.size; omega⟩
      · exact ⟨VX.out 2 _ rfl, HR.out wx 2 HKX.out (by omega), hpb, hpN, by show pb ≠ w2.heap.size; omega⟩
      · exact ⟨VX.out 3 _ rfl, HR.out wx 3 HKX.out (by omega), hpb, hpN, by show pb ≠ w2.heap.size; omega⟩
      · exact ⟨VX.out 4 _ rfl, HR.out wx 4 HKX.out (by omega), hpb, hpN, by show pb ≠ w2.heap.size; omega⟩
      · exact ⟨VX.out 6 _ rfl, HR.out wx 6 HKX.out (by omega), hpb, hpN, by show pb ≠ w2.heap.size; omega⟩
      · exact ⟨VX.out 8 _ rfl, HR.out wx 8 HKX.out (by omega), hpb, hpN, by show pb ≠ w2.heap.size; omega⟩
    rintro e w3 ⟨hk3, ⟨ok, rfl, hA3, hc3⟩ | ⟨ok, rfl⟩⟩
    · refine hK _ ⟨HKX.out.trans (hk3.mono (fun p hp => Or.elim hp .inl (fun h => .inr (by simp only [flagsP, List.mem_cons, List.not_mem_nil, or_false] at h; rcases h with rfl | rfl | rfl | rfl | rfl | rfl <;> exact ⟨rfl, by simp, by simp⟩)))), hA3, ok, VX.out.step hk3 (carV_plain _) (fun j v hj => ?_)⟩
      have hno : ∀ j, (j = 0 ∨ j = 5 ∨ j = 7 ∨ 9 ≤ j) → ¬ ((⟨pb, po + j, none⟩ : Addr).block = b ∨ (⟨pb, po + j, none⟩ : Addr) ∈ flagsP pb po) := fun j hj hh => hh.elim hpb (fun h => by
        simp only [flagsP, List.mem_cons, List.not_mem_nil, or_false, Addr.mk.injEq] at h; omega)
      match j, hj with
      | 0, hj => exact .inr ⟨hj, hno 0 (by omega)⟩
      | 1, hj => cases hj; exact .inl (hc3 0 (by show 0 < 6; omega))
      | 2, hj => cases hj; exact .inl (hc3 1 (by show 1 < 6; omega))
      | 3, hj => cases hj; exact .inl (hc3 2 (by show 2 < 6; omega))
      | 4, hj => cases hj; exact .inl (hc3 3 (by show 3 < 6; omega))
      | 5, hj => exact .inr ⟨hj, hno 5 (by omega)⟩
      | 6, hj => cases hj; exact .inl (hc3 4 (by show 4 < 6; omega))
      | 7, hj => exact .inr ⟨hj, hno 7 (by omega)⟩
      | 8, hj => cases hj; exact .inl (hc3 5 (by show 5 < 6; omega))
      | 9, hj => exact .inr ⟨hj, hno 9 (by omega)⟩
      | 10, hj => exact .inr ⟨hj, hno 10 (by omega)⟩
      | j + 11, hj => cases hj
    · exact ⟨rfl, Nat.le_of_not_lt (show ¬ k.carQ l c < 64 from ok), (HK0.out.trans HKX.out).trans (hk3.mono (fun p hp => Or.elim hp .inl (fun h => .inr (by simp only [flagsP, List.mem_cons, List.not_mem_nil, or_false] at h; rcases h with rfl | rfl | rfl | rfl | rfl | rfl <;> exact ⟨rfl, by simp, by simp⟩))))⟩
  · exact ⟨undef, rfl⟩
  refine Chain.walk_nil (fun w3 hx => ?_)
  obtain ⟨hk2, hx⟩ := hx
  replace hx : (k.At N w3 b (k.carL2 l c) ∧ k.carQ l c < 2 ^ 6 ∧ CellsAt w3 pb po (carV (k.car2 l c))) := hx
  obtain ⟨hA3, hs3, hv3⟩ := hx
  have HS2 := Lib.hid hs3
  have HA3 := Lib.hid hA3
  have V3 := Lib.hid hv3
  have HK12 := Lib.hid hk2
  clear hA3 hv3 hk2 hs3
  go_wp2_with fail
  have hfw : IntKind.i64.wrap (x.floors - 1) = x.floors - 1 := IntWalk.i64_in _ (by omega)
  refine Chain.chain (fun p wx => Kept N (fun p => p.block = b ∨ (p.block = pb ∧ po ≤ p.off ∧ p.off < po + 11)) W0 wx ∧ (if p = 0 then Below w3.heap.size w3 wx else (k.At N wx b (k.carL3 l c) ∧ (inB 0 (x.floors - 1) (k.numI (k.carL2 l c) c.floor 1) = true) ∧ CellsAt wx pb po (carV (k.car3 l c))))) (fun e wx => e = Exit.panic [{ v := .iface 138 (.agg #[.int .i64 code]), recovered := false }] ∧ ¬ (inB 0 (x.floors - 1) (k.numI (k.carL2 l c) c.floor 1) = true) ∧ Kept N (fun p => p.block = b ∨ (p.block = pb ∧ po ≤ p.off ∧ p.off < po + 11)) w wx) [8] (by kernel_rfl) (by kernel_rfl) (fun e a' w' hdf he => ?_) ⟨Kept.drew (HK12.out), (Below.refl _ _).drew⟩ ?_
  · obtain ⟨rfl, hx⟩ := he
    exact ⟨hdf, hx.2, .inr ⟨fun hh => hx.1 hh.2.2.1, rfl⟩⟩
  iterate 8
    (apply Chain.walk_quiet (by rfl) (by decide)
     (intro p wx _ _ hx K hK
      obtain ⟨c0, c1, c2, c3, c4, c5, c6, c7, c8, c9, c10, c11⟩ := HB.out wx hx.1
      have HX := Lib.hid hx
      clear hx
      go_simp
      go_at_K
      exact hK _ HX.out)
     exact ⟨_, rfl⟩)
  apply Chain.walk_turn 0 (by rfl) (by rfl)
  · intro wx hx K hK
    obtain ⟨hkx, hbx⟩ := hx
    replace hbx : Below w3.heap.size w3 wx := hbx
    have HKX := Lib.hid hkx
    have HBX := Lib.hid hbx
    clear hkx hbx
    go_simp
    go_at_call 77
    refine (number_any k N b ⟨pb, po + 5, none⟩ c.floor 0 (x.floors - 1) 1 (k.carL2 l c) x A cap u d code wx (by omega) hfl1 hfl2 (by have := HKX.out.below.size; omega) (HA3.out.below HBX.out) (Kind.Room.left (s := 1) (t := 13) (Kind.Room.right (s := 1) (t := 14) (Kind.Room.right (s := 4) (t := 15) hR c.floors) (flg c.flags))) ((V3.out.below HBX.out) 5 _ rfl) (HR.out wx 5 HKX.out (by omega)) hpb hpN).mono ?_
    rintro e w3 ⟨hk3, ⟨ok, rfl, hA3, hc3⟩ | ⟨ok, rfl⟩⟩
    · exact hK _ ⟨HKX.out.trans (hk3.mono (fun p hp => Or.elim hp .inl (fun h => .inr (by subst h; exact ⟨rfl, by show po ≤ po + 5; omega, by show po + 5 < po + 11; omega⟩)))), hA3, ok, (V3.out.below HBX.out |>.one hk3 (carV_plain _) hpb (fun v hv => by cases hv; exact hc3) (fun j hj => by match j, hj with | 0, hj => rfl | 1, hj => rfl | 2, hj => rfl | 3, hj => rfl | 4, hj => rfl | 5, hj => exact absurd rfl hj | 6, hj => rfl | 7, hj => rfl | 8, hj => rfl | 9, hj => rfl | 10, hj => rfl | j + 11, hj => rfl))⟩
    · exact ⟨rfl, by simp [ok], (HK0.out.trans HKX.out).trans (hk3.mono (fun p hp => Or.elim hp .inl (fun h => .inr (by subst h; exact ⟨rfl, by show po ≤ po + 5; omega, by show po + 5 < po + 11; omega⟩))))⟩
  · exact ⟨undef, rfl⟩
  refine Chain.walk_nil (fun w4 hx => ?_)
  obtain ⟨hk2, hx⟩ := hx
  replace hx : (k.At N w4 b (k.carL3 l c) ∧ (inB 0 (x.floors - 1) (k.numI (k.carL2 l c) c.floor 1) = true) ∧ CellsAt w4 pb po (carV (k.car3 l c))) := hx
  obtain ⟨hA3, hs3, hv3⟩ := hx
  have HS3 := Lib.hid hs3
  have HA4 := Lib.hid hA3
  have V4 := Lib.hid hv3
  have HK13 := Lib.hid hk2
  clear hA3 hv3 hk2 hs3
  go_wp2_with fail
  refine Chain.chain (fun p wx => Kept N (fun p => p.block = b ∨ (p.block = pb ∧ po ≤ p.off ∧ p.off < po + 11)) W0 wx ∧ (if p = 0 then Below w4.heap.size w4 wx else (k.At N wx b (k.carL4 l c) ∧ (inB 0 2 (k.numI (k.carL3 l c) c.door 1) = true) ∧ CellsAt wx pb po (carV (k.car4 l c))))) (fun e wx => e = Exit.panic [{ v := .iface 138 (.agg #[.int .i64 code]), recovered := false }] ∧ ¬ (inB 0 2 (k.numI (k.carL3 l c) c.door 1) = true) ∧ Kept N (fun p => p.block = b ∨ (p.block = pb ∧ po ≤ p.off ∧ p.off < po + 11)) w wx) [4] (by kernel_rfl) (by kernel_rfl) (fun e a' w' hdf he => ?_) ⟨Kept.drew (HK13.out), (Below.refl _ _).drew⟩ ?_
  · obtain ⟨rfl, hx⟩ := he
    exact ⟨hdf, hx.2, .inr ⟨fun hh => hx.1 hh.2.2.2.1, rfl⟩⟩
  iterate 4
    (apply Chain.walk_quiet (by rfl) (by decide)
     (intro p wx _ _ hx K hK
      obtain ⟨c0, c1, c2, c3, c4, c5, c6, c7, c8, c9, c10, c11⟩ := HB.out wx hx.1
      have HX := Lib.hid hx
      clear hx
      go_simp
      go_at_K
      exact hK _ HX.out)
     exact ⟨_, rfl⟩)
  apply Chain.walk_turn 0 (by rfl) (by rfl)
  · intro wx hx K hK
    obtain ⟨hkx, hbx⟩ := hx
    replace hbx : Below w4.heap.size w4 wx := hbx
    have HKX := Lib.hid hkx
    have HBX := Lib.hid hbx
    clear hkx hbx
    go_simp
    go_at_call 77
    refine (number_any k N b ⟨pb, po + 7, none⟩ c.door 0 2 1 (k.carL3 l c) x A cap u d code wx (by omega) hdo1 hdo2 (by have := HKX.out.below.size; omega) (HA4.out.below HBX.out) (Kind.Room.left (s := 1) (t := 12) (Kind.Room.right (s := 1) (t := 13) (Kind.Room.right (s := 1) (t := 14) (Kind.Room.right (s := 4) (t := 15) hR c.floors) (flg c.flags)) (m64 c.floor))) ((V4.out.below HBX.out) 7 _ rfl) (HR.out wx 7 HKX.out (by omega)) hpb hpN).mono ?_
    rintro e w3 ⟨hk3, ⟨ok, rfl, hA3, hc3⟩ | ⟨ok, rfl⟩⟩
    · exact hK _ ⟨HKX.out.trans (hk3.mono (fun p hp => Or.elim hp .inl (fun h => .inr (by subst h; exact ⟨rfl, by show po ≤ po + 7; omega, by show po + 7 < po + 11; omega⟩)))), hA3, ok, (V4.out.below HBX.out |>.one hk3 (carV_plain _) hpb (fun v hv => by cases hv; exact hc3) (fun j hj => by match j, hj with | 0, hj => rfl | 1, hj => rfl | 2, hj => rfl | 3, hj => rfl | 4, hj => rfl | 5, hj => rfl | 6, hj => rfl | 7, hj => exact absurd rfl hj | 8, hj => rfl | 9, hj => rfl | 10, hj => rfl | j + 11, hj => rfl))⟩
    · exact ⟨rfl, by simp [ok], (HK0.out.trans HKX.out).trans (hk3.mono (fun p hp => Or.elim hp .inl (fun h => .inr (by subst h; exact ⟨rfl, by show po ≤ po + 7; omega, by show po + 7 < po + 11; omega⟩))))⟩
  · exact ⟨undef, rfl⟩
  refine Chain.walk_nil (fun w5 hx => ?_)
  obtain ⟨hk2, hx⟩ := hx
  replace hx : (k.At N w5 b (k.carL4 l c) ∧ (inB 0 2 (k.numI (k.carL3 l c) c.door 1) = true) ∧ CellsAt w5 pb po (carV (k.car4 l c))) := hx
  obtain ⟨hA3, hs3, hv3⟩ := hx
  have HS4 := Lib.hid hs3
  have HA5 := Lib.hid hA3
  have V5 := Lib.hid hv3
  have HK14 := Lib.hid hk2
  clear hA3 hv3 hk2 hs3
  go_wp2_with fail
  refine Chain.chain (fun p wx => Kept N (fun p => p.block = b ∨ (p.block = pb ∧ po ≤ p.off ∧ p.off < po + 11)) W0 wx ∧ (if p = 0 then Below w5.heap.size w5 wx else (k.At N wx b (k.carL5 l c) ∧ (setB (k.num (k.carL4 l c) c.calls 4) (u ||| d) = true) ∧ CellsAt wx pb po (carV (k.car5 l c))))) (fun e wx => e = Exit.panic [{ v := .iface 138 (.agg #[.int .i64 code]), recovered := false }] ∧ ¬ (setB (k.num (k.carL4 l c) c.calls 4) (u ||| d) = true) ∧ Kept N (fun p => p.block = b ∨ (p.block = pb ∧ po ≤ p.off ∧ p.off < po + 11)) w wx) [4] (by kernel_rfl) (by kernel_rfl) (fun e a' w' hdf he => ?_) ⟨Kept.drew (HK14.out), (Below.refl _ _).drew⟩ ?_
  · obtain ⟨rfl, hx⟩ := he
    exact ⟨hdf, hx.2, .inr ⟨fun hh => hx.1 hh.2.2.2.2, rfl⟩⟩
  iterate 4
    (apply Chain.walk_quiet (by rfl) (by decide)
     (intro p wx _ _ hx K hK
      obtain ⟨c0, c1, c2, c3, c4, c5, c6, c7, c8, c9, c10, c11⟩ := HB.out wx hx.1
      have HX := Lib.hid hx
      clear hx
      go_simp
      go_at_K
      exact hK _ HX.out)
     exact ⟨_, rfl⟩)
  apply Chain.walk_turn 0 (by rfl) (by rfl)
  · intro wx hx K hK
    obtain ⟨hkx, hbx⟩ := hx
    replace hbx : Below w5.heap.size w5 wx := hbx
    have HKX := Lib.hid hkx
    have HBX := Lib.hid hbx
    clear hkx hbx
    go_simp
    go_at_call 78
    refine (floors_any k N b ⟨pb, po + 9, none⟩ c.calls (k.carL4 l c) x A cap u d code wx hu hd hcc (by have := HKX.out.below.size; omega) (HA5.out.below HBX.out) (Kind.Room.left (s := 4) (t := 8) (Kind.Room.right (s := 1) (t := 12) (Kind.Room.right (s := 1) (t := 13) (Kind.Room.right (s := 1) (t := 14) (Kind.Room.right (s := 4) (t := 15) hR c.floors) (flg c.flags)) (m64 c.floor)) (m64 c.door))) ((V5.out.below HBX.out) 9 _ rfl) (HR.out wx 9 HKX.out (by omega)) hpb hpN).mono ?_
    rintro e w3 ⟨hk3, ⟨ok, rfl, hA3, hc3⟩ | ⟨ok, rfl⟩⟩
    · exact hK _ ⟨HKX.out.trans (hk3.mono (fun p hp => Or.elim hp .inl (fun h => .inr (by subst h; exact ⟨rfl, by show po ≤ po + 9; omega, by show po + 9 < po + 11; omega⟩)))), hA3, ok, (V5.out.below HBX.out |>.one hk3 (carV_plain _) hpb (fun v hv => by cases hv; exact hc3) (fun j hj => by match j, hj with | 0, hj => rfl | 1, hj => rfl | 2, hj => rfl | 3, hj => rfl | 4, hj => rfl | 5, hj => rfl | 6, hj => rfl | 7, hj => rfl | 8, hj => rfl | 9, hj => exact absurd rfl hj | 10, hj => rfl | j + 11, hj => rfl))⟩
    · exact ⟨rfl, by simp [ok], (HK0.out.trans HKX.out).trans (hk3.mono (fun p hp => Or.elim hp .inl (fun h => .inr (by subst h; exact ⟨rfl, by show po ≤ po + 9; omega, by show po + 9 < po + 11; omega⟩))))⟩
  · exact ⟨undef, rfl⟩
  refine Chain.walk_nil (fun w6 hx => ?_)
  obtain ⟨hk2, hx⟩ := hx
  replace hx : (k.At N w6 b (k.carL5 l c) ∧ (setB (k.num (k.carL4 l c) c.calls 4) (u ||| d) = true) ∧ CellsAt w6 pb po (carV (k.car5 l c))) := hx
  obtain ⟨hA3, hs3, hv3⟩ := hx
  have HS5 := Lib.hid hs3
  have HA6 := Lib.hid hA3
  have V6 := Lib.hid hv3
  have HK15 := Lib.hid hk2
  clear hA3 hv3 hk2 hs3
  go_wp2_with fail
  refine Chain.chain (fun p wx => Kept N (fun p => p.block = b ∨ (p.block = pb ∧ po ≤ p.off ∧ p.off < po + 11)) W0 wx ∧ (if p = 0 then Below w6.heap.size w6 wx else (k.At N wx b (k.carN l c) ∧ CellsAt wx pb po (carV (k.carR l c))))) (fun e wx => e = Exit.panic [{ v := .iface 138 (.agg #[.int .i64 code]), recovered := false }] ∧ ¬ (True) ∧ Kept N (fun p => p.block = b ∨ (p.block = pb ∧ po ≤ p.off ∧ p.off < po + 11)) w wx) [4] (by kernel_rfl) (by kernel_rfl) (fun e a' w' hdf he => ?_) ⟨Kept.drew (HK15.out), (Below.refl _ _).drew⟩ ?_
  · obtain ⟨rfl, hx⟩ := he
    exact ⟨hdf, hx.2, .inr ⟨fun _ => hx.1 trivial, rfl⟩⟩
  iterate 4
    (apply Chain.walk_quiet (by rfl) (by decide)
     (intro p wx _ _ hx K hK
      obtain ⟨c0, c1, c2, c3, c4, c5, c6, c7, c8, c9, c10, c11⟩ := HB.out wx hx.1
      have HX := Lib.hid hx
      clear hx
      go_simp
      go_at_K
      exact hK _ HX.out)
     exact ⟨_, rfl⟩)
  apply Chain.walk_turn 0 (by rfl) (by rfl)
  · intro wx hx K hK
    obtain ⟨hkx, hbx⟩ := hx
    replace hbx : Below w6.heap.size w6 wx := hbx
    have HKX := Lib.hid hkx
    have HBX := Lib.hid hbx
    clear hkx hbx
    go_simp
    go_at_call 79
    refine (load_any k N b ⟨pb, po + 10, none⟩ c.load (k.carL5 l c) x A cap u d code wx (by have := HKX.out.below.size; omega) (HA6.out.below HBX.out) (Kind.Room.right (s := 4) (t := 8) (Kind.Room.right (s := 1) (t := 12) (Kind.Room.right (s := 1) (t := 13) (Kind.Room.right (s := 1) (t := 14) (Kind.Room.right (s := 4) (t := 15) hR c.floors) (flg c.flags)) (m64 c.floor)) (m64 c.door)) c.calls) ((V6.out.below HBX.out) 10 _ rfl) (HR.out wx 10 HKX.out (by omega)) hpb hpN).mono ?_
    rintro e w3 ⟨hk3, rfl, hA3, hc3⟩
    · exact hK _ ⟨HKX.out.trans (hk3.mono (fun p hp => Or.elim hp .inl (fun h => .inr (by subst h; exact ⟨rfl, by show po ≤ po + 10; omega, by show po + 10 < po + 11; omega⟩)))), hA3, (V6.out.below HBX.out |>.one hk3 (carV_plain _) hpb (fun v hv => by cases hv; exact hc3) (fun j hj => by match j, hj with | 0, hj => rfl | 1, hj => rfl | 2, hj => rfl | 3, hj => rfl | 4, hj => rfl | 5, hj => rfl | 6, hj => rfl | 7, hj => rfl | 8, hj => rfl | 9, hj => rfl | 10, hj => exact absurd rfl hj | j + 11, hj => rfl))⟩
  · exact ⟨undef, rfl⟩
  refine Chain.walk_nil (fun w7 hx => ?_)
  obtain ⟨hk2, hx⟩ := hx
  replace hx : (k.At N w7 b (k.carN l c) ∧ CellsAt w7 pb po (carV (k.carR l c))) := hx
  obtain ⟨hA3, hv3⟩ := hx
  have HA7 := Lib.hid hA3
  have V7 := Lib.hid hv3
  have HK16 := Lib.hid hk2
  clear hA3 hv3 hk2
  go_wp2_with fail
  go_end0
  exact ⟨HK0.out.trans HK16.out, .inl ⟨⟨HS1.out, HS2.out, HS3.out, HS4.out, HS5.out⟩, rfl, HA7.out, V7.out⟩⟩
end Go.Proofs.Ythbfpdkgbkpmiaa
