/- frame's outputs. No statement of the seat is proved here. -/
import Derived.Test.YthbfpdkgbkpmiaaCarOut
import Derived.Test.YthbfpdkgbkpmiaaInputs
namespace Go.Proofs.Ythbfpdkgbkpmiaa
open Go.RowKit Frm

/-- What stands ahead of the cars. -/
structure OutH where
  au : Nat
  ad : Nat
  su : Nat
  sd : Nat
  bad : Bool
  full : Bool
  st : Int
def OutH.flags (h : OutH) : List Bool := [h.bad, h.full]
def ohV (h : OutH) (A : Option Addr) (n cap : Nat) : List Value := [.int .u32 h.au, .int .u32 h.ad, .int .u32 h.su, .int .u32 h.sd, .bool h.bad, .bool h.full, .int .i64 h.st, .slice A n cap]
theorem ohV_plain (h : OutH) (A : Option Addr) (n cap : Nat) : ∀ v ∈ ohV h A n cap, plainV v = true := by
  intro v hv
  simp only [ohV, List.mem_cons, List.not_mem_nil, or_false] at hv
  rcases hv with rfl | rfl | rfl | rfl | rfl | rfl | rfl | rfl <;> rfl
def Kind.cosN (k : Kind) : List UInt8 → List CarOut → List UInt8
  | l, [] => l
  | l, c :: cs => k.cosN (k.coN l c) cs
theorem Kind.cosN_snoc (k : Kind) : ∀ (cs : List CarOut) (l : List UInt8) (c : CarOut), k.cosN l (cs ++ [c]) = k.coN (k.cosN l cs) c
  | [], _, _ => rfl
  | a :: cs, l, c => by rw [List.cons_append, Kind.cosN, Kind.cosN_snoc k cs]; rfl
theorem Kind.cosN_take (k : Kind) {cs : List CarOut} {i : Nat} (h : i < cs.length) (l : List UInt8) : k.cosN l (cs.take (i + 1)) = k.coN (k.cosN l (cs.take i)) cs[i] := by
  rw [List.take_succ_eq_append_getElem h, Kind.cosN_snoc]
def Kind.ohL1 (k : Kind) (l : List UInt8) (h : OutH) : List UInt8 := k.next (k.next l h.au 4) h.ad 4
def Kind.ohL2 (k : Kind) (l : List UInt8) (h : OutH) : List UInt8 := k.next (k.next (k.ohL1 l h) h.su 4) h.sd 4
def Kind.ohQ (k : Kind) (l : List UInt8) (h : OutH) : Nat := k.num (k.ohL2 l h) (flg h.flags) 1
def Kind.ohL3 (k : Kind) (l : List UInt8) (h : OutH) : List UInt8 := k.next (k.ohL2 l h) (flg h.flags) 1
def Kind.ohN (k : Kind) (l : List UInt8) (h : OutH) : List UInt8 := k.next (k.ohL3 l h) (m64 h.st) 2
def Kind.oh1 (k : Kind) (l : List UInt8) (h : OutH) : OutH := { h with au := k.num l h.au 4, ad := k.num (k.next l h.au 4) h.ad 4 }
def Kind.oh2 (k : Kind) (l : List UInt8) (h : OutH) : OutH := { k.oh1 l h with su := k.num (k.ohL1 l h) h.su 4, sd := k.num (k.next (k.ohL1 l h) h.su 4) h.sd 4 }
def Kind.oh3 (k : Kind) (l : List UInt8) (h : OutH) : OutH := { k.oh2 l h with bad := (k.ohQ l h).testBit 0, full := (k.ohQ l h).testBit 1 }
def Kind.ohR (k : Kind) (l : List UInt8) (h : OutH) : OutH := { k.oh3 l h with st := k.numI (k.ohL3 l h) h.st 2 }
def Kind.ohOk (k : Kind) (l : List UInt8) (h : OutH) (u d : Nat) : Prop :=
  k.setsOk l h.au h.ad u d ∧ k.setsOk (k.ohL1 l h) h.su h.sd u d ∧ k.ohQ l h < 2 ^ 2 ∧ inB 0 65535 (k.numI (k.ohL3 l h) h.st 2) = true
def saneOh (h : OutH) : Prop := (h.au < 4294967296 ∧ h.ad < 4294967296) ∧ (h.su < 4294967296 ∧ h.sd < 4294967296) ∧ In64 h.st
/-- The car behind those before it. -/
def Kind.coAt (k : Kind) (l : List UInt8) (cs : List CarOut) (i : Nat) : CarOut := k.coR (k.cosN l (cs.take i)) (cs.getD i default)
theorem Kind.Room.co {k : Kind} {l : List UInt8} {t : Nat} (h : k.Room l (19 + t)) (c : CarOut) : k.Room (k.coN l c) t := by
  have h1 : k.Room (k.coL1 l c) (11 + t) := Kind.Room.right (s := 4) (Kind.Room.right (s := 4) (by rw [show 4 + (4 + (11 + t)) = 19 + t from by omega]; exact h) _) _
  have h2 : k.Room (k.coL2 l c) (3 + t) := Kind.Room.right (s := 4) (Kind.Room.right (s := 4) (by rw [show 4 + (4 + (3 + t)) = 11 + t from by omega]; exact h1) _) _
  have h3 : k.Room (k.coL3 l c) (2 + t) := Kind.Room.right (s := 1) (by rw [show 1 + (2 + t) = 3 + t from by omega]; exact h2) _
  have h4 : k.Room (k.coL4 l c) (1 + t) := Kind.Room.right (s := 1) (by rw [show 1 + (1 + t) = 2 + t from by omega]; exact h3) _
  exact Kind.Room.right (s := 1) h4 _
theorem Kind.Room.cos {k : Kind} : ∀ (cs : List CarOut) {l : List UInt8} {t : Nat}, k.Room l (19 * cs.length + t) → k.Room (k.cosN l cs) t
  | [], l, t, h => by
    show k.Room l t
    exact Kind.Room.mono h (by simp)
  | c :: cs, l, t, h => Kind.Room.cos cs (Kind.Room.co (t := 19 * cs.length + t) (by rw [show 19 + (19 * cs.length + t) = 19 * (c :: cs).length + t from by rw [List.length_cons]; omega]; exact h) c)
theorem Kind.Room.oh {k : Kind} {l : List UInt8} {t : Nat} (h : k.Room l (19 + t)) (hd : OutH) : k.Room (k.ohL1 l hd) (11 + t) ∧ k.Room (k.ohL2 l hd) (3 + t) ∧ k.Room (k.ohL3 l hd) (2 + t) ∧ k.Room (k.ohN l hd) t := by
  have h1 : k.Room (k.ohL1 l hd) (11 + t) := Kind.Room.right (s := 4) (Kind.Room.right (s := 4) (by rw [show 4 + (4 + (11 + t)) = 19 + t from by omega]; exact h) _) _
  have h2 : k.Room (k.ohL2 l hd) (3 + t) := Kind.Room.right (s := 4) (Kind.Room.right (s := 4) (by rw [show 4 + (4 + (3 + t)) = 11 + t from by omega]; exact h1) _) _
  have h3 : k.Room (k.ohL3 l hd) (2 + t) := Kind.Room.right (s := 1) (by rw [show 1 + (2 + t) = 3 + t from by omega]; exact h2) _
  exact ⟨h1, h2, h3, Kind.Room.right (s := 2) h3 _⟩
def flagsH (pb : Nat) : List Addr := [⟨pb, 4, none⟩, ⟨pb, 5, none⟩]
theorem flagsH_nodup (pb : Nat) : (flagsH pb).Nodup := by simp [flagsH]
set_option maxRecDepth 100000 in
set_option maxHeartbeats 4000000 in
theorem outputs_any (k : Kind) (N b pb cb cp : Nat) (hd0 : OutH) (cs : List CarOut) (l : List UInt8) (x : BldD) (A : Option Addr) (cap u d : Nat) (code : Int) (w : World) (hu : u < 4294967296) (hd : d < 4294967296) (hn : cs.length = x.cars.length) (hn8 : cs.length ≤ 1000) (hsh : saneOh hd0) (hcs : ∀ c ∈ cs, saneCo c) (hN : N ≤ w.heap.size)
    (hC : k.At N w b l) (hR : k.Room l (19 + 19 * cs.length)) (hp : CellsAt w pb 0 (ohV hd0 (some ⟨cb, 0, none⟩) cs.length cp)) (hf : ∀ j, j < 7 → w.frozen? ⟨pb, j, none⟩ = false) (hpb : pb ≠ b) (hpN : N ≤ pb)
    (hv : ∀ i (h : i < cs.length), CellsAt w cb (i * 9) (coV cs[i])) (hvf : ∀ j, w.frozen? ⟨cb, j, none⟩ = false) (hcb : cb ≠ b) (hcp : cb ≠ pb) (hcN : N ≤ cb) (hcl : cb < w.heap.size) :
    Calls Try.prog 40 #[.agg (fieldsA (k.v b) x A cap u d code), .pointer (some ⟨pb, 0, none⟩)] w fun e w' => Kept N (fun p => p.block = b ∨ (p.block = pb ∧ p.off < 7) ∨ p.block = cb) w w' ∧
      (((k.ohOk l hd0 u d ∧ ∀ i (h : i < cs.length), k.coOk (k.cosN (k.ohN l hd0) (cs.take i)) cs[i] u d) ∧ e = .returned (.tuple #[]) ∧ k.At N w' b (k.cosN (k.ohN l hd0) cs) ∧
          CellsAt w' pb 0 (ohV (k.ohR l hd0) (some ⟨cb, 0, none⟩) cs.length cp) ∧ ∀ i (h : i < cs.length), CellsAt w' cb (i * 9) (coV (k.coAt (k.ohN l hd0) cs i))) ∨
       (¬ (k.ohOk l hd0 u d ∧ ∀ i (h : i < cs.length), k.coOk (k.cosN (k.ohN l hd0) (cs.take i)) cs[i] u d) ∧ e = refusedP code)) := by
  have hpw : pb < w.heap.size := World.block_lt_of_cell? w _ (hp 0 _ rfl)
  have hde : (((cs.length : Nat) : Int) == (x.cars.length : Nat)) = true := by rw [hn]; exact beq_self_eq_true _
  obtain ⟨⟨hau, had⟩, ⟨hsu, hsd⟩, hst1, hst2⟩ := hsh
  obtain ⟨hr1, hr2, hr3, hr4⟩ := Kind.Room.oh hR hd0
  have R1 := Lib.hid hr1
  have R2 := Lib.hid hr2
  have R3 := Lib.hid hr3
  have R4 := Lib.hid hr4
  clear hr1 hr2 hr3 hr4
  obtain ⟨hbw, hNb⟩ := Kind.lt hC
  have hcv : plainV (k.v b) = true := by cases k <;> rfl
  have hk0 : Kept N (fun p => p.block = b ∨ (p.block = pb ∧ p.off < 7) ∨ p.block = cb) w (w.alloc (.cells (fieldsA (k.v b) x A cap u d code) 77)) := (Kept.refl _ _ _).alloc hN _
  have hbox := fun wx (h : Kept N (fun p => p.block = b ∨ (p.block = pb ∧ p.off < 7) ∨ p.block = cb) (w.alloc (.cells (fieldsA (k.v b) x A cap u d code) 77)) wx) => boxF (wx := wx) hcv (fun o => by
    intro hh
    rcases hh with hh | hh | hh
    · exact absurd hh (by show ¬ w.heap.size = b; omega)
    · have := hh.1; simp at this; omega
    · exact absurd hh (by show ¬ w.heap.size = cb; omega)) h
  have hA0 := hC.alloc (.cells (fieldsA (k.v b) x A cap u d code) 77)
  have hk1 : Kept N (fun p => p.block = b) w (w.alloc (.cells (fieldsA (k.v b) x A cap u d code) 77)) := (Kept.refl _ _ _).alloc hN _
  have HK1 := Lib.hid hk1
  clear hk1
  have HB := Lib.hid hbox
  have HK0 := Lib.hid hk0
  have HA0 := Lib.hid hA0
  have hz0 : (w.alloc (.cells (fieldsA (k.v b) x A cap u d code) 77)).heap.size = w.heap.size + 1 := by simp
  clear hbox hk0 hA0
  go_enter Try.func40, Try.ntmps40
  go_wp2_with fail
  generalize w.alloc (.cells (fieldsA (k.v b) x A cap u d code) 77) = W0 at *
  have V0 := Lib.hid (hp.kept HK1.out (ohV_plain _ _ _ _) (fun _ _ => hpb))
  have C0 : Hid (∀ i (h : i < cs.length), CellsAt W0 cb (i * 9) (coV cs[i])) := fun i h => (hv i h).kept HK1.out (coV_plain _) (fun _ _ => hcb)
  have hr : ∀ wx j, Kept N (fun p => p.block = b ∨ (p.block = pb ∧ p.off < 7) ∨ p.block = cb) W0 wx → j < 7 → wx.frozen? ⟨pb, j, none⟩ = false := fun wx j h hj => ((HK0.out.trans h).froz _ hpw).trans (hf j hj)
  have hr2 : ∀ wx j, Kept N (fun p => p.block = b ∨ (p.block = pb ∧ p.off < 7) ∨ p.block = cb) W0 wx → wx.frozen? ⟨cb, j, none⟩ = false := fun wx j h => ((HK0.out.trans h).froz _ hcl).trans (hvf j)
  have HR := Lib.hid hr
  have HR2 := Lib.hid hr2
  have HCS := Lib.hid hcs
  have HN := Lib.hid hn
  clear hn
  clear hr hr2 hp hf hv hvf hcs
  refine Bag.region (fun wx => Kept N (fun p => p.block = b ∨ (p.block = pb ∧ p.off < 7) ∨ p.block = cb) W0 wx ∧ Below W0.heap.size W0 wx) (by kernel_rfl) (by kernel_rfl) ⟨(Kept.refl _ _ _).drew, (Below.refl _ _).drew⟩ ?_
  iterate 11
    (apply Bag.walk_yes (by rfl)
     (intro wx hx K hK
      obtain ⟨c0, c1, c2, c3, c4, c5, c6, c7, c8, c9, c10, c11⟩ := HB.out wx hx.1
      have cx := (V0.out.below hx.2) 7 _ rfl
      have HX := Lib.hid hx
      clear hx
      simp only [Nat.zero_add] at cx
      go_simp
      go_at_K
      exact hK _ HX.out)
     rfl)
  apply Bag.walk_yes (by rfl)
  · intro wx hx K hK
    have HX := Lib.hid hx
    clear hx
    go_simp
    go_at_call 55
    refine (expect_yes (k.v b) x A cap u d code _).mono ?_
    rintro e w3 ⟨rfl, hb3⟩
    exact hK _ ⟨HX.out.1.trans (Kept.of_below (N := N) hb3 (by have := HX.out.1.below.size; omega) _), HX.out.2.trans (hb3.mono HX.out.2.size)⟩
  · rfl
  refine Bag.walk_nil (fun w1 hx => ?_)
  obtain ⟨hk2, hb2⟩ := hx
  have V1 := Lib.hid (V0.out.below hb2)
  have C1 : Hid (∀ i (h : i < cs.length), CellsAt w1 cb (i * 9) (coV cs[i])) := fun i h => (C0.out i h).below hb2
  have HA1 := Lib.hid (HA0.out.below hb2)
  have HK11 := Lib.hid hk2
  clear hk2 hb2
  go_wp2_with fail
  refine Chain.chain (fun p wx => Kept N (fun p => p.block = b ∨ (p.block = pb ∧ p.off < 7) ∨ p.block = cb) W0 wx ∧ (if p = 0 then Below w1.heap.size w1 wx else (k.At N wx b (k.ohL1 l hd0) ∧ (k.setsOk l hd0.au hd0.ad u d) ∧ CellsAt wx pb 0 (ohV (k.oh1 l hd0) (some ⟨cb, 0, none⟩) cs.length cp) ∧ ∀ i (h : i < cs.length), CellsAt wx cb (i * 9) (coV cs[i])))) (fun e wx => e = Exit.panic [{ v := .iface 138 (.agg #[.int .i64 code]), recovered := false }] ∧ ¬ (k.setsOk l hd0.au hd0.ad u d) ∧ Kept N (fun p => p.block = b ∨ (p.block = pb ∧ p.off < 7) ∨ p.block = cb) w wx) [4] (by kernel_rfl) (by kernel_rfl) (fun e a' w' hdf he => ?_) ⟨Kept.drew (HK11.out), (Below.refl _ _).drew⟩ ?_
  · obtain ⟨rfl, hx⟩ := he
    exact ⟨hdf, hx.2, .inr ⟨fun hh => hx.1 hh.1.1, rfl⟩⟩
  iterate 4
    (apply Chain.walk_quiet (by rfl) (by decide)
     (intro p wx _ _ hx K hK
      obtain ⟨c0, c1, c2, c3, c4, c5, c6, c7, c8, c9, c10, c11⟩ := HB.out wx hx.1
      have HX := Lib.hid hx
      clear hx
      go_simp
      go_at_K
      exact hK _ HX.out)
     exact ⟨_, rfl⟩)
  apply Chain.walk_turn 0 (by rfl) (by rfl)
  · intro wx hx K hK
    obtain ⟨hkx, hbx⟩ := hx
    replace hbx : Below w1.heap.size w1 wx := hbx
    have HKX := Lib.hid hkx
    have HBX := Lib.hid hbx
    clear hkx hbx
    go_simp
    go_at_call 56
    refine (calls_any k N b pb 0 hd0.au hd0.ad l x A cap u d code wx hu hd hau had (by have := HKX.out.below.size; omega) (HA1.out.below HBX.out) (Kind.Room.mono hR (by omega)) ((V1.out.below HBX.out) 0 _ rfl) ((V1.out.below HBX.out) 1 _ rfl) (HR.out wx 0 HKX.out (by omega)) (HR.out wx 1 HKX.out (by omega)) hpb hpN).mono ?_
    rintro e w3 ⟨hk3, ⟨ok, rfl, hA3, hc3⟩ | ⟨ok, rfl⟩⟩
    · exact hK _ ⟨HKX.out.trans (hk3.mono (fun p hp => by rcases hp with hp | rfl | rfl; exact .inl hp; exact .inr (.inl ⟨rfl, by show 0 < 7; omega⟩); exact .inr (.inl ⟨rfl, by show 1 < 7; omega⟩))), hA3, ok, (V1.out.below HBX.out |>.step hk3 (ohV_plain _ _ _ _) (fun j v hj => by
        have hno : ∀ j, (j ≠ 0 ∧ j ≠ 1) → ¬ ((⟨pb, 0 + j, none⟩ : Addr).block = b ∨ (⟨pb, 0 + j, none⟩ : Addr) = ⟨pb, 0, none⟩ ∨ (⟨pb, 0 + j, none⟩ : Addr) = ⟨pb, 0 + 1, none⟩) := fun j hj hh => hh.elim hpb (fun h => h.elim (fun h => by injection h with _ h; omega) (fun h => by injection h with _ h; omega))
        match j, hj with
        | 0, hj => cases hj; exact .inl hc3.1
        | 1, hj => cases hj; exact .inl hc3.2
        | 2, hj => exact .inr ⟨hj, hno 2 (by omega)⟩
        | 3, hj => exact .inr ⟨hj, hno 3 (by omega)⟩
        | 4, hj => exact .inr ⟨hj, hno 4 (by omega)⟩
        | 5, hj => exact .inr ⟨hj, hno 5 (by omega)⟩
        | 6, hj => exact .inr ⟨hj, hno 6 (by omega)⟩
        | 7, hj => exact .inr ⟨hj, hno 7 (by omega)⟩
        | j + 8, hj => cases hj)), fun i h => (C1.out i h).below HBX.out |>.kept hk3 (coV_plain _) (fun j _ hh => hh.elim hcb (fun h => h.elim (fun h => by injection h with h; exact hcp h) (fun h => by injection h with h; exact hcp h)))⟩
    · exact ⟨rfl, ok, (HK0.out.trans HKX.out).trans (hk3.mono (fun p hp => by rcases hp with hp | rfl | rfl; exact .inl hp; exact .inr (.inl ⟨rfl, by show 0 < 7; omega⟩); exact .inr (.inl ⟨rfl, by show 1 < 7; omega⟩)))⟩
  · exact ⟨undef, rfl⟩
  refine Chain.walk_nil (fun w2 hx => ?_)
  obtain ⟨hk2, hx⟩ := hx
  replace hx : (k.At N w2 b (k.ohL1 l hd0) ∧ (k.setsOk l hd0.au hd0.ad u d) ∧ CellsAt w2 pb 0 (ohV (k.oh1 l hd0) (some ⟨cb, 0, none⟩) cs.length cp) ∧ ∀ i (h : i < cs.length), CellsAt w2 cb (i * 9) (coV cs[i])) := hx
  obtain ⟨hA3, hs3, hv3, hcc3⟩ := hx
  have HS1 := Lib.hid hs3
  have HA2 := Lib.hid hA3
  have V2 := Lib.hid hv3
  have C2 := Lib.hid hcc3
  have HK12 := Lib.hid hk2
  clear hA3 hs3 hv3 hcc3 hk2
  go_wp2_with fail
  refine Chain.chain (fun p wx => Kept N (fun p => p.block = b ∨ (p.block = pb ∧ p.off < 7) ∨ p.block = cb) W0 wx ∧ (if p = 0 then Below w2.heap.size w2 wx else (k.At N wx b (k.ohL2 l hd0) ∧ (k.setsOk (k.ohL1 l hd0) hd0.su hd0.sd u d) ∧ CellsAt wx pb 0 (ohV (k.oh2 l hd0) (some ⟨cb, 0, none⟩) cs.length cp) ∧ ∀ i (h : i < cs.length), CellsAt wx cb (i * 9) (coV cs[i])))) (fun e wx => e = Exit.panic [{ v := .iface 138 (.agg #[.int .i64 code]), recovered := false }] ∧ ¬ (k.setsOk (k.ohL1 l hd0) hd0.su hd0.sd u d) ∧ Kept N (fun p => p.block = b ∨ (p.block = pb ∧ p.off < 7) ∨ p.block = cb) w wx) [4] (by kernel_rfl) (by kernel_rfl) (fun e a' w' hdf he => ?_) ⟨Kept.drew (HK12.out), (Below.refl _ _).drew⟩ ?_
  · obtain ⟨rfl, hx⟩ := he
    exact ⟨hdf, hx.2, .inr ⟨fun hh => hx.1 hh.1.2.1, rfl⟩⟩
  iterate 4
    (apply Chain.walk_quiet (by rfl) (by decide)
     (intro p wx _ _ hx K hK
      obtain ⟨c0, c1, c2, c3, c4, c5, c6, c7, c8, c9, c10, c11⟩ := HB.out wx hx.1
      have HX := Lib.hid hx
      clear hx
      go_simp
      go_at_K
      exact hK _ HX.out)
     exact ⟨_, rfl⟩)
  apply Chain.walk_turn 0 (by rfl) (by rfl)
  · intro wx hx K hK
    obtain ⟨hkx, hbx⟩ := hx
    replace hbx : Below w2.heap.size w2 wx := hbx
    have HKX := Lib.hid hkx
    have HBX := Lib.hid hbx
    clear hkx hbx
    go_simp
    go_at_call 56
    refine (calls_any k N b pb 2 hd0.su hd0.sd (k.ohL1 l hd0) x A cap u d code wx hu hd hsu hsd (by have := HKX.out.below.size; omega) (HA2.out.below HBX.out) (Kind.Room.mono R1.out (by omega)) ((V2.out.below HBX.out) 2 _ rfl) ((V2.out.below HBX.out) 3 _ rfl) (HR.out wx 2 HKX.out (by omega)) (HR.out wx 3 HKX.out (by omega)) hpb hpN).mono ?_
    rintro e w3 ⟨hk3, ⟨ok, rfl, hA3, hc3⟩ | ⟨ok, rfl⟩⟩
    · exact hK _ ⟨HKX.out.trans (hk3.mono (fun p hp => by rcases hp with hp | rfl | rfl; exact .inl hp; exact .inr (.inl ⟨rfl, by show 2 < 7; omega⟩); exact .inr (.inl ⟨rfl, by show 3 < 7; omega⟩))), hA3, ok, (V2.out.below HBX.out |>.step hk3 (ohV_plain _ _ _ _) (fun j v hj => by
        have hno : ∀ j, (j ≠ 2 ∧ j ≠ 3) → ¬ ((⟨pb, 0 + j, none⟩ : Addr).block = b ∨ (⟨pb, 0 + j, none⟩ : Addr) = ⟨pb, 2, none⟩ ∨ (⟨pb, 0 + j, none⟩ : Addr) = ⟨pb, 2 + 1, none⟩) := fun j hj hh => hh.elim hpb (fun h => h.elim (fun h => by injection h with _ h; omega) (fun h => by injection h with _ h; omega))
        match j, hj with
        | 0, hj => exact .inr ⟨hj, hno 0 (by omega)⟩
        | 1, hj => exact .inr ⟨hj, hno 1 (by omega)⟩
        | 2, hj => cases hj; exact .inl hc3.1
        | 3, hj => cases hj; exact .inl hc3.2
        | 4, hj => exact .inr ⟨hj, hno 4 (by omega)⟩
        | 5, hj => exact .inr ⟨hj, hno 5 (by omega)⟩
        | 6, hj => exact .inr ⟨hj, hno 6 (by omega)⟩
        | 7, hj => exact .inr ⟨hj, hno 7 (by omega)⟩
        | j + 8, hj => cases hj)), fun i h => (C2.out i h).below HBX.out |>.kept hk3 (coV_plain _) (fun j _ hh => hh.elim hcb (fun h => h.elim (fun h => by injection h with h; exact hcp h) (fun h => by injection h with h; exact hcp h)))⟩
    · exact ⟨rfl, ok, (HK0.out.trans HKX.out).trans (hk3.mono (fun p hp => by rcases hp with hp | rfl | rfl; exact .inl hp; exact .inr (.inl ⟨rfl, by show 2 < 7; omega⟩); exact .inr (.inl ⟨rfl, by show 3 < 7; omega⟩)))⟩
  · exact ⟨undef, rfl⟩
  refine Chain.walk_nil (fun w3 hx => ?_)
  obtain ⟨hk2, hx⟩ := hx
  replace hx : (k.At N w3 b (k.ohL2 l hd0) ∧ (k.setsOk (k.ohL1 l hd0) hd0.su hd0.sd u d) ∧ CellsAt w3 pb 0 (ohV (k.oh2 l hd0) (some ⟨cb, 0, none⟩) cs.length cp) ∧ ∀ i (h : i < cs.length), CellsAt w3 cb (i * 9) (coV cs[i])) := hx
  obtain ⟨hA3, hs3, hv3, hcc3⟩ := hx
  have HS2 := Lib.hid hs3
  have HA3 := Lib.hid hA3
  have V3 := Lib.hid hv3
  have C3 := Lib.hid hcc3
  have HK13 := Lib.hid hk2
  clear hA3 hs3 hv3 hcc3 hk2
  go_wp2_with fail
  refine Chain.chain (fun p wx => Kept N (fun p => p.block = b ∨ (p.block = pb ∧ p.off < 7) ∨ p.block = cb) W0 wx ∧ (if p = 0 then (Below w3.heap.size w3 wx ∧ wx.heap.size = w3.heap.size) else if p = 1 then (Below w3.heap.size w3 wx ∧ ∀ j a, (flagsH pb)[j]? = some a → wx.cell? ⟨w3.heap.size, j, none⟩ = some (.pointer (some a))) else (k.At N wx b (k.ohL3 l hd0) ∧ k.ohQ l hd0 < 2 ^ 2 ∧ CellsAt wx pb 0 (ohV (k.oh3 l hd0) (some ⟨cb, 0, none⟩) cs.length cp) ∧ ∀ i (h : i < cs.length), CellsAt wx cb (i * 9) (coV cs[i])))) (fun e wx => e = Exit.panic [{ v := .iface 138 (.agg #[.int .i64 code]), recovered := false }] ∧ ¬ k.ohQ l hd0 < 2 ^ 2 ∧ Kept N (fun p => p.block = b ∨ (p.block = pb ∧ p.off < 7) ∨ p.block = cb) w wx) [7, 8] (by kernel_rfl) (by kernel_rfl) (fun e a' w' hdf he => ?_) ⟨Kept.drew HK13.out, (Below.refl _ _).drew, rfl⟩ ?_
  · obtain ⟨rfl, hx⟩ := he
    exact ⟨hdf, hx.2, .inr ⟨fun hh => hx.1 hh.1.2.2.1, rfl⟩⟩
  iterate 7
    (apply Chain.walk_quiet (by rfl) (by decide)
     (intro p wx _ _ hx K hK
      obtain ⟨c0, c1, c2, c3, c4, c5, c6, c7, c8, c9, c10, c11⟩ := HB.out wx hx.1
      have HX := Lib.hid hx
      clear hx
      go_simp
      go_at_K
      exact hK _ HX.out)
     exact ⟨_, rfl⟩)
  apply Chain.walk_turn 0 (by rfl) (by rfl)
  · intro wx hx K hK
    obtain ⟨hkx, hbx, hsx⟩ := hx
    have HKX := Lib.hid hkx
    have HBX := Lib.hid hbx
    have hw2 : w3.heap.size = wx.heap.size := hsx.symm
    clear hkx hbx hsx
    go_simp
    rw [← hw2]
    go_at_K
    refine hK _ ⟨HKX.out.alloc (by have := HKX.out.below.size; omega) _, HBX.out.alloc (by omega) _, ?_⟩
    intro j a hj
    rw [hw2, cell_of_row _ _ j _ _ (0, 0) (heap_alloc_new wx _)]
    match j, hj with
    | 0, hj => cases hj; rfl
    | 1, hj => cases hj; rfl
    | j + 2, hj => cases hj
  · exact ⟨_, rfl⟩
  apply Chain.walk_turn 1 (by rfl) (by rfl)
  · intro wx hx K hK
    obtain ⟨hkx, hbx, hsx⟩ := hx
    have HKX := Lib.hid hkx
    have HBX := Lib.hid hbx
    have HPX := Lib.hid hsx
    have hz2 : W0.heap.size ≤ w3.heap.size := HK13.out.below.size
    have VX := Lib.hid (V3.out.below hbx)
    have CX := Lib.hid (fun i h => (C3.out i h).below hbx)
    have HCX := Lib.hid (HA3.out.below hbx)
    clear hkx hbx hsx
    go_simp
    go_at_call 64
    refine (flags_any k N b w3.heap.size 2 (flagsH pb) hd0.flags (k.ohL2 l hd0) x A cap u d code wx rfl (by show 2 ≤ 8; omega) (by have := HKX.out.below.size; omega) HCX.out (Kind.Room.mono R2.out (by omega)) (fun j h => HPX.out j _ (List.getElem?_eq_getElem h)) (fun j h => ?_) (flagsH_nodup pb) (by omega)).mono ?_
    · have hj : j < 2 := h
      have h6 : j = 0 ∨ j = 1 := by omega
      rcases h6 with rfl | rfl
      · exact ⟨VX.out 4 _ rfl, HR.out wx 4 HKX.out (by omega), hpb, hpN, by show pb ≠ w3.heap.size; omega⟩
      · exact ⟨VX.out 5 _ rfl, HR.out wx 5 HKX.out (by omega), hpb, hpN, by show pb ≠ w3.heap.size; omega⟩
    rintro e w4 ⟨hk3, ⟨ok, rfl, hA3, hc3⟩ | ⟨ok, rfl⟩⟩
    · refine hK _ ⟨HKX.out.trans (hk3.mono (fun p hp => Or.elim hp .inl (fun h => .inr (.inl (by simp only [flagsH, List.mem_cons, List.not_mem_nil, or_false] at h; rcases h with rfl | rfl <;> exact ⟨rfl, by simp⟩))))), hA3, ok, VX.out.step hk3 (ohV_plain _ _ _ _) (fun j v hj => ?_), fun i h => (CX.out i h).kept hk3 (coV_plain _) (fun j _ hh => hh.elim hcb (fun h => by
        simp only [flagsH, List.mem_cons, List.not_mem_nil, or_false, Addr.mk.injEq] at h
        rcases h with h | h <;> exact hcp h.1))⟩
      have hno : ∀ j, (j ≠ 4 ∧ j ≠ 5) → ¬ ((⟨pb, 0 + j, none⟩ : Addr).block = b ∨ (⟨pb, 0 + j, none⟩ : Addr) ∈ flagsH pb) := fun j hj hh => hh.elim hpb (fun h => by
        simp only [flagsH, List.mem_cons, List.not_mem_nil, or_false, Addr.mk.injEq] at h; omega)
      match j, hj with
      | 0, hj => exact .inr ⟨hj, hno 0 (by omega)⟩
      | 1, hj => exact .inr ⟨hj, hno 1 (by omega)⟩
      | 2, hj => exact .inr ⟨hj, hno 2 (by omega)⟩
      | 3, hj => exact .inr ⟨hj, hno 3 (by omega)⟩
      | 4, hj => cases hj; exact .inl (hc3 0 (by show 0 < 2; omega))
      | 5, hj => cases hj; exact .inl (hc3 1 (by show 1 < 2; omega))
      | 6, hj => exact .inr ⟨hj, hno 6 (by omega)⟩
      | 7, hj => exact .inr ⟨hj, hno 7 (by omega)⟩
      | j + 8, hj => cases hj
    · exact ⟨rfl, Nat.le_of_not_lt (show ¬ k.ohQ l hd0 < 4 from ok), (HK0.out.trans HKX.out).trans (hk3.mono (fun p hp => Or.elim hp .inl (fun h => .inr (.inl (by simp only [flagsH, List.mem_cons, List.not_mem_nil, or_false] at h; rcases h with rfl | rfl <;> exact ⟨rfl, by simp⟩)))))⟩
  · exact ⟨undef, rfl⟩
  refine Chain.walk_nil (fun w4 hx => ?_)
  obtain ⟨hk2, hx⟩ := hx
  replace hx : (k.At N w4 b (k.ohL3 l hd0) ∧ k.ohQ l hd0 < 2 ^ 2 ∧ CellsAt w4 pb 0 (ohV (k.oh3 l hd0) (some ⟨cb, 0, none⟩) cs.length cp) ∧ ∀ i (h : i < cs.length), CellsAt w4 cb (i * 9) (coV cs[i])) := hx
  obtain ⟨hA3, hs3, hv3, hcc3⟩ := hx
  have HS3 := Lib.hid hs3
  have HA4 := Lib.hid hA3
  have V4 := Lib.hid hv3
  have C4 := Lib.hid hcc3
  have HK14 := Lib.hid hk2
  clear hA3 hv3 hk2 hs3 hcc3
  go_wp2_with fail
  refine Chain.chain (fun p wx => Kept N (fun p => p.block = b ∨ (p.block = pb ∧ p.off < 7) ∨ p.block = cb) W0 wx ∧ (if p = 0 then Below w4.heap.size w4 wx else (k.At N wx b (k.ohN l hd0) ∧ (inB 0 65535 (k.numI (k.ohL3 l hd0) hd0.st 2) = true) ∧ CellsAt wx pb 0 (ohV (k.ohR l hd0) (some ⟨cb, 0, none⟩) cs.length cp) ∧ ∀ i (h : i < cs.length), CellsAt wx cb (i * 9) (coV cs[i])))) (fun e wx => e = Exit.panic [{ v := .iface 138 (.agg #[.int .i64 code]), recovered := false }] ∧ ¬ (inB 0 65535 (k.numI (k.ohL3 l hd0) hd0.st 2) = true) ∧ Kept N (fun p => p.block = b ∨ (p.block = pb ∧ p.off < 7) ∨ p.block = cb) w wx) [4] (by kernel_rfl) (by kernel_rfl) (fun e a' w' hdf he => ?_) ⟨Kept.drew (HK14.out), (Below.refl _ _).drew⟩ ?_
  · obtain ⟨rfl, hx⟩ := he
    exact ⟨hdf, hx.2, .inr ⟨fun hh => hx.1 hh.1.2.2.2, rfl⟩⟩
  iterate 4
    (apply Chain.walk_quiet (by rfl) (by decide)
     (intro p wx _ _ hx K hK
      obtain ⟨c0, c1, c2, c3, c4, c5, c6, c7, c8, c9, c10, c11⟩ := HB.out wx hx.1
      have HX := Lib.hid hx
      clear hx
      go_simp
      go_at_K
      exact hK _ HX.out)
     exact ⟨_, rfl⟩)
  apply Chain.walk_turn 0 (by rfl) (by rfl)
  · intro wx hx K hK
    obtain ⟨hkx, hbx⟩ := hx
    replace hbx : Below w4.heap.size w4 wx := hbx
    have HKX := Lib.hid hkx
    have HBX := Lib.hid hbx
    clear hkx hbx
    go_simp
    go_at_call 65
    refine (status_any k N b ⟨pb, 6, none⟩ hd0.st (k.ohL3 l hd0) x A cap u d code wx hst1 hst2 (by have := HKX.out.below.size; omega) (HA4.out.below HBX.out) (Kind.Room.mono R3.out (by omega)) ((V4.out.below HBX.out) 6 _ rfl) (HR.out wx 6 HKX.out (by omega)) hpb hpN).mono ?_
    rintro e w3 ⟨hk3, ⟨ok, rfl, hA3, hc3⟩ | ⟨ok, rfl⟩⟩
    · exact hK _ ⟨HKX.out.trans (hk3.mono (fun p hp => by rcases hp with hp | rfl; exact .inl hp; exact .inr (.inl ⟨rfl, by show 6 < 7; omega⟩))), hA3, ok, (V4.out.below HBX.out |>.step hk3 (ohV_plain _ _ _ _) (fun j v hj => by
        have hno : ∀ j, j ≠ 6 → ¬ ((⟨pb, 0 + j, none⟩ : Addr).block = b ∨ (⟨pb, 0 + j, none⟩ : Addr) = ⟨pb, 6, none⟩) := fun j hj hh => hh.elim hpb (fun h => by injection h with _ h; omega)
        match j, hj with
        | 0, hj => exact .inr ⟨hj, hno 0 (by omega)⟩
        | 1, hj => exact .inr ⟨hj, hno 1 (by omega)⟩
        | 2, hj => exact .inr ⟨hj, hno 2 (by omega)⟩
        | 3, hj => exact .inr ⟨hj, hno 3 (by omega)⟩
        | 4, hj => exact .inr ⟨hj, hno 4 (by omega)⟩
        | 5, hj => exact .inr ⟨hj, hno 5 (by omega)⟩
        | 6, hj => cases hj; exact .inl hc3
        | 7, hj => exact .inr ⟨hj, hno 7 (by omega)⟩
        | j + 8, hj => cases hj)), fun i h => (C4.out i h).below HBX.out |>.kept hk3 (coV_plain _) (fun j _ hh => hh.elim hcb (fun h => by injection h with h; exact hcp h))⟩
    · exact ⟨rfl, by simp [ok], (HK0.out.trans HKX.out).trans (hk3.mono (fun p hp => by rcases hp with hp | rfl; exact .inl hp; exact .inr (.inl ⟨rfl, by show 6 < 7; omega⟩)))⟩
  · exact ⟨undef, rfl⟩
  refine Chain.walk_nil (fun w5 hx => ?_)
  obtain ⟨hk2, hx⟩ := hx
  replace hx : (k.At N w5 b (k.ohN l hd0) ∧ (inB 0 65535 (k.numI (k.ohL3 l hd0) hd0.st 2) = true) ∧ CellsAt w5 pb 0 (ohV (k.ohR l hd0) (some ⟨cb, 0, none⟩) cs.length cp) ∧ ∀ i (h : i < cs.length), CellsAt w5 cb (i * 9) (coV cs[i])) := hx
  obtain ⟨hA3, hs3, hv3, hcc3⟩ := hx
  have HS4 := Lib.hid hs3
  have HA5 := Lib.hid hA3
  have V5 := Lib.hid hv3
  have C5 := Lib.hid hcc3
  have HK15 := Lib.hid hk2
  have c7 := hv3 7 _ rfl
  simp only [Nat.zero_add] at c7
  clear hA3 hs3 hv3 hcc3 hk2
  go_wp2_with fail
  go_loopw [46] (fun v wr => ∃ m : Nat, m ≤ cs.length ∧ v = .int .i64 m ∧ Kept N (fun p => p.block = b ∨ (p.block = pb ∧ p.off < 7) ∨ p.block = cb) W0 wr ∧ k.At N wr b (k.cosN (k.ohN l hd0) (cs.take m)) ∧ CellsAt wr pb 0 (ohV (k.ohR l hd0) (some ⟨cb, 0, none⟩) cs.length cp) ∧ (∀ i (h : i < cs.length), i < m → k.coOk (k.cosN (k.ohN l hd0) (cs.take i)) cs[i] u d) ∧ ∀ i (h : i < cs.length), CellsAt wr cb (i * 9) (coV (if i < m then k.coAt (k.ohN l hd0) cs i else cs[i]))) (fun v _ => cs.length - (intOf v).toNat)
  case atStart => exact ⟨0, Nat.zero_le _, rfl, HK15.out, HA5.out, V5.out, fun _ _ h => absurd h (by omega), fun i h => by rw [if_neg (by omega)]; exact C5.out i h⟩
  case round =>
    obtain ⟨m, hm, rfl, hkr, har, hvr, hor, hcr⟩ := hrel
    have HKR := Lib.hid hkr
    have HAR := Lib.hid har
    have HVR := Lib.hid hvr
    have HOR := Lib.hid hor
    have HCR := Lib.hid hcr
    clear hkr har hvr hor hcr c7
    by_cases hlt : m < cs.length
    · go_wp2_with fail
      refine Chain.chain (fun p wx => Kept N (fun p => p.block = b ∨ (p.block = pb ∧ p.off < 7) ∨ p.block = cb) W0 wx ∧ (if p = 0 then Below wr.heap.size wr wx else (k.At N wx b (k.coN (k.cosN (k.ohN l hd0) (cs.take m)) cs[m]) ∧ k.coOk (k.cosN (k.ohN l hd0) (cs.take m)) cs[m] u d ∧ CellsAt wx pb 0 (ohV (k.ohR l hd0) (some ⟨cb, 0, none⟩) cs.length cp) ∧ ∀ i (h : i < cs.length), CellsAt wx cb (i * 9) (coV (if i < m + 1 then k.coAt (k.ohN l hd0) cs i else cs[i]))))) (fun e wx => e = Exit.panic [{ v := .iface 138 (.agg #[.int .i64 code]), recovered := false }] ∧ ¬ k.coOk (k.cosN (k.ohN l hd0) (cs.take m)) cs[m] u d ∧ Kept N (fun p => p.block = b ∨ (p.block = pb ∧ p.off < 7) ∨ p.block = cb) w wx) [7] (by kernel_rfl) (by kernel_rfl) (fun e a' w' hdf he => ?_) ⟨Kept.drew (HKR.out), (Below.refl _ _).drew⟩ ?_
      · obtain ⟨rfl, hx⟩ := he
        exact ⟨hdf, hx.2, .inr ⟨fun hh => hx.1 (hh.2 m hlt), rfl⟩⟩
      iterate 7
        (apply Chain.walk_quiet (by rfl) (by decide)
         (intro p wx _ _ hx K hK
          obtain ⟨c0, c1, c2, c3, c4, c5, c6, c7, c8, c9, c10, c11⟩ := HB.out wx hx.1
          have cx : wx.cell? ⟨pb, 7, none⟩ = some (.slice (some ⟨cb, 0, none⟩) cs.length cp) := by
            have h5 : ¬ ((⟨pb, 7, none⟩ : Addr).block = b ∨ ((⟨pb, 7, none⟩ : Addr).block = pb ∧ (7 : Nat) < 7) ∨ (⟨pb, 7, none⟩ : Addr).block = cb) := fun hh => hh.elim hpb (fun h => h.elim (fun h => absurd h.2 (by omega)) (fun h => hcp h.symm))
            have h6 := V0.out 7 _ rfl
            simp only [Nat.zero_add] at h6
            exact hx.1.cell _ _ h6 rfl h5
          have HX := Lib.hid hx
          clear hx
          go_simp
          go_at_K
          exact hK _ HX.out)
         exact ⟨_, rfl⟩)
      apply Chain.walk_turn 0 (by rfl) (by rfl)
      · intro wx hx K hK
        obtain ⟨hkx, hbx⟩ := hx
        replace hbx : Below wr.heap.size wr wx := hbx
        have HKX := Lib.hid hkx
        have HBX := Lib.hid hbx
        clear hkx hbx
        go_simp
        go_at_call 66
        refine (carOutput_any k N b cb (m * 9) cs[m] (k.cosN (k.ohN l hd0) (cs.take m)) x A cap u d code wx hu hd (HCS.out _ (List.getElem_mem hlt)) (by have := HKX.out.below.size; omega) (HAR.out.below HBX.out) (Kind.Room.mono (Kind.Room.cos (cs.take m) (t := 19) (Kind.Room.mono R4.out (by rw [List.length_take]; omega))) (Nat.le_refl _)) (by have := (HCR.out m hlt).below HBX.out; rwa [if_neg (by omega)] at this) (fun j _ => HR2.out wx _ HKX.out) hcb hcN).mono ?_
        rintro e w3 ⟨hk3, ⟨ok, rfl, hA3, hc3⟩ | ⟨ok, rfl⟩⟩
        · exact hK _ ⟨HKX.out.trans (hk3.mono (fun p hp => Or.elim hp .inl (fun h => .inr (.inr h.1)))), hA3, ok, (HVR.out.below HBX.out).kept hk3 (ohV_plain _ _ _ _) (fun j _ hh => hh.elim hpb (fun h => hcp h.1.symm)), fun i h => by
            by_cases him : i = m
            · subst him
              rw [if_pos (by omega), Kind.coAt, List.getD_eq_getElem?_getD, List.getElem?_eq_getElem h]
              exact hc3
            · have h0 := ((HCR.out i h).below HBX.out).kept hk3 (coV_plain _) (fun j hj hh => hh.elim hcb (fun h => by
                have h1 : m * 9 ≤ i * 9 + j := h.2.1
                have h2 : i * 9 + j < m * 9 + 9 := h.2.2
                have h3 : j < 9 := hj
                omega))
              by_cases h1 : i < m
              · rw [if_pos h1] at h0; rw [if_pos (by omega)]; exact h0
              · rw [if_neg h1] at h0; rw [if_neg (by omega)]; exact h0⟩
        · exact ⟨rfl, ok, (HK0.out.trans HKX.out).trans (hk3.mono (fun p hp => Or.elim hp .inl (fun h => .inr (.inr h.1))))⟩
      · exact ⟨undef, rfl⟩
      refine Chain.walk_nil (fun w6 hx => ?_)
      obtain ⟨hk2, hx⟩ := hx
      replace hx : (k.At N w6 b (k.coN (k.cosN (k.ohN l hd0) (cs.take m)) cs[m]) ∧ k.coOk (k.cosN (k.ohN l hd0) (cs.take m)) cs[m] u d ∧ CellsAt w6 pb 0 (ohV (k.ohR l hd0) (some ⟨cb, 0, none⟩) cs.length cp) ∧ ∀ i (h : i < cs.length), CellsAt w6 cb (i * 9) (coV (if i < m + 1 then k.coAt (k.ohN l hd0) cs i else cs[i]))) := hx
      obtain ⟨hA3, hs3, hv3, hcc3⟩ := hx
      have HS6 := Lib.hid hs3
      have HA6 := Lib.hid hA3
      have V6 := Lib.hid hv3
      have C6 := Lib.hid hcc3
      have HK6 := Lib.hid hk2
      clear hA3 hs3 hv3 hcc3 hk2
      go_wp2_with fail
      go_roundw
      case rel =>
        refine ⟨m + 1, by omega, by go_num, HK6.out, ?_, V6.out, ?_, ?_⟩
        · rw [Kind.cosN_take k hlt]; exact HA6.out
        · intro i h hi
          by_cases him : i = m
          · subst him; exact HS6.out
          · exact HOR.out i h (by omega)
        · exact C6.out
      case measure => simp [intOf]; omega
    · obtain rfl : m = cs.length := by omega
      go_wp2_with fail
      go_end0
      refine ⟨HK0.out.trans HKR.out, .inl ⟨⟨⟨HS1.out, HS2.out, HS3.out, HS4.out⟩, fun i h => HOR.out i h h⟩, rfl, ?_, HVR.out, fun i h => ?_⟩⟩
      · have := HAR.out; rwa [List.take_length] at this
      · have := HCR.out i h; rwa [if_pos h] at this
end Go.Proofs.Ythbfpdkgbkpmiaa
