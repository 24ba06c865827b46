/- frame's inputs. No statement of the seat is proved here. -/
import Derived.Test.YthbfpdkgbkpmiaaCarIn
namespace Go.Proofs.Ythbfpdkgbkpmiaa
open Go.RowKit Frm

def inHeadV (pu pd : Nat) (kind car : Int) (A : Option Addr) (n cap : Nat) : List Value := [.int .u32 pu, .int .u32 pd, .int .i64 kind, .int .i64 car, .slice A n cap]
theorem inHeadV_plain (pu pd : Nat) (kind car : Int) (A : Option Addr) (n cap : Nat) : ∀ v ∈ inHeadV pu pd kind car A n cap, plainV v = true := by
  intro v hv
  simp only [inHeadV, List.mem_cons, List.not_mem_nil, or_false] at hv
  rcases hv with rfl | rfl | rfl | rfl | rfl <;> rfl

/-- The text behind some cars. -/
def Kind.carsN (k : Kind) : List UInt8 → List CarIn → List UInt8
  | l, [] => l
  | l, c :: cs => k.carsN (k.carN l c) cs
theorem Kind.carsN_snoc (k : Kind) : ∀ (cs : List CarIn) (l : List UInt8) (c : CarIn), k.carsN l (cs ++ [c]) = k.carN (k.carsN l cs) c
  | [], _, _ => rfl
  | a :: cs, l, c => by rw [List.cons_append, Kind.carsN, Kind.carsN_snoc k cs]; rfl
theorem Kind.carsN_take (k : Kind) {cs : List CarIn} {i : Nat} (h : i < cs.length) (l : List UInt8) : k.carsN l (cs.take (i + 1)) = k.carN (k.carsN l (cs.take i)) cs[i] := by
  rw [List.take_succ_eq_append_getElem h, Kind.carsN_snoc]
def Kind.headL1 (k : Kind) (l : List UInt8) (pu pd : Nat) : List UInt8 := k.next (k.next l pu 4) pd 4
def Kind.headL2 (k : Kind) (l : List UInt8) (pu pd : Nat) (kind car : Int) : List UInt8 := k.next (k.next (k.headL1 l pu pd) (m64 kind) 1) (m64 car) 1
def Kind.headOk1 (k : Kind) (l : List UInt8) (pu pd u d : Nat) : Prop := setB (k.num l pu 4) u = true ∧ setB (k.num (k.next l pu 4) pd 4) d = true
def Kind.headOk2 (k : Kind) (l : List UInt8) (kind car : Int) (n : Nat) : Prop := inB 0 8 (k.numI l kind 1) = true ∧ inB 0 (lastC (k.numI l kind 1) n) (k.numI (k.next l (m64 kind) 1) car 1) = true
/-- The car behind those before it. -/
def Kind.carAt (k : Kind) (l : List UInt8) (cs : List CarIn) (i : Nat) : CarIn := k.carR (k.carsN l (cs.take i)) (cs.getD i default)
theorem Kind.Room.mono {k : Kind} {l : List UInt8} {s t : Nat} (h : k.Room l t) (hs : s ≤ t) : k.Room l s := by
  obtain ⟨r, rfl⟩ : ∃ r, t = s + r := ⟨t - s, by omega⟩
  exact h.left
theorem Kind.Room.next {k : Kind} {l : List UInt8} {s t : Nat} (h : k.Room l (s + t)) (n : Nat) : k.Room (k.next l n s) t := h.right n
theorem Kind.Room.car {k : Kind} {l : List UInt8} {t : Nat} (h : k.Room l (19 + t)) (c : CarIn) : k.Room (k.carN l c) t := by
  have h1 : k.Room (k.next l c.floors 4) (1 + (14 + t)) := Kind.Room.right (s := 4) (by rw [show 4 + (1 + (14 + t)) = 19 + t from by omega]; exact h) _
  have h2 : k.Room (k.carL2 l c) (1 + (13 + t)) := Kind.Room.right (s := 1) (by rw [show 1 + (1 + (13 + t)) = 1 + (14 + t) from by omega]; exact h1) _
  have h3 : k.Room (k.carL3 l c) (1 + (12 + t)) := Kind.Room.right (s := 1) (by rw [show 1 + (1 + (12 + t)) = 1 + (13 + t) from by omega]; exact h2) _
  have h4 : k.Room (k.carL4 l c) (4 + (8 + t)) := Kind.Room.right (s := 1) (by rw [show 1 + (4 + (8 + t)) = 1 + (12 + t) from by omega]; exact h3) _
  have h5 : k.Room (k.carL5 l c) (8 + t) := Kind.Room.right (s := 4) h4 _
  exact Kind.Room.right (s := 8) h5 _
theorem Kind.Room.cars {k : Kind} : ∀ (cs : List CarIn) {l : List UInt8} {t : Nat}, k.Room l (19 * cs.length + t) → k.Room (k.carsN l cs) t
  | [], l, t, h => by
    show k.Room l t
    exact Kind.Room.mono h (by simp)
  | c :: cs, l, t, h => Kind.Room.cars cs (Kind.Room.car (t := 19 * cs.length + t) (by rw [show 19 + (19 * cs.length + t) = 19 * (c :: cs).length + t from by rw [List.length_cons]; omega]; exact h) c)
set_option maxRecDepth 100000 in
set_option maxHeartbeats 2000000 in
/-- Another number of cars is refused. -/
theorem inputs_no (k : Kind) (N b pb n cp : Nat) (A' : Option Addr) (l : List UInt8) (x : BldD) (A : Option Addr) (cap u d : Nat) (code : Int) (w : World) (hn : n ≠ x.cars.length) (hN : N ≤ w.heap.size)
    (hC : k.At N w b l) (hp : w.cell? ⟨pb, 4, none⟩ = some (.slice A' n cp)) (hpb : pb ≠ b) :
    Calls Try.prog 30 #[.agg (fieldsA (k.v b) x A cap u d code), .pointer (some ⟨pb, 0, none⟩)] w fun e w' => Kept N (fun p => p.block = b) w w' ∧ e = refusedP code := by
  have hd0 : (((n : Nat) : Int) == (x.cars.length : Nat)) = false := beq_eq_false_iff_ne.2 (by omega)
  obtain ⟨hbw, hNb⟩ := Kind.lt hC
  have hcv : plainV (k.v b) = true := by cases k <;> rfl
  have hk0 : Kept N (fun p => p.block = b) w (w.alloc (.cells (fieldsA (k.v b) x A cap u d code) 77)) := (Kept.refl _ _ _).alloc hN _
  have hbox := fun wx (h : Kept N (fun p => p.block = b) (w.alloc (.cells (fieldsA (k.v b) x A cap u d code) 77)) wx) => boxF (wx := wx) hcv (fun o => by
    intro hh
    exact absurd hh (by show ¬ w.heap.size = b; omega)) h
  have hA0 := hC.alloc (.cells (fieldsA (k.v b) x A cap u d code) 77)
  have HB := Lib.hid hbox
  have HK0 := Lib.hid hk0
  have HA0 := Lib.hid hA0
  have hz0 : (w.alloc (.cells (fieldsA (k.v b) x A cap u d code) 77)).heap.size = w.heap.size + 1 := by simp
  clear hbox hk0 hA0
  go_enter Try.func30, Try.ntmps30
  go_wp2_with fail
  generalize w.alloc (.cells (fieldsA (k.v b) x A cap u d code) 77) = W0 at *
  have q0 := HK0.out.cell _ _ hp rfl hpb
  have Q0 := Lib.hid q0
  clear hp q0
  refine Chain.chain (fun p wx => p = 0 ∧ Below W0.heap.size W0 wx) (fun e wx => e = Exit.panic [{ v := .iface 138 (.agg #[.int .i64 code]), recovered := false }] ∧ Below W0.heap.size W0 wx) [11] (by kernel_rfl) (by kernel_rfl) (fun e a' w' hdf he => ?_) ⟨rfl, (Below.refl _ _).drew⟩ ?_
  · obtain ⟨rfl, hx⟩ := he
    exact ⟨hdf, HK0.out.trans (Kept.of_below (N := N) hx (by omega) _), rfl⟩
  iterate 11
    (apply Chain.walk_quiet (by rfl) (by decide)
     (intro p wx _ _ hx K hK
      obtain ⟨c0, c1, c2, c3, c4, c5, c6, c7, c8, c9, c10, c11⟩ := HB.out wx (Kept.of_below (N := N) hx.2 (by omega) _)
      have cx := (hx.2.cell (World.block_lt_of_cell? W0 _ Q0.out)).trans Q0.out
      have HX := Lib.hid hx
      clear hx
      go_simp
      go_at_K
      exact hK _ HX.out)
     exact ⟨_, rfl⟩)
  apply Chain.walk_turn 0 (by rfl) (by rfl) (a1 := Act.put _ none undef)
  · intro wx hx K hK
    have HX := Lib.hid hx
    clear hx
    go_simp
    go_at_call 55
    refine (expect_no (k.v b) x A cap u d code _).mono ?_
    rintro e w3 ⟨rfl, hb3⟩
    exact ⟨rfl, by have h := HX.out.2.trans (hb3.mono HX.out.2.size); rw [hz0] at h; exact h⟩
  · exact ⟨undef, rfl⟩
  refine Chain.walk_nil (fun w2 hx => absurd hx.1 (by decide))

set_option maxRecDepth 100000 in
set_option maxHeartbeats 4000000 in
theorem inputs_any (k : Kind) (N b pb cb cp : Nat) (pu pd : Nat) (kind car : Int) (cs : List CarIn) (l : List UInt8) (x : BldD) (A : Option Addr) (cap u d : Nat) (code : Int) (w : World) (hu : u < 4294967296) (hd : d < 4294967296) (hF : 0 ≤ x.floors ∧ x.floors ≤ 1000) (hn : cs.length = x.cars.length) (hn8 : cs.length ≤ 1000) (hpu : pu < 4294967296) (hpd : pd < 4294967296) (hki : In64 kind) (hca : In64 car) (hcs : ∀ c ∈ cs, saneCar c) (hN : N ≤ w.heap.size)
    (hC : k.At N w b l) (hR : k.Room l (10 + 19 * cs.length)) (hp : CellsAt w pb 0 (inHeadV pu pd kind car (some ⟨cb, 0, none⟩) cs.length cp)) (hf : ∀ j, j < 4 → w.frozen? ⟨pb, j, none⟩ = false) (hpb : pb ≠ b) (hpN : N ≤ pb)
    (hv : ∀ i (h : i < cs.length), CellsAt w cb (i * 11) (carV cs[i])) (hvf : ∀ j, w.frozen? ⟨cb, j, none⟩ = false) (hcb : cb ≠ b) (hcp : cb ≠ pb) (hcN : N ≤ cb) (hcl : cb < w.heap.size) :
    Calls Try.prog 30 #[.agg (fieldsA (k.v b) x A cap u d code), .pointer (some ⟨pb, 0, none⟩)] w fun e w' => Kept N (fun p => p.block = b ∨ (p.block = pb ∧ p.off < 4) ∨ p.block = cb) w w' ∧
      (((k.headOk1 l pu pd u d ∧ k.headOk2 (k.headL1 l pu pd) kind car cs.length ∧ ∀ i (h : i < cs.length), k.carOk (k.carsN (k.headL2 l pu pd kind car) (cs.take i)) cs[i] (u ||| d) x.floors) ∧ e = .returned (.tuple #[]) ∧ k.At N w' b (k.carsN (k.headL2 l pu pd kind car) cs) ∧
          CellsAt w' pb 0 (inHeadV (k.num l pu 4) (k.num (k.next l pu 4) pd 4) (k.numI (k.headL1 l pu pd) kind 1) (k.numI (k.next (k.headL1 l pu pd) (m64 kind) 1) car 1) (some ⟨cb, 0, none⟩) cs.length cp) ∧
          ∀ i (h : i < cs.length), CellsAt w' cb (i * 11) (carV (k.carAt (k.headL2 l pu pd kind car) cs i))) ∨
       (¬ (k.headOk1 l pu pd u d ∧ k.headOk2 (k.headL1 l pu pd) kind car cs.length ∧ ∀ i (h : i < cs.length), k.carOk (k.carsN (k.headL2 l pu pd kind car) (cs.take i)) cs[i] (u ||| d) x.floors) ∧ e = refusedP code)) := by
  have hpw : pb < w.heap.size := World.block_lt_of_cell? w _ (hp 0 _ rfl)
  have hd0 : (((cs.length : Nat) : Int) == (x.cars.length : Nat)) = true := by rw [hn]; exact beq_self_eq_true _
  obtain ⟨hbw, hNb⟩ := Kind.lt hC
  have hcv : plainV (k.v b) = true := by cases k <;> rfl
  have hk0 : Kept N (fun p => p.block = b ∨ (p.block = pb ∧ p.off < 4) ∨ p.block = cb) w (w.alloc (.cells (fieldsA (k.v b) x A cap u d code) 77)) := (Kept.refl _ _ _).alloc hN _
  have hbox := fun wx (h : Kept N (fun p => p.block = b ∨ (p.block = pb ∧ p.off < 4) ∨ p.block = cb) (w.alloc (.cells (fieldsA (k.v b) x A cap u d code) 77)) wx) => boxF (wx := wx) hcv (fun o => by
    intro hh
    rcases hh with hh | hh | hh
    · exact absurd hh (by show ¬ w.heap.size = b; omega)
    · have := hh.1; simp at this; omega
    · exact absurd hh (by show ¬ w.heap.size = cb; omega)) h
  have hA0 := hC.alloc (.cells (fieldsA (k.v b) x A cap u d code) 77)
  have hk1 : Kept N (fun p => p.block = b) w (w.alloc (.cells (fieldsA (k.v b) x A cap u d code) 77)) := (Kept.refl _ _ _).alloc hN _
  have HK1 := Lib.hid hk1
  clear hk1
  have HB := Lib.hid hbox
  have HK0 := Lib.hid hk0
  have HA0 := Lib.hid hA0
  have hz0 : (w.alloc (.cells (fieldsA (k.v b) x A cap u d code) 77)).heap.size = w.heap.size + 1 := by simp
  clear hbox hk0 hA0
  go_enter Try.func30, Try.ntmps30
  go_wp2_with fail
  generalize w.alloc (.cells (fieldsA (k.v b) x A cap u d code) 77) = W0 at *
  have V0 := Lib.hid (hp.kept HK1.out (inHeadV_plain _ _ _ _ _ _ _) (fun _ _ => hpb))
  have C0 : Hid (∀ i (h : i < cs.length), CellsAt W0 cb (i * 11) (carV cs[i])) := fun i h => (hv i h).kept HK1.out (carV_plain _) (fun _ _ => hcb)
  have hr : ∀ wx j, Kept N (fun p => p.block = b ∨ (p.block = pb ∧ p.off < 4) ∨ p.block = cb) W0 wx → j < 4 → wx.frozen? ⟨pb, j, none⟩ = false := fun wx j h hj => ((HK0.out.trans h).froz _ hpw).trans (hf j hj)
  have hr2 : ∀ wx j, Kept N (fun p => p.block = b ∨ (p.block = pb ∧ p.off < 4) ∨ p.block = cb) W0 wx → wx.frozen? ⟨cb, j, none⟩ = false := fun wx j h => ((HK0.out.trans h).froz _ hcl).trans (hvf j)
  have HR := Lib.hid hr
  have HR2 := Lib.hid hr2
  have HCS := Lib.hid hcs
  have HN := Lib.hid hn
  clear hn
  clear hr hr2 hp hf hv hvf hcs
  refine Bag.region (fun wx => Kept N (fun p => p.block = b ∨ (p.block = pb ∧ p.off < 4) ∨ p.block = cb) W0 wx ∧ Below W0.heap.size W0 wx) (by kernel_rfl) (by kernel_rfl) ⟨(Kept.refl _ _ _).drew, (Below.refl _ _).drew⟩ ?_
  iterate 11
    (apply Bag.walk_yes (by rfl)
     (intro wx hx K hK
      obtain ⟨c0, c1, c2, c3, c4, c5, c6, c7, c8, c9, c10, c11⟩ := HB.out wx hx.1
      have cx := (V0.out.below hx.2) 4 _ rfl
      have HX := Lib.hid hx
      clear hx
      simp only [Nat.zero_add] at cx
      go_simp
      go_at_K
      exact hK _ HX.out)
     rfl)
  apply Bag.walk_yes (by rfl)
  · intro wx hx K hK
    have HX := Lib.hid hx
    clear hx
    go_simp
    go_at_call 55
    refine (expect_yes (k.v b) x A cap u d code _).mono ?_
    rintro e w3 ⟨rfl, hb3⟩
    exact hK _ ⟨HX.out.1.trans (Kept.of_below (N := N) hb3 (by have := HX.out.1.below.size; omega) _), HX.out.2.trans (hb3.mono HX.out.2.size)⟩
  · rfl
  refine Bag.walk_nil (fun w1 hx => ?_)
  obtain ⟨hk2, hb2⟩ := hx
  have V1 := Lib.hid (V0.out.below hb2)
  have C1 : Hid (∀ i (h : i < cs.length), CellsAt w1 cb (i * 11) (carV cs[i])) := fun i h => (C0.out i h).below hb2
  have HA1 := Lib.hid (HA0.out.below hb2)
  have HKA := Lib.hid hk2
  clear hk2 hb2
  go_wp2_with fail
  refine Chain.chain (fun p wx => Kept N (fun p => p.block = b ∨ (p.block = pb ∧ p.off < 4) ∨ p.block = cb) W0 wx ∧ (if p = 0 then Below w1.heap.size w1 wx else (k.At N wx b (k.headL1 l pu pd) ∧ k.headOk1 l pu pd u d ∧ CellsAt wx pb 0 (inHeadV (k.num l pu 4) (k.num (k.next l pu 4) pd 4) kind car (some ⟨cb, 0, none⟩) cs.length cp) ∧ ∀ i (h : i < cs.length), CellsAt wx cb (i * 11) (carV cs[i])))) (fun e wx => e = Exit.panic [{ v := .iface 138 (.agg #[.int .i64 code]), recovered := false }] ∧ ¬ k.headOk1 l pu pd u d ∧ Kept N (fun p => p.block = b ∨ (p.block = pb ∧ p.off < 4) ∨ p.block = cb) w wx) [4] (by kernel_rfl) (by kernel_rfl) (fun e a' w' hdf he => ?_) ⟨Kept.drew (HKA.out), (Below.refl _ _).drew⟩ ?_
  · obtain ⟨rfl, hx⟩ := he
    exact ⟨hdf, hx.2, .inr ⟨fun hh => hx.1 hh.1, rfl⟩⟩
  iterate 4
    (apply Chain.walk_quiet (by rfl) (by decide)
     (intro p wx _ _ hx K hK
      obtain ⟨c0, c1, c2, c3, c4, c5, c6, c7, c8, c9, c10, c11⟩ := HB.out wx hx.1
      have HX := Lib.hid hx
      clear hx
      go_simp
      go_at_K
      exact hK _ HX.out)
     exact ⟨_, rfl⟩)
  apply Chain.walk_turn 0 (by rfl) (by rfl)
  · intro wx hx K hK
    obtain ⟨hkx, hbx⟩ := hx
    replace hbx : Below w1.heap.size w1 wx := hbx
    have HKX := Lib.hid hkx
    have HBX := Lib.hid hbx
    clear hkx hbx
    go_simp
    go_at_call 56
    refine (calls_any k N b pb 0 pu pd l x A cap u d code wx hu hd hpu hpd (by have := HKX.out.below.size; omega) (HA1.out.below HBX.out) (Kind.Room.mono hR (by omega)) ((V1.out.below HBX.out) 0 _ rfl) ((V1.out.below HBX.out) 1 _ rfl) (HR.out wx 0 HKX.out (by omega)) (HR.out wx 1 HKX.out (by omega)) hpb hpN).mono ?_
    rintro e w3 ⟨hk3, ⟨ok, rfl, hA3, hc3⟩ | ⟨ok, rfl⟩⟩
    · exact hK _ ⟨HKX.out.trans (hk3.mono (fun p hp => by rcases hp with hp | rfl | rfl; exact .inl hp; exact .inr (.inl ⟨rfl, by show 0 < 4; omega⟩); exact .inr (.inl ⟨rfl, by show 1 < 4; omega⟩))), hA3, ok, (V1.out.below HBX.out |>.step hk3 (inHeadV_plain _ _ _ _ _ _ _) (fun j v hj => by
        have hno : ∀ j, 2 ≤ j → ¬ ((⟨pb, 0 + j, none⟩ : Addr).block = b ∨ (⟨pb, 0 + j, none⟩ : Addr) = ⟨pb, 0, none⟩ ∨ (⟨pb, 0 + j, none⟩ : Addr) = ⟨pb, 0 + 1, none⟩) := fun j hj hh => hh.elim hpb (fun h => h.elim (fun h => by injection h with _ h; omega) (fun h => by injection h with _ h; omega))
        match j, hj with
        | 0, hj => cases hj; exact .inl hc3.1
        | 1, hj => cases hj; exact .inl hc3.2
        | 2, hj => exact .inr ⟨hj, hno 2 (by omega)⟩
        | 3, hj => exact .inr ⟨hj, hno 3 (by omega)⟩
        | 4, hj => exact .inr ⟨hj, hno 4 (by omega)⟩
        | j + 5, hj => cases hj)), fun i h => (C1.out i h).below HBX.out |>.kept hk3 (carV_plain _) (fun j _ hh => hh.elim hcb (fun h => h.elim (fun h => by injection h with h; exact hcp h) (fun h => by injection h with h; exact hcp h)))⟩
    · exact ⟨rfl, ok, (HK0.out.trans HKX.out).trans (hk3.mono (fun p hp => by rcases hp with hp | rfl | rfl; exact .inl hp; exact .inr (.inl ⟨rfl, by show 0 < 4; omega⟩); exact .inr (.inl ⟨rfl, by show 1 < 4; omega⟩)))⟩
  · exact ⟨undef, rfl⟩
  refine Chain.walk_nil (fun w2 hx => ?_)
  obtain ⟨hk2, hx⟩ := hx
  replace hx : (k.At N w2 b (k.headL1 l pu pd) ∧ k.headOk1 l pu pd u d ∧ CellsAt w2 pb 0 (inHeadV (k.num l pu 4) (k.num (k.next l pu 4) pd 4) kind car (some ⟨cb, 0, none⟩) cs.length cp) ∧ ∀ i (h : i < cs.length), CellsAt w2 cb (i * 11) (carV cs[i])) := hx
  obtain ⟨hA3, hs3, hv3, hcc3⟩ := hx
  have HS1 := Lib.hid hs3
  have HA2 := Lib.hid hA3
  have V2 := Lib.hid hv3
  have C2 := Lib.hid hcc3
  have HKB := Lib.hid hk2
  clear hA3 hs3 hv3 hcc3 hk2
  go_wp2_with fail
  refine Chain.chain (fun p wx => Kept N (fun p => p.block = b ∨ (p.block = pb ∧ p.off < 4) ∨ p.block = cb) W0 wx ∧ (if p = 0 then Below w2.heap.size w2 wx else (k.At N wx b (k.headL2 l pu pd kind car) ∧ k.headOk2 (k.headL1 l pu pd) kind car cs.length ∧ CellsAt wx pb 0 (inHeadV (k.num l pu 4) (k.num (k.next l pu 4) pd 4) (k.numI (k.headL1 l pu pd) kind 1) (k.numI (k.next (k.headL1 l pu pd) (m64 kind) 1) car 1) (some ⟨cb, 0, none⟩) cs.length cp) ∧ ∀ i (h : i < cs.length), CellsAt wx cb (i * 11) (carV cs[i])))) (fun e wx => e = Exit.panic [{ v := .iface 138 (.agg #[.int .i64 code]), recovered := false }] ∧ ¬ k.headOk2 (k.headL1 l pu pd) kind car cs.length ∧ Kept N (fun p => p.block = b ∨ (p.block = pb ∧ p.off < 4) ∨ p.block = cb) w wx) [4] (by kernel_rfl) (by kernel_rfl) (fun e a' w' hdf he => ?_) ⟨Kept.drew (HKB.out), (Below.refl _ _).drew⟩ ?_
  · obtain ⟨rfl, hx⟩ := he
    exact ⟨hdf, hx.2, .inr ⟨fun hh => hx.1 hh.2.1, rfl⟩⟩
  iterate 4
    (apply Chain.walk_quiet (by rfl) (by decide)
     (intro p wx _ _ hx K hK
      obtain ⟨c0, c1, c2, c3, c4, c5, c6, c7, c8, c9, c10, c11⟩ := HB.out wx hx.1
      have HX := Lib.hid hx
      clear hx
      go_simp
      go_at_K
      exact hK _ HX.out)
     exact ⟨_, rfl⟩)
  apply Chain.walk_turn 0 (by rfl) (by rfl)
  · intro wx hx K hK
    obtain ⟨hkx, hbx⟩ := hx
    replace hbx : Below w2.heap.size w2 wx := hbx
    have HKX := Lib.hid hkx
    have HBX := Lib.hid hbx
    clear hkx hbx
    go_simp
    go_at_call 57
    refine (command_any k N b pb 2 kind car (k.headL1 l pu pd) x A cap u d code wx (by have := HN.out; omega) hki.1 hki.2 hca.1 hca.2 (by have := HKX.out.below.size; omega) (HA2.out.below HBX.out) (Kind.Room.mono (Kind.Room.right (s := 4) (t := 2 + 19 * cs.length) (Kind.Room.right (s := 4) (t := 4 + (2 + 19 * cs.length)) (by rw [show 4 + (4 + (2 + 19 * cs.length)) = 10 + 19 * cs.length from by omega]; exact hR) pu) pd) (by omega)) ((V2.out.below HBX.out) 2 _ rfl) ((V2.out.below HBX.out) 3 _ rfl) (HR.out wx 2 HKX.out (by omega)) (HR.out wx 3 HKX.out (by omega)) hpb hpN).mono ?_
    rintro e w3 ⟨hk3, ⟨ok, rfl, hA3, hc3⟩ | ⟨ok, rfl⟩⟩
    · exact hK _ ⟨HKX.out.trans (hk3.mono (fun p hp => by rcases hp with hp | rfl | rfl; exact .inl hp; exact .inr (.inl ⟨rfl, by show 2 < 4; omega⟩); exact .inr (.inl ⟨rfl, by show 3 < 4; omega⟩))), hA3, (by rw [HN.out]; exact ok), (V2.out.below HBX.out |>.step hk3 (inHeadV_plain _ _ _ _ _ _ _) (fun j v hj => by
        have hno : ∀ j, (j < 2 ∨ 4 ≤ j) → ¬ ((⟨pb, 0 + j, none⟩ : Addr).block = b ∨ (⟨pb, 0 + j, none⟩ : Addr) = ⟨pb, 2, none⟩ ∨ (⟨pb, 0 + j, none⟩ : Addr) = ⟨pb, 2 + 1, none⟩) := fun j hj hh => hh.elim hpb (fun h => h.elim (fun h => by injection h with _ h; omega) (fun h => by injection h with _ h; omega))
        match j, hj with
        | 0, hj => exact .inr ⟨hj, hno 0 (by omega)⟩
        | 1, hj => exact .inr ⟨hj, hno 1 (by omega)⟩
        | 2, hj => cases hj; exact .inl hc3.1
        | 3, hj => cases hj; exact .inl hc3.2
        | 4, hj => exact .inr ⟨hj, hno 4 (by omega)⟩
        | j + 5, hj => cases hj)), fun i h => (C2.out i h).below HBX.out |>.kept hk3 (carV_plain _) (fun j _ hh => hh.elim hcb (fun h => h.elim (fun h => by injection h with h; exact hcp h) (fun h => by injection h with h; exact hcp h)))⟩
    · exact ⟨rfl, (by rw [HN.out]; exact ok), (HK0.out.trans HKX.out).trans (hk3.mono (fun p hp => by rcases hp with hp | rfl | rfl; exact .inl hp; exact .inr (.inl ⟨rfl, by show 2 < 4; omega⟩); exact .inr (.inl ⟨rfl, by show 3 < 4; omega⟩)))⟩
  · exact ⟨undef, rfl⟩
  refine Chain.walk_nil (fun w5 hx => ?_)
  obtain ⟨hk2, hx⟩ := hx
  replace hx : (k.At N w5 b (k.headL2 l pu pd kind car) ∧ k.headOk2 (k.headL1 l pu pd) kind car cs.length ∧ CellsAt w5 pb 0 (inHeadV (k.num l pu 4) (k.num (k.next l pu 4) pd 4) (k.numI (k.headL1 l pu pd) kind 1) (k.numI (k.next (k.headL1 l pu pd) (m64 kind) 1) car 1) (some ⟨cb, 0, none⟩) cs.length cp) ∧ ∀ i (h : i < cs.length), CellsAt w5 cb (i * 11) (carV cs[i])) := hx
  obtain ⟨hA3, hs3, hv3, hcc3⟩ := hx
  have HS2 := Lib.hid hs3
  have HA3 := Lib.hid hA3
  have V3 := Lib.hid hv3
  have C3 := Lib.hid hcc3
  have HKC := Lib.hid hk2
  have c4 := hv3 4 _ rfl
  simp only [Nat.zero_add] at c4
  clear hA3 hs3 hv3 hcc3 hk2
  go_wp2_with fail
  go_loopw [32] (fun v wr => ∃ m : Nat, m ≤ cs.length ∧ v = .int .i64 m ∧ Kept N (fun p => p.block = b ∨ (p.block = pb ∧ p.off < 4) ∨ p.block = cb) W0 wr ∧ k.At N wr b (k.carsN (k.headL2 l pu pd kind car) (cs.take m)) ∧ CellsAt wr pb 0 (inHeadV (k.num l pu 4) (k.num (k.next l pu 4) pd 4) (k.numI (k.headL1 l pu pd) kind 1) (k.numI (k.next (k.headL1 l pu pd) (m64 kind) 1) car 1) (some ⟨cb, 0, none⟩) cs.length cp) ∧ (∀ i (h : i < cs.length), i < m → k.carOk (k.carsN (k.headL2 l pu pd kind car) (cs.take i)) cs[i] (u ||| d) x.floors) ∧ ∀ i (h : i < cs.length), CellsAt wr cb (i * 11) (carV (if i < m then k.carAt (k.headL2 l pu pd kind car) cs i else cs[i]))) (fun v _ => cs.length - (intOf v).toNat)
  case atStart => exact ⟨0, Nat.zero_le _, rfl, HKC.out, HA3.out, V3.out, fun _ _ h => absurd h (by omega), fun i h => by rw [if_neg (by omega)]; exact C3.out i h⟩
  case round =>
    obtain ⟨m, hm, rfl, hkr, har, hvr, hor, hcr⟩ := hrel
    have HKR := Lib.hid hkr
    have HAR := Lib.hid har
    have HVR := Lib.hid hvr
    have HOR := Lib.hid hor
    have HCR := Lib.hid hcr
    clear hkr har hvr hor hcr c4
    by_cases hlt : m < cs.length
    · go_wp2_with fail
      refine Chain.chain (fun p wx => Kept N (fun p => p.block = b ∨ (p.block = pb ∧ p.off < 4) ∨ p.block = cb) W0 wx ∧ (if p = 0 then Below wr.heap.size wr wx else (k.At N wx b (k.carN (k.carsN (k.headL2 l pu pd kind car) (cs.take m)) cs[m]) ∧ k.carOk (k.carsN (k.headL2 l pu pd kind car) (cs.take m)) cs[m] (u ||| d) x.floors ∧ CellsAt wx pb 0 (inHeadV (k.num l pu 4) (k.num (k.next l pu 4) pd 4) (k.numI (k.headL1 l pu pd) kind 1) (k.numI (k.next (k.headL1 l pu pd) (m64 kind) 1) car 1) (some ⟨cb, 0, none⟩) cs.length cp) ∧ ∀ i (h : i < cs.length), CellsAt wx cb (i * 11) (carV (if i < m + 1 then k.carAt (k.headL2 l pu pd kind car) cs i else cs[i]))))) (fun e wx => e = Exit.panic [{ v := .iface 138 (.agg #[.int .i64 code]), recovered := false }] ∧ ¬ k.carOk (k.carsN (k.headL2 l pu pd kind car) (cs.take m)) cs[m] (u ||| d) x.floors ∧ Kept N (fun p => p.block = b ∨ (p.block = pb ∧ p.off < 4) ∨ p.block = cb) w wx) [7] (by kernel_rfl) (by kernel_rfl) (fun e a' w' hdf he => ?_) ⟨Kept.drew (HKR.out), (Below.refl _ _).drew⟩ ?_
      · obtain ⟨rfl, hx⟩ := he
        exact ⟨hdf, hx.2, .inr ⟨fun hh => hx.1 (hh.2.2 m hlt), rfl⟩⟩
      iterate 7
        (apply Chain.walk_quiet (by rfl) (by decide)
         (intro p wx _ _ hx K hK
          obtain ⟨c0, c1, c2, c3, c4, c5, c6, c7, c8, c9, c10, c11⟩ := HB.out wx hx.1
          have cx : wx.cell? ⟨pb, 4, none⟩ = some (.slice (some ⟨cb, 0, none⟩) cs.length cp) := by
            have h5 : ¬ ((⟨pb, 4, none⟩ : Addr).block = b ∨ ((⟨pb, 4, none⟩ : Addr).block = pb ∧ (4 : Nat) < 4) ∨ (⟨pb, 4, none⟩ : Addr).block = cb) := fun hh => hh.elim hpb (fun h => h.elim (fun h => absurd h.2 (by omega)) (fun h => hcp h.symm))
            have h6 := V0.out 4 _ rfl
            simp only [Nat.zero_add] at h6
            exact hx.1.cell _ _ h6 rfl h5
          have HX := Lib.hid hx
          clear hx
          go_simp
          go_at_K
          exact hK _ HX.out)
         exact ⟨_, rfl⟩)
      apply Chain.walk_turn 0 (by rfl) (by rfl)
      · intro wx hx K hK
        obtain ⟨hkx, hbx⟩ := hx
        replace hbx : Below wr.heap.size wr wx := hbx
        have HKX := Lib.hid hkx
        have HBX := Lib.hid hbx
        clear hkx hbx
        go_simp
        go_at_call 58
        refine (carInput_any k N b cb (m * 11) cs[m] (k.carsN (k.headL2 l pu pd kind car) (cs.take m)) x A cap u d code wx hu hd hF (HCS.out _ (List.getElem_mem hlt)) (by have := HKX.out.below.size; omega) (HAR.out.below HBX.out) (Kind.Room.mono (Kind.Room.cars (cs.take m) (t := 19) (Kind.Room.mono (Kind.Room.right (s := 1) (t := 19 * cs.length) (Kind.Room.right (s := 1) (t := 1 + 19 * cs.length) (Kind.Room.right (s := 4) (t := 2 + 19 * cs.length) (Kind.Room.right (s := 4) (t := 4 + (2 + 19 * cs.length)) (by rw [show 4 + (4 + (2 + 19 * cs.length)) = 10 + 19 * cs.length from by omega]; exact hR) pu) pd |> fun h => by rw [show 1 + (1 + 19 * cs.length) = 2 + 19 * cs.length from by omega]; exact h) (m64 kind)) (m64 car)) (by rw [List.length_take]; omega))) (Nat.le_refl _)) (by have := (HCR.out m hlt).below HBX.out; rwa [if_neg (by omega)] at this) (fun j _ => HR2.out wx _ HKX.out) hcb hcN).mono ?_
        rintro e w3 ⟨hk3, ⟨ok, rfl, hA3, hc3⟩ | ⟨ok, rfl⟩⟩
        · exact hK _ ⟨HKX.out.trans (hk3.mono (fun p hp => Or.elim hp .inl (fun h => .inr (.inr h.1)))), hA3, ok, (HVR.out.below HBX.out).kept hk3 (inHeadV_plain _ _ _ _ _ _ _) (fun j _ hh => hh.elim hpb (fun h => hcp h.1.symm)), fun i h => by
            by_cases him : i = m
            · subst him
              rw [if_pos (by omega), Kind.carAt, List.getD_eq_getElem?_getD, List.getElem?_eq_getElem h]
              exact hc3
            · have h0 := ((HCR.out i h).below HBX.out).kept hk3 (carV_plain _) (fun j hj hh => hh.elim hcb (fun h => by
                have h1 : m * 11 ≤ i * 11 + j := h.2.1
                have h2 : i * 11 + j < m * 11 + 11 := h.2.2
                have h3 : j < 11 := hj
                omega))
              by_cases h1 : i < m
              · rw [if_pos h1] at h0; rw [if_pos (by omega)]; exact h0
              · rw [if_neg h1] at h0; rw [if_neg (by omega)]; exact h0⟩
        · exact ⟨rfl, ok, (HK0.out.trans HKX.out).trans (hk3.mono (fun p hp => Or.elim hp .inl (fun h => .inr (.inr h.1))))⟩
      · exact ⟨undef, rfl⟩
      refine Chain.walk_nil (fun w6 hx => ?_)
      obtain ⟨hk2, hx⟩ := hx
      replace hx : (k.At N w6 b (k.carN (k.carsN (k.headL2 l pu pd kind car) (cs.take m)) cs[m]) ∧ k.carOk (k.carsN (k.headL2 l pu pd kind car) (cs.take m)) cs[m] (u ||| d) x.floors ∧ CellsAt w6 pb 0 (inHeadV (k.num l pu 4) (k.num (k.next l pu 4) pd 4) (k.numI (k.headL1 l pu pd) kind 1) (k.numI (k.next (k.headL1 l pu pd) (m64 kind) 1) car 1) (some ⟨cb, 0, none⟩) cs.length cp) ∧ ∀ i (h : i < cs.length), CellsAt w6 cb (i * 11) (carV (if i < m + 1 then k.carAt (k.headL2 l pu pd kind car) cs i else cs[i]))) := hx
      obtain ⟨hA3, hs3, hv3, hcc3⟩ := hx
      have HS4 := Lib.hid hs3
      have HA4 := Lib.hid hA3
      have V4 := Lib.hid hv3
      have C4 := Lib.hid hcc3
      have HK4 := Lib.hid hk2
      clear hA3 hs3 hv3 hcc3 hk2
      go_wp2_with fail
      go_roundw
      case rel =>
        refine ⟨m + 1, by omega, by go_num, HK4.out, ?_, V4.out, ?_, ?_⟩
        · rw [Kind.carsN_take k hlt]; exact HA4.out
        · intro i h hi
          by_cases him : i = m
          · subst him; exact HS4.out
          · exact HOR.out i h (by omega)
        · exact C4.out
      case measure => simp [intOf]; omega
    · obtain rfl : m = cs.length := by omega
      go_wp2_with fail
      go_end0
      refine ⟨HK0.out.trans HKR.out, .inl ⟨⟨HS1.out, HS2.out, fun i h => HOR.out i h h⟩, rfl, ?_, HVR.out, fun i h => ?_⟩⟩
      · have := HAR.out; rwa [List.take_length] at this
      · have := HCR.out i h; rwa [if_pos h] at this
end Go.Proofs.Ythbfpdkgbkpmiaa
