/- frame's floors, command and status. No statement of the seat is proved here. -/
import Derived.Test.YthbfpdkgbkpmiaaG13
namespace Go.Proofs.Ythbfpdkgbkpmiaa
open Go.RowKit Frm

theorem u32_or_nat (a b : Nat) (ha : a < 4294967296) (hb : b < 4294967296) : bits .or .u32 (a : Int) (b : Int) = ((a ||| b : Nat) : Int) := by
  have hx : a ||| b < 2 ^ 32 := Nat.or_lt_two_pow ha hb
  show IntKind.u32.wrap ((BitVec.ofInt 32 (a : Int) ||| BitVec.ofInt 32 (b : Int)).toNat : Int) = _
  have e : ∀ c : Nat, c < 4294967296 → (BitVec.ofInt 32 (c : Int)).toNat = c := by
    intro c hc; rw [BitVec.ofInt_natCast, BitVec.toNat_ofNat]; exact Nat.mod_eq_of_lt hc
  rw [BitVec.toNat_or, e a ha, e b hb, IntKind.wrap_u32]
  omega

set_option maxRecDepth 100000 in
set_option maxHeartbeats 1000000 in
theorem floors_any (k : Kind) (N b : Nat) (px : Addr) (old : Nat) (l : List UInt8) (x : BldD) (A : Option Addr) (cap u d : Nat) (code : Int) (w : World) (hu : u < 4294967296) (hd : d < 4294967296) (hold : old < 4294967296) (hN : N ≤ w.heap.size)
    (hC : k.At N w b l) (hR : k.Room l 4) (hp : w.cell? px = some (.int .u32 old)) (hpf : w.frozen? px = false) (hpb : px.block ≠ b) (hpN : N ≤ px.block) :
    Calls Try.prog 78 #[.agg (fieldsA (k.v b) x A cap u d code), .pointer (some px)] w fun e w' => Kept N (fun p => p.block = b ∨ p = px) w w' ∧
      ((setB (k.num l old 4) (u ||| d) = true ∧ e = .returned (.tuple #[]) ∧ k.At N w' b (k.next l old 4) ∧ w'.cell? px = some (.int .u32 (k.num l old 4 : Nat))) ∨ (setB (k.num l old 4) (u ||| d) = false ∧ e = refusedP code)) := by
  have hpw := World.block_lt_of_cell? w px hp
  have hor := u32_or_nat u d hu hd
  have hou : u ||| d < 4294967296 := Nat.or_lt_two_pow (n := 32) hu hd
  have hk0 : Kept N (fun p => p.block = b) w (w.alloc (.cells (fieldsA (k.v b) x A cap u d code) 77)) := (Kept.refl _ _ _).alloc hN _
  have HQ0 := Lib.hid (hk0.cell _ _ hp rfl hpb)
  have HF0 := Lib.hid ((hk0.froz _ hpw).trans hpf)
  have HA0 := Lib.hid (hC.alloc (.cells (fieldsA (k.v b) x A cap u d code) 77))
  have HK0 := Lib.hid (hk0.mono (S' := fun p => p.block = b ∨ p = px) (fun p hp => .inl hp))
  clear hk0 hp hpf
  unfold fieldsA
  go_enter Try.func78, Try.ntmps78
  go_wp2_with fail
  refine (set_any k N b px (u ||| d) old l x A cap u d code _ hou hold (by simp; omega) HA0.out hR HQ0.out HF0.out hpb hpN).mono ?_
  rintro e w3 ⟨hk3, ⟨ok, rfl, hA3, hc3⟩ | ⟨ok, rfl⟩⟩
  · have HK3 := Lib.hid hk3
    have HA3 := Lib.hid hA3
    have HC3 := Lib.hid hc3
    have HOK := Lib.hid ok
    clear hk3 hA3 hc3 ok
    go_wp2_with fail
    go_end0
    exact ⟨HK0.out.trans HK3.out, .inl ⟨HOK.out, rfl, HA3.out, HC3.out⟩⟩
  · exact ⟨rfl, HK0.out.trans hk3, .inr ⟨ok, rfl⟩⟩

/-- The highest number of a car that a command may name. -/
def lastC (kind : Int) (n : Nat) : Int := if kind = 0 then 0 else (n : Int) - 1

set_option maxRecDepth 100000 in
set_option maxHeartbeats 2000000 in
theorem command_any (k : Kind) (N b pb po : Nat) (a0 a1 : Int) (l : List UInt8) (x : BldD) (A : Option Addr) (cap u d : Nat) (code : Int) (w : World) (hx : x.cars.length ≤ 1000) (h0 : -9223372036854775808 ≤ a0) (h0' : a0 ≤ 9223372036854775807) (h1 : -9223372036854775808 ≤ a1) (h1' : a1 ≤ 9223372036854775807) (hN : N ≤ w.heap.size)
    (hC : k.At N w b l) (hR : k.Room l 2) (hp0 : w.cell? ⟨pb, po, none⟩ = some (.int .i64 a0)) (hp1 : w.cell? ⟨pb, po + 1, none⟩ = some (.int .i64 a1)) (hf0 : w.frozen? ⟨pb, po, none⟩ = false) (hf1 : w.frozen? ⟨pb, po + 1, none⟩ = false) (hpb : pb ≠ b) (hpN : N ≤ pb) :
    Calls Try.prog 57 #[.agg (fieldsA (k.v b) x A cap u d code), .pointer (some ⟨pb, po, none⟩)] w fun e w' => Kept N (fun p => p.block = b ∨ p = ⟨pb, po, none⟩ ∨ p = ⟨pb, po + 1, none⟩) w w' ∧
      (((inB 0 8 (k.numI l a0 1) = true ∧ inB 0 (lastC (k.numI l a0 1) x.cars.length) (k.numI (k.next l (m64 a0) 1) a1 1) = true) ∧ e = .returned (.tuple #[]) ∧ k.At N w' b (k.next (k.next l (m64 a0) 1) (m64 a1) 1) ∧ w'.cell? ⟨pb, po, none⟩ = some (.int .i64 (k.numI l a0 1)) ∧ w'.cell? ⟨pb, po + 1, none⟩ = some (.int .i64 (k.numI (k.next l (m64 a0) 1) a1 1))) ∨
       (¬ (inB 0 8 (k.numI l a0 1) = true ∧ inB 0 (lastC (k.numI l a0 1) x.cars.length) (k.numI (k.next l (m64 a0) 1) a1 1) = true) ∧ e = refusedP code)) := by
  have hpw := World.block_lt_of_cell? w _ hp0
  replace hpw : pb < w.heap.size := hpw
  obtain ⟨hbw, hNb⟩ := Kind.lt hC
  have hcv : plainV (k.v b) = true := by cases k <;> rfl
  have hk0 : Kept N (fun p => p.block = b ∨ p = ⟨pb, po, none⟩ ∨ p = ⟨pb, po + 1, none⟩) w (w.alloc (.cells (fieldsA (k.v b) x A cap u d code) 77)) := (Kept.refl _ _ _).alloc hN _
  have hbox := fun wx (h : Kept N (fun p => p.block = b ∨ p = ⟨pb, po, none⟩ ∨ p = ⟨pb, po + 1, none⟩) (w.alloc (.cells (fieldsA (k.v b) x A cap u d code) 77)) wx) => boxF (wx := wx) hcv (fun o => by
    intro hh
    rcases hh with hh | hh | hh
    · exact absurd hh (by show ¬ w.heap.size = b; omega)
    · injection hh with hh; omega
    · injection hh with hh; omega) h
  have hA0 := hC.alloc (.cells (fieldsA (k.v b) x A cap u d code) 77)
  have hk1 : Kept N (fun p => p.block = b) w (w.alloc (.cells (fieldsA (k.v b) x A cap u d code) 77)) := (Kept.refl _ _ _).alloc hN _
  have HK1 := Lib.hid hk1
  clear hk1
  have HB := Lib.hid hbox
  have HK0 := Lib.hid hk0
  have HA0 := Lib.hid hA0
  have hz0 : (w.alloc (.cells (fieldsA (k.v b) x A cap u d code) 77)).heap.size = w.heap.size + 1 := by simp
  clear hbox hk0 hA0
  go_enter Try.func57, Try.ntmps57
  go_wp2_with fail
  generalize w.alloc (.cells (fieldsA (k.v b) x A cap u d code) 77) = W0 at *
  have q0 : W0.cell? ⟨pb, po, none⟩ = some (.int .i64 a0) := HK1.out.cell _ _ hp0 rfl (by show ¬ pb = b; omega)
  have q1 : W0.cell? ⟨pb, po + 1, none⟩ = some (.int .i64 a1) := HK1.out.cell _ _ hp1 rfl (by show ¬ pb = b; omega)
  have r0 : ∀ wx, Kept N (fun p => p.block = b ∨ p = ⟨pb, po, none⟩ ∨ p = ⟨pb, po + 1, none⟩) W0 wx → wx.frozen? ⟨pb, po, none⟩ = false := fun wx h => ((HK0.out.trans h).froz _ hpw).trans hf0
  have r1 : ∀ wx, Kept N (fun p => p.block = b ∨ p = ⟨pb, po, none⟩ ∨ p = ⟨pb, po + 1, none⟩) W0 wx → wx.frozen? ⟨pb, po + 1, none⟩ = false := fun wx h => ((HK0.out.trans h).froz _ hpw).trans hf1
  have R0 := Lib.hid r0
  have R1 := Lib.hid r1
  have Q0 := Lib.hid q0
  have Q1 := Lib.hid q1
  clear r0 r1 q0 q1 hp0 hp1 hf0 hf1
  refine Chain.chain (fun p wx => Kept N (fun p => p.block = b ∨ p = ⟨pb, po, none⟩ ∨ p = ⟨pb, po + 1, none⟩) W0 wx ∧ (if p = 0 then Below W0.heap.size W0 wx else (k.At N wx b (k.next l (m64 a0) 1) ∧ inB 0 8 (k.numI l a0 1) = true ∧ wx.cell? ⟨pb, po, none⟩ = some (.int .i64 (k.numI l a0 1)) ∧ wx.cell? ⟨pb, po + 1, none⟩ = some (.int .i64 a1)))) (fun e wx => e = Exit.panic [{ v := .iface 138 (.agg #[.int .i64 code]), recovered := false }] ∧ inB 0 8 (k.numI l a0 1) = false ∧ Kept N (fun p => p.block = b ∨ p = ⟨pb, po, none⟩ ∨ p = ⟨pb, po + 1, none⟩) w wx) [4] (by kernel_rfl) (by kernel_rfl) (fun e a' w' hdf he => ?_) ⟨Kept.drew (Kept.refl _ _ _), (Below.refl _ _).drew⟩ ?_
  · obtain ⟨rfl, hx⟩ := he
    exact ⟨hdf, hx.2, .inr ⟨fun hh => by rw [hx.1] at hh; exact absurd hh.1 (by decide), rfl⟩⟩
  iterate 4
    (apply Chain.walk_quiet (by rfl) (by decide)
     (intro p wx _ _ hx K hK
      obtain ⟨c0, c1, c2, c3, c4, c5, c6, c7, c8, c9, c10, c11⟩ := HB.out wx hx.1
      have HX := Lib.hid hx
      clear hx
      go_simp
      go_at_K
      exact hK _ HX.out)
     exact ⟨_, rfl⟩)
  apply Chain.walk_turn 0 (by rfl) (by rfl)
  · intro wx hx K hK
    obtain ⟨hkx, hbx⟩ := hx
    replace hbx : Below W0.heap.size W0 wx := hbx
    have HKX := Lib.hid hkx
    have HBX := Lib.hid hbx
    clear hkx hbx
    go_simp
    go_at_call 77
    refine (number_any k N b ⟨pb, po, none⟩ a0 0 8 1 l x A cap u d code wx (by omega) h0 h0' (by have := HKX.out.below.size; omega) (HA0.out.below HBX.out) (Kind.Room.left (s := 1) (t := 1) hR) ((HBX.out.cell (World.block_lt_of_cell? W0 _ Q0.out)).trans Q0.out) (R0.out wx HKX.out) hpb hpN).mono ?_
    rintro e w3 ⟨hk3, ⟨ok, rfl, hA3, hc3⟩ | ⟨ok, rfl⟩⟩
    · exact hK _ ⟨HKX.out.trans (hk3.mono (fun p hp => Or.elim hp .inl (fun h => .inr (.inl h)))), hA3, ok, hc3, hk3.cell _ _ ((HBX.out.cell (World.block_lt_of_cell? W0 _ Q1.out)).trans Q1.out) rfl (fun hh => Or.elim hh hpb (fun h => by injection h with _ h; omega))⟩
    · exact ⟨rfl, ok, (HK0.out.trans HKX.out).trans (hk3.mono (fun p hp => Or.elim hp .inl (fun h => .inr (.inl h))))⟩
  · exact ⟨undef, rfl⟩
  refine Chain.walk_nil (fun w2 hx => ?_)
  obtain ⟨hk2, hx⟩ := hx
  replace hx : (k.At N w2 b (k.next l (m64 a0) 1) ∧ inB 0 8 (k.numI l a0 1) = true ∧ w2.cell? ⟨pb, po, none⟩ = some (.int .i64 (k.numI l a0 1)) ∧ w2.cell? ⟨pb, po + 1, none⟩ = some (.int .i64 a1)) := hx
  obtain ⟨hA2, hs2, hc2, hd2⟩ := hx
  have HA2 := Lib.hid hA2
  have HS2 := Lib.hid hs2
  have HD2 := Lib.hid hd2
  have HC2 := Lib.hid hc2
  have HK2 := Lib.hid hk2
  obtain ⟨c0, c1, c2, c3, c4, c5, c6, c7, c8, c9, c10, c11⟩ := HB.out w2 hk2
  clear hA2 hs2 hd2 hk2
  have hlw : IntKind.i64.wrap ((x.cars.length : Int) - 1) = (x.cars.length : Int) - 1 := IntWalk.i64_in _ (by omega)
  generalize hq : k.numI l a0 1 = q at *
  have HQ := Lib.hid hq
  clear hq
  rcases Bool.eq_false_or_eq_true (q == 0) with hz | hz
  · have hlast : lastC q x.cars.length = 0 := if_pos (by simpa using hz)
    have HLAST := Lib.hid hlast
    clear hlast
    go_wp2_with fail
    clear c0 c1 c2 c3 c4 c5 c6 c7 c8 c9 c10 c11
    refine Chain.chain (fun p wx => Kept N (fun p => p.block = b ∨ p = ⟨pb, po, none⟩ ∨ p = ⟨pb, po + 1, none⟩) W0 wx ∧ (if p = 0 then Below w2.heap.size w2 wx else (k.At N wx b (k.next (k.next l (m64 a0) 1) (m64 a1) 1) ∧ inB 0 (0) (k.numI (k.next l (m64 a0) 1) a1 1) = true ∧ wx.cell? ⟨pb, po, none⟩ = some (.int .i64 q) ∧ wx.cell? ⟨pb, po + 1, none⟩ = some (.int .i64 (k.numI (k.next l (m64 a0) 1) a1 1))))) (fun e wx => e = Exit.panic [{ v := .iface 138 (.agg #[.int .i64 code]), recovered := false }] ∧ inB 0 (0) (k.numI (k.next l (m64 a0) 1) a1 1) = false ∧ Kept N (fun p => p.block = b ∨ p = ⟨pb, po, none⟩ ∨ p = ⟨pb, po + 1, none⟩) w wx) [5] (by kernel_rfl) (by kernel_rfl) (fun e a' w' hdf he => ?_) ⟨Kept.drew (HK2.out), (Below.refl _ _).drew⟩ ?_
    · obtain ⟨rfl, hx⟩ := he
      exact ⟨hdf, hx.2, .inr ⟨fun hh => by have h2 := hh.2; rw [HQ.out, HLAST.out, hx.1] at h2; exact absurd h2 (by decide), rfl⟩⟩
    iterate 5
      (apply Chain.walk_quiet (by rfl) (by decide)
       (intro p wx _ _ hx K hK
        obtain ⟨c0, c1, c2, c3, c4, c5, c6, c7, c8, c9, c10, c11⟩ := HB.out wx hx.1
        have HX := Lib.hid hx
        clear hx
        go_simp
        go_at_K
        exact hK _ HX.out)
       exact ⟨_, rfl⟩)
    apply Chain.walk_turn 0 (by rfl) (by rfl)
    · intro wx hx K hK
      obtain ⟨hkx, hbx⟩ := hx
      replace hbx : Below w2.heap.size w2 wx := hbx
      have HKX := Lib.hid hkx
      have HBX := Lib.hid hbx
      clear hkx hbx
      go_simp
      go_at_call 77
      refine (number_any k N b ⟨pb, po + 1, none⟩ a1 0 (0) 1 (k.next l (m64 a0) 1) x A cap u d code wx (by omega) h1 h1' (by have := HKX.out.below.size; omega) (HA2.out.below HBX.out) (Kind.Room.right (s := 1) (t := 1) hR (m64 a0)) ((HBX.out.cell (World.block_lt_of_cell? w2 _ HD2.out)).trans HD2.out) (R1.out wx HKX.out) hpb hpN).mono ?_
      rintro e w3 ⟨hk3, ⟨ok, rfl, hA3, hc3⟩ | ⟨ok, rfl⟩⟩
      · exact hK _ ⟨HKX.out.trans (hk3.mono (fun p hp => Or.elim hp .inl (fun h => .inr (.inr h)))), hA3, ok, hk3.cell _ _ ((HBX.out.cell (World.block_lt_of_cell? w2 _ HC2.out)).trans HC2.out) rfl (fun hh => Or.elim hh hpb (fun h => by injection h with _ h; omega)), hc3⟩
      · exact ⟨rfl, ok, (HK0.out.trans HKX.out).trans (hk3.mono (fun p hp => Or.elim hp .inl (fun h => .inr (.inr h))))⟩
    · exact ⟨undef, rfl⟩
    refine Chain.walk_nil (fun w4 hx => ?_)
    obtain ⟨hk2, hx⟩ := hx
    replace hx : (k.At N w4 b (k.next (k.next l (m64 a0) 1) (m64 a1) 1) ∧ inB 0 (0) (k.numI (k.next l (m64 a0) 1) a1 1) = true ∧ w4.cell? ⟨pb, po, none⟩ = some (.int .i64 q) ∧ w4.cell? ⟨pb, po + 1, none⟩ = some (.int .i64 (k.numI (k.next l (m64 a0) 1) a1 1))) := hx
    obtain ⟨hA3, hs3, hc3, hd3⟩ := hx
    have HA3 := Lib.hid hA3
    have HS3 := Lib.hid hs3
    have HC3 := Lib.hid hc3
    have HD3 := Lib.hid hd3
    have HK3 := Lib.hid hk2
    clear hA3 hs3 hc3 hd3 hk2 hc2
    go_wp2_with fail
    go_end0
    rw [HQ.out, HLAST.out]
    exact ⟨HK0.out.trans HK3.out, .inl ⟨⟨HS2.out, HS3.out⟩, rfl, HA3.out, HC3.out, HD3.out⟩⟩
  · have hlast : lastC q x.cars.length = (x.cars.length : Int) - 1 := if_neg (by simpa using hz)
    have HLAST := Lib.hid hlast
    clear hlast
    go_wp2_with fail
    clear c0 c1 c2 c3 c4 c5 c6 c7 c8 c9 c10 c11
    refine Chain.chain (fun p wx => Kept N (fun p => p.block = b ∨ p = ⟨pb, po, none⟩ ∨ p = ⟨pb, po + 1, none⟩) W0 wx ∧ (if p = 0 then Below w2.heap.size w2 wx else (k.At N wx b (k.next (k.next l (m64 a0) 1) (m64 a1) 1) ∧ inB 0 ((x.cars.length : Int) - 1) (k.numI (k.next l (m64 a0) 1) a1 1) = true ∧ wx.cell? ⟨pb, po, none⟩ = some (.int .i64 q) ∧ wx.cell? ⟨pb, po + 1, none⟩ = some (.int .i64 (k.numI (k.next l (m64 a0) 1) a1 1))))) (fun e wx => e = Exit.panic [{ v := .iface 138 (.agg #[.int .i64 code]), recovered := false }] ∧ inB 0 ((x.cars.length : Int) - 1) (k.numI (k.next l (m64 a0) 1) a1 1) = false ∧ Kept N (fun p => p.block = b ∨ p = ⟨pb, po, none⟩ ∨ p = ⟨pb, po + 1, none⟩) w wx) [5] (by kernel_rfl) (by kernel_rfl) (fun e a' w' hdf he => ?_) ⟨Kept.drew (HK2.out), (Below.refl _ _).drew⟩ ?_
    · obtain ⟨rfl, hx⟩ := he
      exact ⟨hdf, hx.2, .inr ⟨fun hh => by have h2 := hh.2; rw [HQ.out, HLAST.out, hx.1] at h2; exact absurd h2 (by decide), rfl⟩⟩
    iterate 5
      (apply Chain.walk_quiet (by rfl) (by decide)
       (intro p wx _ _ hx K hK
        obtain ⟨c0, c1, c2, c3, c4, c5, c6, c7, c8, c9, c10, c11⟩ := HB.out wx hx.1
        have HX := Lib.hid hx
        clear hx
        go_simp
        go_at_K
        exact hK _ HX.out)
       exact ⟨_, rfl⟩)
    apply Chain.walk_turn 0 (by rfl) (by rfl)
    · intro wx hx K hK
      obtain ⟨hkx, hbx⟩ := hx
      replace hbx : Below w2.heap.size w2 wx := hbx
      have HKX := Lib.hid hkx
      have HBX := Lib.hid hbx
      clear hkx hbx
      go_simp
      go_at_call 77
      refine (number_any k N b ⟨pb, po + 1, none⟩ a1 0 ((x.cars.length : Int) - 1) 1 (k.next l (m64 a0) 1) x A cap u d code wx (by omega) h1 h1' (by have := HKX.out.below.size; omega) (HA2.out.below HBX.out) (Kind.Room.right (s := 1) (t := 1) hR (m64 a0)) ((HBX.out.cell (World.block_lt_of_cell? w2 _ HD2.out)).trans HD2.out) (R1.out wx HKX.out) hpb hpN).mono ?_
      rintro e w3 ⟨hk3, ⟨ok, rfl, hA3, hc3⟩ | ⟨ok, rfl⟩⟩
      · exact hK _ ⟨HKX.out.trans (hk3.mono (fun p hp => Or.elim hp .inl (fun h => .inr (.inr h)))), hA3, ok, hk3.cell _ _ ((HBX.out.cell (World.block_lt_of_cell? w2 _ HC2.out)).trans HC2.out) rfl (fun hh => Or.elim hh hpb (fun h => by injection h with _ h; omega)), hc3⟩
      · exact ⟨rfl, ok, (HK0.out.trans HKX.out).trans (hk3.mono (fun p hp => Or.elim hp .inl (fun h => .inr (.inr h))))⟩
    · exact ⟨undef, rfl⟩
    refine Chain.walk_nil (fun w4 hx => ?_)
    obtain ⟨hk2, hx⟩ := hx
    replace hx : (k.At N w4 b (k.next (k.next l (m64 a0) 1) (m64 a1) 1) ∧ inB 0 ((x.cars.length : Int) - 1) (k.numI (k.next l (m64 a0) 1) a1 1) = true ∧ w4.cell? ⟨pb, po, none⟩ = some (.int .i64 q) ∧ w4.cell? ⟨pb, po + 1, none⟩ = some (.int .i64 (k.numI (k.next l (m64 a0) 1) a1 1))) := hx
    obtain ⟨hA3, hs3, hc3, hd3⟩ := hx
    have HA3 := Lib.hid hA3
    have HS3 := Lib.hid hs3
    have HC3 := Lib.hid hc3
    have HD3 := Lib.hid hd3
    have HK3 := Lib.hid hk2
    clear hA3 hs3 hc3 hd3 hk2 hc2
    go_wp2_with fail
    go_end0
    rw [HQ.out, HLAST.out]
    exact ⟨HK0.out.trans HK3.out, .inl ⟨⟨HS2.out, HS3.out⟩, rfl, HA3.out, HC3.out, HD3.out⟩⟩
end Go.Proofs.Ythbfpdkgbkpmiaa
