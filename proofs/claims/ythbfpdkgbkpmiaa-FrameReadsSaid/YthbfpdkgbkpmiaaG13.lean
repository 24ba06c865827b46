/- What the texts behind this one rest on: several texts in one. No statement of the seat is proved here. -/
import Derived.Test.YthbfpdkgbkpmiaaG12
namespace Go.Proofs.Ythbfpdkgbkpmiaa
section
open Go.RowKit Frm

def inB (lo hi n : Int) : Bool := decide (lo ≤ n) && decide (n ≤ hi)
/-- The number that a carrier gives. -/
def Kind.numI : Kind → List UInt8 → Int → Nat → Int
  | .wr, _, n, _ => n
  | .rd, l, _, size => (valL (l.take size) : Nat)
def m64 (n : Int) : Nat := (n % 18446744073709551616).toNat
theorem m64_wrap (n : Int) : IntKind.u64.wrap n = ((m64 n : Nat) : Int) := by rw [IntKind.wrap_u64]; unfold m64; omega
theorem m64_id {n : Int} (h : 0 ≤ n) (h' : n < 18446744073709551616) : m64 n = n.toNat := by unfold m64; omega
theorem numI_wrap (k : Kind) (l : List UInt8) (n : Int) (size : Nat) (hs : size ≤ 2) (h1 : -9223372036854775808 ≤ n) (h2 : n ≤ 9223372036854775807) : IntKind.i64.wrap ((k.num l (m64 n) size : Nat) : Int) = k.numI l n size := by
  cases k
  · show IntKind.i64.wrap ((m64 n : Nat) : Int) = n
    rw [IntKind.wrap_i64]; unfold m64; omega
  · show IntKind.i64.wrap ((valL (l.take size) : Nat) : Int) = ((valL (l.take size) : Nat) : Int)
    have h := valL_lt (l.take size)
    have h3 : (256 : Nat) ^ (l.take size).length ≤ 256 ^ 2 := Nat.pow_le_pow_right (by omega) (by rw [List.length_take]; omega)
    rw [IntKind.wrap_i64]; omega

set_option maxRecDepth 100000 in
set_option maxHeartbeats 1000000 in
theorem number_any (k : Kind) (N b : Nat) (px : Addr) (old lo hi : Int) (size : Nat) (l : List UInt8) (x : BldD) (A : Option Addr) (cap u d : Nat) (code : Int) (w : World) (hsize : size ≤ 2) (ho1 : -9223372036854775808 ≤ old) (ho2 : old ≤ 9223372036854775807) (hN : N ≤ w.heap.size)
    (hC : k.At N w b l) (hR : k.Room l size) (hp : w.cell? px = some (.int .i64 old)) (hpf : w.frozen? px = false) (hpb : px.block ≠ b) (hpN : N ≤ px.block) :
    Calls Try.prog 77 #[.agg (fieldsA (k.v b) x A cap u d code), .pointer (some px), .int .i64 size, .int .i64 lo, .int .i64 hi] w fun e w' => Kept N (fun p => p.block = b ∨ p = px) w w' ∧
      ((inB lo hi (k.numI l old size) = true ∧ e = .returned (.tuple #[]) ∧ k.At N w' b (k.next l (m64 old) size) ∧ w'.cell? px = some (.int .i64 (k.numI l old size))) ∨ (inB lo hi (k.numI l old size) = false ∧ e = refusedP code)) := by
  obtain ⟨hbw, hNb⟩ := Kind.lt hC
  have hpw := World.block_lt_of_cell? w px hp
  have hcv : plainV (k.v b) = true := by cases k <;> rfl
  have hk0 : Kept N (fun p => p.block = b) w (w.alloc (.cells (fieldsA (k.v b) x A cap u d code) 77)) := (Kept.refl _ _ _).alloc hN _
  have hbox := fun wx (h : Kept N (fun p => p.block = b) (w.alloc (.cells (fieldsA (k.v b) x A cap u d code) 77)) wx) => boxF (wx := wx) hcv (fun o => by show ¬ w.heap.size = b; omega) h
  have hpx := fun wx (h : Kept N (fun p => p.block = b) (w.alloc (.cells (fieldsA (k.v b) x A cap u d code) 77)) wx) => (hk0.trans h).cell px _ hp rfl hpb
  have hwo := m64_wrap old
  have hws := numI_wrap k l old size hsize ho1 ho2
  have HB := Lib.hid hbox
  have HX := Lib.hid hpx
  have HK0 := Lib.hid hk0
  clear hbox hpx hk0
  go_enter Try.func77, Try.ntmps77
  go_wp2_with fail
  cases k
  · refine Chain.chain (fun p wx => Kept N (fun p => p.block = b) (w.alloc (.cells (fieldsA (Kind.v .wr b) x A cap u d code) 77)) wx ∧ Kind.At .wr N wx b (if p = 0 then l else Kind.next .wr l (m64 old) size)) (fun _ _ => False) [9] (by kernel_rfl) (by kernel_rfl) (fun _ _ _ _ h => h.elim) ⟨(Kept.refl _ _ _).drew, (hC.alloc _).drew⟩ ?_
    iterate 9
      (apply Chain.walk_quiet (by rfl) (by decide)
       (intro p wx _ _ hx K hK
        obtain ⟨c0, -⟩ := HB.out wx hx.1
        have cx := HX.out wx hx.1
        simp only [Kind.v] at c0
        go_simp
        go_at_K
        exact hK _ hx)
       exact ⟨_, rfl⟩)
    apply Chain.walk_turn 0 (by rfl) (by rfl)
    · intro wx hx K hK
      have hm := meth_wr b wx
      go_simp
      go_at_call 101
      refine (carry_wr N b (m64 old) size l wx (by omega) (by have := hx.1.below.size; simp at this; omega) hR hx.2).mono ?_
      rintro e w1 ⟨rfl, hA1, hK1⟩
      exact hK w1 ⟨hx.1.trans hK1, hA1⟩
    · exact ⟨_, rfl⟩
    iterate 2
      (apply Chain.walk_quiet (by rfl) (by decide)
       (intro p wx _ _ hx K hK
        go_simp
        go_at_K
        exact hK _ hx)
       exact ⟨_, rfl⟩)
    refine Chain.walk_nil (fun w2 hx => ?_)
    obtain ⟨hk2, hA2⟩ := hx
    replace hA2 : Kind.At .wr N w2 b (Kind.next .wr l (m64 old) size) := hA2
    obtain ⟨c0, c1, c2, c3, c4, c5, c6, c7, c8, c9, c10, c11⟩ := HB.out w2 hk2
    have cx := HX.out w2 hk2
    have hsz := hk2.below.size
    simp only [World.size_alloc] at hsz
    have hwk := HK0.out.trans hk2
    have HN := Lib.hid hwk
    have HA2 := Lib.hid hA2
    clear hk2 hwk hA2 hws hwo
    generalize hq : Kind.numI .wr l old size = q
    have HQ := Lib.hid hq
    clear hq
    rcases Bool.eq_false_or_eq_true (decide (lo ≤ q)) with hb1 | hb1
    · rcases Bool.eq_false_or_eq_true (decide (q ≤ hi)) with hb2 | hb2
      · have HBB : Hid (inB lo hi (Kind.numI .wr l old size) = true) := by have e := HQ.out; unfold inB; rw [e, hb1, hb2]; rfl
        go_wp2_with fail
        refine (expect_yes (Kind.v .wr b) x A cap u d code _).mono ?_
        rintro e w3 ⟨rfl, hb3⟩
        have hk3 := HN.out.trans (Kept.of_below (N := N) hb3 (by omega) (fun p => p.block = b))
        have cx3 := (hb3.cell (World.block_lt_of_cell? w2 px cx)).trans cx
        have cf3 : w3.frozen? px = false := (hk3.froz px hpw).trans hpf
        have HA3 := Lib.hid (HA2.out.below hb3)
        have HK3 := Lib.hid (hk3.mono (S' := fun p => p.block = b ∨ p = px) (fun p hp => .inl hp))
        clear hk3 hb3 c0 c1 c2 c3 c4 c5 c6 c7 c8 c9 c10 c11 cx
        go_wp2_with fail
        go_end0
        exact ⟨HK3.out.setCell hpN (.inr rfl) _, .inl ⟨HBB.out, rfl, HA3.out.setCell cx3 rfl hpb _, by rw [HQ.out]; exact World.cell?_setCell_same _ _ _ cx3⟩⟩
      · have HBB : Hid (inB lo hi (Kind.numI .wr l old size) = false) := by have e := HQ.out; unfold inB; rw [e, hb1, hb2]; rfl
        go_wp2_with fail
        refine (expect_no (Kind.v .wr b) x A cap u d code _).mono ?_
        rintro e w3 ⟨rfl, hb3⟩
        exact ⟨rfl, (HN.out.trans (Kept.of_below (N := N) hb3 (by omega) (fun p => p.block = b))).mono (fun p hp => .inl hp), .inr ⟨HBB.out, rfl⟩⟩
    · have HBB : Hid (inB lo hi (Kind.numI .wr l old size) = false) := by have e := HQ.out; unfold inB; rw [e, hb1]; rfl
      go_wp2_with fail
      refine (expect_no (Kind.v .wr b) x A cap u d code _).mono ?_
      rintro e w3 ⟨rfl, hb3⟩
      exact ⟨rfl, (HN.out.trans (Kept.of_below (N := N) hb3 (by omega) (fun p => p.block = b))).mono (fun p hp => .inl hp), .inr ⟨HBB.out, rfl⟩⟩
  · refine Chain.chain (fun p wx => Kept N (fun p => p.block = b) (w.alloc (.cells (fieldsA (Kind.v .rd b) x A cap u d code) 77)) wx ∧ Kind.At .rd N wx b (if p = 0 then l else Kind.next .rd l (m64 old) size)) (fun _ _ => False) [9] (by kernel_rfl) (by kernel_rfl) (fun _ _ _ _ h => h.elim) ⟨(Kept.refl _ _ _).drew, (hC.alloc _).drew⟩ ?_
    iterate 9
      (apply Chain.walk_quiet (by rfl) (by decide)
       (intro p wx _ _ hx K hK
        obtain ⟨c0, -⟩ := HB.out wx hx.1
        have cx := HX.out wx hx.1
        simp only [Kind.v] at c0
        go_simp
        go_at_K
        exact hK _ hx)
       exact ⟨_, rfl⟩)
    apply Chain.walk_turn 0 (by rfl) (by rfl)
    · intro wx hx K hK
      have hm := meth_rd b wx
      go_simp
      go_at_call 102
      refine (carry_rd N b (m64 old) size l wx (by omega) hR hx.2).mono ?_
      rintro e w1 ⟨rfl, hA1, hK1⟩
      exact hK w1 ⟨hx.1.trans hK1, hA1⟩
    · exact ⟨_, rfl⟩
    iterate 2
      (apply Chain.walk_quiet (by rfl) (by decide)
       (intro p wx _ _ hx K hK
        go_simp
        go_at_K
        exact hK _ hx)
       exact ⟨_, rfl⟩)
    refine Chain.walk_nil (fun w2 hx => ?_)
    obtain ⟨hk2, hA2⟩ := hx
    replace hA2 : Kind.At .rd N w2 b (Kind.next .rd l (m64 old) size) := hA2
    obtain ⟨c0, c1, c2, c3, c4, c5, c6, c7, c8, c9, c10, c11⟩ := HB.out w2 hk2
    have cx := HX.out w2 hk2
    have hsz := hk2.below.size
    simp only [World.size_alloc] at hsz
    have hwk := HK0.out.trans hk2
    have HN := Lib.hid hwk
    have HA2 := Lib.hid hA2
    clear hk2 hwk hA2 hws hwo
    generalize hq : Kind.numI .rd l old size = q
    have HQ := Lib.hid hq
    clear hq
    rcases Bool.eq_false_or_eq_true (decide (lo ≤ q)) with hb1 | hb1
    · rcases Bool.eq_false_or_eq_true (decide (q ≤ hi)) with hb2 | hb2
      · have HBB : Hid (inB lo hi (Kind.numI .rd l old size) = true) := by have e := HQ.out; unfold inB; rw [e, hb1, hb2]; rfl
        go_wp2_with fail
        refine (expect_yes (Kind.v .rd b) x A cap u d code _).mono ?_
        rintro e w3 ⟨rfl, hb3⟩
        have hk3 := HN.out.trans (Kept.of_below (N := N) hb3 (by omega) (fun p => p.block = b))
        have cx3 := (hb3.cell (World.block_lt_of_cell? w2 px cx)).trans cx
        have cf3 : w3.frozen? px = false := (hk3.froz px hpw).trans hpf
        have HA3 := Lib.hid (HA2.out.below hb3)
        have HK3 := Lib.hid (hk3.mono (S' := fun p => p.block = b ∨ p = px) (fun p hp => .inl hp))
        clear hk3 hb3 c0 c1 c2 c3 c4 c5 c6 c7 c8 c9 c10 c11 cx
        go_wp2_with fail
        go_end0
        exact ⟨HK3.out.setCell hpN (.inr rfl) _, .inl ⟨HBB.out, rfl, HA3.out.setCell cx3 rfl hpb _, by rw [HQ.out]; exact World.cell?_setCell_same _ _ _ cx3⟩⟩
      · have HBB : Hid (inB lo hi (Kind.numI .rd l old size) = false) := by have e := HQ.out; unfold inB; rw [e, hb1, hb2]; rfl
        go_wp2_with fail
        refine (expect_no (Kind.v .rd b) x A cap u d code _).mono ?_
        rintro e w3 ⟨rfl, hb3⟩
        exact ⟨rfl, (HN.out.trans (Kept.of_below (N := N) hb3 (by omega) (fun p => p.block = b))).mono (fun p hp => .inl hp), .inr ⟨HBB.out, rfl⟩⟩
    · have HBB : Hid (inB lo hi (Kind.numI .rd l old size) = false) := by have e := HQ.out; unfold inB; rw [e, hb1]; rfl
      go_wp2_with fail
      refine (expect_no (Kind.v .rd b) x A cap u d code _).mono ?_
      rintro e w3 ⟨rfl, hb3⟩
      exact ⟨rfl, (HN.out.trans (Kept.of_below (N := N) hb3 (by omega) (fun p => p.block = b))).mono (fun p hp => .inl hp), .inr ⟨HBB.out, rfl⟩⟩
end

section
open Go.RowKit Frm

set_option maxRecDepth 100000 in
set_option maxHeartbeats 1000000 in
theorem calls_any (k : Kind) (N b pb po : Nat) (a0 a1 : Nat) (l : List UInt8) (x : BldD) (A : Option Addr) (cap u d : Nat) (code : Int) (w : World) (hu : u < 4294967296) (hd : d < 4294967296) (h0 : a0 < 4294967296) (h1 : a1 < 4294967296) (hN : N ≤ w.heap.size)
    (hC : k.At N w b l) (hR : k.Room l 8) (hp0 : w.cell? ⟨pb, po, none⟩ = some (.int .u32 a0)) (hp1 : w.cell? ⟨pb, po + 1, none⟩ = some (.int .u32 a1)) (hf0 : w.frozen? ⟨pb, po, none⟩ = false) (hf1 : w.frozen? ⟨pb, po + 1, none⟩ = false) (hpb : pb ≠ b) (hpN : N ≤ pb) :
    Calls Try.prog 56 #[.agg (fieldsA (k.v b) x A cap u d code), .pointer (some ⟨pb, po, none⟩)] w fun e w' => Kept N (fun p => p.block = b ∨ p = ⟨pb, po, none⟩ ∨ p = ⟨pb, po + 1, none⟩) w w' ∧
      (((setB (k.num l a0 4) u = true ∧ setB (k.num (k.next l a0 4) a1 4) d = true) ∧ e = .returned (.tuple #[]) ∧ k.At N w' b (k.next (k.next l a0 4) a1 4) ∧ w'.cell? ⟨pb, po, none⟩ = some (.int .u32 (k.num l a0 4 : Nat)) ∧ w'.cell? ⟨pb, po + 1, none⟩ = some (.int .u32 (k.num (k.next l a0 4) a1 4 : Nat))) ∨
       (¬ (setB (k.num l a0 4) u = true ∧ setB (k.num (k.next l a0 4) a1 4) d = true) ∧ e = refusedP code)) := by
  have hpw := World.block_lt_of_cell? w _ hp0
  replace hpw : pb < w.heap.size := hpw
  obtain ⟨hbw, hNb⟩ := Kind.lt hC
  have hcv : plainV (k.v b) = true := by cases k <;> rfl
  have hk0 : Kept N (fun p => p.block = b ∨ p = ⟨pb, po, none⟩ ∨ p = ⟨pb, po + 1, none⟩) w (w.alloc (.cells (fieldsA (k.v b) x A cap u d code) 77)) := (Kept.refl _ _ _).alloc hN _
  have hbox := fun wx (h : Kept N (fun p => p.block = b ∨ p = ⟨pb, po, none⟩ ∨ p = ⟨pb, po + 1, none⟩) (w.alloc (.cells (fieldsA (k.v b) x A cap u d code) 77)) wx) => boxF (wx := wx) hcv (fun o => by
    intro hh
    rcases hh with hh | hh | hh
    · exact absurd hh (by show ¬ w.heap.size = b; omega)
    · injection hh with hh; omega
    · injection hh with hh; omega) h
  have hA0 := hC.alloc (.cells (fieldsA (k.v b) x A cap u d code) 77)
  have hk1 : Kept N (fun p => p.block = b) w (w.alloc (.cells (fieldsA (k.v b) x A cap u d code) 77)) := (Kept.refl _ _ _).alloc hN _
  have HK1 := Lib.hid hk1
  clear hk1
  have HB := Lib.hid hbox
  have HK0 := Lib.hid hk0
  have HA0 := Lib.hid hA0
  have hz0 : (w.alloc (.cells (fieldsA (k.v b) x A cap u d code) 77)).heap.size = w.heap.size + 1 := by simp
  clear hbox hk0 hA0
  go_enter Try.func56, Try.ntmps56
  go_wp2_with fail
  generalize w.alloc (.cells (fieldsA (k.v b) x A cap u d code) 77) = W0 at *
  have q0 : W0.cell? ⟨pb, po, none⟩ = some (.int .u32 a0) := HK1.out.cell _ _ hp0 rfl (by show ¬ pb = b; omega)
  have q1 : W0.cell? ⟨pb, po + 1, none⟩ = some (.int .u32 a1) := HK1.out.cell _ _ hp1 rfl (by show ¬ pb = b; omega)
  have r0 : ∀ wx, Kept N (fun p => p.block = b ∨ p = ⟨pb, po, none⟩ ∨ p = ⟨pb, po + 1, none⟩) W0 wx → wx.frozen? ⟨pb, po, none⟩ = false := fun wx h => ((HK0.out.trans h).froz _ hpw).trans hf0
  have r1 : ∀ wx, Kept N (fun p => p.block = b ∨ p = ⟨pb, po, none⟩ ∨ p = ⟨pb, po + 1, none⟩) W0 wx → wx.frozen? ⟨pb, po + 1, none⟩ = false := fun wx h => ((HK0.out.trans h).froz _ hpw).trans hf1
  have R0 := Lib.hid r0
  have R1 := Lib.hid r1
  have Q0 := Lib.hid q0
  have Q1 := Lib.hid q1
  clear r0 r1 q0 q1 hp0 hp1 hf0 hf1
  refine Chain.chain (fun p wx => Kept N (fun p => p.block = b ∨ p = ⟨pb, po, none⟩ ∨ p = ⟨pb, po + 1, none⟩) W0 wx ∧ (if p = 0 then Below W0.heap.size W0 wx else (k.At N wx b (k.next l a0 4) ∧ setB (k.num l a0 4) u = true ∧ wx.cell? ⟨pb, po, none⟩ = some (.int .u32 (k.num l a0 4 : Nat)) ∧ wx.cell? ⟨pb, po + 1, none⟩ = some (.int .u32 a1)))) (fun e wx => e = Exit.panic [{ v := .iface 138 (.agg #[.int .i64 code]), recovered := false }] ∧ setB (k.num l a0 4) u = false ∧ Kept N (fun p => p.block = b ∨ p = ⟨pb, po, none⟩ ∨ p = ⟨pb, po + 1, none⟩) w wx) [7] (by kernel_rfl) (by kernel_rfl) (fun e a' w' hdf he => ?_) ⟨Kept.drew (Kept.refl _ _ _), (Below.refl _ _).drew⟩ ?_
  · obtain ⟨rfl, hx⟩ := he
    exact ⟨hdf, hx.2, .inr ⟨fun hh => by rw [hx.1] at hh; exact absurd hh.1 (by decide), rfl⟩⟩
  iterate 7
    (apply Chain.walk_quiet (by rfl) (by decide)
     (intro p wx _ _ hx K hK
      obtain ⟨c0, c1, c2, c3, c4, c5, c6, c7, c8, c9, c10, c11⟩ := HB.out wx hx.1
      have HX := Lib.hid hx
      clear hx
      go_simp
      go_at_K
      exact hK _ HX.out)
     exact ⟨_, rfl⟩)
  apply Chain.walk_turn 0 (by rfl) (by rfl)
  · intro wx hx K hK
    obtain ⟨hkx, hbx⟩ := hx
    replace hbx : Below W0.heap.size W0 wx := hbx
    have HKX := Lib.hid hkx
    have HBX := Lib.hid hbx
    clear hkx hbx
    go_simp
    go_at_call 76
    refine (set_any k N b ⟨pb, po, none⟩ u a0 l x A cap u d code wx hu h0 (by have := HKX.out.below.size; omega) (HA0.out.below HBX.out) (Kind.Room.left (s := 4) (t := 4) hR) ((HBX.out.cell (World.block_lt_of_cell? W0 _ Q0.out)).trans Q0.out) (R0.out wx HKX.out) hpb hpN).mono ?_
    rintro e w3 ⟨hk3, ⟨ok, rfl, hA3, hc3⟩ | ⟨ok, rfl⟩⟩
    · exact hK _ ⟨HKX.out.trans (hk3.mono (fun p hp => Or.elim hp .inl (fun h => .inr (.inl h)))), hA3, ok, hc3, hk3.cell _ _ ((HBX.out.cell (World.block_lt_of_cell? W0 _ Q1.out)).trans Q1.out) rfl (fun hh => Or.elim hh hpb (fun h => by injection h with _ h; omega))⟩
    · exact ⟨rfl, ok, (HK0.out.trans HKX.out).trans (hk3.mono (fun p hp => Or.elim hp .inl (fun h => .inr (.inl h))))⟩
  · exact ⟨undef, rfl⟩
  refine Chain.walk_nil (fun w2 hx => ?_)
  obtain ⟨hk2, hx⟩ := hx
  replace hx : (k.At N w2 b (k.next l a0 4) ∧ setB (k.num l a0 4) u = true ∧ w2.cell? ⟨pb, po, none⟩ = some (.int .u32 (k.num l a0 4 : Nat)) ∧ w2.cell? ⟨pb, po + 1, none⟩ = some (.int .u32 a1)) := hx
  obtain ⟨hA2, hs2, hc2, hd2⟩ := hx
  have HA2 := Lib.hid hA2
  have HS2 := Lib.hid hs2
  have HC2 := Lib.hid hc2
  have HD2 := Lib.hid hd2
  have HK2 := Lib.hid hk2
  clear hA2 hs2 hc2 hd2 hk2
  go_wp2_with fail
  refine Chain.chain (fun p wx => Kept N (fun p => p.block = b ∨ p = ⟨pb, po, none⟩ ∨ p = ⟨pb, po + 1, none⟩) W0 wx ∧ (if p = 0 then Below w2.heap.size w2 wx else (k.At N wx b (k.next (k.next l a0 4) a1 4) ∧ setB (k.num (k.next l a0 4) a1 4) d = true ∧ wx.cell? ⟨pb, po, none⟩ = some (.int .u32 (k.num l a0 4 : Nat)) ∧ wx.cell? ⟨pb, po + 1, none⟩ = some (.int .u32 (k.num (k.next l a0 4) a1 4 : Nat))))) (fun e wx => e = Exit.panic [{ v := .iface 138 (.agg #[.int .i64 code]), recovered := false }] ∧ setB (k.num (k.next l a0 4) a1 4) d = false ∧ Kept N (fun p => p.block = b ∨ p = ⟨pb, po, none⟩ ∨ p = ⟨pb, po + 1, none⟩) w wx) [7] (by kernel_rfl) (by kernel_rfl) (fun e a' w' hdf he => ?_) ⟨Kept.drew (HK2.out), (Below.refl _ _).drew⟩ ?_
  · obtain ⟨rfl, hx⟩ := he
    exact ⟨hdf, hx.2, .inr ⟨fun hh => by rw [hx.1] at hh; exact absurd hh.2 (by decide), rfl⟩⟩
  iterate 7
    (apply Chain.walk_quiet (by rfl) (by decide)
     (intro p wx _ _ hx K hK
      obtain ⟨c0, c1, c2, c3, c4, c5, c6, c7, c8, c9, c10, c11⟩ := HB.out wx hx.1
      have HX := Lib.hid hx
      clear hx
      go_simp
      go_at_K
      exact hK _ HX.out)
     exact ⟨_, rfl⟩)
  apply Chain.walk_turn 0 (by rfl) (by rfl)
  · intro wx hx K hK
    obtain ⟨hkx, hbx⟩ := hx
    replace hbx : Below w2.heap.size w2 wx := hbx
    have HKX := Lib.hid hkx
    have HBX := Lib.hid hbx
    clear hkx hbx
    go_simp
    go_at_call 76
    refine (set_any k N b ⟨pb, po + 1, none⟩ d a1 (k.next l a0 4) x A cap u d code wx hd h1 (by have := HKX.out.below.size; omega) (HA2.out.below HBX.out) (Kind.Room.right (s := 4) (t := 4) hR a0) ((HBX.out.cell (World.block_lt_of_cell? w2 _ HD2.out)).trans HD2.out) (R1.out wx HKX.out) hpb hpN).mono ?_
    rintro e w3 ⟨hk3, ⟨ok, rfl, hA3, hc3⟩ | ⟨ok, rfl⟩⟩
    · exact hK _ ⟨HKX.out.trans (hk3.mono (fun p hp => Or.elim hp .inl (fun h => .inr (.inr h)))), hA3, ok, hk3.cell _ _ ((HBX.out.cell (World.block_lt_of_cell? w2 _ HC2.out)).trans HC2.out) rfl (fun hh => Or.elim hh hpb (fun h => by injection h with _ h; omega)), hc3⟩
    · exact ⟨rfl, ok, (HK0.out.trans HKX.out).trans (hk3.mono (fun p hp => Or.elim hp .inl (fun h => .inr (.inr h))))⟩
  · exact ⟨undef, rfl⟩
  refine Chain.walk_nil (fun w4 hx => ?_)
  obtain ⟨hk2, hx⟩ := hx
  replace hx : (k.At N w4 b (k.next (k.next l a0 4) a1 4) ∧ setB (k.num (k.next l a0 4) a1 4) d = true ∧ w4.cell? ⟨pb, po, none⟩ = some (.int .u32 (k.num l a0 4 : Nat)) ∧ w4.cell? ⟨pb, po + 1, none⟩ = some (.int .u32 (k.num (k.next l a0 4) a1 4 : Nat))) := hx
  obtain ⟨hA3, hs3, hc3, hd3⟩ := hx
  have HA3 := Lib.hid hA3
  have HS3 := Lib.hid hs3
  have HC3 := Lib.hid hc3
  have HD3 := Lib.hid hd3
  have HK3 := Lib.hid hk2
  clear hA3 hs3 hc3 hd3 hk2
  go_wp2_with fail
  go_end0
  exact ⟨HK0.out.trans HK3.out, .inl ⟨⟨HS2.out, HS3.out⟩, rfl, HA3.out, HC3.out, HD3.out⟩⟩
end
end Go.Proofs.Ythbfpdkgbkpmiaa
