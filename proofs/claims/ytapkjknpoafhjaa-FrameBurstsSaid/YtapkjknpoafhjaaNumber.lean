/- frame's numbers: a number from low to high. No statement of the seat is proved here. -/
import Derived.Test.YtapkjknpoafhjaaFields
namespace Go.Proofs.Ytapkjknpoafhjaa
open Go.RowKit Frm

def inB (lo hi n : Int) : Bool := decide (lo ≤ n) && decide (n ≤ hi)
/-- The number that a carrier gives. -/
def Kind.numI : Kind → List UInt8 → Int → Nat → Int
  | .wr, _, n, _ => n
  | .rd, l, _, size => (valL (l.take size) : Nat)
def m64 (n : Int) : Nat := (n % 18446744073709551616).toNat
theorem m64_wrap (n : Int) : IntKind.u64.wrap n = ((m64 n : Nat) : Int) := by rw [IntKind.wrap_u64]; unfold m64; omega
theorem m64_lt (n : Int) : m64 n < 18446744073709551616 := by unfold m64; omega
theorem m64_id {n : Int} (h : 0 ≤ n) (h' : n < 18446744073709551616) : m64 n = n.toNat := by unfold m64; omega
theorem numI_wrap (k : Kind) (l : List UInt8) (n : Int) (size : Nat) (hs : size ≤ 2) (h1 : -9223372036854775808 ≤ n) (h2 : n ≤ 9223372036854775807) : IntKind.i64.wrap ((k.num l (m64 n) size : Nat) : Int) = k.numI l n size := by
  cases k
  · show IntKind.i64.wrap ((m64 n : Nat) : Int) = n
    rw [IntKind.wrap_i64]; unfold m64; omega
  · show IntKind.i64.wrap ((valL (l.take size) : Nat) : Int) = ((valL (l.take size) : Nat) : Int)
    have h := valL_lt (l.take size)
    have h3 : (256 : Nat) ^ (l.take size).length ≤ 256 ^ 2 := Nat.pow_le_pow_right (by omega) (by rw [List.length_take]; omega)
    rw [IntKind.wrap_i64]; omega

set_option maxRecDepth 100000 in
set_option maxHeartbeats 1000000 in
theorem number_any (k : Kind) (N b : Nat) (px : Addr) (old lo hi : Int) (size : Nat) (l : List UInt8) (x : BldD) (A : Option Addr) (cap u d : Nat) (code : Int) (w : World) (hsize : size ≤ 2) (ho1 : -9223372036854775808 ≤ old) (ho2 : old ≤ 9223372036854775807) (hN : N ≤ w.heap.size)
    (hC : k.At N w b l) (hR : k.Room l size) (hp : w.cell? px = some (.int .i64 old)) (hpf : w.frozen? px = false) (hpb : px.block ≠ b) (hpN : N ≤ px.block) :
    Calls Try.prog 77 #[.agg (fieldsA (k.v b) x A cap u d code), .pointer (some px), .int .i64 size, .int .i64 lo, .int .i64 hi] w fun e w' => Kept N (fun p => p.block = b ∨ p = px) w w' ∧
      ((inB lo hi (k.numI l old size) = true ∧ e = .returned (.tuple #[]) ∧ k.At N w' b (k.next l (m64 old) size) ∧ w'.cell? px = some (.int .i64 (k.numI l old size))) ∨ (inB lo hi (k.numI l old size) = false ∧ e = refusedP code)) := by
  obtain ⟨hbw, hNb⟩ := Kind.lt hC
  have hpw := World.block_lt_of_cell? w px hp
  have hcv : plainV (k.v b) = true := by cases k <;> rfl
  have hk0 : Kept N (fun p => p.block = b) w (w.alloc (.cells (fieldsA (k.v b) x A cap u d code) 77)) := (Kept.refl _ _ _).alloc hN _
  have hbox := fun wx (h : Kept N (fun p => p.block = b) (w.alloc (.cells (fieldsA (k.v b) x A cap u d code) 77)) wx) => boxF (wx := wx) hcv (fun o => by show ¬ w.heap.size = b; omega) h
  have hpx := fun wx (h : Kept N (fun p => p.block = b) (w.alloc (.cells (fieldsA (k.v b) x A cap u d code) 77)) wx) => (hk0.trans h).cell px _ hp rfl hpb
  have hwo := m64_wrap old
  have hws := numI_wrap k l old size hsize ho1 ho2
  have HB := Lib.hid hbox
  have HX := Lib.hid hpx
  have HK0 := Lib.hid hk0
  clear hbox hpx hk0
  go_enter Try.func77, Try.ntmps77
  go_wp2_with fail
  cases k
  · refine Chain.chain (fun p wx => Kept N (fun p => p.block = b) (w.alloc (.cells (fieldsA (Kind.v .wr b) x A cap u d code) 77)) wx ∧ Kind.At .wr N wx b (if p = 0 then l else Kind.next .wr l (m64 old) size)) (fun _ _ => False) [9] (by kernel_rfl) (by kernel_rfl) (fun _ _ _ _ h => h.elim) ⟨(Kept.refl _ _ _).drew, (hC.alloc _).drew⟩ ?_
    iterate 9
      (apply Chain.walk_quiet (by rfl) (by decide)
       (intro p wx _ _ hx K hK
        obtain ⟨c0, -⟩ := HB.out wx hx.1
        have cx := HX.out wx hx.1
        simp only [Kind.v] at c0
        go_simp
        go_at_K
        exact hK _ hx)
       exact ⟨_, rfl⟩)
    apply Chain.walk_turn 0 (by rfl) (by rfl)
    · intro wx hx K hK
      have hm := meth_wr b wx
      go_simp
      go_at_call 101
      refine (carry_wr N b (m64 old) size l wx (by omega) (by have := hx.1.below.size; simp at this; omega) hR hx.2).mono ?_
      rintro e w1 ⟨rfl, hA1, hK1⟩
      exact hK w1 ⟨hx.1.trans hK1, hA1⟩
    · exact ⟨_, rfl⟩
    iterate 2
      (apply Chain.walk_quiet (by rfl) (by decide)
       (intro p wx _ _ hx K hK
        go_simp
        go_at_K
        exact hK _ hx)
       exact ⟨_, rfl⟩)
    refine Chain.walk_nil (fun w2 hx => ?_)
    obtain ⟨hk2, hA2⟩ := hx
    replace hA2 : Kind.At .wr N w2 b (Kind.next .wr l (m64 old) size) := hA2
    obtain ⟨c0, c1, c2, c3, c4, c5, c6, c7, c8, c9, c10, c11⟩ := HB.out w2 hk2
    have cx := HX.out w2 hk2
    have hsz := hk2.below.size
    simp only [World.size_alloc] at hsz
    have hwk := HK0.out.trans hk2
    have HN := Lib.hid hwk
    have HA2 := Lib.hid hA2
    clear hk2 hwk hA2 hws hwo
    generalize hq : Kind.numI .wr l old size = q
    have HQ := Lib.hid hq
    clear hq
    rcases Bool.eq_false_or_eq_true (decide (lo ≤ q)) with hb1 | hb1
    · rcases Bool.eq_false_or_eq_true (decide (q ≤ hi)) with hb2 | hb2
      · have HBB : Hid (inB lo hi (Kind.numI .wr l old size) = true) := by have e := HQ.out; unfold inB; rw [e, hb1, hb2]; rfl
        go_wp2_with fail
        refine (expect_yes (Kind.v .wr b) x A cap u d code _).mono ?_
        rintro e w3 ⟨rfl, hb3⟩
        have hk3 := HN.out.trans (Kept.of_below (N := N) hb3 (by omega) (fun p => p.block = b))
        have cx3 := (hb3.cell (World.block_lt_of_cell? w2 px cx)).trans cx
        have cf3 : w3.frozen? px = false := (hk3.froz px hpw).trans hpf
        have HA3 := Lib.hid (HA2.out.below hb3)
        have HK3 := Lib.hid (hk3.mono (S' := fun p => p.block = b ∨ p = px) (fun p hp => .inl hp))
        clear hk3 hb3 c0 c1 c2 c3 c4 c5 c6 c7 c8 c9 c10 c11 cx
        go_wp2_with fail
        go_end0
        exact ⟨HK3.out.setCell hpN (.inr rfl) _, .inl ⟨HBB.out, rfl, HA3.out.setCell cx3 rfl hpb _, by rw [HQ.out]; exact World.cell?_setCell_same _ _ _ cx3⟩⟩
      · have HBB : Hid (inB lo hi (Kind.numI .wr l old size) = false) := by have e := HQ.out; unfold inB; rw [e, hb1, hb2]; rfl
        go_wp2_with fail
        refine (expect_no (Kind.v .wr b) x A cap u d code _).mono ?_
        rintro e w3 ⟨rfl, hb3⟩
        exact ⟨rfl, (HN.out.trans (Kept.of_below (N := N) hb3 (by omega) (fun p => p.block = b))).mono (fun p hp => .inl hp), .inr ⟨HBB.out, rfl⟩⟩
    · have HBB : Hid (inB lo hi (Kind.numI .wr l old size) = false) := by have e := HQ.out; unfold inB; rw [e, hb1]; rfl
      go_wp2_with fail
      refine (expect_no (Kind.v .wr b) x A cap u d code _).mono ?_
      rintro e w3 ⟨rfl, hb3⟩
      exact ⟨rfl, (HN.out.trans (Kept.of_below (N := N) hb3 (by omega) (fun p => p.block = b))).mono (fun p hp => .inl hp), .inr ⟨HBB.out, rfl⟩⟩
  · refine Chain.chain (fun p wx => Kept N (fun p => p.block = b) (w.alloc (.cells (fieldsA (Kind.v .rd b) x A cap u d code) 77)) wx ∧ Kind.At .rd N wx b (if p = 0 then l else Kind.next .rd l (m64 old) size)) (fun _ _ => False) [9] (by kernel_rfl) (by kernel_rfl) (fun _ _ _ _ h => h.elim) ⟨(Kept.refl _ _ _).drew, (hC.alloc _).drew⟩ ?_
    iterate 9
      (apply Chain.walk_quiet (by rfl) (by decide)
       (intro p wx _ _ hx K hK
        obtain ⟨c0, -⟩ := HB.out wx hx.1
        have cx := HX.out wx hx.1
        simp only [Kind.v] at c0
        go_simp
        go_at_K
        exact hK _ hx)
       exact ⟨_, rfl⟩)
    apply Chain.walk_turn 0 (by rfl) (by rfl)
    · intro wx hx K hK
      have hm := meth_rd b wx
      go_simp
      go_at_call 102
      refine (carry_rd N b (m64 old) size l wx (by omega) hR hx.2).mono ?_
      rintro e w1 ⟨rfl, hA1, hK1⟩
      exact hK w1 ⟨hx.1.trans hK1, hA1⟩
    · exact ⟨_, rfl⟩
    iterate 2
      (apply Chain.walk_quiet (by rfl) (by decide)
       (intro p wx _ _ hx K hK
        go_simp
        go_at_K
        exact hK _ hx)
       exact ⟨_, rfl⟩)
    refine Chain.walk_nil (fun w2 hx => ?_)
    obtain ⟨hk2, hA2⟩ := hx
    replace hA2 : Kind.At .rd N w2 b (Kind.next .rd l (m64 old) size) := hA2
    obtain ⟨c0, c1, c2, c3, c4, c5, c6, c7, c8, c9, c10, c11⟩ := HB.out w2 hk2
    have cx := HX.out w2 hk2
    have hsz := hk2.below.size
    simp only [World.size_alloc] at hsz
    have hwk := HK0.out.trans hk2
    have HN := Lib.hid hwk
    have HA2 := Lib.hid hA2
    clear hk2 hwk hA2 hws hwo
    generalize hq : Kind.numI .rd l old size = q
    have HQ := Lib.hid hq
    clear hq
    rcases Bool.eq_false_or_eq_true (decide (lo ≤ q)) with hb1 | hb1
    · rcases Bool.eq_false_or_eq_true (decide (q ≤ hi)) with hb2 | hb2
      · have HBB : Hid (inB lo hi (Kind.numI .rd l old size) = true) := by have e := HQ.out; unfold inB; rw [e, hb1, hb2]; rfl
        go_wp2_with fail
        refine (expect_yes (Kind.v .rd b) x A cap u d code _).mono ?_
        rintro e w3 ⟨rfl, hb3⟩
        have hk3 := HN.out.trans (Kept.of_below (N := N) hb3 (by omega) (fun p => p.block = b))
        have cx3 := (hb3.cell (World.block_lt_of_cell? w2 px cx)).trans cx
        have cf3 : w3.frozen? px = false := (hk3.froz px hpw).trans hpf
        have HA3 := Lib.hid (HA2.out.below hb3)
        have HK3 := Lib.hid (hk3.mono (S' := fun p => p.block = b ∨ p = px) (fun p hp => .inl hp))
        clear hk3 hb3 c0 c1 c2 c3 c4 c5 c6 c7 c8 c9 c10 c11 cx
        go_wp2_with fail
        go_end0
        exact ⟨HK3.out.setCell hpN (.inr rfl) _, .inl ⟨HBB.out, rfl, HA3.out.setCell cx3 rfl hpb _, by rw [HQ.out]; exact World.cell?_setCell_same _ _ _ cx3⟩⟩
      · have HBB : Hid (inB lo hi (Kind.numI .rd l old size) = false) := by have e := HQ.out; unfold inB; rw [e, hb1, hb2]; rfl
        go_wp2_with fail
        refine (expect_no (Kind.v .rd b) x A cap u d code _).mono ?_
        rintro e w3 ⟨rfl, hb3⟩
        exact ⟨rfl, (HN.out.trans (Kept.of_below (N := N) hb3 (by omega) (fun p => p.block = b))).mono (fun p hp => .inl hp), .inr ⟨HBB.out, rfl⟩⟩
    · have HBB : Hid (inB lo hi (Kind.numI .rd l old size) = false) := by have e := HQ.out; unfold inB; rw [e, hb1]; rfl
      go_wp2_with fail
      refine (expect_no (Kind.v .rd b) x A cap u d code _).mono ?_
      rintro e w3 ⟨rfl, hb3⟩
      exact ⟨rfl, (HN.out.trans (Kept.of_below (N := N) hb3 (by omega) (fun p => p.block = b))).mono (fun p hp => .inl hp), .inr ⟨HBB.out, rfl⟩⟩
end Go.Proofs.Ytapkjknpoafhjaa
