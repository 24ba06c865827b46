/- frame's loads: the bits of a float64 are carried. No statement of the seat is proved here. -/
import Derived.Test.YtapkjknpoafhjaaNumber
import Derived.Test.YtapkjknpoafhjaaInf
namespace Go.Proofs.Ytapkjknpoafhjaa
open Go.RowKit Frm

theorem bits_run (n : Nat) (w : World) : (callFunc 35 #[.float .f64 n]).run Try.prog w = .ok (.value (.int .u64 (n : Int))) w := by
  rw [run_callFunc_extern (e := Extern.MathFloatBits.float64bits) Try.func35 (by kernel_rfl) (by kernel_rfl) (by kernel_rfl) (by kernel_rfl)]
  rfl

set_option maxRecDepth 100000 in
set_option maxHeartbeats 1000000 in
theorem load_any (k : Kind) (N b : Nat) (px : Addr) (old : Nat) (l : List UInt8) (x : BldD) (A : Option Addr) (cap u d : Nat) (code : Int) (w : World) (hN : N ≤ w.heap.size)
    (hC : k.At N w b l) (hR : k.Room l 8) (hp : w.cell? px = some (.float .f64 old)) (hpf : w.frozen? px = false) (hpb : px.block ≠ b) (hpN : N ≤ px.block) :
    Calls Try.prog 79 #[.agg (fieldsA (k.v b) x A cap u d code), .pointer (some px)] w fun e w' => Kept N (fun p => p.block = b ∨ p = px) w w' ∧
      e = .returned (.tuple #[]) ∧ k.At N w' b (k.next l old 8) ∧ w'.cell? px = some (.float .f64 (k.num l old 8)) := by
  obtain ⟨hbw, hNb⟩ := Kind.lt hC
  have hpw := World.block_lt_of_cell? w px hp
  have hcv : plainV (k.v b) = true := by cases k <;> rfl
  have hk0 : Kept N (fun p => p.block = b ∨ p = px) w (w.alloc (.cells (fieldsA (k.v b) x A cap u d code) 77)) := (Kept.refl _ _ _).alloc hN _
  have hbox := fun wx (h : Kept N (fun p => p.block = b ∨ p = px) (w.alloc (.cells (fieldsA (k.v b) x A cap u d code) 77)) wx) => boxF (wx := wx) hcv (fun o => by
    intro hh
    rcases hh with hh | hh
    · exact absurd hh (by show ¬ w.heap.size = b; omega)
    · rw [← hh] at hpw; simp at hpw) h
  have hpx0 : (w.alloc (.cells (fieldsA (k.v b) x A cap u d code) 77)).cell? px = some (.float .f64 old) := (World.cell?_of_block (w := w) (Below.heap_alloc w _ px.block hpw)).trans hp
  have hpf0 := fun wx (h : Kept N (fun p => p.block = b ∨ p = px) (w.alloc (.cells (fieldsA (k.v b) x A cap u d code) 77)) wx) => ((hk0.trans h).froz px hpw).trans hpf
  have hB := bits_run old
  have HB := Lib.hid hbox
  have HF := Lib.hid hpf0
  have HK0 := Lib.hid hk0
  clear hbox hk0 hpf0
  go_enter Try.func79, Try.ntmps79
  go_wp2_with fail
  cases k
  · have hFR := frombits_run ((Kind.num .wr l old 8 : Nat) : Int)
    refine Chain.chain (fun p wx => Kept N (fun p => p.block = b ∨ p = px) (w.alloc (.cells (fieldsA (Kind.v .wr b) x A cap u d code) 77)) wx ∧ Kind.At .wr N wx b (if p ≤ 2 then l else Kind.next .wr l old 8) ∧ wx.cell? px = some (.float .f64 (if p ≤ 4 then old else Kind.num .wr l old 8))) (fun _ _ => False) [5, 6, 9, 10, 12] (by kernel_rfl) (by kernel_rfl) (fun _ _ _ _ h => h.elim) ⟨(Kept.refl _ _ _).drew, (hC.alloc _).drew, hpx0⟩ ?_
    iterate 5
      (apply Chain.walk_quiet (by rfl) (by decide)
       (intro p wx _ _ hx K hK
        obtain ⟨c0, -⟩ := HB.out wx hx.1
        simp only [Kind.v] at c0
        go_simp
        go_at_K
        exact hK _ hx)
       exact ⟨_, rfl⟩)
    apply Chain.walk_turn 0 (by rfl) (by rfl)
    · intro wx hx K hK
      have cx : wx.cell? px = some (.float .f64 old) := hx.2.2
      go_simp
      go_at_K
      exact hK _ hx
    · exact ⟨_, rfl⟩
    apply Chain.walk_turn 1 (by rfl) (by rfl)
    · intro wx hx K hK
      go_simp
      go_at_K
      exact hK _ hx
    · exact ⟨_, rfl⟩
    iterate 2
      (apply Chain.walk_quiet (by rfl) (by decide)
       (intro p wx _ _ hx K hK
        go_simp
        go_at_K
        exact hK _ hx)
       exact ⟨_, rfl⟩)
    apply Chain.walk_turn 2 (by rfl) (by rfl)
    · intro wx hx K hK
      have hm := meth_wr b wx
      obtain ⟨hx1, hx2, hx3⟩ := hx
      have HX3 := Lib.hid hx3
      clear hx3
      go_simp
      go_at_call 101
      refine (carry_wr N b old 8 l wx (by omega) (by have := hx1.below.size; simp at this; omega) hR hx2).mono ?_
      rintro e w1 ⟨rfl, hA1, hK1⟩
      exact hK w1 ⟨hx1.trans (hK1.mono (fun p hp => .inl hp)), hA1, hK1.cell px _ HX3.out rfl hpb⟩
    · exact ⟨_, rfl⟩
    apply Chain.walk_turn 3 (by rfl) (by rfl)
    · intro wx hx K hK
      go_simp
      go_at_K
      exact hK _ hx
    · exact ⟨_, rfl⟩
    apply Chain.walk_quiet (by rfl) (by decide)
    · intro p wx _ _ hx K hK
      go_simp
      go_at_K
      exact hK _ hx
    · exact ⟨_, rfl⟩
    apply Chain.walk_turn 4 (by rfl) (by rfl)
    · intro wx hx K hK
      have cx : wx.cell? px = some (.float .f64 old) := hx.2.2
      have cf := HF.out wx hx.1
      obtain ⟨hx1, hx2, hx3⟩ := hx
      have HX := Lib.hid hx1
      have HX2 := Lib.hid hx2
      clear hx1 hx2 hx3
      go_simp
      go_at_K
      exact hK _ ⟨HX.out.setCell hpN (.inr rfl) _, HX2.out.setCell cx rfl hpb _, World.cell?_setCell_same _ _ _ cx⟩
    · exact ⟨undef, rfl⟩
    refine Chain.walk_nil (fun w2 hx => ?_)
    obtain ⟨hk2, hA2, cx2⟩ := hx
    have hk := HK0.out.trans hk2
    have HN := Lib.hid hk
    have HA2 := Lib.hid hA2
    have HC2 := Lib.hid cx2
    clear hk2 hk hA2 cx2
    go_wp2_with fail
    go_end0
    exact ⟨HN.out, rfl, HA2.out, HC2.out⟩
  · have hFR := frombits_run ((Kind.num .rd l old 8 : Nat) : Int)
    refine Chain.chain (fun p wx => Kept N (fun p => p.block = b ∨ p = px) (w.alloc (.cells (fieldsA (Kind.v .rd b) x A cap u d code) 77)) wx ∧ Kind.At .rd N wx b (if p ≤ 2 then l else Kind.next .rd l old 8) ∧ wx.cell? px = some (.float .f64 (if p ≤ 4 then old else Kind.num .rd l old 8))) (fun _ _ => False) [5, 6, 9, 10, 12] (by kernel_rfl) (by kernel_rfl) (fun _ _ _ _ h => h.elim) ⟨(Kept.refl _ _ _).drew, (hC.alloc _).drew, hpx0⟩ ?_
    iterate 5
      (apply Chain.walk_quiet (by rfl) (by decide)
       (intro p wx _ _ hx K hK
        obtain ⟨c0, -⟩ := HB.out wx hx.1
        simp only [Kind.v] at c0
        go_simp
        go_at_K
        exact hK _ hx)
       exact ⟨_, rfl⟩)
    apply Chain.walk_turn 0 (by rfl) (by rfl)
    · intro wx hx K hK
      have cx : wx.cell? px = some (.float .f64 old) := hx.2.2
      go_simp
      go_at_K
      exact hK _ hx
    · exact ⟨_, rfl⟩
    apply Chain.walk_turn 1 (by rfl) (by rfl)
    · intro wx hx K hK
      go_simp
      go_at_K
      exact hK _ hx
    · exact ⟨_, rfl⟩
    iterate 2
      (apply Chain.walk_quiet (by rfl) (by decide)
       (intro p wx _ _ hx K hK
        go_simp
        go_at_K
        exact hK _ hx)
       exact ⟨_, rfl⟩)
    apply Chain.walk_turn 2 (by rfl) (by rfl)
    · intro wx hx K hK
      have hm := meth_rd b wx
      obtain ⟨hx1, hx2, hx3⟩ := hx
      have HX3 := Lib.hid hx3
      clear hx3
      go_simp
      go_at_call 102
      refine (carry_rd N b old 8 l wx (by omega) hR hx2).mono ?_
      rintro e w1 ⟨rfl, hA1, hK1⟩
      exact hK w1 ⟨hx1.trans (hK1.mono (fun p hp => .inl hp)), hA1, hK1.cell px _ HX3.out rfl hpb⟩
    · exact ⟨_, rfl⟩
    apply Chain.walk_turn 3 (by rfl) (by rfl)
    · intro wx hx K hK
      go_simp
      go_at_K
      exact hK _ hx
    · exact ⟨_, rfl⟩
    apply Chain.walk_quiet (by rfl) (by decide)
    · intro p wx _ _ hx K hK
      go_simp
      go_at_K
      exact hK _ hx
    · exact ⟨_, rfl⟩
    apply Chain.walk_turn 4 (by rfl) (by rfl)
    · intro wx hx K hK
      have cx : wx.cell? px = some (.float .f64 old) := hx.2.2
      have cf := HF.out wx hx.1
      obtain ⟨hx1, hx2, hx3⟩ := hx
      have HX := Lib.hid hx1
      have HX2 := Lib.hid hx2
      clear hx1 hx2 hx3
      go_simp
      go_at_K
      exact hK _ ⟨HX.out.setCell hpN (.inr rfl) _, HX2.out.setCell cx rfl hpb _, World.cell?_setCell_same _ _ _ cx⟩
    · exact ⟨undef, rfl⟩
    refine Chain.walk_nil (fun w2 hx => ?_)
    obtain ⟨hk2, hA2, cx2⟩ := hx
    have hk := HK0.out.trans hk2
    have HN := Lib.hid hk
    have HA2 := Lib.hid hA2
    have HC2 := Lib.hid cx2
    clear hk2 hk hA2 cx2
    go_wp2_with fail
    go_end0
    exact ⟨HN.out, rfl, HA2.out, HC2.out⟩
end Go.Proofs.Ytapkjknpoafhjaa
