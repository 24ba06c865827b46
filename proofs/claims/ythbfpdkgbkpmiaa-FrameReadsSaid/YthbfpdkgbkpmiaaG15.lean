/- What the texts behind this one rest on: several texts in one. No statement of the seat is proved here. -/
import Derived.Test.YthbfpdkgbkpmiaaG13
import Derived.Test.YthbfpdkgbkpmiaaG2
import Derived.Test.YthbfpdkgbkpmiaaG12
import Derived.Defers
import Derived.Recover
import Derived.Test.YthbfpdkgbkpmiaaG7
namespace Go.Proofs.Ythbfpdkgbkpmiaa
section
open Go.RowKit Frm

theorem bits_run (n : Nat) (w : World) : (callFunc 35 #[.float .f64 n]).run Try.prog w = .ok (.value (.int .u64 (n : Int))) w := by
  rw [run_callFunc_extern (e := Extern.MathFloatBits.float64bits) Try.func35 (by kernel_rfl) (by kernel_rfl) (by kernel_rfl) (by kernel_rfl)]
  rfl

set_option maxRecDepth 100000 in
set_option maxHeartbeats 1000000 in
theorem load_any (k : Kind) (N b : Nat) (px : Addr) (old : Nat) (l : List UInt8) (x : BldD) (A : Option Addr) (cap u d : Nat) (code : Int) (w : World) (hN : N ≤ w.heap.size)
    (hC : k.At N w b l) (hR : k.Room l 8) (hp : w.cell? px = some (.float .f64 old)) (hpf : w.frozen? px = false) (hpb : px.block ≠ b) (hpN : N ≤ px.block) :
    Calls Try.prog 79 #[.agg (fieldsA (k.v b) x A cap u d code), .pointer (some px)] w fun e w' => Kept N (fun p => p.block = b ∨ p = px) w w' ∧
      e = .returned (.tuple #[]) ∧ k.At N w' b (k.next l old 8) ∧ w'.cell? px = some (.float .f64 (k.num l old 8)) := by
  obtain ⟨hbw, hNb⟩ := Kind.lt hC
  have hpw := World.block_lt_of_cell? w px hp
  have hcv : plainV (k.v b) = true := by cases k <;> rfl
  have hk0 : Kept N (fun p => p.block = b ∨ p = px) w (w.alloc (.cells (fieldsA (k.v b) x A cap u d code) 77)) := (Kept.refl _ _ _).alloc hN _
  have hbox := fun wx (h : Kept N (fun p => p.block = b ∨ p = px) (w.alloc (.cells (fieldsA (k.v b) x A cap u d code) 77)) wx) => boxF (wx := wx) hcv (fun o => by
    intro hh
    rcases hh with hh | hh
    · exact absurd hh (by show ¬ w.heap.size = b; omega)
    · rw [← hh] at hpw; simp at hpw) h
  have hpx0 : (w.alloc (.cells (fieldsA (k.v b) x A cap u d code) 77)).cell? px = some (.float .f64 old) := (World.cell?_of_block (w := w) (Below.heap_alloc w _ px.block hpw)).trans hp
  have hpf0 := fun wx (h : Kept N (fun p => p.block = b ∨ p = px) (w.alloc (.cells (fieldsA (k.v b) x A cap u d code) 77)) wx) => ((hk0.trans h).froz px hpw).trans hpf
  have hB := bits_run old
  have HB := Lib.hid hbox
  have HF := Lib.hid hpf0
  have HK0 := Lib.hid hk0
  clear hbox hk0 hpf0
  go_enter Try.func79, Try.ntmps79
  go_wp2_with fail
  cases k
  · have hFR := frombits_run ((Kind.num .wr l old 8 : Nat) : Int)
    refine Chain.chain (fun p wx => Kept N (fun p => p.block = b ∨ p = px) (w.alloc (.cells (fieldsA (Kind.v .wr b) x A cap u d code) 77)) wx ∧ Kind.At .wr N wx b (if p ≤ 2 then l else Kind.next .wr l old 8) ∧ wx.cell? px = some (.float .f64 (if p ≤ 4 then old else Kind.num .wr l old 8))) (fun _ _ => False) [5, 6, 9, 10, 12] (by kernel_rfl) (by kernel_rfl) (fun _ _ _ _ h => h.elim) ⟨(Kept.refl _ _ _).drew, (hC.alloc _).drew, hpx0⟩ ?_
    iterate 5
      (apply Chain.walk_quiet (by rfl) (by decide)
       (intro p wx _ _ hx K hK
        obtain ⟨c0, -⟩ := HB.out wx hx.1
        simp only [Kind.v] at c0
        go_simp
        go_at_K
        exact hK _ hx)
       exact ⟨_, rfl⟩)
    apply Chain.walk_turn 0 (by rfl) (by rfl)
    · intro wx hx K hK
      have cx : wx.cell? px = some (.float .f64 old) := hx.2.2
      go_simp
      go_at_K
      exact hK _ hx
    · exact ⟨_, rfl⟩
    apply Chain.walk_turn 1 (by rfl) (by rfl)
    · intro wx hx K hK
      go_simp
      go_at_K
      exact hK _ hx
    · exact ⟨_, rfl⟩
    iterate 2
      (apply Chain.walk_quiet (by rfl) (by decide)
       (intro p wx _ _ hx K hK
        go_simp
        go_at_K
        exact hK _ hx)
       exact ⟨_, rfl⟩)
    apply Chain.walk_turn 2 (by rfl) (by rfl)
    · intro wx hx K hK
      have hm := meth_wr b wx
      obtain ⟨hx1, hx2, hx3⟩ := hx
      have HX3 := Lib.hid hx3
      clear hx3
      go_simp
      go_at_call 101
      refine (carry_wr N b old 8 l wx (by omega) (by have := hx1.below.size; simp at this; omega) hR hx2).mono ?_
      rintro e w1 ⟨rfl, hA1, hK1⟩
      exact hK w1 ⟨hx1.trans (hK1.mono (fun p hp => .inl hp)), hA1, hK1.cell px _ HX3.out rfl hpb⟩
    · exact ⟨_, rfl⟩
    apply Chain.walk_turn 3 (by rfl) (by rfl)
    · intro wx hx K hK
      go_simp
      go_at_K
      exact hK _ hx
    · exact ⟨_, rfl⟩
    apply Chain.walk_quiet (by rfl) (by decide)
    · intro p wx _ _ hx K hK
      go_simp
      go_at_K
      exact hK _ hx
    · exact ⟨_, rfl⟩
    apply Chain.walk_turn 4 (by rfl) (by rfl)
    · intro wx hx K hK
      have cx : wx.cell? px = some (.float .f64 old) := hx.2.2
      have cf := HF.out wx hx.1
      obtain ⟨hx1, hx2, hx3⟩ := hx
      have HX := Lib.hid hx1
      have HX2 := Lib.hid hx2
      clear hx1 hx2 hx3
      go_simp
      go_at_K
      exact hK _ ⟨HX.out.setCell hpN (.inr rfl) _, HX2.out.setCell cx rfl hpb _, World.cell?_setCell_same _ _ _ cx⟩
    · exact ⟨undef, rfl⟩
    refine Chain.walk_nil (fun w2 hx => ?_)
    obtain ⟨hk2, hA2, cx2⟩ := hx
    have hk := HK0.out.trans hk2
    have HN := Lib.hid hk
    have HA2 := Lib.hid hA2
    have HC2 := Lib.hid cx2
    clear hk2 hk hA2 cx2
    go_wp2_with fail
    go_end0
    exact ⟨HN.out, rfl, HA2.out, HC2.out⟩
  · have hFR := frombits_run ((Kind.num .rd l old 8 : Nat) : Int)
    refine Chain.chain (fun p wx => Kept N (fun p => p.block = b ∨ p = px) (w.alloc (.cells (fieldsA (Kind.v .rd b) x A cap u d code) 77)) wx ∧ Kind.At .rd N wx b (if p ≤ 2 then l else Kind.next .rd l old 8) ∧ wx.cell? px = some (.float .f64 (if p ≤ 4 then old else Kind.num .rd l old 8))) (fun _ _ => False) [5, 6, 9, 10, 12] (by kernel_rfl) (by kernel_rfl) (fun _ _ _ _ h => h.elim) ⟨(Kept.refl _ _ _).drew, (hC.alloc _).drew, hpx0⟩ ?_
    iterate 5
      (apply Chain.walk_quiet (by rfl) (by decide)
       (intro p wx _ _ hx K hK
        obtain ⟨c0, -⟩ := HB.out wx hx.1
        simp only [Kind.v] at c0
        go_simp
        go_at_K
        exact hK _ hx)
       exact ⟨_, rfl⟩)
    apply Chain.walk_turn 0 (by rfl) (by rfl)
    · intro wx hx K hK
      have cx : wx.cell? px = some (.float .f64 old) := hx.2.2
      go_simp
      go_at_K
      exact hK _ hx
    · exact ⟨_, rfl⟩
    apply Chain.walk_turn 1 (by rfl) (by rfl)
    · intro wx hx K hK
      go_simp
      go_at_K
      exact hK _ hx
    · exact ⟨_, rfl⟩
    iterate 2
      (apply Chain.walk_quiet (by rfl) (by decide)
       (intro p wx _ _ hx K hK
        go_simp
        go_at_K
        exact hK _ hx)
       exact ⟨_, rfl⟩)
    apply Chain.walk_turn 2 (by rfl) (by rfl)
    · intro wx hx K hK
      have hm := meth_rd b wx
      obtain ⟨hx1, hx2, hx3⟩ := hx
      have HX3 := Lib.hid hx3
      clear hx3
      go_simp
      go_at_call 102
      refine (carry_rd N b old 8 l wx (by omega) hR hx2).mono ?_
      rintro e w1 ⟨rfl, hA1, hK1⟩
      exact hK w1 ⟨hx1.trans (hK1.mono (fun p hp => .inl hp)), hA1, hK1.cell px _ HX3.out rfl hpb⟩
    · exact ⟨_, rfl⟩
    apply Chain.walk_turn 3 (by rfl) (by rfl)
    · intro wx hx K hK
      go_simp
      go_at_K
      exact hK _ hx
    · exact ⟨_, rfl⟩
    apply Chain.walk_quiet (by rfl) (by decide)
    · intro p wx _ _ hx K hK
      go_simp
      go_at_K
      exact hK _ hx
    · exact ⟨_, rfl⟩
    apply Chain.walk_turn 4 (by rfl) (by rfl)
    · intro wx hx K hK
      have cx : wx.cell? px = some (.float .f64 old) := hx.2.2
      have cf := HF.out wx hx.1
      obtain ⟨hx1, hx2, hx3⟩ := hx
      have HX := Lib.hid hx1
      have HX2 := Lib.hid hx2
      clear hx1 hx2 hx3
      go_simp
      go_at_K
      exact hK _ ⟨HX.out.setCell hpN (.inr rfl) _, HX2.out.setCell cx rfl hpb _, World.cell?_setCell_same _ _ _ cx⟩
    · exact ⟨undef, rfl⟩
    refine Chain.walk_nil (fun w2 hx => ?_)
    obtain ⟨hk2, hA2, cx2⟩ := hx
    have hk := HK0.out.trans hk2
    have HN := Lib.hid hk
    have HA2 := Lib.hid hA2
    have HC2 := Lib.hid cx2
    clear hk2 hk hA2 cx2
    go_wp2_with fail
    go_end0
    exact ⟨HN.out, rfl, HA2.out, HC2.out⟩
end

section
open Go.RowKit Frm

theorem tryI (u : TypeId) (v : Value) (w : World) (code : Int) (hu : u = 138) (hv : v = .agg #[.int .i64 code]) : (Instr.typeAssert (.iface u v) 20 138 true).run Try.prog w = .ok (.tuple #[.agg #[.int .i64 code], .bool true]) w := by
  subst hu hv
  kernel_rfl
theorem tryN (w : World) : (Instr.typeAssert .nilIface 20 138 true).run Try.prog w = .ok (.tuple #[.agg #[.int .i64 0], .bool false]) w := by kernel_rfl

theorem grown_set (w : World) (o : Obj) (p : Addr) (v : Value) : w.grownBy ((w.alloc o).setCell p v) (some p.block) :=
  ⟨rfl, rfl, rfl, by simp [World.setCell], fun k hk hne => (Below.heap_setCell _ p v k (fun e => hne (by rw [e]))).trans (Below.heap_alloc w o k hk)⟩

theorem grown_cell (w : World) (p : Addr) (v : Value) : w.grownBy (w.setCell p v) (some p.block) :=
  ⟨rfl, rfl, rfl, by simp [World.setCell], fun k _ hne => Below.heap_setCell _ p v k (fun e => hne (by rw [e]))⟩
theorem grown_trans {w w' w'' : World} {row : Option Nat} (h : w.grownBy w' row) (k : w'.grownBy w'' row) : w.grownBy w'' row :=
  ⟨k.os.trans h.os, k.tape.trans h.tape, k.output.trans h.output, Nat.le_trans h.size k.size, fun i hi hne => (k.block i (Nat.lt_of_lt_of_le hi h.size) hne).trans (h.block i hi hne)⟩

set_option maxHeartbeats 1000000 in
theorem caught (p : Addr) (x code : Int) (w : World) (hc : w.cell? p = some (.int .i64 x)) (hz : w.frozen? p = false) :
    CallsD Try.prog 73 #[.pointer (some p)] (.panicking ({ v := .iface 138 (.agg #[.int .i64 code]), recovered := false } :: [])) w fun e u' w' =>
      e = .returned (.tuple #[]) ∧ u' = .panicking ({ v := .iface 138 (.agg #[.int .i64 code]), recovered := true } :: []) ∧ w.grownBy w' (some p.block) ∧ w'.cell? p = some (.int .i64 code) := by
  refine callsD_of_wpS Try.func73 rfl fun c₀ cs hu => ?_
  apply wpS_seq
  apply wpS_region
  simp [wpOpsS, go_sem, recoverD, hu, Try.ntmps73, Exit.thenS]
  have e : (#[Value.pointer (some p)] ++ ((Array.replicate 14 undef).setIfInBounds 3 (.iface 138 (.agg #[.int .i64 code]))).setIfInBounds 0 (.iface 138 (.agg #[.int .i64 code]))) = #[.pointer (some p), .iface 138 (.agg #[.int .i64 code]), undef, undef, .iface 138 (.agg #[.int .i64 code]), undef, undef, undef, undef, undef, undef, undef, undef, undef, undef] := rfl
  rw [e]
  refine wpS_of_wp ?_
  have hlt := World.block_lt_of_cell? w p hc
  have ht := fun w => tryI 138 (.agg #[.int .i64 code]) w code rfl rfl
  have hc' : ∀ o, (w.alloc o).cell? p = some (.int .i64 x) := fun o => (World.cell?_of_block (w := w) (Below.heap_alloc w o p.block hlt)).trans hc
  have hz' : ∀ o, (w.alloc o).frozen? p = false := fun o => (World.frozen?_of_block (w := w) (Below.heap_alloc w o p.block hlt)).trans hz
  have hne : ¬ w.heap.size = p.block := by omega
  clear e
  go_wp2_with fail
  exact ⟨rfl, _, rfl, .tuple #[], by simp [results, Try.results73, go_sem], rfl, rfl, grown_set _ _ _ _, World.cell?_setCell_same _ _ _ (hc' _)⟩

set_option maxHeartbeats 1000000 in
theorem idle (p : Addr) (x : Int) (w : World) (hc : w.cell? p = some (.int .i64 x)) :
    CallsD Try.prog 73 #[.pointer (some p)] .returning w fun e u' w' =>
      e = .returned (.tuple #[]) ∧ u' = .returning ∧ w.grownBy w' (some p.block) ∧ w'.cell? p = some (.int .i64 x) := by
  refine callsD_of_wpS Try.func73 rfl fun c₀ cs hu => ?_
  apply wpS_seq
  apply wpS_region
  simp [wpOpsS, go_sem, recoverD, hu, Try.ntmps73, Exit.thenS]
  have e : (#[Value.pointer (some p)] ++ ((Array.replicate 14 undef).setIfInBounds 3 .nilIface).setIfInBounds 0 .nilIface) = #[.pointer (some p), .nilIface, undef, undef, .nilIface, undef, undef, undef, undef, undef, undef, undef, undef, undef, undef] := rfl
  rw [e]
  refine wpS_of_wp ?_
  have hlt := World.block_lt_of_cell? w p hc
  have ht := fun w => tryN w
  clear e
  go_wp2_with fail
  refine ⟨rfl, .returning, by cases c₀; simp_all, .tuple #[], by simp [results, Try.results73, go_sem], rfl, rfl, ?_, ?_⟩
  · exact World.grownBy_alloc w _ _
  · exact (World.cell?_of_block (w := w) (Below.heap_alloc w _ p.block hlt)).trans hc

/-- What a layout called by run leaves behind: it keeps run's own result; it has ended well, or refused. -/
def LayoutEnd (er : Nat) (G B : World → Prop) (code : Int) (e : Ending) (w1 : World) : Prop :=
  w1.cell? ⟨er, 0, none⟩ = some (.int .i64 0) ∧ w1.frozen? ⟨er, 0, none⟩ = false ∧ ((e = .returned (.tuple #[]) ∧ G w1) ∨ (e = refusedP code ∧ B w1))

set_option maxRecDepth 100000 in
set_option maxHeartbeats 1000000 in
/-- run: whatever the layout is, from its contract. -/
theorem run_any (fid : FuncId) (first cp : Array Value) (G B : World → Prop) (c : Value) (x : BldD) (A : Option Addr) (cap u d : Nat) (code : Int) (w : World) (hen : ∀ (args : Array Value) (w : World), (callFunc fid args).run Try.prog w = .ok (.enter fid args) w)
    (hcall : ∀ wx, Below w.heap.size w wx → w.heap.size + 2 ≤ wx.heap.size → wx.cell? ⟨w.heap.size + 1, 0, none⟩ = some (.int .i64 0) → wx.frozen? ⟨w.heap.size + 1, 0, none⟩ = false →
      Calls Try.prog fid (first.push (.agg (fieldsA c x A cap u d code)) ++ cp) wx (LayoutEnd (w.heap.size + 1) G B code)) :
    Calls Try.prog 52 #[.func (.func fid) first cp, .agg (fieldsA c x A cap u d code)] w fun e w' =>
      ∃ w1, w1.cell? ⟨w.heap.size + 1, 0, none⟩ = some (.int .i64 0) ∧ w1.grownBy w' (some (w.heap.size + 1)) ∧ ((e = .returned (.int .i64 0) ∧ G w1) ∨ (e = .returned (.int .i64 code) ∧ B w1)) := by
  have hmf : ∀ (fn : Fn) (first cap : Array Value) (w : World), (Instr.makeFunc fn first cap).run Try.prog w = .ok (.func fn first cap) w := fun _ _ _ _ => rfl
  have HC := Lib.hid hcall
  clear hcall
  unfold fieldsA
  go_enter_defers Try.func52, Try.ntmps52
  go_wp2_with fail
  refine (HC.out _ (by go_grown) (by simp) (by simp [World.cell?_alloc_at]) (by simp)).mono ?_
  rintro e w1 ⟨hr1, hr2, ⟨rfl, hG⟩ | ⟨rfl, hB⟩⟩
  · go_wp2_with fail
    refine leaves_cons (f := 73) (args := #[.pointer (some ⟨w.heap.size + 1, 0, none⟩)]) (by simp) (by simp [go_sem]) ?_
    refine (idle ⟨w.heap.size + 1, 0, none⟩ 0 _ (World.cell?_setCell_same _ _ _ hr1)).mono ?_
    rintro e u' w'' ⟨rfl, rfl, hg, hc⟩
    exact ⟨.int .i64 0, by simp [results, Try.results52, go_sem, hc], w1, hr1, grown_trans (grown_cell _ _ _) hg, .inl ⟨rfl, hG⟩⟩
  · simp only [refusedP]
    refine leaves_cons (f := 73) (args := #[.pointer (some ⟨w.heap.size + 1, 0, none⟩)]) (by simp) (by simp [go_sem]) ?_
    refine (caught ⟨w.heap.size + 1, 0, none⟩ 0 code _ hr1 hr2).mono ?_
    rintro e u' w'' ⟨rfl, rfl, hg, hc⟩
    exact ⟨.int .i64 code, by simp [results, Try.results52, go_sem, hc], w1, hr1, hg, .inr ⟨rfl, hB⟩⟩
end

section
open Go.RowKit Frm

/-- The first two bytes. -/
def headL (m C : Nat) : List UInt8 := [UInt8.ofNat m, UInt8.ofNat C]

theorem convH (w : World) (o : Obj) (m C : Nat) (hm : m < 256) (hC : C < 256) :
    (convert 55 9 (.slice (some ⟨w.heap.size + 1, 0, none⟩) 2 2)).run Try.prog ((w.alloc o).alloc (.cells #[.int .u8 (m : Int), .int .u8 (C : Int)] 5)) =
      .ok (.string ⟨(headL m C).toArray⟩) ((w.alloc o).alloc (.cells #[.int .u8 (m : Int), .int .u8 (C : Int)] 5)) := by
  refine run_convert_bytes_back _ _ _ 5 _ 2 (headL m C) (by kernel_rfl) (by kernel_rfl) (by kernel_rfl) ?_
  intro j hj
  have hj' : j < 2 := hj
  have ha : (Addr.add ⟨w.heap.size + 1, 0, none⟩ j) = ⟨w.heap.size + 1, j, none⟩ := by unfold Addr.add; split <;> simp_all
  have hg : ((w.alloc o).alloc (.cells #[.int .u8 (m : Int), .int .u8 (C : Int)] 5)).heap[w.heap.size + 1]? = some (.cells #[.int .u8 (m : Int), .int .u8 (C : Int)] 5 (0, 0)) := by
    have := heap_alloc_new (w.alloc o) (.cells #[.int .u8 (m : Int), .int .u8 (C : Int)] 5)
    have e : (w.alloc o).heap.size = w.heap.size + 1 := by simp
    rw [e] at this; exact this
  rw [ha, cell_of_row _ _ _ _ _ (0, 0) hg]
  have h01 : j = 0 ∨ j = 1 := by omega
  rcases h01 with rfl | rfl
  · exact congrArg some (congrArg (Value.int .u8) (by simp [headL]; omega))
  · exact congrArg some (congrArg (Value.int .u8) (by simp [headL]; omega))

set_option maxRecDepth 100000 in
set_option maxHeartbeats 1000000 in
theorem head_any (x : BldD) (A : Option Addr) (cap m : Nat) (w : World) (hm : m < 256) (hx : x.cars.length < 256) :
    Calls Try.prog 51 #[x.agg A cap, .int .u8 m] w fun e w' => e = .returned (.string ⟨(headL m x.cars.length).toArray⟩) ∧ Below w.heap.size w w' := by
  obtain ⟨f, d, r, p, e1, e2, e3, cs⟩ := x
  simp only at hx
  simp only [BldD.agg]
  have hw : IntKind.u8.wrap ((cs.length : Nat) : Int) = ((cs.length : Nat) : Int) := by rw [IntKind.wrap_u8]; omega
  have hc := fun o => convH w o m cs.length hm hx
  go_enter Try.func51, Try.ntmps51
  go_wp2_with fail
  go_ret
  exact ⟨rfl, by go_grown⟩

set_option maxRecDepth 100000 in
set_option maxHeartbeats 2000000 in
theorem fieldsOf_any (ct : TypeId) (cv : Value) (x : BldD) (A : Option Addr) (cap : Nat) (code : Int) (w : World) (hn : x.cars.length ≤ 140737488355328) (hc : CarsAt w w.heap.size A x.cars) :
    Calls Try.prog 53 #[x.agg A cap, .iface ct cv, .int .i64 code] w fun e w' => e = .returned (.agg (fieldsA (.iface ct cv) x A cap (hallUp x) (hallDown x) code)) ∧ Below w.heap.size w w' := by
  have hall := fun wx (h : Below w.heap.size w wx) => hall_any x A cap wx hn ((hc.below h).more h.size)
  generalize hU : hallUp x = U at *
  generalize hD : hallDown x = D at *
  have HH := Lib.hid hall
  clear hall hU hD hc
  obtain ⟨f, d, r, p, e1, e2, e3, cs⟩ := x
  simp only [BldD.agg, callsV] at HH ⊢
  go_enter Try.func53, Try.ntmps53
  go_wp2_with fail
  obtain ⟨W2, hW2⟩ : ∃ W2, W2 = (w.alloc (.cells #[.int .i64 f, .int .i64 d, .int .i64 r, .int .i64 p, .float .f64 e1, .float .f64 e2, .float .f64 e3, .slice A cs.length cap] 25)).alloc (.cells #[.nilIface, .int .i64 0, .int .i64 0, .int .i64 0, .int .i64 0, .float .f64 0, .float .f64 0, .float .f64 0, .slice none 0 0, .int .u32 0, .int .u32 0, .int .i64 0] 77) := ⟨_, rfl⟩
  rw [← hW2]
  have hbw : Below w.heap.size w W2 := by rw [hW2]; exact ((Below.refl _ _).alloc (Nat.le_refl _) _).alloc (by simp) _
  have hs2 : W2.heap.size = w.heap.size + 2 := by rw [hW2]; simp
  have h0 : ∀ j, W2.cell? ⟨w.heap.size, j, none⟩ = #[.int .i64 f, .int .i64 d, .int .i64 r, .int .i64 p, .float .f64 e1, .float .f64 e2, .float .f64 e3, .slice A cs.length cap][j]? := fun j => by
    rw [hW2, World.cell?_of_block (w := w.alloc _) (Below.heap_alloc _ _ w.heap.size (by simp)), cell_of_row _ _ _ _ _ (0, 0) (heap_alloc_new w _)]
  have hg : W2.heap[w.heap.size + 1]? = some (.cells #[.nilIface, .int .i64 0, .int .i64 0, .int .i64 0, .int .i64 0, .float .f64 0, .float .f64 0, .float .f64 0, .slice none 0 0, .int .u32 0, .int .u32 0, .int .i64 0] 77 (0, 0)) := by
    rw [hW2]
    have := heap_alloc_new (w.alloc (.cells #[.int .i64 f, .int .i64 d, .int .i64 r, .int .i64 p, .float .f64 e1, .float .f64 e2, .float .f64 e3, .slice A cs.length cap] 25)) (.cells #[.nilIface, .int .i64 0, .int .i64 0, .int .i64 0, .int .i64 0, .float .f64 0, .float .f64 0, .float .f64 0, .slice none 0 0, .int .u32 0, .int .u32 0, .int .i64 0] 77)
    have e : (w.alloc (.cells #[.int .i64 f, .int .i64 d, .int .i64 r, .int .i64 p, .float .f64 e1, .float .f64 e2, .float .f64 e3, .slice A cs.length cap] 25)).heap.size = w.heap.size + 1 := by simp
    rw [e] at this; exact this
  have H0 := Lib.hid h0
  have HG := Lib.hid hg
  have HBW := Lib.hid hbw
  clear hW2 h0 hg hbw
  refine Chain.chain (fun p' wx => Below (w.heap.size + 1) W2 wx ∧ (if p' = 0 then Below W2.heap.size W2 wx else ∀ j v, (fieldsA (.iface ct cv) ⟨f, d, r, p, e1, e2, e3, cs⟩ A cap U D code)[j]? = some v → wx.cell? ⟨w.heap.size + 1, j, none⟩ = some v)) (fun _ _ => False) [6] (by kernel_rfl) (by kernel_rfl) (fun _ _ _ _ h => h.elim) ⟨(Below.refl _ _).drew, (Below.refl _ _).drew⟩ ?_
  iterate 6
    (apply Chain.walk_quiet (by rfl) (by decide)
     (intro p' wx _ _ hx K hK
      have b0 : wx.cell? ⟨w.heap.size, 0, none⟩ = some (.int .i64 f) := (hx.1.cell (p := ⟨w.heap.size, 0, none⟩) (by show w.heap.size < _; omega)).trans (H0.out 0)
      have b1 : wx.cell? ⟨w.heap.size, 1, none⟩ = some (.int .i64 d) := (hx.1.cell (p := ⟨w.heap.size, 1, none⟩) (by show w.heap.size < _; omega)).trans (H0.out 1)
      have b2 : wx.cell? ⟨w.heap.size, 2, none⟩ = some (.int .i64 r) := (hx.1.cell (p := ⟨w.heap.size, 2, none⟩) (by show w.heap.size < _; omega)).trans (H0.out 2)
      have b3 : wx.cell? ⟨w.heap.size, 3, none⟩ = some (.int .i64 p) := (hx.1.cell (p := ⟨w.heap.size, 3, none⟩) (by show w.heap.size < _; omega)).trans (H0.out 3)
      have b4 : wx.cell? ⟨w.heap.size, 4, none⟩ = some (.float .f64 e1) := (hx.1.cell (p := ⟨w.heap.size, 4, none⟩) (by show w.heap.size < _; omega)).trans (H0.out 4)
      have b5 : wx.cell? ⟨w.heap.size, 5, none⟩ = some (.float .f64 e2) := (hx.1.cell (p := ⟨w.heap.size, 5, none⟩) (by show w.heap.size < _; omega)).trans (H0.out 5)
      have b6 : wx.cell? ⟨w.heap.size, 6, none⟩ = some (.float .f64 e3) := (hx.1.cell (p := ⟨w.heap.size, 6, none⟩) (by show w.heap.size < _; omega)).trans (H0.out 6)
      have b7 : wx.cell? ⟨w.heap.size, 7, none⟩ = some (.slice A cs.length cap) := (hx.1.cell (p := ⟨w.heap.size, 7, none⟩) (by show w.heap.size < _; omega)).trans (H0.out 7)
      have hz2 : w.heap.size + 2 ≤ wx.heap.size := by have := hx.1.size; omega
      have HX := Lib.hid hx
      clear hx
      go_simp
      first
        | (go_at_call 74
           refine (HH.out wx (HBW.out.trans (HX.out.1.mono (by omega)))).mono ?_
           rintro e w3 ⟨rfl, hb3⟩
           refine hK _ ⟨HX.out.1.trans (hb3.mono (by omega)), ?_⟩
           have h2 := HX.out.2
           split
           · rename_i hp0
             rw [if_pos hp0] at h2
             exact h2.trans (hb3.mono (by omega))
           · rename_i hp0
             rw [if_neg hp0] at h2
             exact fun j v hj => (hb3.cell (p := ⟨w.heap.size + 1, j, none⟩) (by show w.heap.size + 1 < _; omega)).trans (h2 j v hj))
        | (go_at_K
           exact hK _ HX.out))
     exact ⟨_, rfl⟩)
  apply Chain.walk_turn 0 (by rfl) (by rfl)
  · intro wx hx K hK
    obtain ⟨hx1, hx2⟩ := hx
    replace hx2 : Below W2.heap.size W2 wx := hx2
    have hgx : wx.heap[w.heap.size + 1]? = some (.cells #[.nilIface, .int .i64 0, .int .i64 0, .int .i64 0, .int .i64 0, .float .f64 0, .float .f64 0, .float .f64 0, .slice none 0 0, .int .u32 0, .int .u32 0, .int .i64 0] 77 (0, 0)) := (hx2.block _ (by omega)).trans HG.out
    have hz : ∀ j v, #[Value.nilIface, .int .i64 0, .int .i64 0, .int .i64 0, .int .i64 0, .float .f64 0, .float .f64 0, .float .f64 0, .slice none 0 0, .int .u32 0, .int .u32 0, .int .i64 0][j]? = some v → wx.cell? ⟨w.heap.size + 1, j, none⟩ = some v := fun j v hj => (cell_of_row _ _ _ _ _ (0, 0) hgx).trans hj
    have hq : ∀ j, wx.frozen? ⟨w.heap.size + 1, j, none⟩ = false := fun j => by simp [World.frozen?, hgx]
    have z0 : wx.cell? ⟨w.heap.size + 1, 0, none⟩ = some (.nilIface) := hz 0 _ rfl
    have q0 := hq 0
    have z1 : wx.cell? ⟨w.heap.size + 1, 1, none⟩ = some (.int .i64 0) := hz 1 _ rfl
    have q1 := hq 1
    have z2 : wx.cell? ⟨w.heap.size + 1, 2, none⟩ = some (.int .i64 0) := hz 2 _ rfl
    have q2 := hq 2
    have z3 : wx.cell? ⟨w.heap.size + 1, 3, none⟩ = some (.int .i64 0) := hz 3 _ rfl
    have q3 := hq 3
    have z4 : wx.cell? ⟨w.heap.size + 1, 4, none⟩ = some (.int .i64 0) := hz 4 _ rfl
    have q4 := hq 4
    have z5 : wx.cell? ⟨w.heap.size + 1, 5, none⟩ = some (.float .f64 0) := hz 5 _ rfl
    have q5 := hq 5
    have z6 : wx.cell? ⟨w.heap.size + 1, 6, none⟩ = some (.float .f64 0) := hz 6 _ rfl
    have q6 := hq 6
    have z7 : wx.cell? ⟨w.heap.size + 1, 7, none⟩ = some (.float .f64 0) := hz 7 _ rfl
    have q7 := hq 7
    have z8 : wx.cell? ⟨w.heap.size + 1, 8, none⟩ = some (.slice none 0 0) := hz 8 _ rfl
    have q8 := hq 8
    have z9 : wx.cell? ⟨w.heap.size + 1, 9, none⟩ = some (.int .u32 0) := hz 9 _ rfl
    have q9 := hq 9
    have z10 : wx.cell? ⟨w.heap.size + 1, 10, none⟩ = some (.int .u32 0) := hz 10 _ rfl
    have q10 := hq 10
    have z11 : wx.cell? ⟨w.heap.size + 1, 11, none⟩ = some (.int .i64 0) := hz 11 _ rfl
    have q11 := hq 11
    have HX1 := Lib.hid hx1
    have HGX := Lib.hid hgx
    clear hx1 hx2 hz hq hgx
    go_simp
    go_at_K
    refine hK _ ⟨?_, ?_⟩
    · refine HX1.out.trans ?_
      go_grown
    · intro j v hj
      match j, hj with
      | 0, hj => cases hj; simp [go_sem, *]; rfl
      | 1, hj => cases hj; simp [go_sem, *]; rfl
      | 2, hj => cases hj; simp [go_sem, *]; rfl
      | 3, hj => cases hj; simp [go_sem, *]; rfl
      | 4, hj => cases hj; simp [go_sem, *]; rfl
      | 5, hj => cases hj; simp [go_sem, *]; rfl
      | 6, hj => cases hj; simp [go_sem, *]; rfl
      | 7, hj => cases hj; simp [go_sem, *]; rfl
      | 8, hj => cases hj; simp [go_sem, *]; rfl
      | 9, hj => cases hj; simp [go_sem, *]; rfl
      | 10, hj => cases hj; simp [go_sem, *]; rfl
      | 11, hj => cases hj; simp [go_sem, *]; rfl
      | j + 12, hj => cases hj
  · exact ⟨undef, rfl⟩
  refine Chain.walk_nil (fun w2 hx => ?_)
  obtain ⟨hx1, hx2⟩ := hx
  replace hx2 : ∀ j v, (fieldsA (.iface ct cv) ⟨f, d, r, p, e1, e2, e3, cs⟩ A cap U D code)[j]? = some v → w2.cell? ⟨w.heap.size + 1, j, none⟩ = some v := hx2
  have y0 := hx2 0 _ rfl
  have y1 := hx2 1 _ rfl
  have y2 := hx2 2 _ rfl
  have y3 := hx2 3 _ rfl
  have y4 := hx2 4 _ rfl
  have y5 := hx2 5 _ rfl
  have y6 := hx2 6 _ rfl
  have y7 := hx2 7 _ rfl
  have y8 := hx2 8 _ rfl
  have y9 := hx2 9 _ rfl
  have y10 := hx2 10 _ rfl
  have y11 := hx2 11 _ rfl
  have HX1 := Lib.hid hx1
  clear hx1 hx2
  go_wp2_with fail
  refine bodyPost_ret (v := .agg (fieldsA (.iface ct cv) ⟨f, d, r, p, e1, e2, e3, cs⟩ A cap U D code)) (by simp [results, Try.results53, go_sem, fieldsA, y0, y1, y2, y3, y4, y5, y6, y7, y8, y9, y10, y11]) rfl ?_
  exact ⟨rfl, HBW.out.trans (HX1.out.mono (by omega))⟩
end

section
open Go.RowKit Frm

/-- What lies behind the blocks that were does not count. -/
theorem Kept.fresh {N g : Nat} {S : Addr → Prop} {w w1 w2 : World} (h0 : Kept N S w w1) (h : Kept N (fun p => S p ∨ p.block = g) w1 w2) (hg : w.heap.size ≤ g) : Kept N S w w2 :=
  ⟨h0.below.trans h.below, fun p v hp hv hn => h.cell p v (h0.cell p v hp hv hn) hv (fun hh => hh.elim hn (fun e => by have := World.block_lt_of_cell? w p hp; omega)), fun p hp => (h.froz p (Nat.lt_of_lt_of_le hp h0.below.size)).trans (h0.froz p hp)⟩

set_option maxRecDepth 100000 in
set_option maxHeartbeats 1000000 in
theorem status_any (k : Kind) (N b : Nat) (px : Addr) (old : Int) (l : List UInt8) (x : BldD) (A : Option Addr) (cap u d : Nat) (code : Int) (w : World) (ho1 : -9223372036854775808 ≤ old) (ho2 : old ≤ 9223372036854775807) (hN : N ≤ w.heap.size)
    (hC : k.At N w b l) (hR : k.Room l 2) (hp : w.cell? px = some (.int .i64 old)) (hpf : w.frozen? px = false) (hpb : px.block ≠ b) (hpN : N ≤ px.block) :
    Calls Try.prog 65 #[.agg (fieldsA (k.v b) x A cap u d code), .pointer (some px)] w fun e w' => Kept N (fun p => p.block = b ∨ p = px) w w' ∧
      ((inB 0 65535 (k.numI l old 2) = true ∧ e = .returned (.tuple #[]) ∧ k.At N w' b (k.next l (m64 old) 2) ∧ w'.cell? px = some (.int .i64 (k.numI l old 2))) ∨ (inB 0 65535 (k.numI l old 2) = false ∧ e = refusedP code)) := by
  obtain ⟨hbw, hNb⟩ := Kind.lt hC
  have hpw := World.block_lt_of_cell? w px hp
  have hk1 : Kept N (fun p => p.block = b ∨ p = px) w ((w.alloc (.cells (fieldsA (k.v b) x A cap u d code) 77)).alloc (.cells #[.int .i64 old] 3)) := ((Kept.refl _ _ _).alloc hN _).alloc (by simp; omega) _
  have hA1 := (hC.alloc (.cells (fieldsA (k.v b) x A cap u d code) 77)).alloc (.cells #[.int .i64 old] 3)
  have hq := heap_alloc_new (w.alloc (.cells (fieldsA (k.v b) x A cap u d code) 77)) (.cells #[.int .i64 old] 3)
  have hz : (w.alloc (.cells (fieldsA (k.v b) x A cap u d code) 77)).heap.size = w.heap.size + 1 := by simp
  rw [hz] at hq
  have hq0 := cell_of_row _ _ 0 _ _ (0, 0) hq
  have hqf : ∀ i, World.frozen? _ ⟨w.heap.size + 1, i, none⟩ = false := fun i => frozen_of_row _ _ _ _ _ hq
  have hk2 : Kept N (fun p => p.block = b) w ((w.alloc (.cells (fieldsA (k.v b) x A cap u d code) 77)).alloc (.cells #[.int .i64 old] 3)) := ((Kept.refl _ _ _).alloc hN _).alloc (by simp; omega) _
  have HPX := Lib.hid (hk2.cell px _ hp rfl hpb)
  have HK1 := Lib.hid hk1
  have HA1 := Lib.hid hA1
  have HQ0 := Lib.hid hq0
  have HQF := Lib.hid hqf
  have HP1 := Lib.hid (hk1.froz px hpw |>.trans hpf)
  clear hk1 hk2 hA1 hq hz hq0 hqf
  unfold fieldsA
  go_enter Try.func65, Try.ntmps65
  go_wp2_with fail
  refine (number_any k N b ⟨w.heap.size + 1, 0, none⟩ old 0 65535 2 l x A cap u d code _ (by omega) ho1 ho2 (by simp; omega) HA1.out hR HQ0.out (HQF.out 0) (by show w.heap.size + 1 ≠ b; omega) (by show N ≤ w.heap.size + 1; omega)).mono ?_
  rintro e w3 ⟨hk3, ⟨ok, rfl, hA3, hc3⟩ | ⟨ok, rfl⟩⟩
  · have hk4 : Kept N (fun p => p.block = b ∨ p = px) w w3 := Kept.fresh (g := w.heap.size + 1) HK1.out (hk3.mono (fun p hp => hp.elim (fun h => .inl (.inl h)) (fun h => .inr (by rw [h])))) (Nat.le_succ _)
    have hs : px.block ≠ w.heap.size + 1 := by omega
    have HK4 := Lib.hid hk4
    have HA3 := Lib.hid hA3
    have hpc := hk3.cell px _ HPX.out rfl (fun hh => hh.elim hpb (fun h => hs (by rw [h])))
    have hpf3 : w3.frozen? px = false := (hk3.froz px (by have := hk3.below.size; have := World.block_lt_of_cell? _ px HPX.out; omega)).trans HP1.out
    have HOK := Lib.hid ok
    clear hk3 ok
    have hbx : (⟨w.heap.size + 1, 0, none⟩ : Addr).block ≠ px.block := fun h => hs h.symm
    go_wp2_with fail
    go_end0
    exact ⟨HK4.out.setCell hpN (.inr rfl) _, .inl ⟨HOK.out, rfl, HA3.out.setCell hpc rfl hpb _, World.cell?_setCell_same _ _ _ hpc⟩⟩
  · exact ⟨rfl, Kept.fresh (g := w.heap.size + 1) HK1.out (hk3.mono (fun p hp => hp.elim (fun h => .inl (.inl h)) (fun h => .inr (by rw [h])))) (Nat.le_succ _), .inr ⟨ok, rfl⟩⟩
end
end Go.Proofs.Ythbfpdkgbkpmiaa
