/- frame.run: a layout is called, a panic of its own is recovered. No statement of the seat is proved here. -/
import Derived.Test.YtapkjknpoafhjaaFields
import Derived.Defers
import Derived.Recover
namespace Go.Proofs.Ytapkjknpoafhjaa
open Go.RowKit Frm

theorem tryI (u : TypeId) (v : Value) (w : World) (code : Int) (hu : u = 138) (hv : v = .agg #[.int .i64 code]) : (Instr.typeAssert (.iface u v) 20 138 true).run Try.prog w = .ok (.tuple #[.agg #[.int .i64 code], .bool true]) w := by
  subst hu hv
  kernel_rfl
theorem tryN (w : World) : (Instr.typeAssert .nilIface 20 138 true).run Try.prog w = .ok (.tuple #[.agg #[.int .i64 0], .bool false]) w := by kernel_rfl

theorem grown_set (w : World) (o : Obj) (p : Addr) (v : Value) : w.grownBy ((w.alloc o).setCell p v) (some p.block) :=
  ⟨rfl, rfl, rfl, by simp [World.setCell], fun k hk hne => (Below.heap_setCell _ p v k (fun e => hne (by rw [e]))).trans (Below.heap_alloc w o k hk)⟩

theorem grown_cell (w : World) (p : Addr) (v : Value) : w.grownBy (w.setCell p v) (some p.block) :=
  ⟨rfl, rfl, rfl, by simp [World.setCell], fun k _ hne => Below.heap_setCell _ p v k (fun e => hne (by rw [e]))⟩
theorem grown_trans {w w' w'' : World} {row : Option Nat} (h : w.grownBy w' row) (k : w'.grownBy w'' row) : w.grownBy w'' row :=
  ⟨k.os.trans h.os, k.tape.trans h.tape, k.output.trans h.output, Nat.le_trans h.size k.size, fun i hi hne => (k.block i (Nat.lt_of_lt_of_le hi h.size) hne).trans (h.block i hi hne)⟩

set_option maxHeartbeats 1000000 in
theorem caught (p : Addr) (x code : Int) (w : World) (hc : w.cell? p = some (.int .i64 x)) (hz : w.frozen? p = false) :
    CallsD Try.prog 73 #[.pointer (some p)] (.panicking ({ v := .iface 138 (.agg #[.int .i64 code]), recovered := false } :: [])) w fun e u' w' =>
      e = .returned (.tuple #[]) ∧ u' = .panicking ({ v := .iface 138 (.agg #[.int .i64 code]), recovered := true } :: []) ∧ w.grownBy w' (some p.block) ∧ w'.cell? p = some (.int .i64 code) := by
  refine callsD_of_wpS Try.func73 rfl fun c₀ cs hu => ?_
  apply wpS_seq
  apply wpS_region
  simp [wpOpsS, go_sem, recoverD, hu, Try.ntmps73, Exit.thenS]
  have e : (#[Value.pointer (some p)] ++ ((Array.replicate 14 undef).setIfInBounds 3 (.iface 138 (.agg #[.int .i64 code]))).setIfInBounds 0 (.iface 138 (.agg #[.int .i64 code]))) = #[.pointer (some p), .iface 138 (.agg #[.int .i64 code]), undef, undef, .iface 138 (.agg #[.int .i64 code]), undef, undef, undef, undef, undef, undef, undef, undef, undef, undef] := rfl
  rw [e]
  refine wpS_of_wp ?_
  have hlt := World.block_lt_of_cell? w p hc
  have ht := fun w => tryI 138 (.agg #[.int .i64 code]) w code rfl rfl
  have hc' : ∀ o, (w.alloc o).cell? p = some (.int .i64 x) := fun o => (World.cell?_of_block (w := w) (Below.heap_alloc w o p.block hlt)).trans hc
  have hz' : ∀ o, (w.alloc o).frozen? p = false := fun o => (World.frozen?_of_block (w := w) (Below.heap_alloc w o p.block hlt)).trans hz
  have hne : ¬ w.heap.size = p.block := by omega
  clear e
  go_wp2_with fail
  exact ⟨rfl, _, rfl, .tuple #[], by simp [results, Try.results73, go_sem], rfl, rfl, grown_set _ _ _ _, World.cell?_setCell_same _ _ _ (hc' _)⟩

set_option maxHeartbeats 1000000 in
theorem idle (p : Addr) (x : Int) (w : World) (hc : w.cell? p = some (.int .i64 x)) :
    CallsD Try.prog 73 #[.pointer (some p)] .returning w fun e u' w' =>
      e = .returned (.tuple #[]) ∧ u' = .returning ∧ w.grownBy w' (some p.block) ∧ w'.cell? p = some (.int .i64 x) := by
  refine callsD_of_wpS Try.func73 rfl fun c₀ cs hu => ?_
  apply wpS_seq
  apply wpS_region
  simp [wpOpsS, go_sem, recoverD, hu, Try.ntmps73, Exit.thenS]
  have e : (#[Value.pointer (some p)] ++ ((Array.replicate 14 undef).setIfInBounds 3 .nilIface).setIfInBounds 0 .nilIface) = #[.pointer (some p), .nilIface, undef, undef, .nilIface, undef, undef, undef, undef, undef, undef, undef, undef, undef, undef] := rfl
  rw [e]
  refine wpS_of_wp ?_
  have hlt := World.block_lt_of_cell? w p hc
  have ht := fun w => tryN w
  clear e
  go_wp2_with fail
  refine ⟨rfl, .returning, by cases c₀; simp_all, .tuple #[], by simp [results, Try.results73, go_sem], rfl, rfl, ?_, ?_⟩
  · exact World.grownBy_alloc w _ _
  · exact (World.cell?_of_block (w := w) (Below.heap_alloc w _ p.block hlt)).trans hc

/-- What a layout called by run leaves behind: it keeps run's own result; it has ended well, or refused. -/
def LayoutEnd (er : Nat) (G B : World → Prop) (code : Int) (e : Ending) (w1 : World) : Prop :=
  w1.cell? ⟨er, 0, none⟩ = some (.int .i64 0) ∧ w1.frozen? ⟨er, 0, none⟩ = false ∧ ((e = .returned (.tuple #[]) ∧ G w1) ∨ (e = refusedP code ∧ B w1))

set_option maxRecDepth 100000 in
set_option maxHeartbeats 1000000 in
/-- run: whatever the layout is, from its contract. -/
theorem run_any (fid : FuncId) (first cp : Array Value) (G B : World → Prop) (c : Value) (x : BldD) (A : Option Addr) (cap u d : Nat) (code : Int) (w : World) (hen : ∀ (args : Array Value) (w : World), (callFunc fid args).run Try.prog w = .ok (.enter fid args) w)
    (hcall : ∀ wx, Below w.heap.size w wx → w.heap.size + 2 ≤ wx.heap.size → wx.cell? ⟨w.heap.size + 1, 0, none⟩ = some (.int .i64 0) → wx.frozen? ⟨w.heap.size + 1, 0, none⟩ = false →
      Calls Try.prog fid (first.push (.agg (fieldsA c x A cap u d code)) ++ cp) wx (LayoutEnd (w.heap.size + 1) G B code)) :
    Calls Try.prog 52 #[.func (.func fid) first cp, .agg (fieldsA c x A cap u d code)] w fun e w' =>
      ∃ w1, w1.cell? ⟨w.heap.size + 1, 0, none⟩ = some (.int .i64 0) ∧ w1.grownBy w' (some (w.heap.size + 1)) ∧ ((e = .returned (.int .i64 0) ∧ G w1) ∨ (e = .returned (.int .i64 code) ∧ B w1)) := by
  have hmf : ∀ (fn : Fn) (first cap : Array Value) (w : World), (Instr.makeFunc fn first cap).run Try.prog w = .ok (.func fn first cap) w := fun _ _ _ _ => rfl
  have HC := Lib.hid hcall
  clear hcall
  unfold fieldsA
  go_enter_defers Try.func52, Try.ntmps52
  go_wp2_with fail
  refine (HC.out _ (by go_grown) (by simp) (by simp [World.cell?_alloc_at]) (by simp)).mono ?_
  rintro e w1 ⟨hr1, hr2, ⟨rfl, hG⟩ | ⟨rfl, hB⟩⟩
  · go_wp2_with fail
    refine leaves_cons (f := 73) (args := #[.pointer (some ⟨w.heap.size + 1, 0, none⟩)]) (by simp) (by simp [go_sem]) ?_
    refine (idle ⟨w.heap.size + 1, 0, none⟩ 0 _ (World.cell?_setCell_same _ _ _ hr1)).mono ?_
    rintro e u' w'' ⟨rfl, rfl, hg, hc⟩
    exact ⟨.int .i64 0, by simp [results, Try.results52, go_sem, hc], w1, hr1, grown_trans (grown_cell _ _ _) hg, .inl ⟨rfl, hG⟩⟩
  · simp only [refusedP]
    refine leaves_cons (f := 73) (args := #[.pointer (some ⟨w.heap.size + 1, 0, none⟩)]) (by simp) (by simp [go_sem]) ?_
    refine (caught ⟨w.heap.size + 1, 0, none⟩ 0 code _ hr1 hr2).mono ?_
    rintro e u' w'' ⟨rfl, rfl, hg, hc⟩
    exact ⟨.int .i64 code, by simp [results, Try.results52, go_sem, hc], w1, hr1, hg, .inr ⟨rfl, hB⟩⟩
end Go.Proofs.Ytapkjknpoafhjaa
