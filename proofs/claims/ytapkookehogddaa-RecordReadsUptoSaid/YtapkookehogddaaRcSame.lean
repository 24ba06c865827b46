/- Go's '==' of records, and the reference's Same. No statement of the seat is proved here. -/
import Derived.Test.YtapkookehogddaaRcRow
import Derived.ChangeKeysEq
import Derived.BigQuiet
namespace Go.Proofs.Ytapkookehogddaa
open Go.RowKit

theorem fieldsRc : Try.prog.underlying 23 = some (.struct (Try.prog.fieldsOf 23)) := by kernel_rfl
theorem stoodRc : Try.prog.stoodInHeld 23 = false := by kernel_rfl
theorem listRc : (Try.prog.fieldsOf 23).toList = [{ name := "Kind", type := 3, offset := 0, embedded := false, tag := "", pkgPath := "", byteOffset := 0 }, { name := "Floor", type := 3, offset := 1, embedded := false, tag := "", pkgPath := "", byteOffset := 8 }, { name := "Dir", type := 3, offset := 2, embedded := false, tag := "", pkgPath := "", byteOffset := 16 }, { name := "Car", type := 3, offset := 3, embedded := false, tag := "", pkgPath := "", byteOffset := 24 }, { name := "Value", type := 3, offset := 4, embedded := false, tag := "", pkgPath := "", byteOffset := 32 }] := by kernel_rfl
/-- Are two records equal? -/
def Rc.eqB (x y : Rc) : Bool := decide (x = y)
theorem Rc.eqB_parts (x y : Rc) : (x.kind == y.kind && (x.floor == y.floor && (x.dir == y.dir && (x.car == y.car && x.value == y.value)))) = Rc.eqB x y := by
  obtain ⟨a, b, c, d, e⟩ := x
  obtain ⟨a', b', c', d', e'⟩ := y
  unfold Rc.eqB
  rw [Bool.eq_iff_iff]
  simp
theorem equalRc (d : Nat) (x y : Rc) (w : World) : (Op.equalIn (d + 2) 23 x.agg y.agg).run Try.prog w = .ok (Rc.eqB x y) w := by
  rw [← Rc.eqB_parts]
  obtain ⟨x0, x1, x2, x3, x4⟩ := x
  obtain ⟨y0, y1, y2, y3, y4⟩ := y
  simp only [Rc.agg]
  rw [run_equalIn_struct w (d + 1) 23 _ _ fieldsRc stoodRc, listRc]
  have h0 := fun (xs : Array Value) off v => run_part_plain (P := Try.prog) w (e := 3) (off := off) (xs := xs) (v := v) (by kernel_rfl)
  have hi := fun k1 k2 => run_equalIn_int w d 3 .i64 .i64 k1 k2 Try.underlying3
  have p0 := fun a b c e f => h0 #[a, b, c, e, f] 0 a rfl
  have p1 := fun a b c e f => h0 #[a, b, c, e, f] 1 b rfl
  have p2 := fun a b c e f => h0 #[a, b, c, e, f] 2 c rfl
  have p3 := fun a b c e f => h0 #[a, b, c, e, f] 3 e rfl
  have p4 := fun a b c e f => h0 #[a, b, c, e, f] 4 f rfl
  simp [Op.eqFields, p0, p1, p2, p3, p4, hi]
  by_cases g0 : x0 = y0 <;> by_cases g1 : x1 = y1 <;> by_cases g2 : x2 = y2 <;> by_cases g3 : x3 = y3 <;> by_cases g4 : x4 = y4 <;> simp [g0, g1, g2, g3, g4]
theorem eqlRc (x y : Rc) (w : World) : (binOp .eql 23 x.agg y.agg).run Try.prog w = .ok (.bool (Rc.eqB x y)) w := by
  have h := equalRc 9998 x y w
  simp only [Rc.agg] at h ⊢
  rw [run_eql_struct, h]; rfl
theorem neqRc (x y : Rc) (w : World) : (binOp .neq 23 x.agg y.agg).run Try.prog w = .ok (.bool (!Rc.eqB x y)) w := by
  have h := equalRc 9998 x y w
  simp only [Rc.agg] at h ⊢
  rw [run_neq_struct, h]; rfl
theorem list_take_eq {l m : List Rc} (h : l.length = m.length) (e : l.take l.length = m.take l.length) : l = m := by
  rw [List.take_length, h, List.take_length] at e
  exact e
theorem list_take_succ {l m : List Rc} {k : Nat} (h1 : k < l.length) (h2 : k < m.length) (e : l.take k = m.take k) (g : l[k] = m[k]) : l.take (k + 1) = m.take (k + 1) := by
  rw [← List.take_append_getElem h1, ← List.take_append_getElem h2, e, g]

set_option maxHeartbeats 2000000 in
theorem same9_any (l m : List Rc) (v1 v2 : Value) (w : World) (h1 : RV w v1 l) (h2 : RV w v2 m) (hl : l.length ≤ 1000000) (hm : m.length ≤ 1000000) :
    Calls Try.prog 18 #[v1, v2] w fun e w' => e = .returned (.bool (decide (l = m))) ∧ Below w.heap.size w w' := by
  obtain ⟨A1, c1, rfl, hA1⟩ := h1
  obtain ⟨A2, c2, rfl, hA2⟩ := h2
  have H1 := Lib.hid hA1
  have H2 := Lib.hid hA2
  have HD := Lib.hid (fun h : ¬ l = m => (decide_eq_false h : decide (l = m) = false))
  have HT := Lib.hid (fun h : l = m => (decide_eq_true h : decide (l = m) = true))
  clear hA1 hA2
  generalize decide (l = m) = R at *
  by_cases hlm : l.length = m.length
  case neg =>
    have hne : ((l.length : Int) != (m.length : Int)) = true := by simp; omega
    have hR := HD.out (fun h => hlm (by rw [h]))
    go_enter Try.func18, Try.ntmps18
    go_wp2_with fail
    go_ret
    exact ⟨ret_bool hR.symm, Below.refl _ _⟩
  have hne : ((l.length : Int) != (m.length : Int)) = false := by simp; omega
  have HLM := Lib.hid hlm
  clear hlm
  go_enter Try.func18, Try.ntmps18
  go_wp2_with fail
  go_loopw [5] (fun v wr => ∃ k : Nat, k ≤ l.length ∧ v = .int .i64 k ∧ l.take k = m.take k ∧ Below w.heap.size w wr) (fun v _ => l.length - (intOf v).toNat)
  case atStart => exact ⟨0, Nat.zero_le _, rfl, rfl, Below.refl _ _⟩
  case round =>
    obtain ⟨k, hk, rfl, htk, hbw⟩ := hrel
    have HTK := Lib.hid htk
    clear htk
    by_cases hlt : k < l.length
    · have hlt2 : k < m.length := by have := HLM.out; omega
      obtain ⟨b, off, rfl, hb, r0, r1, r2, r3, r4⟩ := (H1.out.below hbw).at_ hlt
      obtain ⟨b', off', rfl, hb', q0, q1, q2, q3, q4⟩ := (H2.out.below hbw).at_ hlt2
      have hnx := neqRc (l[k]) (m[k])
      have HEQ := Lib.hid (fun g => list_take_succ hlt hlt2 HTK.out g)
      have HNQ := Lib.hid (fun (h : l = m) => (by subst h; rfl : l[k] = m[k]))
      generalize l[k] = x at *
      generalize m[k] = y at *
      obtain ⟨x0, x1, x2, x3, x4⟩ := x
      obtain ⟨y0, y1, y2, y3, y4⟩ := y
      simp only [Rc.agg] at r0 r1 r2 r3 r4 q0 q1 q2 q3 q4 hnx
      have HB := Lib.hid hbw
      clear hbw
      by_cases hxy : (⟨x0, x1, x2, x3, x4⟩ : Rc) = ⟨y0, y1, y2, y3, y4⟩
      · have e : Rc.eqB ⟨x0, x1, x2, x3, x4⟩ ⟨y0, y1, y2, y3, y4⟩ = true := decide_eq_true hxy
        rw [e] at hnx
        have HXY := Lib.hid hxy
        clear hxy e
        go_wp2_with fail
        go_quiet (fail)
        go_wp2_with fail
        go_roundw
        case rel => exact ⟨k + 1, by omega, by go_num, HEQ.out HXY.out, below_drewN HB.out _⟩
        case measure => simp [intOf]; omega
      · have e : Rc.eqB ⟨x0, x1, x2, x3, x4⟩ ⟨y0, y1, y2, y3, y4⟩ = false := decide_eq_false hxy
        rw [e] at hnx
        have hR := HD.out (fun h => hxy (HNQ.out h))
        clear hxy e
        go_wp2_with fail
        go_quiet (fail)
        go_wp2_with fail
        go_ret
        exact ⟨ret_bool hR.symm, below_drewN HB.out _⟩
    · obtain rfl : k = l.length := by omega
      have hR := HT.out (list_take_eq HLM.out HTK.out)
      go_wp2
      go_ret
      exact ⟨ret_bool hR.symm, hbw⟩
end Go.Proofs.Ytapkookehogddaa
