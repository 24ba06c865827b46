/- What the texts behind this one rest on: several texts in one. No statement of the seat is proved here. -/
import Derived.Test.YtifbkoaggjikpaaLM12
import Derived.Test.YtifbkoaggjikpaaLM04
import Derived.Test.YtifbkoaggjikpaaLM06
import Derived.Test.YtifbkoaggjikpaaLM14
import Derived.Test.YtifbkoaggjikpaaLM10
import Derived.Test.YtifbkoaggjikpaaLM07
import Derived.Test.YtifbkoaggjikpaaLM08
namespace Go.Proofs.Ytifbkoaggjikpaa
section
open Go.RowKit Lg

theorem hall_ok (b : BldD) : Cs.ok ⟨hallUp b, hallDown b⟩ := by
  unfold Cs.ok hallUp hallDown
  by_cases hv : validE b = 0
  · rw [if_pos hv, if_pos hv]
    have := (fine_of hv).1
    have h1 : 2 ^ (b.floors.toNat - 1) ≤ 2 ^ 31 := Nat.pow_le_pow_right (by omega) (by omega)
    have h2 : 2 ^ b.floors.toNat ≤ 2 ^ 32 := Nat.pow_le_pow_right (by omega) (by omega)
    simp only
    omega
  · rw [if_neg hv, if_neg hv]; simp
theorem hall_bits : ∀ F : Fin 33, ∀ k : Fin 32, 2 ≤ F.val → (2 ^ (F.val - 1) - 1).testBit k.val = decide (k.val < F.val - 1) ∧ (2 ^ F.val - 2).testBit k.val = decide (1 ≤ k.val ∧ k.val < F.val) := by decide +kernel
theorem hall_has {b : BldD} (hv : validE b = 0) (f d : Int) : Cs.has ⟨hallUp b, hallDown b⟩ f d = isCallF b f d := by
  have hF := (fine_of hv).1
  have hok := hall_ok b
  have hu : hallUp b = 2 ^ (b.floors.toNat - 1) - 1 := if_pos hv
  have hd : hallDown b = 2 ^ b.floors.toNat - 2 := if_pos hv
  by_cases hf : 0 ≤ f ∧ f < 32
  · have hb := hall_bits ⟨b.floors.toNat, by omega⟩ ⟨f.toNat, by omega⟩ (by show 2 ≤ b.floors.toNat; omega)
    simp only at hb
    have hk : f = ((f.toNat : Nat) : Int) := by omega
    by_cases h1 : d = 1
    · subst h1
      rw [hk, Cs.has_up hok (by omega)]
      show (hallUp b).testBit f.toNat = _
      rw [hu, hb.1, Bool.eq_iff_iff]
      simp [isCallF, hv, inAll]
      omega
    · by_cases h2 : d = 2
      · subst h2
        rw [hk, Cs.has_dn hok (by omega)]
        show (hallDown b).testBit f.toNat = _
        rw [hd, hb.2, Bool.eq_iff_iff]
        simp [isCallF, hv, inAll]
        omega
      · rw [Cs.has_dir _ _ h1 h2]
        simp [isCallF, h1, h2]
  · rw [Cs.has_floor _ hf]
    symm
    rw [← Bool.not_eq_true]
    simp [isCallF, hv, inAll]
    omega
namespace Lg
def fillB (b : BldD) (e : En) : Bool := decide (-2 ≤ e.car) && (decide (e.car < b.cars.length) && (decide (0 ≤ e.mv) && decide (e.mv ≤ 255)))
def prevB : Option En → En → Bool | none, _ => true | some q, e => lessE q e
def entB (b : BldD) : Option En → List En → Bool
  | _, [] => true
  | p, e :: r => prevB p e && (isCallF b e.f e.d && (fillB b e && entB b (some e) r))
theorem entB_some (b : BldD) : ∀ (l : List En) (q : En), entB b (some q) l = (l.all (enB b) && sortedB (q :: l))
  | [], q => rfl
  | e :: r, q => by
    unfold entB sortedB
    rw [entB_some b r e, List.all_cons, show enB b e = (isCallF b e.f e.d && fillB b e) from rfl, show prevB (some q) e = lessE q e from rfl]
    generalize r.all (enB b) = X
    generalize sortedB (e :: r) = Y
    generalize isCallF b e.f e.d = Z
    generalize fillB b e = V
    generalize lessE q e = U
    cases U <;> cases X <;> cases Y <;> cases Z <;> cases V <;> rfl
theorem entB_none (b : BldD) (l : List En) : entB b none l = (l.all (enB b) && sortedB l) := by
  cases l with
  | nil => rfl
  | cons e r =>
    unfold entB
    rw [entB_some b r e, List.all_cons, show enB b e = (isCallF b e.f e.d && fillB b e) from rfl, show prevB none e = true from rfl]
    generalize r.all (enB b) = X
    generalize sortedB (e :: r) = Y
    generalize isCallF b e.f e.d = Z
    generalize fillB b e = V
    cases X <;> cases Y <;> cases Z <;> cases V <;> rfl
def prevO (l : List En) (k : Nat) : Option En := if k = 0 then none else l[k - 1]?
theorem entB_drop (b : BldD) {l : List En} {k : Nat} (h : k < l.length) : entB b (prevO l k) (l.drop k) = (prevB (prevO l k) l[k] && (isCallF b (l[k]).f (l[k]).d && (fillB b l[k] && entB b (prevO l (k + 1)) (l.drop (k + 1))))) := by
  have e : prevO l (k + 1) = some l[k] := by unfold prevO; rw [if_neg (by omega), Nat.add_sub_cancel, List.getElem?_eq_getElem h]
  rw [List.drop_eq_getElem_cons h, e]
  rfl
end Lg
set_option maxRecDepth 100000 in
theorem isFilled_any (b : BldD) (A : Option Addr) (cap : Nat) (e : En) (w : World) (hn : b.cars.length ≤ 140737488355328) :
    Calls Try.prog 86 #[b.agg A cap, e.agg] w fun r w' => r = .returned (.bool (fillB b e)) ∧ Below w.heap.size w w' := by
  have hfin : fillB b e = (decide (-2 ≤ e.car) && (decide (e.car < b.cars.length) && (decide (0 ≤ e.mv) && decide (e.mv ≤ 255)))) := rfl
  rw [hfin]
  clear hfin
  obtain ⟨f, d, r, p, e1, e2, e3, cs⟩ := b
  obtain ⟨x1, x2, x3, x4, x5⟩ := e
  simp only [BldD.agg, En.agg] at *
  generalize cs.length = n at *
  go_enter Try.func86, Try.ntmps86
  by_cases h1 : -2 ≤ x3
  · by_cases h2 : x3 < (n : Int)
    · by_cases h3 : 0 ≤ x4
      · by_cases h4 : x4 ≤ 255
        all_goals
          go_wp2
          all_goals
            go_ret
            refine ⟨ret_bool ?_, by go_grown⟩
            first | (simp [*]; done) | (simp [*]; omega)
      · go_wp2
        all_goals
          go_ret
          refine ⟨ret_bool ?_, by go_grown⟩
          first | (simp [*]; done) | (simp [*]; omega)
    · go_wp2
      all_goals
        go_ret
        refine ⟨ret_bool ?_, by go_grown⟩
        first | (simp [*]; done) | (simp [*]; omega)
  · go_wp2
    all_goals
      go_ret
      refine ⟨ret_bool ?_, by go_grown⟩
      first | (simp [*]; done) | (simp [*]; omega)
set_option maxRecDepth 100000 in
set_option maxHeartbeats 4000000 in
theorem areEntries_any (b : BldD) (A : Option Addr) (cap : Nat) (l : List En) (v : Value) (w : World) (hv : validE b = 0) (hc : CarsAt w w.heap.size A b.cars) (hl : l.length ≤ 1000000) (he : EV w v l) :
    Calls Try.prog 54 #[b.agg A cap, v] w fun e w' => e = .returned (.bool (entB b none l)) ∧ Below w.heap.size w w' := by
  have hC := (fine_of hv).cars
  obtain ⟨A1, cap1, rfl, hA⟩ := he
  have FH := Lib.hid (fun wx (h : Below w.heap.size w wx) => hall_any b A cap wx (by omega) ((hc.below h).more h.size))
  have FS := Lib.hid (fun f d wx => by
    have := has_any ⟨hallUp b, hallDown b⟩ f d wx (hall_ok b)
    rw [hall_has hv] at this
    exact this)
  have FF := Lib.hid (fun e wx => isFilled_any b A cap e wx (by omega))
  have FO := Lib.hid (fun a c wx => order_any a c wx)
  have HO := Lib.hid (fun a c => ordI_neg a c)
  have HA := Lib.hid (fun wx (h : Below w.heap.size w wx) k (hk : k < l.length) => (hA.below h).at_ hk)
  have HD := Lib.hid (fun k (h : k < l.length) => entB_drop b h)
  obtain ⟨R, hR⟩ : ∃ R, R = entB b none l := ⟨_, rfl⟩
  rw [← hR]
  have HR := Lib.hid (show R = entB b (prevO l 0) (l.drop 0) from hR)
  have HE := Lib.hid (fun k (h : ¬ k < l.length) => show entB b (prevO l k) (l.drop k) = true by rw [List.drop_eq_nil_of_le (by omega)]; rfl)
  clear hR hc hA hv
  simp only [Cs.agg] at FS
  unfold callsV at FH
  generalize hallUp b = u at *
  generalize hallDown b = u' at *
  generalize isCallF b = IC at *
  generalize fillB b = FB at *
  generalize entB b = EB at *
  obtain ⟨f, d, r, p, e1, e2, e3, cs⟩ := b
  simp only [BldD.agg, En.agg] at *
  generalize cs.length = n at *
  clear hC
  go_enter Try.func54, Try.ntmps54
  go_wp2_with fail
  refine (FH.out _ (by go_grown)).mono ?_
  rintro e w1 ⟨rfl, hb⟩
  have HB := Lib.hid (show Below (w.heap.size + 1) (w.alloc (.cells #[.int .i64 f, .int .i64 d, .int .i64 r, .int .i64 p, .float .f64 e1, .float .f64 e2, .float .f64 e3, .slice A n cap] 26)) w1 from hb.mono (by simp))
  have hz := hb.size
  simp at hz
  clear hb
  go_wp2_with fail
  have HFB := Lib.hid (fun (wx : World) (h : Below (w1.heap.size + 1) (w1.alloc (.cells #[.int .u32 u, .int .u32 u'] 61)) wx) => (below_of_new HB.out).trans ((((Below.refl w1.heap.size w1).alloc (Nat.le_refl _) (.cells #[.int .u32 u, .int .u32 u'] 61)).trans (h.mono (by omega))).mono (by omega)))
  have HBX := Lib.hid (fun (wx : World) (h : Below (w1.heap.size + 1) (w1.alloc (.cells #[.int .u32 u, .int .u32 u'] 61)) wx) => boxRow ((h.block w.heap.size (by omega)).trans ((Below.heap_alloc _ _ _ (by omega)).trans ((HB.out.block w.heap.size (by omega)).trans (heap_alloc_new w _)))))
  have HHX := Lib.hid (fun (wx : World) (h : Below (w1.heap.size + 1) (w1.alloc (.cells #[.int .u32 u, .int .u32 u'] 61)) wx) => (⟨(cell_of_row _ _ 0 _ _ (0, 0) ((h.block w1.heap.size (by omega)).trans (heap_alloc_new w1 _))), (cell_of_row _ _ 1 _ _ (0, 0) ((h.block w1.heap.size (by omega)).trans (heap_alloc_new w1 _)))⟩ : wx.cell? ⟨w1.heap.size, 0, none⟩ = some (.int .u32 u) ∧ wx.cell? ⟨w1.heap.size, 1, none⟩ = some (.int .u32 u')))
  clear HB
  have HST := Lib.hid (show Below (w1.heap.size + 1) (w1.alloc (.cells #[.int .u32 u, .int .u32 u'] 61)) (w1.alloc (.cells #[.int .u32 u, .int .u32 u'] 61)) from Below.refl _ _)
  go_loopw [13] (fun v wr => ∃ k : Nat, k ≤ l.length ∧ v = .int .i64 (k : Int) ∧ Hid (R = EB (prevO l k) (l.drop k)) ∧ Below (w1.heap.size + 1) (w1.alloc (.cells #[.int .u32 u, .int .u32 u'] 61)) wr) (fun v _ => l.length - (intOf v).toNat)
  case atStart => exact ⟨0, by omega, rfl, HR.out, HST.out⟩
  case round =>
    obtain ⟨k, hk, rfl, hR1, hbw⟩ := hrel
    have HBW := Lib.hid hbw
    have hzr := hbw.size
    simp at hzr
    clear hbw
    by_cases hlt : k < l.length
    case neg =>
      have hR0 := Lib.hid (hR1.out.trans (HE.out k hlt))
      clear hR1
      go_wp2_with fail
      go_ret
      exact ⟨ret_bool hR0.out.symm, HFB.out _ HBW.out⟩
    obtain ⟨bb, off, rfl, hbb, r0, r1, r2, r3, r4⟩ := HA.out wr (HFB.out wr HBW.out) k hlt
    have hdk := HD.out k hlt
    rw [← hR1.out] at hdk
    clear hR1
    have HLK := Lib.hid (show l[k]? = some l[k] from List.getElem?_eq_getElem hlt)
    generalize l[k] = x at *
    obtain ⟨x1, x2, x3, x4, x5⟩ := x
    simp only at hdk r0 r1 r2 r3 r4
    have HDK := Lib.hid hdk
    clear hdk
    -- ROUND
    have HG := Lib.hid (heap_alloc_new wr (.cells #[.int .i64 x1, .int .i64 x2, .int .i64 x3, .int .i64 x4, .bool x5] 71))
    have HW4 := Lib.hid (HBW.out.alloc (by omega) (.cells #[.int .i64 x1, .int .i64 x2, .int .i64 x3, .int .i64 x4, .bool x5] 71))
    have HX1 := Lib.hid (show prevO l 0 = none from rfl)
    by_cases hk0 : k = 0
    case pos =>
      have HDK := Lib.hid (show R = (true && (IC x1 x2 && (FB ⟨x1, x2, x3, x4, x5⟩ && EB (prevO l (k + 1)) (l.drop (k + 1))))) by rw [HDK.out]; rw [show prevO l k = none by rw [hk0]; exact HX1.out]; rfl)
      have hkz : ((k : Int) == 0) = true := by rw [hk0]; rfl
      clear hk0
      go_wp2_with fail
      clear r0 r1 r2 r3 r4
      refine Bag.region (fun wx => Below (wr.alloc (.cells #[.int .i64 x1, .int .i64 x2, .int .i64 x3, .int .i64 x4, .bool x5] 71)).heap.size (wr.alloc (.cells #[.int .i64 x1, .int .i64 x2, .int .i64 x3, .int .i64 x4, .bool x5] 71)) wx) (by kernel_rfl) (by kernel_rfl) (Below.refl _ _).drew ?_
      iterate 13 (first
          | (apply Bag.walk_yes (by rfl)
             (intro wx hx K hK
              first
                | (go_simp
                   first
                    | (go_at_K; exact hK _ hx)))
             rfl)
          | (refine Bag.walk_no (by rfl) ?_; simp only [Act.put, List.setIfInBounds_toArray, List.set_cons_succ, List.set_cons_zero]))
      refine Bag.walk_nil (fun w5 hb5 => ?_)
      have HB5 := Lib.hid (HW4.out.trans (hb5.mono (by have := HW4.out.size; simp at this ⊢; omega)))
      have HG5 := Lib.hid ((hb5.block wr.heap.size (by simp)).trans HG.out)
      clear hb5
      obtain ⟨c0, c1, c2, c3, c4, c5, c6, c7⟩ := HBX.out w5 HB5.out
      obtain ⟨z0, z1, z2, z3, z4⟩ := enRowCells HG5.out
      obtain ⟨h0, h1⟩ := HHX.out w5 HB5.out
      go_wp2_with fail
      refine (FS.out _ _ _).mono ?_
      rintro e w6 ⟨rfl, hb6⟩
      clear c0 c1 c2 c3 c4 c5 c6 c7 z0 z1 z2 z3 z4 h0 h1
      have hx6 := HB5.out.trans (hb6.mono (by have := HB5.out.size; simp at this ⊢; omega))
      obtain ⟨c0, c1, c2, c3, c4, c5, c6, c7⟩ := HBX.out w6 hx6
      obtain ⟨z0, z1, z2, z3, z4⟩ := enRowCells ((hb6.block _ (Array.getElem?_eq_some_iff.1 HG5.out).1).trans HG5.out)
      have HB6 := Lib.hid hx6
      clear hb6 hx6
      cases hic : IC x1 x2
      case false =>
        have hR0 := Lib.hid (show R = false by rw [HDK.out, hic]; rfl)
        clear HDK hic
        go_wp2_with fail
        go_ret
        exact ⟨ret_bool hR0.out.symm, HFB.out w6 HB6.out⟩
      case true =>
        have HIC := Lib.hid hic
        clear hic
        go_wp2_with fail
        refine (FF.out ⟨x1, x2, x3, x4, x5⟩ _).mono ?_
        rintro e w7 ⟨rfl, hb7⟩
        have HB7 := Lib.hid (HB6.out.trans (hb7.mono (by have := HB6.out.size; simp at this ⊢; omega)))
        clear hb7 c0 c1 c2 c3 c4 c5 c6 c7 z0 z1 z2 z3 z4
        cases hfb : FB ⟨x1, x2, x3, x4, x5⟩
        case false =>
          have hR0 := Lib.hid (show R = false by rw [HDK.out, HIC.out, hfb]; rfl)
          clear HDK hfb
          go_wp2_with fail
          go_ret
          exact ⟨ret_bool hR0.out.symm, HFB.out w7 HB7.out⟩
        case true =>
          have hR0 := Lib.hid (show R = EB (prevO l (k + 1)) (l.drop (k + 1)) by rw [HDK.out, HIC.out, hfb]; rfl)
          clear HDK hfb
          go_wp2_with fail
          go_roundw
          case rel => exact ⟨k + 1, by omega, by go_num, hR0.out, HB7.out⟩
          case measure => simp [intOf]; omega
    case neg =>
      have hkz : ((k : Int) == 0) = false := by simp; omega
      obtain ⟨j, hj⟩ : ∃ j, k = j + 1 := ⟨k - 1, by omega⟩
      have hjl : j < l.length := by omega
      obtain ⟨bb2, off2, hbb2, -, p0, p1, p2, p3, p4⟩ := HA.out (wr.alloc (.cells #[.int .i64 x1, .int .i64 x2, .int .i64 x3, .int .i64 x4, .bool x5] 71)) (HFB.out _ HW4.out) j hjl
      obtain ⟨rfl, rfl⟩ : bb = bb2 ∧ off = off2 := by
        injection hbb2 with e; injection e with e1 e2 _; exact ⟨e1, e2⟩
      have HDK := Lib.hid (show R = (lessE l[j] ⟨x1, x2, x3, x4, x5⟩ && (IC x1 x2 && (FB ⟨x1, x2, x3, x4, x5⟩ && EB (prevO l (k + 1)) (l.drop (k + 1))))) by
        rw [HDK.out]
        rw [show prevO l k = some l[j] by unfold prevO; rw [if_neg hk0, show k - 1 = j by omega, List.getElem?_eq_getElem hjl]]
        rfl)
      have FO1 := Lib.hid (fun wx => FO.out l[j] ⟨x1, x2, x3, x4, x5⟩ wx)
      have hlo := HO.out l[j] ⟨x1, x2, x3, x4, x5⟩
      generalize ordI l[j] ⟨x1, x2, x3, x4, x5⟩ = ord at *
      generalize lessE l[j] ⟨x1, x2, x3, x4, x5⟩ = U at *
      generalize l[j] = y at *
      obtain ⟨y1, y2, y3, y4, y5⟩ := y
      simp only at FO1 p0 p1 p2 p3 p4
      have hwj : IntKind.i64.wrap ((k : Int) - 1) = (j : Int) := by rw [hj]; rw [IntWalk.i64_in _ (by omega)]; omega
      have hjn : ((j : Int)).toNat = j := rfl
      have hj0 : (0 : Int) ≤ (j : Int) := by omega
      have hbbw : bb < (wr.alloc (.cells #[.int .i64 x1, .int .i64 x2, .int .i64 x3, .int .i64 x4, .bool x5] 71)).heap.size := by simp; omega
      clear hj hk0 hbb2
      go_wp2_with fail
      clear r0 r1 r2 r3 r4
      refine Bag.region (fun wx => Below (wr.alloc (.cells #[.int .i64 x1, .int .i64 x2, .int .i64 x3, .int .i64 x4, .bool x5] 71)).heap.size (wr.alloc (.cells #[.int .i64 x1, .int .i64 x2, .int .i64 x3, .int .i64 x4, .bool x5] 71)) wx) (by kernel_rfl) (by kernel_rfl) (Below.refl _ _).drew ?_
      iterate 13 (first
          | (apply Bag.walk_yes (by rfl)
             (intro wx hx K hK
              have q0 := (hx.cell (p := ⟨bb, off + j * 5, none⟩) hbbw).trans p0
              have q1 := (hx.cell (p := ⟨bb, off + j * 5 + 1, none⟩) hbbw).trans p1
              have q2 := (hx.cell (p := ⟨bb, off + j * 5 + 2, none⟩) hbbw).trans p2
              have q3 := (hx.cell (p := ⟨bb, off + j * 5 + 3, none⟩) hbbw).trans p3
              have q4 := (hx.cell (p := ⟨bb, off + j * 5 + 4, none⟩) hbbw).trans p4
              obtain ⟨z0, z1, z2, z3, z4⟩ := enRowCells ((hx.block wr.heap.size (by simp)).trans HG.out)
              first
                | (go_simp
                   first
                    | (go_at_call 84; (with_reducible refine (FO1.out _).mono ?_); rintro e w' ⟨rfl, hb⟩; exact hK _ (hx.trans (hb.mono hx.size)))
                    | (go_at_K; exact hK _ hx)))
             rfl)
          | (refine Bag.walk_no (by rfl) ?_; simp only [Act.put, List.setIfInBounds_toArray, List.set_cons_succ, List.set_cons_zero]))
      refine Bag.walk_nil (fun w5 hb5 => ?_)
      clear p0 p1 p2 p3 p4
      cases U
      case false =>
        have hR0 := Lib.hid (show R = false from HDK.out)
        have HB5 := Lib.hid (HW4.out.trans (hb5.mono (by have := HW4.out.size; simp at this ⊢; omega)))
        clear HDK hb5
        go_wp2_with fail
        go_ret
        exact ⟨ret_bool hR0.out.symm, HFB.out w5 HB5.out⟩
      case true =>
        have HB5 := Lib.hid (HW4.out.trans (hb5.mono (by have := HW4.out.size; simp at this ⊢; omega)))
        have HG5 := Lib.hid ((hb5.block wr.heap.size (by simp)).trans HG.out)
        clear hb5
        obtain ⟨c0, c1, c2, c3, c4, c5, c6, c7⟩ := HBX.out w5 HB5.out
        obtain ⟨z0, z1, z2, z3, z4⟩ := enRowCells HG5.out
        obtain ⟨h0, h1⟩ := HHX.out w5 HB5.out
        go_wp2_with fail
        refine (FS.out _ _ _).mono ?_
        rintro e w6 ⟨rfl, hb6⟩
        clear c0 c1 c2 c3 c4 c5 c6 c7 z0 z1 z2 z3 z4 h0 h1
        have hx6 := HB5.out.trans (hb6.mono (by have := HB5.out.size; simp at this ⊢; omega))
        obtain ⟨c0, c1, c2, c3, c4, c5, c6, c7⟩ := HBX.out w6 hx6
        obtain ⟨z0, z1, z2, z3, z4⟩ := enRowCells ((hb6.block _ (Array.getElem?_eq_some_iff.1 HG5.out).1).trans HG5.out)
        have HB6 := Lib.hid hx6
        clear hb6 hx6
        cases hic : IC x1 x2
        case false =>
          have hR0 := Lib.hid (show R = false by rw [HDK.out, hic]; rfl)
          clear HDK hic
          go_wp2_with fail
          go_ret
          exact ⟨ret_bool hR0.out.symm, HFB.out w6 HB6.out⟩
        case true =>
          have HIC := Lib.hid hic
          clear hic
          go_wp2_with fail
          refine (FF.out ⟨x1, x2, x3, x4, x5⟩ _).mono ?_
          rintro e w7 ⟨rfl, hb7⟩
          have HB7 := Lib.hid (HB6.out.trans (hb7.mono (by have := HB6.out.size; simp at this ⊢; omega)))
          clear hb7 c0 c1 c2 c3 c4 c5 c6 c7 z0 z1 z2 z3 z4
          cases hfb : FB ⟨x1, x2, x3, x4, x5⟩
          case false =>
            have hR0 := Lib.hid (show R = false by rw [HDK.out, HIC.out, hfb]; rfl)
            clear HDK hfb
            go_wp2_with fail
            go_ret
            exact ⟨ret_bool hR0.out.symm, HFB.out w7 HB7.out⟩
          case true =>
            have hR0 := Lib.hid (show R = EB (prevO l (k + 1)) (l.drop (k + 1)) by rw [HDK.out, HIC.out, hfb]; rfl)
            clear HDK hfb
            go_wp2_with fail
            go_roundw
            case rel => exact ⟨k + 1, by omega, by go_num, hR0.out, HB7.out⟩
            case measure => simp [intOf]; omega
end

section
open Go.RowKit

/-- The building of these numbers: so many floors, so many cars, so much room. -/
def bldR (F : Int) (C room : Nat) : BldD := { sampleD F C with room := 18 * (C : Int) + 24 + room }
theorem bldR_valid (F : Int) (C room : Nat) (h1 : 2 ≤ F) (h2 : F ≤ 32) (h3 : 1 ≤ C) (h4 : C ≤ 8) (h5 : room ≤ 60000) : validE (bldR F C room) = 0 := by
  have hs := sample_valid F C h1 h2 h3 h4
  have a1 : inAll 2 32 [(bldR F C room).floors] = true := by simp [inAll, bldR, sampleD]; omega
  have a2 : inAll 1 8 [((bldR F C room).cars.length : Int)] = true := by simp [inAll, bldR, sampleD, sampleCars_length]; omega
  have a3 : timesFitB (bldR F C room) = true := by
    unfold timesFitB
    have : (bldR F C room).cars.all (carFitsB (bldR F C room).floors) = true := by
      rw [List.all_eq_true]
      intro c hc
      simp only [bldR, sampleD, sampleCars, List.mem_map] at hc ⊢
      obtain ⟨i, _, rfl⟩ := hc
      exact carFits_sample F i h1
    rw [this]
    rfl
  have a4 : loadsB (bldR F C room) = true := (loads_sample : loadsB (sampleD F C) = true)
  have a5 : roomB (bldR F C room) = true := by simp [roomB, inAll, bldR, sampleD, sampleCars_length]; omega
  unfold validE
  rw [a1, a2, a3, a4, a5]
  rfl

set_option maxRecDepth 100000 in
set_option maxHeartbeats 4000000 in
theorem building10_any (n room : Nat) (w : World) (hn : n < 256) (hr : room < 256) :
    Calls Try.prog 8 #[.int .u8 n, .int .u8 room] w fun e w' => Below w.heap.size w w' ∧ ∃ A cap, e = .returned ((bldR ((2 + n % 7 : Nat) : Int) (1 + n / 7 % 3) room).agg A cap) ∧ CarsAt w' w'.heap.size A (bldR ((2 + n % 7 : Nat) : Int) (1 + n / 7 % 3) room).cars := by
  have h1 : (n : Int).tmod 7 = ((n % 7 : Nat) : Int) := by rw [Int.tmod_eq_emod_of_nonneg (by omega)]; omega
  have h2 : (n : Int).tdiv 7 = ((n / 7 : Nat) : Int) := by rw [Int.tdiv_eq_ediv_of_nonneg (by omega)]; omega
  have h3 : ((n / 7 : Nat) : Int).tmod 3 = ((n / 7 % 3 : Nat) : Int) := by rw [Int.tmod_eq_emod_of_nonneg (by omega)]; omega
  obtain ⟨a, ha⟩ : ∃ a, a = n % 7 := ⟨_, rfl⟩
  obtain ⟨q, hq⟩ : ∃ q, q = n / 7 := ⟨_, rfl⟩
  have hq8 : q ≤ 36 := by omega
  rw [← ha] at h1
  rw [← hq] at h2 h3
  rw [← ha, ← hq]
  obtain ⟨c, hc⟩ : ∃ c, c = q % 3 := ⟨_, rfl⟩
  rw [← hc] at h3 ⊢
  have ha31 : a < 7 := by omega
  have hc8 : c < 3 := by omega
  clear ha hq hc
  have hw1 : IntKind.u8.wrap (a : Int) = (a : Int) := by rw [IntKind.wrap_u8]; omega
  have hw2 : IntKind.u8.wrap (q : Int) = (q : Int) := by rw [IntKind.wrap_u8]; omega
  have hw3 : IntKind.u8.wrap (c : Int) = (c : Int) := by rw [IntKind.wrap_u8]; omega
  go_enter Try.func8, Try.ntmps8
  go_wp2_with fail
  rw [show (1 + (c : Int)) = ((1 + c : Nat) : Int) from by omega, show (2 + (a : Int)) = ((2 + a : Nat) : Int) from by omega]
  refine (sample_any ((2 + a : Nat) : Int) (1 + c) _ (by omega) (by omega) (by omega)).mono ?_
  generalize hF : ((2 + a : Nat) : Int) = F
  generalize hC : 1 + c = C
  have hC3 : C ≤ 3 := by omega
  have HFF := Lib.hid hF
  have HCC := Lib.hid hC
  clear hF hC h1 h2 h3 hw1 hw2 hw3
  rintro e w1 ⟨A, cap, rfl, hcars, hb1, hA⟩
  have hl := sampleCars_length F C
  have hz := hb1.size
  simp at hz
  have HR1 := Lib.hid ((hb1.block w.heap.size (by simp)).trans (heap_alloc_new w _))
  have HB1 := Lib.hid (((Below.refl w.heap.size w).alloc (Nat.le_refl _) (.cells #[.int .i64 0, .int .i64 0, .int .i64 0, .int .i64 0, .float .f64 0, .float .f64 0, .float .f64 0, .slice none 0 0] 26)).trans (hb1.mono (by simp)))
  have HCA := Lib.hid hcars
  have rg := heap_alloc_new w1 (.cells #[.int .i64 0, .int .i64 0, .int .i64 0, .int .i64 0, .float .f64 0, .float .f64 0, .float .f64 0, .slice none 0 0] 26)
  clear hb1 hcars
  simp only [BldD.agg, sampleD, hl]
  go_wp2_with (with_reducible show wpList _ _ _ (Oper.mk _ (.store 26 _ _) _ _ _ _ :: _) _ _; refine wpList_put rfl 26 _ _ rfl w1.heap.size #[.int .i64 F, .int .i64 1, .int .i64 4000, .int .i64 30, .float .f64 4591870180066957722, .float .f64 4605380978949069210, .float .f64 4607632778762754458, .slice A C cap] _ 26 rfl rfl rg (by kernel_rfl) rfl (by kernel_rfl) ?_; intro w2 hr2 hg2; refine Hid.out ?_)
  have hbk := fun k (hk : k < w1.heap.size) => (hg2.out.block k (by simp; omega) (fun e => by have := Option.some.inj e; omega)).trans (Below.heap_alloc w1 (.cells #[.int .i64 0, .int .i64 0, .int .i64 0, .int .i64 0, .float .f64 0, .float .f64 0, .float .f64 0, .slice none 0 0] 26) k hk)
  have hz2 : w1.heap.size < w2.heap.size := by have := hg2.out.size; simp at this; omega
  have r1 := (hbk w.heap.size (by omega)).trans HR1.out
  have r1' := (Below.heap_setCell w2 ⟨w1.heap.size, 2, none⟩ (.int .i64 (18 * (C : Int) + 24 + room)) w.heap.size (by show w.heap.size ≠ w1.heap.size; omega)).trans r1
  have HBK := Lib.hid hbk
  have HB2 := Lib.hid ((HB1.out.trans ((Below.refl w1.heap.size w1).alloc (Nat.le_refl _) (.cells #[.int .i64 0, .int .i64 0, .int .i64 0, .int .i64 0, .float .f64 0, .float .f64 0, .float .f64 0, .slice none 0 0] 26) |>.mono (by omega))).trans (below_grown hg2.out (by simp; omega) (fun k hk => by injection hk with hk; omega)))
  obtain ⟨y0, y1, y2, y3, y4, y5, y6, y7⟩ := boxRow hr2.out
  have f2 := frozen_of_row w2 w1.heap.size 2 _ _ hr2.out
  have i1 : IntKind.i64.wrap (18 * (C : Int)) = 18 * (C : Int) := IntWalk.i64_in _ (by omega)
  have i2 : IntKind.i64.wrap (18 * (C : Int) + 24) = 18 * (C : Int) + 24 := IntWalk.i64_in _ (by omega)
  have i3 : IntKind.i64.wrap (18 * (C : Int) + 24 + (room : Int)) = 18 * (C : Int) + 24 + room := IntWalk.i64_in _ (by omega)
  have i4 : IntKind.i64.wrap (room : Int) = (room : Int) := IntWalk.i64_in _ (by omega)
  clear hbk r1 hg2 hr2 rg
  refine Lib.hid ?_
  go_wp2_with (with_reducible show wpList _ _ _ (Oper.mk _ (.store 26 _ _) _ _ _ _ :: _) _ _; refine wpList_put rfl 26 _ _ rfl w.heap.size #[.int .i64 F, .int .i64 1, .int .i64 (18 * (C : Int) + 24 + room), .int .i64 30, .float .f64 4591870180066957722, .float .f64 4605380978949069210, .float .f64 4607632778762754458, .slice A C cap] _ 26 rfl rfl r1' (by kernel_rfl) rfl (by kernel_rfl) ?_; intro w4 hr4 hg4; refine Hid.out ?_)
  have hcs : ∀ k, k < w1.heap.size → k ≠ w.heap.size → w4.heap[k]? = w1.heap[k]? := fun k hk hn => (hg4.out.block k (by simp [World.setCell]; omega) (fun e => hn (Option.some.inj e))).trans ((Below.heap_setCell w2 ⟨w1.heap.size, 2, none⟩ _ k (by show k ≠ w1.heap.size; omega)).trans (HBK.out k hk))
  have hsz : w1.heap.size < w4.heap.size := by have := hg4.out.size; simp [World.setCell] at this; omega
  have HB4 := Lib.hid (((HB2.out.setCell (p := ⟨w1.heap.size, 2, none⟩) (by show w.heap.size ≤ w1.heap.size; omega) (.int .i64 (18 * (C : Int) + 24 + room)))).trans (below_grown hg4.out (by simp [World.setCell]; omega) (fun k hk => by injection hk with hk; omega)))
  have HCS : Hid (CarsAt w4 w4.heap.size A (sampleCars F C)) := Lib.hid (by
    rcases HCA.out with h | ⟨b, off, hAe, hb, h⟩
    · exact .inl h
    · have hb2 := hA _ hAe
      refine .inr ⟨b, off, hAe, by omega, fun i hi j hj => (World.cell?_of_block (w := w1) (hcs b hb (by simp at hb2; omega))).trans (h i hi j hj)⟩)
  clear hcs
  refine Lib.hid ?_
  try go_wp2_with fail
  exact bodyPost_ret (results_cell_row Try.results8 _ _ _ _ _ (0, 0) _ rfl (hr4.out) Try.underlying26 rfl (by kernel_rfl)) rfl (⟨HB4.out, A, cap, by rw [HFF.out, HCC.out]; simp only [BldD.agg, bldR, sampleD, sampleCars_length], by rw [HFF.out, HCC.out]; exact HCS.out⟩)
end

section
open Go.RowKit
namespace Lg
open Img

theorem okB_bldR {F C room : Nat} (h1 : 2 ≤ F) (h2 : F ≤ 32) (h3 : 1 ≤ C) (h4 : C ≤ 8) (h5 : room ≤ 60000) {x : Rc} (h : Rc.okB (sampleD (F : Int) C) x = true) : Rc.okB (bldR (F : Int) C room) x = true := by
  have hv1 := bldR_valid (F : Int) C room (by omega) (by omega) h3 h4 h5
  have hv2 := sample_valid (F : Int) C (by omega) (by omega) h3 h4
  have e1 : Rc.callB (bldR (F : Int) C room) x = Rc.callB (sampleD (F : Int) C) x := by
    unfold Rc.callB isCallF
    rw [hv1, hv2]
    rfl
  have e2 : Rc.carB (bldR (F : Int) C room) x = Rc.carB (sampleD (F : Int) C) x := by
    unfold Rc.carB
    rw [hv1, hv2]
  unfold Rc.okB at h ⊢
  rw [e1, e2]
  exact h
end Lg
end

section
open Go.RowKit Lg Img

namespace Lg
/-- An append that has room and the budget for its six bytes. -/
theorem append_six {b : BldD} {s : St} {m : Img} {r : Rc} {bud : Int} (h : Jrn b s m) (hr : Rc.okB b r = true) (hf : fullB b m r = false) (hroom : (s.cur.size : Int) + 6 ≤ b.room) (hb : 6 ≤ bud) :
    ∃ s', appendF b s m r bud = (s', applyM m r, bud - 6, 0) ∧ Jrn b s' (applyM m r) ∧ s'.cur.size = s.cur.size + 6 := by
  obtain ⟨need, h1, h2, h3⟩ := append_cases h hr hf (show 0 ≤ bud by omega)
  rw [if_pos hroom] at h2
  subst h2
  rcases h3 with ⟨h4, -⟩ | ⟨-, s', h5, h6⟩
  · omega
  · refine ⟨s', h5, h6, ?_⟩
    have hsel := (St.isB_of h.st).2.2.2.2
    have hsix : (bytesR [r]).size = 6 := bytesR_size [r]
    have hok : okS b s bud = true := by simp [okS, h.good.val, h.st]; omega
    have hcur := cur_get s
    unfold appendF at h5
    rw [hok, isB_iff.2 h.good, hr, hf] at h5
    simp only [Bool.and_self, if_true, Bool.false_eq_true, if_false, if_pos hroom] at h5
    rw [write_all h.st hsel (by rw [hcur, hsix]; omega) (by rw [hsix]; omega)] at h5
    simp only [if_true] at h5
    have : s' = s.put s.sel (s.get s.sel ++ bytesR [r]) := (congrArg Prod.fst h5).symm
    rw [this, put_own, hcur, ba_size, hsix]
/-- One that is cut within its six bytes. -/
theorem append_cut {b : BldD} {s : St} {m : Img} {r : Rc} {bud : Int} (h : Jrn b s m) (hr : Rc.okB b r = true) (hf : fullB b m r = false) (hb : 0 ≤ bud) (hb6 : bud < 6) :
    ∃ s', appendF b s m r bud = (s', m, 0, 8) ∧ Cut b s' m := by
  obtain ⟨need, h1, -, h3⟩ := append_cases h hr hf hb
  rcases h3 with ⟨-, s', h5, h6⟩ | ⟨h4, -⟩
  · exact ⟨s', h5, h6⟩
  · omega
end Lg
def b10 : BldD := bldR 4 2 30
theorem b10_valid : validE b10 = 0 := bldR_valid 4 2 30 (by decide) (by decide) (by decide) (by decide) (by decide)
def reg10 : Rc := ⟨1, 2, 1, 0, 0⟩
def asg10 : Rc := ⟨3, 2, 1, 0, 0⟩
def srv10 : Rc := ⟨2, 2, 1, 0, 0⟩
def im0 : Img := Img.init 2
def im1 : Img := applyM im0 reg10
def im2 : Img := applyM im1 asg10
theorem cars10 : b10.cars.length = 2 := by rfl
theorem call10 (k c v : Int) : Rc.callB b10 ⟨k, 2, 1, c, v⟩ = true := by
  show isCallF b10 2 1 = true
  unfold isCallF
  rw [b10_valid]
  decide +kernel
theorem reg10_ok : Rc.okB b10 reg10 = true := by
  unfold Rc.okB reg10
  rw [if_pos (.inl rfl), call10]
  rfl
theorem asg10_ok : Rc.okB b10 asg10 = true := by
  unfold Rc.okB asg10
  rw [if_neg (by simp), if_pos rfl, call10]
  rfl
theorem srv10_ok : Rc.okB b10 srv10 = true := by
  unfold Rc.okB srv10
  rw [if_pos (.inr rfl), call10]
  rfl
theorem im2_en : im2.en = [⟨2, 1, 0, 0, false⟩] := rfl
theorem room10 : b10.room = 90 := rfl
theorem full10 : fullB b10 im0 reg10 = false := by
  have hg : Img.Good b10 im0 := by
    have := init_good b10_valid
    rw [cars10] at this
    exact this
  unfold fullB
  have : Lg.roomB b10 im0 = true := by
    unfold Lg.roomB
    rw [isB_iff.2 hg, cars10, room10]
    rfl
  rw [this]
  simp
/-- The three appends of sane. -/
theorem sane10_plain : ∃ s1 s2 s3, appendF b10 St.zero im0 reg10 100 = (s1, im1, 94, 0) ∧ appendF b10 s1 im1 asg10 94 = (s2, im2, 88, 0) ∧ appendF b10 s2 im2 srv10 5 = (s3, im2, 0, 8) ∧ Rpl b10 (bl s3.cur) im2 ∧ s3.cur.size ≤ 90 := by
  have J0 : Jrn b10 St.zero im0 := by
    have := jrn_new b10_valid (by rw [cars10, room10]; decide) (by rw [room10]; decide)
    rw [cars10] at this
    exact this
  have z0 : (St.zero.cur.size : Int) = 0 := rfl
  obtain ⟨s1, e1, J1, c1⟩ := append_six (bud := 100) J0 reg10_ok full10 (by rw [z0, room10]; decide) (by decide)
  obtain ⟨s2, e2, J2, c2⟩ := append_six (bud := 94) J1 asg10_ok (by rfl) (by rw [room10]; omega) (by decide)
  obtain ⟨s3, e3, C3⟩ := append_cut (bud := 5) J2 srv10_ok (by rfl) (by decide) (by decide)
  refine ⟨s1, s2, s3, e1, e2, e3, C3.rpl, ?_⟩
  have h := St.isB_of C3.st
  rw [room10] at h
  have hc := cur_get s3
  unfold St.get at hc
  rw [← hc]
  split <;> omega
end

section
open Go.RowKit Lg Img

theorem refOne10_any (c : Bool) (w : World) : Calls Try.prog 49 #[.bool c] w fun e w' => e = .returned (.int .i64 (Img.one c)) ∧ w = w' := by
  cases c
  all_goals
    go_enter Try.func49, Try.ntmps49
    go_wp2
    go_ret
    exact ⟨rfl, rfl⟩
set_option maxHeartbeats 1000000 in
theorem refLess_any (a b : En) (w : World) : Calls Try.prog 74 #[a.agg, b.agg] w fun e w' => e = .returned (.bool (lessE a b)) ∧ Below w.heap.size w w' := by
  have hl : lessE a b = (decide (a.f < b.f) || (decide (a.f = b.f) && decide (a.d < b.d))) := rfl
  rw [hl]
  clear hl
  obtain ⟨a1, a2, a3, a4, a5⟩ := a
  obtain ⟨b1, b2, b3, b4, b5⟩ := b
  simp only [En.agg]
  by_cases h1 : a1 < b1 <;> by_cases h2 : a1 = b1 <;> by_cases h3 : a2 < b2
  all_goals try (exfalso; omega)
  all_goals
    simp only [h1, h2, h3, decide_true, decide_false]
    go_enter Try.func74, Try.ntmps74
    go_wp2_with fail
    go_ret
    exact ⟨by first | rfl | simp_all, by go_grown⟩

/-- Where an entry of this call lies, or -1. -/
def findI (l : List En) (f d : Int) : Int := match at_ l f d with | some i => (i : Int) | none => -1
theorem findI_at {l : List En} {f d : Int} {k : Nat} (hk : k < l.length) (h : ∀ j (hj : j < k), ¬ ((l[j]'(by omega)).f = f ∧ (l[j]'(by omega)).d = d)) (hy : (l[k]).f = f ∧ (l[k]).d = d) : findI l f d = k := by
  have : at_ l f d = some k := by
    unfold at_
    rw [List.findIdx?_eq_some_iff_getElem]
    refine ⟨hk, by simp [hy.1, hy.2], fun j hj => ?_⟩
    have := h j hj
    simp only [Bool.and_eq_true, decide_eq_true_eq]
    exact this
  unfold findI
  rw [this]
theorem findI_none {l : List En} {f d : Int} (h : ∀ j (hj : j < l.length), ¬ ((l[j]).f = f ∧ (l[j]).d = d)) : findI l f d = -1 := by
  have : at_ l f d = none := at_not (fun x hx => by
    obtain ⟨j, hj, rfl⟩ := List.getElem_of_mem hx
    exact h j hj)
  unfold findI
  rw [this]
set_option maxRecDepth 100000 in
set_option maxHeartbeats 4000000 in
theorem refFind_any (pv fv lv ev : Value) (m : Img) (f d : Int) (w : World) (h : ImV w pv fv lv ev m) (he : m.en.length ≤ 1000000) :
    Calls Try.prog 17 #[.agg #[pv, fv, lv, ev], .int .i64 f, .int .i64 d] w fun e w' => e = .returned (.int .i64 (findI m.en f d)) ∧ Below w.heap.size w w' := by
  have HY := Lib.hid (fun k (hk : k < m.en.length) h1 h2 => findI_at (f := f) (d := d) hk h1 h2)
  have HN := Lib.hid (fun h1 => findI_none (l := m.en) (f := f) (d := d) h1)
  obtain ⟨⟨A1, c1, rfl, -⟩, ⟨A2, c2, rfl, -⟩, ⟨A3, c3, rfl, -⟩, ⟨A4, c4, rfl, h4⟩⟩ := h
  have H4 := Lib.hid h4
  clear h4
  generalize (nums m.ph).length = n1 at *
  generalize (bls m.fl).length = n2 at *
  generalize (bls m.lv).length = n3 at *
  generalize m.en = l at *
  generalize findI l f d = R at *
  go_enter Try.func17, Try.ntmps17
  go_wp2_with fail
  have HR1 := Lib.hid (heap_alloc_new w (.cells #[.slice A1 n1 c1, .slice A2 n2 c2, .slice A3 n3 c3, .slice A4 l.length c4] 32))
  have HW1 := Lib.hid (show Below w.heap.size w (w.alloc (.cells #[.slice A1 n1 c1, .slice A2 n2 c2, .slice A3 n3 c3, .slice A4 l.length c4] 32)) from (Below.refl _ _).alloc (Nat.le_refl _) _)
  generalize w.alloc (.cells #[.slice A1 n1 c1, .slice A2 n2 c2, .slice A3 n3 c3, .slice A4 l.length c4] 32) = W1 at *
  obtain ⟨q0, q1, q2, q3⟩ := imRowCells HR1.out
  go_loopw [7] (fun v wr => ∃ k : Nat, k ≤ l.length ∧ v = .int .i64 k ∧ (∀ j (hj : j < k) (hj2 : j < l.length), ¬ ((l[j]).f = f ∧ (l[j]).d = d)) ∧ wr = W1) (fun v _ => l.length - (intOf v).toNat)
  case atStart => exact ⟨0, Nat.zero_le _, rfl, fun j hj => absurd hj (Nat.not_lt_zero _), rfl⟩
  case round =>
    obtain ⟨k, hk, rfl, hno, rfl⟩ := hrel
    have HNO := Lib.hid hno
    clear hno
    by_cases hlt : k < l.length
    case pos =>
      obtain ⟨bb, off, rfl, hb, z0, z1, z2, z3, z4⟩ := (H4.out.below HW1.out).at_ hlt
      have hd : decide ((k : Int) < (l.length : Int)) = true := decide_eq_true (by omega)
      have HL := Lib.hid (fun hy => HY.out k hlt (fun j hj => HNO.out j hj (by omega)) hy)
      have HST := Lib.hid (fun (hx : ¬ ((l[k]).f = f ∧ (l[k]).d = d)) j (hj : j < k + 1) (hj2 : j < l.length) => by
        rcases Nat.lt_or_ge j k with h | h
        · exact HNO.out j h hj2
        · obtain rfl : j = k := by omega
          exact hx)
      generalize l[k] = x at *
      obtain ⟨x1, x2, x3, x4, x5⟩ := x
      simp only at z0 z1 z2 z3 z4 HL HST
      by_cases g1 : x1 = f
      case neg =>
        have e1 : (x1 == f) = false := by simp [g1]
        have HS := Lib.hid (HST.out (fun h => g1 h.1))
        go_wp2_with fail
        go_roundw
        case rel => exact ⟨k + 1, by omega, by go_num, HS.out, by first | rfl | trivial⟩
        case measure => simp [intOf]; omega
      case pos =>
        by_cases g2 : x2 = d
        case neg =>
          subst g1
          have e2 : (x2 == d) = false := by simp [g2]
          have HS := Lib.hid (HST.out (fun h => g2 h.2))
          go_wp2_with fail
          go_roundw
          case rel => exact ⟨k + 1, by omega, by go_num, HS.out, by first | rfl | trivial⟩
          case measure => simp [intOf]; omega
        case pos =>
          subst g1 g2
          have HF := Lib.hid (HL.out ⟨rfl, rfl⟩)
          go_wp2_with fail
          go_ret
          exact ⟨by rw [HF.out]; rfl, HW1.out⟩
    case neg =>
      obtain rfl : k = l.length := by omega
      have hd : decide ((l.length : Int) < (l.length : Int)) = false := decide_eq_false (by omega)
      have HF := Lib.hid (HN.out (fun j hj => HNO.out j hj hj))
      go_wp2_with fail
      go_ret
      exact ⟨by rw [HF.out]; rfl, HW1.out⟩
end
end Go.Proofs.Ytifbkoaggjikpaa
