/- What the texts behind this one rest on: one text. No statement of the seat is proved here. -/
import Derived.StillTailTactics
import Derived.Test.YtifbkoaggjikpaaLM27
import Derived.Test.YtifbkoaggjikpaaLM21
namespace Go.Proofs.Ytifbkoaggjikpaa
section
open Go.RowKit Lg Img

/-- What the closure adds to: the variable in block L holds these records, in a row of its own. -/
structure Acc (L : Nat) (W0 : World) (l : List Rc) (wr : World) : Prop where
  row : ∃ v, wr.heap[L]? = some (.cells #[v] 34 (0, 0)) ∧ wr.ownsRow L 41 5 v l.length (flatR l)
  bel : Below L W0 wr
theorem Acc.lt {L : Nat} {W0 : World} {l : List Rc} {wr : World} (h : Acc L W0 l wr) : L < wr.heap.size := by
  obtain ⟨v, h1, -⟩ := h.row
  exact (Array.getElem?_eq_some_iff.1 h1).1
theorem Acc.keep {L : Nat} {W0 : World} {l : List Rc} {wr w' : World} (h : Acc L W0 l wr) (hb : Below wr.heap.size wr w') : Acc L W0 l w' := by
  have hlt := h.lt
  obtain ⟨v, h1, h2⟩ := h.row
  exact ⟨⟨v, (hb.block L hlt).trans h1, own_of_blocks h2 fun j _ hj => hb.block j hj⟩, h.bel.trans (hb.mono (by omega))⟩
/-- Entries in blocks are left as they were. -/
def KE (w w' : World) : Prop := ∀ (k : Nat) (c : Array Value), w.heap[k]? = some (.cells c 71 (0, 0)) → w'.heap[k]? = some (.cells c 71 (0, 0))
set_option maxRecDepth 100000 in
set_option maxHeartbeats 4000000 in
theorem add_any (L : Nat) (W0 : World) (l : List Rc) (r : Rc) (w : World) (h : Acc L W0 l w) (hl : l.length ≤ 10000000) :
    Calls Try.prog 32 #[r.agg, .pointer (some ⟨L, 0, none⟩)] w fun e w' => e = .returned (.tuple #[]) ∧ Acc L W0 (l ++ [r]) w' ∧ KE w w' := by
  obtain ⟨i0, hi0, hz0, hz1, hz2⟩ := info_parts rcInfo
  have hlt := h.lt
  obtain ⟨⟨v, hrow, hown⟩, hbel⟩ := h
  have hne : v.ownBlock ≠ some L := own_not hown hrow (by decide)
  have c0 : w.cell? ⟨L, 0, none⟩ = some v := by rw [cell_of_row _ _ _ _ _ (0, 0) hrow]; rfl
  have hm63 : l.length + 1 ≤ maxLen := by unfold maxLen; omega
  have HOW := Lib.hid hown
  have HRW := Lib.hid hrow
  have HBE := Lib.hid hbel
  obtain ⟨x1, x2, x3, x4, x5⟩ := r
  simp only [Rc.agg]
  clear hown hrow hbel
  go_enter Try.func32, Try.ntmps32
  go_wp2_with (at_builtin; refine wpList_append_own _ rfl (.tmp 3) (.tmp 5) 34 rfl L 41 i0 _ 5 40 Try.underlying34 hi0 hz0 hz1 hz2 rfl (by decide) v l.length (flatR l) rfl ((HOW.out.alloc _).alloc _) ⟨w.heap.size + 1, 0, none⟩ 1 1 _ rfl ?hl (World.news_of_block (by have := heap_alloc_new (w.alloc (.cells #[.int .i64 x1, .int .i64 x2, .int .i64 x3, .int .i64 x4, .int .i64 x5] 41)) (.cells #[.int .i64 x1, .int .i64 x2, .int .i64 x3, .int .i64 x4, .int .i64 x5] 41); simpa using this)) ?h1 hm63 ?hby ?hbase ?hK)
  case h1 => exact ⟨rfl, rfl, rfl, rfl, rfl⟩
  case hby => omega
  case hbase => simp; omega
  intro v' w' hown' hgrow _
  have hrow2 : w'.heap[L]? = some (.cells #[v] 34 (0, 0)) := by
    rw [hgrow.block L (by simp; omega) (fun e => hne e.symm), Below.heap_alloc _ _ _ (by simp; omega), Below.heap_alloc _ _ _ hlt]
    exact HRW.out
  have hown2 : w'.ownsRow L 41 5 v' (l ++ [(⟨x1, x2, x3, x4, x5⟩ : Rc)]).length (flatR (l ++ [(⟨x1, x2, x3, x4, x5⟩ : Rc)])) := by rw [flatR_snoc, List.length_append]; exact hown'
  have hb' : Below L W0 w' := (((HBE.out.alloc (by omega) _).alloc (by simp; omega) _)).grown hgrow (by simp; omega) (fun k hk => by have := HOW.out.lt k hk; omega)
  have hne' : v'.ownBlock ≠ some L := own_not hown2 hrow2 (by decide)
  have d0 : w'.cell? ⟨L, 0, none⟩ = some v := by rw [cell_of_row _ _ _ _ _ (0, 0) hrow2]; rfl
  have f0 : w'.frozen? ⟨L, 0, none⟩ = false := frozen_of_row _ _ _ _ _ hrow2
  have HF : Hid (Acc L W0 (l ++ [⟨x1, x2, x3, x4, x5⟩]) (w'.setCell ⟨L, 0, none⟩ v')) := Lib.hid ⟨⟨v', by simp [World.setCell, Array.getElem?_modify, hrow2], hown2.kept (row := some L) ⟨rfl, rfl, rfl, by simp [World.setCell], fun k _ hk => Below.heap_setCell _ _ _ _ (fun e => hk (by first | (simpa using e) | (simpa using e.symm)))⟩ (Or.inr hne')⟩, hb'.setCell (p := ⟨L, 0, none⟩) (Nat.le_refl _) _⟩
  have HK : Hid (KE w (w'.setCell ⟨L, 0, none⟩ v')) := Lib.hid (fun (k : Nat) (c : Array Value) hk => by
    have hkl : k < w.heap.size := (Array.getElem?_eq_some_iff.1 hk).1
    have hkL : k ≠ L := fun e => by
      rw [e, HRW.out] at hk
      injection hk with hk
      injection hk with _ hk _
      exact absurd hk (by decide)
    have hko : v.ownBlock ≠ some k := own_not HOW.out hk (by decide)
    rw [Below.heap_setCell _ _ _ _ hkL, hgrow.block k (by simp; omega) (fun e => hko e.symm), Below.heap_alloc _ _ _ (by simp; omega), Below.heap_alloc _ _ _ hkl]
    exact hk)
  obtain ⟨ao, cp, rfl⟩ := own_slice hown2
  clear hown2 hown' hgrow hb'
  go_wp2
  go_end0
  exact ⟨rfl, by have := HF.out; rw [List.length_append] at this; exact this, by have := HK.out; rw [List.length_append] at this; exact this⟩

theorem snap_car (m : Img) (k : Nat) : (List.range (k + 1)).flatMap (carR m) = (((List.range k).flatMap (carR m) ++ [⟨4, 0, 0, k, m.ph.getD k 0⟩]) ++ [⟨5, 0, 0, k, one (m.fl.getD k false)⟩]) ++ [⟨6, 0, 0, k, one (m.lv.getD k false)⟩] := by
  rw [List.range_succ, List.flatMap_append, List.flatMap_cons, List.flatMap_nil, List.append_nil]
  unfold carR
  simp
theorem snap_ent (m : Img) (X : List Rc) {k : Nat} (h : k < m.en.length) : X ++ (m.en.take (k + 1)).flatMap entR = (((X ++ (m.en.take k).flatMap entR) ++ [⟨1, (m.en[k]).f, (m.en[k]).d, 0, 0⟩]) ++ [⟨3, (m.en[k]).f, (m.en[k]).d, (m.en[k]).car, 0⟩]) ++ [⟨7, (m.en[k]).f, (m.en[k]).d, one (m.en[k]).md, (m.en[k]).mv⟩] := by
  rw [List.take_succ_eq_append_getElem h, List.flatMap_append, List.flatMap_cons, List.flatMap_nil, List.append_nil]
  unfold entR
  simp
theorem carR_len (m : Img) (k : Nat) : ((List.range k).flatMap (carR m)).length = 3 * k := by
  induction k with
  | zero => rfl
  | succ k ih => rw [snap_car]; simp [ih]; omega
theorem entR_len : ∀ l : List En, (l.flatMap entR).length = 3 * l.length
  | [] => rfl
  | e :: l => by rw [List.flatMap_cons, List.length_append, entR_len l]; simp [entR]; omega

set_option maxRecDepth 100000 in
set_option maxHeartbeats 16000000 in
theorem snapGood_any (b : BldD) (A : Option Addr) (cap : Nat) (pv fv lv ev : Value) (m : Img) (w : World) (hn : b.cars.length ≤ 140737488355328) (hc : CarsAt w w.heap.size A b.cars) (h : ImV w pv fv lv ev m)
    (he : m.en.length ≤ 1000000) (hB : Img.Good b m) :
    Calls Try.prog 10 #[b.agg A cap, .agg #[pv, fv, lv, ev]] w fun e w' => ∃ v, e = .returned v ∧ w'.ownsRow w.heap.size 41 5 v (snapM m).length (flatR (snapM m)) ∧ Below w.heap.size w w' := by
  have hmf : ∀ (fn : Fn) (first cap : Array Value) (w : World), (Instr.makeFunc fn first cap).run Try.prog w = .ok (.func fn first cap) w := fun _ _ _ _ => rfl
  have hC := (fine_of hB.val).cars
  have FI := Lib.hid (fun wx (hb : Below w.heap.size w wx) => isImage_any b A cap pv fv lv ev m wx hn ((hc.below hb).more hb.size) (h.below hb) (by have := hB.ph; omega) he)
  rw [isB_iff.2 hB] at FI
  have HI := Lib.hid h
  obtain ⟨⟨A1, c1, rfl, h1⟩, ⟨A2, c2, rfl, h2⟩, ⟨A3, c3, rfl, h3⟩, ⟨A4, c4, rfl, h4⟩⟩ := h
  have q1 := hB.ph
  have q2 := hB.fl
  have q3 := hB.lv
  rw [nums_len, bls_len, bls_len, q1, q2, q3] at FI HI ⊢
  have hx1 := fun k (hk : k < b.cars.length) => (show m.ph[k]'(by omega) = m.ph.getD k 0 from by rw [List.getD_eq_getElem?_getD, List.getElem?_eq_getElem (by omega), Option.getD_some])
  have hx2 := fun k (hk : k < b.cars.length) => (show m.fl[k]'(by omega) = m.fl.getD k false from by rw [List.getD_eq_getElem?_getD, List.getElem?_eq_getElem (by omega), Option.getD_some])
  have hx3 := fun k (hk : k < b.cars.length) => (show m.lv[k]'(by omega) = m.lv.getD k false from by rw [List.getD_eq_getElem?_getD, List.getElem?_eq_getElem (by omega), Option.getD_some])
  have HP := Lib.hid (fun wx (hb : Below w.heap.size w wx) k (hk : k < b.cars.length) => by have := (h1.below hb).num (k := k) (by omega); rw [hx1 k hk] at this; exact this)
  have HFl := Lib.hid (fun wx (hb : Below w.heap.size w wx) k (hk : k < b.cars.length) => by have := (h2.below hb).bl (k := k) (by omega); rw [hx2 k hk] at this; exact this)
  have HLv := Lib.hid (fun wx (hb : Below w.heap.size w wx) k (hk : k < b.cars.length) => by have := (h3.below hb).bl (k := k) (by omega); rw [hx3 k hk] at this; exact this)
  have HEn := Lib.hid (fun wx (hb : Below w.heap.size w wx) k (hk : k < m.en.length) => (h4.below hb).at_ (k := k) hk)
  have hX := fun k => snap_car m k
  have hY := fun k (hk : k < m.en.length) => snap_ent m ((List.range b.cars.length).flatMap (carR m)) hk
  have hlx := carR_len m
  have hly := fun k (hk : k ≤ m.en.length) => (show ((List.range b.cars.length).flatMap (carR m) ++ (m.en.take k).flatMap entR).length ≤ 4000000 by rw [List.length_append, carR_len, entR_len, List.length_take]; omega)
  have hfin : (List.range b.cars.length).flatMap (carR m) ++ (m.en.take m.en.length).flatMap entR = snapM m := by unfold snapM; rw [q1, List.take_length]
  have hst : (List.range b.cars.length).flatMap (carR m) ++ (m.en.take 0).flatMap entR = (List.range b.cars.length).flatMap (carR m) := by rw [List.take_zero, List.flatMap_nil, List.append_nil]
  have hX0 : (List.range 0).flatMap (carR m) = [] := rfl
  generalize hYY : (fun k => (List.range b.cars.length).flatMap (carR m) ++ (m.en.take k).flatMap entR) = Y at *
  have hY' : ∀ k, (List.range b.cars.length).flatMap (carR m) ++ (m.en.take k).flatMap entR = Y k := fun k => congrFun hYY k
  simp only [hY'] at hY hly hfin hst
  generalize hXX : (fun k => (List.range k).flatMap (carR m)) = X at *
  have hX' : ∀ k, (List.range k).flatMap (carR m) = X k := fun k => congrFun hXX k
  simp only [hX'] at hX hlx hst hX0
  clear hx1 hx2 hx3 hYY hY' hXX hX' h1 h2 h3 h4 q1 q2 q3 HI hB hc
  generalize snapM m = SM at *
  generalize m.en = es at *
  have HX := Lib.hid hX
  have HY := Lib.hid hY
  have HLX := Lib.hid hlx
  have HLY := Lib.hid hly
  have HFIN := Lib.hid hfin
  have HST := Lib.hid hst
  clear hX hY hlx hly hfin hst
  obtain ⟨f, d, r, p, e1, e2, e3, cs⟩ := b
  simp only [BldD.agg] at *
  go_enter Try.func10, Try.ntmps10
  go_wp2_with fail
  refine (FI.out _ (by go_grown)).mono ?_
  rintro e w1 ⟨rfl, hb⟩
  have HB1 := Lib.hid (below2 ((start2 w _ _).trans (hb.mono (by simp))))
  have HR1 := Lib.hid (boxes2 hb).2
  have hz1 : w.heap.size + 2 ≤ w1.heap.size := by have := hb.size; simp at this; omega
  clear hb
  have HA0 : Hid (Acc w1.heap.size w1 (X 0) (w1.alloc (.cells #[.slice none 0 0] 34))) := Lib.hid ⟨⟨_, heap_alloc_new _ _, by rw [hX0]; exact World.ownsRow_nil _ _ _ _⟩, (Below.refl _ _).alloc (Nat.le_refl _) _⟩
  have HQ := Lib.hid (fun wx (hb : Below w1.heap.size w1 wx) => imRowCells ((hb.block (w.heap.size + 1) (by omega)).trans HR1.out))
  have HBW := Lib.hid (fun wx (hb : Below w1.heap.size w1 wx) => HB1.out.trans (hb.mono (by omega)))
  have y0 := (HQ.out (w1.alloc (.cells #[.slice none 0 0] 34)) HA0.out.bel).1
  clear hX0
  have hbox : w.heap.size + 1 < w1.heap.size := by omega
  go_wp2_with fail
  clear y0
  go_loopw [19] (fun v wr => ∃ k : Nat, k ≤ cs.length ∧ v = .int .i64 k ∧ Acc w1.heap.size w1 (X k) wr) (fun v _ => cs.length - (intOf v).toNat)
  case atStart => exact ⟨0, Nat.zero_le _, rfl, HA0.out⟩
  case round =>
    obtain ⟨k, hk, rfl, ha⟩ := hrel
    have HA := Lib.hid ha
    have hltw := ha.lt
    obtain ⟨y0, y1, y2, y3⟩ := HQ.out wr ha.bel
    clear ha
    by_cases hlt : k < cs.length
    case pos =>
      have hd : decide ((k : Int) < (cs.length : Int)) = true := decide_eq_true (by omega)
      obtain ⟨b1, o1, rfl, hb1, z1⟩ := HP.out wr (HBW.out wr HA.out.bel) k hlt
      have HX1 := Lib.hid (HX.out k)
      have hl1 := HLX.out k
      have F1 := Lib.hid (add_any w1.heap.size w1 (X k) ⟨4, 0, 0, k, m.ph.getD k 0⟩ wr HA.out (by omega))
      go_wp2_with fail
      refine F1.out.mono ?_
      rintro e w2 ⟨rfl, ha2, -⟩
      have HA2 := Lib.hid ha2
      have hltw2 := ha2.lt
      clear y0 y1 y2 y3 z1 F1
      obtain ⟨y0, y1, y2, y3⟩ := HQ.out w2 ha2.bel
      obtain ⟨b2, o2, rfl, hb2, z2⟩ := HFl.out w2 (HBW.out w2 ha2.bel) k hlt
      clear ha2
      have F2 := Lib.hid (add_any w1.heap.size w1 _ ⟨5, 0, 0, k, one (m.fl.getD k false)⟩ w2 HA2.out (by rw [List.length_append, List.length_singleton]; omega))
      have FN := Lib.hid (fun c w => number_any c w)
      go_wp2_with (go_at_call 33; refine (FN.out _ _).mono ?_; rintro e w' ⟨rfl, rfl⟩)
      refine F2.out.mono ?_
      rintro e w3 ⟨rfl, ha3, -⟩
      have HA3 := Lib.hid ha3
      have hltw3 := ha3.lt
      clear y0 y1 y2 y3 z2 F2
      obtain ⟨y0, y1, y2, y3⟩ := HQ.out w3 ha3.bel
      obtain ⟨b3, o3, rfl, hb3, z3⟩ := HLv.out w3 (HBW.out w3 ha3.bel) k hlt
      clear ha3
      have F3 := Lib.hid (add_any w1.heap.size w1 _ ⟨6, 0, 0, k, one (m.lv.getD k false)⟩ w3 HA3.out (by rw [List.length_append, List.length_append, List.length_singleton, List.length_singleton]; omega))
      go_wp2_with (go_at_call 33; refine (FN.out _ _).mono ?_; rintro e w' ⟨rfl, rfl⟩)
      refine F3.out.mono ?_
      rintro e w4 ⟨rfl, ha4, -⟩
      rw [← HX1.out] at ha4
      have HA4 := Lib.hid ha4
      clear y0 y1 y2 y3 z3 F3 ha4
      go_wp2_with fail
      go_roundw
      case rel => exact ⟨k + 1, by omega, by go_num, HA4.out⟩
      case measure => simp [intOf]; omega
    case neg =>
      obtain rfl : k = cs.length := by omega
      have hd : decide ((cs.length : Int) < (cs.length : Int)) = false := decide_eq_false (by omega)
      have HA1 : Hid (Acc w1.heap.size w1 (Y 0) wr) := Lib.hid (by rw [HST.out]; exact HA.out)
      clear HA HA0 HX HLX HP HFl HLv HST
      go_wp2_with fail
      clear y0 y1 y2 y3 hltw
      go_loopw [53] (fun v wr => ∃ j : Nat, j ≤ es.length ∧ v = .int .i64 j ∧ Acc w1.heap.size w1 (Y j) wr) (fun v _ => es.length - (intOf v).toNat)
      case atStart => exact ⟨0, Nat.zero_le _, rfl, HA1.out⟩
      case round =>
        obtain ⟨j, hj, rfl, ha⟩ := hrel
        have HA := Lib.hid ha
        have hltw := ha.lt
        by_cases hlt : j < es.length
        case pos =>
          have hd2 : decide ((j : Int) < (es.length : Int)) = true := decide_eq_true (by omega)
          obtain ⟨b1, o1, rfl, hb1, z0, z1, z2, z3, z4⟩ := HEn.out wr (HBW.out wr ha.bel) j hlt
          have HY1 := Lib.hid (HY.out j hlt)
          have hl1 := HLY.out j (by omega)
          clear ha
          generalize es[j] = x at *
          obtain ⟨x1, x2, x3, x4, x5⟩ := x
          simp only at z0 z1 z2 z3 z4 HY1
          have HR0 := Lib.hid (heap_alloc_new wr (.cells #[.int .i64 x1, .int .i64 x2, .int .i64 x3, .int .i64 x4, .bool x5] 71))
          have HA0' := Lib.hid (HA.out.keep ((Below.refl wr.heap.size wr).alloc (Nat.le_refl _) (.cells #[.int .i64 x1, .int .i64 x2, .int .i64 x3, .int .i64 x4, .bool x5] 71)))
          have F1 := Lib.hid (add_any w1.heap.size w1 (Y j) ⟨1, x1, x2, 0, 0⟩ _ HA0'.out (by omega))
          go_wp2_with fail
          refine F1.out.mono ?_
          rintro e w2 ⟨rfl, ha2, hk2⟩
          have HA2 := Lib.hid ha2
          have HR2 := Lib.hid (hk2 _ _ HR0.out)
          have hltw2 := ha2.lt
          obtain ⟨y0, y1, y2, y3, y4⟩ := enRowCells HR2.out
          clear z0 z1 z2 z3 z4 ha2 hk2 F1
          have F2 := Lib.hid (add_any w1.heap.size w1 _ ⟨3, x1, x2, x3, 0⟩ w2 HA2.out (by rw [List.length_append, List.length_singleton]; omega))
          go_wp2_with fail
          refine F2.out.mono ?_
          rintro e w3 ⟨rfl, ha3, hk3⟩
          have HA3 := Lib.hid ha3
          have HR3 := Lib.hid (hk3 _ _ HR2.out)
          clear y0 y1 y2 y3 y4 ha3 hk3 F2
          obtain ⟨y0, y1, y2, y3, y4⟩ := enRowCells HR3.out
          have FN := Lib.hid (fun c w => number_any c w)
          go_wp2_with fail
          go_still_tail 11, (by kernel_rfl)
          still_call ((FN.out x5 _).mono fun _ _ h => ⟨h.1, h.2.symm⟩)
          repeat still_step
          refine wpStill_nil ?_
          have HA3d := Lib.hid (HA3.out.keep ((Below.refl w3.heap.size w3).drew))
          change wpList _ _ _ _ _ w3.drew
          have F3 := Lib.hid (add_any w1.heap.size w1 _ ⟨7, x1, x2, one x5, x4⟩ w3.drew HA3d.out (by rw [List.length_append, List.length_append, List.length_singleton, List.length_singleton]; omega))
          clear y0 y1 y2 y3 y4
          generalize w3.drew = w5 at *
          go_wp2_with fail
          refine F3.out.mono ?_
          rintro e w4 ⟨rfl, ha4, -⟩
          rw [← HY1.out] at ha4
          have HA4 := Lib.hid ha4
          clear F3 ha4
          go_wp2_with fail
          go_roundw
          case rel => exact ⟨j + 1, by omega, by go_num, HA4.out⟩
          case measure => simp [intOf]; omega
        case neg =>
          obtain rfl : j = es.length := by omega
          have hd2 : decide ((es.length : Int) < (es.length : Int)) = false := decide_eq_false (by omega)
          obtain ⟨⟨v, hrow, hown⟩, hbel⟩ := ha
          rw [HFIN.out] at hown
          obtain ⟨ao, cp, rfl⟩ := own_slice hown
          have c0 : wr.cell? ⟨w1.heap.size, 0, none⟩ = some (.slice ao SM.length cp) := by rw [cell_of_row _ _ _ _ _ (0, 0) hrow]; rfl
          have HF := Lib.hid (And.intro (own_base (base' := w.heap.size) hown (by omega)) (HBW.out wr hbel))
          clear hown hbel hrow HA
          go_wp2_with fail
          go_ret
          exact ⟨_, rfl, HF.out.1, HF.out.2⟩

end
end Go.Proofs.Ytifbkoaggjikpaa
