/- The reference's Snapshot of a good image. No statement of the seat is proved here. -/
import Derived.Test.YtifbkoaggjikpaaLgRefApp
import Derived.Test.YtifbkoaggjikpaaGhostM
namespace Go.Proofs.Ytifbkoaggjikpaa
open Go.RowKit GhostV Bag Lg Img

/-- Three records built and appended to a row of the call's own, in a drawn region: p is the number of what has been done. -/
structure Ap (wr : World) (base n : Nat) (v : Value) (xs row : List Value) (p : Nat) (ga gb gc : Value) (lc : Bool) (wx : World) : Prop where
  keep : ∀ j, j < wr.heap.size → v.ownBlock ≠ some j → wx.heap[j]? = wr.heap[j]?
  bel : Below base wr wx
  low : p ≤ 1 → Below wr.heap.size wr wx
  made : p = 1 → ∃ g, ga = .slice (some ⟨g, 0, none⟩) 3 3 ∧ ∀ j u, row[j]? = some u → wx.cell? (Addr.add ⟨g, 0, none⟩ j) = some u
  own : 2 ≤ p → wx.ownsRow base 41 5 gb (n + 3) (xs ++ row)
  mv : lc = true → 2 ≤ p ∧ gc = gb
namespace Ap
variable {wr wx : World} {base n p : Nat} {v ga gb gc : Value} {xs row : List Value} {lc : Bool}
theorem start : Ap wr base n v xs row 0 ga gb gc false { wr with drawn := wr.drawn + 1 } :=
  ⟨fun _ _ _ => rfl, ⟨rfl, rfl, rfl, Nat.le_refl _, fun _ _ => rfl⟩, fun _ => ⟨rfl, rfl, rfl, Nat.le_refl _, fun _ _ => rfl⟩, fun h => by omega, fun h => by omega, fun h => by cases h⟩
theorem build (h : Ap wr base n v xs row 0 ga gb gc lc wx) (hb : base ≤ wr.heap.size) {cs : Array Value} (hcs : cs.toList = row) : Ap wr base n v xs row 1 (.slice (some ⟨wx.heap.size, 0, none⟩) 3 3) gb gc lc (wx.alloc (.cells cs 41)) := by
  have hl := h.low (by omega)
  subst hcs
  exact ⟨fun j hj hne => (Below.heap_alloc _ _ _ (Nat.lt_of_lt_of_le hj hl.size)).trans (h.keep j hj hne), h.bel.alloc (Nat.le_trans hb hl.size) _, fun _ => hl.alloc hl.size _,
    fun _ => ⟨_, rfl, World.news_of_block (heap_alloc_new _ _)⟩, fun h => by omega, fun hc => by have := (h.mv hc).1; omega⟩
theorem join (h : Ap wr base n v xs row 1 ga gb gc lc wx) {v' : Value} {w' : World} (ho : w'.ownsRow base 41 5 v' (n + 3) (xs ++ row)) (hg : wx.grownBy w' v.ownBlock) (hlt : ∀ k, v.ownBlock = some k → base ≤ k) (hb : base ≤ wr.heap.size) : Ap wr base n v xs row 2 ga v' gc lc w' := by
  have hl := h.low (by omega)
  exact ⟨fun j hj hne => (hg.block j (Nat.lt_of_lt_of_le hj hl.size) (fun e => hne e.symm)).trans (h.keep j hj hne), h.bel.grown hg (Nat.le_trans hb hl.size) hlt, fun h => by omega, fun h => by omega, fun _ => ho, fun hc => by have := (h.mv hc).1; omega⟩
theorem move (h : Ap wr base n v xs row p ga gb gc lc wx) (hp : 2 ≤ p) : Ap wr base n v xs row p ga gb gb true wx := ⟨h.keep, h.bel, h.low, h.made, h.own, fun _ => ⟨hp, rfl⟩⟩
end Ap

set_option maxRecDepth 100000 in
set_option maxHeartbeats 16000000 in
theorem refSnapGood_any (b : BldD) (A : Option Addr) (cap : Nat) (pv fv lv ev : Value) (m : Img) (w : World) (hn : b.cars.length ≤ 140737488355328) (hc : CarsAt w w.heap.size A b.cars) (h : ImV w pv fv lv ev m)
    (he : m.en.length ≤ 1000000) (hB : Img.Good b m) :
    Calls Try.prog 22 #[b.agg A cap, .agg #[pv, fv, lv, ev]] w fun e w' => ∃ v, e = .returned v ∧ w'.ownsRow w.heap.size 41 5 v (snapM m).length (flatR (snapM m)) ∧ Below w.heap.size w w' := by
  obtain ⟨i0, hi0, hs0, hs1, hs2⟩ := info_parts rcInfo
  have hC := (fine_of hB.val).cars
  have FI := Lib.hid (fun wx (hb : Below w.heap.size w wx) => refIsGood_any b A cap pv fv lv ev m wx ((hc.below hb).more hb.size) (h.below hb) he hB)
  have HI := Lib.hid h
  obtain ⟨⟨A1, c1, rfl, h1⟩, ⟨A2, c2, rfl, h2⟩, ⟨A3, c3, rfl, h3⟩, ⟨A4, c4, rfl, h4⟩⟩ := h
  have q1 := hB.ph
  have q2 := hB.fl
  have q3 := hB.lv
  rw [nums_len, bls_len, bls_len, q1, q2, q3] at FI HI ⊢
  have hx1 := fun k (hk : k < b.cars.length) => (show m.ph[k]'(by omega) = m.ph.getD k 0 from by rw [List.getD_eq_getElem?_getD, List.getElem?_eq_getElem (by omega), Option.getD_some])
  have hx2 := fun k (hk : k < b.cars.length) => (show m.fl[k]'(by omega) = m.fl.getD k false from by rw [List.getD_eq_getElem?_getD, List.getElem?_eq_getElem (by omega), Option.getD_some])
  have hx3 := fun k (hk : k < b.cars.length) => (show m.lv[k]'(by omega) = m.lv.getD k false from by rw [List.getD_eq_getElem?_getD, List.getElem?_eq_getElem (by omega), Option.getD_some])
  have HP := Lib.hid (fun wx (hb : Below w.heap.size w wx) k (hk : k < b.cars.length) => by have := (h1.below hb).num (k := k) (by omega); rw [hx1 k hk] at this; exact this)
  have HFl := Lib.hid (fun wx (hb : Below w.heap.size w wx) k (hk : k < b.cars.length) => by have := (h2.below hb).bl (k := k) (by omega); rw [hx2 k hk] at this; exact this)
  have HLv := Lib.hid (fun wx (hb : Below w.heap.size w wx) k (hk : k < b.cars.length) => by have := (h3.below hb).bl (k := k) (by omega); rw [hx3 k hk] at this; exact this)
  have HEn := Lib.hid (fun wx (hb : Below w.heap.size w wx) k (hk : k < m.en.length) => (h4.below hb).at_ (k := k) hk)
  have hX := fun k => snap_car m k
  have hY := fun k (hk : k < m.en.length) => snap_ent m ((List.range b.cars.length).flatMap (carR m)) hk
  have hlx := carR_len m
  have hly := fun k (hk : k ≤ m.en.length) => (show ((List.range b.cars.length).flatMap (carR m) ++ (m.en.take k).flatMap entR).length ≤ 4000000 by rw [List.length_append, carR_len, entR_len, List.length_take]; omega)
  have hfin : (List.range b.cars.length).flatMap (carR m) ++ (m.en.take m.en.length).flatMap entR = snapM m := by unfold snapM; rw [q1, List.take_length]
  have hst : (List.range b.cars.length).flatMap (carR m) ++ (m.en.take 0).flatMap entR = (List.range b.cars.length).flatMap (carR m) := by rw [List.take_zero, List.flatMap_nil, List.append_nil]
  have hX0 : (List.range 0).flatMap (carR m) = [] := rfl
  generalize hYY : (fun k => (List.range b.cars.length).flatMap (carR m) ++ (m.en.take k).flatMap entR) = Y at *
  have hY' : ∀ k, (List.range b.cars.length).flatMap (carR m) ++ (m.en.take k).flatMap entR = Y k := fun k => congrFun hYY k
  simp only [hY'] at hY hly hfin hst
  generalize hXX : (fun k => (List.range k).flatMap (carR m)) = X at *
  have hX' : ∀ k, (List.range k).flatMap (carR m) = X k := fun k => congrFun hXX k
  simp only [hX'] at hX hlx hst hX0
  clear hx1 hx2 hx3 hYY hY' hXX hX' h1 h2 h3 h4 q1 q2 q3 HI hB hc
  generalize snapM m = SM at *
  generalize m.en = es at *
  have HX := Lib.hid hX
  have HY := Lib.hid hY
  have HLX := Lib.hid hlx
  have HLY := Lib.hid hly
  have HFIN := Lib.hid hfin
  have HST := Lib.hid hst
  clear hX hY hlx hly hfin hst
  obtain ⟨f, d, r, p, e1, e2, e3, cs⟩ := b
  simp only [BldD.agg] at *
  go_enter Try.func22, Try.ntmps22
  go_wp2_with fail
  refine (FI.out _ (by go_grown)).mono ?_
  rintro e w1 ⟨rfl, hb⟩
  have HB1 := Lib.hid (below2 ((start2 w _ _).trans (hb.mono (by simp))))
  have HR1 := Lib.hid (boxes2 hb).2
  have hz1 : w.heap.size + 2 ≤ w1.heap.size := by have := hb.size; simp at this; omega
  clear hb
  have HQ := Lib.hid (fun wx (hb : Below (w.heap.size + 2) w1 wx) => imRowCells ((hb.block (w.heap.size + 1) (by omega)).trans HR1.out))
  have HBW := Lib.hid (fun wx (hb : Below (w.heap.size + 2) w1 wx) => HB1.out.trans (hb.mono (by omega)))
  have HF1 := Lib.hid (fun c wx => refOne10_any c wx)
  go_wp2_with fail
  go_loopw [5, 6] (fun vo vi wr => ∃ k : Nat, k ≤ cs.length ∧ vi = .int .i64 k ∧ wr.ownsRow (w.heap.size + 2) 41 5 vo (X k).length (flatR (X k)) ∧ Below (w.heap.size + 2) w1 wr) (fun _ vi _ => cs.length - (intOf vi).toNat)
  case atStart => exact ⟨0, Nat.zero_le _, rfl, by rw [hX0]; exact World.ownsRow_nil _ _ _ _, ⟨rfl, rfl, rfl, by omega, fun _ _ => rfl⟩⟩
  case round =>
    obtain ⟨k, hk, rfl, hown, hbr⟩ := hrel
    have HO := Lib.hid hown
    have HBR := Lib.hid hbr
    have hlo : w.heap.size + 2 ≤ wr.heap.size := by have := hbr.size; omega
    obtain ⟨y0, y1, y2, y3⟩ := HQ.out wr hbr
    clear hown hbr
    by_cases hlt : k < cs.length
    case pos =>
      have hd : decide ((k : Int) < (cs.length : Int)) = true := decide_eq_true (by omega)
      have HX1 := Lib.hid (HX.out k)
      have hl1 := HLX.out k
      have hl2 := HLX.out (k + 1)
      obtain ⟨b1, o1, rfl, hb1, -⟩ := HP.out wr (HBW.out wr HBR.out) k hlt
      obtain ⟨b2, o2, rfl, hb2, -⟩ := HFl.out wr (HBW.out wr HBR.out) k hlt
      obtain ⟨b3, o3, rfl, hb3, -⟩ := HLv.out wr (HBW.out wr HBR.out) k hlt
      have HC1 := Lib.hid (fun wx (hb : Below w.heap.size w wx) => by
        obtain ⟨b', o', he', -, z⟩ := HP.out wx hb k hlt
        simp only [Option.some.injEq, Addr.mk.injEq, and_true] at he'
        obtain ⟨rfl, rfl⟩ := he'
        exact z)
      have HC2 := Lib.hid (fun wx (hb : Below w.heap.size w wx) => by
        obtain ⟨b', o', he', -, z⟩ := HFl.out wx hb k hlt
        simp only [Option.some.injEq, Addr.mk.injEq, and_true] at he'
        obtain ⟨rfl, rfl⟩ := he'
        exact z)
      have HC3 := Lib.hid (fun wx (hb : Below w.heap.size w wx) => by
        obtain ⟨b', o', he', -, z⟩ := HLv.out wx hb k hlt
        simp only [Option.some.injEq, Addr.mk.injEq, and_true] at he'
        obtain ⟨rfl, rfl⟩ := he'
        exact z)
      generalize m.ph.getD k 0 = x1 at *
      generalize m.fl.getD k false = x2 at *
      generalize m.lv.getD k false = x3 at *
      have hfr := Lib.hid (show flatR (X k) ++ [.int .i64 4, .int .i64 0, .int .i64 0, .int .i64 k, .int .i64 x1, .int .i64 5, .int .i64 0, .int .i64 0, .int .i64 k, .int .i64 (one x2), .int .i64 6, .int .i64 0, .int .i64 0, .int .i64 k, .int .i64 (one x3)] = flatR (X (k + 1)) from by rw [HX1.out]; simp [flatR, Rc.cells])
      have hln := Lib.hid (show (X k).length + 3 = (X (k + 1)).length from by rw [HX1.out]; simp)
      go_wp2_with fail
      have hnn : (X k).length ≤ 4000000 := by omega
      refine ghostM [24, 25] (fun p γ L wx => Ap wr (w.heap.size + 2) (X k).length u5 (flatR (X k)) [.int .i64 4, .int .i64 0, .int .i64 0, .int .i64 k, .int .i64 x1, .int .i64 5, .int .i64 0, .int .i64 0, .int .i64 k,   .int .i64 (one x2), .int .i64 6, .int .i64 0, .int .i64 0, .int .i64 k, .int .i64 (one x3)] p (γ 24) (γ 25) (γ 26) (L 26) wx) (by kernel_rfl) (by kernel_rfl) (fun γ => Ap.start) ?_
      apply GM.walk_plain (by kernel_rfl) (by kernel_rfl) (fun γ => by rfl)
      · intro γ L p wx h1 h2 hup hlo hS K hK
        have HK2 := Lib.hid hK
        have HS := Lib.hid hS
        clear hK h1 h2 hup hlo hS
        go_simp
        exact HK2.out _ HS.out
      try simp only [Act.put, List.setIfInBounds_toArray, List.set_cons_succ, List.set_cons_zero]
      apply GM.walk_plain (by kernel_rfl) (by kernel_rfl) (fun γ => by rfl)
      · intro γ L p wx h1 h2 hup hlo hS K hK
        have HK2 := Lib.hid hK
        have HS := Lib.hid hS
        clear hK h1 h2 hup hlo hS
        go_simp
        exact HK2.out _ HS.out
      try simp only [Act.put, List.setIfInBounds_toArray, List.set_cons_succ, List.set_cons_zero]
      apply GM.walk_plain (by kernel_rfl) (by kernel_rfl) (fun γ => by rfl)
      · intro γ L p wx h1 h2 hup hlo hS K hK
        have hbb := HBR.out.trans (hS.bel.mono (Nat.le_refl _))
        obtain ⟨y0, y1, y2, y3⟩ := HQ.out wx hbb
        clear hbb
        have HK2 := Lib.hid hK
        have HS := Lib.hid hS
        clear hK h1 h2 hup hlo hS
        go_simp
        exact HK2.out _ HS.out
      try simp only [Act.put, List.setIfInBounds_toArray, List.set_cons_succ, List.set_cons_zero]
      apply GM.walk_plain (by kernel_rfl) (by kernel_rfl) (fun γ => by rfl)
      · intro γ L p wx h1 h2 hup hlo hS K hK
        have hbb := HBR.out.trans (hS.bel.mono (Nat.le_refl _))
        obtain ⟨y0, y1, y2, y3⟩ := HQ.out wx hbb
        clear hbb
        have HK2 := Lib.hid hK
        have HS := Lib.hid hS
        clear hK h1 h2 hup hlo hS
        go_simp
        exact HK2.out _ HS.out
      try simp only [Act.put, List.setIfInBounds_toArray, List.set_cons_succ, List.set_cons_zero]
      apply GM.walk_plain (by kernel_rfl) (by kernel_rfl) (fun γ => by rfl)
      · intro γ L p wx h1 h2 hup hlo hS K hK
        have hbb := HBR.out.trans (hS.bel.mono (Nat.le_refl _))
        obtain ⟨y0, y1, y2, y3⟩ := HQ.out wx hbb
        clear hbb
        have HK2 := Lib.hid hK
        have HS := Lib.hid hS
        clear hK h1 h2 hup hlo hS
        go_simp
        exact HK2.out _ HS.out
      try simp only [Act.put, List.setIfInBounds_toArray, List.set_cons_succ, List.set_cons_zero]
      apply GM.walk_plain (by kernel_rfl) (by kernel_rfl) (fun γ => by rfl)
      · intro γ L p wx h1 h2 hup hlo hS K hK
        have hbb := HBR.out.trans (hS.bel.mono (Nat.le_refl _))
        obtain ⟨y0, y1, y2, y3⟩ := HQ.out wx hbb
        clear hbb
        have HK2 := Lib.hid hK
        have HS := Lib.hid hS
        clear hK h1 h2 hup hlo hS
        go_simp
        exact HK2.out _ HS.out
      try simp only [Act.put, List.setIfInBounds_toArray, List.set_cons_succ, List.set_cons_zero]
      apply GM.walk_plain (by kernel_rfl) (by kernel_rfl) (fun γ => by rfl)
      · intro γ L p wx h1 h2 hup hlo hS K hK
        have hbb := HBR.out.trans (hS.bel.mono (Nat.le_refl _))
        have z1 := HC1.out wx (HBW.out wx hbb)
        clear hbb
        have HK2 := Lib.hid hK
        have HS := Lib.hid hS
        clear hK h1 h2 hup hlo hS
        go_simp
        exact HK2.out _ HS.out
      try simp only [Act.put, List.setIfInBounds_toArray, List.set_cons_succ, List.set_cons_zero]
      apply GM.walk_plain (by kernel_rfl) (by kernel_rfl) (fun γ => by rfl)
      · intro γ L p wx h1 h2 hup hlo hS K hK
        have HK2 := Lib.hid hK
        have HS := Lib.hid hS
        clear hK h1 h2 hup hlo hS
        go_simp
        exact HK2.out _ HS.out
      try simp only [Act.put, List.setIfInBounds_toArray, List.set_cons_succ, List.set_cons_zero]
      apply GM.walk_plain (by kernel_rfl) (by kernel_rfl) (fun γ => by rfl)
      · intro γ L p wx h1 h2 hup hlo hS K hK
        have HK2 := Lib.hid hK
        have HS := Lib.hid hS
        clear hK h1 h2 hup hlo hS
        go_simp
        exact HK2.out _ HS.out
      try simp only [Act.put, List.setIfInBounds_toArray, List.set_cons_succ, List.set_cons_zero]
      apply GM.walk_plain (by kernel_rfl) (by kernel_rfl) (fun γ => by rfl)
      · intro γ L p wx h1 h2 hup hlo hS K hK
        have hbb := HBR.out.trans (hS.bel.mono (Nat.le_refl _))
        obtain ⟨y0, y1, y2, y3⟩ := HQ.out wx hbb
        clear hbb
        have HK2 := Lib.hid hK
        have HS := Lib.hid hS
        clear hK h1 h2 hup hlo hS
        go_simp
        exact HK2.out _ HS.out
      try simp only [Act.put, List.setIfInBounds_toArray, List.set_cons_succ, List.set_cons_zero]
      apply GM.walk_plain (by kernel_rfl) (by kernel_rfl) (fun γ => by rfl)
      · intro γ L p wx h1 h2 hup hlo hS K hK
        have hbb := HBR.out.trans (hS.bel.mono (Nat.le_refl _))
        obtain ⟨y0, y1, y2, y3⟩ := HQ.out wx hbb
        clear hbb
        have HK2 := Lib.hid hK
        have HS := Lib.hid hS
        clear hK h1 h2 hup hlo hS
        go_simp
        exact HK2.out _ HS.out
      try simp only [Act.put, List.setIfInBounds_toArray, List.set_cons_succ, List.set_cons_zero]
      apply GM.walk_plain (by kernel_rfl) (by kernel_rfl) (fun γ => by rfl)
      · intro γ L p wx h1 h2 hup hlo hS K hK
        have HK2 := Lib.hid hK
        have HS := Lib.hid hS
        clear hK h1 h2 hup hlo hS
        go_simp
        exact HK2.out _ HS.out
      try simp only [Act.put, List.setIfInBounds_toArray, List.set_cons_succ, List.set_cons_zero]
      apply GM.walk_plain (by kernel_rfl) (by kernel_rfl) (fun γ => by rfl)
      · intro γ L p wx h1 h2 hup hlo hS K hK
        have hbb := HBR.out.trans (hS.bel.mono (Nat.le_refl _))
        obtain ⟨y0, y1, y2, y3⟩ := HQ.out wx hbb
        clear hbb
        have HK2 := Lib.hid hK
        have HS := Lib.hid hS
        clear hK h1 h2 hup hlo hS
        go_simp
        exact HK2.out _ HS.out
      try simp only [Act.put, List.setIfInBounds_toArray, List.set_cons_succ, List.set_cons_zero]
      apply GM.walk_plain (by kernel_rfl) (by kernel_rfl) (fun γ => by rfl)
      · intro γ L p wx h1 h2 hup hlo hS K hK
        have hbb := HBR.out.trans (hS.bel.mono (Nat.le_refl _))
        have z2 := HC2.out wx (HBW.out wx hbb)
        clear hbb
        have HK2 := Lib.hid hK
        have HS := Lib.hid hS
        clear hK h1 h2 hup hlo hS
        go_simp
        exact HK2.out _ HS.out
      try simp only [Act.put, List.setIfInBounds_toArray, List.set_cons_succ, List.set_cons_zero]
      apply GM.walk_plain (by kernel_rfl) (by kernel_rfl) (fun γ => by rfl)
      · intro γ L p wx h1 h2 hup hlo hS K hK
        have HZ := Lib.hid hS
        have HK2 := Lib.hid hK
        have HS := Lib.hid hS
        clear hK h1 h2 hup hlo hS
        clear HZ
        go_simp
        go_at_call 49; refine (HF1.out _ _).mono ?_; rintro e w' ⟨rfl, rfl⟩; exact HK2.out _ HS.out
      try simp only [Act.put, List.setIfInBounds_toArray, List.set_cons_succ, List.set_cons_zero]
      apply GM.walk_plain (by kernel_rfl) (by kernel_rfl) (fun γ => by rfl)
      · intro γ L p wx h1 h2 hup hlo hS K hK
        have HK2 := Lib.hid hK
        have HS := Lib.hid hS
        clear hK h1 h2 hup hlo hS
        go_simp
        exact HK2.out _ HS.out
      try simp only [Act.put, List.setIfInBounds_toArray, List.set_cons_succ, List.set_cons_zero]
      apply GM.walk_plain (by kernel_rfl) (by kernel_rfl) (fun γ => by rfl)
      · intro γ L p wx h1 h2 hup hlo hS K hK
        have HK2 := Lib.hid hK
        have HS := Lib.hid hS
        clear hK h1 h2 hup hlo hS
        go_simp
        exact HK2.out _ HS.out
      try simp only [Act.put, List.setIfInBounds_toArray, List.set_cons_succ, List.set_cons_zero]
      apply GM.walk_plain (by kernel_rfl) (by kernel_rfl) (fun γ => by rfl)
      · intro γ L p wx h1 h2 hup hlo hS K hK
        have hbb := HBR.out.trans (hS.bel.mono (Nat.le_refl _))
        obtain ⟨y0, y1, y2, y3⟩ := HQ.out wx hbb
        clear hbb
        have HK2 := Lib.hid hK
        have HS := Lib.hid hS
        clear hK h1 h2 hup hlo hS
        go_simp
        exact HK2.out _ HS.out
      try simp only [Act.put, List.setIfInBounds_toArray, List.set_cons_succ, List.set_cons_zero]
      apply GM.walk_plain (by kernel_rfl) (by kernel_rfl) (fun γ => by rfl)
      · intro γ L p wx h1 h2 hup hlo hS K hK
        have hbb := HBR.out.trans (hS.bel.mono (Nat.le_refl _))
        obtain ⟨y0, y1, y2, y3⟩ := HQ.out wx hbb
        clear hbb
        have HK2 := Lib.hid hK
        have HS := Lib.hid hS
        clear hK h1 h2 hup hlo hS
        go_simp
        exact HK2.out _ HS.out
      try simp only [Act.put, List.setIfInBounds_toArray, List.set_cons_succ, List.set_cons_zero]
      apply GM.walk_plain (by kernel_rfl) (by kernel_rfl) (fun γ => by rfl)
      · intro γ L p wx h1 h2 hup hlo hS K hK
        have HK2 := Lib.hid hK
        have HS := Lib.hid hS
        clear hK h1 h2 hup hlo hS
        go_simp
        exact HK2.out _ HS.out
      try simp only [Act.put, List.setIfInBounds_toArray, List.set_cons_succ, List.set_cons_zero]
      apply GM.walk_plain (by kernel_rfl) (by kernel_rfl) (fun γ => by rfl)
      · intro γ L p wx h1 h2 hup hlo hS K hK
        have hbb := HBR.out.trans (hS.bel.mono (Nat.le_refl _))
        obtain ⟨y0, y1, y2, y3⟩ := HQ.out wx hbb
        clear hbb
        have HK2 := Lib.hid hK
        have HS := Lib.hid hS
        clear hK h1 h2 hup hlo hS
        go_simp
        exact HK2.out _ HS.out
      try simp only [Act.put, List.setIfInBounds_toArray, List.set_cons_succ, List.set_cons_zero]
      apply GM.walk_plain (by kernel_rfl) (by kernel_rfl) (fun γ => by rfl)
      · intro γ L p wx h1 h2 hup hlo hS K hK
        have hbb := HBR.out.trans (hS.bel.mono (Nat.le_refl _))
        have z3 := HC3.out wx (HBW.out wx hbb)
        clear hbb
        have HK2 := Lib.hid hK
        have HS := Lib.hid hS
        clear hK h1 h2 hup hlo hS
        go_simp
        exact HK2.out _ HS.out
      try simp only [Act.put, List.setIfInBounds_toArray, List.set_cons_succ, List.set_cons_zero]
      apply GM.walk_plain (by kernel_rfl) (by kernel_rfl) (fun γ => by rfl)
      · intro γ L p wx h1 h2 hup hlo hS K hK
        have HZ := Lib.hid hS
        have HK2 := Lib.hid hK
        have HS := Lib.hid hS
        clear hK h1 h2 hup hlo hS
        clear HZ
        go_simp
        go_at_call 49; refine (HF1.out _ _).mono ?_; rintro e w' ⟨rfl, rfl⟩; exact HK2.out _ HS.out
      try simp only [Act.put, List.setIfInBounds_toArray, List.set_cons_succ, List.set_cons_zero]
      apply GM.walk_plain (by kernel_rfl) (by kernel_rfl) (fun γ => by rfl)
      · intro γ L p wx h1 h2 hup hlo hS K hK
        have HK2 := Lib.hid hK
        have HS := Lib.hid hS
        clear hK h1 h2 hup hlo hS
        go_simp
        exact HK2.out _ HS.out
      try simp only [Act.put, List.setIfInBounds_toArray, List.set_cons_succ, List.set_cons_zero]
      apply GM.walk_turn 0 rfl (by kernel_rfl) (by decide) (.inl rfl) (fun γ => by rfl)
      · intro γ L wx h1 h2 hS K hK
        have HK2 := Lib.hid hK
        have HS := Lib.hid hS
        clear hK h1 h2 hS
        go_simp
        exact HK2.out _ _ (HS.out.build hlo rfl)
      try simp only [Act.put, List.setIfInBounds_toArray, List.set_cons_succ, List.set_cons_zero]
      apply GM.walk_turn 1 rfl (by kernel_rfl) (by decide) (.inr ⟨24, rfl, by kernel_rfl⟩) (fun γ => by rfl)
      · intro γ L wx h1 h2 hS K hK
        obtain ⟨g, hg, hc⟩ := hS.made rfl
        exact wp_append_own wx (.tmp 20) (.tmp 44) 34 rfl (w.heap.size + 2) 41 i0 _ 5 40 Try.underlying34 hi0 hs0 hs1 hs2 rfl (by decide) u5 (X k).length (flatR (X k)) rfl (own_of_blocks HO.out (fun j _ hj => (hS.low (by decide)).block j hj)) ⟨g, 0, none⟩ 3 3 _ hg rfl hc (by intro u hu; simp only [List.mem_cons, List.not_mem_nil, or_false] at hu; rcases hu with rfl | rfl | rfl | rfl | rfl | rfl | rfl | rfl | rfl | rfl | rfl | rfl | rfl | rfl | rfl <;> rfl) (by unfold maxLen; omega) (by omega) (Nat.le_trans hlo (hS.low (by decide)).size) (fun v' w' ho hg' _ => hK v' w' (hS.join ho hg' (fun k hk => (HO.out.lt k hk).1) hlo))
      try simp only [Act.put, List.setIfInBounds_toArray, List.set_cons_succ, List.set_cons_zero]
      apply GM.walk_ghost (by kernel_rfl) (by kernel_rfl) (fun γ => by rfl)
      · intro γ L p wx h1 h2 hup hlo hS K hK
        have hp := hlo 1 25 rfl (h2 25 (by kernel_rfl))
        have HK2 := Lib.hid hK
        have HS := Lib.hid (hS.move (by omega))
        clear hK h1 h2 hup hS hp
        go_simp
        exact HK2.out (γ 25) _ HS.out
      try simp only [Act.put, List.setIfInBounds_toArray, List.set_cons_succ, List.set_cons_zero]
      refine GhostV.walk_nil (fun γ L w4 hall hx => ?_)
      have hSt := hx.done (fun t ht => hall t (by simp only [List.mem_cons, List.not_mem_nil, or_false] at ht; rcases ht with rfl | rfl <;> decide))
      replace hSt : Ap wr (w.heap.size + 2) (X k).length u5 (flatR (X k)) _ 2 (γ 24) (γ 25) (γ 26) (L 26) w4 := hSt
      have hmv := (hSt.mv (hall 26 (by decide))).2
      have ho4 := hSt.own (by decide)
      rw [hfr.out, hln.out, ← hmv] at ho4
      have HO4 := Lib.hid ho4
      have HB4 := Lib.hid (HBR.out.trans (hSt.bel.mono (Nat.le_refl _)))
      clear hSt hx hall hmv ho4
      generalize γ 24 = g4 at *
      generalize γ 25 = g5 at *
      generalize γ 26 = g6 at *
      go_wp2_with fail
      go_roundw
      case rel => exact ⟨k + 1, by omega, by go_num, HO4.out, HB4.out⟩
      case measure => simp [intOf]; omega
    case neg =>
      obtain rfl : k = cs.length := by omega
      have hd : decide ((cs.length : Int) < (cs.length : Int)) = false := decide_eq_false (by omega)
      have HA1 : Hid (wr.ownsRow (w.heap.size + 2) 41 5 u5 (Y 0).length (flatR (Y 0))) := Lib.hid (by rw [HST.out]; exact HO.out)
      clear HO HX HLX HP HFl HLv HST
      go_wp2_with fail
      clear y0 y1 y2 y3
      go_loopw [5, 7] (fun vo vi wr => ∃ j : Nat, j ≤ es.length ∧ vi = .int .i64 j ∧ wr.ownsRow (w.heap.size + 2) 41 5 vo (Y j).length (flatR (Y j)) ∧ Below (w.heap.size + 2) w1 wr) (fun _ vi _ => es.length - (intOf vi).toNat)
      case atStart => exact ⟨0, Nat.zero_le _, rfl, HA1.out, HBR.out⟩
      case round =>
        clear HBR HA1 hlo
        obtain ⟨j, hj, rfl, hown, hbr⟩ := hrel
        have HBR := Lib.hid hbr
        have hlo : w.heap.size + 2 ≤ wr.heap.size := by have := hbr.size; omega
        obtain ⟨y0, y1, y2, y3⟩ := HQ.out wr hbr
        by_cases hlt : j < es.length
        case pos =>
          have hdj : decide ((j : Int) < (es.length : Int)) = true := decide_eq_true (by omega)
          obtain ⟨b1, o1, rfl, hb1, z0, z1, z2, z3, z4⟩ := HEn.out wr (HBW.out wr hbr) j hlt
          have HY1 := Lib.hid (HY.out j hlt)
          have hl1 := HLY.out j (by omega)
          have hl2 := HLY.out (j + 1) (by omega)
          have HOo := Lib.hid hown
          clear hown hbr
          generalize es[j] = x at *
          obtain ⟨x1, x2, x3, x4, x5⟩ := x
          simp only at z0 z1 z2 z3 z4 HY1
          have hfr := Lib.hid (show flatR (Y j) ++ [.int .i64 1, .int .i64 x1, .int .i64 x2, .int .i64 0, .int .i64 0, .int .i64 3, .int .i64 x1, .int .i64 x2, .int .i64 x3, .int .i64 0, .int .i64 7, .int .i64 x1, .int .i64 x2, .int .i64 (one x5), .int .i64 x4] = flatR (Y (j + 1)) from by rw [HY1.out]; simp [flatR, Rc.cells])
          have hln := Lib.hid (show (Y j).length + 3 = (Y (j + 1)).length from by rw [HY1.out]; simp)
          go_wp2_with fail
          clear y0 y1 y2 y3 z0 z1 z2 z3 z4
          have HRE := Lib.hid (heap_alloc_new wr (.cells #[.int .i64 x1, .int .i64 x2, .int .i64 x3, .int .i64 x4, .bool x5] 71))
          have HAL := Lib.hid (show Below (w.heap.size + 2) wr (wr.alloc (.cells #[.int .i64 x1, .int .i64 x2, .int .i64 x3, .int .i64 x4, .bool x5] 71)) from ⟨rfl, rfl, rfl, by simp, fun k hk => Below.heap_alloc _ _ _ (by omega)⟩)
          have HO := Lib.hid (HOo.out.alloc (.cells #[.int .i64 x1, .int .i64 x2, .int .i64 x3, .int .i64 x4, .bool x5] 71))
          have hne : u5.ownBlock ≠ some wr.heap.size := fun e => by have := HOo.out.lt _ e; omega
          have hloW : w.heap.size + 2 ≤ (wr.alloc (.cells #[.int .i64 x1, .int .i64 x2, .int .i64 x3, .int .i64 x4, .bool x5] 71)).heap.size := by simp; omega
          have HBX := Lib.hid (HBR.out.trans HAL.out)
          have hgE : wr.heap.size < (wr.alloc (.cells #[.int .i64 x1, .int .i64 x2, .int .i64 x3, .int .i64 x4, .bool x5] 71)).heap.size := by simp
          generalize hWE : wr.alloc (.cells #[.int .i64 x1, .int .i64 x2, .int .i64 x3, .int .i64 x4, .bool x5] 71) = wE at *
          clear hWE HOo HBR hlo
          have hnn : (Y j).length ≤ 4000000 := by omega
          refine ghostM [23, 24] (fun p γ L wx => Ap wE (w.heap.size + 2) (Y j).length u5 (flatR (Y j)) [.int .i64 1, .int .i64 x1, .int .i64 x2, .int .i64 0, .int .i64 0, .int .i64 3, .int .i64 x1, .int .i64 x2, .int .i64 x3, .int .i64 0, .int .i64 7, .int .i64 x1, .int .i64 x2, .int .i64 (one x5), .int .i64 x4] p (γ 23) (γ 24) (γ 25) (L 25) wx) (by kernel_rfl) (by kernel_rfl) (fun γ => Ap.start) ?_
          apply GM.walk_plain (by kernel_rfl) (by kernel_rfl) (fun γ => by rfl)
          · intro γ L p wx h1 h2 hup hlo hS K hK
            have HK2 := Lib.hid hK
            have HS := Lib.hid hS
            clear hK h1 h2 hup hlo hS
            go_simp
            exact HK2.out _ HS.out
          try simp only [Act.put, List.setIfInBounds_toArray, List.set_cons_succ, List.set_cons_zero]
          apply GM.walk_plain (by kernel_rfl) (by kernel_rfl) (fun γ => by rfl)
          · intro γ L p wx h1 h2 hup hlo hS K hK
            obtain ⟨z0, z1, z2, z3, z4⟩ := enRowCells ((hS.keep _ hgE hne).trans HRE.out)
            have HK2 := Lib.hid hK
            have HS := Lib.hid hS
            clear hK h1 h2 hup hlo hS
            go_simp
            exact HK2.out _ HS.out
          try simp only [Act.put, List.setIfInBounds_toArray, List.set_cons_succ, List.set_cons_zero]
          apply GM.walk_plain (by kernel_rfl) (by kernel_rfl) (fun γ => by rfl)
          · intro γ L p wx h1 h2 hup hlo hS K hK
            obtain ⟨z0, z1, z2, z3, z4⟩ := enRowCells ((hS.keep _ hgE hne).trans HRE.out)
            have HK2 := Lib.hid hK
            have HS := Lib.hid hS
            clear hK h1 h2 hup hlo hS
            go_simp
            exact HK2.out _ HS.out
          try simp only [Act.put, List.setIfInBounds_toArray, List.set_cons_succ, List.set_cons_zero]
          apply GM.walk_plain (by kernel_rfl) (by kernel_rfl) (fun γ => by rfl)
          · intro γ L p wx h1 h2 hup hlo hS K hK
            obtain ⟨z0, z1, z2, z3, z4⟩ := enRowCells ((hS.keep _ hgE hne).trans HRE.out)
            have HK2 := Lib.hid hK
            have HS := Lib.hid hS
            clear hK h1 h2 hup hlo hS
            go_simp
            exact HK2.out _ HS.out
          try simp only [Act.put, List.setIfInBounds_toArray, List.set_cons_succ, List.set_cons_zero]
          apply GM.walk_plain (by kernel_rfl) (by kernel_rfl) (fun γ => by rfl)
          · intro γ L p wx h1 h2 hup hlo hS K hK
            obtain ⟨z0, z1, z2, z3, z4⟩ := enRowCells ((hS.keep _ hgE hne).trans HRE.out)
            have HK2 := Lib.hid hK
            have HS := Lib.hid hS
            clear hK h1 h2 hup hlo hS
            go_simp
            exact HK2.out _ HS.out
          try simp only [Act.put, List.setIfInBounds_toArray, List.set_cons_succ, List.set_cons_zero]
          apply GM.walk_plain (by kernel_rfl) (by kernel_rfl) (fun γ => by rfl)
          · intro γ L p wx h1 h2 hup hlo hS K hK
            have HK2 := Lib.hid hK
            have HS := Lib.hid hS
            clear hK h1 h2 hup hlo hS
            go_simp
            exact HK2.out _ HS.out
          try simp only [Act.put, List.setIfInBounds_toArray, List.set_cons_succ, List.set_cons_zero]
          apply GM.walk_plain (by kernel_rfl) (by kernel_rfl) (fun γ => by rfl)
          · intro γ L p wx h1 h2 hup hlo hS K hK
            obtain ⟨z0, z1, z2, z3, z4⟩ := enRowCells ((hS.keep _ hgE hne).trans HRE.out)
            have HK2 := Lib.hid hK
            have HS := Lib.hid hS
            clear hK h1 h2 hup hlo hS
            go_simp
            exact HK2.out _ HS.out
          try simp only [Act.put, List.setIfInBounds_toArray, List.set_cons_succ, List.set_cons_zero]
          apply GM.walk_plain (by kernel_rfl) (by kernel_rfl) (fun γ => by rfl)
          · intro γ L p wx h1 h2 hup hlo hS K hK
            obtain ⟨z0, z1, z2, z3, z4⟩ := enRowCells ((hS.keep _ hgE hne).trans HRE.out)
            have HK2 := Lib.hid hK
            have HS := Lib.hid hS
            clear hK h1 h2 hup hlo hS
            go_simp
            exact HK2.out _ HS.out
          try simp only [Act.put, List.setIfInBounds_toArray, List.set_cons_succ, List.set_cons_zero]
          apply GM.walk_plain (by kernel_rfl) (by kernel_rfl) (fun γ => by rfl)
          · intro γ L p wx h1 h2 hup hlo hS K hK
            obtain ⟨z0, z1, z2, z3, z4⟩ := enRowCells ((hS.keep _ hgE hne).trans HRE.out)
            have HK2 := Lib.hid hK
            have HS := Lib.hid hS
            clear hK h1 h2 hup hlo hS
            go_simp
            exact HK2.out _ HS.out
          try simp only [Act.put, List.setIfInBounds_toArray, List.set_cons_succ, List.set_cons_zero]
          apply GM.walk_plain (by kernel_rfl) (by kernel_rfl) (fun γ => by rfl)
          · intro γ L p wx h1 h2 hup hlo hS K hK
            obtain ⟨z0, z1, z2, z3, z4⟩ := enRowCells ((hS.keep _ hgE hne).trans HRE.out)
            have HK2 := Lib.hid hK
            have HS := Lib.hid hS
            clear hK h1 h2 hup hlo hS
            go_simp
            exact HK2.out _ HS.out
          try simp only [Act.put, List.setIfInBounds_toArray, List.set_cons_succ, List.set_cons_zero]
          apply GM.walk_plain (by kernel_rfl) (by kernel_rfl) (fun γ => by rfl)
          · intro γ L p wx h1 h2 hup hlo hS K hK
            obtain ⟨z0, z1, z2, z3, z4⟩ := enRowCells ((hS.keep _ hgE hne).trans HRE.out)
            have HK2 := Lib.hid hK
            have HS := Lib.hid hS
            clear hK h1 h2 hup hlo hS
            go_simp
            exact HK2.out _ HS.out
          try simp only [Act.put, List.setIfInBounds_toArray, List.set_cons_succ, List.set_cons_zero]
          apply GM.walk_plain (by kernel_rfl) (by kernel_rfl) (fun γ => by rfl)
          · intro γ L p wx h1 h2 hup hlo hS K hK
            obtain ⟨z0, z1, z2, z3, z4⟩ := enRowCells ((hS.keep _ hgE hne).trans HRE.out)
            have HK2 := Lib.hid hK
            have HS := Lib.hid hS
            clear hK h1 h2 hup hlo hS
            go_simp
            exact HK2.out _ HS.out
          try simp only [Act.put, List.setIfInBounds_toArray, List.set_cons_succ, List.set_cons_zero]
          apply GM.walk_plain (by kernel_rfl) (by kernel_rfl) (fun γ => by rfl)
          · intro γ L p wx h1 h2 hup hlo hS K hK
            have HK2 := Lib.hid hK
            have HS := Lib.hid hS
            clear hK h1 h2 hup hlo hS
            go_simp
            exact HK2.out _ HS.out
          try simp only [Act.put, List.setIfInBounds_toArray, List.set_cons_succ, List.set_cons_zero]
          apply GM.walk_plain (by kernel_rfl) (by kernel_rfl) (fun γ => by rfl)
          · intro γ L p wx h1 h2 hup hlo hS K hK
            obtain ⟨z0, z1, z2, z3, z4⟩ := enRowCells ((hS.keep _ hgE hne).trans HRE.out)
            have HK2 := Lib.hid hK
            have HS := Lib.hid hS
            clear hK h1 h2 hup hlo hS
            go_simp
            exact HK2.out _ HS.out
          try simp only [Act.put, List.setIfInBounds_toArray, List.set_cons_succ, List.set_cons_zero]
          apply GM.walk_plain (by kernel_rfl) (by kernel_rfl) (fun γ => by rfl)
          · intro γ L p wx h1 h2 hup hlo hS K hK
            obtain ⟨z0, z1, z2, z3, z4⟩ := enRowCells ((hS.keep _ hgE hne).trans HRE.out)
            have HK2 := Lib.hid hK
            have HS := Lib.hid hS
            clear hK h1 h2 hup hlo hS
            go_simp
            exact HK2.out _ HS.out
          try simp only [Act.put, List.setIfInBounds_toArray, List.set_cons_succ, List.set_cons_zero]
          apply GM.walk_plain (by kernel_rfl) (by kernel_rfl) (fun γ => by rfl)
          · intro γ L p wx h1 h2 hup hlo hS K hK
            obtain ⟨z0, z1, z2, z3, z4⟩ := enRowCells ((hS.keep _ hgE hne).trans HRE.out)
            have HK2 := Lib.hid hK
            have HS := Lib.hid hS
            clear hK h1 h2 hup hlo hS
            go_simp
            exact HK2.out _ HS.out
          try simp only [Act.put, List.setIfInBounds_toArray, List.set_cons_succ, List.set_cons_zero]
          apply GM.walk_plain (by kernel_rfl) (by kernel_rfl) (fun γ => by rfl)
          · intro γ L p wx h1 h2 hup hlo hS K hK
            obtain ⟨z0, z1, z2, z3, z4⟩ := enRowCells ((hS.keep _ hgE hne).trans HRE.out)
            have HK2 := Lib.hid hK
            have HS := Lib.hid hS
            clear hK h1 h2 hup hlo hS
            go_simp
            exact HK2.out _ HS.out
          try simp only [Act.put, List.setIfInBounds_toArray, List.set_cons_succ, List.set_cons_zero]
          apply GM.walk_plain (by kernel_rfl) (by kernel_rfl) (fun γ => by rfl)
          · intro γ L p wx h1 h2 hup hlo hS K hK
            obtain ⟨z0, z1, z2, z3, z4⟩ := enRowCells ((hS.keep _ hgE hne).trans HRE.out)
            have HK2 := Lib.hid hK
            have HS := Lib.hid hS
            clear hK h1 h2 hup hlo hS
            go_simp
            exact HK2.out _ HS.out
          try simp only [Act.put, List.setIfInBounds_toArray, List.set_cons_succ, List.set_cons_zero]
          apply GM.walk_plain (by kernel_rfl) (by kernel_rfl) (fun γ => by rfl)
          · intro γ L p wx h1 h2 hup hlo hS K hK
            obtain ⟨z0, z1, z2, z3, z4⟩ := enRowCells ((hS.keep _ hgE hne).trans HRE.out)
            have HK2 := Lib.hid hK
            have HS := Lib.hid hS
            clear hK h1 h2 hup hlo hS
            go_simp
            exact HK2.out _ HS.out
          try simp only [Act.put, List.setIfInBounds_toArray, List.set_cons_succ, List.set_cons_zero]
          apply GM.walk_plain (by kernel_rfl) (by kernel_rfl) (fun γ => by rfl)
          · intro γ L p wx h1 h2 hup hlo hS K hK
            have HZ := Lib.hid hS
            have HK2 := Lib.hid hK
            have HS := Lib.hid hS
            clear hK h1 h2 hup hlo hS
            clear HZ
            go_simp
            go_at_call 49; refine (HF1.out _ _).mono ?_; rintro e w' ⟨rfl, rfl⟩; exact HK2.out _ HS.out
          try simp only [Act.put, List.setIfInBounds_toArray, List.set_cons_succ, List.set_cons_zero]
          apply GM.walk_plain (by kernel_rfl) (by kernel_rfl) (fun γ => by rfl)
          · intro γ L p wx h1 h2 hup hlo hS K hK
            obtain ⟨z0, z1, z2, z3, z4⟩ := enRowCells ((hS.keep _ hgE hne).trans HRE.out)
            have HK2 := Lib.hid hK
            have HS := Lib.hid hS
            clear hK h1 h2 hup hlo hS
            go_simp
            exact HK2.out _ HS.out
          try simp only [Act.put, List.setIfInBounds_toArray, List.set_cons_succ, List.set_cons_zero]
          apply GM.walk_plain (by kernel_rfl) (by kernel_rfl) (fun γ => by rfl)
          · intro γ L p wx h1 h2 hup hlo hS K hK
            obtain ⟨z0, z1, z2, z3, z4⟩ := enRowCells ((hS.keep _ hgE hne).trans HRE.out)
            have HK2 := Lib.hid hK
            have HS := Lib.hid hS
            clear hK h1 h2 hup hlo hS
            go_simp
            exact HK2.out _ HS.out
          try simp only [Act.put, List.setIfInBounds_toArray, List.set_cons_succ, List.set_cons_zero]
          apply GM.walk_plain (by kernel_rfl) (by kernel_rfl) (fun γ => by rfl)
          · intro γ L p wx h1 h2 hup hlo hS K hK
            have HK2 := Lib.hid hK
            have HS := Lib.hid hS
            clear hK h1 h2 hup hlo hS
            go_simp
            exact HK2.out _ HS.out
          try simp only [Act.put, List.setIfInBounds_toArray, List.set_cons_succ, List.set_cons_zero]
          apply GM.walk_turn 0 rfl (by kernel_rfl) (by decide) (.inl rfl) (fun γ => by rfl)
          · intro γ L wx h1 h2 hS K hK
            have HK2 := Lib.hid hK
            have HS := Lib.hid hS
            clear hK h1 h2 hS
            go_simp
            exact HK2.out _ _ (HS.out.build hloW rfl)
          try simp only [Act.put, List.setIfInBounds_toArray, List.set_cons_succ, List.set_cons_zero]
          apply GM.walk_turn 1 rfl (by kernel_rfl) (by decide) (.inr ⟨23, rfl, by kernel_rfl⟩) (fun γ => by rfl)
          · intro γ L wx h1 h2 hS K hK
            obtain ⟨g, hg, hc⟩ := hS.made rfl
            exact wp_append_own wx (.tmp 58) (.tmp 81) 34 rfl (w.heap.size + 2) 41 i0 _ 5 40 Try.underlying34 hi0 hs0 hs1 hs2 rfl (by decide) u5 (Y j).length (flatR (Y j)) rfl (own_of_blocks HO.out (fun j _ hj => (hS.low (by decide)).block j hj)) ⟨g, 0, none⟩ 3 3 _ hg rfl hc (by intro u hu; simp only [List.mem_cons, List.not_mem_nil, or_false] at hu; rcases hu with rfl | rfl | rfl | rfl | rfl | rfl | rfl | rfl | rfl | rfl | rfl | rfl | rfl | rfl | rfl <;> rfl) (by unfold maxLen; omega) (by omega) (Nat.le_trans hloW (hS.low (by decide)).size) (fun v' w' ho hg' _ => hK v' w' (hS.join ho hg' (fun k hk => (HO.out.lt k hk).1) hloW))
          try simp only [Act.put, List.setIfInBounds_toArray, List.set_cons_succ, List.set_cons_zero]
          apply GM.walk_ghost (by kernel_rfl) (by kernel_rfl) (fun γ => by rfl)
          · intro γ L p wx h1 h2 hup hlo hS K hK
            have hp := hlo 1 24 rfl (h2 24 (by kernel_rfl))
            have HK2 := Lib.hid hK
            have HS := Lib.hid (hS.move (by omega))
            clear hK h1 h2 hup hS hp
            go_simp
            exact HK2.out (γ 24) _ HS.out
          try simp only [Act.put, List.setIfInBounds_toArray, List.set_cons_succ, List.set_cons_zero]
          refine GhostV.walk_nil (fun γ L w4 hall hx => ?_)
          have hSt := hx.done (fun t ht => hall t (by simp only [List.mem_cons, List.not_mem_nil, or_false] at ht; rcases ht with rfl | rfl <;> decide))
          replace hSt : Ap wE (w.heap.size + 2) (Y j).length u5 (flatR (Y j)) _ 2 (γ 23) (γ 24) (γ 25) (L 25) w4 := hSt
          have hmv := (hSt.mv (hall 25 (by decide))).2
          have ho4 := hSt.own (by decide)
          rw [hfr.out, hln.out, ← hmv] at ho4
          have HO4 := Lib.hid ho4
          have HB4 := Lib.hid (HBX.out.trans (hSt.bel.mono (Nat.le_refl _)))
          clear hSt hx hall hmv ho4
          generalize γ 23 = g4 at *
          generalize γ 24 = g5 at *
          generalize γ 25 = g6 at *
          go_wp2_with fail
          go_roundw
          case rel => exact ⟨j + 1, by omega, by go_num, HO4.out, HB4.out⟩
          case measure => simp [intOf]; omega
        case neg =>
          obtain rfl : j = es.length := by omega
          have hdj : decide ((es.length : Int) < (es.length : Int)) = false := decide_eq_false (by omega)
          have HOF := Lib.hid hown
          clear hown hbr
          go_wp2_with fail
          go_ret
          rw [HFIN.out] at HOF
          exact ⟨_, rfl, own_base HOF.out (by omega), HBW.out _ HBR.out⟩
end Go.Proofs.Ytifbkoaggjikpaa
