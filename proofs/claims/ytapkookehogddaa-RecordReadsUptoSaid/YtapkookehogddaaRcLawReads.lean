/- The law RecordReads, where the arguments are together of bulk at most 1048576: which records any bytes begin with. No other condition. -/
import Derived.Test.YtapkookehogddaaRcOpen
import Derived.Lib.AppendStr
import Derived.Laws.BytesArg
import Derived.JoinedCond
namespace Go.Proofs.Ytapkookehogddaa
open Go.RowKit Ghost Go.ChangeShapes Go.WideShapes Go.ChangeAt Go.Deep

theorem u8Info : (Try.prog.info? 5).map (fun i => (i.zero, i.size, i.bytes)) = some (some (.int .u8 0), 1, 1) := by kernel_rfl
theorem cellsS_app (a b : ByteArray) : Go.Lib.strCells (a ++ b) = Go.Lib.strCells a ++ Go.Lib.strCells b := by
  unfold Go.Lib.strCells; rw [ba_app, List.map_append]
theorem BytesAt.below {w w' : World} {g : Nat} {l : List UInt8} (h : BytesAt w g l) (hg : g < w.heap.size) (hb : RowKit.Below w.heap.size w w') : BytesAt w' g l := fun j hj =>
  ⟨(hb.cell (p := ⟨g, j, none⟩) hg).trans (h j hj).1, by have := (h j hj).2; unfold World.frozen? at this ⊢; rw [hb.block g hg]; exact this⟩
theorem BytesAt.take {w : World} {g : Nat} {l : List UInt8} (h : BytesAt w g l) (k : Nat) : BytesAt w g (l.take k) := fun j hj => by
  rw [List.length_take] at hj
  have := h j (by omega)
  have e : (l.take k).getD j 0 = l.getD j 0 := by simp [List.getD, List.getElem?_take_of_lt (show j < k by omega)]
  rw [e]; exact this
theorem BytesAt.set {W : World} {g : Nat} {l : List UInt8} {j : Nat} (h : BytesAt W g l) (hj : j < l.length) (v : UInt8) : BytesAt (W.setCell ⟨g, j, none⟩ (.int .u8 ((v.toNat : Nat) : Int))) g (l.set j v) := by
  intro i hi
  rw [List.length_set] at hi
  rw [World.frozen?_setCell]
  refine ⟨?_, (h i hi).2⟩
  by_cases hij : j = i
  · subst hij
    rw [World.cell?_setCell_same W _ _ (h j hj).1]
    simp [List.getD, hj]
  · rw [World.cell?_setCell_other W _ _ _ (by intro he; injection he; omega), (h i hi).1]
    simp [List.getD, List.getElem?_set_ne hij]
theorem own_bytes {w : World} {base n : Nat} {v : Value} {l : List UInt8} (h : w.ownsRow base 5 1 v n (Go.Lib.strCells ⟨l.toArray⟩)) (hn : 0 < n) :
    n = l.length ∧ ∃ g cap, v = .slice (some ⟨g, 0, none⟩) n cap ∧ base ≤ g ∧ g < w.heap.size ∧ n ≤ cap ∧ BytesAt w g l := by
  obtain ⟨hl, h | ⟨g, cap, cur, hv, hb, hg, hc, -, -, ht⟩⟩ := h
  · omega
  · rw [Go.Lib.strCells_length] at hl
    have hl2 : l.length = n := by
      have : (⟨l.toArray⟩ : ByteArray).size = l.length := List.size_toArray ..
      omega
    refine ⟨hl2.symm, g, cap, hv, hb, (Array.getElem?_eq_some_iff.1 hg).1, hc, fun j hj => ⟨?_, frozen_of_row _ _ _ _ _ hg⟩⟩
    rw [cell_of_row w g j cur _ (0, 0) hg, ← Array.getElem?_toList]
    have e : (cur.toList.take (n * 1))[j]? = cur.toList[j]? := List.getElem?_take_of_lt (by omega)
    rw [← e, ht]
    simp [Go.Lib.strCells, List.getD, hj]
theorem nums_len (l : List Nat) : (⟨(l.map UInt8.ofNat).toArray⟩ : ByteArray).size = l.length := by
  show (l.map UInt8.ofNat).toArray.size = _; simp
theorem addr_off (b off j : Nat) : (⟨b, off, none⟩ : Addr).add j = ⟨b, off + j, none⟩ := by unfold Addr.add; split <;> simp_all
theorem conv_vv {w : World} {A : Option Addr} {cap : Nat} {l : List Nat} (h : VAt w A (u8s l)) (hl : ∀ z ∈ l, z < 256) :
    (convert 35 9 (.slice A l.length cap)).run Try.prog w = .ok (.string ⟨(l.map UInt8.ofNat).toArray⟩) w := by
  rcases Nat.eq_zero_or_pos l.length with h0 | h0
  · have : l = [] := List.eq_nil_of_length_eq_zero h0
    subst this
    cases A with
    | none => exact run_convert_bytes_nil (P := Try.prog) (w := w) 35 5 (by kernel_rfl) (by kernel_rfl) 0 cap 9 (by kernel_rfl)
    | some a => exact run_convert_bytes_back w 35 9 5 a cap [] (by kernel_rfl) (by kernel_rfl) (by kernel_rfl) (fun j hj => absurd hj (Nat.not_lt_zero _))
  · obtain ⟨b, off, rfl, -, -⟩ := h.u8 (k := 0) h0
    have e : l.length = (l.map UInt8.ofNat).length := by simp
    rw [e]
    refine run_convert_bytes_back w 35 9 5 _ cap _ (by kernel_rfl) (by kernel_rfl) (by kernel_rfl) (fun j hj => ?_)
    have hj' : j < l.length := by simpa using hj
    obtain ⟨b2, off2, h1, -, h2⟩ := h.u8 (k := j) hj'
    injection h1 with h1
    injection h1 with h3 h4 h5
    subst h3 h4
    rw [addr_off, h2]
    have hz := hl _ (List.getElem_mem hj')
    simp [List.getD, hj', UInt8.toNat_ofNat_of_lt' (by simpa using hz)]
def bldZ : BldD := ⟨0, 0, 0, 0, 0, 0, 0, []⟩
theorem bldZ_bad : ¬ validE bldZ = 0 := by
  unfold validE
  rw [if_pos (by decide)]
  decide
theorem lstB {a b c : ByteArray} {m : Nat} (ha : a.size ≤ m) (hb : b.size ≤ m) (hc : c.size ≤ m) : ∀ i (h : i < 3), ([a, b, c][i]'(by simpa using h)).size ≤ m
  | 0, _ => ha
  | 1, _ => hb
  | 2, _ => hc

set_option maxRecDepth 100000 in
set_option maxHeartbeats 8000000 in
theorem lawReads_nat (n : Nat) (v : Value) (ns : List Nat) (v' : Value) (ms : List Nat) (w : World) (hn : n < 256) (hv : VV w v (u8s ns)) (hns : ∀ z ∈ ns, z < 256) (hnl : ns.length ≤ maxLen) (hv' : VV w v' (u8s ms)) (hms : ∀ z ∈ ms, z < 256) (hml : ms.length ≤ 1048576) :
    Calls Try.prog 5 #[.int .u8 n, v, v'] w fun e w' => e = .returned (.bool true) ∧ Below w.heap.size w w' := by
  obtain ⟨AM, cpM, rfl, hAM⟩ := hv'
  rw [u8s_len]
  obtain ⟨iu, hiu, hzu, hsu, hbu⟩ := info_parts u8Info
  have HV := Lib.hid hv
  have HAM := Lib.hid hAM
  have HMS := Lib.hid hms
  have HMLT := Lib.hid (fun k => getD_lt hms k)
  have HOK := Lib.hid (recsN_ok (n := n) hns 30)
  have HRL := Lib.hid (recsN_len n ns 30)
  have hREC := fun A cap wx (hv : VV wx v (u8s ns)) => recsN_any n A cap ns hns hnl v 30 (by omega) wx hv
  rw [show ((30 : Nat) : Int) = 30 from rfl] at hREC
  have HREC := Lib.hid hREC
  have hlen : (bldN n).cars.length ≤ 8 := by rw [bldN_len]; omega
  have HBD := Lib.hid (fun wx => bldN_any n wx hn)
  clear hREC
  generalize recsN n ns 30 = x at *
  generalize bldN n = b at *
  clear hns hnl hv hms hAM
  have FE := Lib.hid (fun A cap q wx (hq : Rc.okB b q = true) (hc : CarsAt wx wx.heap.size A b.cars) => by
    have h := refEncode_any b A cap q wx (by omega) hc
    rw [show Rc.encS b q = ⟨(Rc.six q).toArray⟩ by unfold Rc.encS; rw [hq]; rfl, show Rc.encE b q = 0 by unfold Rc.encE; rw [hq]; rfl] at h
    exact h)
  have FR := Lib.hid (fun A cap s wx (hs : s.size ≤ 1048576) (hc : CarsAt wx wx.heap.size A b.cars) => read_any b A cap s wx (by omega) hc (by omega))
  have GR := Lib.hid (fun A cap s wx (hs : s.size ≤ 1048576) (hc : CarsAt wx wx.heap.size A b.cars) => refRead_any b A cap s wx (by omega) hc (by omega))
  have hFZ := fun s wx (hs : s.size ≤ 1048576) => read_any bldZ none 0 s wx (by decide) (.inl rfl) (by omega)
  have HCZ := Lib.hid (fun s K (h : Rc.isCnt bldZ (bl s) K) => Rc.cnt_bad bldZ_bad h)
  have HONE := Lib.hid (fun s K M (h : Rc.isCnt b (bl s) K) (g : Rc.isCnt b (bl s) M) => Rc.cnt_one h g)
  have HIL := Lib.hid (fun s K => Rc.recsOf_len b (bl s) K)
  have HIR := Lib.hid (fun s K (h : Rc.isCnt b (bl s) K) => Rc.runB_le h.1)
  clear hlen
  obtain ⟨f, d, r, p, e1, e2, e3, cs⟩ := b
  simp only [BldD.agg] at FE FR GR HREC HBD
  rw [show bldZ.agg none 0 = .agg #[.int .i64 0, .int .i64 0, .int .i64 0, .int .i64 0, .float .f64 0, .float .f64 0, .float .f64 0, .slice none 0 0] from rfl] at hFZ
  have FZ := Lib.hid hFZ
  clear hFZ
  generalize (BldD.mk f d r p e1 e2 e3 cs) = b at *
  go_enter Try.func5, Try.ntmps5
  go_wp2_with fail
  refine (HBD.out _).mono ?_
  rintro e w1 ⟨hb1, A, cap, rfl, hcars⟩
  have HC := Lib.hid hcars
  have HB1 := Lib.hid hb1
  clear hcars hb1
  have HBOX := Lib.hid (fun wx (h : Below (w1.heap.size + 1) (w1.alloc (.cells #[.int .i64 f, .int .i64 d, .int .i64 r, .int .i64 p, .float .f64 e1, .float .f64 e2, .float .f64 e3, .slice A cs.length cap] 28)) wx) => boxRow ((h.block w1.heap.size (by simp)).trans (heap_alloc_new w1 _)))
  have HCX := Lib.hid (fun wx (h : Below (w1.heap.size + 1) (w1.alloc (.cells #[.int .i64 f, .int .i64 d, .int .i64 r, .int .i64 p, .float .f64 e1, .float .f64 e2, .float .f64 e3, .slice A cs.length cap] 28)) wx) => show CarsAt wx wx.heap.size A cs from (HC.out.below (below_of_new h)).more (by have := h.size; simp at this; omega))
  have hst : Below (w1.heap.size + 1) (w1.alloc (.cells #[.int .i64 f, .int .i64 d, .int .i64 r, .int .i64 p, .float .f64 e1, .float .f64 e2, .float .f64 e3, .slice A cs.length cap] 28)) (w1.alloc (.cells #[.int .i64 f, .int .i64 d, .int .i64 r, .int .i64 p, .float .f64 e1, .float .f64 e2, .float .f64 e3, .slice A cs.length cap] 28)) := Below.refl _ _
  have HST := Lib.hid hst
  clear hst
  go_wp2_with fail
  refine (HREC.out _ _ _ (HV.out.below (HB1.out.trans ((Below.refl w1.heap.size w1).alloc (Nat.le_refl _) _ |>.mono HB1.out.size)))).mono ?_
  rintro e w2 ⟨u, rfl, ⟨A2, cp2, rfl, hx2⟩, hb2⟩
  have HX2 := Lib.hid (HST.out.trans (hb2.mono (by simp)))
  have hsz2 := box_size HX2.out
  have HW2 := Lib.hid (HB1.out.trans ((below_of_new HX2.out).mono HB1.out.size))
  have hw2 := HW2.out.size
  have HR2 := Lib.hid hx2
  clear hb2 hx2
  go_wp2_with fail
  go_loopw [9, 10] (fun c i wr => ∃ k : Nat, k ≤ x.length ∧ i = .int .i64 k ∧ (k = 0 → c = .slice none 0 0) ∧ wr.ownsRow w2.heap.size 5 1 c (6 * k) (Go.Lib.strCells ⟨(Rc.joinS (x.take k)).toArray⟩) ∧ Below w2.heap.size w2 wr) (fun _ i _ => x.length - (intOf i).toNat)
  case atStart => exact ⟨0, Nat.zero_le _, rfl, fun _ => rfl, World.ownsRow_nil _ _ _ _, Below.refl _ _⟩
  case round =>
    obtain ⟨k, hk, rfl, hnil, hown, hbw⟩ := hrel
    have HX3 := Lib.hid (HX2.out.trans (hbw.mono hsz2))
    have HBW := Lib.hid hbw
    have HO := Lib.hid hown
    have HNIL := Lib.hid hnil
    have hszr := hbw.size
    have hxl := HRL.out
    clear hbw hown hnil
    by_cases hlt : k < x.length
    · have hok := HOK.out (x[k]) (List.getElem_mem hlt)
      have HJ := Lib.hid (join_next x hlt)
      obtain ⟨bb, off, rfl, hbb, r0, r1, r2, r3, r4⟩ := (HR2.out.below HBW.out).at_ hlt
      have FE1 := Lib.hid (fun wx (h : Below (w1.heap.size + 1) (w1.alloc (.cells #[.int .i64 f, .int .i64 d, .int .i64 r, .int .i64 p, .float .f64 e1, .float .f64 e2, .float .f64 e3, .slice A cs.length cap] 28)) wx) => FE.out A cap _ wx hok (HCX.out wx h))
      have h6 := six_size (x[k])
      generalize Rc.six (x[k]) = S6 at *
      generalize x[k] = yk at *
      obtain ⟨y0, y1, y2, y3, y4⟩ := yk
      simp only [Rc.agg] at r0 r1 r2 r3 r4 FE1
      generalize hJJ : (⟨(Rc.joinS (x.take k)).toArray⟩ : ByteArray) = J at *
      clear hok hJJ
      have H6 := Lib.hid h6
      have H6L := Lib.hid (show S6.length = 6 from (List.size_toArray ..).symm.trans h6)
      clear h6
      go_wp2_with fail
      have R0 := Lib.hid (And.intro r0 (And.intro r1 (And.intro r2 (And.intro r3 r4))))
      clear r0 r1 r2 r3 r4
      refine Bag.region (fun wx => Below wr.heap.size wr wx) (by kernel_rfl) (by kernel_rfl) (Below.refl _ _).drew ?_
      iterate 11 (first
          | (apply Bag.walk_yes (by rfl)
             (intro wx hx K hK
              have HXx := HX3.out.trans (hx.mono (box_size HX3.out))
              obtain ⟨c0, c1, c2, c3, c4, c5, c6, c7⟩ := HBOX.out _ HXx
              have r0 := (hx.cell (p := ⟨bb, off + k * 5, none⟩) hbb).trans R0.out.1
              have r1 := (hx.cell (p := ⟨bb, off + k * 5 + 1, none⟩) hbb).trans R0.out.2.1
              have r2 := (hx.cell (p := ⟨bb, off + k * 5 + 2, none⟩) hbb).trans R0.out.2.2.1
              have r3 := (hx.cell (p := ⟨bb, off + k * 5 + 3, none⟩) hbb).trans R0.out.2.2.2.1
              have r4 := (hx.cell (p := ⟨bb, off + k * 5 + 4, none⟩) hbb).trans R0.out.2.2.2.2
              first
                | (go_simp
                   first
                    | (go_at_call 10; refine (FE1.out _ HXx).mono ?_; rintro e x1 ⟨rfl, hb⟩; exact hK _ (hx.trans (hb.mono hx.size)))
                    | (go_at_K; exact hK _ hx)))
             rfl)
          | (refine Bag.walk_no (by rfl) ?_; simp only [Act.put, List.setIfInBounds_toArray, List.set_cons_succ, List.set_cons_zero]))
      refine Bag.walk_nil (fun w4 hb4 => ?_)
      have HB4 := Lib.hid (HBW.out.trans (hb4.mono HBW.out.size))
      have HO4 := Lib.hid (own_of_blocks HO.out (fun j _ hj => hb4.block j hj))
      clear hb4
      go_wp2_with (at_builtin; go_loud (refine Go.Lib.wpList_append_own_string _ rfl (.tmp 42) (.tmp 43) 35 9 rfl w2.heap.size 5 iu (by kernel_rfl) (by kernel_rfl) hiu hzu hsu hbu u9 (6 * k) (Go.Lib.strCells J) rfl HO4.out ⟨S6.toArray⟩ rfl ?h63 ?hby ?hbase ?hK))
      case h63 => rw [H6.out]; unfold maxLen; omega
      case hby => rw [H6.out]; omega
      case hbase => exact HB4.out.size
      intro v9 w5 hown' hgrow _
      have hbw' := HB4.out.grown hgrow HB4.out.size (fun k hk => by have := HO4.out.lt k hk; omega)
      have hown2 : w5.ownsRow w2.heap.size 5 1 v9 (6 * (k + 1)) (Go.Lib.strCells ⟨(Rc.joinS (x.take (k + 1))).toArray⟩) := by
        rw [← HJ.out, cellsS_app]
        first | (rw [H6L.out] at hown'; exact hown') | (rw [H6.out] at hown'; exact hown')
      have HF := Lib.hid (And.intro hown2 hbw')
      clear hbw' hown2 hown' hgrow
      go_wp2_with fail
      go_roundw
      case rel => exact ⟨k + 1, by omega, by go_num, fun h => absurd h (by omega), HF.out.1, HF.out.2⟩
      case measure => simp [intOf]; omega
    · obtain rfl : k = x.length := by omega
      rw [List.take_length] at HO
      by_cases hx0 : x = []
      · subst hx0
        have hc0 := HNIL.out rfl
        subst hc0
        have HX3b := HX3
        have HBW2 := HBW
        have hscl : ByteArray.empty.size ≤ 1048576 := by decide
        have hshl : ByteArray.empty.size ≤ 1048576 := by decide
        simp only [List.length_nil] at *
        rw [show ((0 : Nat) : Int) = 0 from rfl]
        go_wp2_with fail
        go_loopw [13] (fun v wr2 => v = .int .i64 0 ∧ wr2 = wr) (fun v _ => 0)
        case atStart => exact ⟨rfl, rfl⟩
        case round =>
          obtain ⟨rfl, rfl⟩ := hrel
          rcases Bool.eq_false_or_eq_true (decide ((1 : Int) < (ms.length : Int))) with hm1' | hm1'
          all_goals
            go_wp2_with fail
            have hms' : (⟨(ms.map UInt8.ofNat).toArray⟩ : ByteArray).size ≤ 1048576 := by rw [nums_len]; omega
            have HLST := Lib.hid (lstB (a := ByteArray.empty) (b := ByteArray.empty) (c := ⟨(ms.map UInt8.ofNat).toArray⟩) (m := 1048576) hscl hshl hms')
            have HMV := Lib.hid (fun wx (h : Below w.heap.size w wx) => conv_vv (cap := cpM) (HAM.out.below h) HMS.out)
            generalize (⟨(ms.map UInt8.ofNat).toArray⟩ : ByteArray) = SM at *
            refine Ghost.ghost (fun γ L wx => Ghost.Made wr 10 (.cells #[.string ByteArray.empty, .string ByteArray.empty, .string SM] 9 (0, 0)) γ L wx) (by kernel_rfl) (by kernel_rfl) (fun γ => ⟨(Below.refl _ _).drew, fun h => absurd h Bool.false_ne_true⟩) ?_
            apply Ghost.walk_const (fun γ => by rfl)
            · intro γ L wx h1 h2 hx K hK
              have HK2 := Lib.hid hK
              have HX := Lib.hid hx
              clear hK h1 h2 hx
              go_simp
              exact HK2.out _ (HX.out.next (by decide) (Below.refl _ _))
            try simp only [Act.put, List.setIfInBounds_toArray, List.set_cons_succ, List.set_cons_zero]
            apply Ghost.walk_const (fun γ => by rfl)
            · intro γ L wx h1 h2 hx K hK
              have hcv := run_convert_bytes_nil (P := Try.prog) (w := wx) 35 5 (by kernel_rfl) (by kernel_rfl) 0 0 9 (by kernel_rfl)
              have HK2 := Lib.hid hK
              have HX := Lib.hid hx
              clear hK h1 h2 hx
              go_simp
              exact HK2.out _ (HX.out.next (by decide) (Below.refl _ _))
            try simp only [Act.put, List.setIfInBounds_toArray, List.set_cons_succ, List.set_cons_zero]
            apply Ghost.walk_const (fun γ => by rfl)
            · intro γ L wx h1 h2 hx K hK
              have HK2 := Lib.hid hK
              have HX := Lib.hid hx
              clear hK h1 h2 hx
              go_simp
              exact HK2.out _ (HX.out.next (by decide) (Below.refl _ _))
            try simp only [Act.put, List.setIfInBounds_toArray, List.set_cons_succ, List.set_cons_zero]
            apply Ghost.walk_const (fun γ => by rfl)
            · intro γ L wx h1 h2 hx K hK
              have HK2 := Lib.hid hK
              have HX := Lib.hid hx
              clear hK h1 h2 hx
              go_simp
              exact HK2.out _ (HX.out.next (by decide) (Below.refl _ _))
            try simp only [Act.put, List.setIfInBounds_toArray, List.set_cons_succ, List.set_cons_zero]
            apply Ghost.walk_const (fun γ => by rfl)
            · intro γ L wx h1 h2 hx K hK
              have HK2 := Lib.hid hK
              have HX := Lib.hid hx
              clear hK h1 h2 hx
              go_simp
              exact HK2.out _ (HX.out.next (by decide) (Below.refl _ _))
            try simp only [Act.put, List.setIfInBounds_toArray, List.set_cons_succ, List.set_cons_zero]
            apply Ghost.walk_const (fun γ => by rfl)
            · intro γ L wx h1 h2 hx K hK
              have HK2 := Lib.hid hK
              have HX := Lib.hid hx
              clear hK h1 h2 hx
              go_simp
              exact HK2.out _ (HX.out.next (by decide) (Below.refl _ _))
            try simp only [Act.put, List.setIfInBounds_toArray, List.set_cons_succ, List.set_cons_zero]
            apply Ghost.walk_const (fun γ => by rfl)
            · intro γ L wx h1 h2 hx K hK
              have HK2 := Lib.hid hK
              have HX := Lib.hid hx
              clear hK h1 h2 hx
              go_simp
              exact HK2.out _ (HX.out.next (by decide) (Below.refl _ _))
            try simp only [Act.put, List.setIfInBounds_toArray, List.set_cons_succ, List.set_cons_zero]
            apply Ghost.walk_const (fun γ => by rfl)
            · intro γ L wx h1 h2 hx K hK
              have hcv := run_convert_bytes_nil (P := Try.prog) (w := wx) 35 5 (by kernel_rfl) (by kernel_rfl) 0 0 9 (by kernel_rfl)
              have HK2 := Lib.hid hK
              have HX := Lib.hid hx
              clear hK h1 h2 hx
              go_simp
              exact HK2.out _ (HX.out.next (by decide) (Below.refl _ _))
            try simp only [Act.put, List.setIfInBounds_toArray, List.set_cons_succ, List.set_cons_zero]
            apply Ghost.walk_const (fun γ => by rfl)
            · intro γ L wx h1 h2 hx K hK
              have HK2 := Lib.hid hK
              have HX := Lib.hid hx
              clear hK h1 h2 hx
              go_simp
              exact HK2.out _ (HX.out.next (by decide) (Below.refl _ _))
            try simp only [Act.put, List.setIfInBounds_toArray, List.set_cons_succ, List.set_cons_zero]
            apply Ghost.walk_const (fun γ => by rfl)
            · intro γ L wx h1 h2 hx K hK
              have hcv := HMV.out wx (HW2.out.trans ((HBW2.out.trans (hx.below.mono HBW2.out.size)).mono hw2))
              have HK2 := Lib.hid hK
              have HX := Lib.hid hx
              clear hK h1 h2 hx
              go_simp
              exact HK2.out _ (HX.out.next (by decide) (Below.refl _ _))
            try simp only [Act.put, List.setIfInBounds_toArray, List.set_cons_succ, List.set_cons_zero]
            apply Ghost.walk_yes (fun b => .slice (some ⟨b, 0, none⟩) 3 3) (fun γ => by rfl)
            · intro γ L wx h1 h2 hx K hK
              have HK2 := Lib.hid hK
              have HX := Lib.hid hx
              clear hK h1 h2 hx
              go_simp
              exact HK2.out wx.heap.size _ HX.out.make
            try simp only [Act.put, List.setIfInBounds_toArray, List.set_cons_succ, List.set_cons_zero]
            apply Ghost.walk_const (fun γ => by rfl)
            · intro γ L wx h1 h2 hx K hK
              have HK2 := Lib.hid hK
              have HX := Lib.hid hx
              clear hK h1 h2 hx
              go_simp
              exact HK2.out _ (HX.out.next (by decide) (Below.refl _ _))
            try simp only [Act.put, List.setIfInBounds_toArray, List.set_cons_succ, List.set_cons_zero]
            apply Ghost.walk_const (fun γ => by rfl)
            · intro γ L wx h1 h2 hx K hK
              have HK2 := Lib.hid hK
              have HX := Lib.hid hx
              clear hK h1 h2 hx
              go_simp
              exact HK2.out _ (HX.out.next (by decide) (Below.refl _ _))
            try simp only [Act.put, List.setIfInBounds_toArray, List.set_cons_succ, List.set_cons_zero]
            refine Ghost.walk_nil (fun γ L w4 hall hI => ?_)
            have hrow := (hI.row (hall 10 (by decide))).2
            have HX4 := Lib.hid (HX3b.out.trans (hI.below.mono (box_size HX3b.out)))
            have hgl : γ 10 < w4.heap.size := (Array.getElem?_eq_some_iff.1 hrow).1
            have HBW4 := Lib.hid (HBW2.out.trans (hI.below.mono HBW2.out.size))
            have HWR4 := Lib.hid hI.below
            clear hI hall
            try simp only [Nat.zero_add, Nat.reduceAdd]
            generalize γ 10 = g10 at *
            have HROW := Lib.hid hrow
            clear hrow
            go_wp2_with fail
            go_loopw [89] (fun v wr2 => ∃ q : Nat, q ≤ 3 ∧ v = .int .i64 q ∧ Below w4.heap.size w4 wr2) (fun v _ => 3 - (intOf v).toNat)
            case atStart => exact ⟨0, by omega, rfl, Below.refl _ _⟩
            case round =>
              obtain ⟨q, hq, rfl, hbq⟩ := hrel
              have HQ4 := Lib.hid hbq
              have HXq := Lib.hid (HX4.out.trans (hbq.mono (box_size HX4.out)))
              clear hbq
              by_cases hq3 : q < 3
              · have hsl := HLST.out q hq3
                have hr9 := (HQ4.out.block g10 hgl).trans HROW.out
                have s0 : wr.cell? ⟨g10, q, none⟩ = some (.string ([ByteArray.empty, ByteArray.empty, SM][q]'(by simpa using hq3))) := by
                  rw [cell_of_row _ _ _ _ _ (0, 0) hr9]
                  match q, hq3 with
                  | 0, _ => rfl
                  | 1, _ => rfl
                  | 2, _ => rfl
                have FR1 := Lib.hid (fun wx (h : Below (w1.heap.size + 1) (w1.alloc (.cells #[.int .i64 f, .int .i64 d, .int .i64 r, .int .i64 p, .float .f64 e1, .float .f64 e2, .float .f64 e3, .slice A cs.length cap] 28)) wx) => FR.out A cap ([ByteArray.empty, ByteArray.empty, SM][q]'(by simpa using hq3)) wx hsl (HCX.out wx h))
                have GR1 := Lib.hid (fun wx (h : Below (w1.heap.size + 1) (w1.alloc (.cells #[.int .i64 f, .int .i64 d, .int .i64 r, .int .i64 p, .float .f64 e1, .float .f64 e2, .float .f64 e3, .slice A cs.length cap] 28)) wx) => GR.out A cap ([ByteArray.empty, ByteArray.empty, SM][q]'(by simpa using hq3)) wx hsl (HCX.out wx h))
                generalize ([ByteArray.empty, ByteArray.empty, SM][q]'(by simpa using hq3)) = s at *
                have HSL := Lib.hid hsl
                have hdq : decide ((q : Int) < 3) = true := decide_eq_true (by omega)
                clear hr9 hsl
                obtain ⟨c0, c1, c2, c3, c4, c5, c6, c7⟩ := HBOX.out _ HXq.out
                go_wp2_with fail
                refine (FR1.out _ HXq.out).mono ?_
                rintro e w5 ⟨v5, K, rfl, hcnt, hrv, -, hb5⟩
                clear c0 c1 c2 c3 c4 c5 c6 c7 s0
                have HX5 := Lib.hid (HXq.out.trans (hb5.mono (box_size HXq.out)))
                have HQ5 := Lib.hid (HQ4.out.trans (hb5.mono HQ4.out.size))
                have HRV := Lib.hid hrv
                have HCNT := Lib.hid hcnt
                clear hb5 hrv hcnt
                obtain ⟨c0, c1, c2, c3, c4, c5, c6, c7⟩ := HBOX.out _ HX5.out
                go_wp2_with fail
                refine (GR1.out _ HX5.out).mono ?_
                rintro e w7 ⟨v7, K7, rfl, hcnt7, hrv7, -, hb7⟩
                obtain rfl : K7 = K := HONE.out s K7 K hcnt7 HCNT.out
                have hlK := HIL.out s K7
                have hbK := HIR.out s K7 hcnt7
                rw [bl_len] at hbK
                have hlk : (Rc.recsOf b (bl s) K7).length ≤ 1000000 := by have := HSL.out; omega
                have FS := Lib.hid (fun wx (h : Below w7.heap.size w7 wx) => same9_any _ _ v5 v7 wx ((HRV.out.below hb7).below h) (hrv7.below h) hlk hlk)
                rw [show decide (Rc.recsOf b (bl s) K7 = Rc.recsOf b (bl s) K7) = true from decide_eq_true rfl] at FS
                have HQ7 := Lib.hid (HQ5.out.trans (hb7.mono HQ5.out.size))
                have hKK : (6 * (K7 : Int) != 6 * (K7 : Int)) = false := by simp
                clear hb7 hrv7 hcnt7 hlK hbK hlk c0 c1 c2 c3 c4 c5 c6 c7
                go_wp2_with fail
                refine (FS.out _ (Below.refl _ _)).mono ?_
                rintro e w8 ⟨rfl, hb8⟩
                have HQ8 := Lib.hid (HQ7.out.trans (hb8.mono HQ7.out.size))
                clear hb8
                go_wp2_with fail
                go_roundw
                case rel => exact ⟨q + 1, by omega, by go_num, HQ8.out⟩
                case measure => simp [intOf]; omega
              · obtain rfl : q = 3 := by omega
                have HBq := Lib.hid (HBW4.out.trans (HQ4.out.mono HBW4.out.size))
                have HWq := Lib.hid (HWR4.out.trans (HQ4.out.mono HWR4.out.size))
                have hcv := fun wx => run_convert_bytes_nil (P := Try.prog) (w := wx) 35 5 (by kernel_rfl) (by kernel_rfl) 0 0 9 (by kernel_rfl)
                have hzs : ByteArray.empty.size ≤ 1048576 := by decide
                go_wp2_with fail
                refine (FZ.out _ _ hzs).mono ?_
                rintro e w5 ⟨v5, K, rfl, hcnt, -, -, hb5⟩
                obtain rfl := HCZ.out _ K hcnt
                have HB5 := Lib.hid (HBq.out.trans (hb5.mono HBq.out.size))
                clear hb5 hcnt
                go_wp2_with fail
                refine (sane9_any _).mono ?_
                rintro e w6 ⟨rfl, hb6⟩
                have HB6 := Lib.hid (HB5.out.trans (hb6.mono HB5.out.size))
                clear hb6
                go_wp2_with fail
                go_ret
                exact ⟨rfl, HW2.out.trans (HB6.out.mono hw2)⟩
      · have hxp : 0 < x.length := Nat.pos_of_ne_zero (fun h => hx0 (List.eq_nil_of_length_eq_zero h))
        obtain ⟨hNl, g, cp, rfl, hbg, hg, hNc, hba⟩ := own_bytes HO.out (by omega)
        have hgne : g < wr.heap.size := hg
        obtain ⟨N, hN⟩ : ∃ N, N = 6 * x.length := ⟨_, rfl⟩
        rw [← hN] at hNl hNc ⊢
        have hNp : 0 < N := by omega
        have hN180 : N ≤ 180 := by omega
        have HBA := Lib.hid hba
        have HNL := Lib.hid hNl
        clear hN hba hNl HO HNIL
        have hNd : decide ((N : Int) > 0) = true := decide_eq_true (by omega)
        have hNd' : decide ((0 : Int) < (N : Int)) = true := decide_eq_true (by omega)
        go_wp2_with fail
        go_loopw [13] (fun v wr2 => ∃ (j : Nat) (L : List UInt8), j ≤ 3 ∧ v = .int .i64 ((2 * j : Nat) : Int) ∧ L.length = N ∧ BytesAt wr2 g L ∧ g < wr2.heap.size ∧ Below w2.heap.size w2 wr2) (fun v _ => 6 - (intOf v).toNat)
        case atStart => exact ⟨0, _, by omega, rfl, HNL.out.symm, HBA.out, hgne, HBW.out⟩
        case round =>
          obtain ⟨j, L, hj, rfl, hLN, hbl, hgw, hbj⟩ := hrel
          have HBL := Lib.hid hbl
          have HBJ := Lib.hid hbj
          have HLN := Lib.hid hLN
          clear hbl hbj hLN
          by_cases hm1 : 2 * j + 1 < ms.length ∧ j < 3
          · have hm1' : decide ((((2 * j : Nat) : Int) + 1) < (ms.length : Int)) = true := decide_eq_true (by omega)
            have hm2' : decide (((2 * j : Nat) : Int) < 6) = true := decide_eq_true (by omega)
            obtain ⟨mb, mo, rfl, hmb, m0⟩ := HAM.out.u8 (k := 2 * j) (by omega)
            obtain ⟨mb2, mo2, hmb2, -, m1⟩ := HAM.out.u8 (k := 2 * j + 1) (by omega)
            obtain ⟨rfl, rfl, -⟩ : mb = mb2 ∧ mo = mo2 ∧ True := by injection hmb2 with e; injection e with e1 e2 e3; exact ⟨e1, e2, trivial⟩
            have hcb := HW2.out.trans (HBJ.out.mono hw2)
            have m0' := (hcb.cell (p := ⟨mb, mo + 2 * j, none⟩) hmb).trans m0
            have m1' := (hcb.cell (p := ⟨mb, mo + (2 * j + 1), none⟩) hmb).trans m1
            have l0 := HMLT.out (2 * j)
            have l1 := HMLT.out (2 * j + 1)
            generalize ms.getD (2 * j) 0 = a0 at *
            generalize ms.getD (2 * j + 1) 0 = a1 at *
            clear m0 m1 hmb2 hcb
            have hjm := hm1.1
            have hj3 := hm1.2
            clear hm1
            generalize hq : 2 * j = q at *
            have HQJ := Lib.hid hq
            clear hq
            obtain ⟨ix, hix⟩ : ∃ ix : Nat, ix = a0 * N / 256 := ⟨_, rfl⟩
            have hmul : a0 * N ≤ 255 * N := Nat.mul_le_mul (by omega) (Nat.le_refl _)
            have hixN : ix < N := by omega
            obtain ⟨P0, hP0⟩ : ∃ P0 : Nat, P0 = a0 * N := ⟨_, rfl⟩
            have pm : (a0 : Int) * (N : Int) = (P0 : Int) := by rw [hP0]; simp
            have pw : IntKind.i64.wrap (P0 : Int) = (P0 : Int) := IntWalk.i64_in _ (by omega)
            have pq : (P0 : Int).tdiv 256 = (ix : Int) := by rw [Int.tdiv_eq_ediv_of_nonneg (by omega), hix, ← hP0]; omega
            have pxw : IntKind.i64.wrap (ix : Int) = (ix : Int) := IntWalk.i64_in _ (by omega)
            have a0w : IntKind.i64.wrap (a0 : Int) = (a0 : Int) := IntWalk.i64_in _ (by omega)
            have qw : IntKind.i64.wrap ((q : Int) + 1) = (q : Int) + 1 := IntWalk.i64_in _ (by omega)
            have qt : ((q : Int) + 1).toNat = q + 1 := by omega
            have q0 : q < ms.length := by omega
            have q0' : (q : Int) < (ms.length : Int) := by omega
            have q1' : (q : Int) + 1 < (ms.length : Int) := by omega
            have q2' : (0 : Int) ≤ (q : Int) + 1 := by omega
            have ixN' : (ix : Int) < (N : Int) := by omega
            obtain ⟨z0, z1⟩ := HBL.out ix (by rw [HLN.out]; exact hixN)
            have hgmb : ¬ g = mb := by omega
            have hgmb' : ¬ mb = g := by omega
            clear hix hP0 hmul
            go_wp2_with fail
            go_region
            have hset := HBL.out.set (j := ix) (by rw [HLN.out]; exact hixN) (UInt8.ofNat a1)
            rw [show (UInt8.ofNat a1).toNat = a1 from UInt8.toNat_ofNat_of_lt' (by simpa using l1)] at hset
            have HSET := Lib.hid hset
            have HBS := Lib.hid (HBJ.out.setCell (p := ⟨g, ix, none⟩) hbg (.int .u8 ((a1 : Nat) : Int)))
            clear hset z0 z1 m0' m1'
            go_wp2_with fail
            go_roundw
            case rel => exact ⟨j + 1, L.set ix (UInt8.ofNat a1), by omega, by have := HQJ.out; subst this; simp; omega, by rw [List.length_set]; exact HLN.out, HSET.out, by simpa using hgw, HBS.out.drew⟩
            case measure => (have := HQJ.out; simp [intOf]; omega)
          · have HX3b := Lib.hid (HX2.out.trans (HBJ.out.mono hsz2))
            have HBW2 := HBJ
            obtain ⟨hf, hhf⟩ : ∃ hf : Nat, hf = N / 2 := ⟨_, rfl⟩
            have hfd : (N : Int).tdiv 2 = (hf : Int) := by rw [Int.tdiv_eq_ediv_of_nonneg (by omega), hhf]; omega
            have hfw : IntKind.i64.wrap (hf : Int) = (hf : Int) := IntWalk.i64_in _ (by omega)
            have hfc : hf ≤ cp := by omega
            have hfc' : (hf : Int) ≤ (cp : Int) := by omega
            have hf0 : (0 : Int) ≤ (hf : Int) := by omega
            have hfl : (L.take hf).length = hf := by rw [List.length_take, HLN.out]; omega
            have HFL := Lib.hid hfl
            have hscl : (⟨L.toArray⟩ : ByteArray).size ≤ 1048576 := by show L.toArray.size ≤ _; rw [List.size_toArray, HLN.out]; omega
            have hshl : (⟨(L.take hf).toArray⟩ : ByteArray).size ≤ 1048576 := by show (L.take hf).toArray.size ≤ _; rw [List.size_toArray, hfl]; omega
            have HC1 := Lib.hid (fun wx (h : Below wr.heap.size wr wx) => bytes_back (P := Try.prog) (HBL.out.below hgw h) 35 9 5 N cp HLN.out.symm (by kernel_rfl) (by kernel_rfl) (by kernel_rfl))
            have HC2 := Lib.hid (fun wx (h : Below wr.heap.size wr wx) => bytes_back (P := Try.prog) ((HBL.out.below hgw h).take hf) 35 9 5 hf cp HFL.out.symm (by kernel_rfl) (by kernel_rfl) (by kernel_rfl))
            have hzs := hscl
            clear hhf hfl
            have hex : ((2 * j + 1 < ms.length) ∧ ¬ j < 3) ∨ ¬ (2 * j + 1 < ms.length) := by omega
            clear hm1
            rcases hex with ⟨hm1, hm2⟩ | hm1
            all_goals
              first | (have hm2' : decide (((2 * j : Nat) : Int) < 6) = false := decide_eq_false (by omega)
                       have hm1' : decide ((((2 * j : Nat) : Int) + 1) < (ms.length : Int)) = true := decide_eq_true (by omega)
                       go_wp2_with fail) | (have hm1' : decide ((((2 * j : Nat) : Int) + 1) < (ms.length : Int)) = false := decide_eq_false (by omega)
                                            go_wp2_with fail)
              have hms' : (⟨(ms.map UInt8.ofNat).toArray⟩ : ByteArray).size ≤ 1048576 := by rw [nums_len]; omega
              have HLST := Lib.hid (lstB (a := (⟨L.toArray⟩ : ByteArray)) (b := (⟨(L.take hf).toArray⟩ : ByteArray)) (c := ⟨(ms.map UInt8.ofNat).toArray⟩) (m := 1048576) hscl hshl hms')
              have HMV := Lib.hid (fun wx (h : Below w.heap.size w wx) => conv_vv (cap := cpM) (HAM.out.below h) HMS.out)
              generalize (⟨(ms.map UInt8.ofNat).toArray⟩ : ByteArray) = SM at *
              generalize (⟨L.toArray⟩ : ByteArray) = SC0 at *
              generalize (⟨(L.take hf).toArray⟩ : ByteArray) = SH0 at *
              refine Ghost.ghost (fun γ L wx => Ghost.Made wr 10 (.cells #[.string SC0, .string SH0, .string SM] 9 (0, 0)) γ L wx) (by kernel_rfl) (by kernel_rfl) (fun γ => ⟨(Below.refl _ _).drew, fun h => absurd h Bool.false_ne_true⟩) ?_
              apply Ghost.walk_const (fun γ => by rfl)
              · intro γ L wx h1 h2 hx K hK
                have HK2 := Lib.hid hK
                have HX := Lib.hid hx
                clear hK h1 h2 hx
                go_simp
                exact HK2.out _ (HX.out.next (by decide) (Below.refl _ _))
              try simp only [Act.put, List.setIfInBounds_toArray, List.set_cons_succ, List.set_cons_zero]
              apply Ghost.walk_const (fun γ => by rfl)
              · intro γ L wx h1 h2 hx K hK
                have hcv := HC1.out wx hx.below
                have HK2 := Lib.hid hK
                have HX := Lib.hid hx
                clear hK h1 h2 hx
                go_simp
                exact HK2.out _ (HX.out.next (by decide) (Below.refl _ _))
              try simp only [Act.put, List.setIfInBounds_toArray, List.set_cons_succ, List.set_cons_zero]
              apply Ghost.walk_const (fun γ => by rfl)
              · intro γ L wx h1 h2 hx K hK
                have HK2 := Lib.hid hK
                have HX := Lib.hid hx
                clear hK h1 h2 hx
                go_simp
                exact HK2.out _ (HX.out.next (by decide) (Below.refl _ _))
              try simp only [Act.put, List.setIfInBounds_toArray, List.set_cons_succ, List.set_cons_zero]
              apply Ghost.walk_const (fun γ => by rfl)
              · intro γ L wx h1 h2 hx K hK
                have HK2 := Lib.hid hK
                have HX := Lib.hid hx
                clear hK h1 h2 hx
                go_simp
                exact HK2.out _ (HX.out.next (by decide) (Below.refl _ _))
              try simp only [Act.put, List.setIfInBounds_toArray, List.set_cons_succ, List.set_cons_zero]
              apply Ghost.walk_const (fun γ => by rfl)
              · intro γ L wx h1 h2 hx K hK
                have HK2 := Lib.hid hK
                have HX := Lib.hid hx
                clear hK h1 h2 hx
                go_simp
                exact HK2.out _ (HX.out.next (by decide) (Below.refl _ _))
              try simp only [Act.put, List.setIfInBounds_toArray, List.set_cons_succ, List.set_cons_zero]
              apply Ghost.walk_const (fun γ => by rfl)
              · intro γ L wx h1 h2 hx K hK
                have HK2 := Lib.hid hK
                have HX := Lib.hid hx
                clear hK h1 h2 hx
                go_simp
                exact HK2.out _ (HX.out.next (by decide) (Below.refl _ _))
              try simp only [Act.put, List.setIfInBounds_toArray, List.set_cons_succ, List.set_cons_zero]
              apply Ghost.walk_const (fun γ => by rfl)
              · intro γ L wx h1 h2 hx K hK
                have HK2 := Lib.hid hK
                have HX := Lib.hid hx
                clear hK h1 h2 hx
                go_simp
                exact HK2.out _ (HX.out.next (by decide) (Below.refl _ _))
              try simp only [Act.put, List.setIfInBounds_toArray, List.set_cons_succ, List.set_cons_zero]
              apply Ghost.walk_const (fun γ => by rfl)
              · intro γ L wx h1 h2 hx K hK
                have hcv := HC2.out wx hx.below
                have HK2 := Lib.hid hK
                have HX := Lib.hid hx
                clear hK h1 h2 hx
                go_simp
                exact HK2.out _ (HX.out.next (by decide) (Below.refl _ _))
              try simp only [Act.put, List.setIfInBounds_toArray, List.set_cons_succ, List.set_cons_zero]
              apply Ghost.walk_const (fun γ => by rfl)
              · intro γ L wx h1 h2 hx K hK
                have HK2 := Lib.hid hK
                have HX := Lib.hid hx
                clear hK h1 h2 hx
                go_simp
                exact HK2.out _ (HX.out.next (by decide) (Below.refl _ _))
              try simp only [Act.put, List.setIfInBounds_toArray, List.set_cons_succ, List.set_cons_zero]
              apply Ghost.walk_const (fun γ => by rfl)
              · intro γ L wx h1 h2 hx K hK
                have hcv := HMV.out wx (HW2.out.trans ((HBW2.out.trans (hx.below.mono HBW2.out.size)).mono hw2))
                have HK2 := Lib.hid hK
                have HX := Lib.hid hx
                clear hK h1 h2 hx
                go_simp
                exact HK2.out _ (HX.out.next (by decide) (Below.refl _ _))
              try simp only [Act.put, List.setIfInBounds_toArray, List.set_cons_succ, List.set_cons_zero]
              apply Ghost.walk_yes (fun b => .slice (some ⟨b, 0, none⟩) 3 3) (fun γ => by rfl)
              · intro γ L wx h1 h2 hx K hK
                have HK2 := Lib.hid hK
                have HX := Lib.hid hx
                clear hK h1 h2 hx
                go_simp
                exact HK2.out wx.heap.size _ HX.out.make
              try simp only [Act.put, List.setIfInBounds_toArray, List.set_cons_succ, List.set_cons_zero]
              apply Ghost.walk_const (fun γ => by rfl)
              · intro γ L wx h1 h2 hx K hK
                have HK2 := Lib.hid hK
                have HX := Lib.hid hx
                clear hK h1 h2 hx
                go_simp
                exact HK2.out _ (HX.out.next (by decide) (Below.refl _ _))
              try simp only [Act.put, List.setIfInBounds_toArray, List.set_cons_succ, List.set_cons_zero]
              apply Ghost.walk_const (fun γ => by rfl)
              · intro γ L wx h1 h2 hx K hK
                have HK2 := Lib.hid hK
                have HX := Lib.hid hx
                clear hK h1 h2 hx
                go_simp
                exact HK2.out _ (HX.out.next (by decide) (Below.refl _ _))
              try simp only [Act.put, List.setIfInBounds_toArray, List.set_cons_succ, List.set_cons_zero]
              refine Ghost.walk_nil (fun γ L w4 hall hI => ?_)
              have hrow := (hI.row (hall 10 (by decide))).2
              have HX4 := Lib.hid (HX3b.out.trans (hI.below.mono (box_size HX3b.out)))
              have hgl : γ 10 < w4.heap.size := (Array.getElem?_eq_some_iff.1 hrow).1
              have HBW4 := Lib.hid (HBW2.out.trans (hI.below.mono HBW2.out.size))
              have HWR4 := Lib.hid hI.below
              clear hI hall
              try simp only [Nat.zero_add, Nat.reduceAdd]
              generalize γ 10 = g10 at *
              have HROW := Lib.hid hrow
              clear hrow
              go_wp2_with fail
              go_loopw [89] (fun v wr2 => ∃ q : Nat, q ≤ 3 ∧ v = .int .i64 q ∧ Below w4.heap.size w4 wr2) (fun v _ => 3 - (intOf v).toNat)
              case atStart => exact ⟨0, by omega, rfl, Below.refl _ _⟩
              case round =>
                obtain ⟨q, hq, rfl, hbq⟩ := hrel
                have HQ4 := Lib.hid hbq
                have HXq := Lib.hid (HX4.out.trans (hbq.mono (box_size HX4.out)))
                clear hbq
                by_cases hq3 : q < 3
                · have hsl := HLST.out q hq3
                  have hr9 := (HQ4.out.block g10 hgl).trans HROW.out
                  have s0 : wr.cell? ⟨g10, q, none⟩ = some (.string ([SC0, SH0, SM][q]'(by simpa using hq3))) := by
                    rw [cell_of_row _ _ _ _ _ (0, 0) hr9]
                    match q, hq3 with
                    | 0, _ => rfl
                    | 1, _ => rfl
                    | 2, _ => rfl
                  have FR1 := Lib.hid (fun wx (h : Below (w1.heap.size + 1) (w1.alloc (.cells #[.int .i64 f, .int .i64 d, .int .i64 r, .int .i64 p, .float .f64 e1, .float .f64 e2, .float .f64 e3, .slice A cs.length cap] 28)) wx) => FR.out A cap ([SC0, SH0, SM][q]'(by simpa using hq3)) wx hsl (HCX.out wx h))
                  have GR1 := Lib.hid (fun wx (h : Below (w1.heap.size + 1) (w1.alloc (.cells #[.int .i64 f, .int .i64 d, .int .i64 r, .int .i64 p, .float .f64 e1, .float .f64 e2, .float .f64 e3, .slice A cs.length cap] 28)) wx) => GR.out A cap ([SC0, SH0, SM][q]'(by simpa using hq3)) wx hsl (HCX.out wx h))
                  generalize ([SC0, SH0, SM][q]'(by simpa using hq3)) = s at *
                  have HSL := Lib.hid hsl
                  have hdq : decide ((q : Int) < 3) = true := decide_eq_true (by omega)
                  clear hr9 hsl
                  obtain ⟨c0, c1, c2, c3, c4, c5, c6, c7⟩ := HBOX.out _ HXq.out
                  go_wp2_with fail
                  refine (FR1.out _ HXq.out).mono ?_
                  rintro e w5 ⟨v5, K, rfl, hcnt, hrv, -, hb5⟩
                  clear c0 c1 c2 c3 c4 c5 c6 c7 s0
                  have HX5 := Lib.hid (HXq.out.trans (hb5.mono (box_size HXq.out)))
                  have HQ5 := Lib.hid (HQ4.out.trans (hb5.mono HQ4.out.size))
                  have HRV := Lib.hid hrv
                  have HCNT := Lib.hid hcnt
                  clear hb5 hrv hcnt
                  obtain ⟨c0, c1, c2, c3, c4, c5, c6, c7⟩ := HBOX.out _ HX5.out
                  go_wp2_with fail
                  refine (GR1.out _ HX5.out).mono ?_
                  rintro e w7 ⟨v7, K7, rfl, hcnt7, hrv7, -, hb7⟩
                  obtain rfl : K7 = K := HONE.out s K7 K hcnt7 HCNT.out
                  have hlK := HIL.out s K7
                  have hbK := HIR.out s K7 hcnt7
                  rw [bl_len] at hbK
                  have hlk : (Rc.recsOf b (bl s) K7).length ≤ 1000000 := by have := HSL.out; omega
                  have FS := Lib.hid (fun wx (h : Below w7.heap.size w7 wx) => same9_any _ _ v5 v7 wx ((HRV.out.below hb7).below h) (hrv7.below h) hlk hlk)
                  rw [show decide (Rc.recsOf b (bl s) K7 = Rc.recsOf b (bl s) K7) = true from decide_eq_true rfl] at FS
                  have HQ7 := Lib.hid (HQ5.out.trans (hb7.mono HQ5.out.size))
                  have hKK : (6 * (K7 : Int) != 6 * (K7 : Int)) = false := by simp
                  clear hb7 hrv7 hcnt7 hlK hbK hlk c0 c1 c2 c3 c4 c5 c6 c7
                  go_wp2_with fail
                  refine (FS.out _ (Below.refl _ _)).mono ?_
                  rintro e w8 ⟨rfl, hb8⟩
                  have HQ8 := Lib.hid (HQ7.out.trans (hb8.mono HQ7.out.size))
                  clear hb8
                  go_wp2_with fail
                  go_roundw
                  case rel => exact ⟨q + 1, by omega, by go_num, HQ8.out⟩
                  case measure => simp [intOf]; omega
                · obtain rfl : q = 3 := by omega
                  have HBq := Lib.hid (HBW4.out.trans (HQ4.out.mono HBW4.out.size))
                  have HWq := Lib.hid (HWR4.out.trans (HQ4.out.mono HWR4.out.size))
                  have hcv := HC1.out _ HWq.out
                  go_wp2_with fail
                  refine (FZ.out _ _ hzs).mono ?_
                  rintro e w5 ⟨v5, K, rfl, hcnt, -, -, hb5⟩
                  obtain rfl := HCZ.out _ K hcnt
                  have HB5 := Lib.hid (HBq.out.trans (hb5.mono HBq.out.size))
                  clear hb5 hcnt
                  go_wp2_with fail
                  refine (sane9_any _).mono ?_
                  rintro e w6 ⟨rfl, hb6⟩
                  have HB6 := Lib.hid (HB5.out.trans (hb6.mono HB5.out.size))
                  clear hb6
                  go_wp2_with fail
                  go_ret
                  exact ⟨rfl, HW2.out.trans (HB6.out.mono hw2)⟩
theorem lawReads_walk (x : Int) (v : Value) (ns : List Nat) (v' : Value) (ms : List Nat) (w : World) (hx : (Lit.int .u8 x).wf = true) (hv : VV w v (u8s ns)) (hns : ∀ z ∈ ns, z < 256) (hnl : ns.length ≤ maxLen) (hv' : VV w v' (u8s ms)) (hms : ∀ z ∈ ms, z < 256) (hml : ms.length ≤ 1048576) :
    Calls Try.prog 5 #[.int .u8 x, v, v'] w fun e w' => e = .returned (.bool true) ∧ Below w.heap.size w w' := by
  obtain ⟨n, rfl, hn⟩ := u8_nat hx
  exact lawReads_nat n v ns v' ms w hn hv hns hnl hv' hms hml

theorem bulk_one {H : Type} (d : DataW H) : 1 ≤ Rows.uptoBulk d := by
  cases d with
  | lit l => cases l <;> simp [Rows.uptoBulk]
  | nil => simp [Rows.uptoBulk]
  | ptr d => simp [Rows.uptoBulk]
  | slice elems spare => simp [Rows.uptoBulk]
  | agg parts => simp [Rows.uptoBulk]
  | iface t d => simp [Rows.uptoBulk]
  | map entries => simp [Rows.uptoBulk]
  | held h => simp [Rows.uptoBulk]
theorem bulk_length {H : Type} : ∀ l : List (DataW H), l.length ≤ Rows.uptoBulkAll l
  | [] => by simp [Rows.uptoBulkAll]
  | x :: r => by have h1 := bulk_one x; have h2 := bulk_length r; simp only [Rows.uptoBulkAll, List.length_cons]; omega
theorem bulk_slice {H : Type} {enc : TypeId × Value → H} {w : World} {base : Nat} {spare : Nat → Bool} {held : Bool} {fuel : Nat} {v : Value} {d : DataW H} {p : List MemPlace} {ns : List Nat}
    (h : DataW.trod enc Try.prog w base spare held fuel 35 [v] = some (d, p)) (hv : VV w v (u8s ns)) : ns.length ≤ Rows.uptoBulk d := by
  obtain ⟨A, cap, rfl, -⟩ := hv
  rw [u8s_len] at h
  rcases open_slice Try.underlying35 h with ⟨hcs, -⟩ | ⟨a, len, cap', m, k, D, Pl, hcs, -, -, -, -, hx, -⟩
  · simp only [List.cons.injEq, and_true, Value.slice.injEq] at hcs
    omega
  · simp only [List.cons.injEq, and_true, Value.slice.injEq] at hcs
    have hd := congrArg Prod.fst hx
    simp only at hd
    rw [hd]
    have h1 := bulk_length ((List.range len).map D)
    rw [List.length_map, List.length_range] at h1
    simp only [Rows.uptoBulk]
    omega

theorem lawReads_contract (H : Type) (enc : TypeId × Value → H) (W : World) (base : Nat) (args : Array Value) (ds gs : List (DataW H)) (before : List MemPlace)
    (hval0 : ∀ (j : Nat) t v, Try.f5.params[j]? = some t → args[j]? = some v → Value.okWide Try.prog W .any base t v)
    (hW : DataW.Whole enc Try.prog Try.f5.params.toList Rows.recordReadsSpec.vars false W args.toList ds gs before) (hk : Rows.uptoSmall H (ds ++ gs) = true) :
    Calls Try.prog 5 args W fun e W' => ∃ v, e = .returned v ∧ Rows.recordReadsSpec.post enc Try.prog Try.f5 false true false false W args v W' := by
  have hval := hval0
  have hW' := hW
  obtain ⟨p, q, hA0, hV, rfl, hfz, hnd⟩ := hW
  have hA : DataW.TrodAll enc Try.prog W 0 (fun _ => true) true Try.f5.params.toList args.toList ds p := hA0
  rw [Try.params5] at hA hval
  obtain ⟨v0, vs0, d0, ds0, p0, q0, hargs, rfl, rfl, h0, r0⟩ := trodAll_cons hA
  obtain ⟨v1, vs1, d1, ds1, p1, q1, rfl, rfl, rfl, h1, r1⟩ := trodAll_cons r0
  obtain ⟨v2, vs2, d2, ds2, p2, q2, rfl, rfl, rfl, h2, r2⟩ := trodAll_cons r1
  obtain ⟨rfl, rfl, rfl⟩ := trodAll_nil r2
  obtain rfl : args = #[v0, v1, v2] := by cases args; simp_all
  obtain ⟨rfl, rfl⟩ := trodVars_none hV
  obtain ⟨x0, rfl, rfl, rfl, g0⟩ := open_int Try.underlying5 (hval 0 5 v0 rfl rfl) h0
  have k1 := h1
  have lt1 : ∀ x ∈ p1, x.block < W.heap.size := by obtain ⟨m, hm⟩ := k1; exact DataW.trod_lt m _ _ _ hm
  obtain ⟨a1, l1, c1, rfl⟩ := okWide_slice Try.underlying35 (hval 1 35 v1 rfl rfl)
  obtain ⟨fuel1, hf1⟩ := h1
  obtain ⟨x1, g1, n1, m1⟩ := open_u8s hf1
  have k2 := h2
  have lt2 : ∀ x ∈ p2, x.block < W.heap.size := by obtain ⟨m, hm⟩ := k2; exact DataW.trod_lt m _ _ _ hm
  obtain ⟨a2, l2, c2, rfl⟩ := okWide_slice Try.underlying35 (hval 2 35 v2 rfl rfl)
  obtain ⟨fuel2, hf2⟩ := h2
  obtain ⟨x2, g2, n2, m2⟩ := open_u8s hf2
  have hb2 := bulk_slice hf2 g2
  have hm : x2.length ≤ 1048576 := by
    have h := of_decide_eq_true hk
    simp only [List.append_nil, Rows.uptoBulkAll] at h
    omega
  clear hA0 hval0
  refine (lawReads_walk x0 _ x1 _ x2 W g0 g1 n1 m1 g2 n2 hm).mono fun e W' ⟨he, bel⟩ => ?_
  subst he
  exact ⟨_, rfl, _, _, _, [], _, [], hW', trodAll_mk1 (shut_bool Try.underlying4 _), (trodAll_cons_mk (shut_int Try.underlying5 g0) (trodAll_cons_mk (Below.trod laidOut (by kernel_rfl) (of_decide_eq_true (by kernel_rfl)) k1 bel lt1) (trodAll_cons_mk (Below.trod laidOut (by kernel_rfl) (of_decide_eq_true (by kernel_rfl)) k2 bel lt2) trodAll_mk0))), rfl, bel.frame _, fun h => by cases h⟩

set_option maxRecDepth 100000 in
theorem lawReads_lifted (os : Os) (started : os.Started) (H : Type) (enc : TypeId × Value → H) (F : Stop.Interp) :
    ReturnsInHanded {} Try.checked os 5 .any ((Rows.OpenSpec.upto Rows.recordReadsSpec).pre6 enc Try.prog Try.f5 Rows.recordReadsUptoRow.domain false) (((Rows.OpenSpec.upto Rows.recordReadsSpec).at F).post enc Try.prog Try.f5 false true false false) := by
  refine returnsInHanded_of_cond (C := Try.checked) (s := Rows.OpenSpec.upto Rows.recordReadsSpec) (k := Rows.uptoSmall) rfl own started (by kernel_rfl) Try.func5
    (OpenSpec.witness (enc := enc) (C := Try.checked) (s := Rows.OpenSpec.upto Rows.recordReadsSpec) (k := Rows.uptoSmall) rfl false ⟨#[], #[.int .u8 0, .slice none 0 0, .slice none 0 0], []⟩ 8 (by kernel_rfl) (by kernel_rfl) (by kernel_rfl)
      (x := ([.lit (.int .u8 0), .nil, .nil], [], [])) (by kernel_rfl) rfl (by kernel_rfl)) ?_
  intro W base args ds gs before hval hW _ hk _
  exact lawReads_contract H enc W base args ds gs before hval hW hk

theorem recordReads_upto : Rows.RecordReadsUptoSaid :=
  OpenClaim.holds_of_cond 5 Try.f5 rfl rfl rfl rfl rfl rfl rfl ⟨rfl, rfl, rfl, rfl, rfl⟩ rfl rfl rfl rfl rfl (by kernel_rfl) Try.func5 (by kernel_rfl)
    (of_decide_eq_true (by kernel_rfl)) (by unfold Func.isWrapper; first | (rw [if_pos (by decide +kernel)]; kernel_rfl) | (rw [if_neg (by decide +kernel)]; exact ⟨rfl, rfl⟩))
    (fun os started H enc _ F => lawReads_lifted os started H enc F)
#print axioms recordReads_upto
end Go.Proofs.Ytapkookehogddaa
