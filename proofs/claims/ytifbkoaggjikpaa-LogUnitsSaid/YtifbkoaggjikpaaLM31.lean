/- What the texts behind this one rest on: one text. No statement of the seat is proved here. -/
import Derived.Test.YtifbkoaggjikpaaLM30
namespace Go.Proofs.Ytifbkoaggjikpaa
section
open Go.RowKit Lg Img St GhostV

theorem resultsS {fn : Func} {p u v : Tmp} (h : fn.results = #[.cell p 47, .tmp u, .tmp v]) (tmps : Array Value) (w1 : World) (b : Nat) (x y z n m : Value)
    (hp : tmps.getD p undef = .pointer (some ⟨b, 0, none⟩)) (hu : tmps.getD u undef = n) (hv : tmps.getD v undef = m) (hr : w1.heap[b]? = some (.cells #[x, y, z] 47 (0, 0))) :
    (results fn tmps).run Try.prog w1 = .ok (.tuple #[.agg #[x, y, z], n, m]) w1 :=
  results3 h tmps w1 b x y z n m hp hu hv ((cell_of_row _ _ _ _ _ (0, 0) hr).trans rfl) ((cell_of_row _ _ _ _ _ (0, 0) hr).trans rfl) ((cell_of_row _ _ _ _ _ (0, 0) hr).trans rfl)
theorem stRow {w : World} {g : Nat} {a b : ByteArray} {s : Int} (h : w.heap[g]? = some (.cells #[.string a, .string b, .int .i64 s] 47 (0, 0))) :
    w.cell? ⟨g, 0, none⟩ = some (.string a) ∧ w.cell? ⟨g, 1, none⟩ = some (.string b) ∧ w.cell? ⟨g, 2, none⟩ = some (.int .i64 s) :=
  ⟨(cell_of_row _ _ _ _ _ (0, 0) h).trans rfl, (cell_of_row _ _ _ _ _ (0, 0) h).trans rfl, (cell_of_row _ _ _ _ _ (0, 0) h).trans rfl⟩
theorem Put.stored {W1 wx w2 : World} {b : Nat} {row : Obj} {cs : Array Value} {t : TypeId} (h : Put W1 b row wx) (hr : w2.heap[b]? = some (.cells cs t (0, 0))) (hg : wx.grownBy w2 (some b)) : Put W1 b (.cells cs t (0, 0)) w2 :=
  ⟨hg.os.trans h.os, hg.tape.trans h.tape, hg.output.trans h.output, Nat.le_trans h.size hg.size, fun j hj hne => (hg.block j (Nat.lt_of_lt_of_le hj h.size) (fun e => hne (Option.some.inj e))).trans (h.other j hj hne), hr⟩
theorem erase_left {room : Int} {s : St} {h bud : Int} (hb : I64 bud) : I64 (eraseF room s h bud).2.1 ∧ ((eraseF room s h bud).2.2 ≠ 0 → (eraseF room s h bud).2.1 = 0) := by
  unfold eraseF
  unfold I64 at *
  split
  · rename_i hc
    have := (chk_zero hc).2.2
    split
    · exact ⟨by simp, fun _ => rfl⟩
    · exact ⟨by simp only; omega, fun h => absurd rfl h⟩
  · exact ⟨by simp, fun _ => rfl⟩
theorem write_left {room : Int} {s : St} {h bud : Int} {d : ByteArray} (hb : I64 bud) : I64 (writeF room s h d bud).2.1 ∧ ((writeF room s h d bud).2.2 ≠ 0 → (writeF room s h d bud).2.1 = 0) := by
  unfold writeF
  unfold I64 at *
  split
  · rename_i hc
    have := (chk_zero hc).2.2
    split
    · exact ⟨by simp, fun _ => rfl⟩
    · split
      · exact ⟨by simp, fun _ => rfl⟩
      · exact ⟨by simp only; omega, fun h => absurd rfl h⟩
  · exact ⟨by simp, fun _ => rfl⟩

set_option maxRecDepth 100000 in
set_option maxHeartbeats 4000000 in
theorem compactBad_any (b : BldD) (A : Option Addr) (cap : Nat) (s : St) (pv fv lv ev : Value) (m : Img) (bud : Int) (w : World) (hn : b.cars.length ≤ 140737488355328) (hc : CarsAt w w.heap.size A b.cars) (h : ImV w pv fv lv ev m)
    (hp : m.ph.length ≤ 1000000) (he : m.en.length ≤ 1000000) (hbad : ((St.isB b.room s && decide (0 ≤ bud)) && isB b m) = false) :
    Calls Try.prog 48 #[b.agg A cap, s.agg, .agg #[pv, fv, lv, ev], .int .i64 bud] w fun e w' => e = .returned (.tuple #[.agg #[.string ⟨#[]⟩, .string ⟨#[]⟩, .int .i64 0], .int .i64 0, .int .i64 1]) ∧ Below w.heap.size w w' := by
  have FI := Lib.hid (fun wx (hb : Below w.heap.size w wx) => isImage_any b A cap pv fv lv ev m wx hn ((hc.below hb).more hb.size) (h.below hb) hp he)
  have FW := Lib.hid (fun wx => canWork_any b A cap s bud wx)
  obtain ⟨⟨A1, c1, rfl, -⟩, ⟨A2, c2, rfl, -⟩, ⟨A3, c3, rfl, -⟩, ⟨A4, c4, rfl, -⟩⟩ := h
  generalize Img.isB b m = I at *
  generalize (St.isB b.room s && decide (0 ≤ bud)) = V at *
  generalize (nums m.ph).length = n1 at *
  generalize (bls m.fl).length = n2 at *
  generalize (bls m.lv).length = n3 at *
  generalize m.en.length = n4 at *
  obtain ⟨f, d, rr, p, e1, e2, e3, cs⟩ := b
  obtain ⟨s1, s2, s3⟩ := s
  simp only [BldD.agg, St.agg] at *
  clear hc hn hp he
  cases V
  case false =>
    clear hbad
    go_enter Try.func48, Try.ntmps48
    go_wp2_with fail
    refine (FW.out _).mono ?_
    rintro e w1 ⟨rfl, hb⟩
    rw [size4] at hb
    obtain ⟨-, -, -, r4⟩ := boxes4 hb
    have HB := Lib.hid (below4 hb)
    have hz := hb.size
    simp at hz
    clear hb
    go_wp2_with (with_reducible show wpList _ _ _ (Oper.mk _ (.store 47 _ _) _ _ _ _ :: _) _ _; refine wpList_put rfl 47 _ _ rfl (w.heap.size + 3) #[.string ⟨#[]⟩, .string ⟨#[]⟩, .int .i64 0] _ 47 rfl rfl r4 (by kernel_rfl) rfl (by kernel_rfl) ?_; intro w2 hr hg)
    exact bodyPost_ret (resultsS Try.results48 _ _ _ _ _ _ _ _ rfl rfl rfl hr.out) rfl ⟨rfl, HB.out.trans (below_grown hg.out (by omega) (fun k hk => by injection hk with hk; omega))⟩
  case true =>
    obtain rfl : I = false := by simpa using hbad
    clear hbad
    go_enter Try.func48, Try.ntmps48
    go_wp2_with fail
    refine (FW.out _).mono ?_
    rintro e w1 ⟨rfl, hb⟩
    rw [size4] at hb
    obtain ⟨r1, -, r3, -⟩ := boxes4 hb
    obtain ⟨k0, k1, k2, k3, k4, k5, k6, k7⟩ := boxRow r1
    obtain ⟨q0, q1, q2, q3⟩ := imRowCells r3
    have HB := Lib.hid hb
    clear hb r1 r3
    go_wp2_with fail
    refine (FI.out _ (below4 HB.out)).mono ?_
    rintro e w2 ⟨rfl, hb⟩
    have hb2 := HB.out.trans (hb.mono (by have := HB.out.size; simp at this; omega))
    obtain ⟨-, -, -, r4⟩ := boxes4 hb2
    have HB2 := Lib.hid (below4 hb2)
    have hz := hb2.size
    simp at hz
    clear hb hb2 k0 k1 k2 k3 k4 k5 k6 k7 q0 q1 q2 q3
    go_wp2_with (with_reducible show wpList _ _ _ (Oper.mk _ (.store 47 _ _) _ _ _ _ :: _) _ _; refine wpList_put rfl 47 _ _ rfl (w.heap.size + 3) #[.string ⟨#[]⟩, .string ⟨#[]⟩, .int .i64 0] _ 47 rfl rfl r4 (by kernel_rfl) rfl (by kernel_rfl) ?_; intro w3 hr hg)
    exact bodyPost_ret (resultsS Try.results48 _ _ _ _ _ _ _ _ rfl rfl rfl hr.out) rfl ⟨rfl, HB2.out.trans (below_grown hg.out (by omega) (fun k hk => by injection hk with hk; omega))⟩

def pdS (l : List Rc) : Pd := ⟨fun w v => RV w v l, fun _ _ _ h hb => h.below hb⟩
theorem compactF_good {b : BldD} {s : St} {m : Img} {bud : Int} (hv : validE b = 0) (h : (St.isB b.room s && decide (0 ≤ bud)) = true) (hB : isB b m = true) : compactF b s m bud =
    (let e := St.eraseF b.room s (1 - s.sel) bud
    if e.2.2 = 0 then
      let w := St.writeF b.room e.1 (1 - s.sel) (bytesR (snapM m)) e.2.1
      if w.2.2 = 0 then St.chooseF b.room w.1 (1 - s.sel) w.2.1 else (w.1, 0, w.2.2)
    else (e.1, 0, e.2.2)) := by
  unfold compactF okS
  rw [h, hB]
  simp [hv]
set_option maxRecDepth 100000 in
set_option maxHeartbeats 16000000 in
theorem compactGood_any (b : BldD) (A : Option Addr) (cap : Nat) (s : St) (pv fv lv ev : Value) (m : Img) (bud : Int) (w : World) (hn : b.cars.length ≤ 140737488355328) (hc : CarsAt w w.heap.size A b.cars) (h : ImV w pv fv lv ev m)
    (he : m.en.length ≤ 50000) (hbud : I64 bud) (hS : (St.isB b.room s && decide (0 ≤ bud)) = true) (hB : isB b m = true) :
    Calls Try.prog 48 #[b.agg A cap, s.agg, .agg #[pv, fv, lv, ev], .int .i64 bud] w fun e w' => e = .returned (ans (compactF b s m bud)) ∧ Below w.heap.size w w' := by
  have hG := isB_iff.1 hB
  have hC := (fine_of hG.val).cars
  have hq := hG.ph
  have FI := Lib.hid (fun wx (hb : Below w.heap.size w wx) => isImage_any b A cap pv fv lv ev m wx hn ((hc.below hb).more hb.size) (h.below hb) (by omega) (by omega))
  rw [hB] at FI
  have FW := Lib.hid (fun wx => canWork_any b A cap s bud wx)
  rw [hS] at FW
  have hok : ∀ r ∈ snapM m, Rc.okB b r = true := snap_ok hG
  have hlen := snapM_len m
  have FS := Lib.hid (fun wx (hb : Below w.heap.size w wx) => (snapGood_any b A cap pv fv lv ev m wx hn ((hc.below hb).more hb.size) (h.below hb) (by omega) hG).mono (fun e w' ⟨v, h1, h2, h3⟩ => (⟨v, h1, (RV.of_own h2).2, h3⟩ : ∃ v, e = Ending.returned v ∧ RV w' v (snapM m) ∧ Below wx.heap.size wx w')))
  have FB := Lib.hid (fun wx vA vc (hb : Below w.heap.size w wx) (hv : RAt wx vA (snapM m)) => by
    have := bytes_any b A cap (snapM m) vA vc wx hn ((hc.below hb).more hb.size) (by omega) hv
    rw [encL_ok hok] at this
    exact (show Calls Try.prog 72 #[b.agg A cap, .slice vA (snapM m).length vc] wx fun e w' => e = .returned (.string (bytesR (snapM m))) ∧ Below wx.heap.size wx w' from this))
  have hD : (bytesR (snapM m)).size ≤ 1000000 := by rw [bytesR_size]; omega
  have hsel := (isB_of (room := b.room) (s := s) (by simp only [Bool.and_eq_true] at hS; exact hS.1)).2.2.2.2
  have hcf := compactF_good (b := b) (s := s) (m := m) (bud := bud) hG.val hS hB
  generalize hR : compactF b s m bud = R at *
  generalize bytesR (snapM m) = D at *
  generalize snapM m = SM at *
  generalize ho : 1 - s.sel = o at *
  have hwo : IntKind.i64.wrap (1 - s.sel) = o := by rw [IntWalk.i64_in _ (by omega)]; exact ho
  have FE := Lib.hid (fun wx => erase_any b.room s o bud wx hbud)
  have hE := erase_left (room := b.room) (s := s) (h := o) hbud
  generalize eraseF b.room s o bud = E at *
  obtain ⟨⟨ea, eb, es⟩, en, ec⟩ := E
  simp only at hcf hE
  have FWr := Lib.hid (fun wx => write_any b.room ⟨ea, eb, es⟩ o D en wx hD hE.1)
  have hW := write_left (room := b.room) (s := ⟨ea, eb, es⟩) (h := o) (d := D) hE.1
  generalize writeF b.room ⟨ea, eb, es⟩ o D en = WR at *
  obtain ⟨⟨wa, wb, ws⟩, wn, wc⟩ := WR
  simp only at hcf hW
  have FC := Lib.hid (fun wx => choose_any b.room ⟨wa, wb, ws⟩ o wn wx hW.1)
  generalize chooseF b.room ⟨wa, wb, ws⟩ o wn = CR at *
  obtain ⟨⟨ca, cb, cs'⟩, cn, cc⟩ := CR
  have HCF := Lib.hid hcf
  have HE := Lib.hid hE.2
  have HW := Lib.hid hW.2
  clear hcf hE hW hR hok hlen hD hbud hS hB hG hC hq
  obtain ⟨⟨A1, c1, rfl, -⟩, ⟨A2, c2, rfl, -⟩, ⟨A3, c3, rfl, -⟩, ⟨A4, c4, rfl, -⟩⟩ := h
  generalize (nums m.ph).length = n1 at *
  generalize (bls m.fl).length = n2 at *
  generalize (bls m.lv).length = n3 at *
  generalize m.en.length = n4 at *
  obtain ⟨f, d, rr, p, e1, e2, e3, cs⟩ := b
  obtain ⟨s1, s2, s3⟩ := s
  simp only [BldD.agg, St.agg, ans] at *
  clear hc hn he
  have HO := Lib.hid ho
  clear ho
  go_enter Try.func48, Try.ntmps48
  go_wp2_with fail
  refine (FW.out _).mono ?_
  rintro e w1 ⟨rfl, hb⟩
  rw [size4] at hb
  obtain ⟨r1, -, r3, -⟩ := boxes4 hb
  obtain ⟨k0, k1, k2, k3, k4, k5, k6, k7⟩ := boxRow r1
  obtain ⟨q0, q1, q2, q3⟩ := imRowCells r3
  have HB := Lib.hid hb
  clear hb r1 r3
  go_wp2_with fail
  refine (FI.out _ (below4 HB.out)).mono ?_
  rintro e w2 ⟨rfl, hb⟩
  have hb2 := HB.out.trans (hb.mono (by have := HB.out.size; simp at this; omega))
  clear hb k0 k1 k2 k3 k4 k5 k6 k7 q0 q1 q2 q3
  have HB2 := Lib.hid hb2
  obtain ⟨r1, r2, r3, r4⟩ := boxes4 hb2
  obtain ⟨k0, k1, k2, k3, k4, k5, k6, k7⟩ := boxRow r1
  obtain ⟨z0, z1, z2⟩ := stRow r2
  clear hb2 r1 r2 r3 r4
  go_wp2_with fail
  refine (FE.out _).mono ?_
  rintro e w3 ⟨rfl, hb⟩
  have hb3 := HB2.out.trans (hb.mono (by have := HB2.out.size; simp at this; omega))
  clear hb k0 k1 k2 k3 k4 k5 k6 k7 z0 z1 z2
  obtain ⟨r1, r2, r3, r4⟩ := boxes4 hb3
  have HB3 := Lib.hid hb3
  have hz3 : w.heap.size + 4 ≤ w3.heap.size := by have := hb3.size; simp at this; omega
  clear hb3
  go_wp2_with (with_reducible show wpList _ _ _ (Oper.mk _ (.store 47 _ _) _ _ _ _ :: _) _ _; refine wpList_put rfl 47 _ _ rfl (w.heap.size + 1) #[.string ea, .string eb, .int .i64 es] _ 47 rfl rfl r2 (by kernel_rfl) rfl (by kernel_rfl) ?_; intro w4 hr hg; refine Hid.out ?_)
  have R1 := Lib.hid ((hg.out.block w.heap.size (by omega) (fun e => by have := Option.some.inj e; omega)).trans r1)
  have R3 := Lib.hid ((hg.out.block (w.heap.size + 2) (by omega) (fun e => by have := Option.some.inj e; omega)).trans r3)
  have R4 := Lib.hid ((hg.out.block (w.heap.size + 3) (by omega) (fun e => by have := Option.some.inj e; omega)).trans r4)
  have HB4 := Lib.hid ((below4 HB3.out).trans (below_grown hg.out (by omega) (fun k hk => by injection hk with hk; omega)))
  have HZ4 : Hid (w.heap.size + 4 ≤ w4.heap.size) := Lib.hid (by have := hg.out.size; omega)
  clear r1 r2 r3 r4 hg HB HB2 HB3 hz3
  by_cases hec : ec = 0
  case neg =>
    have hne : (ec == 0) = false := by simp [hec]
    obtain rfl := HE.out hec
    obtain ⟨z0, z1, z2⟩ := stRow hr.out
    have r4 := R4.out
    refine Lib.hid ?_
    go_wp2_with (with_reducible show wpList _ _ _ (Oper.mk _ (.store 47 _ _) _ _ _ _ :: _) _ _; refine wpList_put rfl 47 _ _ rfl (w.heap.size + 3) #[.string ea, .string eb, .int .i64 es] _ 47 rfl rfl r4 (by kernel_rfl) rfl (by kernel_rfl) ?_; intro w5 hr5 hg5)
    exact bodyPost_ret (resultsS Try.results48 _ _ _ _ _ _ _ _ rfl rfl rfl hr5.out) rfl ⟨by rw [HCF.out, if_neg hec]; rfl, HB4.out.trans (below_grown hg5.out (by have := HZ4.out; omega) (fun k hk => by injection hk with hk; omega))⟩
  case pos =>
    subst hec
    refine Lib.hid ?_
    go_wp2_with fail
    refine GhostV.ghost (fun γ L wx => GB (w4) (w.heap.size + 1) #[.string ea, .string eb, .int .i64 es] #[.string wa, .string wb, .int .i64 ws] 47 [2, 8] 7 15 (pdS SM) γ L wx) (by kernel_rfl) (by kernel_rfl) (fun γ => GB.start γ (hr.out)) ?_
    apply GhostV.walk_const (fun γ => by rfl)
    · intro γ L wx h1 h2 hx K hK
      obtain ⟨k0, k1, k2, k3, k4, k5, k6, k7⟩ := boxRow ((hx.put.other w.heap.size (by have := HZ4.out; omega) (by omega)).trans R1.out)
      obtain ⟨q0, q1, q2, q3⟩ := imRowCells ((hx.put.other (w.heap.size + 2) (by have := HZ4.out; omega) (by omega)).trans R3.out)
      have HBW := Lib.hid (HB4.out.trans (hx.put.below (B := w.heap.size) (by omega) (by have := HZ4.out; omega)))
      have H1 := Lib.hid h1
      have H2 := Lib.hid h2
      have HK2 := Lib.hid hK
      have HX := Lib.hid hx
      clear hK h1 h2 hx
      go_simp
      first
        | (go_at_call 71; refine (FWr.out _).mono ?_; rintro e w' ⟨rfl, hb⟩; exact HK2.out _ (HX.out.next _ (by decide) (by decide) hb))
        | exact HK2.out _ (HX.out.next _ (by decide) (by decide) (Below.refl _ _))
    try simp only [Act.put, List.setIfInBounds_toArray, List.set_cons_succ, List.set_cons_zero]
    apply GhostV.walk_const (fun γ => by rfl)
    · intro γ L wx h1 h2 hx K hK
      obtain ⟨k0, k1, k2, k3, k4, k5, k6, k7⟩ := boxRow ((hx.put.other w.heap.size (by have := HZ4.out; omega) (by omega)).trans R1.out)
      obtain ⟨q0, q1, q2, q3⟩ := imRowCells ((hx.put.other (w.heap.size + 2) (by have := HZ4.out; omega) (by omega)).trans R3.out)
      have HBW := Lib.hid (HB4.out.trans (hx.put.below (B := w.heap.size) (by omega) (by have := HZ4.out; omega)))
      have H1 := Lib.hid h1
      have H2 := Lib.hid h2
      have HK2 := Lib.hid hK
      have HX := Lib.hid hx
      clear hK h1 h2 hx
      go_simp
      first
        | (go_at_call 71; refine (FWr.out _).mono ?_; rintro e w' ⟨rfl, hb⟩; exact HK2.out _ (HX.out.next _ (by decide) (by decide) hb))
        | exact HK2.out _ (HX.out.next _ (by decide) (by decide) (Below.refl _ _))
    try simp only [Act.put, List.setIfInBounds_toArray, List.set_cons_succ, List.set_cons_zero]
    apply GhostV.walk_const (fun γ => by rfl)
    · intro γ L wx h1 h2 hx K hK
      obtain ⟨k0, k1, k2, k3, k4, k5, k6, k7⟩ := boxRow ((hx.put.other w.heap.size (by have := HZ4.out; omega) (by omega)).trans R1.out)
      obtain ⟨q0, q1, q2, q3⟩ := imRowCells ((hx.put.other (w.heap.size + 2) (by have := HZ4.out; omega) (by omega)).trans R3.out)
      have HBW := Lib.hid (HB4.out.trans (hx.put.below (B := w.heap.size) (by omega) (by have := HZ4.out; omega)))
      have hs0 := hx.early (by decide) h1
      have hz := hx.put0 hs0
      obtain ⟨z0, z1, z2⟩ := stRow hz.row
      have HS0 := Lib.hid hs0
      clear hs0 hz
      have H1 := Lib.hid h1
      have H2 := Lib.hid h2
      have HK2 := Lib.hid hK
      have HX := Lib.hid hx
      clear hK h1 h2 hx
      go_simp
      first
        | (go_at_call 71; refine (FWr.out _).mono ?_; rintro e w' ⟨rfl, hb⟩; exact HK2.out _ (HX.out.next _ (by decide) (by decide) hb))
        | exact HK2.out _ (HX.out.next _ (by decide) (by decide) (Below.refl _ _))
    try simp only [Act.put, List.setIfInBounds_toArray, List.set_cons_succ, List.set_cons_zero]
    apply GhostV.walk_const (fun γ => by rfl)
    · intro γ L wx h1 h2 hx K hK
      obtain ⟨k0, k1, k2, k3, k4, k5, k6, k7⟩ := boxRow ((hx.put.other w.heap.size (by have := HZ4.out; omega) (by omega)).trans R1.out)
      obtain ⟨q0, q1, q2, q3⟩ := imRowCells ((hx.put.other (w.heap.size + 2) (by have := HZ4.out; omega) (by omega)).trans R3.out)
      have HBW := Lib.hid (HB4.out.trans (hx.put.below (B := w.heap.size) (by omega) (by have := HZ4.out; omega)))
      have H1 := Lib.hid h1
      have H2 := Lib.hid h2
      have HK2 := Lib.hid hK
      have HX := Lib.hid hx
      clear hK h1 h2 hx
      go_simp
      first
        | (go_at_call 71; refine (FWr.out _).mono ?_; rintro e w' ⟨rfl, hb⟩; exact HK2.out _ (HX.out.next _ (by decide) (by decide) hb))
        | exact HK2.out _ (HX.out.next _ (by decide) (by decide) (Below.refl _ _))
    try simp only [Act.put, List.setIfInBounds_toArray, List.set_cons_succ, List.set_cons_zero]
    apply GhostV.walk_const (fun γ => by rfl)
    · intro γ L wx h1 h2 hx K hK
      obtain ⟨k0, k1, k2, k3, k4, k5, k6, k7⟩ := boxRow ((hx.put.other w.heap.size (by have := HZ4.out; omega) (by omega)).trans R1.out)
      obtain ⟨q0, q1, q2, q3⟩ := imRowCells ((hx.put.other (w.heap.size + 2) (by have := HZ4.out; omega) (by omega)).trans R3.out)
      have HBW := Lib.hid (HB4.out.trans (hx.put.below (B := w.heap.size) (by omega) (by have := HZ4.out; omega)))
      have H1 := Lib.hid h1
      have H2 := Lib.hid h2
      have HK2 := Lib.hid hK
      have HX := Lib.hid hx
      clear hK h1 h2 hx
      go_simp
      first
        | (go_at_call 71; refine (FWr.out _).mono ?_; rintro e w' ⟨rfl, hb⟩; exact HK2.out _ (HX.out.next _ (by decide) (by decide) hb))
        | exact HK2.out _ (HX.out.next _ (by decide) (by decide) (Below.refl _ _))
    try simp only [Act.put, List.setIfInBounds_toArray, List.set_cons_succ, List.set_cons_zero]
    apply GhostV.walk_const (fun γ => by rfl)
    · intro γ L wx h1 h2 hx K hK
      obtain ⟨k0, k1, k2, k3, k4, k5, k6, k7⟩ := boxRow ((hx.put.other w.heap.size (by have := HZ4.out; omega) (by omega)).trans R1.out)
      obtain ⟨q0, q1, q2, q3⟩ := imRowCells ((hx.put.other (w.heap.size + 2) (by have := HZ4.out; omega) (by omega)).trans R3.out)
      have HBW := Lib.hid (HB4.out.trans (hx.put.below (B := w.heap.size) (by omega) (by have := HZ4.out; omega)))
      have H1 := Lib.hid h1
      have H2 := Lib.hid h2
      have HK2 := Lib.hid hK
      have HX := Lib.hid hx
      clear hK h1 h2 hx
      go_simp
      first
        | (go_at_call 71; refine (FWr.out _).mono ?_; rintro e w' ⟨rfl, hb⟩; exact HK2.out _ (HX.out.next _ (by decide) (by decide) hb))
        | exact HK2.out _ (HX.out.next _ (by decide) (by decide) (Below.refl _ _))
    try simp only [Act.put, List.setIfInBounds_toArray, List.set_cons_succ, List.set_cons_zero]
    apply GhostV.walk_const (fun γ => by rfl)
    · intro γ L wx h1 h2 hx K hK
      obtain ⟨k0, k1, k2, k3, k4, k5, k6, k7⟩ := boxRow ((hx.put.other w.heap.size (by have := HZ4.out; omega) (by omega)).trans R1.out)
      obtain ⟨q0, q1, q2, q3⟩ := imRowCells ((hx.put.other (w.heap.size + 2) (by have := HZ4.out; omega) (by omega)).trans R3.out)
      have HBW := Lib.hid (HB4.out.trans (hx.put.below (B := w.heap.size) (by omega) (by have := HZ4.out; omega)))
      have H1 := Lib.hid h1
      have H2 := Lib.hid h2
      have HK2 := Lib.hid hK
      have HX := Lib.hid hx
      clear hK h1 h2 hx
      go_simp
      first
        | (go_at_call 71; refine (FWr.out _).mono ?_; rintro e w' ⟨rfl, hb⟩; exact HK2.out _ (HX.out.next _ (by decide) (by decide) hb))
        | exact HK2.out _ (HX.out.next _ (by decide) (by decide) (Below.refl _ _))
    try simp only [Act.put, List.setIfInBounds_toArray, List.set_cons_succ, List.set_cons_zero]
    refine GhostV.walk_yes (fun b => b) (fun γ => by rfl) ?_ ?_
    · intro γ L wx h1 h2 hx K hK
      obtain ⟨k0, k1, k2, k3, k4, k5, k6, k7⟩ := boxRow ((hx.put.other w.heap.size (by have := HZ4.out; omega) (by omega)).trans R1.out)
      obtain ⟨q0, q1, q2, q3⟩ := imRowCells ((hx.put.other (w.heap.size + 2) (by have := HZ4.out; omega) (by omega)).trans R3.out)
      have HBW := Lib.hid (HB4.out.trans (hx.put.below (B := w.heap.size) (by omega) (by have := HZ4.out; omega)))
      have H1 := Lib.hid h1
      have H2 := Lib.hid h2
      have HK2 := Lib.hid hK
      have HX := Lib.hid hx
      clear hK h1 h2 hx
      go_simp
      (go_at_call 10; refine (FS.out wx HBW.out).mono ?_; rintro e w' ⟨v, rfl, hv, hb⟩; exact HK2.out v _ (HX.out.make v (by decide) hv hb))
    try simp only [Act.put, List.setIfInBounds_toArray, List.set_cons_succ, List.set_cons_zero]
    apply GhostV.walk_const (fun γ => by rfl)
    · intro γ L wx h1 h2 hx K hK
      obtain ⟨k0, k1, k2, k3, k4, k5, k6, k7⟩ := boxRow ((hx.put.other w.heap.size (by have := HZ4.out; omega) (by omega)).trans R1.out)
      obtain ⟨q0, q1, q2, q3⟩ := imRowCells ((hx.put.other (w.heap.size + 2) (by have := HZ4.out; omega) (by omega)).trans R3.out)
      have HBW := Lib.hid (HB4.out.trans (hx.put.below (B := w.heap.size) (by omega) (by have := HZ4.out; omega)))
      have hs0 := hx.early (by decide) h1
      have hz := hx.put0 hs0
      obtain ⟨vA, vc, e7, hra⟩ := hx.row hs0 (h2 7 (by kernel_rfl))
      have HRA := Lib.hid hra
      simp only [e7] at hK ⊢
      clear e7 hra
      have HS0 := Lib.hid hs0
      clear hs0 hz
      have H1 := Lib.hid h1
      have H2 := Lib.hid h2
      have HK2 := Lib.hid hK
      have HX := Lib.hid hx
      clear hK h1 h2 hx
      go_simp
      (go_at_call 72; refine (FB.out wx vA vc HBW.out HRA.out).mono ?_; rintro e w' ⟨rfl, hb⟩; exact HK2.out _ (HX.out.next _ (by decide) (by decide) hb))
    try simp only [Act.put, List.setIfInBounds_toArray, List.set_cons_succ, List.set_cons_zero]
    apply GhostV.walk_const (fun γ => by rfl)
    · intro γ L wx h1 h2 hx K hK
      obtain ⟨k0, k1, k2, k3, k4, k5, k6, k7⟩ := boxRow ((hx.put.other w.heap.size (by have := HZ4.out; omega) (by omega)).trans R1.out)
      obtain ⟨q0, q1, q2, q3⟩ := imRowCells ((hx.put.other (w.heap.size + 2) (by have := HZ4.out; omega) (by omega)).trans R3.out)
      have HBW := Lib.hid (HB4.out.trans (hx.put.below (B := w.heap.size) (by omega) (by have := HZ4.out; omega)))
      have H1 := Lib.hid h1
      have H2 := Lib.hid h2
      have HK2 := Lib.hid hK
      have HX := Lib.hid hx
      clear hK h1 h2 hx
      go_simp
      first
        | (go_at_call 71; refine (FWr.out _).mono ?_; rintro e w' ⟨rfl, hb⟩; exact HK2.out _ (HX.out.next _ (by decide) (by decide) hb))
        | exact HK2.out _ (HX.out.next _ (by decide) (by decide) (Below.refl _ _))
    try simp only [Act.put, List.setIfInBounds_toArray, List.set_cons_succ, List.set_cons_zero]
    apply GhostV.walk_const (fun γ => by rfl)
    · intro γ L wx h1 h2 hx K hK
      obtain ⟨k0, k1, k2, k3, k4, k5, k6, k7⟩ := boxRow ((hx.put.other w.heap.size (by have := HZ4.out; omega) (by omega)).trans R1.out)
      obtain ⟨q0, q1, q2, q3⟩ := imRowCells ((hx.put.other (w.heap.size + 2) (by have := HZ4.out; omega) (by omega)).trans R3.out)
      have HBW := Lib.hid (HB4.out.trans (hx.put.below (B := w.heap.size) (by omega) (by have := HZ4.out; omega)))
      have H1 := Lib.hid h1
      have H2 := Lib.hid h2
      have HK2 := Lib.hid hK
      have HX := Lib.hid hx
      clear hK h1 h2 hx
      go_simp
      first
        | (go_at_call 71; refine (FWr.out _).mono ?_; rintro e w' ⟨rfl, hb⟩; exact HK2.out _ (HX.out.next _ (by decide) (by decide) hb))
        | exact HK2.out _ (HX.out.next _ (by decide) (by decide) (Below.refl _ _))
    try simp only [Act.put, List.setIfInBounds_toArray, List.set_cons_succ, List.set_cons_zero]
    apply GhostV.walk_const (fun γ => by rfl)
    · intro γ L wx h1 h2 hx K hK
      obtain ⟨k0, k1, k2, k3, k4, k5, k6, k7⟩ := boxRow ((hx.put.other w.heap.size (by have := HZ4.out; omega) (by omega)).trans R1.out)
      obtain ⟨q0, q1, q2, q3⟩ := imRowCells ((hx.put.other (w.heap.size + 2) (by have := HZ4.out; omega) (by omega)).trans R3.out)
      have HBW := Lib.hid (HB4.out.trans (hx.put.below (B := w.heap.size) (by omega) (by have := HZ4.out; omega)))
      have H1 := Lib.hid h1
      have H2 := Lib.hid h2
      have HK2 := Lib.hid hK
      have HX := Lib.hid hx
      clear hK h1 h2 hx
      go_simp
      first
        | (go_at_call 71; refine (FWr.out _).mono ?_; rintro e w' ⟨rfl, hb⟩; exact HK2.out _ (HX.out.next _ (by decide) (by decide) hb))
        | exact HK2.out _ (HX.out.next _ (by decide) (by decide) (Below.refl _ _))
    try simp only [Act.put, List.setIfInBounds_toArray, List.set_cons_succ, List.set_cons_zero]
    apply GhostV.walk_const (fun γ => by rfl)
    · intro γ L wx h1 h2 hx K hK
      obtain ⟨k0, k1, k2, k3, k4, k5, k6, k7⟩ := boxRow ((hx.put.other w.heap.size (by have := HZ4.out; omega) (by omega)).trans R1.out)
      obtain ⟨q0, q1, q2, q3⟩ := imRowCells ((hx.put.other (w.heap.size + 2) (by have := HZ4.out; omega) (by omega)).trans R3.out)
      have HBW := Lib.hid (HB4.out.trans (hx.put.below (B := w.heap.size) (by omega) (by have := HZ4.out; omega)))
      have H1 := Lib.hid h1
      have H2 := Lib.hid h2
      have HK2 := Lib.hid hK
      have HX := Lib.hid hx
      clear hK h1 h2 hx
      go_simp
      first
        | (go_at_call 71; refine (FWr.out _).mono ?_; rintro e w' ⟨rfl, hb⟩; exact HK2.out _ (HX.out.next _ (by decide) (by decide) hb))
        | exact HK2.out _ (HX.out.next _ (by decide) (by decide) (Below.refl _ _))
    try simp only [Act.put, List.setIfInBounds_toArray, List.set_cons_succ, List.set_cons_zero]
    apply GhostV.walk_const (fun γ => by rfl)
    · intro γ L wx h1 h2 hx K hK
      obtain ⟨k0, k1, k2, k3, k4, k5, k6, k7⟩ := boxRow ((hx.put.other w.heap.size (by have := HZ4.out; omega) (by omega)).trans R1.out)
      obtain ⟨q0, q1, q2, q3⟩ := imRowCells ((hx.put.other (w.heap.size + 2) (by have := HZ4.out; omega) (by omega)).trans R3.out)
      have HBW := Lib.hid (HB4.out.trans (hx.put.below (B := w.heap.size) (by omega) (by have := HZ4.out; omega)))
      have H1 := Lib.hid h1
      have H2 := Lib.hid h2
      have HK2 := Lib.hid hK
      have HX := Lib.hid hx
      clear hK h1 h2 hx
      go_simp
      first
        | (go_at_call 71; refine (FWr.out _).mono ?_; rintro e w' ⟨rfl, hb⟩; exact HK2.out _ (HX.out.next _ (by decide) (by decide) hb))
        | exact HK2.out _ (HX.out.next _ (by decide) (by decide) (Below.refl _ _))
    try simp only [Act.put, List.setIfInBounds_toArray, List.set_cons_succ, List.set_cons_zero]
    apply GhostV.walk_const (fun γ => by rfl)
    · intro γ L wx h1 h2 hx K hK
      obtain ⟨k0, k1, k2, k3, k4, k5, k6, k7⟩ := boxRow ((hx.put.other w.heap.size (by have := HZ4.out; omega) (by omega)).trans R1.out)
      obtain ⟨q0, q1, q2, q3⟩ := imRowCells ((hx.put.other (w.heap.size + 2) (by have := HZ4.out; omega) (by omega)).trans R3.out)
      have HBW := Lib.hid (HB4.out.trans (hx.put.below (B := w.heap.size) (by omega) (by have := HZ4.out; omega)))
      have H1 := Lib.hid h1
      have H2 := Lib.hid h2
      have HK2 := Lib.hid hK
      have HX := Lib.hid hx
      clear hK h1 h2 hx
      go_simp
      first
        | (go_at_call 71; refine (FWr.out _).mono ?_; rintro e w' ⟨rfl, hb⟩; exact HK2.out _ (HX.out.next _ (by decide) (by decide) hb))
        | exact HK2.out _ (HX.out.next _ (by decide) (by decide) (Below.refl _ _))
    try simp only [Act.put, List.setIfInBounds_toArray, List.set_cons_succ, List.set_cons_zero]
    refine GhostV.walk_const (v := undef) (fun γ => by rfl) ?_ ?_
    · intro γ L wx h1 h2 hx K hK
      have hall0 : ∀ i ∈ ([2, 8] : List Nat), L i = true := by
        simp only [List.mem_cons, List.not_mem_nil, or_false]
        rintro i (rfl | rfl)
        · exact h2 2 (by kernel_rfl)
        · exact h2 8 (by kernel_rfl)
      exact Put.store 47 _ _ rfl rfl rfl (hx.put0 h1) (by kernel_rfl) rfl (by kernel_rfl) (fun w2 h => hK _ (hx.stored _ hall0 h))
    try simp only [Act.put]
    apply GhostV.walk_const (fun γ => by rfl)
    · intro γ L wx h1 h2 hx K hK
      obtain ⟨k0, k1, k2, k3, k4, k5, k6, k7⟩ := boxRow ((hx.put.other w.heap.size (by have := HZ4.out; omega) (by omega)).trans R1.out)
      obtain ⟨q0, q1, q2, q3⟩ := imRowCells ((hx.put.other (w.heap.size + 2) (by have := HZ4.out; omega) (by omega)).trans R3.out)
      have HBW := Lib.hid (HB4.out.trans (hx.put.below (B := w.heap.size) (by omega) (by have := HZ4.out; omega)))
      have H1 := Lib.hid h1
      have H2 := Lib.hid h2
      have HK2 := Lib.hid hK
      have HX := Lib.hid hx
      clear hK h1 h2 hx
      go_simp
      first
        | (go_at_call 71; refine (FWr.out _).mono ?_; rintro e w' ⟨rfl, hb⟩; exact HK2.out _ (HX.out.next _ (by decide) (by decide) hb))
        | exact HK2.out _ (HX.out.next _ (by decide) (by decide) (Below.refl _ _))
    try simp only [Act.put, List.setIfInBounds_toArray, List.set_cons_succ, List.set_cons_zero]
    apply GhostV.walk_const (fun γ => by rfl)
    · intro γ L wx h1 h2 hx K hK
      obtain ⟨k0, k1, k2, k3, k4, k5, k6, k7⟩ := boxRow ((hx.put.other w.heap.size (by have := HZ4.out; omega) (by omega)).trans R1.out)
      obtain ⟨q0, q1, q2, q3⟩ := imRowCells ((hx.put.other (w.heap.size + 2) (by have := HZ4.out; omega) (by omega)).trans R3.out)
      have HBW := Lib.hid (HB4.out.trans (hx.put.below (B := w.heap.size) (by omega) (by have := HZ4.out; omega)))
      have H1 := Lib.hid h1
      have H2 := Lib.hid h2
      have HK2 := Lib.hid hK
      have HX := Lib.hid hx
      clear hK h1 h2 hx
      go_simp
      first
        | (go_at_call 71; refine (FWr.out _).mono ?_; rintro e w' ⟨rfl, hb⟩; exact HK2.out _ (HX.out.next _ (by decide) (by decide) hb))
        | exact HK2.out _ (HX.out.next _ (by decide) (by decide) (Below.refl _ _))
    try simp only [Act.put, List.setIfInBounds_toArray, List.set_cons_succ, List.set_cons_zero]
    refine GhostV.walk_nil (fun γ L w5 hall hx => ?_)
    have hp5 := hx.put1 (hall 15 (by decide))
    clear hx hall
    have HP5 := Lib.hid hp5
    clear hp5
    have r4 := (HP5.out.other (w.heap.size + 3) (by have := HZ4.out; omega) (by omega)).trans R4.out
    have HB5 := Lib.hid (HB4.out.trans (HP5.out.below (B := w.heap.size) (by omega) (by have := HZ4.out; omega)))
    have hz5 : w.heap.size + 4 ≤ w5.heap.size := by have := HZ4.out; have := HP5.out.size; omega
    obtain ⟨z0, z1, z2⟩ := stRow HP5.out.row
    by_cases hwc : wc = 0
    case neg =>
      have hne2 : (wc == 0) = false := by simp [hwc]
      obtain rfl := HW.out hwc
      have hfin : R = (⟨wa, wb, ws⟩, 0, wc) := by rw [HCF.out]; simp [hwc]
      clear HCF
      have HFN := Lib.hid hfin
      clear hfin
      go_wp2_with (with_reducible show wpList _ _ _ (Oper.mk _ (.store 47 _ _) _ _ _ _ :: _) _ _; refine wpList_put rfl 47 _ _ rfl (w.heap.size + 3) #[.string wa, .string wb, .int .i64 ws] _ 47 rfl rfl r4 (by kernel_rfl) rfl (by kernel_rfl) ?_; intro w6 hr6 hg6)
      exact bodyPost_ret (resultsS Try.results48 _ _ _ _ _ _ _ _ rfl rfl rfl hr6.out) rfl ⟨by rw [HFN.out]; rfl, HB5.out.trans (below_grown hg6.out (by omega) (fun k hk => by injection hk with hk; omega))⟩
    case pos =>
      subst hwc
      obtain ⟨k0, k1, k2, k3, k4, k5, k6, k7⟩ := boxRow ((HP5.out.other w.heap.size (by have := HZ4.out; omega) (by omega)).trans R1.out)
      go_wp2_with fail
      have hfin : R = (⟨ca, cb, cs'⟩, cn, cc) := by rw [HCF.out]; simp
      have HFN := Lib.hid hfin
      clear hfin
      refine (FC.out _).mono ?_
      rintro e w6 ⟨rfl, hb⟩
      have hp6 := HP5.out.next hb
      have HP6 := Lib.hid hp6
      have r2 := hp6.row
      clear hb hp6 r4 z0 z1 z2 k0 k1 k2 k3 k4 k5 k6 k7
      go_wp2_with (with_reducible show wpList _ _ _ (Oper.mk _ (.store 47 _ _) _ _ _ _ :: _) _ _; refine wpList_put rfl 47 _ _ rfl (w.heap.size + 1) #[.string ca, .string cb, .int .i64 cs'] _ 47 rfl rfl r2 (by kernel_rfl) rfl (by kernel_rfl) ?_; intro w7 hr7 hg7; refine Hid.out ?_)
      have hp7 := Put.stored HP6.out hr7.out hg7.out
      have HP7 := Lib.hid hp7
      have r4 := (hp7.other (w.heap.size + 3) (by have := HZ4.out; omega) (by omega)).trans R4.out
      have HB7 := Lib.hid (HB4.out.trans (hp7.below (B := w.heap.size) (by omega) (by have := HZ4.out; omega)))
      have hz7 : w.heap.size + 4 ≤ w7.heap.size := by have := HZ4.out; have := hp7.size; omega
      obtain ⟨z0, z1, z2⟩ := stRow hp7.row
      clear hp7 hg7 r2
      refine Lib.hid ?_
      go_wp2_with (with_reducible show wpList _ _ _ (Oper.mk _ (.store 47 _ _) _ _ _ _ :: _) _ _; refine wpList_put rfl 47 _ _ rfl (w.heap.size + 3) #[.string ca, .string cb, .int .i64 cs'] _ 47 rfl rfl r4 (by kernel_rfl) rfl (by kernel_rfl) ?_; intro w8 hr8 hg8)
      exact bodyPost_ret (resultsS Try.results48 _ _ _ _ _ _ _ _ rfl rfl rfl hr8.out) rfl ⟨by rw [HFN.out]; rfl, HB7.out.trans (below_grown hg8.out (by omega) (fun k hk => by injection hk with hk; omega))⟩

theorem compactF_bad {b : BldD} {s : St} {m : Img} {bud : Int} (h : ((St.isB b.room s && decide (0 ≤ bud)) && isB b m) = false) : compactF b s m bud = (St.zero, 0, 1) := by
  unfold compactF okS
  rw [if_neg]
  intro h2
  simp only [Bool.and_eq_true] at h2
  simp [h2.1.2.1, h2.1.2.2, h2.2] at h
theorem compact_any (b : BldD) (A : Option Addr) (cap : Nat) (s : St) (pv fv lv ev : Value) (m : Img) (bud : Int) (w : World) (hn : b.cars.length ≤ 140737488355328) (hc : CarsAt w w.heap.size A b.cars) (h : ImV w pv fv lv ev m)
    (hp : m.ph.length ≤ 1000000) (he : m.en.length ≤ 50000) (hbud : I64 bud) :
    Calls Try.prog 48 #[b.agg A cap, s.agg, .agg #[pv, fv, lv, ev], .int .i64 bud] w fun e w' => e = .returned (ans (compactF b s m bud)) ∧ Below w.heap.size w w' := by
  cases hbad : ((St.isB b.room s && decide (0 ≤ bud)) && isB b m)
  · rw [compactF_bad hbad]
    exact compactBad_any b A cap s pv fv lv ev m bud w hn hc h hp (by omega) hbad
  · simp only [Bool.and_eq_true] at hbad
    exact compactGood_any b A cap s pv fv lv ev m bud w hn hc h he hbud (by rw [hbad.1.1, hbad.1.2]; rfl) hbad.2
end
end Go.Proofs.Ytifbkoaggjikpaa
