/- What the texts behind this one rest on: one text. No statement of the seat is proved here. -/
import Derived.Test.YtifbkoaggjikpaaLM32
import Derived.Test.YtifbkoaggjikpaaLM11
namespace Go.Proofs.Ytifbkoaggjikpaa
section
open Go.RowKit Lg Img St GhostV

theorem up6 {w wx : World} {A B C D E F : Obj} (h : Below (w.heap.size + 6) ((((((w.alloc A).alloc B).alloc C).alloc D).alloc E).alloc F) wx) : Below (w.heap.size + 1) (w.alloc A) wx :=
  ((((((Below.refl (w.heap.size + 1) (w.alloc A)).alloc (by simp) B).alloc (by simp <;> omega) C).alloc (by simp <;> omega) D).alloc (by simp <;> omega) E).alloc (by simp <;> omega) F).trans (h.mono (by omega))
theorem boxes6 {w wx : World} {A B C D E F : Obj} (h : Below (w.heap.size + 6) ((((((w.alloc A).alloc B).alloc C).alloc D).alloc E).alloc F) wx) : wx.heap[w.heap.size]? = some A ∧ wx.heap[w.heap.size + 1]? = some B ∧ wx.heap[w.heap.size + 2]? = some C ∧ wx.heap[w.heap.size + 3]? = some D ∧ wx.heap[w.heap.size + 4]? = some E ∧ wx.heap[w.heap.size + 5]? = some F := by
  have hs : (w.alloc A).heap.size = w.heap.size + 1 := by simp
  have h4 := boxes5 (w := w.alloc A) (wx := wx) (A := B) (B := C) (C := D) (D := E) (E := F) (by rw [hs]; exact h)
  rw [hs] at h4
  exact ⟨((up6 h).block _ (by omega)).trans (heap_alloc_new w A), h4⟩
theorem below6 {w wx : World} {A B C D E F : Obj} (h : Below (w.heap.size + 6) ((((((w.alloc A).alloc B).alloc C).alloc D).alloc E).alloc F) wx) : Below w.heap.size w wx :=
  ((Below.refl w.heap.size w).alloc (Nat.le_refl _) A).trans ((up6 h).mono (by omega))
theorem size6 (w : World) (A B C D E F : Obj) : ((((((w.alloc A).alloc B).alloc C).alloc D).alloc E).alloc F).heap.size = w.heap.size + 6 := by simp
theorem resultsSI {fn : Func} {p q u v : Tmp} (h : fn.results = #[.cell p 47, .cell q 32, .tmp u, .tmp v]) (tmps : Array Value) (w1 : World) (b g : Nat) (x y z c0 c1 c2 c3 n m : Value)
    (hp : tmps.getD p undef = .pointer (some ⟨b, 0, none⟩)) (hq : tmps.getD q undef = .pointer (some ⟨g, 0, none⟩)) (hu : tmps.getD u undef = n) (hv : tmps.getD v undef = m) (hr : w1.heap[b]? = some (.cells #[x, y, z] 47 (0, 0))) (hi : w1.heap[g]? = some (.cells #[c0, c1, c2, c3] 32 (0, 0))) :
    (results fn tmps).run Try.prog w1 = .ok (.tuple #[.agg #[x, y, z], .agg #[c0, c1, c2, c3], n, m]) w1 := by
  have hp' : tmps[p]?.getD undef = .pointer (some ⟨b, 0, none⟩) := by simpa using hp
  have hq' : tmps[q]?.getD undef = .pointer (some ⟨g, 0, none⟩) := by simpa using hq
  have hu' : tmps[u]?.getD undef = n := by simpa using hu
  have hv' : tmps[v]?.getD undef = m := by simpa using hv
  have k0 : w1.cell? ⟨b, 0, none⟩ = some x := cell_of_row _ _ _ _ _ (0, 0) hr
  have k1 : w1.cell? ⟨b, 1, none⟩ = some y := cell_of_row _ _ _ _ _ (0, 0) hr
  have k2 : w1.cell? ⟨b, 2, none⟩ = some z := cell_of_row _ _ _ _ _ (0, 0) hr
  have q0 : w1.cell? ⟨g, 0, none⟩ = some c0 := cell_of_row _ _ _ _ _ (0, 0) hi
  have q1 : w1.cell? ⟨g, 1, none⟩ = some c1 := cell_of_row _ _ _ _ _ (0, 0) hi
  have q2 : w1.cell? ⟨g, 2, none⟩ = some c2 := cell_of_row _ _ _ _ _ (0, 0) hi
  have q3 : w1.cell? ⟨g, 3, none⟩ = some c3 := cell_of_row _ _ _ _ _ (0, 0) hi
  simp [results, h, hp', hq', hu', hv', go_sem, asAddr, k0, k1, k2, q0, q1, q2, q3]
theorem IOwn.blocks {w w' : World} {base : Nat} {pv fv lv ev : Value} {m : Img} (h : IOwn w base pv fv lv ev m) (hb : ∀ j, base ≤ j → j < w.heap.size → w'.heap[j]? = w.heap[j]?) : IOwn w' base pv fv lv ev m :=
  ⟨own_of_blocks h.p hb, own_of_blocks h.f hb, own_of_blocks h.l hb, own_of_blocks h.e hb, h.ne⟩
theorem IOwn.zero (w : World) (base : Nat) : IOwn w base (.slice none 0 0) (.slice none 0 0) (.slice none 0 0) (.slice none 0 0) Img.zero :=
  ⟨World.ownsRow_nil _ _ _ _, World.ownsRow_nil _ _ _ _, World.ownsRow_nil _ _ _ _, World.ownsRow_nil _ _ _ _, fun k hk => by simp [Value.ownBlock] at hk⟩
theorem grows_iff (m : Img) (r : Rc) : decide (((applyM m r).en.length : Int) > (m.en.length : Int)) = (decide (r.kind = 1) && (at_ m.en r.floor r.dir).isNone) := by
  unfold applyM
  split
  · rename_i h; simp [h]
  split
  · rename_i h; simp [h]
  split
  · rename_i h; simp [h]
  show decide (((applyE m.en r).length : Int) > (m.en.length : Int)) = _
  unfold applyE
  split
  · rename_i h
    rw [h]
    split
    · rename_i h1
      rw [ins_len]
      simp [h1]
      omega
    · rename_i h1; simp [h1]
  · rename_i i h
    rw [h]
    simp only [Option.isNone_some, Bool.and_false, decide_eq_false_iff_not]
    split
    · rw [List.length_eraseIdx]; split <;> omega
    split
    · rw [List.length_modify]; omega
    split
    · rw [List.length_modify]; omega
    · omega
theorem applyM_en (m : Img) (r : Rc) : (applyM m r).en.length ≤ m.en.length + 1 := by
  unfold applyM
  split
  · simp
  split
  · simp
  split
  · simp
  show (applyE m.en r).length ≤ _
  unfold applyE
  split
  · split
    · rw [ins_len]; omega
    · omega
  · split
    · rw [List.length_eraseIdx]; split <;> omega
    split
    · rw [List.length_modify]; omega
    split
    · rw [List.length_modify]; omega
    · omega
/-- What Append hands back. -/
def AppEnd (w : World) (R : St × Img × Int × Int) (e : Ending) (w' : World) : Prop :=
  ∃ pv fv lv ev, e = .returned (.tuple #[R.1.agg, .agg #[pv, fv, lv, ev], .int .i64 R.2.2.1, .int .i64 R.2.2.2]) ∧ IOwn w' w.heap.size pv fv lv ev R.2.1 ∧ Below w.heap.size w w'

set_option maxRecDepth 100000 in
set_option maxHeartbeats 8000000 in
theorem appendBad_any (b : BldD) (A : Option Addr) (cap : Nat) (s : St) (pv fv lv ev : Value) (m : Img) (r : Rc) (bud : Int) (w : World) (hn : b.cars.length ≤ 140737488355328) (hc : CarsAt w w.heap.size A b.cars) (h : ImV w pv fv lv ev m) (hw : Few m) (hbad : (isB b m && Rc.okB b r) = false) :
    Calls Try.prog 16 #[b.agg A cap, s.agg, .agg #[pv, fv, lv, ev], r.agg, .int .i64 bud] w (AppEnd w (St.zero, Img.zero, 0, 1)) := by
  have FA := Lib.hid (fun wx (hb : Below w.heap.size w wx) => applyBad_any b A cap pv fv lv ev m r wx hn ((hc.below hb).more hb.size) (h.below hb) hw hbad)
  obtain ⟨⟨A1, c1, rfl, -⟩, ⟨A2, c2, rfl, -⟩, ⟨A3, c3, rfl, -⟩, ⟨A4, c4, rfl, -⟩⟩ := h
  generalize (nums m.ph).length = n1 at *
  generalize (bls m.fl).length = n2 at *
  generalize (bls m.lv).length = n3 at *
  generalize m.en.length = n4 at *
  obtain ⟨f, d, rr, p, e1, e2, e3, cs⟩ := b
  obtain ⟨s1, s2, s3⟩ := s
  obtain ⟨x1, x2, x3, x4, x5⟩ := r
  simp only [BldD.agg, St.agg, Rc.agg, zeroIm] at *
  clear hc hn hw hbad
  go_enter Try.func16, Try.ntmps16
  go_wp2_with fail
  refine (FA.out _ (by go_grown)).mono ?_
  rintro e w1 ⟨rfl, hb⟩
  rw [size6] at hb
  obtain ⟨-, -, -, -, r5, r6⟩ := boxes6 hb
  have HB := Lib.hid (below6 hb)
  have hz := hb.size
  rw [size6] at hz
  have r5' := (Below.heap_alloc w1 (.cells #[.slice none 0 0, .slice none 0 0, .slice none 0 0, .slice none 0 0] 32) (w.heap.size + 4) (by omega)).trans r5
  have r6' := (Below.heap_alloc w1 (.cells #[.slice none 0 0, .slice none 0 0, .slice none 0 0, .slice none 0 0] 32) (w.heap.size + 5) (by omega)).trans r6
  have rg := heap_alloc_new w1 (.cells #[.slice none 0 0, .slice none 0 0, .slice none 0 0, .slice none 0 0] 32)
  have HB1 := Lib.hid (HB.out.trans ((Below.refl w1.heap.size w1).alloc (Nat.le_refl _) (.cells #[.slice none 0 0, .slice none 0 0, .slice none 0 0, .slice none 0 0] 32) |>.mono (by omega)))
  clear hb r5 r6
  go_wp2_with (with_reducible show wpList _ _ _ (Oper.mk _ (.store 32 _ _) _ _ _ _ :: _) _ _; refine wpList_put rfl 32 _ _ rfl w1.heap.size #[.slice none 0 0, .slice none 0 0, .slice none 0 0, .slice none 0 0] _ 32 rfl rfl rg (by kernel_rfl) rfl (by kernel_rfl) ?_; intro w2 hr2 hg2; refine Hid.out ?_)
  have hz2 := hg2.out.size
  rw [show (w1.alloc (.cells #[.slice none 0 0, .slice none 0 0, .slice none 0 0, .slice none 0 0] 32)).heap.size = w1.heap.size + 1 by simp] at hz2
  have r5' := (hg2.out.block (w.heap.size + 4) (by simp; omega) (fun e => by have := Option.some.inj e; omega)).trans r5'
  have r6' := (hg2.out.block (w.heap.size + 5) (by simp; omega) (fun e => by have := Option.some.inj e; omega)).trans r6'
  have HBc := Lib.hid (HB1.out.trans (below_grown hg2.out (by simp; omega) (fun k hk => by injection hk with hk; omega)))
  have hzc : w.heap.size + 6 ≤ w2.heap.size := by omega
  clear hg2 hr2 rg
  refine Lib.hid ?_
  go_wp2_with (with_reducible show wpList _ _ _ (Oper.mk _ (.store 47 _ _) _ _ _ _ :: _) _ _; refine wpList_put rfl 47 _ _ rfl (w.heap.size + 4) #[.string ⟨#[]⟩, .string ⟨#[]⟩, .int .i64 0] _ 47 rfl rfl r5' (by kernel_rfl) rfl (by kernel_rfl) ?_; intro wa hra hga; refine Hid.out ?_)
  have r6a := (hga.out.block (w.heap.size + 5) (by omega) (fun e => by have := Option.some.inj e; omega)).trans r6'
  have HBa := Lib.hid (HBc.out.trans (below_grown hga.out (by omega) (fun k hk => by injection hk with hk; omega)))
  have hza := hga.out.size
  clear r5' r6'
  refine Lib.hid ?_
  go_wp2_with (with_reducible show wpList _ _ _ (Oper.mk _ (.store 32 _ _) _ _ _ _ :: _) _ _; refine wpList_put rfl 32 _ _ rfl (w.heap.size + 5) #[.slice none 0 0, .slice none 0 0, .slice none 0 0, .slice none 0 0] _ 32 rfl rfl r6a (by kernel_rfl) rfl (by kernel_rfl) ?_; intro wb hrb hgb; refine Hid.out ?_)
  have rfin := (hgb.out.block (w.heap.size + 4) (by omega) (fun e => by have := Option.some.inj e; omega)).trans hra.out
  have HBb := Lib.hid (HBa.out.trans (below_grown hgb.out (by omega) (fun k hk => by injection hk with hk; omega)))
  refine Lib.hid ?_
  try go_wp2_with fail
  exact bodyPost_ret (resultsSI Try.results16 _ _ _ _ _ _ _ _ _ _ _ _ _ rfl rfl rfl rfl rfin hrb.out) rfl ⟨_, _, _, _, rfl, IOwn.zero _ _, HBb.out⟩

theorem appendF_good {b : BldD} {s : St} {m : Img} {r : Rc} {bud : Int} (hB : isB b m = true) (hok : Rc.okB b r = true) : appendF b s m r bud =
    (if (St.isB b.room s && decide (0 ≤ bud)) = true then
      if ((decide (r.kind = 1) && (at_ m.en r.floor r.dir).isNone) && !Lg.roomB b m) = true then (St.zero, Img.zero, 0, 7)
      else
        let x := if (s.cur.size : Int) + 6 ≤ b.room then St.writeF b.room s s.sel (bytesR [r]) bud else compactF b s (applyM m r) bud
        if x.2.2 = 0 then (x.1, applyM m r, x.2.1, 0) else if x.2.2 = 8 then (x.1, m, 0, 8) else (St.zero, Img.zero, 0, x.2.2)
    else (St.zero, Img.zero, 0, 1)) := by
  have hv : validE b = 0 := (isB_iff.1 hB).val
  unfold appendF okS fullB
  rw [hB, hok]
  simp only [hv, decide_true, Bool.true_and, Bool.and_true, Bool.and_self, Bool.and_assoc]
theorem cur_size {room : Int} {s : St} (h : St.isB room s = true) : s.cur.size ≤ 1000000 := by
  have := St.isB_of h
  unfold St.cur
  split <;> omega

set_option maxRecDepth 100000 in
set_option maxHeartbeats 32000000 in
theorem appendGood_any (b : BldD) (A : Option Addr) (cap : Nat) (s : St) (pv fv lv ev : Value) (m : Img) (r : Rc) (bud : Int) (w : World) (hn : b.cars.length ≤ 140737488355328) (hc : CarsAt w w.heap.size A b.cars) (h : ImV w pv fv lv ev m) (he : m.en.length ≤ 40000) (hbud : I64 bud) (hB : isB b m = true) (hok : Rc.okB b r = true) :
    Calls Try.prog 16 #[b.agg A cap, s.agg, .agg #[pv, fv, lv, ev], r.agg, .int .i64 bud] w (AppEnd w (appendF b s m r bud)) := by
  have hG := isB_iff.1 hB
  have hC := (fine_of hG.val).cars
  have hq1 := hG.ph
  have hq2 := hG.fl
  have hq3 := hG.lv
  have hGN : Img.Good b (applyM m r) := applyM_good hG hok
  have hqn := hGN.ph
  have hen := applyM_en m r
  have FA := Lib.hid (fun wx (hb : Below w.heap.size w wx) => applyGood_any b A cap pv fv lv ev m r wx ((hc.below hb).more hb.size) (h.below hb) (by omega) hG hok)
  have FW := Lib.hid (fun wx => canWork_any b A cap s bud wx)
  have FRo := Lib.hid (fun wx (hb : Below w.heap.size w wx) => room_any b A cap pv fv lv ev m wx hn ((hc.below hb).more hb.size) (h.below hb) (by omega) (by omega))
  have FCp := Lib.hid (fun wx (hb : Below w.heap.size w wx) => copyOf_any pv fv lv ev m wx (h.below hb) (by omega) (by omega) (by omega) (by omega))
  have FWr := Lib.hid (fun (hV : (St.isB b.room s && decide (0 ≤ bud)) = true) wx pv' fv' lv' ev' (hb : Below w.heap.size w wx) (hi : ImV wx pv' fv' lv' ev' (applyM m r)) => wr_any b A cap s pv' fv' lv' ev' (applyM m r) r bud wx hn ((hc.below hb).more hb.size) hi (by omega) (by omega) hbud (cur_size (room := b.room) (by simp only [Bool.and_eq_true] at hV; exact hV.1)) hok)
  have hR := appendF_good (s := s) (bud := bud) hB hok
  have hREG := grows_iff m r
  generalize appendF b s m r bud = R at *
  generalize (St.isB b.room s && decide (0 ≤ bud)) = V at *
  generalize (decide (r.kind = 1) && (at_ m.en r.floor r.dir).isNone) = K at *
  generalize Lg.roomB b m = RO at *
  generalize (if (s.cur.size : Int) + 6 ≤ b.room then writeF b.room s s.sel (bytesR [r]) bud else compactF b s (applyM m r) bud) = X at *
  obtain ⟨⟨xa, xb, xs⟩, xn, xc⟩ := X
  simp only at hR
  have HR := Lib.hid hR
  clear hR hG hC hGN hqn hq1 hq2 hq3 hB hok hbud hn hc he
  generalize applyM m r = NX at *
  obtain ⟨⟨A1, c1, rfl, -⟩, ⟨A2, c2, rfl, -⟩, ⟨A3, c3, rfl, -⟩, ⟨A4, c4, rfl, -⟩⟩ := h
  generalize (nums m.ph).length = n1 at *
  generalize (bls m.fl).length = n2 at *
  generalize (bls m.lv).length = n3 at *
  generalize hn4 : m.en.length = n4 at *
  clear hn4 hen
  obtain ⟨f, d, rr, p, e1, e2, e3, cs⟩ := b
  obtain ⟨s1, s2, s3⟩ := s
  obtain ⟨x1, x2, x3, x4, x5⟩ := r
  simp only [BldD.agg, St.agg, Rc.agg, ans] at *
  go_enter Try.func16, Try.ntmps16
  go_wp2_with fail
  refine (FA.out _ (by go_grown)).mono ?_
  rintro e w1 ⟨pv, fv, lv, ev, rfl, hown, hb⟩
  rw [size6] at hb hown
  obtain ⟨D1, g1, e1'⟩ := own_slice hown.p
  obtain ⟨D2, g2, e2'⟩ := own_slice hown.f
  obtain ⟨D3, g3, e3'⟩ := own_slice hown.l
  obtain ⟨D4, g4, e4'⟩ := own_slice hown.e
  subst e1' e2' e3' e4'
  have HROW := Lib.hid (boxes6 hb)
  have HB := Lib.hid (below6 hb)
  have hz : w.heap.size + 6 ≤ w1.heap.size := by have := hb.size; rw [size6] at this; exact this
  have HOW := Lib.hid hown
  have rg := heap_alloc_new w1 (.cells #[.slice none 0 0, .slice none 0 0, .slice none 0 0, .slice none 0 0] 32)
  have HAL := Lib.hid (fun k (hk : k < w1.heap.size) => Below.heap_alloc w1 (.cells #[.slice none 0 0, .slice none 0 0, .slice none 0 0, .slice none 0 0] 32) k hk)
  have HB1 := Lib.hid (HB.out.trans ((Below.refl w1.heap.size w1).alloc (Nat.le_refl _) (.cells #[.slice none 0 0, .slice none 0 0, .slice none 0 0, .slice none 0 0] 32) |>.mono (by omega)))
  clear hb hown
  generalize NX.ph.length = l1 at *
  generalize NX.fl.length = l2 at *
  generalize NX.lv.length = l3 at *
  generalize NX.en.length = l4 at *
  go_wp2_with (with_reducible show wpList _ _ _ (Oper.mk _ (.store 32 _ _) _ _ _ _ :: _) _ _; refine wpList_put rfl 32 _ _ rfl w1.heap.size #[.slice D1 l1 g1, .slice D2 l2 g2, .slice D3 l3 g3, .slice D4 l4 g4] _ 32 rfl rfl rg (by kernel_rfl) rfl (by kernel_rfl) ?_; intro w2 hr2 hg2; refine Hid.out ?_)
  obtain ⟨r1, r2, r3, r4, r5, r6⟩ := HROW.out
  have hbk := fun k (hk : k < w1.heap.size) => (hg2.out.block k (by simp; omega) (fun e => by have := Option.some.inj e; omega)).trans (HAL.out k hk)
  have R1 := Lib.hid ((hbk w.heap.size (by omega)).trans r1)
  have R2 := Lib.hid ((hbk (w.heap.size + 1) (by omega)).trans r2)
  have R3 := Lib.hid ((hbk (w.heap.size + 2) (by omega)).trans r3)
  have R4 := Lib.hid ((hbk (w.heap.size + 3) (by omega)).trans r4)
  have R5 := Lib.hid ((hbk (w.heap.size + 4) (by omega)).trans r5)
  have R6 := Lib.hid ((hbk (w.heap.size + 5) (by omega)).trans r6)
  have HO2 := Lib.hid (HOW.out.blocks (fun j _ hj => hbk j hj))
  have HB2 := Lib.hid (HB1.out.trans (below_grown hg2.out (by simp; omega) (fun k hk => by injection hk with hk; omega)))
  have hz2 : w1.heap.size < w2.heap.size := by have := hg2.out.size; simp at this; omega
  have RG := Lib.hid hr2.out
  clear hbk r1 r2 r3 r4 r5 r6 hr2 hg2 rg HAL HB1 HOW HROW HB
  refine Lib.hid ?_
  generalize w1.heap.size = g at *
  have HRW := Lib.hid (fun wx (hb : Below w2.heap.size w2 wx) => And.intro ((hb.block w.heap.size (by omega)).trans R1.out) (And.intro ((hb.block (w.heap.size + 1) (by omega)).trans R2.out) (And.intro ((hb.block (w.heap.size + 2) (by omega)).trans R3.out) (And.intro ((hb.block (w.heap.size + 3) (by omega)).trans R4.out) (And.intro ((hb.block (w.heap.size + 4) (by omega)).trans R5.out) (And.intro ((hb.block (w.heap.size + 5) (by omega)).trans R6.out) ((hb.block g (by omega)).trans RG.out)))))))
  have HBN := Lib.hid (fun wx (hb : Below w2.heap.size w2 wx) => HB2.out.trans (hb.mono (by omega)))
  obtain ⟨k0, k1, k2, k3, k4, k5, k6, k7⟩ := boxRow R1.out
  obtain ⟨z0, z1, z2⟩ := stRow R2.out
  go_wp2_with fail
  refine (FW.out _).mono ?_
  rintro e w3 ⟨rfl, hb3⟩
  have HB3 := Lib.hid hb3
  have hz3 : g < w3.heap.size := by have := hb3.size; omega
  clear hb3 k0 k1 k2 k3 k4 k5 k6 k7 z0 z1 z2
  cases V
  case false =>
    obtain ⟨-, -, -, -, r5', r6', -⟩ := HRW.out w3 HB3.out
    have HBc := Lib.hid (HBN.out w3 HB3.out)
    have hzc : w.heap.size + 6 ≤ w3.heap.size := by omega
    obtain rfl : R = (St.zero, Img.zero, 0, 1) := by rw [HR.out]; simp
    go_wp2_with (with_reducible show wpList _ _ _ (Oper.mk _ (.store 47 _ _) _ _ _ _ :: _) _ _; refine wpList_put rfl 47 _ _ rfl (w.heap.size + 4) #[.string ⟨#[]⟩, .string ⟨#[]⟩, .int .i64 0] _ 47 rfl rfl r5' (by kernel_rfl) rfl (by kernel_rfl) ?_; intro wa hra hga; refine Hid.out ?_)
    have r6a := (hga.out.block (w.heap.size + 5) (by omega) (fun e => by have := Option.some.inj e; omega)).trans r6'
    have HBa := Lib.hid (HBc.out.trans (below_grown hga.out (by omega) (fun k hk => by injection hk with hk; omega)))
    have hza := hga.out.size
    clear r5' r6'
    refine Lib.hid ?_
    go_wp2_with (with_reducible show wpList _ _ _ (Oper.mk _ (.store 32 _ _) _ _ _ _ :: _) _ _; refine wpList_put rfl 32 _ _ rfl (w.heap.size + 5) #[.slice none 0 0, .slice none 0 0, .slice none 0 0, .slice none 0 0] _ 32 rfl rfl r6a (by kernel_rfl) rfl (by kernel_rfl) ?_; intro wb hrb hgb; refine Hid.out ?_)
    have rfin := (hgb.out.block (w.heap.size + 4) (by omega) (fun e => by have := Option.some.inj e; omega)).trans hra.out
    have HBb := Lib.hid (HBa.out.trans (below_grown hgb.out (by omega) (fun k hk => by injection hk with hk; omega)))
    refine Lib.hid ?_
    try go_wp2_with fail
    exact bodyPost_ret (resultsSI Try.results16 _ _ _ _ _ _ _ _ _ _ _ _ _ rfl rfl rfl rfl rfin hrb.out) rfl ⟨_, _, _, _, rfl, IOwn.zero _ _, HBb.out⟩
  case true =>
    have FWr1 := Lib.hid (FWr.out rfl)
    clear FWr FA FW
    obtain ⟨r1, r2, r3, r4, r5, r6, rg⟩ := HRW.out w3 HB3.out
    obtain ⟨k0, k1, k2, k3, k4, k5, k6, k7⟩ := boxRow r1
    obtain ⟨q0, q1, q2, q3⟩ := imRowCells r3
    obtain ⟨d0, d1, d2, d3⟩ := imRowCells rg
    obtain ⟨z0, z1, z2⟩ := stRow r2
    obtain ⟨y0, y1, y2, y3, y4⟩ := recRow r4
    clear r1 r2 r3 r4 r5 r6 rg
    cases K
    case false =>
      have hlt : ¬ n4 < l4 := by have := of_decide_eq_false hREG; omega
      clear hREG
      go_wp2_with fail
      refine (FWr1.out w3 _ _ _ _ (HBN.out w3 HB3.out) (HO2.out.below HB3.out).view).mono ?_
      rintro e w5 ⟨rfl, hb5⟩
      have HB5 := Lib.hid (HB3.out.trans (hb5.mono HB3.out.size))
      have hz5 : g < w5.heap.size := by have := HB5.out.size; omega
      obtain ⟨r1, r2, r3, r4, r5, r6, rg⟩ := HRW.out w5 HB5.out
      clear hb5 k0 k1 k2 k3 k4 k5 k6 k7 z0 z1 z2 q0 q1 q2 q3 d0 d1 d2 d3 y0 y1 y2 y3 y4
      go_wp2_with (with_reducible show wpList _ _ _ (Oper.mk _ (.store 47 _ _) _ _ _ _ :: _) _ _; refine wpList_put rfl 47 _ _ rfl (w.heap.size + 1) #[.string xa, .string xb, .int .i64 xs] _ 47 rfl rfl r2 (by kernel_rfl) rfl (by kernel_rfl) ?_; intro w6 hr6 hg6; refine Hid.out ?_)
      have hne := fun k (hk : k < w5.heap.size) (hn : k ≠ w.heap.size + 1) => hg6.out.block k hk (fun e => hn (Option.some.inj e))
      have P3 := Lib.hid ((hne (w.heap.size + 2) (by omega) (by omega)).trans r3)
      have P5 := Lib.hid ((hne (w.heap.size + 4) (by omega) (by omega)).trans r5)
      have P6 := Lib.hid ((hne (w.heap.size + 5) (by omega) (by omega)).trans r6)
      have PG := Lib.hid ((hne g (by omega) (by omega)).trans rg)
      have HO6 := Lib.hid ((HO2.out.below HB5.out).blocks (fun j hj hj2 => hne j hj2 (by omega)))
      have HB6 := Lib.hid ((HBN.out w5 HB5.out).trans (below_grown hg6.out (by omega) (fun k hk => by injection hk with hk; omega)))
      have hz6 : g < w6.heap.size := by have := hg6.out.size; omega
      have RS := Lib.hid hr6.out
      clear r1 r2 r3 r4 r5 r6 rg hne hr6 hg6
      by_cases hx0 : xc = 0
      case pos =>
        subst hx0
        obtain rfl : R = (⟨xa, xb, xs⟩, NX, xn, 0) := by rw [HR.out]; simp
        refine Lib.hid ?_
        go_wp2_with fail
        refine GhostV.ghost (fun γ L wx => GD (w6) (w.heap.size + 4) #[.string ⟨#[]⟩, .string ⟨#[]⟩, .int .i64 0] #[.string xa, .string xb, .int .i64 xs] 47 (w.heap.size + 5) #[.slice none 0 0, .slice none 0 0, .slice none 0 0, .slice none 0 0] 32 1 3 4 (pdK w6.heap.size #[.slice D1 l1 g1, .slice D2 l2 g2, .slice D3 l3 g3, .slice D4 l4 g4] 4 rfl (by simp [Value.oneCell'])) γ L wx) (by kernel_rfl) (by kernel_rfl) (fun γ => GD.start γ (P5.out) (P6.out)) ?_
        apply GhostV.walk_const (fun γ => by rfl)
        · intro γ L wx h1 h2 hx K hK
          obtain ⟨z0, z1, z2⟩ := stRow ((hx.other (w.heap.size + 1) (by omega) (by omega) (by omega)).trans RS.out)
          obtain ⟨d0, d1, d2, d3⟩ := imRowCells ((hx.other g (by omega) (by omega) (by omega)).trans PG.out)
          have H1 := Lib.hid h1
          have H2 := Lib.hid h2
          have HK2 := Lib.hid hK
          have HX := Lib.hid hx
          clear hK h1 h2 hx
          go_simp
          first
            | exact HK2.out _ (HX.out.next _ (by decide) (by decide) (by decide) (Below.refl _ _))
        try simp only [Act.put, List.setIfInBounds_toArray, List.set_cons_succ, List.set_cons_zero]
        refine GhostV.walk_yes (fun b => b) (fun γ => by rfl) ?_ ?_
        · intro γ L wx h1 h2 hx K hK
          obtain ⟨z0, z1, z2⟩ := stRow ((hx.other (w.heap.size + 1) (by omega) (by omega) (by omega)).trans RS.out)
          obtain ⟨d0, d1, d2, d3⟩ := imRowCells ((hx.other g (by omega) (by omega) (by omega)).trans PG.out)
          have H1 := Lib.hid h1
          have H2 := Lib.hid h2
          have HK2 := Lib.hid hK
          have HX := Lib.hid hx
          clear hK h1 h2 hx
          go_simp
          (exact HK2.out (.agg #[.slice D1 l1 g1, .slice D2 l2 g2, .slice D3 l3 g3, .slice D4 l4 g4]) _ (HX.out.make #[.slice D1 l1 g1, .slice D2 l2 g2, .slice D3 l3 g3, .slice D4 l4 g4] (by decide) (by decide) rfl (Below.refl _ _)))
        try simp only [Act.put, List.setIfInBounds_toArray, List.set_cons_succ, List.set_cons_zero]
        apply GhostV.walk_const (fun γ => by rfl)
        · intro γ L wx h1 h2 hx K hK
          obtain ⟨z0, z1, z2⟩ := stRow ((hx.other (w.heap.size + 1) (by omega) (by omega) (by omega)).trans RS.out)
          obtain ⟨d0, d1, d2, d3⟩ := imRowCells ((hx.other g (by omega) (by omega) (by omega)).trans PG.out)
          have H1 := Lib.hid h1
          have H2 := Lib.hid h2
          have HK2 := Lib.hid hK
          have HX := Lib.hid hx
          clear hK h1 h2 hx
          go_simp
          first
            | exact HK2.out _ (HX.out.next _ (by decide) (by decide) (by decide) (Below.refl _ _))
        try simp only [Act.put, List.setIfInBounds_toArray, List.set_cons_succ, List.set_cons_zero]
        refine GhostV.walk_const (v := undef) (fun γ => by rfl) ?_ ?_
        · intro γ L wx h1 h2 hx K hK
          exact GD.store1 hx h1 (by omega) (by omega) (by decide) (by decide) 47 _ _ rfl rfl rfl (by kernel_rfl) rfl (by kernel_rfl) (fun w2 h => hK _ h)
        try simp only [Act.put]
        refine GhostV.walk_const (v := undef) (fun γ => by rfl) ?_ ?_
        · intro γ L wx h1 h2 hx K hK
          exact GD.store2 hx (h2 1 (by kernel_rfl)) (by omega) (by omega) (by decide) (by decide) 32 _ _ rfl rfl rfl (by kernel_rfl) (fun w2 h => hK _ h)
        try simp only [Act.put]
        apply GhostV.walk_const (fun γ => by rfl)
        · intro γ L wx h1 h2 hx K hK
          obtain ⟨z0, z1, z2⟩ := stRow ((hx.other (w.heap.size + 1) (by omega) (by omega) (by omega)).trans RS.out)
          obtain ⟨d0, d1, d2, d3⟩ := imRowCells ((hx.other g (by omega) (by omega) (by omega)).trans PG.out)
          have H1 := Lib.hid h1
          have H2 := Lib.hid h2
          have HK2 := Lib.hid hK
          have HX := Lib.hid hx
          clear hK h1 h2 hx
          go_simp
          first
            | exact HK2.out _ (HX.out.next _ (by decide) (by decide) (by decide) (Below.refl _ _))
        try simp only [Act.put, List.setIfInBounds_toArray, List.set_cons_succ, List.set_cons_zero]
        apply GhostV.walk_const (fun γ => by rfl)
        · intro γ L wx h1 h2 hx K hK
          obtain ⟨z0, z1, z2⟩ := stRow ((hx.other (w.heap.size + 1) (by omega) (by omega) (by omega)).trans RS.out)
          obtain ⟨d0, d1, d2, d3⟩ := imRowCells ((hx.other g (by omega) (by omega) (by omega)).trans PG.out)
          have H1 := Lib.hid h1
          have H2 := Lib.hid h2
          have HK2 := Lib.hid hK
          have HX := Lib.hid hx
          clear hK h1 h2 hx
          go_simp
          first
            | exact HK2.out _ (HX.out.next _ (by decide) (by decide) (by decide) (Below.refl _ _))
        try simp only [Act.put, List.setIfInBounds_toArray, List.set_cons_succ, List.set_cons_zero]
        refine GhostV.walk_nil (fun γ L w7 hall hx => ?_)
        obtain ⟨c, hc, -, hp⟩ := hx.row2
        obtain rfl := hp (hall 4 (by decide))
        have h1 := hx.row1
        rw [hall 3 (by decide), if_pos rfl] at h1
        have HO7 := Lib.hid (HO6.out.blocks (fun j hj hj2 => hx.other j hj2 (by omega) (by omega)))
        have HB7 := Lib.hid (HB6.out.trans (hx.below (B := w.heap.size) (by omega) (by omega) (by omega)))
        clear hx hall hp
        try go_wp2_with fail
        exact bodyPost_ret (resultsSI Try.results16 _ _ _ _ _ _ _ _ _ _ _ _ _ rfl rfl rfl rfl h1 hc) rfl ⟨_, _, _, _, rfl, HO7.out.mono (by omega), HB7.out⟩
      case neg =>
        by_cases hx8 : xc = 8
        case pos =>
          subst hx8
          obtain rfl : R = (⟨xa, xb, xs⟩, m, 0, 8) := by rw [HR.out]; simp
          clear hx0
          refine Lib.hid ?_
          go_wp2_with fail
          refine GhostV.ghost (fun γ L wx => GD (w6) (w.heap.size + 4) #[.string ⟨#[]⟩, .string ⟨#[]⟩, .int .i64 0] #[.string xa, .string xb, .int .i64 xs] 47 (w.heap.size + 5) #[.slice none 0 0, .slice none 0 0, .slice none 0 0, .slice none 0 0] 32 2 4 5 (pdI w6.heap.size m) γ L wx) (by kernel_rfl) (by kernel_rfl) (fun γ => GD.start γ (P5.out) (P6.out)) ?_
          apply GhostV.walk_const (fun γ => by rfl)
          · intro γ L wx h1 h2 hx K hK
            obtain ⟨z0, z1, z2⟩ := stRow ((hx.other (w.heap.size + 1) (by omega) (by omega) (by omega)).trans RS.out)
            obtain ⟨q0, q1, q2, q3⟩ := imRowCells ((hx.other (w.heap.size + 2) (by omega) (by omega) (by omega)).trans P3.out)
            have HBX := Lib.hid (HB6.out.trans (hx.below (B := w.heap.size) (by omega) (by omega) (by omega)))
            have H1 := Lib.hid h1
            have H2 := Lib.hid h2
            have HK2 := Lib.hid hK
            have HX := Lib.hid hx
            clear hK h1 h2 hx
            go_simp
            first
              | exact HK2.out _ (HX.out.next _ (by decide) (by decide) (by decide) (Below.refl _ _))
          try simp only [Act.put, List.setIfInBounds_toArray, List.set_cons_succ, List.set_cons_zero]
          apply GhostV.walk_const (fun γ => by rfl)
          · intro γ L wx h1 h2 hx K hK
            obtain ⟨z0, z1, z2⟩ := stRow ((hx.other (w.heap.size + 1) (by omega) (by omega) (by omega)).trans RS.out)
            obtain ⟨q0, q1, q2, q3⟩ := imRowCells ((hx.other (w.heap.size + 2) (by omega) (by omega) (by omega)).trans P3.out)
            have HBX := Lib.hid (HB6.out.trans (hx.below (B := w.heap.size) (by omega) (by omega) (by omega)))
            have H1 := Lib.hid h1
            have H2 := Lib.hid h2
            have HK2 := Lib.hid hK
            have HX := Lib.hid hx
            clear hK h1 h2 hx
            go_simp
            first
              | exact HK2.out _ (HX.out.next _ (by decide) (by decide) (by decide) (Below.refl _ _))
          try simp only [Act.put, List.setIfInBounds_toArray, List.set_cons_succ, List.set_cons_zero]
          refine GhostV.walk_yes (fun b => b) (fun γ => by rfl) ?_ ?_
          · intro γ L wx h1 h2 hx K hK
            obtain ⟨z0, z1, z2⟩ := stRow ((hx.other (w.heap.size + 1) (by omega) (by omega) (by omega)).trans RS.out)
            obtain ⟨q0, q1, q2, q3⟩ := imRowCells ((hx.other (w.heap.size + 2) (by omega) (by omega) (by omega)).trans P3.out)
            have HBX := Lib.hid (HB6.out.trans (hx.below (B := w.heap.size) (by omega) (by omega) (by omega)))
            have H1 := Lib.hid h1
            have H2 := Lib.hid h2
            have HK2 := Lib.hid hK
            have HX := Lib.hid hx
            clear hK h1 h2 hx
            go_simp
            (go_at_call 37; refine (FCp.out wx HBX.out).mono ?_; rintro e w' ⟨p1, p2, p3, p4, rfl, hv, hb⟩; exact HK2.out (.agg #[p1, p2, p3, p4]) _ (HX.out.make #[p1, p2, p3, p4] (by decide) (by decide) ⟨p1, p2, p3, p4, rfl, hv.mono HX.out.size⟩ hb))
          try simp only [Act.put, List.setIfInBounds_toArray, List.set_cons_succ, List.set_cons_zero]
          apply GhostV.walk_const (fun γ => by rfl)
          · intro γ L wx h1 h2 hx K hK
            obtain ⟨z0, z1, z2⟩ := stRow ((hx.other (w.heap.size + 1) (by omega) (by omega) (by omega)).trans RS.out)
            obtain ⟨q0, q1, q2, q3⟩ := imRowCells ((hx.other (w.heap.size + 2) (by omega) (by omega) (by omega)).trans P3.out)
            have HBX := Lib.hid (HB6.out.trans (hx.below (B := w.heap.size) (by omega) (by omega) (by omega)))
            have H1 := Lib.hid h1
            have H2 := Lib.hid h2
            have HK2 := Lib.hid hK
            have HX := Lib.hid hx
            clear hK h1 h2 hx
            go_simp
            first
              | exact HK2.out _ (HX.out.next _ (by decide) (by decide) (by decide) (Below.refl _ _))
          try simp only [Act.put, List.setIfInBounds_toArray, List.set_cons_succ, List.set_cons_zero]
          refine GhostV.walk_const (v := undef) (fun γ => by rfl) ?_ ?_
          · intro γ L wx h1 h2 hx K hK
            exact GD.store1 hx h1 (by omega) (by omega) (by decide) (by decide) 47 _ _ rfl rfl rfl (by kernel_rfl) rfl (by kernel_rfl) (fun w2 h => hK _ h)
          try simp only [Act.put]
          refine GhostV.walk_const (v := undef) (fun γ => by rfl) ?_ ?_
          · intro γ L wx h1 h2 hx K hK
            exact GD.store2 hx (h2 2 (by kernel_rfl)) (by omega) (by omega) (by decide) (by decide) 32 _ _ rfl rfl rfl (by kernel_rfl) (fun w2 h => hK _ h)
          try simp only [Act.put]
          apply GhostV.walk_const (fun γ => by rfl)
          · intro γ L wx h1 h2 hx K hK
            obtain ⟨z0, z1, z2⟩ := stRow ((hx.other (w.heap.size + 1) (by omega) (by omega) (by omega)).trans RS.out)
            obtain ⟨q0, q1, q2, q3⟩ := imRowCells ((hx.other (w.heap.size + 2) (by omega) (by omega) (by omega)).trans P3.out)
            have HBX := Lib.hid (HB6.out.trans (hx.below (B := w.heap.size) (by omega) (by omega) (by omega)))
            have H1 := Lib.hid h1
            have H2 := Lib.hid h2
            have HK2 := Lib.hid hK
            have HX := Lib.hid hx
            clear hK h1 h2 hx
            go_simp
            first
              | exact HK2.out _ (HX.out.next _ (by decide) (by decide) (by decide) (Below.refl _ _))
          try simp only [Act.put, List.setIfInBounds_toArray, List.set_cons_succ, List.set_cons_zero]
          apply GhostV.walk_const (fun γ => by rfl)
          · intro γ L wx h1 h2 hx K hK
            obtain ⟨z0, z1, z2⟩ := stRow ((hx.other (w.heap.size + 1) (by omega) (by omega) (by omega)).trans RS.out)
            obtain ⟨q0, q1, q2, q3⟩ := imRowCells ((hx.other (w.heap.size + 2) (by omega) (by omega) (by omega)).trans P3.out)
            have HBX := Lib.hid (HB6.out.trans (hx.below (B := w.heap.size) (by omega) (by omega) (by omega)))
            have H1 := Lib.hid h1
            have H2 := Lib.hid h2
            have HK2 := Lib.hid hK
            have HX := Lib.hid hx
            clear hK h1 h2 hx
            go_simp
            first
              | exact HK2.out _ (HX.out.next _ (by decide) (by decide) (by decide) (Below.refl _ _))
          try simp only [Act.put, List.setIfInBounds_toArray, List.set_cons_succ, List.set_cons_zero]
          refine GhostV.walk_nil (fun γ L w7 hall hx => ?_)
          obtain ⟨c, hc, -, hp⟩ := hx.row2
          obtain ⟨p1, p2, p3, p4, rfl, hv⟩ := hp (hall 5 (by decide))
          have h1 := hx.row1
          rw [hall 4 (by decide), if_pos rfl] at h1
          have HO7 := Lib.hid hv
          have HB7 := Lib.hid (HB6.out.trans (hx.below (B := w.heap.size) (by omega) (by omega) (by omega)))
          clear hx hall hp hv
          try go_wp2_with fail
          exact bodyPost_ret (resultsSI Try.results16 _ _ _ _ _ _ _ _ _ _ _ _ _ rfl rfl rfl rfl h1 hc) rfl ⟨_, _, _, _, rfl, HO7.out.mono (by omega), HB7.out⟩
        case neg =>
          obtain rfl : R = (St.zero, Img.zero, 0, xc) := by rw [HR.out]; simp [hx0, hx8]
          have hn0 : (xc == 0) = false := by simp [hx0]
          have hn8 : (xc == 8) = false := by simp [hx8]
          have r5' := P5.out
          have r6' := P6.out
          have HBc := HB6
          have hzc : w.heap.size + 6 ≤ w6.heap.size := by omega
          clear hx0 hx8
          refine Lib.hid ?_
          go_wp2_with (with_reducible show wpList _ _ _ (Oper.mk _ (.store 47 _ _) _ _ _ _ :: _) _ _; refine wpList_put rfl 47 _ _ rfl (w.heap.size + 4) #[.string ⟨#[]⟩, .string ⟨#[]⟩, .int .i64 0] _ 47 rfl rfl r5' (by kernel_rfl) rfl (by kernel_rfl) ?_; intro wa hra hga; refine Hid.out ?_)
          have r6a := (hga.out.block (w.heap.size + 5) (by omega) (fun e => by have := Option.some.inj e; omega)).trans r6'
          have HBa := Lib.hid (HBc.out.trans (below_grown hga.out (by omega) (fun k hk => by injection hk with hk; omega)))
          have hza := hga.out.size
          clear r5' r6'
          refine Lib.hid ?_
          go_wp2_with (with_reducible show wpList _ _ _ (Oper.mk _ (.store 32 _ _) _ _ _ _ :: _) _ _; refine wpList_put rfl 32 _ _ rfl (w.heap.size + 5) #[.slice none 0 0, .slice none 0 0, .slice none 0 0, .slice none 0 0] _ 32 rfl rfl r6a (by kernel_rfl) rfl (by kernel_rfl) ?_; intro wb hrb hgb; refine Hid.out ?_)
          have rfin := (hgb.out.block (w.heap.size + 4) (by omega) (fun e => by have := Option.some.inj e; omega)).trans hra.out
          have HBb := Lib.hid (HBa.out.trans (below_grown hgb.out (by omega) (fun k hk => by injection hk with hk; omega)))
          refine Lib.hid ?_
          try go_wp2_with fail
          exact bodyPost_ret (resultsSI Try.results16 _ _ _ _ _ _ _ _ _ _ _ _ _ rfl rfl rfl rfl rfin hrb.out) rfl ⟨_, _, _, _, rfl, IOwn.zero _ _, HBb.out⟩
    case true =>
      have hlt : n4 < l4 := by have := of_decide_eq_true hREG; omega
      clear hREG
      go_wp2_with fail
      refine (FRo.out _ (HBN.out w3 HB3.out)).mono ?_
      rintro e w4 ⟨rfl, hb4⟩
      have HB4 := Lib.hid (HB3.out.trans (hb4.mono HB3.out.size))
      have hz4 : g < w4.heap.size := by have := hb4.size; omega
      clear hb4 k0 k1 k2 k3 k4 k5 k6 k7 q0 q1 q2 q3 d0 d1 d2 d3 z0 z1 z2 y0 y1 y2 y3 y4
      obtain ⟨r1, r2, r3, r4, r5', r6', rg⟩ := HRW.out w4 HB4.out
      cases RO
      case false =>
        have HBc := Lib.hid (HBN.out w4 HB4.out)
        have hzc : w.heap.size + 6 ≤ w4.heap.size := by omega
        obtain rfl : R = (St.zero, Img.zero, 0, 7) := by rw [HR.out]; simp
        clear r1 r2 r3 r4 rg
        go_wp2_with (with_reducible show wpList _ _ _ (Oper.mk _ (.store 47 _ _) _ _ _ _ :: _) _ _; refine wpList_put rfl 47 _ _ rfl (w.heap.size + 4) #[.string ⟨#[]⟩, .string ⟨#[]⟩, .int .i64 0] _ 47 rfl rfl r5' (by kernel_rfl) rfl (by kernel_rfl) ?_; intro wa hra hga; refine Hid.out ?_)
        have r6a := (hga.out.block (w.heap.size + 5) (by omega) (fun e => by have := Option.some.inj e; omega)).trans r6'
        have HBa := Lib.hid (HBc.out.trans (below_grown hga.out (by omega) (fun k hk => by injection hk with hk; omega)))
        have hza := hga.out.size
        clear r5' r6'
        refine Lib.hid ?_
        go_wp2_with (with_reducible show wpList _ _ _ (Oper.mk _ (.store 32 _ _) _ _ _ _ :: _) _ _; refine wpList_put rfl 32 _ _ rfl (w.heap.size + 5) #[.slice none 0 0, .slice none 0 0, .slice none 0 0, .slice none 0 0] _ 32 rfl rfl r6a (by kernel_rfl) rfl (by kernel_rfl) ?_; intro wb hrb hgb; refine Hid.out ?_)
        have rfin := (hgb.out.block (w.heap.size + 4) (by omega) (fun e => by have := Option.some.inj e; omega)).trans hra.out
        have HBb := Lib.hid (HBa.out.trans (below_grown hgb.out (by omega) (fun k hk => by injection hk with hk; omega)))
        refine Lib.hid ?_
        try go_wp2_with fail
        exact bodyPost_ret (resultsSI Try.results16 _ _ _ _ _ _ _ _ _ _ _ _ _ rfl rfl rfl rfl rfin hrb.out) rfl ⟨_, _, _, _, rfl, IOwn.zero _ _, HBb.out⟩
      case true =>
        obtain ⟨k0, k1, k2, k3, k4, k5, k6, k7⟩ := boxRow r1
        obtain ⟨q0, q1, q2, q3⟩ := imRowCells r3
        obtain ⟨d0, d1, d2, d3⟩ := imRowCells rg
        obtain ⟨z0, z1, z2⟩ := stRow r2
        obtain ⟨y0, y1, y2, y3, y4⟩ := recRow r4
        clear r1 r2 r3 r4 r5' r6' rg
        go_wp2_with fail
        refine (FWr1.out w4 _ _ _ _ (HBN.out w4 HB4.out) (HO2.out.below HB4.out).view).mono ?_
        rintro e w5 ⟨rfl, hb5⟩
        have HB5 := Lib.hid (HB4.out.trans (hb5.mono HB4.out.size))
        have hz5 : g < w5.heap.size := by have := HB5.out.size; omega
        obtain ⟨r1, r2, r3, r4, r5, r6, rg⟩ := HRW.out w5 HB5.out
        clear hb5 k0 k1 k2 k3 k4 k5 k6 k7 z0 z1 z2 q0 q1 q2 q3 d0 d1 d2 d3 y0 y1 y2 y3 y4
        go_wp2_with (with_reducible show wpList _ _ _ (Oper.mk _ (.store 47 _ _) _ _ _ _ :: _) _ _; refine wpList_put rfl 47 _ _ rfl (w.heap.size + 1) #[.string xa, .string xb, .int .i64 xs] _ 47 rfl rfl r2 (by kernel_rfl) rfl (by kernel_rfl) ?_; intro w6 hr6 hg6; refine Hid.out ?_)
        have hne := fun k (hk : k < w5.heap.size) (hn : k ≠ w.heap.size + 1) => hg6.out.block k hk (fun e => hn (Option.some.inj e))
        have P3 := Lib.hid ((hne (w.heap.size + 2) (by omega) (by omega)).trans r3)
        have P5 := Lib.hid ((hne (w.heap.size + 4) (by omega) (by omega)).trans r5)
        have P6 := Lib.hid ((hne (w.heap.size + 5) (by omega) (by omega)).trans r6)
        have PG := Lib.hid ((hne g (by omega) (by omega)).trans rg)
        have HO6 := Lib.hid ((HO2.out.below HB5.out).blocks (fun j hj hj2 => hne j hj2 (by omega)))
        have HB6 := Lib.hid ((HBN.out w5 HB5.out).trans (below_grown hg6.out (by omega) (fun k hk => by injection hk with hk; omega)))
        have hz6 : g < w6.heap.size := by have := hg6.out.size; omega
        have RS := Lib.hid hr6.out
        clear r1 r2 r3 r4 r5 r6 rg hne hr6 hg6
        by_cases hx0 : xc = 0
        case pos =>
          subst hx0
          obtain rfl : R = (⟨xa, xb, xs⟩, NX, xn, 0) := by rw [HR.out]; simp
          refine Lib.hid ?_
          go_wp2_with fail
          refine GhostV.ghost (fun γ L wx => GD (w6) (w.heap.size + 4) #[.string ⟨#[]⟩, .string ⟨#[]⟩, .int .i64 0] #[.string xa, .string xb, .int .i64 xs] 47 (w.heap.size + 5) #[.slice none 0 0, .slice none 0 0, .slice none 0 0, .slice none 0 0] 32 1 3 4 (pdK w6.heap.size #[.slice D1 l1 g1, .slice D2 l2 g2, .slice D3 l3 g3, .slice D4 l4 g4] 4 rfl (by simp [Value.oneCell'])) γ L wx) (by kernel_rfl) (by kernel_rfl) (fun γ => GD.start γ (P5.out) (P6.out)) ?_
          apply GhostV.walk_const (fun γ => by rfl)
          · intro γ L wx h1 h2 hx K hK
            obtain ⟨z0, z1, z2⟩ := stRow ((hx.other (w.heap.size + 1) (by omega) (by omega) (by omega)).trans RS.out)
            obtain ⟨d0, d1, d2, d3⟩ := imRowCells ((hx.other g (by omega) (by omega) (by omega)).trans PG.out)
            have H1 := Lib.hid h1
            have H2 := Lib.hid h2
            have HK2 := Lib.hid hK
            have HX := Lib.hid hx
            clear hK h1 h2 hx
            go_simp
            first
              | exact HK2.out _ (HX.out.next _ (by decide) (by decide) (by decide) (Below.refl _ _))
          try simp only [Act.put, List.setIfInBounds_toArray, List.set_cons_succ, List.set_cons_zero]
          refine GhostV.walk_yes (fun b => b) (fun γ => by rfl) ?_ ?_
          · intro γ L wx h1 h2 hx K hK
            obtain ⟨z0, z1, z2⟩ := stRow ((hx.other (w.heap.size + 1) (by omega) (by omega) (by omega)).trans RS.out)
            obtain ⟨d0, d1, d2, d3⟩ := imRowCells ((hx.other g (by omega) (by omega) (by omega)).trans PG.out)
            have H1 := Lib.hid h1
            have H2 := Lib.hid h2
            have HK2 := Lib.hid hK
            have HX := Lib.hid hx
            clear hK h1 h2 hx
            go_simp
            (exact HK2.out (.agg #[.slice D1 l1 g1, .slice D2 l2 g2, .slice D3 l3 g3, .slice D4 l4 g4]) _ (HX.out.make #[.slice D1 l1 g1, .slice D2 l2 g2, .slice D3 l3 g3, .slice D4 l4 g4] (by decide) (by decide) rfl (Below.refl _ _)))
          try simp only [Act.put, List.setIfInBounds_toArray, List.set_cons_succ, List.set_cons_zero]
          apply GhostV.walk_const (fun γ => by rfl)
          · intro γ L wx h1 h2 hx K hK
            obtain ⟨z0, z1, z2⟩ := stRow ((hx.other (w.heap.size + 1) (by omega) (by omega) (by omega)).trans RS.out)
            obtain ⟨d0, d1, d2, d3⟩ := imRowCells ((hx.other g (by omega) (by omega) (by omega)).trans PG.out)
            have H1 := Lib.hid h1
            have H2 := Lib.hid h2
            have HK2 := Lib.hid hK
            have HX := Lib.hid hx
            clear hK h1 h2 hx
            go_simp
            first
              | exact HK2.out _ (HX.out.next _ (by decide) (by decide) (by decide) (Below.refl _ _))
          try simp only [Act.put, List.setIfInBounds_toArray, List.set_cons_succ, List.set_cons_zero]
          refine GhostV.walk_const (v := undef) (fun γ => by rfl) ?_ ?_
          · intro γ L wx h1 h2 hx K hK
            exact GD.store1 hx h1 (by omega) (by omega) (by decide) (by decide) 47 _ _ rfl rfl rfl (by kernel_rfl) rfl (by kernel_rfl) (fun w2 h => hK _ h)
          try simp only [Act.put]
          refine GhostV.walk_const (v := undef) (fun γ => by rfl) ?_ ?_
          · intro γ L wx h1 h2 hx K hK
            exact GD.store2 hx (h2 1 (by kernel_rfl)) (by omega) (by omega) (by decide) (by decide) 32 _ _ rfl rfl rfl (by kernel_rfl) (fun w2 h => hK _ h)
          try simp only [Act.put]
          apply GhostV.walk_const (fun γ => by rfl)
          · intro γ L wx h1 h2 hx K hK
            obtain ⟨z0, z1, z2⟩ := stRow ((hx.other (w.heap.size + 1) (by omega) (by omega) (by omega)).trans RS.out)
            obtain ⟨d0, d1, d2, d3⟩ := imRowCells ((hx.other g (by omega) (by omega) (by omega)).trans PG.out)
            have H1 := Lib.hid h1
            have H2 := Lib.hid h2
            have HK2 := Lib.hid hK
            have HX := Lib.hid hx
            clear hK h1 h2 hx
            go_simp
            first
              | exact HK2.out _ (HX.out.next _ (by decide) (by decide) (by decide) (Below.refl _ _))
          try simp only [Act.put, List.setIfInBounds_toArray, List.set_cons_succ, List.set_cons_zero]
          apply GhostV.walk_const (fun γ => by rfl)
          · intro γ L wx h1 h2 hx K hK
            obtain ⟨z0, z1, z2⟩ := stRow ((hx.other (w.heap.size + 1) (by omega) (by omega) (by omega)).trans RS.out)
            obtain ⟨d0, d1, d2, d3⟩ := imRowCells ((hx.other g (by omega) (by omega) (by omega)).trans PG.out)
            have H1 := Lib.hid h1
            have H2 := Lib.hid h2
            have HK2 := Lib.hid hK
            have HX := Lib.hid hx
            clear hK h1 h2 hx
            go_simp
            first
              | exact HK2.out _ (HX.out.next _ (by decide) (by decide) (by decide) (Below.refl _ _))
          try simp only [Act.put, List.setIfInBounds_toArray, List.set_cons_succ, List.set_cons_zero]
          refine GhostV.walk_nil (fun γ L w7 hall hx => ?_)
          obtain ⟨c, hc, -, hp⟩ := hx.row2
          obtain rfl := hp (hall 4 (by decide))
          have h1 := hx.row1
          rw [hall 3 (by decide), if_pos rfl] at h1
          have HO7 := Lib.hid (HO6.out.blocks (fun j hj hj2 => hx.other j hj2 (by omega) (by omega)))
          have HB7 := Lib.hid (HB6.out.trans (hx.below (B := w.heap.size) (by omega) (by omega) (by omega)))
          clear hx hall hp
          try go_wp2_with fail
          exact bodyPost_ret (resultsSI Try.results16 _ _ _ _ _ _ _ _ _ _ _ _ _ rfl rfl rfl rfl h1 hc) rfl ⟨_, _, _, _, rfl, HO7.out.mono (by omega), HB7.out⟩
        case neg =>
          by_cases hx8 : xc = 8
          case pos =>
            subst hx8
            obtain rfl : R = (⟨xa, xb, xs⟩, m, 0, 8) := by rw [HR.out]; simp
            clear hx0
            refine Lib.hid ?_
            go_wp2_with fail
            refine GhostV.ghost (fun γ L wx => GD (w6) (w.heap.size + 4) #[.string ⟨#[]⟩, .string ⟨#[]⟩, .int .i64 0] #[.string xa, .string xb, .int .i64 xs] 47 (w.heap.size + 5) #[.slice none 0 0, .slice none 0 0, .slice none 0 0, .slice none 0 0] 32 2 4 5 (pdI w6.heap.size m) γ L wx) (by kernel_rfl) (by kernel_rfl) (fun γ => GD.start γ (P5.out) (P6.out)) ?_
            apply GhostV.walk_const (fun γ => by rfl)
            · intro γ L wx h1 h2 hx K hK
              obtain ⟨z0, z1, z2⟩ := stRow ((hx.other (w.heap.size + 1) (by omega) (by omega) (by omega)).trans RS.out)
              obtain ⟨q0, q1, q2, q3⟩ := imRowCells ((hx.other (w.heap.size + 2) (by omega) (by omega) (by omega)).trans P3.out)
              have HBX := Lib.hid (HB6.out.trans (hx.below (B := w.heap.size) (by omega) (by omega) (by omega)))
              have H1 := Lib.hid h1
              have H2 := Lib.hid h2
              have HK2 := Lib.hid hK
              have HX := Lib.hid hx
              clear hK h1 h2 hx
              go_simp
              first
                | exact HK2.out _ (HX.out.next _ (by decide) (by decide) (by decide) (Below.refl _ _))
            try simp only [Act.put, List.setIfInBounds_toArray, List.set_cons_succ, List.set_cons_zero]
            apply GhostV.walk_const (fun γ => by rfl)
            · intro γ L wx h1 h2 hx K hK
              obtain ⟨z0, z1, z2⟩ := stRow ((hx.other (w.heap.size + 1) (by omega) (by omega) (by omega)).trans RS.out)
              obtain ⟨q0, q1, q2, q3⟩ := imRowCells ((hx.other (w.heap.size + 2) (by omega) (by omega) (by omega)).trans P3.out)
              have HBX := Lib.hid (HB6.out.trans (hx.below (B := w.heap.size) (by omega) (by omega) (by omega)))
              have H1 := Lib.hid h1
              have H2 := Lib.hid h2
              have HK2 := Lib.hid hK
              have HX := Lib.hid hx
              clear hK h1 h2 hx
              go_simp
              first
                | exact HK2.out _ (HX.out.next _ (by decide) (by decide) (by decide) (Below.refl _ _))
            try simp only [Act.put, List.setIfInBounds_toArray, List.set_cons_succ, List.set_cons_zero]
            refine GhostV.walk_yes (fun b => b) (fun γ => by rfl) ?_ ?_
            · intro γ L wx h1 h2 hx K hK
              obtain ⟨z0, z1, z2⟩ := stRow ((hx.other (w.heap.size + 1) (by omega) (by omega) (by omega)).trans RS.out)
              obtain ⟨q0, q1, q2, q3⟩ := imRowCells ((hx.other (w.heap.size + 2) (by omega) (by omega) (by omega)).trans P3.out)
              have HBX := Lib.hid (HB6.out.trans (hx.below (B := w.heap.size) (by omega) (by omega) (by omega)))
              have H1 := Lib.hid h1
              have H2 := Lib.hid h2
              have HK2 := Lib.hid hK
              have HX := Lib.hid hx
              clear hK h1 h2 hx
              go_simp
              (go_at_call 37; refine (FCp.out wx HBX.out).mono ?_; rintro e w' ⟨p1, p2, p3, p4, rfl, hv, hb⟩; exact HK2.out (.agg #[p1, p2, p3, p4]) _ (HX.out.make #[p1, p2, p3, p4] (by decide) (by decide) ⟨p1, p2, p3, p4, rfl, hv.mono HX.out.size⟩ hb))
            try simp only [Act.put, List.setIfInBounds_toArray, List.set_cons_succ, List.set_cons_zero]
            apply GhostV.walk_const (fun γ => by rfl)
            · intro γ L wx h1 h2 hx K hK
              obtain ⟨z0, z1, z2⟩ := stRow ((hx.other (w.heap.size + 1) (by omega) (by omega) (by omega)).trans RS.out)
              obtain ⟨q0, q1, q2, q3⟩ := imRowCells ((hx.other (w.heap.size + 2) (by omega) (by omega) (by omega)).trans P3.out)
              have HBX := Lib.hid (HB6.out.trans (hx.below (B := w.heap.size) (by omega) (by omega) (by omega)))
              have H1 := Lib.hid h1
              have H2 := Lib.hid h2
              have HK2 := Lib.hid hK
              have HX := Lib.hid hx
              clear hK h1 h2 hx
              go_simp
              first
                | exact HK2.out _ (HX.out.next _ (by decide) (by decide) (by decide) (Below.refl _ _))
            try simp only [Act.put, List.setIfInBounds_toArray, List.set_cons_succ, List.set_cons_zero]
            refine GhostV.walk_const (v := undef) (fun γ => by rfl) ?_ ?_
            · intro γ L wx h1 h2 hx K hK
              exact GD.store1 hx h1 (by omega) (by omega) (by decide) (by decide) 47 _ _ rfl rfl rfl (by kernel_rfl) rfl (by kernel_rfl) (fun w2 h => hK _ h)
            try simp only [Act.put]
            refine GhostV.walk_const (v := undef) (fun γ => by rfl) ?_ ?_
            · intro γ L wx h1 h2 hx K hK
              exact GD.store2 hx (h2 2 (by kernel_rfl)) (by omega) (by omega) (by decide) (by decide) 32 _ _ rfl rfl rfl (by kernel_rfl) (fun w2 h => hK _ h)
            try simp only [Act.put]
            apply GhostV.walk_const (fun γ => by rfl)
            · intro γ L wx h1 h2 hx K hK
              obtain ⟨z0, z1, z2⟩ := stRow ((hx.other (w.heap.size + 1) (by omega) (by omega) (by omega)).trans RS.out)
              obtain ⟨q0, q1, q2, q3⟩ := imRowCells ((hx.other (w.heap.size + 2) (by omega) (by omega) (by omega)).trans P3.out)
              have HBX := Lib.hid (HB6.out.trans (hx.below (B := w.heap.size) (by omega) (by omega) (by omega)))
              have H1 := Lib.hid h1
              have H2 := Lib.hid h2
              have HK2 := Lib.hid hK
              have HX := Lib.hid hx
              clear hK h1 h2 hx
              go_simp
              first
                | exact HK2.out _ (HX.out.next _ (by decide) (by decide) (by decide) (Below.refl _ _))
            try simp only [Act.put, List.setIfInBounds_toArray, List.set_cons_succ, List.set_cons_zero]
            apply GhostV.walk_const (fun γ => by rfl)
            · intro γ L wx h1 h2 hx K hK
              obtain ⟨z0, z1, z2⟩ := stRow ((hx.other (w.heap.size + 1) (by omega) (by omega) (by omega)).trans RS.out)
              obtain ⟨q0, q1, q2, q3⟩ := imRowCells ((hx.other (w.heap.size + 2) (by omega) (by omega) (by omega)).trans P3.out)
              have HBX := Lib.hid (HB6.out.trans (hx.below (B := w.heap.size) (by omega) (by omega) (by omega)))
              have H1 := Lib.hid h1
              have H2 := Lib.hid h2
              have HK2 := Lib.hid hK
              have HX := Lib.hid hx
              clear hK h1 h2 hx
              go_simp
              first
                | exact HK2.out _ (HX.out.next _ (by decide) (by decide) (by decide) (Below.refl _ _))
            try simp only [Act.put, List.setIfInBounds_toArray, List.set_cons_succ, List.set_cons_zero]
            refine GhostV.walk_nil (fun γ L w7 hall hx => ?_)
            obtain ⟨c, hc, -, hp⟩ := hx.row2
            obtain ⟨p1, p2, p3, p4, rfl, hv⟩ := hp (hall 5 (by decide))
            have h1 := hx.row1
            rw [hall 4 (by decide), if_pos rfl] at h1
            have HO7 := Lib.hid hv
            have HB7 := Lib.hid (HB6.out.trans (hx.below (B := w.heap.size) (by omega) (by omega) (by omega)))
            clear hx hall hp hv
            try go_wp2_with fail
            exact bodyPost_ret (resultsSI Try.results16 _ _ _ _ _ _ _ _ _ _ _ _ _ rfl rfl rfl rfl h1 hc) rfl ⟨_, _, _, _, rfl, HO7.out.mono (by omega), HB7.out⟩
          case neg =>
            obtain rfl : R = (St.zero, Img.zero, 0, xc) := by rw [HR.out]; simp [hx0, hx8]
            have hn0 : (xc == 0) = false := by simp [hx0]
            have hn8 : (xc == 8) = false := by simp [hx8]
            have r5' := P5.out
            have r6' := P6.out
            have HBc := HB6
            have hzc : w.heap.size + 6 ≤ w6.heap.size := by omega
            clear hx0 hx8
            refine Lib.hid ?_
            go_wp2_with (with_reducible show wpList _ _ _ (Oper.mk _ (.store 47 _ _) _ _ _ _ :: _) _ _; refine wpList_put rfl 47 _ _ rfl (w.heap.size + 4) #[.string ⟨#[]⟩, .string ⟨#[]⟩, .int .i64 0] _ 47 rfl rfl r5' (by kernel_rfl) rfl (by kernel_rfl) ?_; intro wa hra hga; refine Hid.out ?_)
            have r6a := (hga.out.block (w.heap.size + 5) (by omega) (fun e => by have := Option.some.inj e; omega)).trans r6'
            have HBa := Lib.hid (HBc.out.trans (below_grown hga.out (by omega) (fun k hk => by injection hk with hk; omega)))
            have hza := hga.out.size
            clear r5' r6'
            refine Lib.hid ?_
            go_wp2_with (with_reducible show wpList _ _ _ (Oper.mk _ (.store 32 _ _) _ _ _ _ :: _) _ _; refine wpList_put rfl 32 _ _ rfl (w.heap.size + 5) #[.slice none 0 0, .slice none 0 0, .slice none 0 0, .slice none 0 0] _ 32 rfl rfl r6a (by kernel_rfl) rfl (by kernel_rfl) ?_; intro wb hrb hgb; refine Hid.out ?_)
            have rfin := (hgb.out.block (w.heap.size + 4) (by omega) (fun e => by have := Option.some.inj e; omega)).trans hra.out
            have HBb := Lib.hid (HBa.out.trans (below_grown hgb.out (by omega) (fun k hk => by injection hk with hk; omega)))
            refine Lib.hid ?_
            try go_wp2_with fail
            exact bodyPost_ret (resultsSI Try.results16 _ _ _ _ _ _ _ _ _ _ _ _ _ rfl rfl rfl rfl rfin hrb.out) rfl ⟨_, _, _, _, rfl, IOwn.zero _ _, HBb.out⟩

theorem append_any (b : BldD) (A : Option Addr) (cap : Nat) (s : St) (pv fv lv ev : Value) (m : Img) (r : Rc) (bud : Int) (w : World) (hn : b.cars.length ≤ 140737488355328) (hc : CarsAt w w.heap.size A b.cars) (h : ImV w pv fv lv ev m) (hw : Few m) (he : m.en.length ≤ 40000) (hbud : I64 bud) :
    Calls Try.prog 16 #[b.agg A cap, s.agg, .agg #[pv, fv, lv, ev], r.agg, .int .i64 bud] w (AppEnd w (appendF b s m r bud)) := by
  cases hB : (isB b m && Rc.okB b r)
  · rw [show appendF b s m r bud = (St.zero, Img.zero, 0, 1) by unfold appendF; rw [hB, Bool.and_false]; rfl]
    exact appendBad_any b A cap s pv fv lv ev m r bud w hn hc h hw hB
  · simp only [Bool.and_eq_true] at hB
    exact appendGood_any b A cap s pv fv lv ev m r bud w hn hc h he hbud hB.1 hB.2
end
end Go.Proofs.Ytifbkoaggjikpaa
