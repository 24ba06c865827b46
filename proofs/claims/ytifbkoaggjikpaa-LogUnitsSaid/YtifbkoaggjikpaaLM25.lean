/- What the texts behind this one rest on: several texts in one. No statement of the seat is proved here. -/
import Derived.Test.YtifbkoaggjikpaaLM24
import Derived.Test.YtifbkoaggjikpaaLM11
import Derived.Test.YtifbkoaggjikpaaLM09
namespace Go.Proofs.Ytifbkoaggjikpaa
section
open Go.RowKit Lg Img

/-- Rows of records stand. -/
def KR (w w' : World) : Prop := ∀ (j : Nat) (cur : Array Value) (fz : Nat × Nat), w.heap[j]? = some (.cells cur 41 fz) → w'.heap[j]? = w.heap[j]?
theorem KR.refl (w : World) : KR w w := fun _ _ _ _ => rfl
theorem KR.trans {a b c : World} (h : KR a b) (k : KR b c) : KR a c := fun j cur fz hj => (k j cur fz ((h j cur fz hj).trans hj)).trans (h j cur fz hj)
theorem KR.below {w w' : World} (h : Below w.heap.size w w') : KR w w' := fun j _ _ hj => h.block j (Array.getElem?_eq_some_iff.1 hj).1
theorem KR.grown {w w' : World} {row : Option Nat} (h : w.grownBy w' row) (hr : ∀ k, row = some k → ∃ cur e fz, w.heap[k]? = some (.cells cur e fz) ∧ e ≠ 41) : KR w w' := fun j cur fz hj =>
  h.block j (Array.getElem?_eq_some_iff.1 hj).1 (fun e => by
    obtain ⟨cur', e', fz', h1, h2⟩ := hr j e.symm
    rw [hj] at h1
    injection h1 with h1
    injection h1 with _ h3 _
    exact h2 h3.symm)
theorem KR.own {w w' : World} {B : Nat} {e : TypeId} {s : Nat} {v : Value} {n : Nat} {xs : List Value} (ho : w.ownsRow B e s v n xs) (h : w.grownBy w' v.ownBlock) (hne : e ≠ 41) : KR w w' :=
  KR.grown h fun k hk => by
    obtain ⟨c, fz, h1⟩ := Lib.ownsRow_kind ho k hk
    exact ⟨c, e, fz, h1, hne⟩
theorem own_rec {w w' : World} {B : Nat} {s : Nat} {v : Value} {n : Nat} {xs : List Value} (ho : w.ownsRow B 41 s v n xs) (h : KR w w') : w'.ownsRow B 41 s v n xs := by
  obtain ⟨hl, h1 | ⟨g, cap, cur, hv, hb, hg, hc⟩⟩ := ho
  · exact ⟨hl, .inl h1⟩
  · exact ⟨hl, .inr ⟨g, cap, cur, hv, hb, (h g _ _ hg).trans hg, hc⟩⟩
/-- Below base all but block g is as it was. -/
structure BXc (base g : Nat) (w w' : World) : Prop where
  os : w'.os = w.os
  tape : w'.tape = w.tape
  output : w'.output = w.output
  size : w.heap.size ≤ w'.heap.size
  block : ∀ k, k < base → k ≠ g → w'.heap[k]? = w.heap[k]?
theorem BXc.of {base g : Nat} {w w' : World} (h : Below base w w') : BXc base g w w' := ⟨h.os, h.tape, h.output, h.size, fun k hk _ => h.block k hk⟩
theorem BXc.below {base g B : Nat} {w w' : World} (h : BXc base g w w') (h1 : B ≤ base) (h2 : B ≤ g) : Below B w w' := ⟨h.os, h.tape, h.output, h.size, fun k hk => h.block k (by omega) (by omega)⟩
theorem BXc.trans {base g : Nat} {a b c : World} (h : BXc base g a b) (k : BXc base g b c) : BXc base g a c := ⟨k.os.trans h.os, k.tape.trans h.tape, k.output.trans h.output, Nat.le_trans h.size k.size, fun j h1 h2 => (k.block j h1 h2).trans (h.block j h1 h2)⟩
/-- What change leaves. -/
def ChP (base g : Nat) (m' : Img) (w : World) (e : Ending) (w' : World) : Prop :=
  e = .returned (.tuple #[]) ∧ ∃ pv fv lv ev, w'.heap[g]? = some (.cells #[pv, fv, lv, ev] 32 (0, 0)) ∧ IOwn w' base pv fv lv ev m' ∧ BXc base g w w' ∧ KR w w'
/-- A record of a car names one. -/
theorem car_in {b : BldD} {m : Img} {r : Rc} (hm : Img.Good b m) (hr : Rc.okB b r = true) (hk : r.kind = 4 ∨ r.kind = 5 ∨ r.kind = 6) : ∃ a : Nat, r.car = (a : Int) ∧ a < m.ph.length ∧ a < m.fl.length ∧ a < m.lv.length := by
  have h : 0 ≤ r.car ∧ r.car ≤ b.cars.length - 1 := by
    unfold Rc.okB at hr
    rw [if_neg (by omega), if_neg (by omega)] at hr
    rcases hk with hk | hk
    · rw [if_pos hk] at hr
      have h2 := (Bool.and_eq_true _ _ ▸ hr).2
      simp [Rc.fitB] at h2
      omega
    · rw [if_neg (by omega), if_pos hk] at hr
      have h2 := (Bool.and_eq_true _ _ ▸ hr).2
      simp [Rc.fitB] at h2
      omega
  have h1 := hm.ph
  have h2 := hm.fl
  have h3 := hm.lv
  exact ⟨r.car.toNat, by omega, by omega, by omega, by omega⟩

set_option maxRecDepth 100000 in
set_option maxHeartbeats 4000000 in
theorem change4_any (base g : Nat) (pv fv lv ev : Value) (m : Img) (f d va : Int) (a : Nat) (w : World) (hg : w.heap[g]? = some (.cells #[pv, fv, lv, ev] 32 (0, 0))) (h : IOwn w base pv fv lv ev m) (hbase : base ≤ w.heap.size) (ha : a < m.ph.length) :
    Calls Try.prog 38 #[.pointer (some ⟨g, 0, none⟩), (Rc.agg ⟨4, f, d, a, va⟩)] w (ChP base g { m with ph := m.ph.set a va } w) := by
  have hgl : g < w.heap.size := (Array.getElem?_eq_some_iff.1 hg).1
  have ho := h.p
  obtain ⟨p, c, hvv, hbp, hpl⟩ := ho.form (by omega)
  rw [hvv] at ho
  have h1 : Below w.heap.size w (w.alloc (.cells #[.int .i64 4, .int .i64 f, .int .i64 d, .int .i64 a, .int .i64 va] 41)) := (Below.refl _ _).alloc (Nat.le_refl _) _
  have H := h.below h1
  have ho1 := own_of_blocks ho fun j _ hj => h1.block j hj
  have hc := ho1.cellAt a (by omega)
  have hf := ho1.frozenAt a
  have hst := ho1.stored a (.int .i64 va)
  rw [nums_set] at hst
  have hgb : ∀ k, (some p : Option Nat) = some k → g ≠ k := fun k hk e => own_not ho (e' := 32) hg (by decide) (by injection hk with hk; rw [← e] at hk; rw [← hk]; rfl)
  have hnp : p ≠ g := fun e => hgb p rfl e.symm
  have hg1 : (w.alloc (.cells #[.int .i64 4, .int .i64 f, .int .i64 d, .int .i64 a, .int .i64 va] 41)).heap[g]? = some (.cells #[pv, fv, lv, ev] 32 (0, 0)) := (h1.block g hgl).trans hg
  have HFIN : Hid (∀ W' : World, W'.heap = ((w.setCell ⟨p, a, none⟩ (.int .i64 va)).alloc (.cells #[.int .i64 4, .int .i64 f, .int .i64 d, .int .i64 a, .int .i64 va] 41)).heap → W'.os = w.os → W'.tape = w.tape → W'.output = w.output → ChP base g { m with ph := m.ph.set a va } w (.returned (.tuple #[])) W') := by
    refine Lib.hid fun W' e1 e2 e3 e4 => ?_
    rw [← World.setCell_alloc_past (w := w) (.cells #[.int .i64 4, .int .i64 f, .int .i64 d, .int .i64 a, .int .i64 va] 41) p a (.int .i64 va) hpl] at e1
    have hgr : (w.alloc (.cells #[.int .i64 4, .int .i64 f, .int .i64 d, .int .i64 a, .int .i64 va] 41)).grownBy W' (some p) := ⟨e2, e3, e4, by rw [e1]; exact hst.2.size, fun k hk hn => by rw [e1]; exact hst.2.block k hk hn⟩
    have hown : W'.ownsRow base 3 1 (.slice (some ⟨p, 0, none⟩) m.ph.length c) m.ph.length (nums (m.ph.set a va)) := by
      obtain ⟨x1, x2⟩ := hst.1
      refine ⟨x1, ?_⟩
      rw [e1]
      exact x2
    refine ⟨rfl, pv, fv, lv, ev, (hgr.block g (Array.getElem?_eq_some_iff.1 hg1).1 (fun e => hgb g e.symm rfl)).trans hg1, ⟨?_, ?_, ?_, ?_, h.ne⟩, BXc.of ((h1.mono hbase).trans (below_grown hgr (by simp; omega) (fun k hk => by injection hk with hk; omega))), (KR.below h1).trans (KR.own (v := .slice (some ⟨p, 0, none⟩) m.ph.length c) ho1 hgr (by decide))⟩
    · rw [hvv]
      show W'.ownsRow base 3 1 _ (m.ph.set a va).length _
      rw [List.length_set]
      exact hown
    · exact own_kept H.f hgr (fun k hk hk2 => own_apart h.p h.f (by decide) k (by rw [hvv]; exact hk) hk2)
    · exact own_kept H.l hgr (fun k hk hk2 => own_apart h.p h.l (by decide) k (by rw [hvv]; exact hk) hk2)
    · exact own_kept H.e hgr (fun k hk hk2 => own_apart h.p h.e (by decide) k (by rw [hvv]; exact hk) hk2)
  obtain ⟨A1, c1, e1⟩ := own_slice h.p
  obtain ⟨A2, c2, e2⟩ := own_slice h.f
  obtain ⟨A3, c3, e3⟩ := own_slice h.l
  obtain ⟨A4, c4, e4⟩ := own_slice h.e
  obtain ⟨rfl, rfl⟩ : A1 = some ⟨p, 0, none⟩ ∧ c1 = c := by
    have := e1.symm.trans hvv
    injection this with x1 _ x3
    exact ⟨x1, x3⟩
  rw [e1, e2, e3, e4] at hg1
  obtain ⟨q0, q1, q2, q3⟩ := imRowCells hg1
  obtain ⟨z0, z1, z2, z3, z4⟩ := recRow (heap_alloc_new w (.cells #[.int .i64 4, .int .i64 f, .int .i64 d, .int .i64 a, .int .i64 va] 41))
  obtain ⟨u0, hu0⟩ : ∃ u0, (nums m.ph)[a]? = some u0 := ⟨_, List.getElem?_eq_getElem (by rw [nums_len]; omega)⟩
  rw [hu0] at hc
  have hN : m.ph.length ≤ maxLen := by
    rcases ho.2 with ⟨x1, x2⟩ | ⟨x1, x2, x3, x4, x5, x6, x7, x8, x9⟩
    · omega
    · omega
  unfold maxLen at hN
  generalize m.ph.length = n1 at *
  generalize m.fl.length = n2 at *
  generalize m.lv.length = n3 at *
  clear h1 H ho1 hst hgb hg1 hu0 ho hvv e1 e2 e3 e4 h hg
  have ha0 : (0 : Int) ≤ (a : Int) := by omega
  have hta : ((a : Int)).toNat = a := rfl
  simp only [Rc.agg]
  go_enter Try.func38, Try.ntmps38
  go_wp2_with fail
  go_region
  go_wp2_with fail
  exact bodyPost_end (results_none Try.results38 _ _ _) rfl (HFIN.out _ rfl rfl rfl rfl)
set_option maxRecDepth 100000 in
set_option maxHeartbeats 4000000 in
theorem change5_any (base g : Nat) (pv fv lv ev : Value) (m : Img) (f d va : Int) (a : Nat) (w : World) (hg : w.heap[g]? = some (.cells #[pv, fv, lv, ev] 32 (0, 0))) (h : IOwn w base pv fv lv ev m) (hbase : base ≤ w.heap.size) (ha : a < m.fl.length) :
    Calls Try.prog 38 #[.pointer (some ⟨g, 0, none⟩), (Rc.agg ⟨5, f, d, a, va⟩)] w (ChP base g { m with fl := m.fl.set a (decide (va = 1)) } w) := by
  have hgl : g < w.heap.size := (Array.getElem?_eq_some_iff.1 hg).1
  have ho := h.f
  obtain ⟨p, c, hvv, hbp, hpl⟩ := ho.form (by omega)
  rw [hvv] at ho
  have h1 : Below w.heap.size w (w.alloc (.cells #[.int .i64 5, .int .i64 f, .int .i64 d, .int .i64 a, .int .i64 va] 41)) := (Below.refl _ _).alloc (Nat.le_refl _) _
  have H := h.below h1
  have ho1 := own_of_blocks ho fun j _ hj => h1.block j hj
  have hc := ho1.cellAt a (by omega)
  have hf := ho1.frozenAt a
  have hst := ho1.stored a (.bool (va == 1))
  rw [bls_set] at hst
  have hgb : ∀ k, (some p : Option Nat) = some k → g ≠ k := fun k hk e => own_not ho (e' := 32) hg (by decide) (by injection hk with hk; rw [← e] at hk; rw [← hk]; rfl)
  have hnp : p ≠ g := fun e => hgb p rfl e.symm
  have hg1 : (w.alloc (.cells #[.int .i64 5, .int .i64 f, .int .i64 d, .int .i64 a, .int .i64 va] 41)).heap[g]? = some (.cells #[pv, fv, lv, ev] 32 (0, 0)) := (h1.block g hgl).trans hg
  have HFIN : Hid (∀ W' : World, W'.heap = ((w.setCell ⟨p, a, none⟩ (.bool (va == 1))).alloc (.cells #[.int .i64 5, .int .i64 f, .int .i64 d, .int .i64 a, .int .i64 va] 41)).heap → W'.os = w.os → W'.tape = w.tape → W'.output = w.output → ChP base g { m with fl := m.fl.set a (decide (va = 1)) } w (.returned (.tuple #[])) W') := by
    refine Lib.hid fun W' e1 e2 e3 e4 => ?_
    rw [← World.setCell_alloc_past (w := w) (.cells #[.int .i64 5, .int .i64 f, .int .i64 d, .int .i64 a, .int .i64 va] 41) p a (.bool (va == 1)) hpl] at e1
    have hgr : (w.alloc (.cells #[.int .i64 5, .int .i64 f, .int .i64 d, .int .i64 a, .int .i64 va] 41)).grownBy W' (some p) := ⟨e2, e3, e4, by rw [e1]; exact hst.2.size, fun k hk hn => by rw [e1]; exact hst.2.block k hk hn⟩
    have hown : W'.ownsRow base 4 1 (.slice (some ⟨p, 0, none⟩) m.fl.length c) m.fl.length (bls (m.fl.set a (va == 1))) := by
      obtain ⟨x1, x2⟩ := hst.1
      refine ⟨x1, ?_⟩
      rw [e1]
      exact x2
    refine ⟨rfl, pv, fv, lv, ev, (hgr.block g (Array.getElem?_eq_some_iff.1 hg1).1 (fun e => hgb g e.symm rfl)).trans hg1, ⟨?_, ?_, ?_, ?_, h.ne⟩, BXc.of ((h1.mono hbase).trans (below_grown hgr (by simp; omega) (fun k hk => by injection hk with hk; omega))), (KR.below h1).trans (KR.own (v := .slice (some ⟨p, 0, none⟩) m.fl.length c) ho1 hgr (by decide))⟩
    · exact own_kept H.p hgr (fun k hk hk2 => own_apart h.f h.p (by decide) k (by rw [hvv]; exact hk) hk2)
    · rw [hvv]
      show W'.ownsRow base 4 1 _ (m.fl.set a (decide (va = 1))).length _
      rw [List.length_set]
      exact hown
    · exact own_kept H.l hgr (fun k hk hk2 => h.ne k (by rw [hvv]; exact hk) hk2)
    · exact own_kept H.e hgr (fun k hk hk2 => own_apart h.f h.e (by decide) k (by rw [hvv]; exact hk) hk2)
  obtain ⟨A1, c1, e1⟩ := own_slice h.p
  obtain ⟨A2, c2, e2⟩ := own_slice h.f
  obtain ⟨A3, c3, e3⟩ := own_slice h.l
  obtain ⟨A4, c4, e4⟩ := own_slice h.e
  obtain ⟨rfl, rfl⟩ : A2 = some ⟨p, 0, none⟩ ∧ c2 = c := by
    have := e2.symm.trans hvv
    injection this with x1 _ x3
    exact ⟨x1, x3⟩
  rw [e1, e2, e3, e4] at hg1
  obtain ⟨q0, q1, q2, q3⟩ := imRowCells hg1
  obtain ⟨z0, z1, z2, z3, z4⟩ := recRow (heap_alloc_new w (.cells #[.int .i64 5, .int .i64 f, .int .i64 d, .int .i64 a, .int .i64 va] 41))
  obtain ⟨u0, hu0⟩ : ∃ u0, (bls m.fl)[a]? = some u0 := ⟨_, List.getElem?_eq_getElem (by rw [bls_len]; omega)⟩
  rw [hu0] at hc
  have hN : m.fl.length ≤ maxLen := by
    rcases ho.2 with ⟨x1, x2⟩ | ⟨x1, x2, x3, x4, x5, x6, x7, x8, x9⟩
    · omega
    · omega
  unfold maxLen at hN
  generalize m.ph.length = n1 at *
  generalize m.fl.length = n2 at *
  generalize m.lv.length = n3 at *
  clear h1 H ho1 hst hgb hg1 hu0 ho hvv e1 e2 e3 e4 h hg
  have ha0 : (0 : Int) ≤ (a : Int) := by omega
  have hta : ((a : Int)).toNat = a := rfl
  simp only [Rc.agg]
  go_enter Try.func38, Try.ntmps38
  go_wp2_with fail
  go_region
  go_wp2_with fail
  exact bodyPost_end (results_none Try.results38 _ _ _) rfl (HFIN.out _ rfl rfl rfl rfl)
set_option maxRecDepth 100000 in
set_option maxHeartbeats 4000000 in
theorem change6_any (base g : Nat) (pv fv lv ev : Value) (m : Img) (f d va : Int) (a : Nat) (w : World) (hg : w.heap[g]? = some (.cells #[pv, fv, lv, ev] 32 (0, 0))) (h : IOwn w base pv fv lv ev m) (hbase : base ≤ w.heap.size) (ha : a < m.lv.length) :
    Calls Try.prog 38 #[.pointer (some ⟨g, 0, none⟩), (Rc.agg ⟨6, f, d, a, va⟩)] w (ChP base g { m with lv := m.lv.set a (decide (va = 1)) } w) := by
  have hgl : g < w.heap.size := (Array.getElem?_eq_some_iff.1 hg).1
  have ho := h.l
  obtain ⟨p, c, hvv, hbp, hpl⟩ := ho.form (by omega)
  rw [hvv] at ho
  have h1 : Below w.heap.size w (w.alloc (.cells #[.int .i64 6, .int .i64 f, .int .i64 d, .int .i64 a, .int .i64 va] 41)) := (Below.refl _ _).alloc (Nat.le_refl _) _
  have H := h.below h1
  have ho1 := own_of_blocks ho fun j _ hj => h1.block j hj
  have hc := ho1.cellAt a (by omega)
  have hf := ho1.frozenAt a
  have hst := ho1.stored a (.bool (va == 1))
  rw [bls_set] at hst
  have hgb : ∀ k, (some p : Option Nat) = some k → g ≠ k := fun k hk e => own_not ho (e' := 32) hg (by decide) (by injection hk with hk; rw [← e] at hk; rw [← hk]; rfl)
  have hnp : p ≠ g := fun e => hgb p rfl e.symm
  have hg1 : (w.alloc (.cells #[.int .i64 6, .int .i64 f, .int .i64 d, .int .i64 a, .int .i64 va] 41)).heap[g]? = some (.cells #[pv, fv, lv, ev] 32 (0, 0)) := (h1.block g hgl).trans hg
  have HFIN : Hid (∀ W' : World, W'.heap = ((w.setCell ⟨p, a, none⟩ (.bool (va == 1))).alloc (.cells #[.int .i64 6, .int .i64 f, .int .i64 d, .int .i64 a, .int .i64 va] 41)).heap → W'.os = w.os → W'.tape = w.tape → W'.output = w.output → ChP base g { m with lv := m.lv.set a (decide (va = 1)) } w (.returned (.tuple #[])) W') := by
    refine Lib.hid fun W' e1 e2 e3 e4 => ?_
    rw [← World.setCell_alloc_past (w := w) (.cells #[.int .i64 6, .int .i64 f, .int .i64 d, .int .i64 a, .int .i64 va] 41) p a (.bool (va == 1)) hpl] at e1
    have hgr : (w.alloc (.cells #[.int .i64 6, .int .i64 f, .int .i64 d, .int .i64 a, .int .i64 va] 41)).grownBy W' (some p) := ⟨e2, e3, e4, by rw [e1]; exact hst.2.size, fun k hk hn => by rw [e1]; exact hst.2.block k hk hn⟩
    have hown : W'.ownsRow base 4 1 (.slice (some ⟨p, 0, none⟩) m.lv.length c) m.lv.length (bls (m.lv.set a (va == 1))) := by
      obtain ⟨x1, x2⟩ := hst.1
      refine ⟨x1, ?_⟩
      rw [e1]
      exact x2
    refine ⟨rfl, pv, fv, lv, ev, (hgr.block g (Array.getElem?_eq_some_iff.1 hg1).1 (fun e => hgb g e.symm rfl)).trans hg1, ⟨?_, ?_, ?_, ?_, h.ne⟩, BXc.of ((h1.mono hbase).trans (below_grown hgr (by simp; omega) (fun k hk => by injection hk with hk; omega))), (KR.below h1).trans (KR.own (v := .slice (some ⟨p, 0, none⟩) m.lv.length c) ho1 hgr (by decide))⟩
    · exact own_kept H.p hgr (fun k hk hk2 => own_apart h.l h.p (by decide) k (by rw [hvv]; exact hk) hk2)
    · exact own_kept H.f hgr (fun k hk hk2 => h.ne k hk2 (by rw [hvv]; exact hk))
    · rw [hvv]
      show W'.ownsRow base 4 1 _ (m.lv.set a (decide (va = 1))).length _
      rw [List.length_set]
      exact hown
    · exact own_kept H.e hgr (fun k hk hk2 => own_apart h.l h.e (by decide) k (by rw [hvv]; exact hk) hk2)
  obtain ⟨A1, c1, e1⟩ := own_slice h.p
  obtain ⟨A2, c2, e2⟩ := own_slice h.f
  obtain ⟨A3, c3, e3⟩ := own_slice h.l
  obtain ⟨A4, c4, e4⟩ := own_slice h.e
  obtain ⟨rfl, rfl⟩ : A3 = some ⟨p, 0, none⟩ ∧ c3 = c := by
    have := e3.symm.trans hvv
    injection this with x1 _ x3
    exact ⟨x1, x3⟩
  rw [e1, e2, e3, e4] at hg1
  obtain ⟨q0, q1, q2, q3⟩ := imRowCells hg1
  obtain ⟨z0, z1, z2, z3, z4⟩ := recRow (heap_alloc_new w (.cells #[.int .i64 6, .int .i64 f, .int .i64 d, .int .i64 a, .int .i64 va] 41))
  obtain ⟨u0, hu0⟩ : ∃ u0, (bls m.lv)[a]? = some u0 := ⟨_, List.getElem?_eq_getElem (by rw [bls_len]; omega)⟩
  rw [hu0] at hc
  have hN : m.lv.length ≤ maxLen := by
    rcases ho.2 with ⟨x1, x2⟩ | ⟨x1, x2, x3, x4, x5, x6, x7, x8, x9⟩
    · omega
    · omega
  unfold maxLen at hN
  generalize m.ph.length = n1 at *
  generalize m.fl.length = n2 at *
  generalize m.lv.length = n3 at *
  clear h1 H ho1 hst hgb hg1 hu0 ho hvv e1 e2 e3 e4 h hg
  have ha0 : (0 : Int) ≤ (a : Int) := by omega
  have hta : ((a : Int)).toNat = a := rfl
  simp only [Rc.agg]
  go_enter Try.func38, Try.ntmps38
  go_wp2_with fail
  go_region
  go_wp2_with fail
  exact bodyPost_end (results_none Try.results38 _ _ _) rfl (HFIN.out _ rfl rfl rfl rfl)
end

section
open Go.RowKit Lg Img

set_option maxRecDepth 100000 in
set_option maxHeartbeats 8000000 in
theorem changeE_any (base g : Nat) (pv fv lv ev : Value) (m : Img) (k f d ca va : Int) (w : World) (hg : w.heap[g]? = some (.cells #[pv, fv, lv, ev] 32 (0, 0))) (h : IOwn w base pv fv lv ev m) (hbase : base ≤ w.heap.size) (hs : Srt m.en) (hl : m.en.length ≤ 1000000) (h4 : k ≠ 4) (h5 : k ≠ 5) (h6 : k ≠ 6) :
    Calls Try.prog 38 #[.pointer (some ⟨g, 0, none⟩), (Rc.agg ⟨k, f, d, ca, va⟩)] w (ChP base g { m with en := applyE m.en ⟨k, f, d, ca, va⟩ } w) := by
  have hgl : g < w.heap.size := (Array.getElem?_eq_some_iff.1 hg).1
  have h1 : Below w.heap.size w (w.alloc (.cells #[.int .i64 k, .int .i64 f, .int .i64 d, .int .i64 ca, .int .i64 va] 41)) := (Below.refl _ _).alloc (Nat.le_refl _) _
  have H := h.below h1
  have hg1 : (w.alloc (.cells #[.int .i64 k, .int .i64 f, .int .i64 d, .int .i64 ca, .int .i64 va] 41)).heap[g]? = some (.cells #[pv, fv, lv, ev] 32 (0, 0)) := (h1.block g hgl).trans hg
  have FC := Lib.hid (fun (wx : World) (hb : Below (w.alloc (.cells #[.int .i64 k, .int .i64 f, .int .i64 d, .int .i64 ca, .int .i64 va] 41)).heap.size (w.alloc (.cells #[.int .i64 k, .int .i64 f, .int .i64 d, .int .i64 ca, .int .i64 va] 41)) wx) =>
    changed_any base m.en ⟨k, f, d, ca, va⟩ ev wx hs hl (own_of_blocks H.e fun j _ hj => hb.block j hj) (by have := hb.size; simp at this; omega))
  have hne : ev.ownBlock ≠ some g := own_not H.e hg1 (by decide)
  have HFIN : Hid (∀ (w5 : World) (v : Value), (w.alloc (.cells #[.int .i64 k, .int .i64 f, .int .i64 d, .int .i64 ca, .int .i64 va] 41)).grownBy w5 ev.ownBlock → w5.ownsRow base 71 5 v (applyE m.en ⟨k, f, d, ca, va⟩).length (flatE (applyE m.en ⟨k, f, d, ca, va⟩)) → ChP base g { m with en := applyE m.en ⟨k, f, d, ca, va⟩ } w (.returned (.tuple #[])) (w5.setCell ⟨g, 3, none⟩ v)) := by
    refine Lib.hid fun w5 v hgr hv => ?_
    have hg5 : w5.heap[g]? = some (.cells #[pv, fv, lv, ev] 32 (0, 0)) := (hgr.block g (Array.getElem?_eq_some_iff.1 hg1).1 (fun e => hne e.symm)).trans hg1
    have hst : w5.grownBy (w5.setCell ⟨g, 3, none⟩ v) (some g) := ⟨rfl, rfl, rfl, by simp [World.setCell], fun j _ hn => Below.heap_setCell _ _ _ _ (fun e => hn (by rw [e]))⟩
    have o1 := own_kept H.p hgr (fun k hk hk2 => own_apart H.e H.p (by decide) k hk hk2)
    have o2 := own_kept H.f hgr (fun k hk hk2 => own_apart H.e H.f (by decide) k hk hk2)
    have o3 := own_kept H.l hgr (fun k hk hk2 => own_apart H.e H.l (by decide) k hk hk2)
    refine ⟨rfl, pv, fv, lv, v, ?_, ⟨own_kept o1 hst (fun k hk hk2 => own_not o1 hg5 (by decide) (by rw [hk2, hk])), own_kept o2 hst (fun k hk hk2 => own_not o2 hg5 (by decide) (by rw [hk2, hk])), own_kept o3 hst (fun k hk hk2 => own_not o3 hg5 (by decide) (by rw [hk2, hk])), own_kept hv hst (fun k hk hk2 => own_not hv hg5 (by decide) (by rw [hk2, hk])), h.ne⟩, ?_, ?_⟩
    · exact heap_setCell_same w5 g 3 #[pv, fv, lv, ev] 32 v hg5
    · have hb5 : Below base w w5 := (h1.mono hbase).trans (below_grown hgr (by simp; omega) (fun k hk => (H.e.lt k hk).1))
      exact (BXc.of hb5).trans ⟨rfl, rfl, rfl, by simp [World.setCell], fun k _ hk => Below.heap_setCell _ _ _ _ hk⟩
    · exact ((KR.below h1).trans (KR.own H.e hgr (by decide))).trans (KR.grown hst fun k hk => by
        injection hk with hk
        exact ⟨_, _, _, by rw [← hk]; exact hg5, by decide⟩)
  obtain ⟨A1, c1, e1⟩ := own_slice h.p
  obtain ⟨A2, c2, e2⟩ := own_slice h.f
  obtain ⟨A3, c3, e3⟩ := own_slice h.l
  obtain ⟨A4, c4, e4⟩ := own_slice h.e
  rw [e4] at hne
  rw [e1, e2, e3, e4] at hg1
  rw [e4] at HFIN FC
  have hb4 : (k == 4) = false := by simp [h4]
  have hb5 : (k == 5) = false := by simp [h5]
  have hb6 : (k == 6) = false := by simp [h6]
  have HG1 := Lib.hid hg1
  have HNE := Lib.hid (fun e : (Value.slice A4 m.en.length c4).ownBlock = some g => hne e)
  have HGL := Lib.hid (Array.getElem?_eq_some_iff.1 hg1).1
  generalize (applyE m.en ⟨k, f, d, ca, va⟩).length = n' at *
  generalize flatE (applyE m.en ⟨k, f, d, ca, va⟩) = xs' at *
  generalize ChP base g { m with en := applyE m.en ⟨k, f, d, ca, va⟩ } w = PP at *
  generalize m.ph.length = n1 at *
  generalize m.fl.length = n2 at *
  generalize m.lv.length = n3 at *
  generalize m.en.length = n4 at *
  clear h1 H hg1 e1 e2 e3 e4 h hg hne hs h4 h5 h6
  simp only [Rc.agg] at FC ⊢
  go_enter Try.func38, Try.ntmps38
  go_wp2_with fail
  refine GhostV.ghost (fun γ L wx => CS ((w.alloc (.cells #[.int .i64 k, .int .i64 f, .int .i64 d, .int .i64 ca, .int .i64 va] 41))) [4, 5] 6 9 (fun w' v => (w.alloc (.cells #[.int .i64 k, .int .i64 f, .int .i64 d, .int .i64 ca, .int .i64 va] 41)).grownBy w' (Value.slice A4 n4 c4).ownBlock ∧ w'.ownsRow base 71 5 v n' xs') (fun w' v => ∃ w5 : World, ((w.alloc (.cells #[.int .i64 k, .int .i64 f, .int .i64 d, .int .i64 ca, .int .i64 va] 41)).grownBy w5 (Value.slice A4 n4 c4).ownBlock ∧ w5.ownsRow base 71 5 v n' xs') ∧ w' = w5.setCell ⟨g, 3, none⟩ v) γ L wx) (by kernel_rfl) (by kernel_rfl) (fun γ => CS.start γ) ?_
  apply GhostV.walk_const (fun γ => by rfl)
  · intro γ L wx h1 h2 hx K hK
    have HK2 := Lib.hid hK
    have HX := Lib.hid hx
    clear hK h1 h2 hx
    go_simp
    exact HK2.out _ (HX.out.next _ (by decide) (by decide))
  try simp only [Act.put, List.setIfInBounds_toArray, List.set_cons_succ, List.set_cons_zero]
  apply GhostV.walk_const (fun γ => by rfl)
  · intro γ L wx h1 h2 hx K hK
    have HK2 := Lib.hid hK
    have HX := Lib.hid hx
    clear hK h1 h2 hx
    go_simp
    exact HK2.out _ (HX.out.next _ (by decide) (by decide))
  try simp only [Act.put, List.setIfInBounds_toArray, List.set_cons_succ, List.set_cons_zero]
  apply GhostV.walk_const (fun γ => by rfl)
  · intro γ L wx h1 h2 hx K hK
    have HK2 := Lib.hid hK
    have HX := Lib.hid hx
    clear hK h1 h2 hx
    go_simp
    exact HK2.out _ (HX.out.next _ (by decide) (by decide))
  try simp only [Act.put, List.setIfInBounds_toArray, List.set_cons_succ, List.set_cons_zero]
  apply GhostV.walk_const (fun γ => by rfl)
  · intro γ L wx h1 h2 hx K hK
    have HK2 := Lib.hid hK
    have HX := Lib.hid hx
    clear hK h1 h2 hx
    go_simp
    exact HK2.out _ (HX.out.next _ (by decide) (by decide))
  try simp only [Act.put, List.setIfInBounds_toArray, List.set_cons_succ, List.set_cons_zero]
  apply GhostV.walk_const (fun γ => by rfl)
  · intro γ L wx h1 h2 hx K hK
    have hb := hx.early (by decide) h1
    obtain ⟨z0, z1, z2, z3, z4⟩ := recRow (box1 hb)
    obtain ⟨q0, q1, q2, q3⟩ := imRowCells ((hb.block g HGL.out).trans HG1.out)
    have HB := Lib.hid hb
    have H1 := Lib.hid h1
    have HK2 := Lib.hid hK
    have HX := Lib.hid hx
    clear hK h1 h2 hx hb
    go_simp
    first
      | exact HK2.out _ (HX.out.next _ (by decide) (by decide))
  try simp only [Act.put, List.setIfInBounds_toArray, List.set_cons_succ, List.set_cons_zero]
  apply GhostV.walk_const (fun γ => by rfl)
  · intro γ L wx h1 h2 hx K hK
    have hb := hx.early (by decide) h1
    obtain ⟨z0, z1, z2, z3, z4⟩ := recRow (box1 hb)
    obtain ⟨q0, q1, q2, q3⟩ := imRowCells ((hb.block g HGL.out).trans HG1.out)
    have HB := Lib.hid hb
    have H1 := Lib.hid h1
    have HK2 := Lib.hid hK
    have HX := Lib.hid hx
    clear hK h1 h2 hx hb
    go_simp
    first
      | exact HK2.out _ (HX.out.next _ (by decide) (by decide))
  try simp only [Act.put, List.setIfInBounds_toArray, List.set_cons_succ, List.set_cons_zero]
  refine GhostV.walk_yes (fun b => b) (fun γ => by rfl) ?_ ?_
  · intro γ L wx h1 h2 hx K hK
    have hb := hx.pre h1
    obtain ⟨z0, z1, z2, z3, z4⟩ := recRow (box1 hb)
    obtain ⟨q0, q1, q2, q3⟩ := imRowCells ((hb.block g HGL.out).trans HG1.out)
    have HB := Lib.hid hb
    have HALL : Hid (∀ i ∈ ([4, 5] : List Nat), L i = true) := by
      refine Lib.hid ?_
      simp only [List.mem_cons, List.not_mem_nil, or_false]
      rintro i (rfl | rfl)
      · exact h2 4 (by kernel_rfl)
      · exact h2 5 (by kernel_rfl)
    have H1 := Lib.hid h1
    have HK2 := Lib.hid hK
    have HX := Lib.hid hx
    clear hK h1 h2 hx hb
    go_simp
    (go_at_call 66; refine (FC.out wx HB.out).mono ?_; rintro e w' ⟨v', rfl, h1, h2⟩; exact HK2.out v' _ (HX.out.call H1.out (by decide) (by decide) HALL.out ⟨grown_trans (grown_below HB.out _) h2, h1⟩))
  try simp only [Act.put, List.setIfInBounds_toArray, List.set_cons_succ, List.set_cons_zero]
  apply GhostV.walk_const (fun γ => by rfl)
  · intro γ L wx h1 h2 hx K hK
    have HK2 := Lib.hid hK
    have HX := Lib.hid hx
    clear hK h1 h2 hx
    go_simp
    exact HK2.out _ (HX.out.next _ (by decide) (by decide))
  try simp only [Act.put, List.setIfInBounds_toArray, List.set_cons_succ, List.set_cons_zero]
  apply GhostV.walk_const (fun γ => by rfl)
  · intro γ L wx h1 h2 hx K hK
    have HK2 := Lib.hid hK
    have HX := Lib.hid hx
    clear hK h1 h2 hx
    go_simp
    exact HK2.out _ (HX.out.next _ (by decide) (by decide))
  try simp only [Act.put, List.setIfInBounds_toArray, List.set_cons_succ, List.set_cons_zero]
  refine GhostV.walk_const (v := undef) (fun γ => by rfl) ?_ ?_
  · intro γ L wx h1 h2 hx K hK
    have hcc : L 6 = true := h2 6 (by kernel_rfl)
    have hpc := hx.mid hcc h1
    obtain ⟨A6, c6, e6⟩ := own_slice hpc.2
    have hgx := (hpc.1.block g HGL.out (fun e => HNE.out e.symm)).trans HG1.out
    obtain ⟨q0, q1, q2, q3⟩ := imRowCells hgx
    have f3 := frozen_of_row wx g 3 _ _ hgx
    have E6 := Lib.hid e6
    simp only [e6] at hK ⊢
    clear e6 hgx
    have HC := Lib.hid hcc
    have HPC := Lib.hid hpc
    have HK2 := Lib.hid hK
    have HX := Lib.hid hx
    clear hK h1 h2 hx hcc hpc
    go_simp
    (exact HK2.out _ (HX.out.store _ HC.out (by decide) (by decide) ⟨wx, HPC.out, by rw [E6.out]⟩))
  try simp only [Act.put]
  refine GhostV.walk_nil (fun γ L w4 hall hx => ?_)
  obtain ⟨w5, ⟨hp1, hp2⟩, rfl⟩ := hx.fin (hall 9 (by decide))
  have HF := Lib.hid (HFIN.out w5 (γ 6) hp1 hp2)
  clear hx hall hp1 hp2
  simp only [Nat.zero_add, Nat.reduceAdd] at HF ⊢
  go_wp2_with fail
  exact bodyPost_end (results_none Try.results38 _ _ _) rfl HF.out
/-- A valid record. -/
theorem change_any (base g : Nat) (pv fv lv ev : Value) (b : BldD) (m : Img) (r : Rc) (w : World) (hg : w.heap[g]? = some (.cells #[pv, fv, lv, ev] 32 (0, 0))) (h : IOwn w base pv fv lv ev m) (hbase : base ≤ w.heap.size) (hm : Img.Good b m) (hr : Rc.okB b r = true) (hl : m.en.length ≤ 1000000) :
    Calls Try.prog 38 #[.pointer (some ⟨g, 0, none⟩), r.agg] w (ChP base g (applyM m r) w) := by
  obtain ⟨k, f, d, ca, va⟩ := r
  unfold applyM
  by_cases h4 : k = 4
  · obtain ⟨a, ha, h1, h2, h3⟩ := car_in hm hr (.inl h4)
    subst h4
    simp only at ha
    subst ha
    exact change4_any base g pv fv lv ev m f d va a w hg h hbase h1
  by_cases h5 : k = 5
  · obtain ⟨a, ha, h1, h2, h3⟩ := car_in hm hr (.inr (.inl h5))
    subst h5
    simp only at ha
    subst ha
    exact change5_any base g pv fv lv ev m f d va a w hg h hbase h2
  by_cases h6 : k = 6
  · obtain ⟨a, ha, h1, h2, h3⟩ := car_in hm hr (.inr (.inr h6))
    subst h6
    simp only at ha
    subst ha
    exact change6_any base g pv fv lv ev m f d va a w hg h hbase h3
  simp only [h4, h5, h6, if_false]
  exact changeE_any base g pv fv lv ev m k f d ca va w hg h hbase hm.srt hl h4 h5 h6
end

section
open Go.RowKit Lg Img

theorem resultsI {fn : Func} {p u : Tmp} (h : fn.results = #[.cell p 32, .tmp u]) (tmps : Array Value) (w1 : World) (b : Nat) (c0 c1 c2 c3 m : Value)
    (hp : tmps.getD p undef = .pointer (some ⟨b, 0, none⟩)) (hu : tmps.getD u undef = m) (hr : w1.heap[b]? = some (.cells #[c0, c1, c2, c3] 32 (0, 0))) :
    (results fn tmps).run Try.prog w1 = .ok (.tuple #[.agg #[c0, c1, c2, c3], m]) w1 := by
  have hp' : tmps[p]?.getD undef = .pointer (some ⟨b, 0, none⟩) := by simpa using hp
  have hu' : tmps[u]?.getD undef = m := by simpa using hu
  have k0 : w1.cell? ⟨b, 0, none⟩ = some c0 := cell_of_row _ _ _ _ _ (0, 0) hr
  have k1 : w1.cell? ⟨b, 1, none⟩ = some c1 := cell_of_row _ _ _ _ _ (0, 0) hr
  have k2 : w1.cell? ⟨b, 2, none⟩ = some c2 := cell_of_row _ _ _ _ _ (0, 0) hr
  have k3 : w1.cell? ⟨b, 3, none⟩ = some c3 := cell_of_row _ _ _ _ _ (0, 0) hr
  simp [results, h, hp', hu', go_sem, asAddr, k0, k1, k2, k3]
/-- Four boxes made. -/
theorem boxes4 {w wx : World} {A B C D : Obj} (h : Below (w.heap.size + 4) ((((w.alloc A).alloc B).alloc C).alloc D) wx) : wx.heap[w.heap.size]? = some A ∧ wx.heap[w.heap.size + 1]? = some B ∧ wx.heap[w.heap.size + 2]? = some C ∧ wx.heap[w.heap.size + 3]? = some D := by
  have e1 := heap_alloc_new w A
  have e2 : ((w.alloc A).alloc B).heap[w.heap.size + 1]? = some B := by
    have := heap_alloc_new (w.alloc A) B
    simpa using this
  have e3 : (((w.alloc A).alloc B).alloc C).heap[w.heap.size + 2]? = some C := by
    have := heap_alloc_new ((w.alloc A).alloc B) C
    simpa using this
  have e4 : ((((w.alloc A).alloc B).alloc C).alloc D).heap[w.heap.size + 3]? = some D := by
    have := heap_alloc_new (((w.alloc A).alloc B).alloc C) D
    simpa using this
  have a2 := fun o k (hk : k < w.heap.size + 1) => Below.heap_alloc (w.alloc A) o k (by simpa using hk)
  have a3 := fun o k (hk : k < w.heap.size + 2) => Below.heap_alloc ((w.alloc A).alloc B) o k (by simpa using hk)
  have a4 := fun o k (hk : k < w.heap.size + 3) => Below.heap_alloc (((w.alloc A).alloc B).alloc C) o k (by simpa using hk)
  exact ⟨(h.block _ (by omega)).trans ((a4 _ _ (by omega)).trans ((a3 _ _ (by omega)).trans ((a2 _ _ (by omega)).trans e1))), (h.block _ (by omega)).trans ((a4 _ _ (by omega)).trans ((a3 _ _ (by omega)).trans e2)), (h.block _ (by omega)).trans ((a4 _ _ (by omega)).trans e3), (h.block _ (by omega)).trans e4⟩
theorem below4 {w wx : World} {A B C D : Obj} (h : Below (w.heap.size + 4) ((((w.alloc A).alloc B).alloc C).alloc D) wx) : Below w.heap.size w wx :=
  (((((Below.refl w.heap.size w).alloc (Nat.le_refl _) A).alloc (by simp) B).alloc (by simp; omega) C).alloc (by simp; omega) D).trans (h.mono (by omega))
theorem size4 (w : World) (A B C D : Obj) : ((((w.alloc A).alloc B).alloc C).alloc D).heap.size = w.heap.size + 4 := by simp
/-- A block below the rows is written. -/
theorem IOwn.grown {w w' : World} {base k : Nat} {pv fv lv ev : Value} {m : Img} (h : IOwn w base pv fv lv ev m) (hg : w.grownBy w' (some k)) (hk : k < base) : IOwn w' base pv fv lv ev m := by
  have H : ∀ {e : TypeId} {s : Nat} {v : Value} {n : Nat} {xs : List Value}, w.ownsRow base e s v n xs → w'.ownsRow base e s v n xs := fun ho => own_kept ho hg (fun j hj hj2 => by
    injection hj with hj
    have := (ho.lt j hj2).1
    omega)
  exact ⟨H h.p, H h.f, H h.l, H h.e, h.ne⟩
def zeroIm : Array Value := #[.slice none 0 0, .slice none 0 0, .slice none 0 0, .slice none 0 0]
/-- The bounds of a list. -/
structure Few (m : Img) : Prop where
  p : m.ph.length ≤ 1000000
  f : m.fl.length ≤ 1000000
  l : m.lv.length ≤ 1000000
  e : m.en.length ≤ 1000000

set_option maxRecDepth 100000 in
set_option maxHeartbeats 4000000 in
theorem applyBad_any (b : BldD) (A : Option Addr) (cap : Nat) (pv fv lv ev : Value) (m : Img) (r : Rc) (w : World) (hn : b.cars.length ≤ 140737488355328) (hc : CarsAt w w.heap.size A b.cars) (h : ImV w pv fv lv ev m) (hw : Few m) (hbad : (Img.isB b m && Rc.okB b r) = false) :
    Calls Try.prog 12 #[b.agg A cap, .agg #[pv, fv, lv, ev], r.agg] w fun e w' => e = .returned (.tuple #[.agg zeroIm, .int .i64 1]) ∧ Below w.heap.size w w' := by
  have FI := Lib.hid (fun wx (hb : Below w.heap.size w wx) => isImage_any b A cap pv fv lv ev m wx hn ((hc.below hb).more hb.size) (h.below hb) hw.p hw.e)
  have FV := Lib.hid (fun wx (hb : Below w.heap.size w wx) => valid9_any b A cap r wx hn ((hc.below hb).more hb.size))
  obtain ⟨⟨A1, c1, rfl, -⟩, ⟨A2, c2, rfl, -⟩, ⟨A3, c3, rfl, -⟩, ⟨A4, c4, rfl, -⟩⟩ := h
  generalize Img.isB b m = I at *
  generalize Rc.okB b r = R at *
  generalize (nums m.ph).length = n1 at *
  generalize (bls m.fl).length = n2 at *
  generalize (bls m.lv).length = n3 at *
  generalize m.en.length = n4 at *
  obtain ⟨f, d, rr, p, e1, e2, e3, cs⟩ := b
  obtain ⟨x1, x2, x3, x4, x5⟩ := r
  simp only [BldD.agg, Rc.agg, zeroIm] at *
  clear hc hn hw
  cases I
  case false =>
    clear hbad
    go_enter Try.func12, Try.ntmps12
    go_wp2_with fail
    refine (FI.out _ (by go_grown)).mono ?_
    rintro e w1 ⟨rfl, hb⟩
    rw [size4] at hb
    obtain ⟨-, -, -, r4⟩ := boxes4 hb
    have HB := Lib.hid (below4 hb)
    have hz := hb.size
    simp at hz
    clear hb
    go_wp2_with (with_reducible show wpList _ _ _ (Oper.mk _ (.store 32 _ _) _ _ _ _ :: _) _ _; refine wpList_put rfl 32 _ _ rfl (w.heap.size + 3) #[.slice none 0 0, .slice none 0 0, .slice none 0 0, .slice none 0 0] _ 32 rfl rfl r4 (by kernel_rfl) rfl (by kernel_rfl) ?_; intro w2 hr hg)
    exact bodyPost_ret (resultsI Try.results12 _ _ _ _ _ _ _ _ rfl rfl hr.out) rfl ⟨rfl, HB.out.trans (below_grown hg.out (by omega) (fun k hk => by injection hk with hk; omega))⟩
  case true =>
    obtain rfl : R = false := by simpa using hbad
    clear hbad
    go_enter Try.func12, Try.ntmps12
    go_wp2_with fail
    refine (FI.out _ (by go_grown)).mono ?_
    rintro e w1 ⟨rfl, hb⟩
    rw [size4] at hb
    obtain ⟨r1, -, r3, r4⟩ := boxes4 hb
    obtain ⟨k0, k1, k2, k3, k4, k5, k6, k7⟩ := boxRow r1
    obtain ⟨z0, z1, z2, z3, z4⟩ := recRow r3
    have HB := Lib.hid (below4 hb)
    have HR4 := Lib.hid r4
    have hz := hb.size
    simp at hz
    clear hb r1 r3 r4
    go_wp2_with fail
    refine (FV.out _ HB.out).mono ?_
    rintro e w2 ⟨rfl, hb2⟩
    have r4 := (hb2.block _ (by omega)).trans HR4.out
    have HB2 := Lib.hid (HB.out.trans (hb2.mono (by omega)))
    have hz2 := hb2.size
    clear hb2 k0 k1 k2 k3 k4 k5 k6 k7 z0 z1 z2 z3 z4
    go_wp2_with (with_reducible show wpList _ _ _ (Oper.mk _ (.store 32 _ _) _ _ _ _ :: _) _ _; refine wpList_put rfl 32 _ _ rfl (w.heap.size + 3) #[.slice none 0 0, .slice none 0 0, .slice none 0 0, .slice none 0 0] _ 32 rfl rfl r4 (by kernel_rfl) rfl (by kernel_rfl) ?_; intro w3 hr hg)
    exact bodyPost_ret (resultsI Try.results12 _ _ _ _ _ _ _ _ rfl rfl hr.out) rfl ⟨rfl, HB2.out.trans (below_grown hg.out (by omega) (fun k hk => by injection hk with hk; omega))⟩

set_option maxRecDepth 100000 in
set_option maxHeartbeats 4000000 in
theorem applyGood_any (b : BldD) (A : Option Addr) (cap : Nat) (pv fv lv ev : Value) (m : Img) (r : Rc) (w : World) (hc : CarsAt w w.heap.size A b.cars) (h : ImV w pv fv lv ev m) (he : m.en.length ≤ 1000000) (hg : Img.Good b m) (hok : Rc.okB b r = true) :
    Calls Try.prog 12 #[b.agg A cap, .agg #[pv, fv, lv, ev], r.agg] w fun e w' => ∃ pv' fv' lv' ev', e = .returned (.tuple #[.agg #[pv', fv', lv', ev'], .int .i64 0]) ∧ IOwn w' w.heap.size pv' fv' lv' ev' (applyM m r) ∧ Below w.heap.size w w' := by
  have hC := (fine_of hg.val).cars
  have h1 := hg.ph
  have h2 := hg.fl
  have h3 := hg.lv
  have FI := Lib.hid (fun wx (hb : Below w.heap.size w wx) => by
    have := isImage_any b A cap pv fv lv ev m wx (by omega) ((hc.below hb).more hb.size) (h.below hb) (by omega) he
    rw [Img.isB_iff.2 hg] at this
    exact this)
  have FV := Lib.hid (fun wx (hb : Below w.heap.size w wx) => by
    have := valid9_any b A cap r wx (by omega) ((hc.below hb).more hb.size)
    rw [hok] at this
    exact this)
  have FC := Lib.hid (fun wx (hb : Below w.heap.size w wx) => copyOf_any pv fv lv ev m wx (h.below hb) (by omega) (by omega) (by omega) he)
  have FH := Lib.hid (fun base g pv' fv' lv' ev' wx hrow (ho : IOwn wx base pv' fv' lv' ev' m) hbase => change_any base g pv' fv' lv' ev' b m r wx hrow ho hbase hg hok he)
  obtain ⟨⟨A1, c1, rfl, -⟩, ⟨A2, c2, rfl, -⟩, ⟨A3, c3, rfl, -⟩, ⟨A4, c4, rfl, -⟩⟩ := h
  generalize (nums m.ph).length = n1 at *
  generalize (bls m.fl).length = n2 at *
  generalize (bls m.lv).length = n3 at *
  generalize m.en.length = n4 at *
  clear h1 h2 h3 hC hc hok hg
  generalize applyM m r = m' at *
  obtain ⟨f, d, rr, p, e1, e2, e3, cs⟩ := b
  obtain ⟨x1, x2, x3, x4, x5⟩ := r
  simp only [BldD.agg, Rc.agg] at *
  go_enter Try.func12, Try.ntmps12
  go_wp2_with fail
  refine (FI.out _ (by go_grown)).mono ?_
  rintro e w1 ⟨rfl, hb⟩
  rw [size4] at hb
  have HBX := Lib.hid hb
  obtain ⟨r1, r2, r3, r4⟩ := boxes4 hb
  obtain ⟨k0, k1, k2, k3, k4, k5, k6, k7⟩ := boxRow r1
  obtain ⟨z0, z1, z2, z3, z4⟩ := recRow r3
  have HB := Lib.hid (below4 hb)
  have hz := hb.size
  simp at hz
  clear hb r1 r2 r3 r4
  go_wp2_with fail
  refine (FV.out _ HB.out).mono ?_
  rintro e w2 ⟨rfl, hb2⟩
  have hbx2 := HBX.out.trans (hb2.mono (by omega))
  obtain ⟨-, r2, -, -⟩ := boxes4 hbx2
  obtain ⟨i0, i1, i2, i3⟩ := imRowCells r2
  have HBX2 := Lib.hid hbx2
  have hz2 := hb2.size
  clear hb2 hbx2 r2 k0 k1 k2 k3 k4 k5 k6 k7 z0 z1 z2 z3 z4
  go_wp2_with fail
  refine (FC.out _ (below4 HBX2.out)).mono ?_
  rintro e w3 ⟨pv', fv', lv', ev', rfl, hown, hb3⟩
  have hbx3 := HBX2.out.trans (hb3.mono (by omega))
  have r2 := (boxes4 hbx3).2.1
  have HBX3 := Lib.hid hbx3
  have HOW := Lib.hid hown
  have hz3 := hb3.size
  obtain ⟨B1, d1, e1'⟩ := own_slice hown.p
  obtain ⟨B2, d2, e2'⟩ := own_slice hown.f
  obtain ⟨B3, d3, e3'⟩ := own_slice hown.l
  obtain ⟨B4, d4, e4'⟩ := own_slice hown.e
  subst e1' e2' e3' e4'
  clear hb3 hbx3 hown i0 i1 i2 i3
  go_wp2_with (with_reducible show wpList _ _ _ (Oper.mk _ (.store 32 _ _) _ _ _ _ :: _) _ _; refine wpList_put rfl 32 _ _ rfl (w.heap.size + 1) #[.slice B1 _ d1, .slice B2 _ d2, .slice B3 _ d3, .slice B4 _ d4] _ 32 rfl rfl r2 (by kernel_rfl) rfl (by kernel_rfl) ?_; intro w4 hr hg; refine Hid.out ?_)
  have own4 := HOW.out.grown hg.out (by omega)
  have r3 := (hg.out.block (w.heap.size + 2) (by omega) (by simp)).trans (boxes4 HBX3.out).2.2.1
  have r4 := (hg.out.block (w.heap.size + 3) (by omega) (by simp)).trans (boxes4 HBX3.out).2.2.2
  obtain ⟨z0, z1, z2, z3, z4⟩ := recRow (show w4.heap[w.heap.size + 1 + 1]? = _ from r3)
  have hz4 := hg.out.size
  have HOW4 := Lib.hid own4
  have HR4 := Lib.hid r4
  have HB4 := Lib.hid ((below4 HBX3.out).trans (below_grown hg.out (by omega) (fun k hk => by injection hk with hk; omega)))
  clear own4 r2 r3 r4
  refine Lib.hid ?_
  go_wp2_with fail
  refine (FH.out w2.heap.size (w.heap.size + 1) _ _ _ _ w4 hr.out HOW4.out (by omega)).mono ?_
  rintro e w5 ⟨rfl, pv2, fv2, lv2, ev2, hrow5, hown5, hbx5, -⟩
  obtain ⟨D1, g1, e1'⟩ := own_slice hown5.p
  obtain ⟨D2, g2, e2'⟩ := own_slice hown5.f
  obtain ⟨D3, g3, e3'⟩ := own_slice hown5.l
  obtain ⟨D4, g4, e4'⟩ := own_slice hown5.e
  subst e1' e2' e3' e4'
  have r4 := (hbx5.block (w.heap.size + 3) (by omega) (by omega)).trans HR4.out
  obtain ⟨q0, q1, q2, q3⟩ := imRowCells hrow5
  have HOW5 := Lib.hid hown5
  have HB5 := Lib.hid (HB4.out.trans (hbx5.below (by omega) (by omega)))
  have hz5 := hbx5.size
  clear hown5 hbx5 hrow5 z0 z1 z2 z3 z4
  go_wp2_with (with_reducible show wpList _ _ _ (Oper.mk _ (.store 32 _ _) _ _ _ _ :: _) _ _; refine wpList_put rfl 32 _ _ rfl (w.heap.size + 3) #[.slice D1 _ g1, .slice D2 _ g2, .slice D3 _ g3, .slice D4 _ g4] _ 32 rfl rfl r4 (by kernel_rfl) rfl (by kernel_rfl) ?_; intro w6 hr6 hg6)
  exact bodyPost_ret (resultsI Try.results12 _ _ _ _ _ _ _ _ rfl rfl hr6.out) rfl ⟨_, _, _, _, rfl, (HOW5.out.grown hg6.out (by omega)).mono (by omega), HB5.out.trans (below_grown hg6.out (by omega) (fun k hk => by injection hk with hk; omega))⟩
end
end Go.Proofs.Ytifbkoaggjikpaa
