/- The reference's Apply of a good image and a valid record. No statement of the seat is proved here. -/
import Derived.Test.YtifbkoaggjikpaaLgEnter
import Derived.Test.YtifbkoaggjikpaaLgAppSrc
namespace Go.Proofs.Ytifbkoaggjikpaa
open Go.RowKit GhostV Bag Lg Img

/-- Three rows are made out of what came in, then laid into an image's box. -/
structure Cp (W1 : World) (g : Nat) (pv fv lv ev : Value) (n1 n2 n3 : Nat) (vp vf vl : List Value) (p : Nat) (x y z : Value) (wx : World) : Prop where
  grown : W1.grownBy wx (some g)
  ox : 1 ≤ p → wx.ownsRow W1.heap.size 3 1 x n1 vp
  oy : 2 ≤ p → wx.ownsRow W1.heap.size 4 1 y n2 vf
  oz : 3 ≤ p → wx.ownsRow W1.heap.size 4 1 z n3 vl
  ne : 3 ≤ p → ∀ k, y.ownBlock = some k → z.ownBlock ≠ some k
  box : wx.heap[g]? = some (.cells #[if 4 ≤ p then x else pv, if 5 ≤ p then y else fv, if 6 ≤ p then z else lv, ev] 32 (0, 0))
namespace Cp
variable {W1 wx w' : World} {g : Nat} {pv fv lv ev : Value} {n1 n2 n3 : Nat} {vp vf vl : List Value} {p : Nat} {x y z v : Value}
theorem start (hr : W1.heap[g]? = some (.cells #[pv, fv, lv, ev] 32 (0, 0))) {d : Nat} : Cp W1 g pv fv lv ev n1 n2 n3 vp vf vl 0 x y z { W1 with drawn := d } :=
  ⟨⟨rfl, rfl, rfl, Nat.le_refl _, fun _ _ _ => rfl⟩, fun h => absurd h (by decide), fun h => absurd h (by decide), fun h => absurd h (by decide), fun h => absurd h (by decide), hr⟩
theorem glt (h : Cp W1 g pv fv lv ev n1 n2 n3 vp vf vl p x y z wx) : g < wx.heap.size := (Array.getElem?_eq_some_iff.1 h.box).1
theorem below (h : Cp W1 g pv fv lv ev n1 n2 n3 vp vf vl p x y z wx) (hb : Below wx.heap.size wx w') : Cp W1 g pv fv lv ev n1 n2 n3 vp vf vl p x y z w' :=
  ⟨grown_trans h.grown (grown_below hb _), fun q => own_of_blocks (h.ox q) fun j _ hj => hb.block j hj, fun q => own_of_blocks (h.oy q) fun j _ hj => hb.block j hj, fun q => own_of_blocks (h.oz q) fun j _ hj => hb.block j hj, h.ne, (hb.block g h.glt).trans h.box⟩
theorem step1 (h : Cp W1 g pv fv lv ev n1 n2 n3 vp vf vl 0 x y z wx) (ho : w'.ownsRow wx.heap.size 3 1 v n1 vp) (hb : Below wx.heap.size wx w') : Cp W1 g pv fv lv ev n1 n2 n3 vp vf vl 1 v y z w' :=
  ⟨grown_trans h.grown (grown_below hb _), fun _ => own_base ho h.grown.size, fun h => absurd h (by decide), fun h => absurd h (by decide), fun h => absurd h (by decide), (hb.block g h.glt).trans h.box⟩
theorem step2 (h : Cp W1 g pv fv lv ev n1 n2 n3 vp vf vl 1 x y z wx) (ho : w'.ownsRow wx.heap.size 4 1 v n2 vf) (hb : Below wx.heap.size wx w') : Cp W1 g pv fv lv ev n1 n2 n3 vp vf vl 2 x v z w' :=
  ⟨grown_trans h.grown (grown_below hb _), fun _ => own_of_blocks (h.ox (by decide)) fun j _ hj => hb.block j hj, fun _ => own_base ho h.grown.size, fun h => absurd h (by decide), fun h => absurd h (by decide), (hb.block g h.glt).trans h.box⟩
theorem step3 (h : Cp W1 g pv fv lv ev n1 n2 n3 vp vf vl 2 x y z wx) (ho : w'.ownsRow wx.heap.size 4 1 v n3 vl) (hb : Below wx.heap.size wx w') : Cp W1 g pv fv lv ev n1 n2 n3 vp vf vl 3 x y v w' :=
  ⟨grown_trans h.grown (grown_below hb _), fun _ => own_of_blocks (h.ox (by decide)) fun j _ hj => hb.block j hj, fun _ => own_of_blocks (h.oy (by decide)) fun j _ hj => hb.block j hj, fun _ => own_base ho h.grown.size,
   fun _ k hk hk2 => by have a1 := ((h.oy (by decide)).lt k hk).2; have a2 := (ho.lt k hk2).1; omega, (hb.block g h.glt).trans h.box⟩
theorem step (h : Cp W1 g pv fv lv ev n1 n2 n3 vp vf vl p x y z wx) (hg : g < W1.heap.size) (hp : 3 ≤ p) (hr : w'.heap[g]? = some (.cells #[if 4 ≤ p + 1 then x else pv, if 5 ≤ p + 1 then y else fv, if 6 ≤ p + 1 then z else lv, ev] 32 (0, 0))) (hgr : wx.grownBy w' (some g)) : Cp W1 g pv fv lv ev n1 n2 n3 vp vf vl (p + 1) x y z w' :=
  ⟨grown_trans h.grown hgr, fun _ => own_kept (h.ox (by omega)) hgr (fun k hk hk2 => by injection hk with hk; have := ((h.ox (by omega)).lt k hk2).1; omega), fun _ => own_kept (h.oy (by omega)) hgr (fun k hk hk2 => by injection hk with hk; have := ((h.oy (by omega)).lt k hk2).1; omega),
   fun _ => own_kept (h.oz hp) hgr (fun k hk hk2 => by injection hk with hk; have := ((h.oz hp).lt k hk2).1; omega), fun _ => h.ne hp, hr⟩
end Cp
namespace IOwn
variable {w w' : World} {base p d a n : Nat} {pv fv lv ev v : Value} {m : Img} {l : List En}
theorem setP {z : Int} (h : IOwn w base (.slice (some ⟨p, 0, none⟩) n d) fv lv ev m) (hn : n = m.ph.length) (hr : w'.ownsRow base 3 1 (.slice (some ⟨p, 0, none⟩) n d) n ((nums m.ph).set a (.int .i64 z))) (hg : w.grownBy w' (some p)) : IOwn w' base (.slice (some ⟨p, 0, none⟩) n d) fv lv ev { m with ph := m.ph.set a z } := by
  subst hn
  exact ⟨by simp only [List.length_set]; rw [← nums_set]; exact hr, own_kept h.f hg (fun k hk => by obtain rfl : p = k := Option.some.inj hk; exact own_apart h.p h.f (by decide) p rfl), own_kept h.l hg (fun k hk => by obtain rfl : p = k := Option.some.inj hk; exact own_apart h.p h.l (by decide) p rfl), own_kept h.e hg (fun k hk => by obtain rfl : p = k := Option.some.inj hk; exact own_apart h.p h.e (by decide) p rfl), h.ne⟩
theorem setF {z : Bool} (h : IOwn w base pv (.slice (some ⟨p, 0, none⟩) n d) lv ev m) (hn : n = m.fl.length) (hr : w'.ownsRow base 4 1 (.slice (some ⟨p, 0, none⟩) n d) n ((bls m.fl).set a (.bool z))) (hg : w.grownBy w' (some p)) : IOwn w' base pv (.slice (some ⟨p, 0, none⟩) n d) lv ev { m with fl := m.fl.set a z } := by
  subst hn
  exact ⟨own_kept h.p hg (fun k hk => by obtain rfl : p = k := Option.some.inj hk; exact own_apart h.f h.p (by decide) p rfl), by simp only [List.length_set]; rw [← bls_set]; exact hr, own_kept h.l hg (fun k hk => by obtain rfl : p = k := Option.some.inj hk; exact h.ne p rfl), own_kept h.e hg (fun k hk => by obtain rfl : p = k := Option.some.inj hk; exact own_apart h.f h.e (by decide) p rfl), h.ne⟩
theorem setL {z : Bool} (h : IOwn w base pv fv (.slice (some ⟨p, 0, none⟩) n d) ev m) (hn : n = m.lv.length) (hr : w'.ownsRow base 4 1 (.slice (some ⟨p, 0, none⟩) n d) n ((bls m.lv).set a (.bool z))) (hg : w.grownBy w' (some p)) : IOwn w' base pv fv (.slice (some ⟨p, 0, none⟩) n d) ev { m with lv := m.lv.set a z } := by
  subst hn
  exact ⟨own_kept h.p hg (fun k hk => by obtain rfl : p = k := Option.some.inj hk; exact own_apart h.l h.p (by decide) p rfl), own_kept h.f hg (fun k hk e => by obtain rfl : p = k := Option.some.inj hk; exact h.ne p e rfl), by simp only [List.length_set]; rw [← bls_set]; exact hr, own_kept h.e hg (fun k hk => by obtain rfl : p = k := Option.some.inj hk; exact own_apart h.l h.e (by decide) p rfl), h.ne⟩
theorem setE (h : IOwn w base pv fv lv (.slice (some ⟨p, 0, none⟩) n d) m) (hr : w'.ownsRow base 71 5 (.slice (some ⟨p, 0, none⟩) n d) l.length (flatE l)) (hg : w.grownBy w' (some p)) : IOwn w' base pv fv lv (.slice (some ⟨p, 0, none⟩) n d) { m with en := l } :=
  ⟨own_kept h.p hg (fun k hk => by obtain rfl : p = k := Option.some.inj hk; exact own_apart h.e h.p (by decide) p rfl), own_kept h.f hg (fun k hk => by obtain rfl : p = k := Option.some.inj hk; exact own_apart h.e h.f (by decide) p rfl), own_kept h.l hg (fun k hk => by obtain rfl : p = k := Option.some.inj hk; exact own_apart h.e h.l (by decide) p rfl), hr, h.ne⟩
theorem newE (h : IOwn w base pv fv lv ev m) (hb : Below w.heap.size w w') (hr : w'.ownsRow base 71 5 v l.length (flatE l)) : IOwn w' base pv fv lv v { m with en := l } :=
  ⟨own_of_blocks h.p fun j _ hj => hb.block j hj, own_of_blocks h.f fun j _ hj => hb.block j hj, own_of_blocks h.l fun j _ hj => hb.block j hj, hr, h.ne⟩
theorem entries (h : IOwn w base pv fv lv (.slice (some ⟨p, 0, none⟩) n d) m) : EAt w (some ⟨p, 0, none⟩) m.en := by
  obtain ⟨y, k, he, hA⟩ := h.view.e
  injection he with q1
  subst q1
  exact hA
theorem entriesA {A : Option Addr} (h : IOwn w base pv fv lv (.slice A n d) m) : EAt w A m.en := by
  obtain ⟨y, k, he, hA⟩ := h.view.e
  injection he with q1
  subst q1
  exact hA
end IOwn
/-- An entry is taken out: into a row made anew, in two steps, then laid into the box. -/
structure Cq (W1 : World) (g p4 n d : Nat) (a1 a2 a3 : Value) (i : Nat) (l : List En) (p : Nat) (x y : Value) (wx : World) : Prop where
  grown : W1.grownBy wx (some g)
  src : EAt wx (some ⟨p4, 0, none⟩) l
  o1 : p = 1 → wx.ownsRow W1.heap.size 71 5 x i (flatE (l.take i))
  o2 : 2 ≤ p → wx.ownsRow W1.heap.size 71 5 y (n - 1) (flatE (l.eraseIdx i))
  box : wx.heap[g]? = some (.cells #[a1, a2, a3, if 3 ≤ p then y else .slice (some ⟨p4, 0, none⟩) n d] 32 (0, 0))
theorem own_cap {w : World} {base e s p n d : Nat} {xs : List Value} (h : w.ownsRow base e s (.slice (some ⟨p, 0, none⟩) n d) n xs) : n ≤ d := by
  rcases h.2 with ⟨h', _⟩ | ⟨g', cap', cur, h', _, _, hnc, _⟩
  · simp at h'
  · simp only [Value.slice.injEq] at h'
    obtain ⟨-, -, rfl⟩ := h'
    exact hnc
namespace Cq
variable {W1 wx w' : World} {g p4 n d : Nat} {a1 a2 a3 : Value} {i : Nat} {l : List En} {p : Nat} {x y v : Value}
theorem start {base q : Nat} (ho : W1.ownsRow base 71 5 (.slice (some ⟨p4, 0, none⟩) n d) l.length (flatE l)) (hr : W1.heap[g]? = some (.cells #[a1, a2, a3, .slice (some ⟨p4, 0, none⟩) n d] 32 (0, 0))) : Cq W1 g p4 n d a1 a2 a3 i l 0 x y { W1 with drawn := q } :=
  ⟨⟨rfl, rfl, rfl, Nat.le_refl _, fun _ _ _ => rfl⟩, by
    obtain ⟨y, k, he, hA⟩ := (EV.of_own ho).2
    injection he with q1
    subst q1
    exact hA, fun h => absurd h (by decide), fun h => absurd h (by decide), hr⟩
theorem glt (h : Cq W1 g p4 n d a1 a2 a3 i l p x y wx) : g < wx.heap.size := (Array.getElem?_eq_some_iff.1 h.box).1
theorem below (h : Cq W1 g p4 n d a1 a2 a3 i l p x y wx) (hb : Below wx.heap.size wx w') : Cq W1 g p4 n d a1 a2 a3 i l p x y w' :=
  ⟨grown_trans h.grown (grown_below hb _), h.src.below hb, fun q => own_of_blocks (h.o1 q) fun j _ hj => hb.block j hj, fun q => own_of_blocks (h.o2 q) fun j _ hj => hb.block j hj, (hb.block g h.glt).trans h.box⟩
theorem step1 (h : Cq W1 g p4 n d a1 a2 a3 i l 0 x y wx) (ho : w'.ownsRow wx.heap.size 71 5 v i (flatE (l.take i))) (hb : Below wx.heap.size wx w') : Cq W1 g p4 n d a1 a2 a3 i l 1 v y w' :=
  ⟨grown_trans h.grown (grown_below hb _), h.src.below hb, fun _ => own_base ho h.grown.size, fun h => absurd h (by decide), (hb.block g h.glt).trans h.box⟩
theorem srcTake (h : Cq W1 g p4 n d a1 a2 a3 i l p x y wx) (_hi : i ≤ l.length) : SrcAt wx (some ⟨p4, 0, none⟩) (flatE (l.take i)) := by
  rcases h.src with hl | ⟨b, off, e, hr⟩
  · subst hl; simp only [List.take_nil]; exact src_nil _ _
  · refine .inr ⟨_, rfl, fun j u hu => ?_⟩
    injection e with e
    injection e with e1 e2
    subst e1 e2
    rw [flatE_take] at hu
    rw [List.getElem?_take] at hu
    split at hu
    · rw [Addr.add_lit]; exact hr j u hu
    · cases hu
theorem srcDrop (h : Cq W1 g p4 n d a1 a2 a3 i l p x y wx) : ∀ j u, (flatE (l.drop (i + 1)))[j]? = some u → wx.cell? ((⟨p4, (i + 1) * 5, none⟩ : Addr).add j) = some u := by
  intro j u hu
  rcases h.src with hl | ⟨b, off, e, hr⟩
  · subst hl; simp [flatE] at hu
  · injection e with e
    injection e with e1 e2
    subst e1 e2
    rw [flatE_drop, List.getElem?_drop] at hu
    rw [Addr.add_lit]
    have := hr _ u hu
    rwa [Nat.zero_add] at this
theorem srcEnd (_h : Cq W1 g p4 n d a1 a2 a3 i l p x y wx) (hend : l.length = i + 1) : ∀ j u, (flatE (l.drop (i + 1)))[j]? = some u → wx.cell? ((⟨p4, 0, none⟩ : Addr).add j) = some u := by
  intro j u hu
  rw [List.drop_eq_nil_of_le (by omega)] at hu
  simp [flatE] at hu
theorem step2 (h : Cq W1 g p4 n d a1 a2 a3 i l 1 x y wx) (hg : g < W1.heap.size) (hp : p4 < W1.heap.size) (hn : n = l.length) (hi : i < l.length) (ho : w'.ownsRow W1.heap.size 71 5 v (i + (n - (i + 1))) (flatE (l.take i) ++ flatE (l.drop (i + 1)))) (hgr : wx.grownBy w' x.ownBlock) : Cq W1 g p4 n d a1 a2 a3 i l 2 x v w' := by
  have hxb := fun k (hk : x.ownBlock = some k) => ((h.o1 rfl).lt k hk).1
  have hb : Below W1.heap.size wx w' := below_grown hgr h.grown.size hxb
  refine ⟨⟨hb.os.trans h.grown.os, hb.tape.trans h.grown.tape, hb.output.trans h.grown.output, Nat.le_trans h.grown.size hb.size, fun j hj hne => (hb.block j hj).trans (h.grown.block j hj hne)⟩, ?_, fun h => absurd h (by decide), fun _ => ?_, (hb.block g hg).trans h.box⟩
  · rcases h.src with hl | ⟨b, off, e, hr⟩
    · exact .inl hl
    · refine .inr ⟨b, off, e, fun j u hu => ?_⟩
      injection e with e
      injection e with e1 e2
      subst e1 e2
      rw [← hr j u hu]
      exact World.cell?_of_block (a := ⟨p4, _, none⟩) (hb.block p4 hp)
  · rw [List.eraseIdx_eq_take_drop_succ, flatE_append]
    rw [show n - 1 = i + (n - (i + 1)) by omega]
    exact ho
theorem step3 (h : Cq W1 g p4 n d a1 a2 a3 i l 2 x y wx) (hg : g < W1.heap.size) (hp : p4 ≠ g) (hr : w'.heap[g]? = some (.cells #[a1, a2, a3, y] 32 (0, 0))) (hgr : wx.grownBy w' (some g)) (hpl : p4 < wx.heap.size) : Cq W1 g p4 n d a1 a2 a3 i l 3 x y w' := by
  refine ⟨grown_trans h.grown hgr, ?_, fun h => absurd h (by decide), fun _ => own_kept (h.o2 (by decide)) hgr (fun k hk hk2 => by injection hk with hk; have := ((h.o2 (by decide)).lt k hk2).1; omega), hr⟩
  rcases h.src with hl | ⟨b, off, e, hr⟩
  · exact .inl hl
  · refine .inr ⟨b, off, e, fun j u hu => ?_⟩
    injection e with e
    injection e with e1 e2
    subst e1 e2
    rw [← hr j u hu]
    exact World.cell?_of_block (a := ⟨p4, _, none⟩) (hgr.block p4 hpl (fun e => hp (Option.some.inj e)))
end Cq
theorem modify_modify (l : List En) (i : Nat) (f g : En → En) : (l.modify i f).modify i g = l.modify i (fun e => g (f e)) := by
  apply List.ext_getElem?
  intro j
  simp only [List.getElem?_modify]
  cases l[j]? with
  | none => rfl
  | some e => by_cases h : i = j <;> simp [h]
/-- Two cells of a row of the call's own are set, one by one. -/
structure Cm (W1 : World) (p4 base n d : Nat) (xs : List Value) (j1 : Nat) (u1 : Value) (j2 : Nat) (u2 : Value) (p : Nat) (wx : World) : Prop where
  grown : W1.grownBy wx (some p4)
  own : wx.ownsRow base 71 5 (.slice (some ⟨p4, 0, none⟩) n d) n (if 2 ≤ p then (xs.set j1 u1).set j2 u2 else if 1 ≤ p then xs.set j1 u1 else xs)
namespace Cm
variable {W1 wx w' : World} {p4 base n d : Nat} {xs : List Value} {j1 j2 : Nat} {u1 u2 : Value} {p : Nat}
theorem start {q : Nat} (ho : W1.ownsRow base 71 5 (.slice (some ⟨p4, 0, none⟩) n d) n xs) : Cm W1 p4 base n d xs j1 u1 j2 u2 0 { W1 with drawn := q } :=
  ⟨⟨rfl, rfl, rfl, Nat.le_refl _, fun _ _ _ => rfl⟩, own_of_blocks ho fun _ _ _ => rfl⟩
theorem below (h : Cm W1 p4 base n d xs j1 u1 j2 u2 p wx) (hb : Below wx.heap.size wx w') : Cm W1 p4 base n d xs j1 u1 j2 u2 p w' :=
  ⟨grown_trans h.grown (grown_below hb _), own_of_blocks h.own fun j _ hj => hb.block j hj⟩
theorem same (h : Cm W1 p4 base n d xs j1 u1 j2 u2 p wx) (k : Nat) (hk : k < W1.heap.size) (hne : k ≠ p4) : wx.heap[k]? = W1.heap[k]? := h.grown.block k hk (fun e => hne (Option.some.inj e))
theorem step1 (h : Cm W1 p4 base n d xs j1 u1 j2 u2 0 wx) (hr : w'.ownsRow base 71 5 (.slice (some ⟨p4, 0, none⟩) n d) n (xs.set j1 u1)) (hg : wx.grownBy w' (some p4)) : Cm W1 p4 base n d xs j1 u1 j2 u2 1 w' := ⟨grown_trans h.grown hg, hr⟩
theorem step2 (h : Cm W1 p4 base n d xs j1 u1 j2 u2 1 wx) (hr : w'.ownsRow base 71 5 (.slice (some ⟨p4, 0, none⟩) n d) n ((xs.set j1 u1).set j2 u2)) (hg : wx.grownBy w' (some p4)) : Cm W1 p4 base n d xs j1 u1 j2 u2 2 w' := ⟨grown_trans h.grown hg, hr⟩
end Cm
theorem own_some {w : World} {base n s d : Nat} {e : TypeId} {A : Option Addr} {xs : List Value} (h : w.ownsRow base e s (.slice A n d) n xs) (hn : 0 < n) : ∃ p, A = some ⟨p, 0, none⟩ ∧ base ≤ p ∧ p < w.heap.size := by
  obtain ⟨g, cap, hv, h1, h2⟩ := h.form hn
  injection hv with q1
  exact ⟨g, q1, h1, h2⟩
theorem findI_cases (l : List En) (f d : Int) : (at_ l f d = none ∧ findI l f d = -1) ∨ ∃ i : Nat, at_ l f d = some i ∧ findI l f d = (i : Int) ∧ i < l.length := by
  unfold findI
  cases h : at_ l f d with
  | none => exact .inl ⟨rfl, rfl⟩
  | some i => exact .inr ⟨i, rfl, rfl, (at_some h).1⟩

set_option maxRecDepth 100000 in
set_option maxHeartbeats 16000000 in
theorem refApplyGood_any (b : BldD) (A : Option Addr) (cap : Nat) (pv fv lv ev : Value) (m : Img) (r : Rc) (w : World) (hc : CarsAt w w.heap.size A b.cars) (h : ImV w pv fv lv ev m) (he : m.en.length ≤ 1000000) (hg : Img.Good b m) (hok : Rc.okB b r = true) :
    Calls Try.prog 18 #[b.agg A cap, .agg #[pv, fv, lv, ev], r.agg] w fun e w' => ∃ pv' fv' lv' ev', e = .returned (.tuple #[.agg #[pv', fv', lv', ev'], .int .i64 0]) ∧ IOwn w' w.heap.size pv' fv' lv' ev' (applyM m r) ∧ Below w.heap.size w w' := by
  have hC := (fine_of hg.val).cars
  have hph := hg.ph
  have hfl := hg.fl
  have hlv := hg.lv
  have FI := Lib.hid (fun wx (hb : Below w.heap.size w wx) => refIsGood_any b A cap pv fv lv ev m wx ((hc.below hb).more hb.size) (h.below hb) he hg)
  have FV := Lib.hid (fun wx (hb : Below w.heap.size w wx) => by
    have := refValid9_any b A cap r wx (by omega) ((hc.below hb).more hb.size)
    rw [hok] at this
    exact this)
  have FF := Lib.hid (fun wx pv' fv' lv' ev' (hI : ImV wx pv' fv' lv' ev' m) => refFind_any pv' fv' lv' ev' m r.floor r.dir wx hI he)
  have FE := Lib.hid (fun wx A' c' (hA : EAt wx A' m.en) => refEntered_any ⟨r.floor, r.dir, -1, 0, false⟩ m.en A' c' wx hA he)
  have HCAR := Lib.hid (fun hk => car_in hg hok hk)
  have hfi := findI_cases m.en r.floor r.dir
  have HAM := Lib.hid (show applyM m r = (if r.kind = 4 then { m with ph := m.ph.set r.car.toNat r.value } else if r.kind = 5 then { m with fl := m.fl.set r.car.toNat (decide (r.value = 1)) } else if r.kind = 6 then { m with lv := m.lv.set r.car.toNat (decide (r.value = 1)) } else { m with en := applyE m.en r }) from rfl)
  have HAE := Lib.hid (show applyE m.en r = (match at_ m.en r.floor r.dir with
    | none => if r.kind = 1 then ins ⟨r.floor, r.dir, -1, 0, false⟩ m.en else m.en
    | some i => if r.kind = 2 then m.en.eraseIdx i else if r.kind = 3 then m.en.modify i (fun e => { e with car := r.car }) else if r.kind = 7 then m.en.modify i (fun e => { e with mv := r.value, md := decide (r.car = 1) }) else m.en) from rfl)
  have HIL := Lib.hid (fun e : En => ins_len' e m.en)
  obtain ⟨⟨A1, c1, rfl, h1⟩, ⟨A2, c2, rfl, h2⟩, ⟨A3, c3, rfl, h3⟩, ⟨A4, c4, rfl, h4⟩⟩ := h
  have HS1 := Lib.hid (fun wx (hb : Below w.heap.size w wx) => (h1.below hb).src)
  have HS2 := Lib.hid (fun wx (hb : Below w.heap.size w wx) => (h2.below hb).src)
  have HS3 := Lib.hid (fun wx (hb : Below w.heap.size w wx) => (h3.below hb).src)
  have HS4 := Lib.hid (fun wx (hb : Below w.heap.size w wx) => (h4.below hb).src)
  rw [nums_len, bls_len m.fl, bls_len m.lv] at FI ⊢
  clear h1 h2 h3 h4 hc hg hok
  obtain ⟨i0, hi0, hz0, hs0, hy0⟩ := info_parts intInfo
  obtain ⟨i1, hi1, hz1, hs1, hy1⟩ := info_parts boolInfo
  obtain ⟨i2, hi2, hz2, hs2, hy2⟩ := info_parts enInfo
  generalize hAM : applyM m r = m' at *
  clear hAM
  generalize hn : b.cars.length = nc at *
  obtain ⟨mp, mf, ml, me⟩ := m
  obtain ⟨bf, bd, br, bp, be1, be2, be3, cs⟩ := b
  obtain ⟨x1, x2, x3, x4, x5⟩ := r
  simp only [BldD.agg, Rc.agg, En.agg] at *
  have hP1 : mp.length ≤ 1000000 := by omega
  have hP2 : mf.length ≤ 1000000 := by omega
  have hP3 : ml.length ≤ 1000000 := by omega
  clear hph hfl hlv hC hn
  generalize cs.length = ncs at *
  have HFI := Lib.hid hfi
  clear hfi
  go_enter Try.func18, Try.ntmps18
  go_wp2_with fail
  refine (FI.out _ (by go_grown)).mono ?_
  rintro e w1 ⟨rfl, hb⟩
  rw [size4] at hb
  have HBX := Lib.hid hb
  obtain ⟨r1, r2, r3, r4⟩ := boxes4 hb
  obtain ⟨k0, k1, k2, k3, k4, k5, k6, k7⟩ := boxRow r1
  obtain ⟨z0, z1, z2, z3, z4⟩ := recRow r3
  have HB := Lib.hid (below4 hb)
  have hz := hb.size
  simp at hz
  clear hb r1 r2 r3 r4
  go_wp2_with fail
  refine (FV.out _ HB.out).mono ?_
  rintro e w2 ⟨rfl, hb2⟩
  have hbx2 := HBX.out.trans (hb2.mono (by omega))
  obtain ⟨-, r2, -, -⟩ := boxes4 hbx2
  have HBX2 := Lib.hid hbx2
  have hsz2 := hb2.size
  have hg2 : w.heap.size + 1 < w2.heap.size := by omega
  have HR2 := Lib.hid r2
  have HCB := Lib.hid (fun wx (hgr : w2.grownBy wx (some (w.heap.size + 1))) => (below4 HBX2.out).trans (below_grown hgr (by omega) (fun k hk => by injection hk with hk; omega)))
  clear hb2 hbx2 r2 k0 k1 k2 k3 k4 k5 k6 k7 z0 z1 z2 z3 z4
  go_wp2_with fail
  refine ghostK [2, 5, 8, 10, 12, 14] (fun p γ wx => Cp w2 (w.heap.size + 1) (.slice A1 mp.length c1) (.slice A2 mf.length c2) (.slice A3 ml.length c3) (.slice A4 me.length c4) mp.length mf.length ml.length (nums mp) (bls mf) (bls ml) p (γ 2) (γ 5) (γ 8) wx) (by kernel_rfl) (by kernel_rfl) (fun γ => Cp.start HR2.out) ?_
  apply GK.walk_quiet 3 10 rfl (by kernel_rfl) (by kernel_rfl) (by kernel_rfl) (fun γ => by rfl) (fun p γ wx w' h hb => h.below hb)
  · intro γ p wx hp hS K hK
    have HK2 := Lib.hid hK
    clear hK
    go_simp
    exact HK2.out _ (Below.refl _ _)
  try simp only [Act.put, List.setIfInBounds_toArray, List.set_cons_succ, List.set_cons_zero]
  apply GK.walk_quiet 0 2 rfl (by kernel_rfl) (by kernel_rfl) (by kernel_rfl) (fun γ => by rfl) (fun p γ wx w' h hb => h.below hb)
  · intro γ p wx hp hS K hK
    have hbx := hS.box
    rw [if_neg (by omega), if_neg (by omega), if_neg (by omega)] at hbx
    obtain ⟨q0, q1, q2, q3⟩ := imRowCells hbx
    have HK2 := Lib.hid hK
    clear hK
    go_simp
    exact HK2.out _ (Below.refl _ _)
  try simp only [Act.put, List.setIfInBounds_toArray, List.set_cons_succ, List.set_cons_zero]
  apply GK.walk_turn 0 rfl (by kernel_rfl) (by decide) (.inl rfl) (fun γ => by rfl)
  · intro γ wx hS K hK
    exact wp_append_src (.const (.slice none 0 0)) (.tmp 21) 28 rfl 3 i0 _ 1 8 Try.underlying28 hi0 hz0 hs0 hy0 rfl (by decide) rfl A1 mp.length c1 (nums mp) rfl (by rw [nums_len, Nat.mul_one]) (HS1.out wx (HCB.out wx hS.grown)) (nums_one _) hP1 (by omega) (fun v' w' ho hb => hK v' w' (hS.step1 ho hb))
  try simp only [Act.put, List.setIfInBounds_toArray, List.set_cons_succ, List.set_cons_zero]
  apply GK.walk_quiet 3 10 rfl (by kernel_rfl) (by kernel_rfl) (by kernel_rfl) (fun γ => by rfl) (fun p γ wx w' h hb => h.below hb)
  · intro γ p wx hp hS K hK
    have HK2 := Lib.hid hK
    clear hK
    go_simp
    exact HK2.out _ (Below.refl _ _)
  try simp only [Act.put, List.setIfInBounds_toArray, List.set_cons_succ, List.set_cons_zero]
  apply GK.walk_quiet 1 5 rfl (by kernel_rfl) (by kernel_rfl) (by kernel_rfl) (fun γ => by rfl) (fun p γ wx w' h hb => h.below hb)
  · intro γ p wx hp hS K hK
    have hbx := hS.box
    rw [if_neg (by omega), if_neg (by omega), if_neg (by omega)] at hbx
    obtain ⟨q0, q1, q2, q3⟩ := imRowCells hbx
    have HK2 := Lib.hid hK
    clear hK
    go_simp
    exact HK2.out _ (Below.refl _ _)
  try simp only [Act.put, List.setIfInBounds_toArray, List.set_cons_succ, List.set_cons_zero]
  apply GK.walk_turn 1 rfl (by kernel_rfl) (by decide) (.inr ⟨2, rfl, by kernel_rfl⟩) (fun γ => by rfl)
  · intro γ wx hS K hK
    exact wp_append_src (.const (.slice none 0 0)) (.tmp 24) 29 rfl 4 i1 _ 1 1 Try.underlying29 hi1 hz1 hs1 hy1 rfl (by decide) rfl A2 mf.length c2 (bls mf) rfl (by rw [bls_len, Nat.mul_one]) (HS2.out wx (HCB.out wx hS.grown)) (bls_one _) hP2 (by omega) (fun v' w' ho hb => hK v' w' (hS.step2 ho hb))
  try simp only [Act.put, List.setIfInBounds_toArray, List.set_cons_succ, List.set_cons_zero]
  apply GK.walk_quiet 3 10 rfl (by kernel_rfl) (by kernel_rfl) (by kernel_rfl) (fun γ => by rfl) (fun p γ wx w' h hb => h.below hb)
  · intro γ p wx hp hS K hK
    have HK2 := Lib.hid hK
    clear hK
    go_simp
    exact HK2.out _ (Below.refl _ _)
  try simp only [Act.put, List.setIfInBounds_toArray, List.set_cons_succ, List.set_cons_zero]
  apply GK.walk_quiet 2 8 rfl (by kernel_rfl) (by kernel_rfl) (by kernel_rfl) (fun γ => by rfl) (fun p γ wx w' h hb => h.below hb)
  · intro γ p wx hp hS K hK
    have hbx := hS.box
    rw [if_neg (by omega), if_neg (by omega), if_neg (by omega)] at hbx
    obtain ⟨q0, q1, q2, q3⟩ := imRowCells hbx
    have HK2 := Lib.hid hK
    clear hK
    go_simp
    exact HK2.out _ (Below.refl _ _)
  try simp only [Act.put, List.setIfInBounds_toArray, List.set_cons_succ, List.set_cons_zero]
  apply GK.walk_turn 2 rfl (by kernel_rfl) (by decide) (.inr ⟨5, rfl, by kernel_rfl⟩) (fun γ => by rfl)
  · intro γ wx hS K hK
    exact wp_append_src (.const (.slice none 0 0)) (.tmp 27) 29 rfl 4 i1 _ 1 1 Try.underlying29 hi1 hz1 hs1 hy1 rfl (by decide) rfl A3 ml.length c3 (bls ml) rfl (by rw [bls_len, Nat.mul_one]) (HS3.out wx (HCB.out wx hS.grown)) (bls_one _) hP3 (by omega) (fun v' w' ho hb => hK v' w' (hS.step3 ho hb))
  try simp only [Act.put, List.setIfInBounds_toArray, List.set_cons_succ, List.set_cons_zero]
  apply GK.walk_quiet 3 10 rfl (by kernel_rfl) (by kernel_rfl) (by kernel_rfl) (fun γ => by rfl) (fun p γ wx w' h hb => h.below hb)
  · intro γ p wx hp hS K hK
    have HK2 := Lib.hid hK
    clear hK
    go_simp
    exact HK2.out _ (Below.refl _ _)
  try simp only [Act.put, List.setIfInBounds_toArray, List.set_cons_succ, List.set_cons_zero]
  apply GK.walk_turn 3 rfl (by kernel_rfl) (by decide) (.inr ⟨8, rfl, by kernel_rfl⟩) (fun γ => by rfl)
  · intro γ wx hS K hK
    obtain ⟨B, dd, e⟩ := own_slice (hS.ox (by decide))
    exact wp_putCell 28 (.tmp 29) (.tmp 22) rfl (w.heap.size + 1) 0 (γ 2) _ _ 32 rfl rfl hS.box (by kernel_rfl) (by simp) (by rw [e]; rfl) (by rw [e]; rfl) rfl (fun w' hr hgr => hK undef w' (hS.step hg2 (by decide) hr hgr))
  try simp only [Act.put]
  apply GK.walk_quiet 4 12 rfl (by kernel_rfl) (by kernel_rfl) (by kernel_rfl) (fun γ => by rfl) (fun p γ wx w' h hb => h.below hb)
  · intro γ p wx hp hS K hK
    have HK2 := Lib.hid hK
    clear hK
    go_simp
    exact HK2.out _ (Below.refl _ _)
  try simp only [Act.put, List.setIfInBounds_toArray, List.set_cons_succ, List.set_cons_zero]
  apply GK.walk_turn 4 rfl (by kernel_rfl) (by decide) (.inr ⟨10, rfl, by kernel_rfl⟩) (fun γ => by rfl)
  · intro γ wx hS K hK
    obtain ⟨B, dd, e⟩ := own_slice (hS.oy (by decide))
    exact wp_putCell 29 (.tmp 30) (.tmp 25) rfl (w.heap.size + 1) 1 (γ 5) _ _ 32 rfl rfl hS.box (by kernel_rfl) (by simp) (by rw [e]; rfl) (by rw [e]; rfl) rfl (fun w' hr hgr => hK undef w' (hS.step hg2 (by decide) hr hgr))
  try simp only [Act.put]
  apply GK.walk_quiet 5 14 rfl (by kernel_rfl) (by kernel_rfl) (by kernel_rfl) (fun γ => by rfl) (fun p γ wx w' h hb => h.below hb)
  · intro γ p wx hp hS K hK
    have HK2 := Lib.hid hK
    clear hK
    go_simp
    exact HK2.out _ (Below.refl _ _)
  try simp only [Act.put, List.setIfInBounds_toArray, List.set_cons_succ, List.set_cons_zero]
  apply GK.walk_turn 5 rfl (by kernel_rfl) (by decide) (.inr ⟨12, rfl, by kernel_rfl⟩) (fun γ => by rfl)
  · intro γ wx hS K hK
    obtain ⟨B, dd, e⟩ := own_slice (hS.oz (by decide))
    exact wp_putCell 29 (.tmp 31) (.tmp 28) rfl (w.heap.size + 1) 2 (γ 8) _ _ 32 rfl rfl hS.box (by kernel_rfl) (by simp) (by rw [e]; rfl) (by rw [e]; rfl) rfl (fun w' hr hgr => hK undef w' (hS.step hg2 (by decide) hr hgr))
  try simp only [Act.put]
  refine GhostV.walk_nil (fun γ L w3 hall hx => ?_)
  have hCp : Cp w2 (w.heap.size + 1) (.slice A1 mp.length c1) (.slice A2 mf.length c2) (.slice A3 ml.length c3) (.slice A4 me.length c4) mp.length mf.length ml.length (nums mp) (bls mf) (bls ml) 6 (γ 2) (γ 5) (γ 8) w3 := hx.done (fun t ht => hall t (by simp only [List.mem_cons, List.not_mem_nil, or_false] at ht; rcases ht with rfl | rfl | rfl | rfl | rfl | rfl <;> decide))
  clear hx hall
  generalize γ 2 = v2 at *
  generalize γ 5 = v5 at *
  generalize γ 8 = v8 at *
  obtain ⟨B1, d1, rfl⟩ := own_slice (hCp.ox (by decide))
  obtain ⟨B2, d2, rfl⟩ := own_slice (hCp.oy (by decide))
  obtain ⟨B3, d3, rfl⟩ := own_slice (hCp.oz (by decide))
  have hrow3 : w3.heap[w.heap.size + 1]? = some (.cells #[.slice B1 mp.length d1, .slice B2 mf.length d2, .slice B3 ml.length d3, .slice A4 me.length c4] 32 (0, 0)) := hCp.box
  obtain ⟨q0, q1, q2, q3⟩ := imRowCells hrow3
  have HCP := Lib.hid hCp
  have HROW3 := Lib.hid hrow3
  have HB3 := Lib.hid (HCB.out w3 hCp.grown)
  have hsz3 := hCp.grown.size
  have r3 := (hCp.grown.block (w.heap.size + 2) (by omega) (by simp)).trans (boxes4 HBX2.out).2.2.1
  have r4 := (hCp.grown.block (w.heap.size + 3) (by omega) (by simp)).trans (boxes4 HBX2.out).2.2.2
  have HR3 := Lib.hid (And.intro r3 r4)
  clear hCp hrow3 r3 r4 HS1 HS2 HS3 FI FV HCB HBX HB HR2
  go_wp2_with (at_builtin; refine wpList_append_src rfl (.const (.slice none 0 0)) (.tmp 33) 30 rfl 71 i2 _ 5 40 Try.underlying30 hi2 hz2 hs2 hy2 rfl (by decide) rfl A4 me.length c4 (flatE me) rfl (flatE_length _) (HS4.out _ HB3.out) (flatE_one _) he (by omega) ?_; intro v4 w4 ho4 hb4; refine Hid.out ?_)
  obtain ⟨B4, d4, rfl⟩ := own_slice ho4
  have hrow4 := (hb4.block (w.heap.size + 1) (by omega)).trans HROW3.out
  have HR4 := Lib.hid (And.intro ((hb4.block (w.heap.size + 2) (by omega)).trans HR3.out.1) ((hb4.block (w.heap.size + 3) (by omega)).trans HR3.out.2))
  have HI4 := Lib.hid (show IOwn w4 w2.heap.size (.slice B1 mp.length d1) (.slice B2 mf.length d2) (.slice B3 ml.length d3) (.slice B4 me.length d4) ⟨mp, mf, ml, me⟩ from ⟨own_of_blocks (HCP.out.ox (by decide)) fun j _ hj => hb4.block j hj, own_of_blocks (HCP.out.oy (by decide)) fun j _ hj => hb4.block j hj, own_of_blocks (HCP.out.oz (by decide)) fun j _ hj => hb4.block j hj, own_base ho4 hsz3, HCP.out.ne (by decide)⟩)
  have HB4 := Lib.hid (HB3.out.trans (hb4.mono HB3.out.size))
  have hsz4 := hb4.size
  clear ho4 hb4 HCP HROW3 HR3 HB3 q0 q1 q2 q3
  refine Lib.hid ?_
  go_wp2_with (with_reducible show wpList _ _ _ (Oper.mk _ (.store 30 _ _) _ _ _ _ :: _) _ _; refine Hid.out ?_)
  refine Lib.hid ?_
  refine wpList_putCell rfl 30 _ _ rfl (w.heap.size + 1) 3 (.slice B4 me.length d4) _ _ 32 rfl rfl hrow4 (by kernel_rfl) (by simp) rfl rfl rfl ?_
  intro w5 hr5 hg5
  have hsz5 := hg5.out.size
  have HI5 := Lib.hid (HI4.out.grown hg5.out (by omega))
  have HR5 := Lib.hid (And.intro ((hg5.out.block (w.heap.size + 2) (by omega) (by simp)).trans HR4.out.1) ((hg5.out.block (w.heap.size + 3) (by omega) (by simp)).trans HR4.out.2))
  have HB5 := Lib.hid (HB4.out.trans (below_grown hg5.out (by omega) (fun k hk => by injection hk with hk; omega)))
  have HRI5 := Lib.hid (show w5.heap[w.heap.size + 1]? = some (.cells #[.slice B1 mp.length d1, .slice B2 mf.length d2, .slice B3 ml.length d3, .slice B4 me.length d4] 32 (0, 0)) from hr5.out)
  obtain ⟨q0, q1, q2, q3⟩ := imRowCells HRI5.out
  obtain ⟨z0, z1, z2, z3, z4⟩ := recRow (show w5.heap[w.heap.size + 1 + 1]? = _ from HR5.out.1)
  clear hr5 hg5 hrow4 HR4 HI4 HB4
  go_wp2_with fail
  refine (FF.out w5 _ _ _ _ HI5.out.view).mono ?_
  rintro e w6 ⟨rfl, hb6⟩
  have HI6 := Lib.hid (HI5.out.below hb6)
  have hri := (hb6.block (w.heap.size + 1) (by omega)).trans HRI5.out
  have HR6 := Lib.hid (And.intro ((hb6.block (w.heap.size + 2) (by omega)).trans HR5.out.1) ((hb6.block (w.heap.size + 3) (by omega)).trans HR5.out.2))
  have HB6 := Lib.hid (HB5.out.trans (hb6.mono (by omega)))
  have hsz6 := hb6.size
  clear q0 q1 q2 q3 z0 z1 z2 z3 z4 hb6 HI5 HRI5 HR5 HB5 FF
  obtain ⟨q0, q1, q2, q3⟩ := imRowCells hri
  obtain ⟨z0, z1, z2, z3, z4⟩ := recRow (show w6.heap[w.heap.size + 1 + 1]? = _ from HR6.out.1)
  have HRI6 := Lib.hid hri
  clear hri
  by_cases h4 : x1 = 4
  · subst h4
    obtain ⟨a, ha, ha1, ha2, ha3⟩ := HCAR.out (by simp)
    try simp only at ha ha1 ha2 ha3
    subst ha
    have hla : a < mp.length := by omega
    have hlI : (a : Int) < (mp.length : Int) := by omega
    have ha0 : ¬ (a : Int) < 0 := by omega
    obtain ⟨p1, rfl, hp1, hp2⟩ := own_some HI6.out.p (show 0 < mp.length by omega)
    have hbo := HI6.out.p.cellAt a (by simpa using hla)
    have hfo := HI6.out.p.frozenAt a
    go_wp2_with (with_reducible show wpList _ _ _ (Oper.mk _ (.store 3 _ _) _ _ _ _ :: _) _ _; refine Hid.out ?_)
    refine Lib.hid ?_
    refine wpList_putOwn rfl 3 _ _ rfl a (.int .i64 x5) (by first | rfl | simp) (by first | rfl | simp) HI6.out.p (by simpa using hla) (by kernel_rfl) rfl rfl ?_
    intro w7 hr7 hg7
    have HI7 := Lib.hid (HI6.out.setP rfl hr7.out hg7.out)
    have hsz7 := hg7.out.size
    have hri7 := (hg7.out.block (w.heap.size + 1) (by omega) (fun e => by injection e with e; omega)).trans HRI6.out
    have hr4 := (hg7.out.block (w.heap.size + 3) (by omega) (fun e => by injection e with e; omega)).trans HR6.out.2
    have HB7 := Lib.hid (HB6.out.trans (below_grown hg7.out (by have := HB6.out.size; omega) (fun k hk => by injection hk with hk; omega)))
    have hm' := HAM.out
    simp only [if_true, Int.toNat_natCast] at hm'
    subst hm'
    clear q0 q1 q2 q3 hbo hfo
    obtain ⟨t0, t1, t2, t3⟩ := imRowCells hri7
    go_wp2_with (with_reducible show wpList _ _ _ (Oper.mk _ (.store 32 _ _) _ _ _ _ :: _) _ _; refine Hid.out ?_)
    refine Lib.hid ?_
    refine wpList_put rfl 32 _ _ rfl (w.heap.size + 3) #[.slice (some ⟨p1, 0, none⟩) mp.length d1, .slice B2 mf.length d2, .slice B3 ml.length d3, .slice B4 me.length d4] _ 32 rfl rfl hr4 (by kernel_rfl) rfl (by kernel_rfl) ?_
    intro w9 hr9 hg9
    go_wp2_with fail
    exact bodyPost_ret (resultsI Try.results18 _ _ _ _ _ _ _ _ rfl rfl hr9.out) rfl ⟨_, _, _, _, rfl, ((HI7.out).grown hg9.out (by omega)).mono (by omega), HB7.out.trans (below_grown hg9.out (by have := HB7.out.size; omega) (fun k hk => by injection hk with hk; omega))⟩
  by_cases h5 : x1 = 5
  · subst h5
    obtain ⟨a, ha, ha1, ha2, ha3⟩ := HCAR.out (by simp)
    try simp only at ha ha1 ha2 ha3
    subst ha
    have hla : a < mf.length := by omega
    have hlI : (a : Int) < (mf.length : Int) := by omega
    have ha0 : ¬ (a : Int) < 0 := by omega
    obtain ⟨p1, rfl, hp1, hp2⟩ := own_some HI6.out.f (show 0 < mf.length by omega)
    have hbo := HI6.out.f.cellAt a (by simpa using hla)
    have hfo := HI6.out.f.frozenAt a
    go_wp2_with (with_reducible show wpList _ _ _ (Oper.mk _ (.store 4 _ _) _ _ _ _ :: _) _ _; refine Hid.out ?_)
    refine Lib.hid ?_
    refine wpList_putOwn rfl 4 _ _ rfl a (.bool (x5 == 1)) (by first | rfl | simp) (by first | rfl | simp) HI6.out.f (by simpa using hla) (by kernel_rfl) rfl rfl ?_
    intro w7 hr7 hg7
    have HI7 := Lib.hid (HI6.out.setF rfl hr7.out hg7.out)
    have hsz7 := hg7.out.size
    have hri7 := (hg7.out.block (w.heap.size + 1) (by omega) (fun e => by injection e with e; omega)).trans HRI6.out
    have hr4 := (hg7.out.block (w.heap.size + 3) (by omega) (fun e => by injection e with e; omega)).trans HR6.out.2
    have HB7 := Lib.hid (HB6.out.trans (below_grown hg7.out (by have := HB6.out.size; omega) (fun k hk => by injection hk with hk; omega)))
    have hm' := HAM.out
    simp only [if_true, if_false, Int.toNat_natCast, show ¬ (5 : Int) = 4 by decide] at hm'
    subst hm'
    clear q0 q1 q2 q3 hbo hfo
    obtain ⟨t0, t1, t2, t3⟩ := imRowCells hri7
    go_wp2_with (with_reducible show wpList _ _ _ (Oper.mk _ (.store 32 _ _) _ _ _ _ :: _) _ _; refine Hid.out ?_)
    refine Lib.hid ?_
    refine wpList_put rfl 32 _ _ rfl (w.heap.size + 3) #[.slice B1 mp.length d1, .slice (some ⟨p1, 0, none⟩) mf.length d2, .slice B3 ml.length d3, .slice B4 me.length d4] _ 32 rfl rfl hr4 (by kernel_rfl) rfl (by kernel_rfl) ?_
    intro w9 hr9 hg9
    go_wp2_with fail
    exact bodyPost_ret (resultsI Try.results18 _ _ _ _ _ _ _ _ rfl rfl hr9.out) rfl ⟨_, _, _, _, rfl, ((HI7.out).grown hg9.out (by omega)).mono (by omega), HB7.out.trans (below_grown hg9.out (by have := HB7.out.size; omega) (fun k hk => by injection hk with hk; omega))⟩
  by_cases h6 : x1 = 6
  · subst h6
    obtain ⟨a, ha, ha1, ha2, ha3⟩ := HCAR.out (by simp)
    try simp only at ha ha1 ha2 ha3
    subst ha
    have hla : a < ml.length := by omega
    have hlI : (a : Int) < (ml.length : Int) := by omega
    have ha0 : ¬ (a : Int) < 0 := by omega
    obtain ⟨p1, rfl, hp1, hp2⟩ := own_some HI6.out.l (show 0 < ml.length by omega)
    have hbo := HI6.out.l.cellAt a (by simpa using hla)
    have hfo := HI6.out.l.frozenAt a
    go_wp2_with (with_reducible show wpList _ _ _ (Oper.mk _ (.store 4 _ _) _ _ _ _ :: _) _ _; refine Hid.out ?_)
    refine Lib.hid ?_
    refine wpList_putOwn rfl 4 _ _ rfl a (.bool (x5 == 1)) (by first | rfl | simp) (by first | rfl | simp) HI6.out.l (by simpa using hla) (by kernel_rfl) rfl rfl ?_
    intro w7 hr7 hg7
    have HI7 := Lib.hid (HI6.out.setL rfl hr7.out hg7.out)
    have hsz7 := hg7.out.size
    have hri7 := (hg7.out.block (w.heap.size + 1) (by omega) (fun e => by injection e with e; omega)).trans HRI6.out
    have hr4 := (hg7.out.block (w.heap.size + 3) (by omega) (fun e => by injection e with e; omega)).trans HR6.out.2
    have HB7 := Lib.hid (HB6.out.trans (below_grown hg7.out (by have := HB6.out.size; omega) (fun k hk => by injection hk with hk; omega)))
    have hm' := HAM.out
    simp only [if_true, if_false, Int.toNat_natCast, show ¬ (6 : Int) = 4 by decide, show ¬ (6 : Int) = 5 by decide] at hm'
    subst hm'
    clear q0 q1 q2 q3 hbo hfo
    obtain ⟨t0, t1, t2, t3⟩ := imRowCells hri7
    go_wp2_with (with_reducible show wpList _ _ _ (Oper.mk _ (.store 32 _ _) _ _ _ _ :: _) _ _; refine Hid.out ?_)
    refine Lib.hid ?_
    refine wpList_put rfl 32 _ _ rfl (w.heap.size + 3) #[.slice B1 mp.length d1, .slice B2 mf.length d2, .slice (some ⟨p1, 0, none⟩) ml.length d3, .slice B4 me.length d4] _ 32 rfl rfl hr4 (by kernel_rfl) rfl (by kernel_rfl) ?_
    intro w9 hr9 hg9
    go_wp2_with fail
    exact bodyPost_ret (resultsI Try.results18 _ _ _ _ _ _ _ _ rfl rfl hr9.out) rfl ⟨_, _, _, _, rfl, ((HI7.out).grown hg9.out (by omega)).mono (by omega), HB7.out.trans (below_grown hg9.out (by have := HB7.out.size; omega) (fun k hk => by injection hk with hk; omega))⟩
  have hm4 := HAM.out
  simp only [h4, h5, h6, if_false] at hm4
  have b4 : (x1 == 4) = false := by simp [h4]
  have b5 : (x1 == 5) = false := by simp [h5]
  have b6 : (x1 == 6) = false := by simp [h6]
  have hg6 : w.heap.size + 1 < w6.heap.size := by omega
  rcases HFI.out with ⟨hat, hfi⟩ | ⟨i, hat, hfi, hil⟩
  · rw [hfi]
    have hAE := HAE.out
    rw [hat] at hAE
    simp only at hAE
    by_cases h1 : x1 = 1
    · subst h1
      rw [if_pos rfl] at hAE
      rw [hAE] at hm4
      subst hm4
      have HIL1 := Lib.hid (HIL.out ⟨x2, x3, -1, 0, false⟩)
      go_wp2_with fail
      refine (FE.out w6 _ _ HI6.out.entriesA).mono ?_
      rintro e w7 ⟨v', rfl, hown7, hb7⟩
      obtain ⟨B7, d7, rfl⟩ := own_slice hown7
      have hsz7 := hb7.size
      have HI7 := Lib.hid (HI6.out.newE hb7 (by rw [HIL1.out]; exact own_base hown7 (by omega)))
      have hri7 := (hb7.block (w.heap.size + 1) (by omega)).trans HRI6.out
      have HR7 := Lib.hid ((hb7.block (w.heap.size + 3) (by omega)).trans HR6.out.2)
      have HB7 := Lib.hid (HB6.out.trans (hb7.mono (by have := HB6.out.size; omega)))
      clear hown7 hb7 q0 q1 q2 q3 z0 z1 z2 z3 z4
      go_wp2_with (with_reducible show wpList _ _ _ (Oper.mk _ (.store 30 _ _) _ _ _ _ :: _) _ _; refine Hid.out ?_)
      refine Lib.hid ?_
      refine wpList_putCell rfl 30 _ _ rfl (w.heap.size + 1) 3 (.slice B7 (me.length + 1) d7) _ _ 32 rfl rfl hri7 (by kernel_rfl) (by simp) rfl rfl rfl ?_
      intro w8 hr8 hg8
      have hsz8 := hg8.out.size
      have hri8 : w8.heap[w.heap.size + 1]? = some (.cells #[.slice B1 mp.length d1, .slice B2 mf.length d2, .slice B3 ml.length d3, .slice B7 (me.length + 1) d7] 32 (0, 0)) := hr8.out
      have hr4 := (hg8.out.block (w.heap.size + 3) (by omega) (by simp)).trans HR7.out
      have HB8 := Lib.hid (HB7.out.trans (below_grown hg8.out (by have := HB7.out.size; omega) (fun k hk => by injection hk with hk; omega)))
      have HI8 := Lib.hid (HI7.out.grown hg8.out (by omega))
      obtain ⟨t0, t1, t2, t3⟩ := imRowCells hri8
      go_wp2_with (with_reducible show wpList _ _ _ (Oper.mk _ (.store 32 _ _) _ _ _ _ :: _) _ _; refine Hid.out ?_)
      refine Lib.hid ?_
      refine wpList_put rfl 32 _ _ rfl (w.heap.size + 3) #[.slice B1 mp.length d1, .slice B2 mf.length d2, .slice B3 ml.length d3, .slice B7 (me.length + 1) d7] _ 32 rfl rfl hr4 (by kernel_rfl) rfl (by kernel_rfl) ?_
      intro w9 hr9 hg9
      go_wp2_with fail
      exact bodyPost_ret (resultsI Try.results18 _ _ _ _ _ _ _ _ rfl rfl hr9.out) rfl ⟨_, _, _, _, rfl, ((HI8.out).grown hg9.out (by omega)).mono (by omega), HB8.out.trans (below_grown hg9.out (by have := HB8.out.size; omega) (fun k hk => by injection hk with hk; omega))⟩
    · rw [if_neg h1] at hAE
      rw [hAE] at hm4
      subst hm4
      have b1 : (x1 == 1) = false := by simp [h1]
      obtain ⟨t0, t1, t2, t3⟩ := imRowCells HRI6.out
      go_wp2_with (with_reducible show wpList _ _ _ (Oper.mk _ (.store 32 _ _) _ _ _ _ :: _) _ _; refine Hid.out ?_)
      refine Lib.hid ?_
      refine wpList_put rfl 32 _ _ rfl (w.heap.size + 3) #[.slice B1 mp.length d1, .slice B2 mf.length d2, .slice B3 ml.length d3, .slice B4 me.length d4] _ 32 rfl rfl HR6.out.2 (by kernel_rfl) rfl (by kernel_rfl) ?_
      intro w9 hr9 hg9
      go_wp2_with fail
      exact bodyPost_ret (resultsI Try.results18 _ _ _ _ _ _ _ _ rfl rfl hr9.out) rfl ⟨_, _, _, _, rfl, ((HI6.out).grown hg9.out (by omega)).mono (by omega), HB6.out.trans (below_grown hg9.out (by have := HB6.out.size; omega) (fun k hk => by injection hk with hk; omega))⟩
  · rw [hfi]
    have hAE := HAE.out
    rw [hat] at hAE
    simp only at hAE
    have hneg : ¬ ((i : Int) < 0) := by omega
    have hnegB : decide ((i : Int) < 0) = false := decide_eq_false hneg
    have hlI : (i : Int) < (me.length : Int) := by omega
    obtain ⟨p4, rfl, hp1, hp2⟩ := own_some HI6.out.e (show 0 < me.length by omega)
    by_cases h2 : x1 = 2
    · subst h2
      rw [if_pos rfl] at hAE
      rw [hAE] at hm4
      subst hm4
      by_cases hde : d4 = i + 1
      · have hd1 : (d4 = i + 1) = True := eq_true hde
        have hd2 : (i + 1 = d4) = True := eq_true hde.symm
        have hncap := own_cap HI6.out.e
        have HEND := Lib.hid (show me.length = i + 1 by omega)
        have s1 : (0 : Int) ≤ (i : Int) + 1 := by omega
        have s2 : i ≤ me.length := by omega
        have s3 : i ≤ d4 := by omega
        have s4 : ((i : Int) + 1).toNat = i + 1 := by omega
        have s5 : (i : Int) + 1 ≤ (me.length : Int) := by omega
        have s6 : i + 1 ≤ me.length := by omega
        have s7 : (i : Int) ≤ (d4 : Int) := by omega
        have s8 : IntKind.i64.wrap ((i : Int) + 1) = (i : Int) + 1 := by rw [IntKind.wrap_i64]; omega
        have s9 : me.length ≤ d4 := by omega
        have s10 : ¬ (d4 = 0) := by omega
        have s11 : ¬ (d4 : Int) < (i : Int) := by omega
        have s12 : ¬ (me.length : Int) < (i : Int) + 1 := by omega
        have s13 : (me.length : Int) ≤ (d4 : Int) := by omega
        have s14 : (i : Int) ≤ (me.length : Int) := by omega
        have s15 : ¬ (i : Int) + 1 < 0 := by omega
        have HE6 := Lib.hid HI6.out.entries
        clear HS4 HIL FE HCAR hde hat hfi
        go_wp2_with fail
        refine ghostK [4, 10, 12] (fun p γ wx => Cq w6 (w.heap.size + 1) p4 me.length d4 (.slice B1 mp.length d1) (.slice B2 mf.length d2) (.slice B3 ml.length d3) i me p (γ 4) (γ 10) wx) (by kernel_rfl) (by kernel_rfl) (fun γ => Cq.start HI6.out.e HRI6.out) ?_
        apply GK.walk_quiet 2 12 rfl (by kernel_rfl) (by kernel_rfl) (by kernel_rfl) (fun γ => by rfl) (fun p γ wx w' h hb => h.below hb)
        · intro γ p wx hp hS K hK
          have HK2 := Lib.hid hK
          clear hK
          go_simp
          exact HK2.out _ (Below.refl _ _)
        try simp only [Act.put, List.setIfInBounds_toArray, List.set_cons_succ, List.set_cons_zero]
        apply GK.walk_quiet 2 12 rfl (by kernel_rfl) (by kernel_rfl) (by kernel_rfl) (fun γ => by rfl) (fun p γ wx w' h hb => h.below hb)
        · intro γ p wx hp hS K hK
          have hbx := hS.box
          rw [if_neg (by omega)] at hbx
          obtain ⟨q0, q1, q2, q3⟩ := imRowCells hbx
          have HK2 := Lib.hid hK
          clear hK
          go_simp
          exact HK2.out _ (Below.refl _ _)
        try simp only [Act.put, List.setIfInBounds_toArray, List.set_cons_succ, List.set_cons_zero]
        apply GK.walk_quiet 2 12 rfl (by kernel_rfl) (by kernel_rfl) (by kernel_rfl) (fun γ => by rfl) (fun p γ wx w' h hb => h.below hb)
        · intro γ p wx hp hS K hK
          have HK2 := Lib.hid hK
          clear hK
          go_simp
          exact HK2.out _ (Below.refl _ _)
        try simp only [Act.put, List.setIfInBounds_toArray, List.set_cons_succ, List.set_cons_zero]
        apply GK.walk_quiet 0 4 rfl (by kernel_rfl) (by kernel_rfl) (by kernel_rfl) (fun γ => by rfl) (fun p γ wx w' h hb => h.below hb)
        · intro γ p wx hp hS K hK
          have HK2 := Lib.hid hK
          clear hK
          go_simp
          exact HK2.out _ (Below.refl _ _)
        try simp only [Act.put, List.setIfInBounds_toArray, List.set_cons_succ, List.set_cons_zero]
        apply GK.walk_turn 0 rfl (by kernel_rfl) (by decide) (.inl rfl) (fun γ => by rfl)
        · intro γ wx hS K hK
          exact wp_append_src (.const (.slice none 0 0)) (.tmp 104) 30 rfl 71 i2 _ 5 40 Try.underlying30 hi2 hz2 hs2 hy2 rfl (by decide) rfl (some ⟨p4, 0, none⟩) i d4 (flatE (me.take i)) rfl (by rw [flatE_length, List.length_take, Nat.min_eq_left (by omega)]) (hS.srcTake (by omega)) (flatE_one _) (by omega) (by omega) (fun v' w' ho hb => hK v' w' (hS.step1 ho hb))
        try simp only [Act.put, List.setIfInBounds_toArray, List.set_cons_succ, List.set_cons_zero]
        apply GK.walk_quiet 2 12 rfl (by kernel_rfl) (by kernel_rfl) (by kernel_rfl) (fun γ => by rfl) (fun p γ wx w' h hb => h.below hb)
        · intro γ p wx hp hS K hK
          have HK2 := Lib.hid hK
          clear hK
          go_simp
          exact HK2.out _ (Below.refl _ _)
        try simp only [Act.put, List.setIfInBounds_toArray, List.set_cons_succ, List.set_cons_zero]
        apply GK.walk_quiet 2 12 rfl (by kernel_rfl) (by kernel_rfl) (by kernel_rfl) (fun γ => by rfl) (fun p γ wx w' h hb => h.below hb)
        · intro γ p wx hp hS K hK
          have hbx := hS.box
          rw [if_neg (by omega)] at hbx
          obtain ⟨q0, q1, q2, q3⟩ := imRowCells hbx
          have HK2 := Lib.hid hK
          clear hK
          go_simp
          exact HK2.out _ (Below.refl _ _)
        try simp only [Act.put, List.setIfInBounds_toArray, List.set_cons_succ, List.set_cons_zero]
        apply GK.walk_quiet 2 12 rfl (by kernel_rfl) (by kernel_rfl) (by kernel_rfl) (fun γ => by rfl) (fun p γ wx w' h hb => h.below hb)
        · intro γ p wx hp hS K hK
          have HK2 := Lib.hid hK
          clear hK
          go_simp
          exact HK2.out _ (Below.refl _ _)
        try simp only [Act.put, List.setIfInBounds_toArray, List.set_cons_succ, List.set_cons_zero]
        apply GK.walk_quiet 2 12 rfl (by kernel_rfl) (by kernel_rfl) (by kernel_rfl) (fun γ => by rfl) (fun p γ wx w' h hb => h.below hb)
        · intro γ p wx hp hS K hK
          have HK2 := Lib.hid hK
          clear hK
          go_simp
          exact HK2.out _ (Below.refl _ _)
        try simp only [Act.put, List.setIfInBounds_toArray, List.set_cons_succ, List.set_cons_zero]
        apply GK.walk_quiet 1 10 rfl (by kernel_rfl) (by kernel_rfl) (by kernel_rfl) (fun γ => by rfl) (fun p γ wx w' h hb => h.below hb)
        · intro γ p wx hp hS K hK
          have HK2 := Lib.hid hK
          clear hK
          go_simp
          exact HK2.out _ (Below.refl _ _)
        try simp only [Act.put, List.setIfInBounds_toArray, List.set_cons_succ, List.set_cons_zero]
        apply GK.walk_turn 1 rfl (by kernel_rfl) (by decide) (.inr ⟨4, rfl, by kernel_rfl⟩) (fun γ => by rfl)
        · intro γ wx hS K hK
          exact wp_append_own wx (.tmp 105) (.tmp 110) 30 rfl w6.heap.size 71 i2 _ 5 40 Try.underlying30 hi2 hz2 hs2 hy2 rfl (by decide) (γ 4) i (flatE (me.take i)) rfl (hS.o1 rfl) ⟨p4, 0, none⟩ (me.length - (i + 1)) (d4 - (i + 1)) (flatE (me.drop (i + 1))) rfl (by rw [flatE_length, List.length_drop]) (hS.srcEnd HEND.out) (flatE_one _) (by unfold maxLen; omega) (by omega) hS.grown.size (fun v' w' ho hgr _ => hK v' w' (hS.step2 hg6 hp2 rfl hil ho hgr))
        try simp only [Act.put, List.setIfInBounds_toArray, List.set_cons_succ, List.set_cons_zero]
        apply GK.walk_quiet 2 12 rfl (by kernel_rfl) (by kernel_rfl) (by kernel_rfl) (fun γ => by rfl) (fun p γ wx w' h hb => h.below hb)
        · intro γ p wx hp hS K hK
          have HK2 := Lib.hid hK
          clear hK
          go_simp
          exact HK2.out _ (Below.refl _ _)
        try simp only [Act.put, List.setIfInBounds_toArray, List.set_cons_succ, List.set_cons_zero]
        apply GK.walk_turn 2 rfl (by kernel_rfl) (by decide) (.inr ⟨10, rfl, by kernel_rfl⟩) (fun γ => by rfl)
        · intro γ wx hS K hK
          obtain ⟨B, dd, e⟩ := own_slice (hS.o2 (by decide))
          exact wp_putCell 30 (.tmp 112) (.tmp 111) rfl (w.heap.size + 1) 3 (γ 10) _ _ 32 rfl rfl hS.box (by kernel_rfl) (by simp) (by rw [e]; rfl) (by rw [e]; rfl) rfl (fun w' hr hgr => hK undef w' (hS.step3 hg6 (by omega) hr hgr (Nat.lt_of_lt_of_le hp2 hS.grown.size)))
        try simp only [Act.put]
        refine GhostV.walk_nil (fun γ L w7 hall hx => ?_)
        have hCq : Cq w6 (w.heap.size + 1) p4 me.length d4 (.slice B1 mp.length d1) (.slice B2 mf.length d2) (.slice B3 ml.length d3) i me 3 (γ 4) (γ 10) w7 := hx.done (fun t ht => hall t (by simp only [List.mem_cons, List.not_mem_nil, or_false] at ht; rcases ht with rfl | rfl | rfl <;> decide))
        clear hx hall
        generalize γ 10 = v10 at *
        generalize γ 4 = v4' at *
        obtain ⟨B7, d7, rfl⟩ := own_slice (hCq.o2 (by decide))
        have hsz7 := hCq.grown.size
        have hri7 : w7.heap[w.heap.size + 1]? = some (.cells #[.slice B1 mp.length d1, .slice B2 mf.length d2, .slice B3 ml.length d3, .slice B7 (me.length - 1) d7] 32 (0, 0)) := hCq.box
        have hr4 := (hCq.grown.block (w.heap.size + 3) (by omega) (by simp)).trans HR6.out.2
        have HB7 := Lib.hid (HB6.out.trans (below_grown hCq.grown (by have := HB6.out.size; omega) (fun k hk => by injection hk with hk; omega)))
        have hle : (me.eraseIdx i).length = me.length - 1 := by rw [List.length_eraseIdx, if_pos hil]
        have ho7 := hCq.o2 (by decide)
        rw [← hle] at ho7
        have HI7 := Lib.hid ((HI6.out.grown hCq.grown (by omega)).newE (Below.refl _ _) (own_base ho7 (by omega)))
        rw [hle] at HI7
        clear hCq ho7
        obtain ⟨t0, t1, t2, t3⟩ := imRowCells hri7
        go_wp2_with (with_reducible show wpList _ _ _ (Oper.mk _ (.store 32 _ _) _ _ _ _ :: _) _ _; refine Hid.out ?_)
        refine Lib.hid ?_
        refine wpList_put rfl 32 _ _ rfl (w.heap.size + 3) #[.slice B1 mp.length d1, .slice B2 mf.length d2, .slice B3 ml.length d3, .slice B7 (me.length - 1) d7] _ 32 rfl rfl hr4 (by kernel_rfl) rfl (by kernel_rfl) ?_
        intro w9 hr9 hg9
        go_wp2_with fail
        exact bodyPost_ret (resultsI Try.results18 _ _ _ _ _ _ _ _ rfl rfl hr9.out) rfl ⟨_, _, _, _, rfl, ((HI7.out).grown hg9.out (by omega)).mono (by omega), HB7.out.trans (below_grown hg9.out (by have := HB7.out.size; omega) (fun k hk => by injection hk with hk; omega))⟩
      · have hd1 : ¬ (d4 = i + 1) := hde
        have hd2 : ¬ (i + 1 = d4) := fun e => hde e.symm
        have hncap := own_cap HI6.out.e
        have HZ := Lib.hid True.intro
        have s1 : (0 : Int) ≤ (i : Int) + 1 := by omega
        have s2 : i ≤ me.length := by omega
        have s3 : i ≤ d4 := by omega
        have s4 : ((i : Int) + 1).toNat = i + 1 := by omega
        have s5 : (i : Int) + 1 ≤ (me.length : Int) := by omega
        have s6 : i + 1 ≤ me.length := by omega
        have s7 : (i : Int) ≤ (d4 : Int) := by omega
        have s8 : IntKind.i64.wrap ((i : Int) + 1) = (i : Int) + 1 := by rw [IntKind.wrap_i64]; omega
        have s9 : me.length ≤ d4 := by omega
        have s10 : ¬ (d4 = 0) := by omega
        have s11 : ¬ (d4 : Int) < (i : Int) := by omega
        have s12 : ¬ (me.length : Int) < (i : Int) + 1 := by omega
        have s13 : (me.length : Int) ≤ (d4 : Int) := by omega
        have s14 : (i : Int) ≤ (me.length : Int) := by omega
        have s15 : ¬ (i : Int) + 1 < 0 := by omega
        have HE6 := Lib.hid HI6.out.entries
        clear HS4 HIL FE HCAR hde hat hfi
        go_wp2_with fail
        refine ghostK [4, 10, 12] (fun p γ wx => Cq w6 (w.heap.size + 1) p4 me.length d4 (.slice B1 mp.length d1) (.slice B2 mf.length d2) (.slice B3 ml.length d3) i me p (γ 4) (γ 10) wx) (by kernel_rfl) (by kernel_rfl) (fun γ => Cq.start HI6.out.e HRI6.out) ?_
        apply GK.walk_quiet 2 12 rfl (by kernel_rfl) (by kernel_rfl) (by kernel_rfl) (fun γ => by rfl) (fun p γ wx w' h hb => h.below hb)
        · intro γ p wx hp hS K hK
          have HK2 := Lib.hid hK
          clear hK
          go_simp
          exact HK2.out _ (Below.refl _ _)
        try simp only [Act.put, List.setIfInBounds_toArray, List.set_cons_succ, List.set_cons_zero]
        apply GK.walk_quiet 2 12 rfl (by kernel_rfl) (by kernel_rfl) (by kernel_rfl) (fun γ => by rfl) (fun p γ wx w' h hb => h.below hb)
        · intro γ p wx hp hS K hK
          have hbx := hS.box
          rw [if_neg (by omega)] at hbx
          obtain ⟨q0, q1, q2, q3⟩ := imRowCells hbx
          have HK2 := Lib.hid hK
          clear hK
          go_simp
          exact HK2.out _ (Below.refl _ _)
        try simp only [Act.put, List.setIfInBounds_toArray, List.set_cons_succ, List.set_cons_zero]
        apply GK.walk_quiet 2 12 rfl (by kernel_rfl) (by kernel_rfl) (by kernel_rfl) (fun γ => by rfl) (fun p γ wx w' h hb => h.below hb)
        · intro γ p wx hp hS K hK
          have HK2 := Lib.hid hK
          clear hK
          go_simp
          exact HK2.out _ (Below.refl _ _)
        try simp only [Act.put, List.setIfInBounds_toArray, List.set_cons_succ, List.set_cons_zero]
        apply GK.walk_quiet 0 4 rfl (by kernel_rfl) (by kernel_rfl) (by kernel_rfl) (fun γ => by rfl) (fun p γ wx w' h hb => h.below hb)
        · intro γ p wx hp hS K hK
          have HK2 := Lib.hid hK
          clear hK
          go_simp
          exact HK2.out _ (Below.refl _ _)
        try simp only [Act.put, List.setIfInBounds_toArray, List.set_cons_succ, List.set_cons_zero]
        apply GK.walk_turn 0 rfl (by kernel_rfl) (by decide) (.inl rfl) (fun γ => by rfl)
        · intro γ wx hS K hK
          exact wp_append_src (.const (.slice none 0 0)) (.tmp 104) 30 rfl 71 i2 _ 5 40 Try.underlying30 hi2 hz2 hs2 hy2 rfl (by decide) rfl (some ⟨p4, 0, none⟩) i d4 (flatE (me.take i)) rfl (by rw [flatE_length, List.length_take, Nat.min_eq_left (by omega)]) (hS.srcTake (by omega)) (flatE_one _) (by omega) (by omega) (fun v' w' ho hb => hK v' w' (hS.step1 ho hb))
        try simp only [Act.put, List.setIfInBounds_toArray, List.set_cons_succ, List.set_cons_zero]
        apply GK.walk_quiet 2 12 rfl (by kernel_rfl) (by kernel_rfl) (by kernel_rfl) (fun γ => by rfl) (fun p γ wx w' h hb => h.below hb)
        · intro γ p wx hp hS K hK
          have HK2 := Lib.hid hK
          clear hK
          go_simp
          exact HK2.out _ (Below.refl _ _)
        try simp only [Act.put, List.setIfInBounds_toArray, List.set_cons_succ, List.set_cons_zero]
        apply GK.walk_quiet 2 12 rfl (by kernel_rfl) (by kernel_rfl) (by kernel_rfl) (fun γ => by rfl) (fun p γ wx w' h hb => h.below hb)
        · intro γ p wx hp hS K hK
          have hbx := hS.box
          rw [if_neg (by omega)] at hbx
          obtain ⟨q0, q1, q2, q3⟩ := imRowCells hbx
          have HK2 := Lib.hid hK
          clear hK
          go_simp
          exact HK2.out _ (Below.refl _ _)
        try simp only [Act.put, List.setIfInBounds_toArray, List.set_cons_succ, List.set_cons_zero]
        apply GK.walk_quiet 2 12 rfl (by kernel_rfl) (by kernel_rfl) (by kernel_rfl) (fun γ => by rfl) (fun p γ wx w' h hb => h.below hb)
        · intro γ p wx hp hS K hK
          have HK2 := Lib.hid hK
          clear hK
          go_simp
          exact HK2.out _ (Below.refl _ _)
        try simp only [Act.put, List.setIfInBounds_toArray, List.set_cons_succ, List.set_cons_zero]
        apply GK.walk_quiet 2 12 rfl (by kernel_rfl) (by kernel_rfl) (by kernel_rfl) (fun γ => by rfl) (fun p γ wx w' h hb => h.below hb)
        · intro γ p wx hp hS K hK
          have HK2 := Lib.hid hK
          clear hK
          go_simp
          exact HK2.out _ (Below.refl _ _)
        try simp only [Act.put, List.setIfInBounds_toArray, List.set_cons_succ, List.set_cons_zero]
        apply GK.walk_quiet 1 10 rfl (by kernel_rfl) (by kernel_rfl) (by kernel_rfl) (fun γ => by rfl) (fun p γ wx w' h hb => h.below hb)
        · intro γ p wx hp hS K hK
          have HK2 := Lib.hid hK
          clear hK
          go_simp
          exact HK2.out _ (Below.refl _ _)
        try simp only [Act.put, List.setIfInBounds_toArray, List.set_cons_succ, List.set_cons_zero]
        apply GK.walk_turn 1 rfl (by kernel_rfl) (by decide) (.inr ⟨4, rfl, by kernel_rfl⟩) (fun γ => by rfl)
        · intro γ wx hS K hK
          exact wp_append_own wx (.tmp 105) (.tmp 110) 30 rfl w6.heap.size 71 i2 _ 5 40 Try.underlying30 hi2 hz2 hs2 hy2 rfl (by decide) (γ 4) i (flatE (me.take i)) rfl (hS.o1 rfl) ⟨p4, (i + 1) * 5, none⟩ (me.length - (i + 1)) (d4 - (i + 1)) (flatE (me.drop (i + 1))) rfl (by rw [flatE_length, List.length_drop]) (hS.srcDrop) (flatE_one _) (by unfold maxLen; omega) (by omega) hS.grown.size (fun v' w' ho hgr _ => hK v' w' (hS.step2 hg6 hp2 rfl hil ho hgr))
        try simp only [Act.put, List.setIfInBounds_toArray, List.set_cons_succ, List.set_cons_zero]
        apply GK.walk_quiet 2 12 rfl (by kernel_rfl) (by kernel_rfl) (by kernel_rfl) (fun γ => by rfl) (fun p γ wx w' h hb => h.below hb)
        · intro γ p wx hp hS K hK
          have HK2 := Lib.hid hK
          clear hK
          go_simp
          exact HK2.out _ (Below.refl _ _)
        try simp only [Act.put, List.setIfInBounds_toArray, List.set_cons_succ, List.set_cons_zero]
        apply GK.walk_turn 2 rfl (by kernel_rfl) (by decide) (.inr ⟨10, rfl, by kernel_rfl⟩) (fun γ => by rfl)
        · intro γ wx hS K hK
          obtain ⟨B, dd, e⟩ := own_slice (hS.o2 (by decide))
          exact wp_putCell 30 (.tmp 112) (.tmp 111) rfl (w.heap.size + 1) 3 (γ 10) _ _ 32 rfl rfl hS.box (by kernel_rfl) (by simp) (by rw [e]; rfl) (by rw [e]; rfl) rfl (fun w' hr hgr => hK undef w' (hS.step3 hg6 (by omega) hr hgr (Nat.lt_of_lt_of_le hp2 hS.grown.size)))
        try simp only [Act.put]
        refine GhostV.walk_nil (fun γ L w7 hall hx => ?_)
        have hCq : Cq w6 (w.heap.size + 1) p4 me.length d4 (.slice B1 mp.length d1) (.slice B2 mf.length d2) (.slice B3 ml.length d3) i me 3 (γ 4) (γ 10) w7 := hx.done (fun t ht => hall t (by simp only [List.mem_cons, List.not_mem_nil, or_false] at ht; rcases ht with rfl | rfl | rfl <;> decide))
        clear hx hall
        generalize γ 10 = v10 at *
        generalize γ 4 = v4' at *
        obtain ⟨B7, d7, rfl⟩ := own_slice (hCq.o2 (by decide))
        have hsz7 := hCq.grown.size
        have hri7 : w7.heap[w.heap.size + 1]? = some (.cells #[.slice B1 mp.length d1, .slice B2 mf.length d2, .slice B3 ml.length d3, .slice B7 (me.length - 1) d7] 32 (0, 0)) := hCq.box
        have hr4 := (hCq.grown.block (w.heap.size + 3) (by omega) (by simp)).trans HR6.out.2
        have HB7 := Lib.hid (HB6.out.trans (below_grown hCq.grown (by have := HB6.out.size; omega) (fun k hk => by injection hk with hk; omega)))
        have hle : (me.eraseIdx i).length = me.length - 1 := by rw [List.length_eraseIdx, if_pos hil]
        have ho7 := hCq.o2 (by decide)
        rw [← hle] at ho7
        have HI7 := Lib.hid ((HI6.out.grown hCq.grown (by omega)).newE (Below.refl _ _) (own_base ho7 (by omega)))
        rw [hle] at HI7
        clear hCq ho7
        obtain ⟨t0, t1, t2, t3⟩ := imRowCells hri7
        go_wp2_with (with_reducible show wpList _ _ _ (Oper.mk _ (.store 32 _ _) _ _ _ _ :: _) _ _; refine Hid.out ?_)
        refine Lib.hid ?_
        refine wpList_put rfl 32 _ _ rfl (w.heap.size + 3) #[.slice B1 mp.length d1, .slice B2 mf.length d2, .slice B3 ml.length d3, .slice B7 (me.length - 1) d7] _ 32 rfl rfl hr4 (by kernel_rfl) rfl (by kernel_rfl) ?_
        intro w9 hr9 hg9
        go_wp2_with fail
        exact bodyPost_ret (resultsI Try.results18 _ _ _ _ _ _ _ _ rfl rfl hr9.out) rfl ⟨_, _, _, _, rfl, ((HI7.out).grown hg9.out (by omega)).mono (by omega), HB7.out.trans (below_grown hg9.out (by have := HB7.out.size; omega) (fun k hk => by injection hk with hk; omega))⟩
    by_cases h3 : x1 = 3
    · subst h3
      rw [if_neg (by decide), if_pos rfl] at hAE
      rw [hAE] at hm4
      subst hm4
      have hbo := HI6.out.e.cellAt (i * 5 + 2) (by omega)
      have hfo := HI6.out.e.frozenAt (i * 5 + 2)
      have hst : (flatE me).set (i * 5 + 2) (.int .i64 x4) = flatE (me.modify i (fun e => { e with car := x4 })) := flatE_set me i 2 hil (by decide) _ _ rfl
      have HST := Lib.hid hst
      clear hst
      go_wp2_with (with_reducible show wpList _ _ _ (Oper.mk _ (.store 3 _ _) _ _ _ _ :: _) _ _; refine Hid.out ?_)
      refine Lib.hid ?_
      refine wpList_putOwn rfl 3 _ _ rfl (i * 5 + 2) (.int .i64 x4) (by first | rfl | simp) (by first | rfl | simp) HI6.out.e (by omega) (by kernel_rfl) rfl rfl ?_
      intro w7 hr7 hg7
      have hr7' := hr7.out
      rw [HST.out] at hr7'
      have HI7 := Lib.hid (HI6.out.setE (l := me.modify i (fun e => { e with car := x4 })) (by rw [List.length_modify]; exact hr7') hg7.out)
      have hsz7 := hg7.out.size
      have hri7 := (hg7.out.block (w.heap.size + 1) (by omega) (fun e => by injection e with e; omega)).trans HRI6.out
      have hr4 := (hg7.out.block (w.heap.size + 3) (by omega) (fun e => by injection e with e; omega)).trans HR6.out.2
      have HB7 := Lib.hid (HB6.out.trans (below_grown hg7.out (by have := HB6.out.size; omega) (fun k hk => by injection hk with hk; omega)))
      clear q0 q1 q2 q3 hbo hfo hr7' hr7
      obtain ⟨t0, t1, t2, t3⟩ := imRowCells hri7
      go_wp2_with (with_reducible show wpList _ _ _ (Oper.mk _ (.store 32 _ _) _ _ _ _ :: _) _ _; refine Hid.out ?_)
      refine Lib.hid ?_
      refine wpList_put rfl 32 _ _ rfl (w.heap.size + 3) #[.slice B1 mp.length d1, .slice B2 mf.length d2, .slice B3 ml.length d3, .slice (some ⟨p4, 0, none⟩) me.length d4] _ 32 rfl rfl hr4 (by kernel_rfl) rfl (by kernel_rfl) ?_
      intro w9 hr9 hg9
      go_wp2_with fail
      exact bodyPost_ret (resultsI Try.results18 _ _ _ _ _ _ _ _ rfl rfl hr9.out) rfl ⟨_, _, _, _, rfl, ((HI7.out).grown hg9.out (by omega)).mono (by omega), HB7.out.trans (below_grown hg9.out (by have := HB7.out.size; omega) (fun k hk => by injection hk with hk; omega))⟩
    by_cases h7 : x1 = 7
    · subst h7
      rw [if_neg (by decide), if_neg (by decide), if_pos rfl] at hAE
      rw [hAE] at hm4
      subst hm4
      have hst : ((flatE me).set (i * 5 + 3) (.int .i64 x5)).set (i * 5 + 4) (.bool (x4 == 1)) = flatE (me.modify i (fun e => { e with mv := x5, md := decide (x4 = 1) })) := by
        rw [flatE_set me i 3 hil (by decide) _ (fun e => { e with mv := x5 }) rfl, flatE_set _ i 4 (by rw [List.length_modify]; exact hil) (by decide) _ (fun e => { e with md := decide (x4 = 1) }) (by rw [show (x4 == 1) = decide (x4 = 1) by rw [Bool.eq_iff_iff]; simp]; rfl)]
        congr 1
        exact modify_modify me i _ _
      have HST := Lib.hid hst
      clear hst
      clear HS4 HIL FE HCAR
      go_wp2_with fail
      refine ghostK [13, 16] (fun p γ wx => Cm w6 p4 w2.heap.size me.length d4 (flatE me) (i * 5 + 3) (.int .i64 x5) (i * 5 + 4) (.bool (x4 == 1)) p wx) (by kernel_rfl) (by kernel_rfl) (fun γ => Cm.start HI6.out.e) ?_
      apply GK.walk_quiet 0 13 rfl (by kernel_rfl) (by kernel_rfl) (by kernel_rfl) (fun γ => by rfl) (fun p γ wx w' h hb => h.below hb)
      · intro γ p wx hp hS K hK
        have hsm := hS.same
        obtain ⟨q0, q1, q2, q3⟩ := imRowCells ((hsm (w.heap.size + 1) (by omega) (by omega)).trans HRI6.out)
        obtain ⟨z0, z1, z2, z3, z4⟩ := recRow (show wx.heap[w.heap.size + 1 + 1]? = _ from (hsm (w.heap.size + 2) (by omega) (by omega)).trans HR6.out.1)
        have HK2 := Lib.hid hK
        clear hK
        go_simp
        exact HK2.out _ (Below.refl _ _)
      try simp only [Act.put, List.setIfInBounds_toArray, List.set_cons_succ, List.set_cons_zero]
      apply GK.walk_quiet 0 13 rfl (by kernel_rfl) (by kernel_rfl) (by kernel_rfl) (fun γ => by rfl) (fun p γ wx w' h hb => h.below hb)
      · intro γ p wx hp hS K hK
        have hsm := hS.same
        obtain ⟨q0, q1, q2, q3⟩ := imRowCells ((hsm (w.heap.size + 1) (by omega) (by omega)).trans HRI6.out)
        obtain ⟨z0, z1, z2, z3, z4⟩ := recRow (show wx.heap[w.heap.size + 1 + 1]? = _ from (hsm (w.heap.size + 2) (by omega) (by omega)).trans HR6.out.1)
        have HK2 := Lib.hid hK
        clear hK
        go_simp
        exact HK2.out _ (Below.refl _ _)
      try simp only [Act.put, List.setIfInBounds_toArray, List.set_cons_succ, List.set_cons_zero]
      apply GK.walk_quiet 0 13 rfl (by kernel_rfl) (by kernel_rfl) (by kernel_rfl) (fun γ => by rfl) (fun p γ wx w' h hb => h.below hb)
      · intro γ p wx hp hS K hK
        have hsm := hS.same
        obtain ⟨q0, q1, q2, q3⟩ := imRowCells ((hsm (w.heap.size + 1) (by omega) (by omega)).trans HRI6.out)
        obtain ⟨z0, z1, z2, z3, z4⟩ := recRow (show wx.heap[w.heap.size + 1 + 1]? = _ from (hsm (w.heap.size + 2) (by omega) (by omega)).trans HR6.out.1)
        have HK2 := Lib.hid hK
        clear hK
        go_simp
        exact HK2.out _ (Below.refl _ _)
      try simp only [Act.put, List.setIfInBounds_toArray, List.set_cons_succ, List.set_cons_zero]
      apply GK.walk_quiet 1 16 rfl (by kernel_rfl) (by kernel_rfl) (by kernel_rfl) (fun γ => by rfl) (fun p γ wx w' h hb => h.below hb)
      · intro γ p wx hp hS K hK
        have hsm := hS.same
        obtain ⟨q0, q1, q2, q3⟩ := imRowCells ((hsm (w.heap.size + 1) (by omega) (by omega)).trans HRI6.out)
        obtain ⟨z0, z1, z2, z3, z4⟩ := recRow (show wx.heap[w.heap.size + 1 + 1]? = _ from (hsm (w.heap.size + 2) (by omega) (by omega)).trans HR6.out.1)
        have HK2 := Lib.hid hK
        clear hK
        go_simp
        exact HK2.out _ (Below.refl _ _)
      try simp only [Act.put, List.setIfInBounds_toArray, List.set_cons_succ, List.set_cons_zero]
      apply GK.walk_quiet 1 16 rfl (by kernel_rfl) (by kernel_rfl) (by kernel_rfl) (fun γ => by rfl) (fun p γ wx w' h hb => h.below hb)
      · intro γ p wx hp hS K hK
        have hsm := hS.same
        obtain ⟨q0, q1, q2, q3⟩ := imRowCells ((hsm (w.heap.size + 1) (by omega) (by omega)).trans HRI6.out)
        obtain ⟨z0, z1, z2, z3, z4⟩ := recRow (show wx.heap[w.heap.size + 1 + 1]? = _ from (hsm (w.heap.size + 2) (by omega) (by omega)).trans HR6.out.1)
        have HK2 := Lib.hid hK
        clear hK
        go_simp
        exact HK2.out _ (Below.refl _ _)
      try simp only [Act.put, List.setIfInBounds_toArray, List.set_cons_succ, List.set_cons_zero]
      apply GK.walk_quiet 1 16 rfl (by kernel_rfl) (by kernel_rfl) (by kernel_rfl) (fun γ => by rfl) (fun p γ wx w' h hb => h.below hb)
      · intro γ p wx hp hS K hK
        have hsm := hS.same
        obtain ⟨q0, q1, q2, q3⟩ := imRowCells ((hsm (w.heap.size + 1) (by omega) (by omega)).trans HRI6.out)
        obtain ⟨z0, z1, z2, z3, z4⟩ := recRow (show wx.heap[w.heap.size + 1 + 1]? = _ from (hsm (w.heap.size + 2) (by omega) (by omega)).trans HR6.out.1)
        have HK2 := Lib.hid hK
        clear hK
        go_simp
        exact HK2.out _ (Below.refl _ _)
      try simp only [Act.put, List.setIfInBounds_toArray, List.set_cons_succ, List.set_cons_zero]
      apply GK.walk_quiet 0 13 rfl (by kernel_rfl) (by kernel_rfl) (by kernel_rfl) (fun γ => by rfl) (fun p γ wx w' h hb => h.below hb)
      · intro γ p wx hp hS K hK
        have hsm := hS.same
        obtain ⟨q0, q1, q2, q3⟩ := imRowCells ((hsm (w.heap.size + 1) (by omega) (by omega)).trans HRI6.out)
        obtain ⟨z0, z1, z2, z3, z4⟩ := recRow (show wx.heap[w.heap.size + 1 + 1]? = _ from (hsm (w.heap.size + 2) (by omega) (by omega)).trans HR6.out.1)
        have HK2 := Lib.hid hK
        clear hK
        go_simp
        exact HK2.out _ (Below.refl _ _)
      try simp only [Act.put, List.setIfInBounds_toArray, List.set_cons_succ, List.set_cons_zero]
      apply GK.walk_quiet 0 13 rfl (by kernel_rfl) (by kernel_rfl) (by kernel_rfl) (fun γ => by rfl) (fun p γ wx w' h hb => h.below hb)
      · intro γ p wx hp hS K hK
        have hsm := hS.same
        obtain ⟨q0, q1, q2, q3⟩ := imRowCells ((hsm (w.heap.size + 1) (by omega) (by omega)).trans HRI6.out)
        obtain ⟨z0, z1, z2, z3, z4⟩ := recRow (show wx.heap[w.heap.size + 1 + 1]? = _ from (hsm (w.heap.size + 2) (by omega) (by omega)).trans HR6.out.1)
        have HK2 := Lib.hid hK
        clear hK
        go_simp
        exact HK2.out _ (Below.refl _ _)
      try simp only [Act.put, List.setIfInBounds_toArray, List.set_cons_succ, List.set_cons_zero]
      apply GK.walk_quiet 1 16 rfl (by kernel_rfl) (by kernel_rfl) (by kernel_rfl) (fun γ => by rfl) (fun p γ wx w' h hb => h.below hb)
      · intro γ p wx hp hS K hK
        have hsm := hS.same
        obtain ⟨q0, q1, q2, q3⟩ := imRowCells ((hsm (w.heap.size + 1) (by omega) (by omega)).trans HRI6.out)
        obtain ⟨z0, z1, z2, z3, z4⟩ := recRow (show wx.heap[w.heap.size + 1 + 1]? = _ from (hsm (w.heap.size + 2) (by omega) (by omega)).trans HR6.out.1)
        have HK2 := Lib.hid hK
        clear hK
        go_simp
        exact HK2.out _ (Below.refl _ _)
      try simp only [Act.put, List.setIfInBounds_toArray, List.set_cons_succ, List.set_cons_zero]
      apply GK.walk_quiet 1 16 rfl (by kernel_rfl) (by kernel_rfl) (by kernel_rfl) (fun γ => by rfl) (fun p γ wx w' h hb => h.below hb)
      · intro γ p wx hp hS K hK
        have hsm := hS.same
        obtain ⟨q0, q1, q2, q3⟩ := imRowCells ((hsm (w.heap.size + 1) (by omega) (by omega)).trans HRI6.out)
        obtain ⟨z0, z1, z2, z3, z4⟩ := recRow (show wx.heap[w.heap.size + 1 + 1]? = _ from (hsm (w.heap.size + 2) (by omega) (by omega)).trans HR6.out.1)
        have HK2 := Lib.hid hK
        clear hK
        go_simp
        exact HK2.out _ (Below.refl _ _)
      try simp only [Act.put, List.setIfInBounds_toArray, List.set_cons_succ, List.set_cons_zero]
      apply GK.walk_quiet 1 16 rfl (by kernel_rfl) (by kernel_rfl) (by kernel_rfl) (fun γ => by rfl) (fun p γ wx w' h hb => h.below hb)
      · intro γ p wx hp hS K hK
        have hsm := hS.same
        obtain ⟨q0, q1, q2, q3⟩ := imRowCells ((hsm (w.heap.size + 1) (by omega) (by omega)).trans HRI6.out)
        obtain ⟨z0, z1, z2, z3, z4⟩ := recRow (show wx.heap[w.heap.size + 1 + 1]? = _ from (hsm (w.heap.size + 2) (by omega) (by omega)).trans HR6.out.1)
        have HK2 := Lib.hid hK
        clear hK
        go_simp
        exact HK2.out _ (Below.refl _ _)
      try simp only [Act.put, List.setIfInBounds_toArray, List.set_cons_succ, List.set_cons_zero]
      apply GK.walk_quiet 1 16 rfl (by kernel_rfl) (by kernel_rfl) (by kernel_rfl) (fun γ => by rfl) (fun p γ wx w' h hb => h.below hb)
      · intro γ p wx hp hS K hK
        have hsm := hS.same
        obtain ⟨q0, q1, q2, q3⟩ := imRowCells ((hsm (w.heap.size + 1) (by omega) (by omega)).trans HRI6.out)
        obtain ⟨z0, z1, z2, z3, z4⟩ := recRow (show wx.heap[w.heap.size + 1 + 1]? = _ from (hsm (w.heap.size + 2) (by omega) (by omega)).trans HR6.out.1)
        have HK2 := Lib.hid hK
        clear hK
        go_simp
        exact HK2.out _ (Below.refl _ _)
      try simp only [Act.put, List.setIfInBounds_toArray, List.set_cons_succ, List.set_cons_zero]
      apply GK.walk_quiet 0 13 rfl (by kernel_rfl) (by kernel_rfl) (by kernel_rfl) (fun γ => by rfl) (fun p γ wx w' h hb => h.below hb)
      · intro γ p wx hp hS K hK
        have hsm := hS.same
        obtain ⟨q0, q1, q2, q3⟩ := imRowCells ((hsm (w.heap.size + 1) (by omega) (by omega)).trans HRI6.out)
        obtain ⟨z0, z1, z2, z3, z4⟩ := recRow (show wx.heap[w.heap.size + 1 + 1]? = _ from (hsm (w.heap.size + 2) (by omega) (by omega)).trans HR6.out.1)
        have HK2 := Lib.hid hK
        clear hK
        go_simp
        exact HK2.out _ (Below.refl _ _)
      try simp only [Act.put, List.setIfInBounds_toArray, List.set_cons_succ, List.set_cons_zero]
      apply GK.walk_turn 0 rfl (by kernel_rfl) (by decide) (.inl rfl) (fun γ => by rfl)
      · intro γ wx hS K hK
        exact wp_putOwn 3 (.tmp 140) (.tmp 135) rfl (i * 5 + 3) (.int .i64 x5) (by first | rfl | simp) (by first | rfl | simp) hS.own (by omega) (by kernel_rfl) rfl rfl (fun w' hr hgr => hK undef w' (hS.step1 hr hgr))
      try simp only [Act.put]
      apply GK.walk_free (by kernel_rfl) (fun γ => by rfl) (fun p γ wx w' h hb => h.below hb)
      · intro γ p wx hS K hK
        have hsm := hS.same
        obtain ⟨q0, q1, q2, q3⟩ := imRowCells ((hsm (w.heap.size + 1) (by omega) (by omega)).trans HRI6.out)
        obtain ⟨z0, z1, z2, z3, z4⟩ := recRow (show wx.heap[w.heap.size + 1 + 1]? = _ from (hsm (w.heap.size + 2) (by omega) (by omega)).trans HR6.out.1)
        have HK2 := Lib.hid hK
        clear hK
        go_simp
        exact HK2.out _ (Below.refl _ _)
      try simp only [Act.put, List.setIfInBounds_toArray, List.set_cons_succ, List.set_cons_zero]
      apply GK.walk_quiet 1 16 rfl (by kernel_rfl) (by kernel_rfl) (by kernel_rfl) (fun γ => by rfl) (fun p γ wx w' h hb => h.below hb)
      · intro γ p wx hp hS K hK
        have hsm := hS.same
        obtain ⟨q0, q1, q2, q3⟩ := imRowCells ((hsm (w.heap.size + 1) (by omega) (by omega)).trans HRI6.out)
        obtain ⟨z0, z1, z2, z3, z4⟩ := recRow (show wx.heap[w.heap.size + 1 + 1]? = _ from (hsm (w.heap.size + 2) (by omega) (by omega)).trans HR6.out.1)
        have HK2 := Lib.hid hK
        clear hK
        go_simp
        exact HK2.out _ (Below.refl _ _)
      try simp only [Act.put, List.setIfInBounds_toArray, List.set_cons_succ, List.set_cons_zero]
      apply GK.walk_turn 1 rfl (by kernel_rfl) (by decide) (.inr ⟨13, rfl, by kernel_rfl⟩) (fun γ => by rfl)
      · intro γ wx hS K hK
        exact wp_putOwn 4 (.tmp 142) (.tmp 138) rfl (i * 5 + 4) (.bool (x4 == 1)) (by first | rfl | simp) (by first | rfl | simp) hS.own (by omega) (by kernel_rfl) rfl rfl (fun w' hr hgr => hK undef w' (hS.step2 hr hgr))
      try simp only [Act.put]
      refine GhostV.walk_nil (fun γ L w7 hall hx => ?_)
      have hCm : Cm w6 p4 w2.heap.size me.length d4 (flatE me) (i * 5 + 3) (.int .i64 x5) (i * 5 + 4) (.bool (x4 == 1)) 2 w7 := hx.done (fun t ht => hall t (by simp only [List.mem_cons, List.not_mem_nil, or_false] at ht; rcases ht with rfl | rfl <;> decide))
      clear hx hall
      have ho7 := hCm.own
      rw [if_pos (by decide), HST.out] at ho7
      have HI7 := Lib.hid (HI6.out.setE (l := me.modify i (fun e => { e with mv := x5, md := decide (x4 = 1) })) (by rw [List.length_modify]; exact ho7) hCm.grown)
      have hsz7 := hCm.grown.size
      have hri7 := (hCm.same (w.heap.size + 1) (by omega) (by omega)).trans HRI6.out
      have hr4 := (hCm.same (w.heap.size + 3) (by omega) (by omega)).trans HR6.out.2
      have HB7 := Lib.hid (HB6.out.trans (below_grown hCm.grown (by have := HB6.out.size; omega) (fun k hk => by injection hk with hk; omega)))
      clear hCm ho7 q0 q1 q2 q3
      obtain ⟨t0, t1, t2, t3⟩ := imRowCells hri7
      go_wp2_with (with_reducible show wpList _ _ _ (Oper.mk _ (.store 32 _ _) _ _ _ _ :: _) _ _; refine Hid.out ?_)
      refine Lib.hid ?_
      refine wpList_put rfl 32 _ _ rfl (w.heap.size + 3) #[.slice B1 mp.length d1, .slice B2 mf.length d2, .slice B3 ml.length d3, .slice (some ⟨p4, 0, none⟩) me.length d4] _ 32 rfl rfl hr4 (by kernel_rfl) rfl (by kernel_rfl) ?_
      intro w9 hr9 hg9
      go_wp2_with fail
      exact bodyPost_ret (resultsI Try.results18 _ _ _ _ _ _ _ _ rfl rfl hr9.out) rfl ⟨_, _, _, _, rfl, ((HI7.out).grown hg9.out (by omega)).mono (by omega), HB7.out.trans (below_grown hg9.out (by have := HB7.out.size; omega) (fun k hk => by injection hk with hk; omega))⟩
    · rw [if_neg h2, if_neg h3, if_neg h7] at hAE
      rw [hAE] at hm4
      subst hm4
      have b2 : (x1 == 2) = false := by simp [h2]
      have b3 : (x1 == 3) = false := by simp [h3]
      have b7 : (x1 == 7) = false := by simp [h7]
      by_cases h1 : x1 = 1
      · subst h1
        obtain ⟨t0, t1, t2, t3⟩ := imRowCells HRI6.out
        go_wp2_with (with_reducible show wpList _ _ _ (Oper.mk _ (.store 32 _ _) _ _ _ _ :: _) _ _; refine Hid.out ?_)
        refine Lib.hid ?_
        refine wpList_put rfl 32 _ _ rfl (w.heap.size + 3) #[.slice B1 mp.length d1, .slice B2 mf.length d2, .slice B3 ml.length d3, .slice (some ⟨p4, 0, none⟩) me.length d4] _ 32 rfl rfl HR6.out.2 (by kernel_rfl) rfl (by kernel_rfl) ?_
        intro w9 hr9 hg9
        go_wp2_with fail
        exact bodyPost_ret (resultsI Try.results18 _ _ _ _ _ _ _ _ rfl rfl hr9.out) rfl ⟨_, _, _, _, rfl, ((HI6.out).grown hg9.out (by omega)).mono (by omega), HB6.out.trans (below_grown hg9.out (by have := HB6.out.size; omega) (fun k hk => by injection hk with hk; omega))⟩
      · have b1 : (x1 == 1) = false := by simp [h1]
        obtain ⟨t0, t1, t2, t3⟩ := imRowCells HRI6.out
        go_wp2_with (with_reducible show wpList _ _ _ (Oper.mk _ (.store 32 _ _) _ _ _ _ :: _) _ _; refine Hid.out ?_)
        refine Lib.hid ?_
        refine wpList_put rfl 32 _ _ rfl (w.heap.size + 3) #[.slice B1 mp.length d1, .slice B2 mf.length d2, .slice B3 ml.length d3, .slice (some ⟨p4, 0, none⟩) me.length d4] _ 32 rfl rfl HR6.out.2 (by kernel_rfl) rfl (by kernel_rfl) ?_
        intro w9 hr9 hg9
        go_wp2_with fail
        exact bodyPost_ret (resultsI Try.results18 _ _ _ _ _ _ _ _ rfl rfl hr9.out) rfl ⟨_, _, _, _, rfl, ((HI6.out).grown hg9.out (by omega)).mono (by omega), HB6.out.trans (below_grown hg9.out (by have := HB6.out.size; omega) (fun k hk => by injection hk with hk; omega))⟩
end Go.Proofs.Ytifbkoaggjikpaa
