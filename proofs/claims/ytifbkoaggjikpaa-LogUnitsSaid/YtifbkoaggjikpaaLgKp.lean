/- What a law of the journal needs beside calls: boxes of images and stores. No statement of the seat is proved here. -/
import Derived.Test.YtifbkoaggjikpaaLgRefApp
import Derived.Test.YtifbkoaggjikpaaGhostM
namespace Go.Proofs.Ytifbkoaggjikpaa
open Go.RowKit GhostV Bag Lg Img

theorem RAt.imPut {w w' : World} {xA : Option Addr} {l : List Rc} {g : Nat} {a1 a2 a3 a4 : Option Addr} {n1 n2 n3 n4 c1 c2 c3 c4 : Nat} (h : RAt w xA l) (hr : w.heap[g]? = some (.cells #[.slice a1 n1 c1, .slice a2 n2 c2, .slice a3 n3 c3, .slice a4 n4 c4] 32 (0, 0)))
    (hg : w.grownBy w' (some g)) : RAt w' xA l := by
  cases l with
  | nil => exact .inl rfl
  | cons x l =>
    obtain ⟨b, off, hA, hb, c0, -, -, -, -⟩ := h.at_ (k := 0) (by simp)
    have hne : b ≠ g := fun e => by
      subst e
      have := cell_of_row w b (off + 0 * 5) _ _ (0, 0) hr
      rw [c0] at this
      rcases (show off = 0 ∨ off = 1 ∨ off = 2 ∨ off = 3 ∨ 4 ≤ off by omega) with rfl | rfl | rfl | rfl | h4
      · simp at this
      · simp at this
      · simp at this
      · simp at this
      · rw [Array.getElem?_eq_none (by simp; omega)] at this
        cases this
    rcases h with h | ⟨b', off', hA', hrng⟩
    · cases h
    · rw [hA] at hA'
      injection hA' with hA'
      injection hA' with q1 q2
      subst q1
      subst q2
      refine .inr ⟨b, off, hA, fun j v hv => ?_⟩
      rw [← hrng j v hv]
      unfold World.cell?
      simp only [hg.block b hb (fun e => hne (Option.some.inj e))]
theorem IOwn.imKept {w w' : World} {base g : Nat} {pv fv lv ev : Value} {m : Img} {c : Array Value} (h : IOwn w base pv fv lv ev m) (hr : w.heap[g]? = some (.cells c 32 (0, 0))) (hg : w.grownBy w' (some g)) : IOwn w' base pv fv lv ev m :=
  ⟨own_kept h.p hg (fun k hk => by obtain rfl : g = k := Option.some.inj hk; exact own_not h.p hr (by decide)), own_kept h.f hg (fun k hk => by obtain rfl : g = k := Option.some.inj hk; exact own_not h.f hr (by decide)), own_kept h.l hg (fun k hk => by obtain rfl : g = k := Option.some.inj hk; exact own_not h.l hr (by decide)), own_kept h.e hg (fun k hk => by obtain rfl : g = k := Option.some.inj hk; exact own_not h.e hr (by decide)), h.ne⟩
structure Sb (W1 : World) (m : Img) (er : Int) (p : Nat) (x y z u : Value) (la : Bool) (wx : World) : Prop where
  bl : Below W1.heap.size W1 wx
  al : la = true → ∃ g cs, u = .pointer (some ⟨g, 0, none⟩) ∧ W1.heap.size ≤ g ∧ wx.heap[g]? = some (.cells cs 32 (0, 0)) ∧ cs.size = 4
  o : 4 ≤ p → la = true
  c : 1 ≤ p → ∃ pv fv lv ev, IOwn wx W1.heap.size pv fv lv ev m ∧ x = .tuple #[.agg #[pv, fv, lv, ev], .int .i64 er] ∧ (2 ≤ p → y = x) ∧ (3 ≤ p → z = .agg #[pv, fv, lv, ev]) ∧ (4 ≤ p → ∃ g, u = .pointer (some ⟨g, 0, none⟩) ∧ W1.heap.size ≤ g ∧ wx.heap[g]? = some (.cells #[pv, fv, lv, ev] 32 (0, 0)))
namespace Sb
variable {W1 wx w' : World} {m : Img} {er : Int} {p : Nat} {x y z u : Value} {la : Bool}
theorem start {d : Nat} : Sb W1 m er 0 x y z u false { W1 with drawn := d } := ⟨⟨rfl, rfl, rfl, Nat.le_refl _, fun _ _ => rfl⟩, fun h => absurd h (by decide), fun h => absurd h (by decide), fun h => absurd h (by decide)⟩
theorem keep {g : Nat} {r : Obj} (hr : wx.heap[g]? = some r) (hb : Below wx.heap.size wx w') : w'.heap[g]? = some r := (hb.block g (Array.getElem?_eq_some_iff.1 hr).1).trans hr
theorem below (h : Sb W1 m er p x y z u la wx) (hb : Below wx.heap.size wx w') : Sb W1 m er p x y z u la w' :=
  ⟨h.bl.trans (hb.mono h.bl.size), fun q => by obtain ⟨g, cs, h1, h2, h3, h4⟩ := h.al q; exact ⟨g, cs, h1, h2, keep h3 hb, h4⟩, h.o, fun q => by
    obtain ⟨pv, fv, lv, ev, h1, h2, h3, h4, h5⟩ := h.c q
    exact ⟨pv, fv, lv, ev, h1.below hb, h2, h3, h4, fun q => by obtain ⟨g, a1, a2, a3⟩ := h5 q; exact ⟨g, a1, a2, keep a3 hb⟩⟩⟩
theorem alloc {Z : Array Value} (h : Sb W1 m er p x y z u la wx) (hla : la = false) (hz : Z.size = 4) : Sb W1 m er p x y z (.pointer (some ⟨wx.heap.size, 0, none⟩)) true (wx.alloc (.cells Z 32)) := by
  have hb : Below wx.heap.size wx (wx.alloc (.cells Z 32)) := (Below.refl _ _).alloc (Nat.le_refl _) _
  have hp : ¬ 4 ≤ p := fun q => by have := h.o q; rw [hla] at this; cases this
  refine ⟨h.bl.trans (hb.mono h.bl.size), fun _ => ⟨_, Z, rfl, h.bl.size, heap_alloc_new wx _, hz⟩, fun _ => rfl, fun q => ?_⟩
  obtain ⟨pv, fv, lv, ev, h1, h2, h3, h4, -⟩ := h.c q
  exact ⟨pv, fv, lv, ev, h1.below hb, h2, h3, h4, fun q => absurd q hp⟩
theorem step1 {pv fv lv ev : Value} (h : Sb W1 m er 0 x y z u la wx) (hI : IOwn w' wx.heap.size pv fv lv ev m) (hb : Below wx.heap.size wx w') : Sb W1 m er 1 (.tuple #[.agg #[pv, fv, lv, ev], .int .i64 er]) y z u la w' :=
  ⟨h.bl.trans (hb.mono h.bl.size), fun q => by obtain ⟨g, cs, h1, h2, h3, h4⟩ := h.al q; exact ⟨g, cs, h1, h2, keep h3 hb, h4⟩, fun q => absurd q (by decide), fun _ => ⟨pv, fv, lv, ev, hI.mono h.bl.size, rfl, fun q => absurd q (by decide), fun q => absurd q (by decide), fun q => absurd q (by decide)⟩⟩
theorem step2 (h : Sb W1 m er 1 x y z u la wx) : Sb W1 m er 2 x x z u la wx :=
  ⟨h.bl, h.al, fun q => absurd q (by decide), fun _ => by
    obtain ⟨pv, fv, lv, ev, h1, h2, -⟩ := h.c (by decide)
    exact ⟨pv, fv, lv, ev, h1, h2, fun _ => rfl, fun q => absurd q (by decide), fun q => absurd q (by decide)⟩⟩
theorem tup (h : Sb W1 m er p x y z u la wx) (hp : 2 ≤ p) : ∃ pv fv lv ev, IOwn wx W1.heap.size pv fv lv ev m ∧ x = .tuple #[.agg #[pv, fv, lv, ev], .int .i64 er] ∧ y = .tuple #[.agg #[pv, fv, lv, ev], .int .i64 er] := by
  obtain ⟨pv, fv, lv, ev, h1, h2, h3, -⟩ := h.c (by omega)
  exact ⟨pv, fv, lv, ev, h1, h2, (h3 hp).trans h2⟩
theorem step3 {pv fv lv ev : Value} (h : Sb W1 m er 2 x y z u la wx) (hI : IOwn wx W1.heap.size pv fv lv ev m) (hx : x = .tuple #[.agg #[pv, fv, lv, ev], .int .i64 er]) : Sb W1 m er 3 x y (.agg #[pv, fv, lv, ev]) u la wx :=
  ⟨h.bl, h.al, fun q => absurd q (by decide), fun _ => by
    obtain ⟨-, -, -, -, -, -, h3, -⟩ := h.c (by decide)
    exact ⟨pv, fv, lv, ev, hI, hx, fun _ => h3 (by decide), fun _ => rfl, fun q => absurd q (by decide)⟩⟩
theorem img (h : Sb W1 m er 3 x y z u la wx) : ∃ pv fv lv ev, IOwn wx W1.heap.size pv fv lv ev m ∧ x = .tuple #[.agg #[pv, fv, lv, ev], .int .i64 er] ∧ y = x ∧ z = .agg #[pv, fv, lv, ev] := by
  obtain ⟨pv, fv, lv, ev, h1, h2, h3, h4, -⟩ := h.c (by decide)
  exact ⟨pv, fv, lv, ev, h1, h2, h3 (by decide), h4 (by decide)⟩
theorem step4 {pv fv lv ev : Value} {g : Nat} {cs : Array Value} (h : Sb W1 m er 3 x y z u la wx) (hla : la = true) (hu : u = .pointer (some ⟨g, 0, none⟩)) (hg : W1.heap.size ≤ g) (hr0 : wx.heap[g]? = some (.cells cs 32 (0, 0))) (hI : IOwn wx W1.heap.size pv fv lv ev m) (hx : x = .tuple #[.agg #[pv, fv, lv, ev], .int .i64 er]) (hy : y = x) (hz : z = .agg #[pv, fv, lv, ev]) (hr : w'.heap[g]? = some (.cells #[pv, fv, lv, ev] 32 (0, 0))) (hgr : wx.grownBy w' (some g)) : Sb W1 m er 4 x y z u la w' :=
  ⟨h.bl.trans (below_grown hgr h.bl.size (fun k hk => by injection hk with hk; omega)), fun _ => ⟨g, _, hu, hg, hr, rfl⟩, fun _ => hla, fun _ => ⟨pv, fv, lv, ev, hI.imKept hr0 hgr, hx, fun _ => hy, fun _ => hz, fun _ => ⟨g, hu, hg, hr⟩⟩⟩
end Sb
theorem IOwn.stKept {w w' : World} {base g : Nat} {pv fv lv ev : Value} {m : Img} {c : Array Value} (h : IOwn w base pv fv lv ev m) (hr : w.heap[g]? = some (.cells c 47 (0, 0))) (hg : w.grownBy w' (some g)) : IOwn w' base pv fv lv ev m :=
  ⟨own_kept h.p hg (fun k hk => by obtain rfl : g = k := Option.some.inj hk; exact own_not h.p hr (by decide)), own_kept h.f hg (fun k hk => by obtain rfl : g = k := Option.some.inj hk; exact own_not h.f hr (by decide)), own_kept h.l hg (fun k hk => by obtain rfl : g = k := Option.some.inj hk; exact own_not h.l hr (by decide)), own_kept h.e hg (fun k hk => by obtain rfl : g = k := Option.some.inj hk; exact own_not h.e hr (by decide)), h.ne⟩
/-- Records lie not in a store's box. -/
theorem RAt.stPut {w w' : World} {xA : Option Addr} {l : List Rc} {g : Nat} {s1 s2 : ByteArray} {z : Int} (h : RAt w xA l) (hr : w.heap[g]? = some (.cells #[.string s1, .string s2, .int .i64 z] 47 (0, 0)))
    (hg : w.grownBy w' (some g)) : RAt w' xA l := by
  cases l with
  | nil => exact .inl rfl
  | cons x l =>
    obtain ⟨b, off, hA, hb, c0, c1, -, -, -⟩ := h.at_ (k := 0) (by simp)
    have hne : b ≠ g := fun e => by
      subst e
      have q0 := cell_of_row w b (off + 0 * 5) _ _ (0, 0) hr
      have q1 := cell_of_row w b (off + 0 * 5 + 1) _ _ (0, 0) hr
      rw [c0] at q0
      rw [c1] at q1
      rcases (show off = 0 ∨ off = 1 ∨ 2 ≤ off by omega) with rfl | rfl | h4
      · simp at q0
      · simp at q0
      · rw [Array.getElem?_eq_none (by simp; omega)] at q1
        cases q1
    rcases h with h | ⟨b', off', hA', hrng⟩
    · cases h
    · rw [hA] at hA'
      injection hA' with hA'
      injection hA' with q1 q2
      subst q1
      subst q2
      refine .inr ⟨b, off, hA, fun j v hv => ?_⟩
      rw [← hrng j v hv]
      unfold World.cell?
      simp only [hg.block b hb (fun e => hne (Option.some.inj e))]
/-- A call hands back a store, an image and two numbers; store and image are laid into two boxes that are made somewhen before. -/
structure St2 (W1 : World) (SC : Array Value) (m : Img) (nn er : Int) (p : Nat) (x y z u1 u2 : Value) (lz l1 l2 : Bool) (wx : World) : Prop where
  bl : Below W1.heap.size W1 wx
  a1 : l1 = true → ∃ g cs, u1 = .pointer (some ⟨g, 0, none⟩) ∧ W1.heap.size ≤ g ∧ wx.heap[g]? = some (.cells cs 47 (0, 0)) ∧ cs.size = 3 ∧ (3 ≤ p → cs = SC)
  a2 : l2 = true → ∃ g cs, u2 = .pointer (some ⟨g, 0, none⟩) ∧ W1.heap.size ≤ g ∧ wx.heap[g]? = some (.cells cs 32 (0, 0)) ∧ cs.size = 4
  o1 : 3 ≤ p → l1 = true
  o2 : 4 ≤ p → l2 = true
  oz : lz = true → 2 ≤ p
  c : 1 ≤ p → ∃ pv fv lv ev, IOwn wx W1.heap.size pv fv lv ev m ∧ x = .tuple #[.agg SC, .agg #[pv, fv, lv, ev], .int .i64 nn, .int .i64 er] ∧ (2 ≤ p → y = x) ∧ (lz = true → z = .agg #[pv, fv, lv, ev]) ∧ (4 ≤ p → ∃ g, u2 = .pointer (some ⟨g, 0, none⟩) ∧ W1.heap.size ≤ g ∧ wx.heap[g]? = some (.cells #[pv, fv, lv, ev] 32 (0, 0)))
namespace St2
variable {W1 wx w' : World} {SC : Array Value} {m : Img} {nn er : Int} {p : Nat} {x y z u1 u2 : Value} {lz l1 l2 : Bool}
theorem start {d : Nat} : St2 W1 SC m nn er 0 x y z u1 u2 false false false { W1 with drawn := d } := ⟨⟨rfl, rfl, rfl, Nat.le_refl _, fun _ _ => rfl⟩, fun h => absurd h (by decide), fun h => absurd h (by decide), fun h => absurd h (by decide), fun h => absurd h (by decide), fun h => absurd h (by decide), fun h => absurd h (by decide)⟩
theorem below (h : St2 W1 SC m nn er p x y z u1 u2 lz l1 l2 wx) (hb : Below wx.heap.size wx w') : St2 W1 SC m nn er p x y z u1 u2 lz l1 l2 w' :=
  ⟨h.bl.trans (hb.mono h.bl.size), fun q => by obtain ⟨g, cs, h1, h2, h3, h4⟩ := h.a1 q; exact ⟨g, cs, h1, h2, Sb.keep h3 hb, h4⟩, fun q => by obtain ⟨g, cs, h1, h2, h3, h4⟩ := h.a2 q; exact ⟨g, cs, h1, h2, Sb.keep h3 hb, h4⟩, h.o1, h.o2, h.oz, fun q => by
    obtain ⟨pv, fv, lv, ev, h1, h2, h3, h4, h5⟩ := h.c q
    exact ⟨pv, fv, lv, ev, h1.below hb, h2, h3, h4, fun q => by obtain ⟨g, a1, a2, a3⟩ := h5 q; exact ⟨g, a1, a2, Sb.keep a3 hb⟩⟩⟩
theorem alloc1 {Z : Array Value} (h : St2 W1 SC m nn er p x y z u1 u2 lz l1 l2 wx) (hla : l1 = false) (hz : Z.size = 3) : St2 W1 SC m nn er p x y z (.pointer (some ⟨wx.heap.size, 0, none⟩)) u2 lz true l2 (wx.alloc (.cells Z 47)) := by
  have hb : Below wx.heap.size wx (wx.alloc (.cells Z 47)) := (Below.refl _ _).alloc (Nat.le_refl _) _
  have h2 := h.below hb
  have hp : ¬ 3 ≤ p := fun q => by have := h.o1 q; rw [hla] at this; cases this
  exact ⟨h2.bl, fun _ => ⟨_, Z, rfl, h.bl.size, heap_alloc_new wx _, hz, fun q => absurd q hp⟩, h2.a2, fun _ => rfl, h2.o2, h2.oz, h2.c⟩
theorem alloc2 {Z : Array Value} (h : St2 W1 SC m nn er p x y z u1 u2 lz l1 l2 wx) (hla : l2 = false) (hz : Z.size = 4) : St2 W1 SC m nn er p x y z u1 (.pointer (some ⟨wx.heap.size, 0, none⟩)) lz l1 true (wx.alloc (.cells Z 32)) := by
  have hb : Below wx.heap.size wx (wx.alloc (.cells Z 32)) := (Below.refl _ _).alloc (Nat.le_refl _) _
  have h2 := h.below hb
  have hp : ¬ 4 ≤ p := fun q => by have := h.o2 q; rw [hla] at this; cases this
  refine ⟨h2.bl, h2.a1, fun _ => ⟨_, Z, rfl, h.bl.size, heap_alloc_new wx _, hz⟩, h2.o1, fun _ => rfl, h2.oz, fun q => ?_⟩
  obtain ⟨pv, fv, lv, ev, b1, b2, b3, b4, -⟩ := h2.c q
  exact ⟨pv, fv, lv, ev, b1, b2, b3, b4, fun q => absurd q hp⟩
theorem step1 {pv fv lv ev : Value} (h : St2 W1 SC m nn er 0 x y z u1 u2 lz l1 l2 wx) (hI : IOwn w' wx.heap.size pv fv lv ev m) (hb : Below wx.heap.size wx w') : St2 W1 SC m nn er 1 (.tuple #[.agg SC, .agg #[pv, fv, lv, ev], .int .i64 nn, .int .i64 er]) y z u1 u2 lz l1 l2 w' := by
  have h2 := h.below hb
  exact ⟨h2.bl, fun q => by obtain ⟨g, cs, b1, b2, b3, b4, -⟩ := h2.a1 q; exact ⟨g, cs, b1, b2, b3, b4, fun q => absurd q (by decide)⟩, h2.a2, fun q => absurd q (by decide), fun q => absurd q (by decide), fun q => absurd (h.oz q) (by decide), fun _ => ⟨pv, fv, lv, ev, hI.mono h.bl.size, rfl, fun q => absurd q (by decide), fun q => absurd (h.oz q) (by decide), fun q => absurd q (by decide)⟩⟩
theorem step2 (h : St2 W1 SC m nn er 1 x y z u1 u2 lz l1 l2 wx) : St2 W1 SC m nn er 2 x x z u1 u2 lz l1 l2 wx :=
  ⟨h.bl, fun q => by obtain ⟨g, cs, b1, b2, b3, b4, -⟩ := h.a1 q; exact ⟨g, cs, b1, b2, b3, b4, fun q => absurd q (by decide)⟩, h.a2, fun q => absurd q (by decide), fun q => absurd q (by decide), fun q => absurd (h.oz q) (by decide), fun _ => by
    obtain ⟨pv, fv, lv, ev, h1, h2, -, -, -⟩ := h.c (by decide)
    exact ⟨pv, fv, lv, ev, h1, h2, fun _ => rfl, fun q => absurd (h.oz q) (by decide), fun q => absurd q (by decide)⟩⟩
theorem tup (h : St2 W1 SC m nn er p x y z u1 u2 lz l1 l2 wx) (hp : 2 ≤ p) : ∃ pv fv lv ev, y = .tuple #[.agg SC, .agg #[pv, fv, lv, ev], .int .i64 nn, .int .i64 er] ∧ (lz = true → z = .agg #[pv, fv, lv, ev]) ∧ IOwn wx W1.heap.size pv fv lv ev m ∧ x = .tuple #[.agg SC, .agg #[pv, fv, lv, ev], .int .i64 nn, .int .i64 er] := by
  obtain ⟨pv, fv, lv, ev, h1, h2, h3, h4, -⟩ := h.c (by omega)
  exact ⟨pv, fv, lv, ev, (h3 hp).trans h2, h4, h1, h2⟩
theorem ex (h : St2 W1 SC m nn er p x y z u1 u2 lz l1 l2 wx) (hp : 2 ≤ p) (_hl : lz = false) (hp4 : p ≤ 3) {pv fv lv ev : Value} (hI : IOwn wx W1.heap.size pv fv lv ev m) (hx : x = .tuple #[.agg SC, .agg #[pv, fv, lv, ev], .int .i64 nn, .int .i64 er]) : St2 W1 SC m nn er p x y (.agg #[pv, fv, lv, ev]) u1 u2 true l1 l2 wx :=
  ⟨h.bl, h.a1, h.a2, h.o1, h.o2, fun _ => hp, fun _ => by
    obtain ⟨-, -, -, -, -, -, h3, -, -⟩ := h.c (by omega)
    exact ⟨pv, fv, lv, ev, hI, hx, h3, fun _ => rfl, fun q => absurd q (by omega)⟩⟩
theorem step3 {g : Nat} {cs : Array Value} (h : St2 W1 SC m nn er 2 x y z u1 u2 lz l1 l2 wx) (hl : l1 = true) (hu : u1 = .pointer (some ⟨g, 0, none⟩)) (hg : W1.heap.size ≤ g) (hr0 : wx.heap[g]? = some (.cells cs 47 (0, 0))) (hs : SC.size = 3) (hr : w'.heap[g]? = some (.cells SC 47 (0, 0))) (hgr : wx.grownBy w' (some g)) : St2 W1 SC m nn er 3 x y z u1 u2 lz l1 l2 w' := by
  refine ⟨h.bl.trans (below_grown hgr h.bl.size (fun k hk => by injection hk with hk; omega)), fun _ => ⟨g, SC, hu, hg, hr, hs, fun _ => rfl⟩, fun q => ?_, fun _ => hl, fun q => absurd q (by decide), fun _ => by decide, fun _ => ?_⟩
  · obtain ⟨g2, cs2, b1, b2, b3, b4⟩ := h.a2 q
    exact ⟨g2, cs2, b1, b2, (hgr.block g2 (Array.getElem?_eq_some_iff.1 b3).1 (fun e => by
      obtain rfl := Option.some.inj e
      rw [hr0] at b3
      injection b3 with b3
      injection b3 with _ b3 _
      exact absurd b3 (by decide))).trans b3, b4⟩
  · obtain ⟨pv, fv, lv, ev, b1, b2, b3, b4, -⟩ := h.c (by decide)
    exact ⟨pv, fv, lv, ev, b1.stKept hr0 hgr, b2, fun _ => b3 (by decide), b4, fun q => absurd q (by decide)⟩
theorem step4 {g : Nat} {cs : Array Value} {pv fv lv ev : Value} (h : St2 W1 SC m nn er 3 x y z u1 u2 lz l1 l2 wx) (hl : l2 = true) (_hlz : lz = true) (hu : u2 = .pointer (some ⟨g, 0, none⟩)) (hg : W1.heap.size ≤ g) (hr0 : wx.heap[g]? = some (.cells cs 32 (0, 0))) (hI : IOwn wx W1.heap.size pv fv lv ev m) (hx : x = .tuple #[.agg SC, .agg #[pv, fv, lv, ev], .int .i64 nn, .int .i64 er]) (hy : y = x) (hz : z = .agg #[pv, fv, lv, ev]) (hr : w'.heap[g]? = some (.cells #[pv, fv, lv, ev] 32 (0, 0))) (hgr : wx.grownBy w' (some g)) : St2 W1 SC m nn er 4 x y z u1 u2 lz l1 l2 w' := by
  refine ⟨h.bl.trans (below_grown hgr h.bl.size (fun k hk => by injection hk with hk; omega)), fun q => ?_, fun _ => ⟨g, _, hu, hg, hr, rfl⟩, fun _ => h.o1 (by decide), fun _ => hl, fun _ => by decide, fun _ => ⟨pv, fv, lv, ev, hI.imKept hr0 hgr, hx, fun _ => hy, fun _ => hz, fun _ => ⟨g, hu, hg, hr⟩⟩⟩
  obtain ⟨g2, cs2, b1, b2, b3, b4, b5⟩ := h.a1 q
  exact ⟨g2, cs2, b1, b2, (hgr.block g2 (Array.getElem?_eq_some_iff.1 b3).1 (fun e => by
    obtain rfl := Option.some.inj e
    rw [hr0] at b3
    injection b3 with b3
    injection b3 with _ b3 _
    exact absurd b3 (by decide))).trans b3, b4, fun _ => b5 (by decide)⟩
end St2
structure Lay (W1 : World) (g1 g2 : Nat) (Z1 R1 Z2 R2 : Array Value) (p : Nat) (wx : World) : Prop where
  q0 : p = 0 → Below W1.heap.size W1 wx
  q1 : p = 1 → ∃ wa, Below W1.heap.size W1 wa ∧ wa.grownBy wx (some g1) ∧ wx.heap[g1]? = some (.cells R1 47 (0, 0))
  q2 : p = 2 → ∃ wa wb, Below W1.heap.size W1 wa ∧ wa.grownBy wb (some g1) ∧ wb.heap[g1]? = some (.cells R1 47 (0, 0)) ∧ wb.grownBy wx (some g2) ∧ wx.heap[g2]? = some (.cells R2 32 (0, 0))
  keep : ∀ j, j < W1.heap.size → j ≠ g1 → j ≠ g2 → wx.heap[j]? = W1.heap[j]?
  z2 : p ≤ 1 → wx.heap[g2]? = some (.cells Z2 32 (0, 0))
  le : W1.heap.size ≤ wx.heap.size
namespace Lay
variable {W1 wx w' : World} {g1 g2 : Nat} {Z1 R1 Z2 R2 : Array Value} {p : Nat}
theorem start {d : Nat} (h2 : W1.heap[g2]? = some (.cells Z2 32 (0, 0))) : Lay W1 g1 g2 Z1 R1 Z2 R2 0 { W1 with drawn := d } := ⟨fun _ => ⟨rfl, rfl, rfl, Nat.le_refl _, fun _ _ => rfl⟩, fun h => absurd h (by decide), fun h => absurd h (by decide), fun _ _ _ _ => rfl, fun _ => h2, Nat.le_refl _⟩
theorem quietB (h : Lay W1 g1 g2 Z1 R1 Z2 R2 p wx) (hb : Below wx.heap.size wx w') : Lay W1 g1 g2 Z1 R1 Z2 R2 p w' :=
  ⟨fun q => (h.q0 q).trans (hb.mono h.le), fun q => by
    obtain ⟨wa, h1, h2, h3⟩ := h.q1 q
    exact ⟨wa, h1, grown_trans h2 (grown_below hb _), Sb.keep h3 hb⟩, fun q => by
    obtain ⟨wa, wb, h1, h2, h3, h4, h5⟩ := h.q2 q
    exact ⟨wa, wb, h1, h2, h3, grown_trans h4 (grown_below hb _), Sb.keep h5 hb⟩, fun j hj h1 h2 => (hb.block j (Nat.lt_of_lt_of_le hj h.le)).trans (h.keep j hj h1 h2), fun q => Sb.keep (h.z2 q) hb, Nat.le_trans h.le hb.size⟩
theorem step1 (h : Lay W1 g1 g2 Z1 R1 Z2 R2 0 wx) (hne : g2 ≠ g1) (hg2 : g2 < wx.heap.size) (hr : w'.heap[g1]? = some (.cells R1 47 (0, 0))) (hg : wx.grownBy w' (some g1)) : Lay W1 g1 g2 Z1 R1 Z2 R2 1 w' :=
  ⟨fun q => absurd q (by decide), fun _ => ⟨wx, h.q0 rfl, hg, hr⟩, fun q => absurd q (by decide), fun j hj h1 h2 => (hg.block j (Nat.lt_of_lt_of_le hj h.le) (fun e => h1 (Option.some.inj e))).trans (h.keep j hj h1 h2), fun _ => (hg.block g2 hg2 (fun e => hne (Option.some.inj e))).trans (h.z2 (by decide)), Nat.le_trans h.le hg.size⟩
theorem step2 (h : Lay W1 g1 g2 Z1 R1 Z2 R2 1 wx) (hr : w'.heap[g2]? = some (.cells R2 32 (0, 0))) (hg : wx.grownBy w' (some g2)) : Lay W1 g1 g2 Z1 R1 Z2 R2 2 w' :=
  ⟨fun q => absurd q (by decide), fun q => absurd q (by decide), fun _ => by obtain ⟨wa, h1, h2, h3⟩ := h.q1 rfl; exact ⟨wa, wx, h1, h2, h3, hg, hr⟩, fun j hj h1 h2 => (hg.block j (Nat.lt_of_lt_of_le hj h.le) (fun e => h2 (Option.some.inj e))).trans (h.keep j hj h1 h2), fun q => absurd q (by decide), Nat.le_trans h.le hg.size⟩
end Lay
namespace Lg
theorem append_step {b : BldD} {s : St} {m : Img} {r : Rc} (h : Jrn b s m) (hr : Rc.okB b r = true) (hroom : b.room ≤ 1000) {bud : Int} (hbud : 2000 ≤ bud) :
    (fullB b m r = true ∧ appendF b s m r bud = (St.zero, Img.zero, 0, 7)) ∨ (fullB b m r = false ∧ ∃ s' n, appendF b s m r bud = (s', applyM m r, n, 0) ∧ Jrn b s' (applyM m r)) := by
  cases hf : fullB b m r
  · right
    refine ⟨rfl, ?_⟩
    obtain ⟨need, h1, h2, h3⟩ := append_cases h hr hf (show 0 ≤ bud by omega)
    have hl := applyM_len hf h.good h.room
    have hs := snapM_len (applyM m r)
    rw [(applyM_good h.good hr).ph] at hs
    rcases h3 with ⟨h4, -⟩ | ⟨-, s', h5, h6⟩
    · exfalso
      split at h2 <;> omega
    · exact ⟨s', _, h5, h6⟩
  · left
    refine ⟨rfl, ?_⟩
    have hok : okS b s bud = true := by simp [okS, h.good.val, h.st]; omega
    unfold appendF
    rw [hok, isB_iff.2 h.good, hr, hf]
    rfl
theorem jrn_small {b : BldD} {s : St} {m : Img} (h : Jrn b s m) (hroom : b.room ≤ 1000) : m.ph.length ≤ 100 ∧ m.fl.length ≤ 100 ∧ m.lv.length ≤ 100 ∧ m.en.length ≤ 100 ∧ (s.a.size : Int) ≤ b.room ∧ (s.b.size : Int) ≤ b.room ∧ s.cur.size ≤ 2000000 := by
  have h1 := h.good.ph
  have h2 := h.good.fl
  have h3 := h.good.lv
  have h4 := h.room
  obtain ⟨-, -, h5, h6, -⟩ := St.isB_of h.st
  have h7 := St.get_size h.st s.sel
  rw [cur_get] at h7
  exact ⟨by omega, by omega, by omega, by omega, h5, h6, by omega⟩
end Lg
end Go.Proofs.Ytifbkoaggjikpaa
