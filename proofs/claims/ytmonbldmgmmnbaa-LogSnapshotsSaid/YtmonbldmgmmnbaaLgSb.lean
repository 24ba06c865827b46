/- A call's image laid into a box that is declared in the same drawn region. No statement of the seat is proved here. -/
import Derived.Test.YtmonbldmgmmnbaaLgImage
namespace Go.Proofs.Ytmonbldmgmmnbaa
open Go.RowKit GhostV Bag Lg Img

/-- A call hands back an image and an error; the image is taken out, and laid into a box that is made somewhen before. -/
structure Sb (W1 : World) (m : Img) (er : Int) (p : Nat) (x y z u : Value) (la : Bool) (wx : World) : Prop where
  bl : Below W1.heap.size W1 wx
  al : la = true → ∃ g cs, u = .pointer (some ⟨g, 0, none⟩) ∧ W1.heap.size ≤ g ∧ wx.heap[g]? = some (.cells cs 32 (0, 0)) ∧ cs.size = 4
  o : 4 ≤ p → la = true
  c : 1 ≤ p → ∃ pv fv lv ev, IOwn wx W1.heap.size pv fv lv ev m ∧ x = .tuple #[.agg #[pv, fv, lv, ev], .int .i64 er] ∧ (2 ≤ p → y = x) ∧ (3 ≤ p → z = .agg #[pv, fv, lv, ev]) ∧ (4 ≤ p → ∃ g, u = .pointer (some ⟨g, 0, none⟩) ∧ W1.heap.size ≤ g ∧ wx.heap[g]? = some (.cells #[pv, fv, lv, ev] 32 (0, 0)))
namespace Sb
variable {W1 wx w' : World} {m : Img} {er : Int} {p : Nat} {x y z u : Value} {la : Bool}
theorem start {d : Nat} : Sb W1 m er 0 x y z u false { W1 with drawn := d } := ⟨⟨rfl, rfl, rfl, Nat.le_refl _, fun _ _ => rfl⟩, fun h => absurd h (by decide), fun h => absurd h (by decide), fun h => absurd h (by decide)⟩
theorem keep {g : Nat} {r : Obj} (hr : wx.heap[g]? = some r) (hb : Below wx.heap.size wx w') : w'.heap[g]? = some r := (hb.block g (Array.getElem?_eq_some_iff.1 hr).1).trans hr
theorem below (h : Sb W1 m er p x y z u la wx) (hb : Below wx.heap.size wx w') : Sb W1 m er p x y z u la w' :=
  ⟨h.bl.trans (hb.mono h.bl.size), fun q => by obtain ⟨g, cs, h1, h2, h3, h4⟩ := h.al q; exact ⟨g, cs, h1, h2, keep h3 hb, h4⟩, h.o, fun q => by
    obtain ⟨pv, fv, lv, ev, h1, h2, h3, h4, h5⟩ := h.c q
    exact ⟨pv, fv, lv, ev, h1.below hb, h2, h3, h4, fun q => by obtain ⟨g, a1, a2, a3⟩ := h5 q; exact ⟨g, a1, a2, keep a3 hb⟩⟩⟩
theorem alloc {Z : Array Value} (h : Sb W1 m er p x y z u la wx) (hla : la = false) (hz : Z.size = 4) : Sb W1 m er p x y z (.pointer (some ⟨wx.heap.size, 0, none⟩)) true (wx.alloc (.cells Z 32)) := by
  have hb : Below wx.heap.size wx (wx.alloc (.cells Z 32)) := (Below.refl _ _).alloc (Nat.le_refl _) _
  have hp : ¬ 4 ≤ p := fun q => by have := h.o q; rw [hla] at this; cases this
  refine ⟨h.bl.trans (hb.mono h.bl.size), fun _ => ⟨_, Z, rfl, h.bl.size, heap_alloc_new wx _, hz⟩, fun _ => rfl, fun q => ?_⟩
  obtain ⟨pv, fv, lv, ev, h1, h2, h3, h4, -⟩ := h.c q
  exact ⟨pv, fv, lv, ev, h1.below hb, h2, h3, h4, fun q => absurd q hp⟩
theorem step1 {pv fv lv ev : Value} (h : Sb W1 m er 0 x y z u la wx) (hI : IOwn w' wx.heap.size pv fv lv ev m) (hb : Below wx.heap.size wx w') : Sb W1 m er 1 (.tuple #[.agg #[pv, fv, lv, ev], .int .i64 er]) y z u la w' :=
  ⟨h.bl.trans (hb.mono h.bl.size), fun q => by obtain ⟨g, cs, h1, h2, h3, h4⟩ := h.al q; exact ⟨g, cs, h1, h2, keep h3 hb, h4⟩, fun q => absurd q (by decide), fun _ => ⟨pv, fv, lv, ev, hI.mono h.bl.size, rfl, fun q => absurd q (by decide), fun q => absurd q (by decide), fun q => absurd q (by decide)⟩⟩
theorem step2 (h : Sb W1 m er 1 x y z u la wx) : Sb W1 m er 2 x x z u la wx :=
  ⟨h.bl, h.al, fun q => absurd q (by decide), fun _ => by
    obtain ⟨pv, fv, lv, ev, h1, h2, -⟩ := h.c (by decide)
    exact ⟨pv, fv, lv, ev, h1, h2, fun _ => rfl, fun q => absurd q (by decide), fun q => absurd q (by decide)⟩⟩
theorem tup (h : Sb W1 m er p x y z u la wx) (hp : 2 ≤ p) : ∃ pv fv lv ev, IOwn wx W1.heap.size pv fv lv ev m ∧ x = .tuple #[.agg #[pv, fv, lv, ev], .int .i64 er] ∧ y = .tuple #[.agg #[pv, fv, lv, ev], .int .i64 er] := by
  obtain ⟨pv, fv, lv, ev, h1, h2, h3, -⟩ := h.c (by omega)
  exact ⟨pv, fv, lv, ev, h1, h2, (h3 hp).trans h2⟩
theorem step3 {pv fv lv ev : Value} (h : Sb W1 m er 2 x y z u la wx) (hI : IOwn wx W1.heap.size pv fv lv ev m) (hx : x = .tuple #[.agg #[pv, fv, lv, ev], .int .i64 er]) : Sb W1 m er 3 x y (.agg #[pv, fv, lv, ev]) u la wx :=
  ⟨h.bl, h.al, fun q => absurd q (by decide), fun _ => by
    obtain ⟨-, -, -, -, -, -, h3, -⟩ := h.c (by decide)
    exact ⟨pv, fv, lv, ev, hI, hx, fun _ => h3 (by decide), fun _ => rfl, fun q => absurd q (by decide)⟩⟩
theorem img (h : Sb W1 m er 3 x y z u la wx) : ∃ pv fv lv ev, IOwn wx W1.heap.size pv fv lv ev m ∧ x = .tuple #[.agg #[pv, fv, lv, ev], .int .i64 er] ∧ y = x ∧ z = .agg #[pv, fv, lv, ev] := by
  obtain ⟨pv, fv, lv, ev, h1, h2, h3, h4, -⟩ := h.c (by decide)
  exact ⟨pv, fv, lv, ev, h1, h2, h3 (by decide), h4 (by decide)⟩
theorem step4 {pv fv lv ev : Value} {g : Nat} {cs : Array Value} (h : Sb W1 m er 3 x y z u la wx) (hla : la = true) (hu : u = .pointer (some ⟨g, 0, none⟩)) (hg : W1.heap.size ≤ g) (hr0 : wx.heap[g]? = some (.cells cs 32 (0, 0))) (hI : IOwn wx W1.heap.size pv fv lv ev m) (hx : x = .tuple #[.agg #[pv, fv, lv, ev], .int .i64 er]) (hy : y = x) (hz : z = .agg #[pv, fv, lv, ev]) (hr : w'.heap[g]? = some (.cells #[pv, fv, lv, ev] 32 (0, 0))) (hgr : wx.grownBy w' (some g)) : Sb W1 m er 4 x y z u la w' :=
  ⟨h.bl.trans (below_grown hgr h.bl.size (fun k hk => by injection hk with hk; omega)), fun _ => ⟨g, _, hu, hg, hr, rfl⟩, fun _ => hla, fun _ => ⟨pv, fv, lv, ev, hI.imKept hr0 hgr, hx, fun _ => hy, fun _ => hz, fun _ => ⟨g, hu, hg, hr⟩⟩⟩
end Sb
end Go.Proofs.Ytmonbldmgmmnbaa
