/- Variables declared side by side ('a, b, c := x, y, z'), each in a block of its own, made in any order. No statement of the seat is proved here. -/
import Derived.Test.YtmfinebkikhceaaGhost
import Derived.Test.YtmfinebkikhceaaLitMore
namespace Go.Proofs.Ytmfinebkikhceaa
open Go.RowKit Ghost

/-- A variable: the numbers of its two operations (the block, the store), its type, its cells before and behind the store. -/
structure Decl where
  al : Nat
  st : Nat
  T : TypeId
  Z : Array Value
  R : Array Value

structure Decls (B : Nat) (W0 : World) (D : List Decl) (γ : Gh) (L : Run) (w : World) : Prop where
  below : Below B W0 w
  size : B ≤ w.heap.size
  ord : ∀ d ∈ D, L d.st = true → L d.al = true
  row : ∀ d ∈ D, L d.al = true → B ≤ γ d.al ∧ w.heap[γ d.al]? = some (.cells (if L d.st = true then d.R else d.Z) d.T (0, 0))
  apart : ∀ d ∈ D, ∀ e ∈ D, d.al ≠ e.al → L d.al = true → L e.al = true → γ d.al ≠ γ e.al

namespace Decls
variable {B : Nat} {W0 w w' : World} {D : List Decl} {γ : Gh} {L : Run} {i : Nat}

theorem lt (h : Decls B W0 D γ L w) {d : Decl} (hd : d ∈ D) (hl : L d.al = true) : γ d.al < w.heap.size := by
  have := (h.row d hd hl).2
  rcases Nat.lt_or_ge (γ d.al) w.heap.size with h1 | h1
  · exact h1
  · rw [Array.getElem?_eq_none h1] at this; cases this
theorem start (D : List Decl) (γ : Gh) (h : Below B W0 w) (hs : B ≤ w.heap.size) : Decls B W0 D γ (fun _ => false) w :=
  ⟨h, hs, fun _ _ h => absurd h Bool.false_ne_true, fun _ _ h => absurd h Bool.false_ne_true, fun _ _ _ _ _ h => absurd h Bool.false_ne_true⟩
theorem mark_ne {j : Nat} (h : j ≠ i) : Ghost.mark L i j = L j := by unfold Ghost.mark; rw [if_neg h]
theorem mark_eq : Ghost.mark L i i = true := by unfold Ghost.mark; rw [if_pos rfl]
theorem upd_ne {b j : Nat} (h : j ≠ i) : upd γ i b j = γ j := by unfold upd; rw [if_neg h]
theorem upd_eq {b : Nat} : upd γ i b i = b := by unfold upd; rw [if_pos rfl]

theorem quiet (h : Decls B W0 D γ L w) (b : Nat) (hi : (D.all fun d => decide (d.al ≠ i) && decide (d.st ≠ i)) = true) (hb : Below w.heap.size w w') : Decls B W0 D (upd γ i b) (Ghost.mark L i) w' := by
  have H : ∀ d ∈ D, d.al ≠ i ∧ d.st ≠ i := fun d hd => by
    have := List.all_eq_true.1 hi d hd
    rw [Bool.and_eq_true] at this
    exact ⟨of_decide_eq_true this.1, of_decide_eq_true this.2⟩
  refine ⟨h.below.trans (hb.mono h.size), Nat.le_trans h.size hb.size, fun d hd hl => ?_, fun d hd hl => ?_, fun d hd e he hne h1 h2 => ?_⟩
  · rw [mark_ne (H d hd).2] at hl; rw [mark_ne (H d hd).1]; exact h.ord d hd hl
  · rw [mark_ne (H d hd).1] at hl
    rw [upd_ne (H d hd).1, mark_ne (H d hd).2]
    exact ⟨(h.row d hd hl).1, (hb.block _ (h.lt hd hl)).trans (h.row d hd hl).2⟩
  · rw [mark_ne (H d hd).1] at h1
    rw [mark_ne (H e he).1] at h2
    rw [upd_ne (H d hd).1, upd_ne (H e he).1]
    exact h.apart d hd e he hne h1 h2
/-- The block of d is made. -/
theorem alloc (h : Decls B W0 D γ L w) (d : Decl) (hd : d ∈ D) (hL : L d.al = false) (hok : (D.all fun e => decide (e.st ≠ d.al) && (decide (e.al ≠ d.al) || (decide (e.st = d.st) && decide (e.al = d.al)))) = true) (huniq : ∀ e ∈ D, e.al = d.al → e = d) :
    Decls B W0 D (upd γ d.al w.heap.size) (Ghost.mark L d.al) (w.alloc (.cells d.Z d.T)) := by
  have H : ∀ e ∈ D, e.st ≠ d.al := fun e he => by
    have := List.all_eq_true.1 hok e he
    rw [Bool.and_eq_true] at this
    exact of_decide_eq_true this.1
  have hb : Below w.heap.size w (w.alloc (.cells d.Z d.T)) := (Below.refl _ _).alloc (Nat.le_refl _) _
  refine ⟨h.below.trans (hb.mono h.size), Nat.le_trans h.size hb.size, fun e he hl => ?_, fun e he hl => ?_, fun e he f hf hne h1 h2 => ?_⟩
  · rw [mark_ne (H e he)] at hl
    by_cases hq : e.al = d.al
    · rw [hq, mark_eq]
    · rw [mark_ne hq]; exact h.ord e he hl
  · by_cases hq : e.al = d.al
    · obtain rfl := huniq e he hq
      have hst : L e.st = false := by
        cases hc : L e.st with
        | false => rfl
        | true => rw [h.ord e he hc] at hL; cases hL
      rw [upd_eq, mark_ne (H e he), hst]
      exact ⟨h.size, heap_alloc_new w _⟩
    · rw [mark_ne hq] at hl
      rw [upd_ne hq, mark_ne (H e he)]
      exact ⟨(h.row e he hl).1, (hb.block _ (h.lt he hl)).trans (h.row e he hl).2⟩
  · by_cases hq : e.al = d.al
    · have hq2 : f.al ≠ d.al := fun x => hne (hq.trans x.symm)
      rw [mark_ne hq2] at h2
      rw [hq, upd_eq, upd_ne hq2]
      have := h.lt hf h2
      omega
    · rw [mark_ne hq] at h1
      by_cases hq2 : f.al = d.al
      · rw [hq2, upd_eq, upd_ne hq]
        have := h.lt he h1
        omega
      · rw [mark_ne hq2] at h2
        rw [upd_ne hq, upd_ne hq2]
        exact h.apart e he f hf hne h1 h2
/-- The store of d. -/
theorem store (h : Decls B W0 D γ L w) (d : Decl) (hd : d ∈ D) (hA : L d.al = true) (hok : (D.all fun e => decide (e.al ≠ d.st)) = true) (huniq : ∀ e ∈ D, e.st = d.st → e = d) (hal : ∀ e ∈ D, e.al = d.al → e = d) (b : Nat) :
    Decls B W0 D (upd γ d.st b) (Ghost.mark L d.st) (w.setRow (γ d.al) d.R) := by
  have H : ∀ e ∈ D, e.al ≠ d.st := fun e he => of_decide_eq_true (List.all_eq_true.1 hok e he)
  have hg := h.row d hd hA
  refine ⟨⟨h.below.os, h.below.tape, h.below.output, by rw [size_setRow]; exact h.below.size, fun k hk => (setRow_other w _ k d.R (by omega)).trans (h.below.block k hk)⟩, by rw [size_setRow]; exact h.size, fun e he hl => ?_, fun e he hl => ?_, fun e he f hf hne h1 h2 => ?_⟩
  · rw [mark_ne (H e he)]
    by_cases hq : e.st = d.st
    · rw [huniq e he hq]; exact hA
    · rw [mark_ne hq] at hl; exact h.ord e he hl
  · rw [mark_ne (H e he)] at hl
    rw [upd_ne (H e he)]
    by_cases hq : e.st = d.st
    · obtain rfl := huniq e he hq
      rw [mark_eq]
      exact ⟨hg.1, setRow_heap w _ _ e.R _ _ hg.2⟩
    · rw [mark_ne hq]
      have hne : e.al ≠ d.al := fun x => hq (by rw [hal e he x])
      exact ⟨(h.row e he hl).1, (setRow_other w _ _ d.R (h.apart e he d hd hne hl hA)).trans (h.row e he hl).2⟩
  · rw [mark_ne (H e he)] at h1
    rw [mark_ne (H f hf)] at h2
    rw [upd_ne (H e he), upd_ne (H f hf)]
    exact h.apart e he f hf hne h1 h2
/-- The store's operation. -/
theorem wp_store {P : Program} {op : Oper} {a : Act} {K : Act → World → Prop} {Q : Exit → Act → World → Prop} (h : Decls B W0 D γ L w) (d : Decl) (hd : d ∈ D) (hS : L d.st = false) (hA : L d.al = true) (x y : Operand) (ho : op.op = .store d.T x y)
    (hx : a.eval x = .pointer (some ⟨γ d.al, 0, none⟩)) (hy : a.eval y = .agg d.R) (hi : (P.info? d.T).map (·.size) = some d.R.size) (hsz : d.Z.size = d.R.size) (h1 : d.R.all (·.oneCell') = true)
    (hk : K (a.put op.dst undef) (w.setRow (γ d.al) d.R)) : op.wp P a w K Q := by
  have hg := (h.row d hd hA).2
  rw [if_neg (by rw [hS]; exact Bool.false_ne_true)] at hg
  unfold Oper.wp execOp
  simp only [ho, hx, hy, Instr.storeAt, Instr.sureAddr, Sem.run_bind, Sem.run_pure, Result.andThen_ok, run_storeVar_row w (γ d.al) d.T d.T d.Z d.R hg hi hsz h1]
  exact hk
end Decls
end Go.Proofs.Ytmfinebkikhceaa
