/- A region whose order is open, with turns (GhostK), where the condition speaks of what else has run, and any operation may be a ghost. No statement of the seat is proved here. -/
import Derived.Test.YtmfinebkikhceaaRgGhK
namespace Go.Proofs.Ytmfinebkikhceaa
open Go.RowKit GhostV Bag

def GM (ops : Array Oper) (turns : List Nat) (S : Nat → Gh → Run → World → Prop) (γ : Gh) (L : Run) (wx : World) : Prop := GK ops turns (fun p γ' wx' => S p γ' L wx') γ L wx
namespace GM
variable {ops : Array Oper} {turns : List Nat} {S : Nat → Gh → Run → World → Prop}
theorem quiet {γ : Gh} {L : Run} {wx w' : World} (h : GM ops turns S γ L wx) {i : Nat} (h2 : ∀ j, Region.waitsFor .any ops i j = true → L j = true) (v : Value) (hi : (turns.all fun t => decide (t ≠ i)) = true) (hS : S (turns.countP L) (upd γ i v) (GhostV.mark L i) w') : GM ops turns S (upd γ i v) (GhostV.mark L i) w' :=
  ⟨GK.mk_pre h h2, by rw [GK.mk_count hi]; exact hS⟩
section
variable {P : Program} {i : Nat} {A : Gh → Act} {o : Oper} {rest : List Oper} {Qw : (Gh → Act) → Prop}
/-- An operation that is not wanted. -/
theorem walk_no (hi : (turns.all fun t => decide (t ≠ i)) = true) (hw : ∀ γ, Region.wanted o (yielded ops (A γ).tmps) = false) (hS : ∀ p γ L wx, S p γ L wx → S p γ (GhostV.mark L i) wx)
    (h : walk P ops (fun γ L wx => GM ops turns S γ L wx) Qw (i + 1) rest (fun γ => (A γ).put o.dst undef)) : walk P ops (fun γ L wx => GM ops turns S γ L wx) Qw i (o :: rest) A :=
  GhostV.walk_no hw (fun γ L w hx => ⟨by
    intro t ht hl j hj
    have ht2 : t ≠ i := of_decide_eq_true (List.all_eq_true.1 hi t ht)
    unfold GhostV.mark at hl ⊢
    rw [if_neg ht2] at hl
    split
    · rfl
    · exact hx.pre t ht hl j hj, by rw [GK.mk_count hi]; exact hS _ _ _ _ hx.st⟩) h
/-- An operation that is no turn: its value is a ghost. -/
theorem walk_ghost (hc : chainK ops turns = true) (hi : (turns.all fun t => decide (t ≠ i)) = true) (hw : ∀ γ, Region.wanted o (yielded ops (A γ).tmps) = true)
    (hs : ∀ γ (L : Run) p wx, L i = false → (∀ j, Region.waitsFor .any ops i j = true → L j = true) → (∀ k t, turns[k]? = some t → Region.waitsFor .any ops t i = true → p ≤ k) → (∀ k t, turns[k]? = some t → L t = true → k < p) → S p γ L wx →
      ∀ K : Act → World → Prop, (∀ b w', S p (upd γ i b) (GhostV.mark L i) w' → K ((A γ).put o.dst b) w') → o.wp P (A γ) wx K NoEnd)
    (h : walk P ops (fun γ L wx => GM ops turns S γ L wx) Qw (i + 1) rest (fun γ => (A γ).put o.dst (γ i))) : walk P ops (fun γ L wx => GM ops turns S γ L wx) Qw i (o :: rest) A :=
  walk_yes (fun b => b) hw (fun γ L w h1 h2 hx K hK => hs γ L _ w h1 h2
    (fun k t hk hwt => count_le hc hx.pre hk (by
      cases hl : L t
      · rfl
      · have := hx.pre t (List.mem_of_getElem? hk) hl i hwt
        rw [h1] at this; cases this))
    (fun k t hk hl => count_gt hc hx.pre hk hl) hx.st K (fun b w' hb => hK b w' (quiet hx h2 b hi hb))) h
/-- An operation that is no turn: a plain value. -/
theorem walk_plain {v : Value} (hc : chainK ops turns = true) (hi : (turns.all fun t => decide (t ≠ i)) = true) (hw : ∀ γ, Region.wanted o (yielded ops (A γ).tmps) = true)
    (hs : ∀ γ (L : Run) p wx, L i = false → (∀ j, Region.waitsFor .any ops i j = true → L j = true) → (∀ k t, turns[k]? = some t → Region.waitsFor .any ops t i = true → p ≤ k) → (∀ k t, turns[k]? = some t → L t = true → k < p) → S p γ L wx →
      ∀ K : Act → World → Prop, (∀ w', S p (upd γ i undef) (GhostV.mark L i) w' → K ((A γ).put o.dst v) w') → o.wp P (A γ) wx K NoEnd)
    (h : walk P ops (fun γ L wx => GM ops turns S γ L wx) Qw (i + 1) rest (fun γ => (A γ).put o.dst v)) : walk P ops (fun γ L wx => GM ops turns S γ L wx) Qw i (o :: rest) A :=
  GhostV.walk_const hw (fun γ L w h1 h2 hx K hK => hs γ L _ w h1 h2
    (fun k t hk hwt => count_le hc hx.pre hk (by
      cases hl : L t
      · rfl
      · have := hx.pre t (List.mem_of_getElem? hk) hl i hwt
        rw [h1] at this; cases this))
    (fun k t hk hl => count_gt hc hx.pre hk hl) hx.st K (fun w' hb => hK w' (quiet hx h2 undef hi hb))) h
/-- The k-th turn. -/
theorem walk_turn (k : Nat) (hk : turns[k]? = some i) (hc : chainK ops turns = true) (hnd : turns.Nodup) (hp : k = 0 ∨ ∃ j, turns[k - 1]? = some j ∧ Region.waitsFor .any ops i j = true) (hw : ∀ γ, Region.wanted o (yielded ops (A γ).tmps) = true)
    (hs : ∀ γ (L : Run) wx, L i = false → (∀ j, Region.waitsFor .any ops i j = true → L j = true) → S k γ L wx → ∀ K : Act → World → Prop, (∀ b w', S (k + 1) (upd γ i b) (GhostV.mark L i) w' → K ((A γ).put o.dst b) w') → o.wp P (A γ) wx K NoEnd)
    (h : walk P ops (fun γ L wx => GM ops turns S γ L wx) Qw (i + 1) rest (fun γ => (A γ).put o.dst (γ i))) : walk P ops (fun γ L wx => GM ops turns S γ L wx) Qw i (o :: rest) A :=
  walk_yes (fun b => b) hw (fun γ L w h1 h2 hx K hK => by
    have hp2 : k = 0 ∨ ∃ j, turns[k - 1]? = some j ∧ L j = true := by
      rcases hp with h | ⟨j, hj, hwj⟩
      · exact .inl h
      · exact .inr ⟨j, hj, h2 j hwj⟩
    refine hs γ L w h1 h2 (GK.at_ hx hc hk h1 hp2) K (fun b w' hb => hK b w' ?_)
    have hx2 : GK ops turns (fun p γ' wx' => S p γ' (GhostV.mark L i) wx' ∨ p ≤ k) γ L w := ⟨hx.pre, .inr (count_le hc hx.pre hk h1)⟩
    have := hx2.turned hc hnd hk h1 h2 hp2 b (.inl hb)
    refine ⟨this.pre, this.st.resolve_right ?_⟩
    have hgt := count_gt hc this.pre hk (show GhostV.mark L i i = true by unfold GhostV.mark; rw [if_pos rfl])
    omega) h
end
end GM
/-- THE LAW. -/
theorem ghostM {P : Program} {id : Nat} {l : List Oper} {a : Act} {w : World} {Q : Exit → Act → World → Prop} (turns : List Nat) (S : Nat → Gh → Run → World → Prop) (hm : P.follows .mixedOrders = true) (hok : ok l.toArray = true)
    (hI : ∀ γ, S 0 γ (fun _ => false) { w with drawn := w.drawn + 1 }) (h : walk P l.toArray (fun γ L wx => GM l.toArray turns S γ L wx) (fun A => ∀ γ L w', (∀ j, j < l.length → L j = true) → GM l.toArray turns S γ L w' → Q .normal (A γ) w') 0 l (fun _ => a)) : (Code.region id l.toArray true).wp P Q a w :=
  GhostV.ghost (fun γ L wx => GM l.toArray turns S γ L wx) hm hok (fun γ => GK.start γ (hI γ)) h
theorem GM.done {ops : Array Oper} {turns : List Nat} {S : Nat → Gh → Run → World → Prop} {γ : Gh} {L : Run} {w' : World} (h : GM ops turns S γ L w') (hall : ∀ t ∈ turns, L t = true) : S turns.length γ L w' := GK.done h hall
end Go.Proofs.Ytmfinebkikhceaa
