/- A region whose order is open, in which the operations that turn the world (the turns) are ordered one by one: a condition for each number of turns done, where the turns' values are ghosts. No statement of the seat is proved here. -/
import Derived.Test.YtmfinebkikhceaaGhostV
import Derived.Test.YtmfinebkikhceaaBag
namespace Go.Proofs.Ytmfinebkikhceaa
open Go.RowKit GhostV Bag

/-- Each turn waits for the one before. -/
def chainK (ops : Array Oper) : List Nat → Bool
  | [] => true
  | [_] => true
  | a :: b :: r => Region.waitsFor .any ops b a && chainK ops (b :: r)
/-- What a turn waits for has run; the condition of so many turns. -/
structure GK (ops : Array Oper) (turns : List Nat) (S : Nat → Gh → World → Prop) (γ : Gh) (L : Run) (wx : World) : Prop where
  pre : ∀ t ∈ turns, L t = true → ∀ j, Region.waitsFor .any ops t j = true → L j = true
  st : S (turns.countP L) γ wx
theorem down_false {L : Run} {ops : Array Oper} : ∀ {turns : List Nat}, chainK ops turns = true → (∀ t ∈ turns, L t = true → ∀ j, Region.waitsFor .any ops t j = true → L j = true) → ∀ {t : Nat}, turns.head? = some t → L t = false → turns.countP L = 0
  | [], _, _, _, h, _ => by cases h
  | [a], _, _, t, h, hl => by
    obtain rfl : a = t := by simpa using h
    simp [hl]
  | a :: b :: r, hc, hp, t, h, hl => by
    obtain rfl : a = t := by simpa using h
    have hc2 := Bool.and_eq_true_iff.1 (show (Region.waitsFor .any ops b a && chainK ops (b :: r)) = true from hc)
    have hb : L b = false := by
      cases hb : L b
      · rfl
      · have := hp b (by simp) hb a hc2.1
        rw [hl] at this; cases this
    have := down_false (turns := b :: r) hc2.2 (fun t ht => hp t (List.mem_cons_of_mem _ ht)) rfl hb
    rw [List.countP_cons, this]
    simp [hl]
/-- The k-th turn has not run: at most k turns have. -/
theorem count_le {L : Run} {ops : Array Oper} : ∀ {turns : List Nat}, chainK ops turns = true → (∀ t ∈ turns, L t = true → ∀ j, Region.waitsFor .any ops t j = true → L j = true) → ∀ {k t : Nat}, turns[k]? = some t → L t = false → turns.countP L ≤ k
  | [], _, _, _, _, h, _ => by simp at h
  | a :: r, hc, hp, 0, t, h, hl => by
    rw [down_false hc hp (t := t) (by simpa using h) hl]
    exact Nat.le_refl _
  | [a], _, _, k + 1, t, h, _ => by simp at h
  | a :: b :: r, hc, hp, k + 1, t, h, hl => by
    have hc2 := Bool.and_eq_true_iff.1 (show (Region.waitsFor .any ops b a && chainK ops (b :: r)) = true from hc)
    have := count_le (turns := b :: r) hc2.2 (fun t ht => hp t (List.mem_cons_of_mem _ ht)) (k := k) (t := t) (by simpa using h) hl
    rw [List.countP_cons]
    split <;> omega
/-- The k-th turn has run: more than k have. -/
theorem count_gt {L : Run} {ops : Array Oper} : ∀ {turns : List Nat}, chainK ops turns = true → (∀ t ∈ turns, L t = true → ∀ j, Region.waitsFor .any ops t j = true → L j = true) → ∀ {k t : Nat}, turns[k]? = some t → L t = true → k < turns.countP L
  | [], _, _, _, _, h, _ => by simp at h
  | a :: r, _, _, 0, t, h, hl => by
    obtain rfl : a = t := by simpa using h
    rw [List.countP_cons]
    simp [hl]
  | [a], _, _, k + 1, t, h, _ => by simp at h
  | a :: b :: r, hc, hp, k + 1, t, h, hl => by
    have hc2 := Bool.and_eq_true_iff.1 (show (Region.waitsFor .any ops b a && chainK ops (b :: r)) = true from hc)
    have hgt := count_gt (turns := b :: r) hc2.2 (fun t ht => hp t (List.mem_cons_of_mem _ ht)) (k := k) (t := t) (by simpa using h) hl
    have hb : L b = true := by
      cases hb : L b
      · have := down_false (turns := b :: r) hc2.2 (fun t ht => hp t (List.mem_cons_of_mem _ ht)) rfl hb
        omega
      · rfl
    have ha := hp b (by simp) hb a hc2.1
    rw [List.countP_cons, ha]
    simp
    omega
namespace GK
variable {ops : Array Oper} {turns : List Nat} {S : Nat → Gh → World → Prop} {γ : Gh} {L : Run} {wx w' : World}
theorem start (γ : Gh) (h : S 0 γ wx) : GK ops turns S γ (fun _ => false) wx :=
  ⟨fun _ _ h => absurd h Bool.false_ne_true, by
    have : turns.countP (fun _ => false) = 0 := List.countP_eq_zero.2 (fun _ _ h => absurd h Bool.false_ne_true)
    rw [this]; exact h⟩
theorem mk_pre (h : GK ops turns S γ L wx) {i : Nat} (h2 : ∀ j, Region.waitsFor .any ops i j = true → L j = true) : ∀ t ∈ turns, GhostV.mark L i t = true → ∀ j, Region.waitsFor .any ops t j = true → GhostV.mark L i j = true := by
  intro t ht hl j hj
  unfold GhostV.mark at hl ⊢
  split
  · rfl
  · by_cases hti : t = i
    · subst hti; exact h2 j hj
    · rw [if_neg hti] at hl
      exact h.pre t ht hl j hj
theorem mk_count {i : Nat} (hi : (turns.all fun t => decide (t ≠ i)) = true) : turns.countP (GhostV.mark L i) = turns.countP L := by
  apply List.countP_congr
  intro t ht
  have : t ≠ i := of_decide_eq_true (List.all_eq_true.1 hi t ht)
  unfold GhostV.mark
  rw [if_neg this]
/-- An operation that is no turn. -/
theorem quiet (h : GK ops turns S γ L wx) {i : Nat} (h2 : ∀ j, Region.waitsFor .any ops i j = true → L j = true) (v : Value) (hi : (turns.all fun t => decide (t ≠ i)) = true) (hS : ∀ p, S p γ wx → S p (upd γ i v) w') : GK ops turns S (upd γ i v) (GhostV.mark L i) w' :=
  ⟨h.mk_pre h2, by rw [mk_count hi]; exact hS _ h.st⟩
/-- An operation that is not wanted. -/
theorem no (h : GK ops turns S γ L wx) {i : Nat} (h2 : ∀ j, Region.waitsFor .any ops i j = false) (hi : (turns.all fun t => decide (t ≠ i)) = true) : GK ops turns S γ (GhostV.mark L i) wx :=
  ⟨h.mk_pre (fun j hj => by rw [h2 j] at hj; cases hj), by rw [mk_count hi]; exact h.st⟩
/-- How far the turns are where a turn's operation runs. -/
theorem at_ (h : GK ops turns S γ L wx) (hc : chainK ops turns = true) {k i : Nat} (hk : turns[k]? = some i) (h1 : L i = false) (hp : k = 0 ∨ ∃ j, turns[k - 1]? = some j ∧ L j = true) : S k γ wx := by
  have h3 := count_le hc h.pre hk h1
  have h4 : k ≤ turns.countP L := by
    rcases hp with rfl | ⟨j, hj, hl⟩
    · exact Nat.zero_le _
    · have := count_gt hc h.pre hj hl
      omega
  have : turns.countP L = k := Nat.le_antisymm h3 h4
  rw [← this]; exact h.st
/-- How far they are at most where another operation runs, for which the k-th turn waits. -/
theorem upto (h : GK ops turns S γ L wx) (hc : chainK ops turns = true) {k i t : Nat} (hk : turns[k]? = some t) (hw : Region.waitsFor .any ops t i = true) (h1 : L i = false) : ∃ p, p ≤ k ∧ S p γ wx := by
  refine ⟨_, count_le hc h.pre hk ?_, h.st⟩
  cases hl : L t
  · rfl
  · have := h.pre t (List.mem_of_getElem? hk) hl i hw
    rw [h1] at this; cases this
/-- A turn has run. -/
theorem turned (h : GK ops turns S γ L wx) (hc : chainK ops turns = true) (hnd : turns.Nodup) {k i : Nat} (hk : turns[k]? = some i) (h1 : L i = false) (h2 : ∀ j, Region.waitsFor .any ops i j = true → L j = true) (hp : k = 0 ∨ ∃ j, turns[k - 1]? = some j ∧ L j = true) (v : Value) (hS : S (k + 1) (upd γ i v) w') : GK ops turns S (upd γ i v) (GhostV.mark L i) w' := by
  refine ⟨h.mk_pre h2, ?_⟩
  have h3 := count_le hc h.pre hk h1
  have h4 : k ≤ turns.countP L := by
    rcases hp with rfl | ⟨j, hj, hl⟩
    · exact Nat.zero_le _
    · have := count_gt hc h.pre hj hl
      omega
  have e : turns.countP (GhostV.mark L i) = turns.countP L + 1 := by
    clear h3 h4 hp hS
    have hmem := List.mem_of_getElem? hk
    clear hk hc h
    induction turns with
    | nil => cases hmem
    | cons a r ih =>
      have hnd2 := List.nodup_cons.1 hnd
      rw [List.countP_cons, List.countP_cons]
      rcases List.mem_cons.1 hmem with rfl | hm
      · have : r.countP (GhostV.mark L i) = r.countP L := mk_count (List.all_eq_true.2 fun t ht => decide_eq_true fun e => hnd2.1 (e ▸ ht))
        rw [this]
        simp [GhostV.mark, h1]
      · have hne : a ≠ i := fun e => hnd2.1 (e ▸ hm)
        rw [ih hnd2.2 hm]
        simp only [GhostV.mark, if_neg hne]
        omega
  rw [e, Nat.le_antisymm h3 h4]
  exact hS
theorem done (h : GK ops turns S γ L wx) (hall : ∀ t ∈ turns, L t = true) : S turns.length γ wx := by
  have : turns.countP L = turns.length := List.countP_eq_length.2 hall
  rw [← this]; exact h.st
section
variable {P : Program} {i : Nat} {A : Gh → Act} {o : Oper} {rest : List Oper} {Qw : (Gh → Act) → Prop}
/-- An operation that is no turn: a plain value; the k-th turn waits for it. -/
theorem walk_quiet {v : Value} (k t : Nat) (hk : turns[k]? = some t) (hw2 : Region.waitsFor .any ops t i = true) (hc : chainK ops turns = true) (hi : (turns.all fun t => decide (t ≠ i)) = true) (hw : ∀ γ, Region.wanted o (yielded ops (A γ).tmps) = true)
    (hS : ∀ p γ wx w', S p γ wx → Below wx.heap.size wx w' → S p (upd γ i undef) w')
    (hs : ∀ γ p wx, p ≤ k → S p γ wx → ∀ K : Act → World → Prop, (∀ w', Below wx.heap.size wx w' → K ((A γ).put o.dst v) w') → o.wp P (A γ) wx K NoEnd)
    (h : walk P ops (fun γ L wx => GK ops turns S γ L wx) Qw (i + 1) rest (fun γ => (A γ).put o.dst v)) : walk P ops (fun γ L wx => GK ops turns S γ L wx) Qw i (o :: rest) A :=
  walk_const hw (fun γ L w h1 h2 hx K hK => by
    obtain ⟨p, hp, hSp⟩ := hx.upto hc hk hw2 h1
    exact hs γ p w hp hSp K (fun w' hb => hK w' (hx.quiet h2 undef hi (fun p hp2 => hS p γ w w' hp2 hb)))) h
/-- An operation that is no turn, however far the turns are. -/
theorem walk_free {v : Value} (hi : (turns.all fun t => decide (t ≠ i)) = true) (hw : ∀ γ, Region.wanted o (yielded ops (A γ).tmps) = true)
    (hS : ∀ p γ wx w', S p γ wx → Below wx.heap.size wx w' → S p (upd γ i undef) w')
    (hs : ∀ γ p wx, S p γ wx → ∀ K : Act → World → Prop, (∀ w', Below wx.heap.size wx w' → K ((A γ).put o.dst v) w') → o.wp P (A γ) wx K NoEnd)
    (h : walk P ops (fun γ L wx => GK ops turns S γ L wx) Qw (i + 1) rest (fun γ => (A γ).put o.dst v)) : walk P ops (fun γ L wx => GK ops turns S γ L wx) Qw i (o :: rest) A :=
  walk_const hw (fun γ _ w _ h2 hx K hK => hs γ _ w hx.st K (fun w' hb => hK w' (hx.quiet h2 undef hi (fun p hp2 => hS p γ w w' hp2 hb)))) h
/-- The k-th turn: its value is a ghost. -/
theorem walk_turn (k : Nat) (hk : turns[k]? = some i) (hc : chainK ops turns = true) (hnd : turns.Nodup) (hp : k = 0 ∨ ∃ j, turns[k - 1]? = some j ∧ Region.waitsFor .any ops i j = true) (hw : ∀ γ, Region.wanted o (yielded ops (A γ).tmps) = true)
    (hs : ∀ γ wx, S k γ wx → ∀ K : Act → World → Prop, (∀ b w', S (k + 1) (upd γ i b) w' → K ((A γ).put o.dst b) w') → o.wp P (A γ) wx K NoEnd)
    (h : walk P ops (fun γ L wx => GK ops turns S γ L wx) Qw (i + 1) rest (fun γ => (A γ).put o.dst (γ i))) : walk P ops (fun γ L wx => GK ops turns S γ L wx) Qw i (o :: rest) A :=
  walk_yes (fun b => b) hw (fun γ L w h1 h2 hx K hK => by
    have hp2 : k = 0 ∨ ∃ j, turns[k - 1]? = some j ∧ L j = true := by
      rcases hp with h | ⟨j, hj, hwj⟩
      · exact .inl h
      · exact .inr ⟨j, hj, h2 j hwj⟩
    exact hs γ w (hx.at_ hc hk h1 hp2) K (fun b w' hb => hK b w' (hx.turned hc hnd hk h1 h2 hp2 b hb))) h
end
end GK
/-- THE LAW: a drawn region, its turns, what holds behind so many of them. -/
theorem ghostK {P : Program} {id : Nat} {l : List Oper} {a : Act} {w : World} {Q : Exit → Act → World → Prop} (turns : List Nat) (S : Nat → Gh → World → Prop) (hm : P.follows .mixedOrders = true) (hok : ok l.toArray = true)
    (hI : ∀ γ, S 0 γ { w with drawn := w.drawn + 1 }) (h : walk P l.toArray (fun γ L wx => GK l.toArray turns S γ L wx) (fun A => ∀ γ L w', (∀ j, j < l.length → L j = true) → GK l.toArray turns S γ L w' → Q .normal (A γ) w') 0 l (fun _ => a)) : (Code.region id l.toArray true).wp P Q a w :=
  GhostV.ghost (fun γ L wx => GK l.toArray turns S γ L wx) hm hok (fun γ => GK.start γ (hI γ)) h
end Go.Proofs.Ytmfinebkikhceaa
