/- A region whose order is open, walked ONCE, in the order of its text, where some of its operations turn the world: the turns lie in a chain (each waits for the one before); a condition I k holds behind k turns; the other operations give the same value in every phase in which they may come, and keep it. Panics are let. -/
import Derived.Test.YtmfinebkikhceaaBag
namespace Go.Proofs.Ytmfinebkikhceaa.Chain
open Go Go.Proofs.Ytmfinebkikhceaa.Bag

section
variable {P : Program} {ops : Array Oper} {I : Nat → World → Prop} {E : Exit → World → Prop} {turns : List Nat}

/-- In which phases an operation may come. -/
def win (ops : Array Oper) (turns : List Nat) (i p : Nat) : Bool :=
  turns.zipIdx.all fun jk => (!Region.waitsFor .any ops i jk.1 || decide (jk.2 < p)) && (!Region.waitsFor .any ops jk.1 i || decide (p ≤ jk.2))

def linked (ops : Array Oper) : List Nat → Bool
  | [] => true
  | [i] => decide (i < ops.size)
  | i :: j :: rest => decide (i < ops.size) && Region.waitsFor .any ops j i && linked ops (j :: rest)

def okC (ops : Array Oper) (turns : List Nat) : Bool := Bag.ok ops && linked ops turns

/-- One operation from act a to act a1. -/
def Step (P : Program) (ops : Array Oper) (I : Nat → World → Prop) (E : Exit → World → Prop) (turns : List Nat) (i : Nat) (o : Oper) (a a1 : Act) : Prop :=
  (Region.wanted o (yielded ops a.tmps) = false ∧ a1 = a.put o.dst undef ∧ i ∉ turns) ∨
  (Region.wanted o (yielded ops a.tmps) = true ∧ (∃ v, a1 = a.put o.dst v) ∧
    ((∃ k, turns[k]? = some i ∧ ∀ wx, I k wx → o.wp P a wx (fun a' w' => a' = a1 ∧ I (k + 1) w') (fun e _ w' => E e w')) ∨
     (i ∉ turns ∧ ∀ p wx, p ≤ turns.length → win ops turns i p = true → I p wx → o.wp P a wx (fun a' w' => a' = a1 ∧ I p w') (fun e _ w' => E e w'))))

def walk (P : Program) (ops : Array Oper) (I : Nat → World → Prop) (E : Exit → World → Prop) (turns : List Nat) (Q : Act → Prop) : Nat → List Oper → Act → Prop
  | _, [], a => Q a
  | i, o :: rest, a => ∃ a1, Step P ops I E turns i o a a1 ∧ walk P ops I E turns Q (i + 1) rest a1

theorem Step.put {i : Nat} {o : Oper} {a a1 : Act} (h : Step P ops I E turns i o a a1) : ∃ v, a1 = a.put o.dst v := by
  rcases h with ⟨_, h, _⟩ | ⟨_, h, _⟩
  · exact ⟨_, h⟩
  · exact h

theorem walk_acts {Q : Act → Prop} : ∀ (l : List Oper) (n : Nat) (a : Act), walk P ops I E turns Q n l a → ∃ acts : Nat → Act, acts 0 = a ∧ (∀ i o, l[i]? = some o → Step P ops I E turns (n + i) o (acts i) (acts (i + 1))) ∧ Q (acts l.length)
  | [], _, a, h => ⟨fun _ => a, rfl, fun i o hi => by simp at hi, h⟩
  | o :: rest, n, a, ⟨a1, hs, h⟩ => by
    obtain ⟨acts, h0, hst, hQ⟩ := walk_acts rest (n + 1) a1 h
    refine ⟨fun n => match n with | 0 => a | n + 1 => acts n, rfl, fun i oi hi => ?_, hQ⟩
    cases i with
    | zero =>
      simp only [List.getElem?_cons_zero, Option.some.injEq] at hi
      subst hi
      show Step P ops I E turns (n + 0) o a (acts 0)
      rw [h0]; exact hs
    | succ i =>
      have := hst i oi (by simpa using hi)
      rw [show n + 1 + i = n + (i + 1) from by omega] at this
      exact this

structure Seq (P : Program) (ops : Array Oper) (I : Nat → World → Prop) (E : Exit → World → Prop) (turns : List Nat) (acts : Nat → Act) : Prop where
  step : ∀ i o, ops[i]? = some o → Step P ops I E turns i o (acts i) (acts (i + 1))
  put : ∀ i o, ops[i]? = some o → ∃ v, acts (i + 1) = (acts i).put o.dst v

variable {acts : Nat → Act}
theorem Seq.size (h : Seq P ops I E turns acts) : ∀ k, k ≤ ops.size → (acts k).tmps.size = (acts 0).tmps.size ∧ (acts k).defers = (acts 0).defers
  | 0, _ => ⟨rfl, rfl⟩
  | k + 1, hk => by
    obtain ⟨v, hv⟩ := h.put k _ (Array.getElem?_eq_getElem (by omega : k < ops.size))
    have ih := h.size k (by omega)
    rw [hv, put_size, put_defers']
    exact ih

/-- A slot that none of the operations from k to m writes holds what it held. -/
theorem Seq.keeps (h : Seq P ops I E turns acts) {s : Tmp} (k : Nat) : ∀ m, k ≤ m → m ≤ ops.size → (∀ j oj, k ≤ j → j < m → ops[j]? = some oj → oj.dst ≠ some s) → (acts m).tmps[s]? = (acts k).tmps[s]?
  | 0, hm, _, _ => by have : k = 0 := by omega
                      subst this; rfl
  | m + 1, hm, hs, hw => by
    rcases Nat.lt_or_ge m k with hlt | hge
    · have : k = m + 1 := by omega
      subst this; rfl
    · have hmm : m < ops.size := by omega
      have hom := Array.getElem?_eq_getElem hmm
      obtain ⟨v, hv⟩ := h.put m _ hom
      have ih := h.keeps k m hge (by omega) (fun j oj h1 h2 h3 => hw j oj h1 (by omega) h3)
      rw [hv, ← ih]
      have hne := hw m _ hge (by omega) hom
      cases hd : ops[m].dst with
      | none => rfl
      | some d =>
        rw [put_get, if_neg (fun e => hne (by rw [hd, e]))]

structure Inv (ops : Array Oper) (acts : Nat → Act) (listed : Array Bool) (a : Act) : Prop where
  size : listed.size = ops.size
  closed : ∀ j oj, ops[j]? = some oj → listed.getD j false = true → ∀ e ∈ oj.after, Region.binds .any e = true → listed.getD e.on false = true
  tsize : a.tmps.size = (acts 0).tmps.size
  defers : a.defers = (acts 0).defers
  done : ∀ j oj s, ops[j]? = some oj → oj.dst = some s → listed.getD j false = true → a.tmps[s]? = (acts (j + 1)).tmps[s]?
  rest : ∀ s, (∀ j oj, ops[j]? = some oj → listed.getD j false = true → oj.dst ≠ some s) → a.tmps[s]? = (acts 0).tmps[s]?

/-- What an operation that is ready looks at is as it was in the text's order. -/
theorem agree (hok : Ok ops) (hseq : Seq P ops I E turns acts) {listed : Array Bool} {a : Act} (inv : Inv ops acts listed a) {i : Nat} {oi : Oper} (hi : ops[i]? = some oi) (hun : listed.getD i false = false)
    (hrd : ∀ e ∈ oi.after, Region.binds .any e = true → listed.getD e.on false = true) {s : Tmp} (hs : s ∈ oi.looksAt ops) : a.tmps[s]? = (acts i).tmps[s]? := by
  have hil := (Array.getElem?_eq_some_iff.1 hi).1
  by_cases hw : ∃ (j : Nat) (oj : Oper), ops[j]? = some oj ∧ oj.dst = some s
  · obtain ⟨j, oj, hj, hd⟩ := hw
    have hjl := (Array.getElem?_eq_some_iff.1 hj).1
    rcases hok.reads i oi j oj s hi hj hd hs with ⟨hlt, hwt⟩ | ⟨hlt, hwt⟩
    · obtain ⟨e, he, hb, hon⟩ := Bag.waits_spec hi hwt
      have hl := hrd e he hb
      rw [hon] at hl
      rw [inv.done j oj s hj hd hl]
      exact (hseq.keeps (j + 1) i (by omega) (by omega) (fun k ok h1 h2 hk hdk => by have := hok.one k ok j oj s hk hj hdk hd; omega)).symm
    · have hjun : listed.getD j false = false := by
        cases hc : listed.getD j false with
        | false => rfl
        | true =>
          obtain ⟨e, he, hb, hon⟩ := Bag.waits_spec hj hwt
          have := inv.closed j oj hj hc e he hb
          rw [hon, hun] at this
          cases this
      rw [inv.rest s (fun k ok hk hl hdk => by
        have := hok.one k ok j oj s hk hj hdk hd
        subst this
        rw [hjun] at hl
        cases hl)]
      exact (hseq.keeps 0 i (by omega) (by omega) (fun k ok h1 h2 hk hdk => by have := hok.one k ok j oj s hk hj hdk hd; omega)).symm
  · have hno : ∀ (j : Nat) (oj : Oper), ops[j]? = some oj → oj.dst ≠ some s := fun j oj hj hd => hw ⟨j, oj, hj, hd⟩
    rw [inv.rest s (fun j oj hj _ => hno j oj hj)]
    exact (hseq.keeps 0 i (by omega) (by omega) (fun k ok _ _ hk => hno k ok hk)).symm

theorem inv_next (hok : Ok ops) (hseq : Seq P ops I E turns acts) {listed : Array Bool} {a : Act} (inv : Inv ops acts listed a) {i : Nat} {oi : Oper} (hi : ops[i]? = some oi)
    (hrd : ∀ e ∈ oi.after, Region.binds .any e = true → listed.getD e.on false = true) {v : Value} (hv : acts (i + 1) = (acts i).put oi.dst v) : Inv ops acts (listed.setIfInBounds i true) (a.put oi.dst v) := by
  have hil := (Array.getElem?_eq_some_iff.1 hi).1
  have hset : (listed.setIfInBounds i true).getD i false = true := by simp [inv.size, hil]
  have hsz := hseq.size i (by omega)
  refine ⟨by simp [inv.size], fun j oj hj hl e he hb => ?_, by rw [put_size]; exact inv.tsize, by rw [put_defers']; exact inv.defers, fun j oj s hj hd hl => ?_, fun s hs => ?_⟩
  · by_cases hij : i = j
    · subst hij
      rw [hi] at hj
      obtain rfl := Option.some.inj hj
      exact getD_set_true (hrd e he hb)
    · rw [getD_set_ne false hij] at hl
      exact getD_set_true (inv.closed j oj hj hl e he hb)
  · by_cases hij : i = j
    · subst hij
      rw [hi] at hj
      obtain rfl := Option.some.inj hj
      rw [hv, hd, put_get, put_get, if_pos rfl, if_pos rfl, hsz.1, inv.tsize]
    · rw [getD_set_ne false hij] at hl
      rw [← inv.done j oj s hj hd hl]
      cases hdi : oi.dst with
      | none => rfl
      | some d =>
        rw [put_get, if_neg]
        intro e
        subst e
        exact hij (hok.one i oi j oj d hi hj hdi hd)
  · have hne : oi.dst ≠ some s := hs i oi hi hset
    have h2 : a.tmps[s]? = (acts 0).tmps[s]? := inv.rest s (fun j oj hj hl => hs j oj hj (getD_set_true hl))
    rw [← h2]
    cases hdi : oi.dst with
    | none => rfl
    | some d => rw [put_get, if_neg (fun e => hne (by rw [hdi, e]))]


theorem linked_size : ∀ {turns : List Nat} {k j : Nat}, linked ops turns = true → turns[k]? = some j → j < ops.size
  | [], _, _, _, h => by simp at h
  | [i], 0, j, h, hk => by simp at hk; subst hk; simpa [linked] using h
  | [i], k + 1, j, h, hk => by simp at hk
  | i :: i2 :: rest, 0, j, h, hk => by
    simp at hk; subst hk
    simp only [linked, Bool.and_eq_true, decide_eq_true_eq] at h
    exact h.1.1
  | i :: i2 :: rest, k + 1, j, h, hk => by
    simp only [linked, Bool.and_eq_true, decide_eq_true_eq] at h
    exact linked_size (turns := i2 :: rest) (k := k) h.2 (by simpa using hk)
theorem linked_waits : ∀ {turns : List Nat} {k i j : Nat}, linked ops turns = true → turns[k]? = some i → turns[k + 1]? = some j → Region.waitsFor .any ops j i = true
  | [], _, _, _, _, h, _ => by simp at h
  | [_], k, _, _, _, _, h => by simp at h
  | i0 :: i2 :: rest, 0, i, j, h, hk, hk2 => by
    simp at hk hk2; subst hk hk2
    simp only [linked, Bool.and_eq_true, decide_eq_true_eq] at h
    exact h.1.2
  | i0 :: i2 :: rest, k + 1, i, j, h, hk, hk2 => by
    simp only [linked, Bool.and_eq_true, decide_eq_true_eq] at h
    exact linked_waits (turns := i2 :: rest) (k := k) h.2 (by simpa using hk) (by simpa using hk2)
/-- The turns stand in the order of the text. -/
theorem linked_lt (hok : Ok ops) (hl : linked ops turns = true) {k : Nat} {i : Nat} (hk : turns[k]? = some i) : ∀ m j, k < m → turns[m]? = some j → i < j
  | 0, _, h, _ => absurd h (by omega)
  | m + 1, j, h, hm => by
    have hmm : m < turns.length := by have := (List.getElem?_eq_some_iff.1 hm).1; omega
    have hw := linked_waits hl (List.getElem?_eq_getElem hmm) hm
    have hjs := linked_size hl hm
    obtain ⟨e, he, hb, hon⟩ := Bag.waits_spec (Array.getElem?_eq_getElem hjs) hw
    have h1 := hok.back j _ (Array.getElem?_eq_getElem hjs) e he hb
    rcases Nat.lt_or_ge k m with h2 | h2
    · have := linked_lt hok hl hk m _ h2 (List.getElem?_eq_getElem hmm)
      omega
    · obtain rfl : k = m := by omega
      rw [List.getElem?_eq_getElem hmm] at hk
      have := Option.some.inj hk
      omega

/-- How many turns have come. -/
structure Phase (turns : List Nat) (listed : Array Bool) (p : Nat) : Prop where
  le : p ≤ turns.length
  at_ : ∀ k j, turns[k]? = some j → (listed.getD j false = true ↔ k < p)

theorem ready_lt {i : Nat} {oi : Oper} (hi : ops[i]? = some oi) {j : Nat} {listed : Array Bool} (hrd : ∀ e ∈ oi.after, Region.binds .any e = true → listed.getD e.on false = true) (h : Region.waitsFor .any ops i j = true) : listed.getD j false = true := by
  obtain ⟨e, he, hb, hon⟩ := Bag.waits_spec hi h
  rw [← hon]; exact hrd e he hb

theorem win_of {listed : Array Bool} {a : Act} (inv : Inv ops acts listed a) {p i : Nat} {oi : Oper} (hl : linked ops turns = true) (hp : Phase turns listed p) (hi : ops[i]? = some oi) (hun : listed.getD i false = false)
    (hrd : ∀ e ∈ oi.after, Region.binds .any e = true → listed.getD e.on false = true) : win ops turns i p = true := by
  unfold win
  rw [List.all_eq_true]
  rintro ⟨j, k⟩ hjk
  have hk : turns[k]? = some j := by
    have := List.mem_zipIdx_iff_getElem?.1 hjk
    simpa using this
  simp only [Bool.and_eq_true, Bool.or_eq_true, Bool.not_eq_true', decide_eq_true_eq]
  constructor
  · cases h : Region.waitsFor .any ops i j with
    | false => exact .inl rfl
    | true => exact .inr ((hp.at_ k j hk).1 (ready_lt hi hrd h))
  · cases h : Region.waitsFor .any ops j i with
    | false => exact .inl rfl
    | true =>
      refine .inr ?_
      rcases Nat.lt_or_ge k p with h2 | h2
      · exfalso
        have hlj := (hp.at_ k j hk).2 h2
        have hjs := linked_size hl hk
        obtain ⟨e, he, hb, hon⟩ := Bag.waits_spec (Array.getElem?_eq_getElem hjs) h
        have := inv.closed j _ (Array.getElem?_eq_getElem hjs) hlj e he hb
        rw [hon, hun] at this
        cases this
      · exact h2

theorem phase_turn (hok : Ok ops) (hl : linked ops turns = true) {listed : Array Bool} {p k i : Nat} {oi : Oper} (hsz : listed.size = ops.size) (hp : Phase turns listed p) (hk : turns[k]? = some i) (hi : ops[i]? = some oi) (hun : listed.getD i false = false)
    (hrd : ∀ e ∈ oi.after, Region.binds .any e = true → listed.getD e.on false = true) : p = k ∧ Phase turns (listed.setIfInBounds i true) (p + 1) := by
  have hil := (Array.getElem?_eq_some_iff.1 hi).1
  have hkl := (List.getElem?_eq_some_iff.1 hk).1
  have h1 : ¬ k < p := fun h => by rw [(hp.at_ k i hk).2 h] at hun; cases hun
  have h2 : p = k := by
    cases k with
    | zero => omega
    | succ k =>
      have hkk : k < turns.length := by omega
      have hw := linked_waits hl (List.getElem?_eq_getElem hkk) hk
      have := (hp.at_ k _ (List.getElem?_eq_getElem hkk)).1 (ready_lt hi hrd hw)
      omega
  refine ⟨h2, by omega, fun k' j' hk' => ?_⟩
  by_cases hij : i = j'
  · subst hij
    have hkk : k' = k := by
      rcases Nat.lt_trichotomy k' k with h | h | h
      · have := linked_lt hok hl hk' k i h hk; omega
      · exact h
      · have := linked_lt hok hl hk k' i h hk'; omega
    subst hkk
    have : (listed.setIfInBounds i true).getD i false = true := by simp [hsz, hil]
    rw [this]
    simp; omega
  · rw [getD_set_ne false hij, hp.at_ k' j' hk']
    have : k' ≠ k := fun e => by subst e; rw [hk] at hk'; exact hij (Option.some.inj hk')
    omega
theorem phase_quiet {listed : Array Bool} {p i : Nat} (hp : Phase turns listed p) (hn : i ∉ turns) : Phase turns (listed.setIfInBounds i true) p :=
  ⟨hp.le, fun k j hk => by
    have hij : i ≠ j := fun e => hn (by rw [e]; exact List.mem_of_getElem? hk)
    rw [getD_set_ne false hij]; exact hp.at_ k j hk⟩

/-- One operation, whichever comes up. -/
theorem wpOp_of (hok : Ok ops) (hl : linked ops turns = true) (hseq : Seq P ops I E turns acts) {listed : Array Bool} {a : Act} {w : World} (inv : Inv ops acts listed a) {p : Nat} (hp : Phase turns listed p) (hI : I p w) {Q : Exit → Act → World → Prop}
    (hE : ∀ e a' w', a'.defers = (acts 0).defers → E e w' → Q e a' w') {i : Nat} (hr : i ∈ Region.ready .any ops listed)
    {K : Act → World → Prop} (hK : ∀ a' w' p', Inv ops acts (listed.setIfInBounds i true) a' → Phase turns (listed.setIfInBounds i true) p' → I p' w' → K a' w') : wpOp P ops Q i K a w := by
  obtain ⟨hun, oi, hi, hrd⟩ := mem_ready.1 hr
  have hun' := getD_both hun
  obtain ⟨he, hwd⟩ := eval_of_agree (hok.sel i oi · · hi) (fun s hs => agree hok hseq inv hi hun' hrd hs)
  unfold Go.wpOp
  simp only [hi]
  rw [hwd]
  have put : ∀ v, acts (i + 1) = (acts i).put oi.dst v → Inv ops acts (listed.setIfInBounds i true) (a.put oi.dst v) := fun v hv => inv_next hok hseq inv hi hrd hv
  have main : ∀ p', Phase turns (listed.setIfInBounds i true) p' → oi.wp P (acts i) w (fun a' w' => a' = acts (i + 1) ∧ I p' w') (fun e _ w' => E e w') → (oi.wp P a w K Q) := by
    intro p' hp' h
    unfold Oper.wp at h ⊢
    rw [he]
    generalize (execOp (acts i).eval oi).run P w = r at h
    cases r with
    | ok n w' =>
      cases n with
      | value v => exact hK _ _ _ (put v h.1.symm) hp' h.2
      | skip => exact hK _ _ _ (put undef h.1.symm) hp' h.2
      | defer d =>
        exfalso
        have := h.1
        obtain ⟨v, hv⟩ := hseq.put i oi hi
        rw [hv] at this
        have hd := congrArg Act.defers this
        rw [put_defers', put_defers'] at hd
        exact absurd (congrArg List.length hd) (by simp)
      | enter f args =>
        refine Calls.mono h fun e w'' r => ?_
        cases e with
        | returned v => exact hK _ _ _ (put v r.1.symm) hp' r.2
        | panicked c => exact hE _ _ _ inv.defers r
        | outgrown => obtain ⟨a0, w0, h⟩ := r; exact ⟨a, w0, hE _ _ _ inv.defers h⟩
      | row row args => exact Rows.mono h fun v w'' r => hK _ _ _ (put v r.1.symm) hp' r.2
      | _ => exact h.elim
    | halt x w' =>
      cases x with
      | panic v => exact hE _ _ _ inv.defers h
      | _ => exact h.elim
  rcases hseq.step i oi hi with ⟨hnw, hput, hn⟩ | ⟨hw, _, ⟨k, hk, hst⟩ | ⟨hn, hst⟩⟩
  · rw [if_neg (by rw [hnw]; simp)]
    exact hK _ _ _ (put undef hput) (phase_quiet hp hn) hI
  · rw [if_pos hw]
    obtain ⟨rfl, hp'⟩ := phase_turn hok hl inv.size hp hk hi hun' hrd
    exact .inl (main _ hp' (hst w hI))
  · rw [if_pos hw]
    exact .inl (main _ (phase_quiet hp hn) (hst p w hp.le (win_of inv hl hp hi hun' hrd) hI))

theorem final (hok : Ok ops) (hseq : Seq P ops I E turns acts) {listed : Array Bool} {a : Act} (inv : Inv ops acts listed a) (hr : Region.ready .any ops listed = []) : a = acts ops.size := by
  have hall := fun i hi => Bag.all_listed hok hr inv.size ops.size i hi hi
  have ht : a.tmps = (acts ops.size).tmps := by
    apply Array.ext_getElem?
    intro s
    by_cases hw : ∃ (j : Nat) (oj : Oper), ops[j]? = some oj ∧ oj.dst = some s
    · obtain ⟨j, oj, hj, hd⟩ := hw
      have hjl := (Array.getElem?_eq_some_iff.1 hj).1
      rw [inv.done j oj s hj hd (hall j hjl)]
      exact (hseq.keeps (j + 1) ops.size (by omega) (Nat.le_refl _) (fun k ok h1 h2 hk hdk => by have := hok.one k ok j oj s hk hj hdk hd; omega)).symm
    · have hno : ∀ (j : Nat) (oj : Oper), ops[j]? = some oj → oj.dst ≠ some s := fun j oj hj hd => hw ⟨j, oj, hj, hd⟩
      rw [inv.rest s (fun j oj hj _ => hno j oj hj)]
      exact (hseq.keeps 0 ops.size (by omega) (Nat.le_refl _) (fun k ok _ _ hk => hno k ok hk)).symm
  have hd : a.defers = (acts ops.size).defers := by rw [inv.defers, (hseq.size ops.size (Nat.le_refl _)).2]
  cases a
  cases h : acts ops.size
  rw [h] at ht hd
  simp only at ht hd
  subst ht hd
  rfl

theorem final_phase (hok : Ok ops) (hl : linked ops turns = true) {listed : Array Bool} {a : Act} (inv : Inv ops acts listed a) (hr : Region.ready .any ops listed = []) {p : Nat} (hp : Phase turns listed p) : p = turns.length := by
  have hall := fun i hi => Bag.all_listed hok hr inv.size ops.size i hi hi
  rcases Nat.lt_or_ge p turns.length with h | h
  · exfalso
    have hg := List.getElem?_eq_getElem h
    have := (hp.at_ p _ hg).1 (hall _ (linked_size hl hg))
    omega
  · have := hp.le; omega

theorem wpAny_of (hok : Ok ops) (hl : linked ops turns = true) (hseq : Seq P ops I E turns acts) {Q : Exit → Act → World → Prop} (hE : ∀ e a' w', a'.defers = (acts 0).defers → E e w' → Q e a' w') (hQ : ∀ w, I turns.length w → Q .normal (acts ops.size) w) :
    ∀ (fuel : Nat) (listed : Array Bool) (a : Act) (w : World) (p : Nat), Inv ops acts listed a → Phase turns listed p → I p w → (ops.size ≤ fuel + ((List.range ops.size).filter fun i => listed.getD i false).length) → wpAny P .any ops Q fuel listed a w
  | 0, listed, a, w, p, inv, hp, hI, hf => by
    have hall : Region.ready .any ops listed = [] := by
      rw [List.eq_nil_iff_forall_not_mem]
      intro i hi
      obtain ⟨hun, oi, ho, _⟩ := mem_ready.1 hi
      have hil := (Array.getElem?_eq_some_iff.1 ho).1
      have hlen : ((List.range ops.size).filter fun i => listed.getD i false).length = (List.range ops.size).length := by
        have := List.length_filter_le (fun i => listed.getD i false) (List.range ops.size)
        rw [List.length_range] at this ⊢
        omega
      have := List.length_filter_eq_length_iff.1 hlen i (List.mem_range.2 hil)
      rw [getD_both hun] at this
      cases this
    refine ⟨hall, ?_⟩
    rw [final hok hseq inv hall]
    rw [final_phase hok hl inv hall hp] at hI
    exact hQ w hI
  | fuel + 1, listed, a, w, p, inv, hp, hI, hf => by
    refine ⟨fun hr => by rw [final hok hseq inv hr]; rw [final_phase hok hl inv hr hp] at hI; exact hQ w hI, fun i hi => wpOp_of hok hl hseq inv hp hI hE hi fun a' w' p' inv' hp' hI' => wpAny_of hok hl hseq hE hQ fuel _ a' w' p' inv' hp' hI' ?_⟩
    obtain ⟨hun, oi, ho, _⟩ := mem_ready.1 hi
    have hil := (Array.getElem?_eq_some_iff.1 ho).1
    have hlt : ((List.range ops.size).filter fun i => listed.getD i false).length < ((List.range ops.size).filter fun j => (listed.setIfInBounds i true).getD j false).length := by
      rw [← List.countP_eq_length_filter, ← List.countP_eq_length_filter]
      have hsplit := Bag.range_split ops.size i hil
      rw [hsplit, List.countP_append, List.countP_append, List.countP_cons, List.countP_cons]
      have h1 : List.countP (fun i => listed.getD i false) (List.range i) ≤ List.countP (fun j => (listed.setIfInBounds i true).getD j false) (List.range i) := List.countP_mono_left fun j _ h => getD_set_true h
      have h2 : List.countP (fun i => listed.getD i false) (List.range' (i + 1) (ops.size - (i + 1))) ≤ List.countP (fun j => (listed.setIfInBounds i true).getD j false) (List.range' (i + 1) (ops.size - (i + 1))) := List.countP_mono_left fun j _ h => getD_set_true h
      have h3 : (listed.setIfInBounds i true).getD i false = true := by simp [inv.size, hil]
      rw [h3, getD_both hun]
      simp
      simp at h1 h2
      omega
    omega

/-- THE LAW: the region is walked once, in the order of its text. -/
theorem chain {id : Nat} {l : List Oper} {a : Act} {w : World} {Q : Exit → Act → World → Prop} (I : Nat → World → Prop) (E : Exit → World → Prop) (turns : List Nat) (hm : P.follows .mixedOrders = true) (hok : okC l.toArray turns = true)
    (hE : ∀ e a' w', a'.defers = a.defers → E e w' → Q e a' w')
    (hI : I 0 { w with drawn := w.drawn + 1 }) (h : walk P l.toArray I E turns (fun a' => ∀ w', I turns.length w' → Q .normal a' w') 0 l a) : (Code.region id l.toArray true).wp P Q a w := by
  unfold okC at hok
  rw [Bool.and_eq_true] at hok
  obtain ⟨acts, h0, hst, hQ⟩ := walk_acts l 0 a h
  have hseq : Seq P l.toArray I E turns acts := ⟨fun i o hi => by have := hst i o (by simpa using hi); rwa [Nat.zero_add] at this, fun i o hi => (hst i o (by simpa using hi)).put⟩
  have hsz : l.toArray.size = l.length := by simp
  refine wp_region_any hm (wpAny_of (p := 0) (ok_spec hok.1) hok.2 hseq (by rw [h0]; exact hE) (by rw [hsz]; exact hQ) _ _ a _ ⟨by simp, fun j oj _ hl => (by rw [getD_replicate_false] at hl; cases hl), by rw [h0], by rw [h0], fun j oj s _ _ hl => (by rw [getD_replicate_false] at hl; cases hl), fun s _ => by rw [h0]⟩ ⟨Nat.zero_le _, fun k j hk => by rw [getD_replicate_false]; simp⟩ hI (by omega))

theorem walk_nil {Q : Act → Prop} {a : Act} {i : Nat} (h : Q a) : walk P ops I E turns Q i [] a := h
theorem walk_no {Q : Act → Prop} {a : Act} {o : Oper} {rest : List Oper} {i : Nat} (hw : Region.wanted o (yielded ops a.tmps) = false) (hn : i ∉ turns) (h : walk P ops I E turns Q (i + 1) rest (a.put o.dst undef)) : walk P ops I E turns Q i (o :: rest) a :=
  ⟨_, .inl ⟨hw, rfl, hn⟩, h⟩
theorem walk_quiet {Q : Act → Prop} {a a1 : Act} {o : Oper} {rest : List Oper} {i : Nat} (hw : Region.wanted o (yielded ops a.tmps) = true) (hn : i ∉ turns)
    (hs : ∀ p wx, p ≤ turns.length → win ops turns i p = true → I p wx → ∀ K : Act → World → Prop, (∀ w', I p w' → K a1 w') → o.wp P a wx K (fun e _ w' => E e w')) (hv : ∃ v, a1 = a.put o.dst v) (h : walk P ops I E turns Q (i + 1) rest a1) : walk P ops I E turns Q i (o :: rest) a :=
  ⟨a1, .inr ⟨hw, hv, .inr ⟨hn, fun p wx hp hwn hI => hs p wx hp hwn hI _ (fun _ h' => ⟨rfl, h'⟩)⟩⟩, h⟩
theorem walk_turn {Q : Act → Prop} {a a1 : Act} {o : Oper} {rest : List Oper} {i : Nat} (k : Nat) (hk : turns[k]? = some i) (hw : Region.wanted o (yielded ops a.tmps) = true)
    (hs : ∀ wx, I k wx → ∀ K : Act → World → Prop, (∀ w', I (k + 1) w' → K a1 w') → o.wp P a wx K (fun e _ w' => E e w')) (hv : ∃ v, a1 = a.put o.dst v) (h : walk P ops I E turns Q (i + 1) rest a1) : walk P ops I E turns Q i (o :: rest) a :=
  ⟨a1, .inr ⟨hw, hv, .inl ⟨k, hk, fun wx hI => hs wx hI _ (fun _ h' => ⟨rfl, h'⟩)⟩⟩, h⟩
end
end Go.Proofs.Ytmfinebkikhceaa.Chain
