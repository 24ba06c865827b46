/- A region whose order is open, walked ONCE, in the order of its text, where the value of an operation may hang on the order (a slice, an address): it is a ghost, a value, chosen when the operation runs; a condition I speaks of the ghosts, of what has run, and of the world. No statement of the seat is proved here. -/
import Derived.Test.YtmfinebkikhceaaBag
namespace Go.Proofs.Ytmfinebkikhceaa.GhostV
open Go Go.RowKit Go.Proofs.Ytmfinebkikhceaa.Bag

abbrev Gh := Nat → Value
abbrev Run := Nat → Bool
def upd (γ : Gh) (i : Nat) (b : Value) : Gh := fun j => if j = i then b else γ j
def mark (L : Run) (i : Nat) : Run := fun j => if j = i then true else L j

section
variable {P : Program} {ops : Array Oper} {I : Gh → Run → World → Prop}

/-- One operation, number i, whose value is 'val' of its ghost. -/
def Step (P : Program) (ops : Array Oper) (I : Gh → Run → World → Prop) (i : Nat) (o : Oper) (A : Gh → Act) (val : Value → Value) : Prop :=
  ((∀ γ, Region.wanted o (yielded ops (A γ).tmps) = false) ∧ (∀ b, val b = undef) ∧ ∀ γ L w, I γ L w → I γ (mark L i) w) ∨
  ((∀ γ, Region.wanted o (yielded ops (A γ).tmps) = true) ∧
    ∀ γ (L : Run) w, L i = false → (∀ j, Region.waitsFor .any ops i j = true → L j = true) → I γ L w → o.wp P (A γ) w (fun a' w' => ∃ b, a' = (A γ).put o.dst (val b) ∧ I (upd γ i b) (mark L i) w') NoEnd)

def walk (P : Program) (ops : Array Oper) (I : Gh → Run → World → Prop) (Q : (Gh → Act) → Prop) : Nat → List Oper → (Gh → Act) → Prop
  | _, [], A => Q A
  | i, o :: rest, A => ∃ val : Value → Value, Step P ops I i o A val ∧ walk P ops I Q (i + 1) rest (fun γ => (A γ).put o.dst (val (γ i)))

theorem walk_acts {Q : (Gh → Act) → Prop} : ∀ (l : List Oper) (i : Nat) (A : Gh → Act), walk P ops I Q i l A → ∃ (Af : Nat → Gh → Act) (val : Nat → Value → Value), Af 0 = A ∧
    (∀ k o, l[k]? = some o → Step P ops I (i + k) o (Af k) (val k) ∧ ∀ γ, Af (k + 1) γ = (Af k γ).put o.dst (val k (γ (i + k)))) ∧ Q (Af l.length)
  | [], _, A, h => ⟨fun _ => A, fun _ _ => undef, rfl, fun k o hk => by simp at hk, h⟩
  | o :: rest, i, A, ⟨v, hs, h⟩ => by
    obtain ⟨Af, val, h0, hst, hQ⟩ := walk_acts rest (i + 1) _ h
    refine ⟨fun n => match n with | 0 => A | n + 1 => Af n, fun n => match n with | 0 => v | n + 1 => val n, rfl, fun k ok hk => ?_, hQ⟩
    cases k with
    | zero =>
      simp only [List.getElem?_cons_zero, Option.some.injEq] at hk
      subst hk
      exact ⟨hs, fun γ => by show Af 0 γ = _; rw [h0]; rfl⟩
    | succ k =>
      have := hst k ok (by simpa using hk)
      rw [show i + 1 + k = i + (k + 1) from by omega] at this
      exact this

structure Seq (ops : Array Oper) (Af : Nat → Gh → Act) (val : Nat → Value → Value) (a0 : Act) : Prop where
  zero : ∀ γ, Af 0 γ = a0
  put : ∀ k o, ops[k]? = some o → ∀ γ, Af (k + 1) γ = (Af k γ).put o.dst (val k (γ k))

variable {Af : Nat → Gh → Act} {val : Nat → Value → Value} {a0 : Act}

theorem Seq.size (h : Seq ops Af val a0) (γ : Gh) : ∀ k, k ≤ ops.size → (Af k γ).tmps.size = a0.tmps.size ∧ (Af k γ).defers = a0.defers
  | 0, _ => by rw [h.zero]; exact ⟨rfl, rfl⟩
  | k + 1, hk => by
    rw [h.put k _ (Array.getElem?_eq_getElem (by omega : k < ops.size)) γ, put_size, put_defers']
    exact h.size γ k (by omega)
theorem Seq.keeps (h : Seq ops Af val a0) (γ : Gh) {s : Tmp} (k : Nat) : ∀ m, k ≤ m → m ≤ ops.size → (∀ j oj, k ≤ j → j < m → ops[j]? = some oj → oj.dst ≠ some s) → (Af m γ).tmps[s]? = (Af k γ).tmps[s]?
  | 0, hm, _, _ => by have : k = 0 := by omega
                      subst this; rfl
  | m + 1, hm, hs, hw => by
    rcases Nat.lt_or_ge m k with hlt | hge
    · have : k = m + 1 := by omega
      subst this; rfl
    · have hmm : m < ops.size := by omega
      have hom := Array.getElem?_eq_getElem hmm
      have ih := h.keeps γ k m hge (by omega) (fun j oj h1 h2 h3 => hw j oj h1 (by omega) h3)
      rw [h.put m _ hom γ, ← ih]
      have hne := hw m _ hge (by omega) hom
      cases hd : ops[m].dst with
      | none => rfl
      | some d => rw [put_get, if_neg (fun e => hne (by rw [hd, e]))]
/-- What stands in a slot behind its operation. -/
theorem Seq.at_ (h : Seq ops Af val a0) (hok : Ok ops) (γ : Gh) {j : Nat} {oj : Oper} {s : Tmp} (hj : ops[j]? = some oj) (hd : oj.dst = some s) {m : Nat} (hm : j < m) (hs : m ≤ ops.size) : (Af m γ).tmps[s]? = if s < a0.tmps.size then some (val j (γ j)) else none := by
  rw [h.keeps γ (j + 1) m (by omega) hs (fun k ok h1 h2 hk hdk => by have := hok.one k ok j oj s hk hj hdk hd; omega), h.put j oj hj γ, hd, put_get, if_pos rfl, (h.size γ j (by omega)).1]

structure Inv (ops : Array Oper) (val : Nat → Value → Value) (a0 : Act) (γ : Gh) (listed : Array Bool) (a : Act) : Prop where
  size : listed.size = ops.size
  closed : ∀ j oj, ops[j]? = some oj → listed.getD j false = true → ∀ e ∈ oj.after, Region.binds .any e = true → listed.getD e.on false = true
  tsize : a.tmps.size = a0.tmps.size
  defers : a.defers = a0.defers
  done : ∀ j oj s, ops[j]? = some oj → oj.dst = some s → listed.getD j false = true → a.tmps[s]? = if s < a0.tmps.size then some (val j (γ j)) else none
  rest : ∀ s, (∀ j oj, ops[j]? = some oj → listed.getD j false = true → oj.dst ≠ some s) → a.tmps[s]? = a0.tmps[s]?

theorem agree (hok : Ok ops) (hseq : Seq ops Af val a0) {γ : Gh} {listed : Array Bool} {a : Act} (inv : Inv ops val a0 γ listed a) {i : Nat} {oi : Oper} (hi : ops[i]? = some oi) (hun : listed.getD i false = false)
    (hrd : ∀ e ∈ oi.after, Region.binds .any e = true → listed.getD e.on false = true) {s : Tmp} (hs : s ∈ oi.looksAt ops) : a.tmps[s]? = (Af i γ).tmps[s]? := by
  have hil := (Array.getElem?_eq_some_iff.1 hi).1
  by_cases hw : ∃ (j : Nat) (oj : Oper), ops[j]? = some oj ∧ oj.dst = some s
  · obtain ⟨j, oj, hj, hd⟩ := hw
    have hjl := (Array.getElem?_eq_some_iff.1 hj).1
    rcases hok.reads i oi j oj s hi hj hd hs with ⟨hlt, hwt⟩ | ⟨hlt, hwt⟩
    · obtain ⟨e, he, hb, hon⟩ := waits_spec hi hwt
      have hl := hrd e he hb
      rw [hon] at hl
      rw [inv.done j oj s hj hd hl, hseq.at_ hok γ hj hd hlt (by omega)]
    · have hjun : listed.getD j false = false := by
        cases hc : listed.getD j false with
        | false => rfl
        | true =>
          obtain ⟨e, he, hb, hon⟩ := waits_spec hj hwt
          have := inv.closed j oj hj hc e he hb
          rw [hon, hun] at this
          cases this
      rw [inv.rest s (fun k ok hk hl hdk => by
        have := hok.one k ok j oj s hk hj hdk hd
        subst this
        rw [hjun] at hl
        cases hl), hseq.keeps γ 0 i (by omega) (by omega) (fun k ok h1 h2 hk hdk => by have := hok.one k ok j oj s hk hj hdk hd; omega), hseq.zero]
  · have hno : ∀ (j : Nat) (oj : Oper), ops[j]? = some oj → oj.dst ≠ some s := fun j oj hj hd => hw ⟨j, oj, hj, hd⟩
    rw [inv.rest s (fun j oj hj _ => hno j oj hj), hseq.keeps γ 0 i (by omega) (by omega) (fun k ok _ _ hk => hno k ok hk), hseq.zero]

theorem inv_next (hok : Ok ops) (hseq : Seq ops Af val a0) {γ : Gh} {listed : Array Bool} {a : Act} (inv : Inv ops val a0 γ listed a) {i : Nat} {oi : Oper} (hi : ops[i]? = some oi)
    (hrd : ∀ e ∈ oi.after, Region.binds .any e = true → listed.getD e.on false = true) {v : Value} {b : Value} (hv : (Af i γ).put oi.dst v = (Af i γ).put oi.dst (val i b)) : Inv ops val a0 (upd γ i b) (listed.setIfInBounds i true) (a.put oi.dst v) := by
  have hil := (Array.getElem?_eq_some_iff.1 hi).1
  have hset : (listed.setIfInBounds i true).getD i false = true := by simp [inv.size, hil]
  have hsz := hseq.size γ i (by omega)
  refine ⟨by simp [inv.size], fun j oj hj hl e he hb => ?_, by rw [put_size]; exact inv.tsize, by rw [put_defers']; exact inv.defers, fun j oj s hj hd hl => ?_, fun s hs => ?_⟩
  · by_cases hij : i = j
    · subst hij
      rw [hi] at hj
      obtain rfl := Option.some.inj hj
      exact getD_set_true (hrd e he hb)
    · rw [getD_set_ne false hij] at hl
      exact getD_set_true (inv.closed j oj hj hl e he hb)
  · by_cases hij : i = j
    · subst hij
      rw [hi] at hj
      obtain rfl := Option.some.inj hj
      have h1 : ((Af i γ).put oi.dst v).tmps[s]? = ((Af i γ).put oi.dst (val i b)).tmps[s]? := by rw [hv]
      rw [hd, put_get, put_get, if_pos rfl, if_pos rfl, hsz.1] at h1
      rw [hd, put_get, if_pos rfl, inv.tsize, h1]
      show _ = if s < a0.tmps.size then some (val i (upd γ i b i)) else none
      unfold upd
      rw [if_pos rfl]
    · rw [getD_set_ne false hij] at hl
      have h1 := inv.done j oj s hj hd hl
      have h2 : upd γ i b j = γ j := by unfold upd; rw [if_neg (fun e => hij e.symm)]
      rw [h2, ← h1]
      cases hdi : oi.dst with
      | none => rfl
      | some d =>
        rw [put_get, if_neg]
        intro e
        subst e
        exact hij (hok.one i oi j oj d hi hj hdi hd)
  · have hne : oi.dst ≠ some s := hs i oi hi hset
    have h2 : a.tmps[s]? = a0.tmps[s]? := inv.rest s (fun j oj hj hl => hs j oj hj (getD_set_true hl))
    rw [← h2]
    cases hdi : oi.dst with
    | none => rfl
    | some d => rw [put_get, if_neg (fun e => hne (by rw [hdi, e]))]

/-- What has run, as a function. -/
def runOf (listed : Array Bool) : Run := fun j => listed.getD j false
theorem runOf_set {listed : Array Bool} {i : Nat} (hi : i < listed.size) : runOf (listed.setIfInBounds i true) = mark (runOf listed) i := by
  funext j
  unfold runOf mark
  by_cases h : j = i
  · subst h; rw [if_pos rfl]; simp [hi]
  · rw [if_neg h, getD_set_ne false (fun e => h e.symm)]

theorem wpOp_of (hok : Ok ops) (hseq : Seq ops Af val a0) (hst : ∀ i o, ops[i]? = some o → Step P ops I i o (Af i) (val i)) {γ : Gh} {listed : Array Bool} {a : Act} {w : World} (inv : Inv ops val a0 γ listed a) (hI : I γ (runOf listed) w) {Q : Exit → Act → World → Prop} {i : Nat} (hr : i ∈ Region.ready .any ops listed)
    {K : Act → World → Prop} (hK : ∀ γ' a' w', Inv ops val a0 γ' (listed.setIfInBounds i true) a' → I γ' (runOf (listed.setIfInBounds i true)) w' → K a' w') : wpOp P ops Q i K a w := by
  obtain ⟨hun, oi, hi, hrd⟩ := mem_ready.1 hr
  have hun' := getD_both hun
  have hil := (Array.getElem?_eq_some_iff.1 hi).1
  obtain ⟨he, hwd⟩ := eval_of_agree (hok.sel i oi · · hi) (fun s hs => agree hok hseq inv hi hun' hrd hs)
  have hset := runOf_set (listed := listed) (i := i) (by rw [inv.size]; exact hil)
  unfold Go.wpOp
  simp only [hi]
  have next : ∀ b v w', (Af i γ).put oi.dst v = (Af i γ).put oi.dst (val i b) → I (upd γ i b) (mark (runOf listed) i) w' → K (a.put oi.dst v) w' := fun b v w' hv hI' => hK _ _ _ (inv_next hok hseq inv hi hrd hv) (by rw [hset]; exact hI')
  rw [hwd]
  rcases hst i oi hi with ⟨hnw, hu, hm⟩ | ⟨hw, hs⟩
  · rw [if_neg (by rw [hnw]; simp)]
    refine next (γ i) undef w (by rw [hu]) ?_
    have e : upd γ i (γ i) = γ := by
      funext j; unfold upd
      by_cases h : j = i
      · rw [if_pos h, h]
      · rw [if_neg h]
    rw [e]
    exact hm _ _ _ hI
  · rw [if_pos (hw γ)]
    refine .inl ?_
    have h := hs γ (runOf listed) w hun' (fun j hj => by obtain ⟨e, he, hb, hon⟩ := waits_spec hi hj; have := hrd e he hb; rw [hon] at this; exact this) hI
    unfold Oper.wp at h ⊢
    rw [he]
    generalize (execOp (Af i γ).eval oi).run P w = r at h
    cases r with
    | ok n w' =>
      cases n with
      | value v => obtain ⟨b, h1, h2⟩ := h; exact next b v w' h1 h2
      | skip => obtain ⟨b, h1, h2⟩ := h; exact next b undef w' h1 h2
      | defer d =>
        exfalso
        obtain ⟨b, h1, _⟩ := h
        have := congrArg Act.defers h1
        rw [put_defers', put_defers'] at this
        exact absurd (congrArg List.length this) (by simp)
      | enter f args =>
        refine Calls.mono h fun e w'' r => ?_
        cases e with
        | returned v => obtain ⟨b, h1, h2⟩ := r; exact next b v w'' h1 h2
        | panicked c => exact r.elim
        | outgrown => obtain ⟨_, _, h⟩ := r; exact h.elim
      | row row args => exact Rows.mono h fun v w'' r => by obtain ⟨b, h1, h2⟩ := r; exact next b v w'' h1 h2
      | _ => exact h.elim
    | halt x w' => cases x <;> exact h.elim

theorem all_listed (hok : Ok ops) {listed : Array Bool} (hr : Region.ready .any ops listed = []) (hsz : listed.size = ops.size) : ∀ n i, i < n → i < ops.size → listed.getD i false = true
  | 0, i, h, _ => absurd h (by omega)
  | n + 1, i, h, hi => by
    rcases Nat.lt_or_ge i n with hlt | hge
    · exact all_listed hok hr hsz n i hlt hi
    · cases hc : listed.getD i false with
      | true => rfl
      | false =>
        exfalso
        have hoi := Array.getElem?_eq_getElem hi
        have hmem : i ∈ Region.ready .any ops listed := mem_ready.2 ⟨getD_in (by omega) hc, _, hoi, fun e he hb => by
          have := hok.back i _ hoi e he hb
          exact all_listed hok hr hsz n e.on (by omega) (by omega)⟩
        rw [hr] at hmem
        cases hmem

theorem final (hok : Ok ops) (hseq : Seq ops Af val a0) {γ : Gh} {listed : Array Bool} {a : Act} (inv : Inv ops val a0 γ listed a) (hr : Region.ready .any ops listed = []) : a = Af ops.size γ := by
  have hall := fun i hi => all_listed hok hr inv.size ops.size i hi hi
  have ht : a.tmps = (Af ops.size γ).tmps := by
    apply Array.ext_getElem?
    intro s
    by_cases hw : ∃ (j : Nat) (oj : Oper), ops[j]? = some oj ∧ oj.dst = some s
    · obtain ⟨j, oj, hj, hd⟩ := hw
      have hjl := (Array.getElem?_eq_some_iff.1 hj).1
      rw [inv.done j oj s hj hd (hall j hjl), hseq.at_ hok γ hj hd hjl (Nat.le_refl _)]
    · have hno : ∀ (j : Nat) (oj : Oper), ops[j]? = some oj → oj.dst ≠ some s := fun j oj hj hd => hw ⟨j, oj, hj, hd⟩
      rw [inv.rest s (fun j oj hj _ => hno j oj hj), hseq.keeps γ 0 ops.size (by omega) (Nat.le_refl _) (fun k ok _ _ hk => hno k ok hk), hseq.zero]
  have hd : a.defers = (Af ops.size γ).defers := by rw [inv.defers, (hseq.size γ ops.size (Nat.le_refl _)).2]
  cases a
  cases h : Af ops.size γ
  rw [h] at ht hd
  simp only at ht hd
  subst ht hd
  rfl

theorem wpAny_of (hok : Ok ops) (hseq : Seq ops Af val a0) (hst : ∀ i o, ops[i]? = some o → Step P ops I i o (Af i) (val i)) {Q : Exit → Act → World → Prop} (hQ : ∀ γ L w, (∀ j, j < ops.size → L j = true) → I γ L w → Q .normal (Af ops.size γ) w) :
    ∀ (fuel : Nat) (γ : Gh) (listed : Array Bool) (a : Act) (w : World), Inv ops val a0 γ listed a → I γ (runOf listed) w → (ops.size ≤ fuel + ((List.range ops.size).filter fun i => listed.getD i false).length) → wpAny P .any ops Q fuel listed a w
  | 0, γ, listed, a, w, inv, hI, hf => by
    have hall : Region.ready .any ops listed = [] := by
      rw [List.eq_nil_iff_forall_not_mem]
      intro i hi
      obtain ⟨hun, oi, ho, _⟩ := mem_ready.1 hi
      have hil := (Array.getElem?_eq_some_iff.1 ho).1
      have hlen : ((List.range ops.size).filter fun i => listed.getD i false).length = (List.range ops.size).length := by
        have := List.length_filter_le (fun i => listed.getD i false) (List.range ops.size)
        rw [List.length_range] at this ⊢
        omega
      have := List.length_filter_eq_length_iff.1 hlen i (List.mem_range.2 hil)
      rw [getD_both hun] at this
      cases this
    exact ⟨hall, by rw [final hok hseq inv hall]; exact hQ γ _ w (fun j hj => all_listed hok hall inv.size ops.size j hj hj) hI⟩
  | fuel + 1, γ, listed, a, w, inv, hI, hf => by
    refine ⟨fun hr => by rw [final hok hseq inv hr]; exact hQ γ _ w (fun j hj => all_listed hok hr inv.size ops.size j hj hj) hI, fun i hi => wpOp_of hok hseq hst inv hI hi fun γ' a' w' inv' hI' => wpAny_of hok hseq hst hQ fuel γ' _ a' w' inv' hI' ?_⟩
    obtain ⟨hun, oi, ho, _⟩ := mem_ready.1 hi
    have hil := (Array.getElem?_eq_some_iff.1 ho).1
    have hlt : ((List.range ops.size).filter fun i => listed.getD i false).length < ((List.range ops.size).filter fun j => (listed.setIfInBounds i true).getD j false).length := by
      rw [← List.countP_eq_length_filter, ← List.countP_eq_length_filter]
      have hsplit := range_split ops.size i hil
      rw [hsplit, List.countP_append, List.countP_append, List.countP_cons, List.countP_cons]
      have h1 : List.countP (fun i => listed.getD i false) (List.range i) ≤ List.countP (fun j => (listed.setIfInBounds i true).getD j false) (List.range i) := List.countP_mono_left fun j _ h => getD_set_true h
      have h2 : List.countP (fun i => listed.getD i false) (List.range' (i + 1) (ops.size - (i + 1))) ≤ List.countP (fun j => (listed.setIfInBounds i true).getD j false) (List.range' (i + 1) (ops.size - (i + 1))) := List.countP_mono_left fun j _ h => getD_set_true h
      have h3 : (listed.setIfInBounds i true).getD i false = true := by simp [inv.size, hil]
      rw [h3, getD_both hun]
      simp
      simp at h1 h2
      omega
    omega

/-- THE LAW. -/
theorem ghost {id : Nat} {l : List Oper} {a : Act} {w : World} {Q : Exit → Act → World → Prop} (I : Gh → Run → World → Prop) (hm : P.follows .mixedOrders = true) (hok : ok l.toArray = true)
    (hI : ∀ γ, I γ (fun _ => false) { w with drawn := w.drawn + 1 }) (h : walk P l.toArray I (fun A => ∀ γ L w', (∀ j, j < l.length → L j = true) → I γ L w' → Q .normal (A γ) w') 0 l (fun _ => a)) : (Code.region id l.toArray true).wp P Q a w := by
  obtain ⟨Af, val, h0, hst, hQ⟩ := walk_acts l 0 _ h
  have hsz : l.toArray.size = l.length := by simp
  have hseq : Seq l.toArray Af val a := ⟨fun γ => by rw [h0], fun k o hk γ => by have := (hst k o (by simpa using hk)).2 γ; rwa [Nat.zero_add] at this⟩
  have hst' : ∀ i o, l.toArray[i]? = some o → Step P l.toArray I i o (Af i) (val i) := fun i o hi => by have := (hst i o (by simpa using hi)).1; rwa [Nat.zero_add] at this
  refine wp_region_any hm (wpAny_of (ok_spec hok) hseq hst' (by rw [hsz]; exact hQ) _ (fun _ => undef) _ a _ ⟨by simp, fun j oj _ hl => (by rw [getD_replicate_false] at hl; cases hl), rfl, rfl, fun j oj s _ _ hl => (by rw [getD_replicate_false] at hl; cases hl), fun s _ => rfl⟩ ?_ (by omega))
  have e : runOf (Array.replicate l.toArray.size false) = fun _ => false := by funext j; unfold runOf; rw [getD_replicate_false]
  rw [e]
  exact hI _

theorem walk_nil {Q : (Gh → Act) → Prop} {A : Gh → Act} {i : Nat} (h : Q A) : walk P ops I Q i [] A := h
theorem walk_no {Q : (Gh → Act) → Prop} {A : Gh → Act} {o : Oper} {rest : List Oper} {i : Nat} (hw : ∀ γ, Region.wanted o (yielded ops (A γ).tmps) = false) (hm : ∀ γ L w, I γ L w → I γ (mark L i) w) (h : walk P ops I Q (i + 1) rest (fun γ => (A γ).put o.dst undef)) : walk P ops I Q i (o :: rest) A :=
  ⟨fun _ => undef, .inl ⟨hw, fun _ => rfl, hm⟩, h⟩
/-- An operation: its value, of its ghost; what it needs to have run before it may be asked by 'kernel_rfl'. -/
theorem walk_yes {Q : (Gh → Act) → Prop} {A : Gh → Act} {o : Oper} {rest : List Oper} {i : Nat} (val : Value → Value) (hw : ∀ γ, Region.wanted o (yielded ops (A γ).tmps) = true)
    (hs : ∀ γ (L : Run) w, L i = false → (∀ j, Region.waitsFor .any ops i j = true → L j = true) → I γ L w → ∀ K : Act → World → Prop, (∀ b w', I (upd γ i b) (mark L i) w' → K ((A γ).put o.dst (val b)) w') → o.wp P (A γ) w K NoEnd)
    (h : walk P ops I Q (i + 1) rest (fun γ => (A γ).put o.dst (val (γ i)))) : walk P ops I Q i (o :: rest) A :=
  ⟨val, .inr ⟨hw, fun γ L w h1 h2 h3 => hs γ L w h1 h2 h3 _ (fun b _ h' => ⟨b, rfl, h'⟩)⟩, h⟩
/-- An operation that gives one value, whatever the ghosts. -/
theorem walk_const {Q : (Gh → Act) → Prop} {A : Gh → Act} {o : Oper} {rest : List Oper} {i : Nat} {v : Value} (hw : ∀ γ, Region.wanted o (yielded ops (A γ).tmps) = true)
    (hs : ∀ γ (L : Run) w, L i = false → (∀ j, Region.waitsFor .any ops i j = true → L j = true) → I γ L w → ∀ K : Act → World → Prop, (∀ w', I (upd γ i undef) (mark L i) w' → K ((A γ).put o.dst v) w') → o.wp P (A γ) w K NoEnd)
    (h : walk P ops I Q (i + 1) rest (fun γ => (A γ).put o.dst v)) : walk P ops I Q i (o :: rest) A :=
  walk_yes (fun _ => v) hw (fun γ L w h1 h2 h3 K hK => hs γ L w h1 h2 h3 K (fun w' h' => hK undef w' h')) h
end
end Go.Proofs.Ytmfinebkikhceaa.GhostV
