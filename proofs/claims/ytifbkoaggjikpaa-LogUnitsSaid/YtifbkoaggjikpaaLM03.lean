/- What the texts behind this one rest on: several texts in one. No statement of the seat is proved here. -/
import Derived.Test.YtifbkoaggjikpaaLM01
import Derived.ChangeKeysEq
import Derived.Test.YtifbkoaggjikpaaLM02
import Derived.Deep.MidRow
import Derived.Test.YtifbkoaggjikpaaLM00
namespace Go.Proofs.Ytifbkoaggjikpaa
section
namespace GhostV
open Go Go.RowKit Go.Proofs.Ytifbkoaggjikpaa.Bag

abbrev Gh := Nat → Value
abbrev Run := Nat → Bool
def upd (γ : Gh) (i : Nat) (b : Value) : Gh := fun j => if j = i then b else γ j
def mark (L : Run) (i : Nat) : Run := fun j => if j = i then true else L j

section
variable {P : Program} {ops : Array Oper} {I : Gh → Run → World → Prop}

/-- One operation, number i, whose value is 'val' of its ghost. -/
def Step (P : Program) (ops : Array Oper) (I : Gh → Run → World → Prop) (i : Nat) (o : Oper) (A : Gh → Act) (val : Value → Value) : Prop :=
  ((∀ γ, Region.wanted o (yielded ops (A γ).tmps) = false) ∧ (∀ b, val b = undef) ∧ ∀ γ L w, I γ L w → I γ (mark L i) w) ∨
  ((∀ γ, Region.wanted o (yielded ops (A γ).tmps) = true) ∧
    ∀ γ (L : Run) w, L i = false → (∀ j, Region.waitsFor .any ops i j = true → L j = true) → I γ L w → o.wp P (A γ) w (fun a' w' => ∃ b, a' = (A γ).put o.dst (val b) ∧ I (upd γ i b) (mark L i) w') NoEnd)

def walk (P : Program) (ops : Array Oper) (I : Gh → Run → World → Prop) (Q : (Gh → Act) → Prop) : Nat → List Oper → (Gh → Act) → Prop
  | _, [], A => Q A
  | i, o :: rest, A => ∃ val : Value → Value, Step P ops I i o A val ∧ walk P ops I Q (i + 1) rest (fun γ => (A γ).put o.dst (val (γ i)))

theorem walk_acts {Q : (Gh → Act) → Prop} : ∀ (l : List Oper) (i : Nat) (A : Gh → Act), walk P ops I Q i l A → ∃ (Af : Nat → Gh → Act) (val : Nat → Value → Value), Af 0 = A ∧
    (∀ k o, l[k]? = some o → Step P ops I (i + k) o (Af k) (val k) ∧ ∀ γ, Af (k + 1) γ = (Af k γ).put o.dst (val k (γ (i + k)))) ∧ Q (Af l.length)
  | [], _, A, h => ⟨fun _ => A, fun _ _ => undef, rfl, fun k o hk => by simp at hk, h⟩
  | o :: rest, i, A, ⟨v, hs, h⟩ => by
    obtain ⟨Af, val, h0, hst, hQ⟩ := walk_acts rest (i + 1) _ h
    refine ⟨fun n => match n with | 0 => A | n + 1 => Af n, fun n => match n with | 0 => v | n + 1 => val n, rfl, fun k ok hk => ?_, hQ⟩
    cases k with
    | zero =>
      simp only [List.getElem?_cons_zero, Option.some.injEq] at hk
      subst hk
      exact ⟨hs, fun γ => by show Af 0 γ = _; rw [h0]; rfl⟩
    | succ k =>
      have := hst k ok (by simpa using hk)
      rw [show i + 1 + k = i + (k + 1) from by omega] at this
      exact this

structure Seq (ops : Array Oper) (Af : Nat → Gh → Act) (val : Nat → Value → Value) (a0 : Act) : Prop where
  zero : ∀ γ, Af 0 γ = a0
  put : ∀ k o, ops[k]? = some o → ∀ γ, Af (k + 1) γ = (Af k γ).put o.dst (val k (γ k))

variable {Af : Nat → Gh → Act} {val : Nat → Value → Value} {a0 : Act}

theorem Seq.size (h : Seq ops Af val a0) (γ : Gh) : ∀ k, k ≤ ops.size → (Af k γ).tmps.size = a0.tmps.size ∧ (Af k γ).defers = a0.defers
  | 0, _ => by rw [h.zero]; exact ⟨rfl, rfl⟩
  | k + 1, hk => by
    rw [h.put k _ (Array.getElem?_eq_getElem (by omega : k < ops.size)) γ, put_size, put_defers']
    exact h.size γ k (by omega)
theorem Seq.keeps (h : Seq ops Af val a0) (γ : Gh) {s : Tmp} (k : Nat) : ∀ m, k ≤ m → m ≤ ops.size → (∀ j oj, k ≤ j → j < m → ops[j]? = some oj → oj.dst ≠ some s) → (Af m γ).tmps[s]? = (Af k γ).tmps[s]?
  | 0, hm, _, _ => by have : k = 0 := by omega
                      subst this; rfl
  | m + 1, hm, hs, hw => by
    rcases Nat.lt_or_ge m k with hlt | hge
    · have : k = m + 1 := by omega
      subst this; rfl
    · have hmm : m < ops.size := by omega
      have hom := Array.getElem?_eq_getElem hmm
      have ih := h.keeps γ k m hge (by omega) (fun j oj h1 h2 h3 => hw j oj h1 (by omega) h3)
      rw [h.put m _ hom γ, ← ih]
      have hne := hw m _ hge (by omega) hom
      cases hd : ops[m].dst with
      | none => rfl
      | some d => rw [put_get, if_neg (fun e => hne (by rw [hd, e]))]
/-- What stands in a slot behind its operation. -/
theorem Seq.at_ (h : Seq ops Af val a0) (hok : Ok ops) (γ : Gh) {j : Nat} {oj : Oper} {s : Tmp} (hj : ops[j]? = some oj) (hd : oj.dst = some s) {m : Nat} (hm : j < m) (hs : m ≤ ops.size) : (Af m γ).tmps[s]? = if s < a0.tmps.size then some (val j (γ j)) else none := by
  rw [h.keeps γ (j + 1) m (by omega) hs (fun k ok h1 h2 hk hdk => by have := hok.one k ok j oj s hk hj hdk hd; omega), h.put j oj hj γ, hd, put_get, if_pos rfl, (h.size γ j (by omega)).1]

structure Inv (ops : Array Oper) (val : Nat → Value → Value) (a0 : Act) (γ : Gh) (listed : Array Bool) (a : Act) : Prop where
  size : listed.size = ops.size
  closed : ∀ j oj, ops[j]? = some oj → listed.getD j false = true → ∀ e ∈ oj.after, Region.binds .any e = true → listed.getD e.on false = true
  tsize : a.tmps.size = a0.tmps.size
  defers : a.defers = a0.defers
  done : ∀ j oj s, ops[j]? = some oj → oj.dst = some s → listed.getD j false = true → a.tmps[s]? = if s < a0.tmps.size then some (val j (γ j)) else none
  rest : ∀ s, (∀ j oj, ops[j]? = some oj → listed.getD j false = true → oj.dst ≠ some s) → a.tmps[s]? = a0.tmps[s]?

theorem agree (hok : Ok ops) (hseq : Seq ops Af val a0) {γ : Gh} {listed : Array Bool} {a : Act} (inv : Inv ops val a0 γ listed a) {i : Nat} {oi : Oper} (hi : ops[i]? = some oi) (hun : listed.getD i false = false)
    (hrd : ∀ e ∈ oi.after, Region.binds .any e = true → listed.getD e.on false = true) {s : Tmp} (hs : s ∈ oi.looksAt ops) : a.tmps[s]? = (Af i γ).tmps[s]? := by
  have hil := (Array.getElem?_eq_some_iff.1 hi).1
  by_cases hw : ∃ (j : Nat) (oj : Oper), ops[j]? = some oj ∧ oj.dst = some s
  · obtain ⟨j, oj, hj, hd⟩ := hw
    have hjl := (Array.getElem?_eq_some_iff.1 hj).1
    rcases hok.reads i oi j oj s hi hj hd hs with ⟨hlt, hwt⟩ | ⟨hlt, hwt⟩
    · obtain ⟨e, he, hb, hon⟩ := waits_spec hi hwt
      have hl := hrd e he hb
      rw [hon] at hl
      rw [inv.done j oj s hj hd hl, hseq.at_ hok γ hj hd hlt (by omega)]
    · have hjun : listed.getD j false = false := by
        cases hc : listed.getD j false with
        | false => rfl
        | true =>
          obtain ⟨e, he, hb, hon⟩ := waits_spec hj hwt
          have := inv.closed j oj hj hc e he hb
          rw [hon, hun] at this
          cases this
      rw [inv.rest s (fun k ok hk hl hdk => by
        have := hok.one k ok j oj s hk hj hdk hd
        subst this
        rw [hjun] at hl
        cases hl), hseq.keeps γ 0 i (by omega) (by omega) (fun k ok h1 h2 hk hdk => by have := hok.one k ok j oj s hk hj hdk hd; omega), hseq.zero]
  · have hno : ∀ (j : Nat) (oj : Oper), ops[j]? = some oj → oj.dst ≠ some s := fun j oj hj hd => hw ⟨j, oj, hj, hd⟩
    rw [inv.rest s (fun j oj hj _ => hno j oj hj), hseq.keeps γ 0 i (by omega) (by omega) (fun k ok _ _ hk => hno k ok hk), hseq.zero]

theorem inv_next (hok : Ok ops) (hseq : Seq ops Af val a0) {γ : Gh} {listed : Array Bool} {a : Act} (inv : Inv ops val a0 γ listed a) {i : Nat} {oi : Oper} (hi : ops[i]? = some oi)
    (hrd : ∀ e ∈ oi.after, Region.binds .any e = true → listed.getD e.on false = true) {v : Value} {b : Value} (hv : (Af i γ).put oi.dst v = (Af i γ).put oi.dst (val i b)) : Inv ops val a0 (upd γ i b) (listed.setIfInBounds i true) (a.put oi.dst v) := by
  have hil := (Array.getElem?_eq_some_iff.1 hi).1
  have hset : (listed.setIfInBounds i true).getD i false = true := by simp [inv.size, hil]
  have hsz := hseq.size γ i (by omega)
  refine ⟨by simp [inv.size], fun j oj hj hl e he hb => ?_, by rw [put_size]; exact inv.tsize, by rw [put_defers']; exact inv.defers, fun j oj s hj hd hl => ?_, fun s hs => ?_⟩
  · by_cases hij : i = j
    · subst hij
      rw [hi] at hj
      obtain rfl := Option.some.inj hj
      exact getD_set_true (hrd e he hb)
    · rw [getD_set_ne false hij] at hl
      exact getD_set_true (inv.closed j oj hj hl e he hb)
  · by_cases hij : i = j
    · subst hij
      rw [hi] at hj
      obtain rfl := Option.some.inj hj
      have h1 : ((Af i γ).put oi.dst v).tmps[s]? = ((Af i γ).put oi.dst (val i b)).tmps[s]? := by rw [hv]
      rw [hd, put_get, put_get, if_pos rfl, if_pos rfl, hsz.1] at h1
      rw [hd, put_get, if_pos rfl, inv.tsize, h1]
      show _ = if s < a0.tmps.size then some (val i (upd γ i b i)) else none
      unfold upd
      rw [if_pos rfl]
    · rw [getD_set_ne false hij] at hl
      have h1 := inv.done j oj s hj hd hl
      have h2 : upd γ i b j = γ j := by unfold upd; rw [if_neg (fun e => hij e.symm)]
      rw [h2, ← h1]
      cases hdi : oi.dst with
      | none => rfl
      | some d =>
        rw [put_get, if_neg]
        intro e
        subst e
        exact hij (hok.one i oi j oj d hi hj hdi hd)
  · have hne : oi.dst ≠ some s := hs i oi hi hset
    have h2 : a.tmps[s]? = a0.tmps[s]? := inv.rest s (fun j oj hj hl => hs j oj hj (getD_set_true hl))
    rw [← h2]
    cases hdi : oi.dst with
    | none => rfl
    | some d => rw [put_get, if_neg (fun e => hne (by rw [hdi, e]))]

/-- What has run, as a function. -/
def runOf (listed : Array Bool) : Run := fun j => listed.getD j false
theorem runOf_set {listed : Array Bool} {i : Nat} (hi : i < listed.size) : runOf (listed.setIfInBounds i true) = mark (runOf listed) i := by
  funext j
  unfold runOf mark
  by_cases h : j = i
  · subst h; rw [if_pos rfl]; simp [hi]
  · rw [if_neg h, getD_set_ne false (fun e => h e.symm)]

theorem wpOp_of (hok : Ok ops) (hseq : Seq ops Af val a0) (hst : ∀ i o, ops[i]? = some o → Step P ops I i o (Af i) (val i)) {γ : Gh} {listed : Array Bool} {a : Act} {w : World} (inv : Inv ops val a0 γ listed a) (hI : I γ (runOf listed) w) {Q : Exit → Act → World → Prop} {i : Nat} (hr : i ∈ Region.ready .any ops listed)
    {K : Act → World → Prop} (hK : ∀ γ' a' w', Inv ops val a0 γ' (listed.setIfInBounds i true) a' → I γ' (runOf (listed.setIfInBounds i true)) w' → K a' w') : wpOp P ops Q i K a w := by
  obtain ⟨hun, oi, hi, hrd⟩ := mem_ready.1 hr
  have hun' := getD_both hun
  have hil := (Array.getElem?_eq_some_iff.1 hi).1
  obtain ⟨he, hwd⟩ := eval_of_agree (hok.sel i oi · · hi) (fun s hs => agree hok hseq inv hi hun' hrd hs)
  have hset := runOf_set (listed := listed) (i := i) (by rw [inv.size]; exact hil)
  unfold Go.wpOp
  simp only [hi]
  have next : ∀ b v w', (Af i γ).put oi.dst v = (Af i γ).put oi.dst (val i b) → I (upd γ i b) (mark (runOf listed) i) w' → K (a.put oi.dst v) w' := fun b v w' hv hI' => hK _ _ _ (inv_next hok hseq inv hi hrd hv) (by rw [hset]; exact hI')
  rw [hwd]
  rcases hst i oi hi with ⟨hnw, hu, hm⟩ | ⟨hw, hs⟩
  · rw [if_neg (by rw [hnw]; simp)]
    refine next (γ i) undef w (by rw [hu]) ?_
    have e : upd γ i (γ i) = γ := by
      funext j; unfold upd
      by_cases h : j = i
      · rw [if_pos h, h]
      · rw [if_neg h]
    rw [e]
    exact hm _ _ _ hI
  · rw [if_pos (hw γ)]
    refine .inl ?_
    have h := hs γ (runOf listed) w hun' (fun j hj => by obtain ⟨e, he, hb, hon⟩ := waits_spec hi hj; have := hrd e he hb; rw [hon] at this; exact this) hI
    unfold Oper.wp at h ⊢
    rw [he]
    generalize (execOp (Af i γ).eval oi).run P w = r at h
    cases r with
    | ok n w' =>
      cases n with
      | value v => obtain ⟨b, h1, h2⟩ := h; exact next b v w' h1 h2
      | skip => obtain ⟨b, h1, h2⟩ := h; exact next b undef w' h1 h2
      | defer d =>
        exfalso
        obtain ⟨b, h1, _⟩ := h
        have := congrArg Act.defers h1
        rw [put_defers', put_defers'] at this
        exact absurd (congrArg List.length this) (by simp)
      | enter f args =>
        refine Calls.mono h fun e w'' r => ?_
        cases e with
        | returned v => obtain ⟨b, h1, h2⟩ := r; exact next b v w'' h1 h2
        | panicked c => exact r.elim
        | outgrown => obtain ⟨_, _, h⟩ := r; exact h.elim
      | row row args => exact Rows.mono h fun v w'' r => by obtain ⟨b, h1, h2⟩ := r; exact next b v w'' h1 h2
      | _ => exact h.elim
    | halt x w' => cases x <;> exact h.elim

theorem all_listed (hok : Ok ops) {listed : Array Bool} (hr : Region.ready .any ops listed = []) (hsz : listed.size = ops.size) : ∀ n i, i < n → i < ops.size → listed.getD i false = true
  | 0, i, h, _ => absurd h (by omega)
  | n + 1, i, h, hi => by
    rcases Nat.lt_or_ge i n with hlt | hge
    · exact all_listed hok hr hsz n i hlt hi
    · cases hc : listed.getD i false with
      | true => rfl
      | false =>
        exfalso
        have hoi := Array.getElem?_eq_getElem hi
        have hmem : i ∈ Region.ready .any ops listed := mem_ready.2 ⟨getD_in (by omega) hc, _, hoi, fun e he hb => by
          have := hok.back i _ hoi e he hb
          exact all_listed hok hr hsz n e.on (by omega) (by omega)⟩
        rw [hr] at hmem
        cases hmem

theorem final (hok : Ok ops) (hseq : Seq ops Af val a0) {γ : Gh} {listed : Array Bool} {a : Act} (inv : Inv ops val a0 γ listed a) (hr : Region.ready .any ops listed = []) : a = Af ops.size γ := by
  have hall := fun i hi => all_listed hok hr inv.size ops.size i hi hi
  have ht : a.tmps = (Af ops.size γ).tmps := by
    apply Array.ext_getElem?
    intro s
    by_cases hw : ∃ (j : Nat) (oj : Oper), ops[j]? = some oj ∧ oj.dst = some s
    · obtain ⟨j, oj, hj, hd⟩ := hw
      have hjl := (Array.getElem?_eq_some_iff.1 hj).1
      rw [inv.done j oj s hj hd (hall j hjl), hseq.at_ hok γ hj hd hjl (Nat.le_refl _)]
    · have hno : ∀ (j : Nat) (oj : Oper), ops[j]? = some oj → oj.dst ≠ some s := fun j oj hj hd => hw ⟨j, oj, hj, hd⟩
      rw [inv.rest s (fun j oj hj _ => hno j oj hj), hseq.keeps γ 0 ops.size (by omega) (Nat.le_refl _) (fun k ok _ _ hk => hno k ok hk), hseq.zero]
  have hd : a.defers = (Af ops.size γ).defers := by rw [inv.defers, (hseq.size γ ops.size (Nat.le_refl _)).2]
  cases a
  cases h : Af ops.size γ
  rw [h] at ht hd
  simp only at ht hd
  subst ht hd
  rfl

theorem wpAny_of (hok : Ok ops) (hseq : Seq ops Af val a0) (hst : ∀ i o, ops[i]? = some o → Step P ops I i o (Af i) (val i)) {Q : Exit → Act → World → Prop} (hQ : ∀ γ L w, (∀ j, j < ops.size → L j = true) → I γ L w → Q .normal (Af ops.size γ) w) :
    ∀ (fuel : Nat) (γ : Gh) (listed : Array Bool) (a : Act) (w : World), Inv ops val a0 γ listed a → I γ (runOf listed) w → (ops.size ≤ fuel + ((List.range ops.size).filter fun i => listed.getD i false).length) → wpAny P .any ops Q fuel listed a w
  | 0, γ, listed, a, w, inv, hI, hf => by
    have hall : Region.ready .any ops listed = [] := by
      rw [List.eq_nil_iff_forall_not_mem]
      intro i hi
      obtain ⟨hun, oi, ho, _⟩ := mem_ready.1 hi
      have hil := (Array.getElem?_eq_some_iff.1 ho).1
      have hlen : ((List.range ops.size).filter fun i => listed.getD i false).length = (List.range ops.size).length := by
        have := List.length_filter_le (fun i => listed.getD i false) (List.range ops.size)
        rw [List.length_range] at this ⊢
        omega
      have := List.length_filter_eq_length_iff.1 hlen i (List.mem_range.2 hil)
      rw [getD_both hun] at this
      cases this
    exact ⟨hall, by rw [final hok hseq inv hall]; exact hQ γ _ w (fun j hj => all_listed hok hall inv.size ops.size j hj hj) hI⟩
  | fuel + 1, γ, listed, a, w, inv, hI, hf => by
    refine ⟨fun hr => by rw [final hok hseq inv hr]; exact hQ γ _ w (fun j hj => all_listed hok hr inv.size ops.size j hj hj) hI, fun i hi => wpOp_of hok hseq hst inv hI hi fun γ' a' w' inv' hI' => wpAny_of hok hseq hst hQ fuel γ' _ a' w' inv' hI' ?_⟩
    obtain ⟨hun, oi, ho, _⟩ := mem_ready.1 hi
    have hil := (Array.getElem?_eq_some_iff.1 ho).1
    have hlt : ((List.range ops.size).filter fun i => listed.getD i false).length < ((List.range ops.size).filter fun j => (listed.setIfInBounds i true).getD j false).length := by
      rw [← List.countP_eq_length_filter, ← List.countP_eq_length_filter]
      have hsplit := range_split ops.size i hil
      rw [hsplit, List.countP_append, List.countP_append, List.countP_cons, List.countP_cons]
      have h1 : List.countP (fun i => listed.getD i false) (List.range i) ≤ List.countP (fun j => (listed.setIfInBounds i true).getD j false) (List.range i) := List.countP_mono_left fun j _ h => getD_set_true h
      have h2 : List.countP (fun i => listed.getD i false) (List.range' (i + 1) (ops.size - (i + 1))) ≤ List.countP (fun j => (listed.setIfInBounds i true).getD j false) (List.range' (i + 1) (ops.size - (i + 1))) := List.countP_mono_left fun j _ h => getD_set_true h
      have h3 : (listed.setIfInBounds i true).getD i false = true := by simp [inv.size, hil]
      rw [h3, getD_both hun]
      simp
      simp at h1 h2
      omega
    omega

/-- THE LAW. -/
theorem ghost {id : Nat} {l : List Oper} {a : Act} {w : World} {Q : Exit → Act → World → Prop} (I : Gh → Run → World → Prop) (hm : P.follows .mixedOrders = true) (hok : ok l.toArray = true)
    (hI : ∀ γ, I γ (fun _ => false) { w with drawn := w.drawn + 1 }) (h : walk P l.toArray I (fun A => ∀ γ L w', (∀ j, j < l.length → L j = true) → I γ L w' → Q .normal (A γ) w') 0 l (fun _ => a)) : (Code.region id l.toArray true).wp P Q a w := by
  obtain ⟨Af, val, h0, hst, hQ⟩ := walk_acts l 0 _ h
  have hsz : l.toArray.size = l.length := by simp
  have hseq : Seq l.toArray Af val a := ⟨fun γ => by rw [h0], fun k o hk γ => by have := (hst k o (by simpa using hk)).2 γ; rwa [Nat.zero_add] at this⟩
  have hst' : ∀ i o, l.toArray[i]? = some o → Step P l.toArray I i o (Af i) (val i) := fun i o hi => by have := (hst i o (by simpa using hi)).1; rwa [Nat.zero_add] at this
  refine wp_region_any hm (wpAny_of (ok_spec hok) hseq hst' (by rw [hsz]; exact hQ) _ (fun _ => undef) _ a _ ⟨by simp, fun j oj _ hl => (by rw [getD_replicate_false] at hl; cases hl), rfl, rfl, fun j oj s _ _ hl => (by rw [getD_replicate_false] at hl; cases hl), fun s _ => rfl⟩ ?_ (by omega))
  have e : runOf (Array.replicate l.toArray.size false) = fun _ => false := by funext j; unfold runOf; rw [getD_replicate_false]
  rw [e]
  exact hI _

theorem walk_nil {Q : (Gh → Act) → Prop} {A : Gh → Act} {i : Nat} (h : Q A) : walk P ops I Q i [] A := h
theorem walk_no {Q : (Gh → Act) → Prop} {A : Gh → Act} {o : Oper} {rest : List Oper} {i : Nat} (hw : ∀ γ, Region.wanted o (yielded ops (A γ).tmps) = false) (hm : ∀ γ L w, I γ L w → I γ (mark L i) w) (h : walk P ops I Q (i + 1) rest (fun γ => (A γ).put o.dst undef)) : walk P ops I Q i (o :: rest) A :=
  ⟨fun _ => undef, .inl ⟨hw, fun _ => rfl, hm⟩, h⟩
/-- An operation: its value, of its ghost; what it needs to have run before it may be asked by 'kernel_rfl'. -/
theorem walk_yes {Q : (Gh → Act) → Prop} {A : Gh → Act} {o : Oper} {rest : List Oper} {i : Nat} (val : Value → Value) (hw : ∀ γ, Region.wanted o (yielded ops (A γ).tmps) = true)
    (hs : ∀ γ (L : Run) w, L i = false → (∀ j, Region.waitsFor .any ops i j = true → L j = true) → I γ L w → ∀ K : Act → World → Prop, (∀ b w', I (upd γ i b) (mark L i) w' → K ((A γ).put o.dst (val b)) w') → o.wp P (A γ) w K NoEnd)
    (h : walk P ops I Q (i + 1) rest (fun γ => (A γ).put o.dst (val (γ i)))) : walk P ops I Q i (o :: rest) A :=
  ⟨val, .inr ⟨hw, fun γ L w h1 h2 h3 => hs γ L w h1 h2 h3 _ (fun b _ h' => ⟨b, rfl, h'⟩)⟩, h⟩
/-- An operation that gives one value, whatever the ghosts. -/
theorem walk_const {Q : (Gh → Act) → Prop} {A : Gh → Act} {o : Oper} {rest : List Oper} {i : Nat} {v : Value} (hw : ∀ γ, Region.wanted o (yielded ops (A γ).tmps) = true)
    (hs : ∀ γ (L : Run) w, L i = false → (∀ j, Region.waitsFor .any ops i j = true → L j = true) → I γ L w → ∀ K : Act → World → Prop, (∀ w', I (upd γ i undef) (mark L i) w' → K ((A γ).put o.dst v) w') → o.wp P (A γ) w K NoEnd)
    (h : walk P ops I Q (i + 1) rest (fun γ => (A γ).put o.dst v)) : walk P ops I Q i (o :: rest) A :=
  walk_yes (fun _ => v) hw (fun γ L w h1 h2 h3 K hK => hs γ L w h1 h2 h3 K (fun w' h' => hK undef w' h')) h
end
end GhostV
end

section
open Go.RowKit

theorem fieldsCs : Try.prog.underlying 61 = some (.struct (Try.prog.fieldsOf 61)) := by kernel_rfl
theorem stoodCs : Try.prog.stoodInHeld 61 = false := by kernel_rfl
theorem listCs : (Try.prog.fieldsOf 61).toList = [{ name := "Up", type := 59, offset := 0, embedded := false, tag := "", pkgPath := "", byteOffset := 0 }, { name := "Down", type := 59, offset := 1, embedded := false, tag := "", pkgPath := "", byteOffset := 4 }] := by kernel_rfl
theorem equalCs (d : Nat) (x1 x2 y1 y2 : Int) (w : World) : (Op.equalIn (d + 2) 61 (.agg #[.int .u32 x1, .int .u32 x2]) (.agg #[.int .u32 y1, .int .u32 y2])).run Try.prog w = .ok (x1 == y1 && x2 == y2) w := by
  rw [run_equalIn_struct w (d + 1) 61 _ _ fieldsCs stoodCs, listCs]
  have h0 := fun (xs : Array Value) off v => run_part_plain (P := Try.prog) w (e := 59) (off := off) (xs := xs) (v := v) (by kernel_rfl)
  have hi := fun k1 k2 => run_equalIn_int w d 59 .u32 .u32 k1 k2 Try.underlying59
  have p0 := fun a b => h0 #[a, b] 0 a rfl
  have p1 := fun a b => h0 #[a, b] 1 b rfl
  simp [Op.eqFields, p0, p1, hi]
  by_cases hx : x1 = y1 <;> by_cases hy : x2 = y2 <;> simp [hx, hy]
theorem neqCs (x1 x2 y1 y2 : Int) (w : World) : (binOp .neq 61 (.agg #[.int .u32 x1, .int .u32 x2]) (.agg #[.int .u32 y1, .int .u32 y2])).run Try.prog w = .ok (.bool (!(x1 == y1 && x2 == y2))) w := by
  rw [run_neq_struct, equalCs 9998]; rfl
theorem fieldsEn : Try.prog.underlying 71 = some (.struct (Try.prog.fieldsOf 71)) := by kernel_rfl
theorem stoodEn : Try.prog.stoodInHeld 71 = false := by kernel_rfl
theorem listEn : (Try.prog.fieldsOf 71).toList = [{ name := "Floor", type := 3, offset := 0, embedded := false, tag := "", pkgPath := "", byteOffset := 0 }, { name := "Dir", type := 3, offset := 1, embedded := false, tag := "", pkgPath := "", byteOffset := 8 }, { name := "Car", type := 3, offset := 2, embedded := false, tag := "", pkgPath := "", byteOffset := 16 }, { name := "Moves", type := 3, offset := 3, embedded := false, tag := "", pkgPath := "", byteOffset := 24 }, { name := "Moved", type := 4, offset := 4, embedded := false, tag := "", pkgPath := "", byteOffset := 32 }] := by kernel_rfl
theorem equalEn (d : Nat) (e : En) (w : World) : (Op.equalIn (d + 2) 71 (.agg e.cells.toArray) (.agg e.cells.toArray)).run Try.prog w = .ok true w := by
  rw [run_equalIn_struct w (d + 1) 71 _ _ fieldsEn stoodEn, listEn]
  unfold En.cells
  have h0 := fun (xs : Array Value) off v => run_part_plain (P := Try.prog) w (e := 3) (off := off) (xs := xs) (v := v) (by kernel_rfl)
  have h1 := fun (xs : Array Value) off v => run_part_plain (P := Try.prog) w (e := 4) (off := off) (xs := xs) (v := v) (by kernel_rfl)
  have hi := fun k1 k2 => run_equalIn_int w d 3 .i64 .i64 k1 k2 Try.underlying3
  have hb := fun b1 b2 => run_equalIn_bool w d 4 b1 b2 Try.underlying4
  have p0 := fun a b c e f => h0 #[a, b, c, e, f] 0 a rfl
  have p1 := fun a b c e f => h0 #[a, b, c, e, f] 1 b rfl
  have p2 := fun a b c e f => h0 #[a, b, c, e, f] 2 c rfl
  have p3 := fun a b c e f => h0 #[a, b, c, e, f] 3 e rfl
  have p4 := fun a b c e f => h1 #[a, b, c, e, f] 4 f rfl
  simp [Op.eqFields, p0, p1, p2, p3, p4, hi, hb]
theorem eqlEn (e : En) (w : World) : (binOp .eql 71 (.agg e.cells.toArray) (.agg e.cells.toArray)).run Try.prog w = .ok (.bool true) w := by
  rw [run_eql_struct, equalEn 9998]; rfl
end

section
open Go.RowKit

/-- As W1, but for block b, which holds this row, and for what has been laid since. -/
structure Put (W1 : World) (b : Nat) (row : Obj) (wx : World) : Prop where
  os : wx.os = W1.os
  tape : wx.tape = W1.tape
  output : wx.output = W1.output
  size : W1.heap.size ≤ wx.heap.size
  other : ∀ j, j < W1.heap.size → j ≠ b → wx.heap[j]? = W1.heap[j]?
  row : wx.heap[b]? = some row
namespace Put
variable {b : Nat} {W1 wx x1 : World} {row : Obj}
theorem start (h : W1.heap[b]? = some row) : Put W1 b row W1 := ⟨rfl, rfl, rfl, Nat.le_refl _, fun _ _ _ => rfl, h⟩
theorem drew (h : Put W1 b row wx) {n : Nat} : Put W1 b row { wx with drawn := n } := ⟨h.os, h.tape, h.output, h.size, h.other, h.row⟩
theorem lt (h : Put W1 b row wx) : b < wx.heap.size := (Array.getElem?_eq_some_iff.1 h.row).1
theorem next (h : Put W1 b row wx) (hb : Below wx.heap.size wx x1) : Put W1 b row x1 :=
  ⟨hb.os.trans h.os, hb.tape.trans h.tape, hb.output.trans h.output, Nat.le_trans h.size hb.size, fun j hj hne => (hb.block j (Nat.lt_of_lt_of_le hj h.size)).trans (h.other j hj hne), (hb.block b h.lt).trans h.row⟩
theorem below {B : Nat} (h : Put W1 b row wx) (hB : B ≤ b) (hB2 : B ≤ W1.heap.size) : Below B W1 wx := ⟨h.os, h.tape, h.output, h.size, fun j hj => h.other j (by omega) (by omega)⟩
theorem cell {cs : Array Value} {t : TypeId} (h : Put W1 b (.cells cs t (0, 0)) wx) (i : Nat) : wx.cell? ⟨b, i, none⟩ = cs[i]? := cell_of_row _ _ _ _ _ (0, 0) h.row
theorem store {P : Program} {op : Oper} {a : Act} {K : Act → World → Prop} {Q : Exit → Act → World → Prop} {cells old : Array Value} {t : TypeId} (ty : TypeId) (x y : Operand) (ho : op.op = .store ty x y)
    (hx : a.eval x = .pointer (some ⟨b, 0, none⟩)) (hy : a.eval y = .agg cells) (h : Put W1 b (.cells old t (0, 0)) wx)
    (hi : (P.info? ty).map (·.size) = some cells.size) (hsz : old.size = cells.size) (h1 : cells.all (·.oneCell') = true)
    (hk : ∀ w', Put W1 b (.cells cells t (0, 0)) w' → K (a.put op.dst undef) w') : op.wp P a wx K Q := by
  unfold Oper.wp execOp
  simp only [ho, hx, hy, Instr.storeAt, Instr.sureAddr, Sem.run_bind, Sem.run_pure, Result.andThen_ok, run_storeVar_row wx b t ty old cells h.row hi hsz h1]
  exact hk _ ⟨h.os, h.tape, h.output, by rw [size_setRow]; exact h.size, fun k hk hne => (setRow_other wx b k cells hne).trans (h.other k hk hne), setRow_heap wx b _ cells _ _ h.row⟩
/-- A row with some cells put over it from o on. -/
def over (a : Array Value) : Nat → List Value → Array Value
  | _, [] => a
  | o, v :: r => over (a.setIfInBounds o v) (o + 1) r
theorem setCells_row (b : Nat) (t : TypeId) : ∀ (l : List Value) (o : Nat) (w : World) (cs : Array Value), w.heap[b]? = some (.cells cs t (0, 0)) → (w.setCells b o l).heap[b]? = some (.cells (over cs o l) t (0, 0))
  | [], _, _, _, h => h
  | v :: r, o, _, _, h => setCells_row b t r (o + 1) _ _ (heap_setCell_same _ _ o _ _ v h)
theorem setCells_else (b : Nat) : ∀ (l : List Value) (o : Nat) (w : World), (w.setCells b o l).heap.size = w.heap.size ∧ (w.setCells b o l).os = w.os ∧ (w.setCells b o l).tape = w.tape ∧ (w.setCells b o l).output = w.output ∧ ∀ j, j ≠ b → (w.setCells b o l).heap[j]? = w.heap[j]?
  | [], _, _ => ⟨rfl, rfl, rfl, rfl, fun _ _ => rfl⟩
  | v :: r, o, w => by
    obtain ⟨h1, h2, h3, h4, h5⟩ := setCells_else b r (o + 1) (w.setCell ⟨b, o, none⟩ v)
    exact ⟨h1.trans (Go.Deep.nblk_setCell _ _ _), h2, h3, h4, fun j hj => (h5 j hj).trans (heap_setCell_other _ _ _ _ hj)⟩
theorem put1 {cs : Array Value} {t : TypeId} (h : Put W1 b (.cells cs t (0, 0)) wx) (i : Nat) (v : Value) :
    Put W1 b (.cells (cs.setIfInBounds i v) t (0, 0)) (wx.setCell ⟨b, i, none⟩ v) := by
  refine ⟨h.os, h.tape, h.output, by rw [Go.Deep.nblk_setCell]; exact h.size, fun j hj hne => ?_, heap_setCell_same _ _ i _ _ v h.row⟩
  rw [heap_setCell_other _ _ _ _ hne]; exact h.other j hj hne
end Put
end

section
open Go.RowKit Ghost

/-- A variable: the numbers of its two operations (the block, the store), its type, its cells before and behind the store. -/
structure Decl where
  al : Nat
  st : Nat
  T : TypeId
  Z : Array Value
  R : Array Value

structure Decls (B : Nat) (W0 : World) (D : List Decl) (γ : Gh) (L : Run) (w : World) : Prop where
  below : Below B W0 w
  size : B ≤ w.heap.size
  ord : ∀ d ∈ D, L d.st = true → L d.al = true
  row : ∀ d ∈ D, L d.al = true → B ≤ γ d.al ∧ w.heap[γ d.al]? = some (.cells (if L d.st = true then d.R else d.Z) d.T (0, 0))
  apart : ∀ d ∈ D, ∀ e ∈ D, d.al ≠ e.al → L d.al = true → L e.al = true → γ d.al ≠ γ e.al

namespace Decls
variable {B : Nat} {W0 w w' : World} {D : List Decl} {γ : Gh} {L : Run} {i : Nat}

theorem lt (h : Decls B W0 D γ L w) {d : Decl} (hd : d ∈ D) (hl : L d.al = true) : γ d.al < w.heap.size := by
  have := (h.row d hd hl).2
  rcases Nat.lt_or_ge (γ d.al) w.heap.size with h1 | h1
  · exact h1
  · rw [Array.getElem?_eq_none h1] at this; cases this
theorem start (D : List Decl) (γ : Gh) (h : Below B W0 w) (hs : B ≤ w.heap.size) : Decls B W0 D γ (fun _ => false) w :=
  ⟨h, hs, fun _ _ h => absurd h Bool.false_ne_true, fun _ _ h => absurd h Bool.false_ne_true, fun _ _ _ _ _ h => absurd h Bool.false_ne_true⟩
theorem mark_ne {j : Nat} (h : j ≠ i) : Ghost.mark L i j = L j := by unfold Ghost.mark; rw [if_neg h]
theorem mark_eq : Ghost.mark L i i = true := by unfold Ghost.mark; rw [if_pos rfl]
theorem upd_ne {b j : Nat} (h : j ≠ i) : upd γ i b j = γ j := by unfold upd; rw [if_neg h]
theorem upd_eq {b : Nat} : upd γ i b i = b := by unfold upd; rw [if_pos rfl]

theorem quiet (h : Decls B W0 D γ L w) (b : Nat) (hi : (D.all fun d => decide (d.al ≠ i) && decide (d.st ≠ i)) = true) (hb : Below w.heap.size w w') : Decls B W0 D (upd γ i b) (Ghost.mark L i) w' := by
  have H : ∀ d ∈ D, d.al ≠ i ∧ d.st ≠ i := fun d hd => by
    have := List.all_eq_true.1 hi d hd
    rw [Bool.and_eq_true] at this
    exact ⟨of_decide_eq_true this.1, of_decide_eq_true this.2⟩
  refine ⟨h.below.trans (hb.mono h.size), Nat.le_trans h.size hb.size, fun d hd hl => ?_, fun d hd hl => ?_, fun d hd e he hne h1 h2 => ?_⟩
  · rw [mark_ne (H d hd).2] at hl; rw [mark_ne (H d hd).1]; exact h.ord d hd hl
  · rw [mark_ne (H d hd).1] at hl
    rw [upd_ne (H d hd).1, mark_ne (H d hd).2]
    exact ⟨(h.row d hd hl).1, (hb.block _ (h.lt hd hl)).trans (h.row d hd hl).2⟩
  · rw [mark_ne (H d hd).1] at h1
    rw [mark_ne (H e he).1] at h2
    rw [upd_ne (H d hd).1, upd_ne (H e he).1]
    exact h.apart d hd e he hne h1 h2
/-- The block of d is made. -/
theorem alloc (h : Decls B W0 D γ L w) (d : Decl) (hd : d ∈ D) (hL : L d.al = false) (hok : (D.all fun e => decide (e.st ≠ d.al) && (decide (e.al ≠ d.al) || (decide (e.st = d.st) && decide (e.al = d.al)))) = true) (huniq : ∀ e ∈ D, e.al = d.al → e = d) :
    Decls B W0 D (upd γ d.al w.heap.size) (Ghost.mark L d.al) (w.alloc (.cells d.Z d.T)) := by
  have H : ∀ e ∈ D, e.st ≠ d.al := fun e he => by
    have := List.all_eq_true.1 hok e he
    rw [Bool.and_eq_true] at this
    exact of_decide_eq_true this.1
  have hb : Below w.heap.size w (w.alloc (.cells d.Z d.T)) := (Below.refl _ _).alloc (Nat.le_refl _) _
  refine ⟨h.below.trans (hb.mono h.size), Nat.le_trans h.size hb.size, fun e he hl => ?_, fun e he hl => ?_, fun e he f hf hne h1 h2 => ?_⟩
  · rw [mark_ne (H e he)] at hl
    by_cases hq : e.al = d.al
    · rw [hq, mark_eq]
    · rw [mark_ne hq]; exact h.ord e he hl
  · by_cases hq : e.al = d.al
    · obtain rfl := huniq e he hq
      have hst : L e.st = false := by
        cases hc : L e.st with
        | false => rfl
        | true => rw [h.ord e he hc] at hL; cases hL
      rw [upd_eq, mark_ne (H e he), hst]
      exact ⟨h.size, heap_alloc_new w _⟩
    · rw [mark_ne hq] at hl
      rw [upd_ne hq, mark_ne (H e he)]
      exact ⟨(h.row e he hl).1, (hb.block _ (h.lt he hl)).trans (h.row e he hl).2⟩
  · by_cases hq : e.al = d.al
    · have hq2 : f.al ≠ d.al := fun x => hne (hq.trans x.symm)
      rw [mark_ne hq2] at h2
      rw [hq, upd_eq, upd_ne hq2]
      have := h.lt hf h2
      omega
    · rw [mark_ne hq] at h1
      by_cases hq2 : f.al = d.al
      · rw [hq2, upd_eq, upd_ne hq]
        have := h.lt he h1
        omega
      · rw [mark_ne hq2] at h2
        rw [upd_ne hq, upd_ne hq2]
        exact h.apart e he f hf hne h1 h2
/-- The store of d. -/
theorem store (h : Decls B W0 D γ L w) (d : Decl) (hd : d ∈ D) (hA : L d.al = true) (hok : (D.all fun e => decide (e.al ≠ d.st)) = true) (huniq : ∀ e ∈ D, e.st = d.st → e = d) (hal : ∀ e ∈ D, e.al = d.al → e = d) (b : Nat) :
    Decls B W0 D (upd γ d.st b) (Ghost.mark L d.st) (w.setRow (γ d.al) d.R) := by
  have H : ∀ e ∈ D, e.al ≠ d.st := fun e he => of_decide_eq_true (List.all_eq_true.1 hok e he)
  have hg := h.row d hd hA
  refine ⟨⟨h.below.os, h.below.tape, h.below.output, by rw [size_setRow]; exact h.below.size, fun k hk => (setRow_other w _ k d.R (by omega)).trans (h.below.block k hk)⟩, by rw [size_setRow]; exact h.size, fun e he hl => ?_, fun e he hl => ?_, fun e he f hf hne h1 h2 => ?_⟩
  · rw [mark_ne (H e he)]
    by_cases hq : e.st = d.st
    · rw [huniq e he hq]; exact hA
    · rw [mark_ne hq] at hl; exact h.ord e he hl
  · rw [mark_ne (H e he)] at hl
    rw [upd_ne (H e he)]
    by_cases hq : e.st = d.st
    · obtain rfl := huniq e he hq
      rw [mark_eq]
      exact ⟨hg.1, setRow_heap w _ _ e.R _ _ hg.2⟩
    · rw [mark_ne hq]
      have hne : e.al ≠ d.al := fun x => hq (by rw [hal e he x])
      exact ⟨(h.row e he hl).1, (setRow_other w _ _ d.R (h.apart e he d hd hne hl hA)).trans (h.row e he hl).2⟩
  · rw [mark_ne (H e he)] at h1
    rw [mark_ne (H f hf)] at h2
    rw [upd_ne (H e he), upd_ne (H f hf)]
    exact h.apart e he f hf hne h1 h2
/-- The store's operation. -/
theorem wp_store {P : Program} {op : Oper} {a : Act} {K : Act → World → Prop} {Q : Exit → Act → World → Prop} (h : Decls B W0 D γ L w) (d : Decl) (hd : d ∈ D) (hS : L d.st = false) (hA : L d.al = true) (x y : Operand) (ho : op.op = .store d.T x y)
    (hx : a.eval x = .pointer (some ⟨γ d.al, 0, none⟩)) (hy : a.eval y = .agg d.R) (hi : (P.info? d.T).map (·.size) = some d.R.size) (hsz : d.Z.size = d.R.size) (h1 : d.R.all (·.oneCell') = true)
    (hk : K (a.put op.dst undef) (w.setRow (γ d.al) d.R)) : op.wp P a w K Q := by
  have hg := (h.row d hd hA).2
  rw [if_neg (by rw [hS]; exact Bool.false_ne_true)] at hg
  unfold Oper.wp execOp
  simp only [ho, hx, hy, Instr.storeAt, Instr.sureAddr, Sem.run_bind, Sem.run_pure, Result.andThen_ok, run_storeVar_row w (γ d.al) d.T d.T d.Z d.R hg hi hsz h1]
  exact hk
end Decls
end

section
open Go.RowKit Ghost

theorem decl_mem (d : Decl) : d ∈ [d] := List.mem_singleton.2 rfl
theorem decl_al (d : Decl) : ∀ e ∈ [d], e.al = d.al → e = d := fun _ he _ => List.mem_singleton.1 he
theorem decl_st (d : Decl) : ∀ e ∈ [d], e.st = d.st → e = d := fun _ he _ => List.mem_singleton.1 he
theorem Decls.done1 {B n : Nat} {W0 w : World} {d : Decl} {γ : Gh} {L : Run} (h : Decls B W0 [d] γ L w) (hall : ∀ j, j < n → L j = true) (h1 : d.al < n) (h2 : d.st < n) :
    B ≤ γ d.al ∧ w.heap[γ d.al]? = some (.cells d.R d.T (0, 0)) ∧ Below B W0 w := by
  have hr := h.row d (decl_mem d) (hall _ h1)
  rw [if_pos (hall _ h2)] at hr
  exact ⟨hr.1, hr.2, h.below⟩
end

section
open Go.RowKit

/-- Bytes lie in a block. -/
def BytesAt (W : World) (g : Nat) (l : List UInt8) : Prop :=
  ∀ j, j < l.length → W.cell? ⟨g, j, none⟩ = some (.int .u8 (((l.getD j 0).toNat : Nat) : Int)) ∧ W.frozen? ⟨g, j, none⟩ = false

theorem addr_add (g j : Nat) : (⟨g, 0, none⟩ : Addr).add j = ⟨g, j, none⟩ := by unfold Addr.add; split <;> simp_all
theorem bytes_back {P : Program} {W : World} {g : Nat} {l : List UInt8} (h : BytesAt W g l) (src dst e : TypeId) (n cap : Nat) (hn : n = l.length)
    (hs : P.underlying src = some (.slice e)) (he : P.underlying e = some (.int .u8)) (hd : P.underlying dst = some .string) :
    (convert src dst (.slice (some ⟨g, 0, none⟩) n cap)).run P W = .ok (.string ⟨l.toArray⟩) W := by
  subst hn
  refine run_convert_bytes_back _ _ _ e _ cap l hs he hd fun j hj => ?_
  rw [addr_add, (h j hj).1]
  simp [List.getD, hj]

end

section
open Go.RowKit GhostV

/-- What a value is in a world, and goes on being where what lay lies. -/
abbrev Pd := { p : World → Value → Prop // ∀ (w w' : World) (v : Value), p w v → Below w.heap.size w w' → p w' v }
/-- The answers D, each made by the operation of its number. -/
structure GP (W : World) (D : List (Nat × Pd)) (γ : Gh) (L : Run) (wx : World) : Prop where
  below : Below W.heap.size W wx
  row : ∀ d ∈ D, L d.1 = true → d.2.1 wx (γ d.1)
theorem GP.start (W : World) (D : List (Nat × Pd)) (γ : Gh) : GP W D γ (fun _ => false) { W with drawn := W.drawn + 1 } :=
  ⟨(Below.refl _ _).drew, fun _ _ h => absurd h Bool.false_ne_true⟩
theorem GP.no {W wx : World} {D : List (Nat × Pd)} {γ : Gh} {L : Run} {i : Nat} (h : GP W D γ L wx) (hi : (D.all fun d => decide (d.1 ≠ i)) = true) : GP W D γ (GhostV.mark L i) wx := by
  have H : ∀ d ∈ D, d.1 ≠ i := fun d hd => of_decide_eq_true (List.all_eq_true.1 hi d hd)
  refine ⟨h.below, fun d hd hl => h.row d hd ?_⟩
  unfold GhostV.mark at hl
  rwa [if_neg (H d hd)] at hl
theorem GP.next {W wx w' : World} {D : List (Nat × Pd)} {γ : Gh} {L : Run} {i : Nat} (h : GP W D γ L wx) (v : Value) (hi : (D.all fun d => decide (d.1 ≠ i)) = true) (hb : Below wx.heap.size wx w') : GP W D (upd γ i v) (GhostV.mark L i) w' := by
  have H : ∀ d ∈ D, d.1 ≠ i := fun d hd => of_decide_eq_true (List.all_eq_true.1 hi d hd)
  refine ⟨h.below.trans (hb.mono h.below.size), fun d hd hl => ?_⟩
  unfold GhostV.mark at hl
  rw [if_neg (H d hd)] at hl
  unfold upd
  rw [if_neg (H d hd)]
  exact d.2.2 _ _ _ (h.row d hd hl) hb
theorem GP.make {W wx w' : World} {D : List (Nat × Pd)} {γ : Gh} {L : Run} {i : Nat} (h : GP W D γ L wx) {v : Value} (hv : ∀ d ∈ D, d.1 = i → d.2.1 w' v) (hb : Below wx.heap.size wx w') : GP W D (upd γ i v) (GhostV.mark L i) w' := by
  refine ⟨h.below.trans (hb.mono h.below.size), fun d hd hl => ?_⟩
  unfold GhostV.mark at hl
  unfold upd
  by_cases hi : d.1 = i
  · rw [if_pos hi]
    exact hv d hd hi
  · rw [if_neg hi] at hl ⊢
    exact d.2.2 _ _ _ (h.row d hd hl) hb
end

section
open Go.RowKit

/-- Below B all is as in w; these blocks hold these rows. -/
structure Bx (w : World) (L : List (Nat × Obj)) (wx : World) : Prop where
  below : Below w.heap.size w wx
  rows : ∀ p ∈ L, wx.heap[p.1]? = some p.2
namespace Bx
variable {w wx x1 : World} {L : List (Nat × Obj)}
theorem lt (h : Bx w L wx) {p : Nat × Obj} (hp : p ∈ L) : p.1 < wx.heap.size := (Array.getElem?_eq_some_iff.1 (h.rows p hp)).1
theorem next (h : Bx w L wx) (hb : Below wx.heap.size wx x1) : Bx w L x1 :=
  ⟨h.below.trans (hb.mono h.below.size), fun p hp => (hb.block p.1 (h.lt hp)).trans (h.rows p hp)⟩
theorem put {b : Nat} {R : Obj} {L2 : List (Nat × Obj)} (h : Bx w L wx) (hb : w.heap.size ≤ b) (hg : wx.grownBy x1 (some b)) (hr : x1.heap[b]? = some R) (h2 : ∀ p ∈ L2, p = (b, R) ∨ (p ∈ L ∧ p.1 ≠ b)) : Bx w L2 x1 := by
  refine ⟨h.below.trans ((Below.refl w.heap.size wx).grown hg (by have := h.below.size; omega) (fun k hk => by have := Option.some.inj hk; omega)), fun p hp => ?_⟩
  rcases h2 p hp with rfl | ⟨h3, h4⟩
  · exact hr
  · rw [← h.rows p h3]
    exact hg.block p.1 (h.lt h3) (fun e => h4 (Option.some.inj e))
theorem make {g : Nat} {R : Obj} (h : Bx w L wx) (hr : x1.heap[g]? = some R) (hb : Below wx.heap.size wx x1) : Bx w ((g, R) :: L) x1 := by
  refine ⟨(h.next hb).below, fun p hp => ?_⟩
  rcases List.mem_cons.1 hp with rfl | hp
  · exact hr
  · exact (h.next hb).rows p hp
theorem r0 {p : Nat × Obj} (h : Bx w (p :: L) wx) : wx.heap[p.1]? = some p.2 := h.rows p (by simp)
theorem r1 {p q : Nat × Obj} (h : Bx w (p :: q :: L) wx) : wx.heap[q.1]? = some q.2 := h.rows q (by simp)
theorem r2 {p q r : Nat × Obj} (h : Bx w (p :: q :: r :: L) wx) : wx.heap[r.1]? = some r.2 := h.rows r (by simp)
theorem r3 {p q r s : Nat × Obj} (h : Bx w (p :: q :: r :: s :: L) wx) : wx.heap[s.1]? = some s.2 := h.rows s (by simp)
theorem r4 {p q r s t : Nat × Obj} (h : Bx w (p :: q :: r :: s :: t :: L) wx) : wx.heap[t.1]? = some t.2 := h.rows t (by simp)
theorem less {L2 : List (Nat × Obj)} (h : Bx w L wx) (h2 : ∀ p ∈ L2, p ∈ L) : Bx w L2 wx := ⟨h.below, fun p hp => h.rows p (h2 p hp)⟩
end Bx
end

section
open Go.RowKit

end

section
open Go.RowKit

theorem inAll_single (lo hi n : Int) : inAll lo hi [n] = decide (lo ≤ n ∧ n ≤ hi) := by simp [inAll]

theorem refIn_any (n lo hi : Int) (w : World) :
    Calls Try.prog 81 #[.int .i64 n, .int .i64 lo, .int .i64 hi] w fun e w' => e = .returned (.bool (inAll lo hi [n])) ∧ w = w' := by
  rw [inAll_single]
  by_cases h1 : lo ≤ n
  · go_enter Try.func81, Try.ntmps81
    go_wp2
    go_ret
    exact ⟨ret_bool (by simp [h1]), rfl⟩
  · go_enter Try.func81, Try.ntmps81
    go_wp2
    go_ret
    exact ⟨ret_bool (by simp; omega), rfl⟩

theorem refTimes_any (b : BldD) (A : Option Addr) (cap : Nat) (c : CarD) (w : World) (hf1 : 0 ≤ b.floors) (hf2 : b.floors ≤ 100) :
    Calls Try.prog 82 #[b.agg A cap, c.agg] w fun e w' => e = .returned (.bool (carFitsB b.floors c)) ∧ Below w.heap.size w w' := by
  obtain ⟨f, d, r, p, e1, e2, e3, cs⟩ := b
  obtain ⟨c1, c2, c3, c4, c5, c6, c7, c8, c9⟩ := c
  simp only at hf1 hf2
  have E0 : ∀ b1 b2 b3 b4 : Bool, inAll 1 10000 [c1, c2, c3, c5, c6, c7, c8] = b1 → inAll 0 10000 [c4] = b2 → decide (c7 ≤ c8) = b3 → inAll 0 (f - 1) [c9] = b4 → carFitsB f ⟨c1, c2, c3, c4, c5, c6, c7, c8, c9⟩ = (b1 && (b2 && (b3 && b4))) := by
    rintro _ _ _ _ rfl rfl rfl rfl; rfl
  have E1 := Lib.hid E0
  clear E0
  simp only [BldD.agg, CarD.agg]
  by_cases h0 : c4 < 0
  · go_enter Try.func82, Try.ntmps82
    go_wp2
    go_ret
    refine ⟨ret_bool ?_, by go_grown⟩
    rw [E1.out _ false _ _ rfl (by rw [inAll_single]; simp; omega) rfl rfl]
    simp
  · by_cases h1 : 10000 < c4
    · go_enter Try.func82, Try.ntmps82
      go_wp2
      go_ret
      refine ⟨ret_bool ?_, by go_grown⟩
      rw [E1.out _ false _ _ rfl (by rw [inAll_single]; simp; omega) rfl rfl]
      simp
    · have hs : inAll 0 10000 [c4] = true := by rw [inAll_single]; simp; omega
      have Hs := Lib.hid hs
      clear hs
      go_enter Try.func82, Try.ntmps82
      go_wp2
      have HI := Lib.hid (intsAt_new (w := (w.alloc (.cells #[.int .i64 f, .int .i64 d, .int .i64 r, .int .i64 p, .float .f64 e1, .float .f64 e2, .float .f64 e3, .slice A cs.length cap] 26)).alloc (.cells #[.int .i64 c1, .int .i64 c2, .int .i64 c3, .int .i64 c4, .int .i64 c5, .int .i64 c6, .int .i64 c7, .int .i64 c8, .int .i64 c9] 90)) (b := w.heap.size + 1 + 1) (cs := #[.int .i64 c1, .int .i64 c2, .int .i64 c3, .int .i64 c5, .int .i64 c6, .int .i64 c7, .int .i64 c8, .int .i64 (c4 + 1)]) (zs := [c1, c2, c3, c5, c6, c7, c8, c4 + 1]) (e := 3) (by simp) rfl)
      go_loop [6] (fun v => ∃ k : Nat, k ≤ 7 ∧ v = .int .i64 k ∧ Hid (inAll 1 10000 ([c1, c2, c3, c5, c6, c7, c8].take k) = true)) (fun v => 7 - (intOf v).toNat)
      case atStart => exact ⟨0, Nat.zero_le _, rfl, rfl⟩
      case round =>
        obtain ⟨k, hk, rfl, hin⟩ := hrel
        by_cases hlt : k < 7
        · obtain ⟨z, hz⟩ : ∃ z, z = [c1, c2, c3, c5, c6, c7, c8].getD k 0 := ⟨_, rfl⟩
          have hcell : (((w.alloc (.cells #[.int .i64 f, .int .i64 d, .int .i64 r, .int .i64 p, .float .f64 e1, .float .f64 e2, .float .f64 e3, .slice A cs.length cap] 26)).alloc (.cells #[.int .i64 c1, .int .i64 c2, .int .i64 c3, .int .i64 c4, .int .i64 c5, .int .i64 c6, .int .i64 c7, .int .i64 c8, .int .i64 c9] 90)).alloc (.cells #[.int .i64 c1, .int .i64 c2, .int .i64 c3, .int .i64 c5, .int .i64 c6, .int .i64 c7, .int .i64 c8, .int .i64 (c4 + 1)] 3)).cell? ⟨w.heap.size + 1 + 1, k, none⟩ = some (.int .i64 z) := by
            have := HI.out k (by simp; omega)
            rw [Nat.zero_add] at this
            rw [this, hz]
            have hg : [c1, c2, c3, c5, c6, c7, c8, c4 + 1].getD k 0 = [c1, c2, c3, c5, c6, c7, c8].getD k 0 := by
              rcases k with _ | _ | _ | _ | _ | _ | _ | k <;> first | rfl | omega
            rw [hg]
          have HZ := Lib.hid hz
          clear hz
          rcases Bool.eq_false_or_eq_true (inAll 1 10000 [z]) with hg | hg
          · go_wp2_with (go_at_call 81; refine (refIn_any _ _ _ _).mono ?_; rintro e w' ⟨rfl, rfl⟩)
            go_round
            case rel =>
              refine ⟨k + 1, by omega, by go_num, ?_⟩
              show _ = _
              rw [inAll_take_succ _ _ _ k (by simp; omega), hin.out, ← HZ.out, ← inAll_single, hg]
              rfl
            case measure => simp [intOf]; omega
          · go_wp2_with (go_at_call 81; refine (refIn_any _ _ _ _).mono ?_; rintro e w' ⟨rfl, rfl⟩)
            go_ret
            refine ⟨ret_bool ?_, by go_grown⟩
            rw [E1.out false true _ _ ?_ Hs.out rfl rfl]
            · rfl
            · refine inAll_false _ _ _ k (by simp; omega) ?_
              rw [← HZ.out]
              rw [inAll_single, decide_eq_false_iff_not] at hg
              exact hg
        · obtain rfl : k = 7 := by omega
          have ha : inAll 1 10000 [c1, c2, c3, c5, c6, c7, c8] = true := hin.out
          have Ha := Lib.hid ha
          clear ha hin
          by_cases h5 : c7 ≤ c8
          · go_wp2_with (go_at_call 81; refine (refIn_any _ _ _ _).mono ?_; rintro e w' ⟨rfl, rfl⟩)
            go_ret
            refine ⟨ret_bool ?_, by go_grown⟩
            rw [E1.out true true true _ Ha.out Hs.out (by simpa using h5) rfl]
            simp
          · go_wp2_with (go_at_call 81; refine (refIn_any _ _ _ _).mono ?_; rintro e w' ⟨rfl, rfl⟩)
            go_ret
            refine ⟨ret_bool ?_, by go_grown⟩
            rw [E1.out true true false _ Ha.out Hs.out (by simpa using h5) rfl]
            rfl
end
end Go.Proofs.Ytifbkoaggjikpaa
