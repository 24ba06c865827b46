/- A region whose order is open, walked ONCE, in the order of its text: each operation gives the same value in every world that meets a condition I, and leaves a world that meets I. Calls that make memory, loads, and operations whose guard says no are all let. -/
import Derived.WalkKit
import Derived.StillTail
namespace Go.Proofs.Ytmfinebkikhceaa.Bag
open Go

section
variable {P : Program} {ops : Array Oper} {I : World → Prop}

def NoEnd : Exit → Act → World → Prop := fun _ _ _ => False

/-- One operation from act a to act a1, in every world that meets I. -/
def Step (P : Program) (ops : Array Oper) (I : World → Prop) (o : Oper) (a a1 : Act) : Prop :=
  (Region.wanted o (yielded ops a.tmps) = false ∧ a1 = a.put o.dst undef) ∨
  (Region.wanted o (yielded ops a.tmps) = true ∧ a1.defers = a.defers ∧ ∀ wx, I wx → o.wp P a wx (fun a' w' => a' = a1 ∧ I w') NoEnd)

def walk (P : Program) (ops : Array Oper) (I : World → Prop) (Q : Act → Prop) : List Oper → Act → Prop
  | [], a => Q a
  | o :: rest, a => ∃ a1, Step P ops I o a a1 ∧ walk P ops I Q rest a1

def ok (ops : Array Oper) : Bool :=
  Region.noSelect ops && (List.range ops.size).all fun i => match ops[i]? with
    | none => true
    | some oi => (oi.after.all fun e => !(Region.binds .any e) || decide (e.on < i)) && (List.range ops.size).all fun j => match ops[j]? with
      | none => true
      | some oj => match oj.dst with
        | none => true
        | some d => (i == j || oi.dst != some d) && (!(oi.looksAt ops).contains d || (i != j && (if j < i then Region.waitsFor .any ops i j else Region.waitsFor .any ops j i)))

structure Ok (ops : Array Oper) : Prop where
  sel : ∀ (j : Nat) (o : Oper) cs b, ops[j]? = some o → o.op ≠ .select cs b
  back : ∀ (i : Nat) (oi : Oper), ops[i]? = some oi → ∀ e ∈ oi.after, Region.binds .any e = true → e.on < i
  one : ∀ (i : Nat) (oi : Oper) (j : Nat) (oj : Oper) (d : Tmp), ops[i]? = some oi → ops[j]? = some oj → oi.dst = some d → oj.dst = some d → i = j
  reads : ∀ (i : Nat) (oi : Oper) (j : Nat) (oj : Oper) (d : Tmp), ops[i]? = some oi → ops[j]? = some oj → oj.dst = some d → d ∈ oi.looksAt ops → (j < i ∧ Region.waitsFor .any ops i j = true) ∨ (i < j ∧ Region.waitsFor .any ops j i = true)

theorem ok_spec (h : ok ops = true) : Ok ops := by
  unfold ok at h
  rw [Bool.and_eq_true, List.all_eq_true] at h
  obtain ⟨hs, h⟩ := h
  have H : ∀ i oi, ops[i]? = some oi → (∀ e ∈ oi.after, Region.binds .any e = true → e.on < i) ∧ ∀ j oj d, ops[j]? = some oj → oj.dst = some d →
      (i = j ∨ oi.dst ≠ some d) ∧ (d ∈ oi.looksAt ops → i ≠ j ∧ (if j < i then Region.waitsFor .any ops i j else Region.waitsFor .any ops j i) = true) := by
    intro i oi hi
    have hlt := (Array.getElem?_eq_some_iff.1 hi).1
    have h1 := h i (List.mem_range.2 hlt)
    simp only [hi, Bool.and_eq_true, List.all_eq_true] at h1
    refine ⟨fun e he hb => ?_, fun j oj d hj hd => ?_⟩
    · have := Array.all_eq_true_iff_forall_mem.1 h1.1 e he
      simpa [hb] using this
    · have h2 := h1.2 j (List.mem_range.2 (Array.getElem?_eq_some_iff.1 hj).1)
      simp only [hj, hd, Bool.and_eq_true, Bool.or_eq_true, beq_iff_eq, bne_iff_ne, ne_eq, Bool.not_eq_true', List.contains_eq_mem, decide_eq_false_iff_not] at h2
      exact ⟨h2.1, fun hm => h2.2.resolve_left (fun hn => hn hm)⟩
  refine ⟨fun j o cs b hj => Region.noSelect_spec hs j o cs b hj, fun i oi hi => (H i oi hi).1, fun i oi j oj d hi hj hdi hdj => ?_, fun i oi j oj d hi hj hdj hm => ?_⟩
  · rcases ((H i oi hi).2 j oj d hj hdj).1 with h | h
    · exact h
    · exact absurd hdi h
  · obtain ⟨hne, hif⟩ := ((H i oi hi).2 j oj d hj hdj).2 hm
    split at hif
    · rename_i hlt; exact .inl ⟨hlt, hif⟩
    · rename_i hge; exact .inr ⟨by omega, hif⟩

theorem put_get (a : Act) (d s : Tmp) (v : Value) : (a.put (some d) v).tmps[s]? = if d = s then (if s < a.tmps.size then some v else none) else a.tmps[s]? := by
  simp only [Act.put, Array.getElem?_setIfInBounds]
  split
  · rename_i h; subst h; rfl
  · rfl
theorem put_size (a : Act) (d : Option Tmp) (v : Value) : (a.put d v).tmps.size = a.tmps.size := by cases d <;> simp [Act.put]
theorem put_defers' (a : Act) (d : Option Tmp) (v : Value) : (a.put d v).defers = a.defers := by cases d <;> rfl

/-- A step puts one value. -/
theorem Step.put {o : Oper} {a a1 : Act} {w0 : World} (h : Step P ops I o a a1) (h0 : I w0) : ∃ v, a1 = a.put o.dst v := by
  rcases h with ⟨_, h⟩ | ⟨_, hd, h⟩
  · exact ⟨_, h⟩
  · have hw := h w0 h0
    unfold Oper.wp at hw
    cases hr : (execOp a.eval o).run P w0 with
    | ok n w' =>
      rw [hr] at hw
      cases n with
      | value v => exact ⟨v, hw.1.symm⟩
      | skip => exact ⟨undef, hw.1.symm⟩
      | defer d =>
        have := hw.1
        rw [← this] at hd
        rw [put_defers'] at hd
        exact absurd (congrArg List.length hd) (by simp)
      | enter f args =>
        obtain ⟨e, w'', fr, r, _⟩ := (hw : Calls P f args w' _) []
        cases e with
        | returned v => exact ⟨v, r.1.symm⟩
        | panicked c => exact r.elim
        | outgrown => obtain ⟨_, _, h⟩ := r; exact h.elim
      | row row args =>
        obtain ⟨v, w'', r, _⟩ := (hw : Rows P row args w' _) default []
        exact ⟨v, r.1.symm⟩
      | _ => exact hw.elim
    | halt x w' =>
      rw [hr] at hw
      cases x <;> exact hw.elim

/-- The acts of a walk, one behind the other. -/
theorem walk_acts {Q : Act → Prop} : ∀ (l : List Oper) (a : Act), walk P ops I Q l a → ∃ acts : Nat → Act, acts 0 = a ∧ (∀ i o, l[i]? = some o → Step P ops I o (acts i) (acts (i + 1))) ∧ Q (acts l.length)
  | [], a, h => ⟨fun _ => a, rfl, fun i o hi => by simp at hi, h⟩
  | o :: rest, a, ⟨a1, hs, h⟩ => by
    obtain ⟨acts, h0, hst, hQ⟩ := walk_acts rest a1 h
    refine ⟨fun n => match n with | 0 => a | n + 1 => acts n, rfl, fun i oi hi => ?_, hQ⟩
    cases i with
    | zero =>
      simp only [List.getElem?_cons_zero, Option.some.injEq] at hi
      subst hi
      show Step P ops I o a (acts 0)
      rw [h0]; exact hs
    | succ i => exact hst i oi (by simpa using hi)

structure Seq (P : Program) (ops : Array Oper) (I : World → Prop) (acts : Nat → Act) : Prop where
  step : ∀ i o, ops[i]? = some o → Step P ops I o (acts i) (acts (i + 1))
  put : ∀ i o, ops[i]? = some o → ∃ v, acts (i + 1) = (acts i).put o.dst v

variable {acts : Nat → Act}

theorem Seq.size (h : Seq P ops I acts) : ∀ k, k ≤ ops.size → (acts k).tmps.size = (acts 0).tmps.size ∧ (acts k).defers = (acts 0).defers
  | 0, _ => ⟨rfl, rfl⟩
  | k + 1, hk => by
    obtain ⟨v, hv⟩ := h.put k _ (Array.getElem?_eq_getElem (by omega : k < ops.size))
    have ih := h.size k (by omega)
    rw [hv, put_size, put_defers']
    exact ih

/-- A slot that none of the operations from k to m writes holds what it held. -/
theorem Seq.keeps (h : Seq P ops I acts) {s : Tmp} (k : Nat) : ∀ m, k ≤ m → m ≤ ops.size → (∀ j oj, k ≤ j → j < m → ops[j]? = some oj → oj.dst ≠ some s) → (acts m).tmps[s]? = (acts k).tmps[s]?
  | 0, hm, _, _ => by have : k = 0 := by omega
                      subst this; rfl
  | m + 1, hm, hs, hw => by
    rcases Nat.lt_or_ge m k with hlt | hge
    · have : k = m + 1 := by omega
      subst this; rfl
    · have hmm : m < ops.size := by omega
      have hom := Array.getElem?_eq_getElem hmm
      obtain ⟨v, hv⟩ := h.put m _ hom
      have ih := h.keeps k m hge (by omega) (fun j oj h1 h2 h3 => hw j oj h1 (by omega) h3)
      rw [hv, ← ih]
      have hne := hw m _ hge (by omega) hom
      cases hd : ops[m].dst with
      | none => rfl
      | some d =>
        rw [put_get, if_neg (fun e => hne (by rw [hd, e]))]

structure Inv (ops : Array Oper) (acts : Nat → Act) (listed : Array Bool) (a : Act) : Prop where
  size : listed.size = ops.size
  closed : ∀ j oj, ops[j]? = some oj → listed.getD j false = true → ∀ e ∈ oj.after, Region.binds .any e = true → listed.getD e.on false = true
  tsize : a.tmps.size = (acts 0).tmps.size
  defers : a.defers = (acts 0).defers
  done : ∀ j oj s, ops[j]? = some oj → oj.dst = some s → listed.getD j false = true → a.tmps[s]? = (acts (j + 1)).tmps[s]?
  rest : ∀ s, (∀ j oj, ops[j]? = some oj → listed.getD j false = true → oj.dst ≠ some s) → a.tmps[s]? = (acts 0).tmps[s]?

theorem waits_spec {i j : Nat} {oi : Oper} (hi : ops[i]? = some oi) (h : Region.waitsFor .any ops i j = true) : ∃ e ∈ oi.after, Region.binds .any e = true ∧ e.on = j := by
  obtain ⟨o', ho', e, he, hb, hon⟩ := Region.waitsFor_spec h
  rw [hi] at ho'
  obtain rfl := Option.some.inj ho'
  exact ⟨e, he, hb, hon⟩

/-- What an operation that is ready looks at is as it was in the text's order. -/
theorem agree (hok : Ok ops) (hseq : Seq P ops I acts) {listed : Array Bool} {a : Act} (inv : Inv ops acts listed a) {i : Nat} {oi : Oper} (hi : ops[i]? = some oi) (hun : listed.getD i false = false)
    (hrd : ∀ e ∈ oi.after, Region.binds .any e = true → listed.getD e.on false = true) {s : Tmp} (hs : s ∈ oi.looksAt ops) : a.tmps[s]? = (acts i).tmps[s]? := by
  have hil := (Array.getElem?_eq_some_iff.1 hi).1
  by_cases hw : ∃ (j : Nat) (oj : Oper), ops[j]? = some oj ∧ oj.dst = some s
  · obtain ⟨j, oj, hj, hd⟩ := hw
    have hjl := (Array.getElem?_eq_some_iff.1 hj).1
    rcases hok.reads i oi j oj s hi hj hd hs with ⟨hlt, hwt⟩ | ⟨hlt, hwt⟩
    · obtain ⟨e, he, hb, hon⟩ := waits_spec hi hwt
      have hl := hrd e he hb
      rw [hon] at hl
      rw [inv.done j oj s hj hd hl]
      exact (hseq.keeps (j + 1) i (by omega) (by omega) (fun k ok h1 h2 hk hdk => by have := hok.one k ok j oj s hk hj hdk hd; omega)).symm
    · have hjun : listed.getD j false = false := by
        cases hc : listed.getD j false with
        | false => rfl
        | true =>
          obtain ⟨e, he, hb, hon⟩ := waits_spec hj hwt
          have := inv.closed j oj hj hc e he hb
          rw [hon, hun] at this
          cases this
      rw [inv.rest s (fun k ok hk hl hdk => by
        have := hok.one k ok j oj s hk hj hdk hd
        subst this
        rw [hjun] at hl
        cases hl)]
      exact (hseq.keeps 0 i (by omega) (by omega) (fun k ok h1 h2 hk hdk => by have := hok.one k ok j oj s hk hj hdk hd; omega)).symm
  · have hno : ∀ (j : Nat) (oj : Oper), ops[j]? = some oj → oj.dst ≠ some s := fun j oj hj hd => hw ⟨j, oj, hj, hd⟩
    rw [inv.rest s (fun j oj hj _ => hno j oj hj)]
    exact (hseq.keeps 0 i (by omega) (by omega) (fun k ok _ _ hk => hno k ok hk)).symm

theorem inv_next (hok : Ok ops) (hseq : Seq P ops I acts) {listed : Array Bool} {a : Act} (inv : Inv ops acts listed a) {i : Nat} {oi : Oper} (hi : ops[i]? = some oi)
    (hrd : ∀ e ∈ oi.after, Region.binds .any e = true → listed.getD e.on false = true) {v : Value} (hv : acts (i + 1) = (acts i).put oi.dst v) : Inv ops acts (listed.setIfInBounds i true) (a.put oi.dst v) := by
  have hil := (Array.getElem?_eq_some_iff.1 hi).1
  have hset : (listed.setIfInBounds i true).getD i false = true := by simp [inv.size, hil]
  have hsz := hseq.size i (by omega)
  refine ⟨by simp [inv.size], fun j oj hj hl e he hb => ?_, by rw [put_size]; exact inv.tsize, by rw [put_defers']; exact inv.defers, fun j oj s hj hd hl => ?_, fun s hs => ?_⟩
  · by_cases hij : i = j
    · subst hij
      rw [hi] at hj
      obtain rfl := Option.some.inj hj
      exact getD_set_true (hrd e he hb)
    · rw [getD_set_ne false hij] at hl
      exact getD_set_true (inv.closed j oj hj hl e he hb)
  · by_cases hij : i = j
    · subst hij
      rw [hi] at hj
      obtain rfl := Option.some.inj hj
      rw [hv, hd, put_get, put_get, if_pos rfl, if_pos rfl, hsz.1, inv.tsize]
    · rw [getD_set_ne false hij] at hl
      rw [← inv.done j oj s hj hd hl]
      cases hdi : oi.dst with
      | none => rfl
      | some d =>
        rw [put_get, if_neg]
        intro e
        subst e
        exact hij (hok.one i oi j oj d hi hj hdi hd)
  · have hne : oi.dst ≠ some s := hs i oi hi hset
    have h2 : a.tmps[s]? = (acts 0).tmps[s]? := inv.rest s (fun j oj hj hl => hs j oj hj (getD_set_true hl))
    rw [← h2]
    cases hdi : oi.dst with
    | none => rfl
    | some d => rw [put_get, if_neg (fun e => hne (by rw [hdi, e]))]

theorem eval_of_agree {oi : Oper} {a b : Act} (hs : ∀ cs x, oi.op ≠ .select cs x) (h : ∀ s, s ∈ oi.looksAt ops → a.tmps[s]? = b.tmps[s]?) :
    execOp a.eval oi = execOp b.eval oi ∧ Region.wanted oi (yielded ops a.tmps) = Region.wanted oi (yielded ops b.tmps) := by
  refine ⟨execOp_congr oi hs fun x hx => ?_, ?_⟩
  · cases x with
    | tmp t =>
      have := h t (List.mem_append_left _ (List.mem_filterMap.2 ⟨.tmp t, by simpa using hx, rfl⟩))
      simp only [Act.eval, Array.getD_eq_getD_getElem?, this]
    | _ => rfl
  · unfold Region.wanted
    cases hg : oi.guard with
    | none => rfl
    | some g =>
      obtain ⟨j, want⟩ := g
      have hy : yielded ops a.tmps j = yielded ops b.tmps j := by
        unfold yielded
        cases hd : (ops[j]?).bind (·.dst) with
        | none => rfl
        | some d =>
          have := h d (List.mem_append_right _ (by rw [hg]; simp [hd]))
          simp only [Option.bind_some, this]
      simp only [hy]

/-- One operation, whichever comes up. -/
theorem wpOp_of (hok : Ok ops) (hseq : Seq P ops I acts) {listed : Array Bool} {a : Act} {w : World} (inv : Inv ops acts listed a) (hI : I w) {Q : Exit → Act → World → Prop} {i : Nat} (hr : i ∈ Region.ready .any ops listed)
    {K : Act → World → Prop} (hK : ∀ a' w', Inv ops acts (listed.setIfInBounds i true) a' → I w' → K a' w') : wpOp P ops Q i K a w := by
  obtain ⟨hun, oi, hi, hrd⟩ := mem_ready.1 hr
  have hun' := getD_both hun
  obtain ⟨he, hwd⟩ := eval_of_agree (hok.sel i oi · · hi) (fun s hs => agree hok hseq inv hi hun' hrd hs)
  unfold Go.wpOp
  simp only [hi]
  have next : ∀ v w', (acts i).put oi.dst v = acts (i + 1) → I w' → K (a.put oi.dst v) w' := fun v w' hv hI' => hK _ _ (inv_next hok hseq inv hi hrd hv.symm) hI'
  rw [hwd]
  rcases hseq.step i oi hi with ⟨hnw, hput⟩ | ⟨hw, hdf, hst⟩
  · rw [if_neg (by rw [hnw]; simp)]
    exact next _ _ hput.symm hI
  · rw [if_pos hw]
    refine .inl ?_
    have h := hst w hI
    unfold Oper.wp at h ⊢
    rw [he]
    generalize (execOp (acts i).eval oi).run P w = r at h
    cases r with
    | ok n w' =>
      cases n with
      | value v => exact next v w' h.1 h.2
      | skip => exact next undef w' h.1 h.2
      | defer d =>
        exfalso
        have := h.1
        rw [← this, put_defers'] at hdf
        exact absurd (congrArg List.length hdf) (by simp)
      | enter f args =>
        refine Calls.mono h fun e w'' r => ?_
        cases e with
        | returned v => exact next v w'' r.1 r.2
        | panicked c => exact r.elim
        | outgrown => obtain ⟨_, _, h⟩ := r; exact h.elim
      | row row args => exact Rows.mono h fun v w'' r => next v w'' r.1 r.2
      | _ => exact h.elim
    | halt x w' => cases x <;> exact h.elim

theorem all_listed (hok : Ok ops) {listed : Array Bool} (hr : Region.ready .any ops listed = []) (hsz : listed.size = ops.size) : ∀ n i, i < n → i < ops.size → listed.getD i false = true
  | 0, i, h, _ => absurd h (by omega)
  | n + 1, i, h, hi => by
    rcases Nat.lt_or_ge i n with hlt | hge
    · exact all_listed hok hr hsz n i hlt hi
    · cases hc : listed.getD i false with
      | true => rfl
      | false =>
        exfalso
        have hoi := Array.getElem?_eq_getElem hi
        have hmem : i ∈ Region.ready .any ops listed := mem_ready.2 ⟨getD_in (by omega) hc, _, hoi, fun e he hb => by
          have := hok.back i _ hoi e he hb
          exact all_listed hok hr hsz n e.on (by omega) (by omega)⟩
        rw [hr] at hmem
        cases hmem

theorem final (hok : Ok ops) (hseq : Seq P ops I acts) {listed : Array Bool} {a : Act} (inv : Inv ops acts listed a) (hr : Region.ready .any ops listed = []) : a = acts ops.size := by
  have hall := fun i hi => all_listed hok hr inv.size ops.size i hi hi
  have ht : a.tmps = (acts ops.size).tmps := by
    apply Array.ext_getElem?
    intro s
    by_cases hw : ∃ (j : Nat) (oj : Oper), ops[j]? = some oj ∧ oj.dst = some s
    · obtain ⟨j, oj, hj, hd⟩ := hw
      have hjl := (Array.getElem?_eq_some_iff.1 hj).1
      rw [inv.done j oj s hj hd (hall j hjl)]
      exact (hseq.keeps (j + 1) ops.size (by omega) (Nat.le_refl _) (fun k ok h1 h2 hk hdk => by have := hok.one k ok j oj s hk hj hdk hd; omega)).symm
    · have hno : ∀ (j : Nat) (oj : Oper), ops[j]? = some oj → oj.dst ≠ some s := fun j oj hj hd => hw ⟨j, oj, hj, hd⟩
      rw [inv.rest s (fun j oj hj _ => hno j oj hj)]
      exact (hseq.keeps 0 ops.size (by omega) (Nat.le_refl _) (fun k ok _ _ hk => hno k ok hk)).symm
  have hd : a.defers = (acts ops.size).defers := by rw [inv.defers, (hseq.size ops.size (Nat.le_refl _)).2]
  cases a
  cases h : acts ops.size
  rw [h] at ht hd
  simp only at ht hd
  subst ht hd
  rfl

theorem range_split (n i : Nat) (h : i < n) : List.range n = List.range i ++ i :: (List.range' (i + 1) (n - (i + 1))) := by
  obtain ⟨m, rfl⟩ : ∃ m, n = i + (m + 1) := ⟨n - (i + 1), by omega⟩
  rw [show i + (m + 1) - (i + 1) = m from by omega, List.range_eq_range', List.range_eq_range', ← List.range'_append_1, List.range'_succ]
  simp

theorem wpAny_of (hok : Ok ops) (hseq : Seq P ops I acts) {Q : Exit → Act → World → Prop} (hQ : ∀ w, I w → Q .normal (acts ops.size) w) :
    ∀ (fuel : Nat) (listed : Array Bool) (a : Act) (w : World), Inv ops acts listed a → I w → (ops.size ≤ fuel + ((List.range ops.size).filter fun i => listed.getD i false).length) → wpAny P .any ops Q fuel listed a w
  | 0, listed, a, w, inv, hI, hf => by
    have hall : Region.ready .any ops listed = [] := by
      rw [List.eq_nil_iff_forall_not_mem]
      intro i hi
      obtain ⟨hun, oi, ho, _⟩ := mem_ready.1 hi
      have hil := (Array.getElem?_eq_some_iff.1 ho).1
      have hlen : ((List.range ops.size).filter fun i => listed.getD i false).length = (List.range ops.size).length := by
        have := List.length_filter_le (fun i => listed.getD i false) (List.range ops.size)
        rw [List.length_range] at this ⊢
        omega
      have := List.length_filter_eq_length_iff.1 hlen i (List.mem_range.2 hil)
      rw [getD_both hun] at this
      cases this
    exact ⟨hall, by rw [final hok hseq inv hall]; exact hQ w hI⟩
  | fuel + 1, listed, a, w, inv, hI, hf => by
    refine ⟨fun hr => by rw [final hok hseq inv hr]; exact hQ w hI, fun i hi => wpOp_of hok hseq inv hI hi fun a' w' inv' hI' => wpAny_of hok hseq hQ fuel _ a' w' inv' hI' ?_⟩
    obtain ⟨hun, oi, ho, _⟩ := mem_ready.1 hi
    have hil := (Array.getElem?_eq_some_iff.1 ho).1
    have hlt : ((List.range ops.size).filter fun i => listed.getD i false).length < ((List.range ops.size).filter fun j => (listed.setIfInBounds i true).getD j false).length := by
      rw [← List.countP_eq_length_filter, ← List.countP_eq_length_filter]
      have hsplit := range_split ops.size i hil
      rw [hsplit, List.countP_append, List.countP_append, List.countP_cons, List.countP_cons]
      have h1 : List.countP (fun i => listed.getD i false) (List.range i) ≤ List.countP (fun j => (listed.setIfInBounds i true).getD j false) (List.range i) := List.countP_mono_left fun j _ h => getD_set_true h
      have h2 : List.countP (fun i => listed.getD i false) (List.range' (i + 1) (ops.size - (i + 1))) ≤ List.countP (fun j => (listed.setIfInBounds i true).getD j false) (List.range' (i + 1) (ops.size - (i + 1))) := List.countP_mono_left fun j _ h => getD_set_true h
      have h3 : (listed.setIfInBounds i true).getD i false = true := by simp [inv.size, hil]
      rw [h3, getD_both hun]
      simp
      simp at h1 h2
      omega
    omega

/-- THE LAW: the region is walked once, in the order of its text. -/
theorem region {id : Nat} {l : List Oper} {a : Act} {w : World} {Q : Exit → Act → World → Prop} (I : World → Prop) (hm : P.follows .mixedOrders = true) (hok : ok l.toArray = true)
    (hI : I { w with drawn := w.drawn + 1 }) (h : walk P l.toArray I (fun a' => ∀ w', I w' → Q .normal a' w') l a) : (Code.region id l.toArray true).wp P Q a w := by
  obtain ⟨acts, h0, hst, hQ⟩ := walk_acts l a h
  have hseq : Seq P l.toArray I acts := ⟨fun i o hi => hst i o (by simpa using hi), fun i o hi => (hst i o (by simpa using hi)).put hI⟩
  have hsz : l.toArray.size = l.length := by simp
  refine wp_region_any hm (wpAny_of (ok_spec hok) hseq (by rw [hsz]; exact hQ) _ _ a _ ⟨by simp, fun j oj _ hl => (by rw [getD_replicate_false] at hl; cases hl), by rw [h0], by rw [h0], fun j oj s _ _ hl => (by rw [getD_replicate_false] at hl; cases hl), fun s _ => by rw [h0]⟩ hI (by omega))

theorem walk_nil {Q : Act → Prop} {a : Act} (h : Q a) : walk P ops I Q [] a := h
theorem walk_no {Q : Act → Prop} {a : Act} {o : Oper} {rest : List Oper} (hw : Region.wanted o (yielded ops a.tmps) = false) (h : walk P ops I Q rest (a.put o.dst undef)) : walk P ops I Q (o :: rest) a :=
  ⟨_, .inl ⟨hw, rfl⟩, h⟩
theorem walk_yes {Q : Act → Prop} {a a1 : Act} {o : Oper} {rest : List Oper} (hw : Region.wanted o (yielded ops a.tmps) = true)
    (hs : ∀ wx, I wx → ∀ K : Act → World → Prop, (∀ w', I w' → K a1 w') → o.wp P a wx K NoEnd) (hd : a1.defers = a.defers) (h : walk P ops I Q rest a1) : walk P ops I Q (o :: rest) a :=
  ⟨a1, .inr ⟨hw, hd, fun wx hI => hs wx hI _ (fun _ h' => ⟨rfl, h'⟩)⟩, h⟩
end
end Go.Proofs.Ytmfinebkikhceaa.Bag
