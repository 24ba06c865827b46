/- What the texts behind this one rest on: several texts in one. No statement of the seat is proved here. -/
import Derived.Test.YtcggngggkngbjaaFrRef
import Derived.Test.YtcggngggkngbjaaBag
import Derived.Test.YtcggngggkngbjaaWriteBack
import Derived.Test.YtcggngggkngbjaaSampleValid
import Derived.Laws.CopyRow
import Derived.Test.YtcggngggkngbjaaChain
import Derived.Test.YtcggngggkngbjaaMem
import Derived.Deep.MidRow
import Derived.Deep.Heap
namespace Go.Proofs.Ytcggngggkngbjaa
section
open Go.RowKit Frm

theorem hall_or : ∀ F, 2 ≤ F → F ≤ 32 → (2 ^ (F - 1) - 1) ||| (2 ^ F - 2) = 2 ^ F - 1 := by
  intro F h1 h2
  have h : ∀ G : Fin 33, 2 ≤ G.val → (2 ^ (G.val - 1) - 1) ||| (2 ^ G.val - 2) = 2 ^ G.val - 1 := by decide +kernel
  exact h ⟨F, by omega⟩ h1

theorem setB_floors {x : BldD} (h : validE x = 0) (n : Nat) : setB n (hallUp x ||| hallDown x) = floorsB x.floors n := by
  obtain ⟨⟨hf1, hf2⟩, -, -⟩ := fine_of h
  have e : hallUp x ||| hallDown x = 2 ^ x.floors.toNat - 1 := by
    rw [show hallUp x = 2 ^ (x.floors.toNat - 1) - 1 from if_pos h, show hallDown x = 2 ^ x.floors.toNat - 2 from if_pos h]
    exact hall_or _ (by omega) (by omega)
  have hp : 0 < 2 ^ x.floors.toNat := Nat.two_pow_pos _
  rw [e, setB, floorsB, Nat.and_two_pow_sub_one_eq_mod, Bool.eq_iff_iff, beq_iff_eq, beq_iff_eq, Nat.div_eq_zero_iff]
  constructor
  · intro hq
    right
    rw [← hq]
    exact Nat.mod_lt _ hp
  · rintro (hq | hq)
    · omega
    · exact Nat.mod_eq_of_lt hq

theorem last_iff (kind car : Int) (C : Nat) (hC : 1 ≤ C) : inB 0 (lastC kind C) car = (inB 0 ((C : Int) - 1) car && !(kind == 0 && car != 0)) := by
  unfold lastC
  by_cases hk : kind = 0
  · subst hk
    rw [if_pos rfl]
    by_cases hc : car = 0
    · subst hc; simp [inB]; omega
    · have : (car != 0) = true := bne_iff_ne.2 hc
      simp [inB, this]
      intro h1; omega
  · rw [if_neg hk]
    have : (kind == 0) = false := beq_eq_false_iff_ne.2 hk
    simp [this]

theorem carIs_iff {x : BldD} (h : validE x = 0) (l : List UInt8) (c : CarIn) : Kind.carOk .wr l c (hallUp x ||| hallDown x) x.floors ↔ carIs x.floors c = true := by
  have hq : Kind.carQ .wr l c < 2 ^ 6 := flg_lt c.flags
  unfold Kind.carOk carIs
  simp only [Kind.num, Kind.numI, setB_floors h, Bool.and_eq_true]
  constructor
  · rintro ⟨a, -, b, c, d⟩; exact ⟨a, d, b, c⟩
  · rintro ⟨a, d, b, c⟩; exact ⟨a, hq, b, c, d⟩

theorem isIn_iff (x : BldD) (y : In) : isInB x y = true ↔ inOk x y := by
  unfold isInB inOk
  by_cases hv : validE x = 0
  · have hC := (fine_of hv).cars.1
    have hl := last_iff y.kind y.car x.cars.length hC
    rw [decide_eq_true hv, Bool.true_and, Bool.and_eq_true, List.all_eq_true]
    unfold headIs Kind.inOk Kind.headOk1 Kind.headOk2
    simp only [Kind.num, Kind.numI, Bool.and_eq_true, decide_eq_true_eq]
    constructor
    · rintro ⟨⟨⟨s1, s2⟩, k, c, z, e⟩, ha⟩
      have e' : y.cars.length = x.cars.length := by omega
      refine ⟨hv, e', ⟨s1, s2⟩, ⟨k, ?_⟩, fun i h => (carIs_iff hv _ _).2 (ha _ (List.getElem_mem h))⟩
      rw [e', hl, c, z]; rfl
    · rintro ⟨-, e', ⟨s1, s2⟩, ⟨k, c⟩, ha⟩
      rw [e', hl, Bool.and_eq_true] at c
      refine ⟨⟨⟨s1, s2⟩, k, c.1, c.2, by omega⟩, fun c hc => ?_⟩
      obtain ⟨i, hi, rfl⟩ := List.getElem_of_mem hc
      exact (carIs_iff hv _ _).1 (ha i hi)
  · simp [hv]
end

section
namespace Ghost
open Go Go.RowKit Go.Proofs.Ytcggngggkngbjaa.Bag

abbrev Gh := Nat → Nat
abbrev Run := Nat → Bool
def upd (γ : Gh) (i b : Nat) : Gh := fun j => if j = i then b else γ j
def mark (L : Run) (i : Nat) : Run := fun j => if j = i then true else L j

section
variable {P : Program} {ops : Array Oper} {I : Gh → Run → World → Prop}

/-- One operation, number i, whose value is 'val' of its ghost. -/
def Step (P : Program) (ops : Array Oper) (I : Gh → Run → World → Prop) (i : Nat) (o : Oper) (A : Gh → Act) (val : Nat → Value) : Prop :=
  ((∀ γ, Region.wanted o (yielded ops (A γ).tmps) = false) ∧ (∀ b, val b = undef) ∧ ∀ γ L w, I γ L w → I γ (mark L i) w) ∨
  ((∀ γ, Region.wanted o (yielded ops (A γ).tmps) = true) ∧
    ∀ γ (L : Run) w, L i = false → (∀ j, Region.waitsFor .any ops i j = true → L j = true) → I γ L w → o.wp P (A γ) w (fun a' w' => ∃ b, a' = (A γ).put o.dst (val b) ∧ I (upd γ i b) (mark L i) w') NoEnd)

def walk (P : Program) (ops : Array Oper) (I : Gh → Run → World → Prop) (Q : (Gh → Act) → Prop) : Nat → List Oper → (Gh → Act) → Prop
  | _, [], A => Q A
  | i, o :: rest, A => ∃ val : Nat → Value, Step P ops I i o A val ∧ walk P ops I Q (i + 1) rest (fun γ => (A γ).put o.dst (val (γ i)))

theorem walk_acts {Q : (Gh → Act) → Prop} : ∀ (l : List Oper) (i : Nat) (A : Gh → Act), walk P ops I Q i l A → ∃ (Af : Nat → Gh → Act) (val : Nat → Nat → Value), Af 0 = A ∧
    (∀ k o, l[k]? = some o → Step P ops I (i + k) o (Af k) (val k) ∧ ∀ γ, Af (k + 1) γ = (Af k γ).put o.dst (val k (γ (i + k)))) ∧ Q (Af l.length)
  | [], _, A, h => ⟨fun _ => A, fun _ _ => undef, rfl, fun k o hk => by simp at hk, h⟩
  | o :: rest, i, A, ⟨v, hs, h⟩ => by
    obtain ⟨Af, val, h0, hst, hQ⟩ := walk_acts rest (i + 1) _ h
    refine ⟨fun n => match n with | 0 => A | n + 1 => Af n, fun n => match n with | 0 => v | n + 1 => val n, rfl, fun k ok hk => ?_, hQ⟩
    cases k with
    | zero =>
      simp only [List.getElem?_cons_zero, Option.some.injEq] at hk
      subst hk
      exact ⟨hs, fun γ => by show Af 0 γ = _; rw [h0]; rfl⟩
    | succ k =>
      have := hst k ok (by simpa using hk)
      rw [show i + 1 + k = i + (k + 1) from by omega] at this
      exact this

structure Seq (ops : Array Oper) (Af : Nat → Gh → Act) (val : Nat → Nat → Value) (a0 : Act) : Prop where
  zero : ∀ γ, Af 0 γ = a0
  put : ∀ k o, ops[k]? = some o → ∀ γ, Af (k + 1) γ = (Af k γ).put o.dst (val k (γ k))

variable {Af : Nat → Gh → Act} {val : Nat → Nat → Value} {a0 : Act}

theorem Seq.size (h : Seq ops Af val a0) (γ : Gh) : ∀ k, k ≤ ops.size → (Af k γ).tmps.size = a0.tmps.size ∧ (Af k γ).defers = a0.defers
  | 0, _ => by rw [h.zero]; exact ⟨rfl, rfl⟩
  | k + 1, hk => by
    rw [h.put k _ (Array.getElem?_eq_getElem (by omega : k < ops.size)) γ, put_size, put_defers']
    exact h.size γ k (by omega)
theorem Seq.keeps (h : Seq ops Af val a0) (γ : Gh) {s : Tmp} (k : Nat) : ∀ m, k ≤ m → m ≤ ops.size → (∀ j oj, k ≤ j → j < m → ops[j]? = some oj → oj.dst ≠ some s) → (Af m γ).tmps[s]? = (Af k γ).tmps[s]?
  | 0, hm, _, _ => by have : k = 0 := by omega
                      subst this; rfl
  | m + 1, hm, hs, hw => by
    rcases Nat.lt_or_ge m k with hlt | hge
    · have : k = m + 1 := by omega
      subst this; rfl
    · have hmm : m < ops.size := by omega
      have hom := Array.getElem?_eq_getElem hmm
      have ih := h.keeps γ k m hge (by omega) (fun j oj h1 h2 h3 => hw j oj h1 (by omega) h3)
      rw [h.put m _ hom γ, ← ih]
      have hne := hw m _ hge (by omega) hom
      cases hd : ops[m].dst with
      | none => rfl
      | some d => rw [put_get, if_neg (fun e => hne (by rw [hd, e]))]
/-- What stands in a slot behind its operation. -/
theorem Seq.at_ (h : Seq ops Af val a0) (hok : Ok ops) (γ : Gh) {j : Nat} {oj : Oper} {s : Tmp} (hj : ops[j]? = some oj) (hd : oj.dst = some s) {m : Nat} (hm : j < m) (hs : m ≤ ops.size) : (Af m γ).tmps[s]? = if s < a0.tmps.size then some (val j (γ j)) else none := by
  rw [h.keeps γ (j + 1) m (by omega) hs (fun k ok h1 h2 hk hdk => by have := hok.one k ok j oj s hk hj hdk hd; omega), h.put j oj hj γ, hd, put_get, if_pos rfl, (h.size γ j (by omega)).1]

structure Inv (ops : Array Oper) (val : Nat → Nat → Value) (a0 : Act) (γ : Gh) (listed : Array Bool) (a : Act) : Prop where
  size : listed.size = ops.size
  closed : ∀ j oj, ops[j]? = some oj → listed.getD j false = true → ∀ e ∈ oj.after, Region.binds .any e = true → listed.getD e.on false = true
  tsize : a.tmps.size = a0.tmps.size
  defers : a.defers = a0.defers
  done : ∀ j oj s, ops[j]? = some oj → oj.dst = some s → listed.getD j false = true → a.tmps[s]? = if s < a0.tmps.size then some (val j (γ j)) else none
  rest : ∀ s, (∀ j oj, ops[j]? = some oj → listed.getD j false = true → oj.dst ≠ some s) → a.tmps[s]? = a0.tmps[s]?

theorem agree (hok : Ok ops) (hseq : Seq ops Af val a0) {γ : Gh} {listed : Array Bool} {a : Act} (inv : Inv ops val a0 γ listed a) {i : Nat} {oi : Oper} (hi : ops[i]? = some oi) (hun : listed.getD i false = false)
    (hrd : ∀ e ∈ oi.after, Region.binds .any e = true → listed.getD e.on false = true) {s : Tmp} (hs : s ∈ oi.looksAt ops) : a.tmps[s]? = (Af i γ).tmps[s]? := by
  have hil := (Array.getElem?_eq_some_iff.1 hi).1
  by_cases hw : ∃ (j : Nat) (oj : Oper), ops[j]? = some oj ∧ oj.dst = some s
  · obtain ⟨j, oj, hj, hd⟩ := hw
    have hjl := (Array.getElem?_eq_some_iff.1 hj).1
    rcases hok.reads i oi j oj s hi hj hd hs with ⟨hlt, hwt⟩ | ⟨hlt, hwt⟩
    · obtain ⟨e, he, hb, hon⟩ := waits_spec hi hwt
      have hl := hrd e he hb
      rw [hon] at hl
      rw [inv.done j oj s hj hd hl, hseq.at_ hok γ hj hd hlt (by omega)]
    · have hjun : listed.getD j false = false := by
        cases hc : listed.getD j false with
        | false => rfl
        | true =>
          obtain ⟨e, he, hb, hon⟩ := waits_spec hj hwt
          have := inv.closed j oj hj hc e he hb
          rw [hon, hun] at this
          cases this
      rw [inv.rest s (fun k ok hk hl hdk => by
        have := hok.one k ok j oj s hk hj hdk hd
        subst this
        rw [hjun] at hl
        cases hl), hseq.keeps γ 0 i (by omega) (by omega) (fun k ok h1 h2 hk hdk => by have := hok.one k ok j oj s hk hj hdk hd; omega), hseq.zero]
  · have hno : ∀ (j : Nat) (oj : Oper), ops[j]? = some oj → oj.dst ≠ some s := fun j oj hj hd => hw ⟨j, oj, hj, hd⟩
    rw [inv.rest s (fun j oj hj _ => hno j oj hj), hseq.keeps γ 0 i (by omega) (by omega) (fun k ok _ _ hk => hno k ok hk), hseq.zero]

theorem inv_next (hok : Ok ops) (hseq : Seq ops Af val a0) {γ : Gh} {listed : Array Bool} {a : Act} (inv : Inv ops val a0 γ listed a) {i : Nat} {oi : Oper} (hi : ops[i]? = some oi)
    (hrd : ∀ e ∈ oi.after, Region.binds .any e = true → listed.getD e.on false = true) {v : Value} {b : Nat} (hv : (Af i γ).put oi.dst v = (Af i γ).put oi.dst (val i b)) : Inv ops val a0 (upd γ i b) (listed.setIfInBounds i true) (a.put oi.dst v) := by
  have hil := (Array.getElem?_eq_some_iff.1 hi).1
  have hset : (listed.setIfInBounds i true).getD i false = true := by simp [inv.size, hil]
  have hsz := hseq.size γ i (by omega)
  refine ⟨by simp [inv.size], fun j oj hj hl e he hb => ?_, by rw [put_size]; exact inv.tsize, by rw [put_defers']; exact inv.defers, fun j oj s hj hd hl => ?_, fun s hs => ?_⟩
  · by_cases hij : i = j
    · subst hij
      rw [hi] at hj
      obtain rfl := Option.some.inj hj
      exact getD_set_true (hrd e he hb)
    · rw [getD_set_ne false hij] at hl
      exact getD_set_true (inv.closed j oj hj hl e he hb)
  · by_cases hij : i = j
    · subst hij
      rw [hi] at hj
      obtain rfl := Option.some.inj hj
      have h1 : ((Af i γ).put oi.dst v).tmps[s]? = ((Af i γ).put oi.dst (val i b)).tmps[s]? := by rw [hv]
      rw [hd, put_get, put_get, if_pos rfl, if_pos rfl, hsz.1] at h1
      rw [hd, put_get, if_pos rfl, inv.tsize, h1]
      show _ = if s < a0.tmps.size then some (val i (upd γ i b i)) else none
      unfold upd
      rw [if_pos rfl]
    · rw [getD_set_ne false hij] at hl
      have h1 := inv.done j oj s hj hd hl
      have h2 : upd γ i b j = γ j := by unfold upd; rw [if_neg (fun e => hij e.symm)]
      rw [h2, ← h1]
      cases hdi : oi.dst with
      | none => rfl
      | some d =>
        rw [put_get, if_neg]
        intro e
        subst e
        exact hij (hok.one i oi j oj d hi hj hdi hd)
  · have hne : oi.dst ≠ some s := hs i oi hi hset
    have h2 : a.tmps[s]? = a0.tmps[s]? := inv.rest s (fun j oj hj hl => hs j oj hj (getD_set_true hl))
    rw [← h2]
    cases hdi : oi.dst with
    | none => rfl
    | some d => rw [put_get, if_neg (fun e => hne (by rw [hdi, e]))]

/-- What has run, as a function. -/
def runOf (listed : Array Bool) : Run := fun j => listed.getD j false
theorem runOf_set {listed : Array Bool} {i : Nat} (hi : i < listed.size) : runOf (listed.setIfInBounds i true) = mark (runOf listed) i := by
  funext j
  unfold runOf mark
  by_cases h : j = i
  · subst h; rw [if_pos rfl]; simp [hi]
  · rw [if_neg h, getD_set_ne false (fun e => h e.symm)]

theorem wpOp_of (hok : Ok ops) (hseq : Seq ops Af val a0) (hst : ∀ i o, ops[i]? = some o → Step P ops I i o (Af i) (val i)) {γ : Gh} {listed : Array Bool} {a : Act} {w : World} (inv : Inv ops val a0 γ listed a) (hI : I γ (runOf listed) w) {Q : Exit → Act → World → Prop} {i : Nat} (hr : i ∈ Region.ready .any ops listed)
    {K : Act → World → Prop} (hK : ∀ γ' a' w', Inv ops val a0 γ' (listed.setIfInBounds i true) a' → I γ' (runOf (listed.setIfInBounds i true)) w' → K a' w') : wpOp P ops Q i K a w := by
  obtain ⟨hun, oi, hi, hrd⟩ := mem_ready.1 hr
  have hun' := getD_both hun
  have hil := (Array.getElem?_eq_some_iff.1 hi).1
  obtain ⟨he, hwd⟩ := eval_of_agree (hok.sel i oi · · hi) (fun s hs => agree hok hseq inv hi hun' hrd hs)
  have hset := runOf_set (listed := listed) (i := i) (by rw [inv.size]; exact hil)
  unfold Go.wpOp
  simp only [hi]
  have next : ∀ b v w', (Af i γ).put oi.dst v = (Af i γ).put oi.dst (val i b) → I (upd γ i b) (mark (runOf listed) i) w' → K (a.put oi.dst v) w' := fun b v w' hv hI' => hK _ _ _ (inv_next hok hseq inv hi hrd hv) (by rw [hset]; exact hI')
  rw [hwd]
  rcases hst i oi hi with ⟨hnw, hu, hm⟩ | ⟨hw, hs⟩
  · rw [if_neg (by rw [hnw]; simp)]
    refine next (γ i) undef w (by rw [hu]) ?_
    have e : upd γ i (γ i) = γ := by
      funext j; unfold upd
      by_cases h : j = i
      · rw [if_pos h, h]
      · rw [if_neg h]
    rw [e]
    exact hm _ _ _ hI
  · rw [if_pos (hw γ)]
    refine .inl ?_
    have h := hs γ (runOf listed) w hun' (fun j hj => by obtain ⟨e, he, hb, hon⟩ := waits_spec hi hj; have := hrd e he hb; rw [hon] at this; exact this) hI
    unfold Oper.wp at h ⊢
    rw [he]
    generalize (execOp (Af i γ).eval oi).run P w = r at h
    cases r with
    | ok n w' =>
      cases n with
      | value v => obtain ⟨b, h1, h2⟩ := h; exact next b v w' h1 h2
      | skip => obtain ⟨b, h1, h2⟩ := h; exact next b undef w' h1 h2
      | defer d =>
        exfalso
        obtain ⟨b, h1, _⟩ := h
        have := congrArg Act.defers h1
        rw [put_defers', put_defers'] at this
        exact absurd (congrArg List.length this) (by simp)
      | enter f args =>
        refine Calls.mono h fun e w'' r => ?_
        cases e with
        | returned v => obtain ⟨b, h1, h2⟩ := r; exact next b v w'' h1 h2
        | panicked c => exact r.elim
        | outgrown => obtain ⟨_, _, h⟩ := r; exact h.elim
      | row row args => exact Rows.mono h fun v w'' r => by obtain ⟨b, h1, h2⟩ := r; exact next b v w'' h1 h2
      | _ => exact h.elim
    | halt x w' => cases x <;> exact h.elim

theorem all_listed (hok : Ok ops) {listed : Array Bool} (hr : Region.ready .any ops listed = []) (hsz : listed.size = ops.size) : ∀ n i, i < n → i < ops.size → listed.getD i false = true
  | 0, i, h, _ => absurd h (by omega)
  | n + 1, i, h, hi => by
    rcases Nat.lt_or_ge i n with hlt | hge
    · exact all_listed hok hr hsz n i hlt hi
    · cases hc : listed.getD i false with
      | true => rfl
      | false =>
        exfalso
        have hoi := Array.getElem?_eq_getElem hi
        have hmem : i ∈ Region.ready .any ops listed := mem_ready.2 ⟨getD_in (by omega) hc, _, hoi, fun e he hb => by
          have := hok.back i _ hoi e he hb
          exact all_listed hok hr hsz n e.on (by omega) (by omega)⟩
        rw [hr] at hmem
        cases hmem

theorem final (hok : Ok ops) (hseq : Seq ops Af val a0) {γ : Gh} {listed : Array Bool} {a : Act} (inv : Inv ops val a0 γ listed a) (hr : Region.ready .any ops listed = []) : a = Af ops.size γ := by
  have hall := fun i hi => all_listed hok hr inv.size ops.size i hi hi
  have ht : a.tmps = (Af ops.size γ).tmps := by
    apply Array.ext_getElem?
    intro s
    by_cases hw : ∃ (j : Nat) (oj : Oper), ops[j]? = some oj ∧ oj.dst = some s
    · obtain ⟨j, oj, hj, hd⟩ := hw
      have hjl := (Array.getElem?_eq_some_iff.1 hj).1
      rw [inv.done j oj s hj hd (hall j hjl), hseq.at_ hok γ hj hd hjl (Nat.le_refl _)]
    · have hno : ∀ (j : Nat) (oj : Oper), ops[j]? = some oj → oj.dst ≠ some s := fun j oj hj hd => hw ⟨j, oj, hj, hd⟩
      rw [inv.rest s (fun j oj hj _ => hno j oj hj), hseq.keeps γ 0 ops.size (by omega) (Nat.le_refl _) (fun k ok _ _ hk => hno k ok hk), hseq.zero]
  have hd : a.defers = (Af ops.size γ).defers := by rw [inv.defers, (hseq.size γ ops.size (Nat.le_refl _)).2]
  cases a
  cases h : Af ops.size γ
  rw [h] at ht hd
  simp only at ht hd
  subst ht hd
  rfl

theorem wpAny_of (hok : Ok ops) (hseq : Seq ops Af val a0) (hst : ∀ i o, ops[i]? = some o → Step P ops I i o (Af i) (val i)) {Q : Exit → Act → World → Prop} (hQ : ∀ γ L w, (∀ j, j < ops.size → L j = true) → I γ L w → Q .normal (Af ops.size γ) w) :
    ∀ (fuel : Nat) (γ : Gh) (listed : Array Bool) (a : Act) (w : World), Inv ops val a0 γ listed a → I γ (runOf listed) w → (ops.size ≤ fuel + ((List.range ops.size).filter fun i => listed.getD i false).length) → wpAny P .any ops Q fuel listed a w
  | 0, γ, listed, a, w, inv, hI, hf => by
    have hall : Region.ready .any ops listed = [] := by
      rw [List.eq_nil_iff_forall_not_mem]
      intro i hi
      obtain ⟨hun, oi, ho, _⟩ := mem_ready.1 hi
      have hil := (Array.getElem?_eq_some_iff.1 ho).1
      have hlen : ((List.range ops.size).filter fun i => listed.getD i false).length = (List.range ops.size).length := by
        have := List.length_filter_le (fun i => listed.getD i false) (List.range ops.size)
        rw [List.length_range] at this ⊢
        omega
      have := List.length_filter_eq_length_iff.1 hlen i (List.mem_range.2 hil)
      rw [getD_both hun] at this
      cases this
    exact ⟨hall, by rw [final hok hseq inv hall]; exact hQ γ _ w (fun j hj => all_listed hok hall inv.size ops.size j hj hj) hI⟩
  | fuel + 1, γ, listed, a, w, inv, hI, hf => by
    refine ⟨fun hr => by rw [final hok hseq inv hr]; exact hQ γ _ w (fun j hj => all_listed hok hr inv.size ops.size j hj hj) hI, fun i hi => wpOp_of hok hseq hst inv hI hi fun γ' a' w' inv' hI' => wpAny_of hok hseq hst hQ fuel γ' _ a' w' inv' hI' ?_⟩
    obtain ⟨hun, oi, ho, _⟩ := mem_ready.1 hi
    have hil := (Array.getElem?_eq_some_iff.1 ho).1
    have hlt : ((List.range ops.size).filter fun i => listed.getD i false).length < ((List.range ops.size).filter fun j => (listed.setIfInBounds i true).getD j false).length := by
      rw [← List.countP_eq_length_filter, ← List.countP_eq_length_filter]
      have hsplit := range_split ops.size i hil
      rw [hsplit, List.countP_append, List.countP_append, List.countP_cons, List.countP_cons]
      have h1 : List.countP (fun i => listed.getD i false) (List.range i) ≤ List.countP (fun j => (listed.setIfInBounds i true).getD j false) (List.range i) := List.countP_mono_left fun j _ h => getD_set_true h
      have h2 : List.countP (fun i => listed.getD i false) (List.range' (i + 1) (ops.size - (i + 1))) ≤ List.countP (fun j => (listed.setIfInBounds i true).getD j false) (List.range' (i + 1) (ops.size - (i + 1))) := List.countP_mono_left fun j _ h => getD_set_true h
      have h3 : (listed.setIfInBounds i true).getD i false = true := by simp [inv.size, hil]
      rw [h3, getD_both hun]
      simp
      simp at h1 h2
      omega
    omega

/-- THE LAW. -/
theorem ghost {id : Nat} {l : List Oper} {a : Act} {w : World} {Q : Exit → Act → World → Prop} (I : Gh → Run → World → Prop) (hm : P.follows .mixedOrders = true) (hok : ok l.toArray = true)
    (hI : ∀ γ, I γ (fun _ => false) { w with drawn := w.drawn + 1 }) (h : walk P l.toArray I (fun A => ∀ γ L w', (∀ j, j < l.length → L j = true) → I γ L w' → Q .normal (A γ) w') 0 l (fun _ => a)) : (Code.region id l.toArray true).wp P Q a w := by
  obtain ⟨Af, val, h0, hst, hQ⟩ := walk_acts l 0 _ h
  have hsz : l.toArray.size = l.length := by simp
  have hseq : Seq l.toArray Af val a := ⟨fun γ => by rw [h0], fun k o hk γ => by have := (hst k o (by simpa using hk)).2 γ; rwa [Nat.zero_add] at this⟩
  have hst' : ∀ i o, l.toArray[i]? = some o → Step P l.toArray I i o (Af i) (val i) := fun i o hi => by have := (hst i o (by simpa using hi)).1; rwa [Nat.zero_add] at this
  refine wp_region_any hm (wpAny_of (ok_spec hok) hseq hst' (by rw [hsz]; exact hQ) _ (fun _ => 0) _ a _ ⟨by simp, fun j oj _ hl => (by rw [getD_replicate_false] at hl; cases hl), rfl, rfl, fun j oj s _ _ hl => (by rw [getD_replicate_false] at hl; cases hl), fun s _ => rfl⟩ ?_ (by omega))
  have e : runOf (Array.replicate l.toArray.size false) = fun _ => false := by funext j; unfold runOf; rw [getD_replicate_false]
  rw [e]
  exact hI _

theorem walk_nil {Q : (Gh → Act) → Prop} {A : Gh → Act} {i : Nat} (h : Q A) : walk P ops I Q i [] A := h
theorem walk_no {Q : (Gh → Act) → Prop} {A : Gh → Act} {o : Oper} {rest : List Oper} {i : Nat} (hw : ∀ γ, Region.wanted o (yielded ops (A γ).tmps) = false) (hm : ∀ γ L w, I γ L w → I γ (mark L i) w) (h : walk P ops I Q (i + 1) rest (fun γ => (A γ).put o.dst undef)) : walk P ops I Q i (o :: rest) A :=
  ⟨fun _ => undef, .inl ⟨hw, fun _ => rfl, hm⟩, h⟩
/-- An operation: its value, of its ghost; what it needs to have run before it may be asked by 'kernel_rfl'. -/
theorem walk_yes {Q : (Gh → Act) → Prop} {A : Gh → Act} {o : Oper} {rest : List Oper} {i : Nat} (val : Nat → Value) (hw : ∀ γ, Region.wanted o (yielded ops (A γ).tmps) = true)
    (hs : ∀ γ (L : Run) w, L i = false → (∀ j, Region.waitsFor .any ops i j = true → L j = true) → I γ L w → ∀ K : Act → World → Prop, (∀ b w', I (upd γ i b) (mark L i) w' → K ((A γ).put o.dst (val b)) w') → o.wp P (A γ) w K NoEnd)
    (h : walk P ops I Q (i + 1) rest (fun γ => (A γ).put o.dst (val (γ i)))) : walk P ops I Q i (o :: rest) A :=
  ⟨val, .inr ⟨hw, fun γ L w h1 h2 h3 => hs γ L w h1 h2 h3 _ (fun b _ h' => ⟨b, rfl, h'⟩)⟩, h⟩
/-- An operation that gives one value, whatever the ghosts. -/
theorem walk_const {Q : (Gh → Act) → Prop} {A : Gh → Act} {o : Oper} {rest : List Oper} {i : Nat} {v : Value} (hw : ∀ γ, Region.wanted o (yielded ops (A γ).tmps) = true)
    (hs : ∀ γ (L : Run) w, L i = false → (∀ j, Region.waitsFor .any ops i j = true → L j = true) → I γ L w → ∀ K : Act → World → Prop, (∀ w', I (upd γ i 0) (mark L i) w' → K ((A γ).put o.dst v) w') → o.wp P (A γ) w K NoEnd)
    (h : walk P ops I Q (i + 1) rest (fun γ => (A γ).put o.dst v)) : walk P ops I Q i (o :: rest) A :=
  walk_yes (fun _ => v) hw (fun γ L w h1 h2 h3 K hK => hs γ L w h1 h2 h3 K (fun w' h' => hK 0 w' h')) h
/-- One block that an operation of the region makes (number k): its ghost is its number. -/
structure Made (W1 : World) (k : Nat) (row : Obj) (γ : Gh) (L : Run) (wx : World) : Prop where
  below : Go.RowKit.Below W1.heap.size W1 wx
  row : L k = true → W1.heap.size ≤ γ k ∧ wx.heap[γ k]? = some row
theorem Made.next {W1 wx w' : World} {k i b : Nat} {row : Obj} {γ : Gh} {L : Run} (h : Made W1 k row γ L wx) (hi : k ≠ i) (hb : Go.RowKit.Below wx.heap.size wx w') : Made W1 k row (upd γ i b) (mark L i) w' := by
  refine ⟨h.below.trans (hb.mono h.below.size), fun hl => ?_⟩
  have e1 : mark L i k = L k := by unfold mark; rw [if_neg hi]
  have e2 : upd γ i b k = γ k := by unfold upd; rw [if_neg hi]
  rw [e1] at hl
  rw [e2]
  obtain ⟨h1, h2⟩ := h.row hl
  have hlt : γ k < wx.heap.size := by
    rcases Nat.lt_or_ge (γ k) wx.heap.size with h3 | h3
    · exact h3
    · rw [Array.getElem?_eq_none h3] at h2; cases h2
  exact ⟨h1, (hb.block _ hlt).trans h2⟩
theorem Made.make {W1 wx : World} {k : Nat} {row : Obj} {γ : Gh} {L : Run} (h : Made W1 k row γ L wx) : Made W1 k row (upd γ k wx.heap.size) (mark L k) (wx.alloc row) := by
  refine ⟨h.below.alloc h.below.size row, fun _ => ?_⟩
  have e2 : upd γ k wx.heap.size k = wx.heap.size := by unfold upd; rw [if_pos rfl]
  rw [e2]
  exact ⟨h.below.size, heap_alloc_new wx row⟩
end
end Ghost
end

section
open Go.RowKit Frm

set_option maxRecDepth 100000 in
set_option maxHeartbeats 4000000 in
theorem refIn_no (x : BldD) (A : Option Addr) (cap : Nat) (y : In) (A' : Option Addr) (cp : Nat) (w : World) (hxn : x.cars.length ≤ 140737488355328) (hc : CarsAt w w.heap.size A x.cars) (hn : y.cars.length ≤ 1000) (hy : saneIn y) (hv : CarsV w A' y.cars) (hB : isInB x y = false) :
    Calls Try.prog 12 #[x.agg A cap, inAgg y A' cp] w fun e w' => e = .returned (.tuple #[.string ⟨#[]⟩, .int .i64 1]) ∧ Below w.heap.size w w' := by
  have F0 := Lib.hid (fun wx (h : Below w.heap.size w wx) => refIsIn_any x A cap y A' cp wx hxn ((hc.below h).more h.size) hn hy (hv.below h))
  rw [hB] at F0
  clear hc hv hy hB
  obtain ⟨pu, pd, kind, car, ys⟩ := y
  obtain ⟨f, d, r, p, e1, e2, e3, cs⟩ := x
  simp only [BldD.agg, inAgg] at *
  go_enter Try.func12, Try.ntmps12
  go_wp2_with fail
  obtain ⟨W0, hW0⟩ : ∃ W0, W0 = (w.alloc (.cells #[.int .i64 f, .int .i64 d, .int .i64 r, .int .i64 p, .float .f64 e1, .float .f64 e2, .float .f64 e3, .slice A cs.length cap] 25)).alloc (.cells #[.int .u32 pu, .int .u32 pd, .int .i64 kind, .int .i64 car, .slice A' ys.length cp] 33) := ⟨_, rfl⟩
  rw [← hW0]
  have hs0 : W0.heap.size = w.heap.size + 2 := by rw [hW0]; simp
  have HBW : Hid (Below w.heap.size w W0) := by rw [hW0]; exact ((Below.refl _ _).alloc (Nat.le_refl _) _).alloc (by simp) _
  have HB : Hid (∀ wx, Below W0.heap.size W0 wx → wx.cell? ⟨w.heap.size, 0, none⟩ = some (.int .i64 f) ∧ wx.cell? ⟨w.heap.size, 1, none⟩ = some (.int .i64 d) ∧ wx.cell? ⟨w.heap.size, 2, none⟩ = some (.int .i64 r) ∧ wx.cell? ⟨w.heap.size, 3, none⟩ = some (.int .i64 p) ∧ wx.cell? ⟨w.heap.size, 4, none⟩ = some (.float .f64 e1) ∧ wx.cell? ⟨w.heap.size, 5, none⟩ = some (.float .f64 e2) ∧ wx.cell? ⟨w.heap.size, 6, none⟩ = some (.float .f64 e3) ∧ wx.cell? ⟨w.heap.size, 7, none⟩ = some (.slice A cs.length cap) ∧ wx.cell? ⟨w.heap.size + 1, 0, none⟩ = some (.int .u32 pu) ∧ wx.cell? ⟨w.heap.size + 1, 1, none⟩ = some (.int .u32 pd) ∧ wx.cell? ⟨w.heap.size + 1, 2, none⟩ = some (.int .i64 kind) ∧ wx.cell? ⟨w.heap.size + 1, 3, none⟩ = some (.int .i64 car) ∧ wx.cell? ⟨w.heap.size + 1, 4, none⟩ = some (.slice A' ys.length cp)) := fun wx h => by
    have r0 : wx.heap[w.heap.size]? = some (.cells #[.int .i64 f, .int .i64 d, .int .i64 r, .int .i64 p, .float .f64 e1, .float .f64 e2, .float .f64 e3, .slice A cs.length cap] 25 (0, 0)) := (h.block _ (by omega)).trans (by rw [hW0]; exact (Below.heap_alloc _ _ _ (by simp)).trans (heap_alloc_new w _))
    have r1 : wx.heap[w.heap.size + 1]? = some (.cells #[.int .u32 pu, .int .u32 pd, .int .i64 kind, .int .i64 car, .slice A' ys.length cp] 33 (0, 0)) := (h.block _ (by omega)).trans (by
      rw [hW0]
      have h := heap_alloc_new (w.alloc (.cells #[.int .i64 f, .int .i64 d, .int .i64 r, .int .i64 p, .float .f64 e1, .float .f64 e2, .float .f64 e3, .slice A cs.length cap] 25)) (.cells #[.int .u32 pu, .int .u32 pd, .int .i64 kind, .int .i64 car, .slice A' ys.length cp] 33)
      have e : (w.alloc (.cells #[.int .i64 f, .int .i64 d, .int .i64 r, .int .i64 p, .float .f64 e1, .float .f64 e2, .float .f64 e3, .slice A cs.length cap] 25)).heap.size = w.heap.size + 1 := by simp
      rw [e] at h
      exact h)
    exact ⟨cell_of_row _ _ _ _ _ (0, 0) r0, cell_of_row _ _ _ _ _ (0, 0) r0, cell_of_row _ _ _ _ _ (0, 0) r0, cell_of_row _ _ _ _ _ (0, 0) r0, cell_of_row _ _ _ _ _ (0, 0) r0, cell_of_row _ _ _ _ _ (0, 0) r0, cell_of_row _ _ _ _ _ (0, 0) r0, cell_of_row _ _ _ _ _ (0, 0) r0, cell_of_row _ _ _ _ _ (0, 0) r1, cell_of_row _ _ _ _ _ (0, 0) r1, cell_of_row _ _ _ _ _ (0, 0) r1, cell_of_row _ _ _ _ _ (0, 0) r1, cell_of_row _ _ _ _ _ (0, 0) r1⟩
  clear hW0
  refine (F0.out W0 HBW.out).mono ?_
  rintro e w1 ⟨rfl, hb1⟩
  obtain ⟨a0, a1, a2, a3, a4, a5, a6, a7, a8, a9, a10, a11, a12⟩ := HB.out w1 hb1
  have HX := Lib.hid hb1
  clear hb1
  go_wp2_with fail
  go_ret2
  exact ⟨rfl, HBW.out.trans (HX.out.mono (by omega))⟩

theorem float64bits_run (n : Nat) (w : World) : (callFunc 35 #[.float .f64 n]).run Try.prog w = .ok (.value (.int .u64 n)) w := by
  rw [run_callFunc_extern (e := Extern.MathFloatBits.float64bits) Try.func35 (by kernel_rfl) (by kernel_rfl) (by kernel_rfl) (by kernel_rfl)]
  rfl
theorem str_size (l : List UInt8) : (⟨l.toArray⟩ : ByteArray).size = l.length := List.size_toArray

/-- The frame up to its cars. -/
def inHd (C : Nat) (y : In) : List UInt8 := numL 165 1 ++ (numL C 1 ++ ((numL y.pu 4 ++ numL y.pd 4) ++ (numL (m64 y.kind) 1 ++ numL (m64 y.car) 1)))

set_option maxRecDepth 100000 in
set_option maxHeartbeats 4000000 in
theorem refIn_good (x : BldD) (A : Option Addr) (cap : Nat) (y : In) (A' : Option Addr) (cp : Nat) (w : World) (hxn : x.cars.length ≤ 1000) (hc : CarsAt w w.heap.size A x.cars) (hn : y.cars.length ≤ 1000) (hy : saneIn y) (hv : CarsV w A' y.cars) (hB : isInB x y = true) :
    Calls Try.prog 12 #[x.agg A cap, inAgg y A' cp] w fun e w' => e = .returned (.tuple #[.string ⟨(sealL (inHd x.cars.length y ++ y.cars.flatMap carB)).toArray⟩, .int .i64 0]) ∧ Below w.heap.size w w' := by
  have F0 := Lib.hid (fun wx (h : Below w.heap.size w wx) => refIsIn_any x A cap y A' cp wx (by omega) ((hc.below h).more h.size) hn hy (hv.below h))
  rw [hB] at F0
  have HV := Lib.hid hv
  have HSC : Hid (∀ c ∈ y.cars, saneCar c) := hy.2.2.2.2
  have hpu := hy.1
  have hpd := hy.2.1
  have hCw : IntKind.u64.wrap (x.cars.length : Int) = (x.cars.length : Int) := by rw [IntKind.wrap_u64]; omega
  have hkw := m64_wrap y.kind
  have hcw := m64_wrap y.car
  clear hc hv hy hB
  obtain ⟨T, hT⟩ : ∃ T, T = inHd x.cars.length y := ⟨_, rfl⟩
  rw [← hT]
  unfold inHd at hT
  have N1 := Lib.hid (fun wx => refNum_any 165 1 wx (by omega))
  have N2 := Lib.hid (fun wx => refNum_any x.cars.length 1 wx (by omega))
  have N3 := Lib.hid (fun wx => refCalls_any y.pu y.pd wx hpu hpd)
  have N4 := Lib.hid (fun wx => refNum_any (m64 y.kind) 1 wx (by omega))
  have N5 := Lib.hid (fun wx => refNum_any (m64 y.car) 1 wx (by omega))
  have hcat : ((((⟨(numL 165 1).toArray⟩ : ByteArray) ++ (⟨(numL x.cars.length 1).toArray⟩ : ByteArray)) ++ (⟨(numL y.pu 4 ++ numL y.pd 4).toArray⟩ : ByteArray)) ++ (⟨(numL (m64 y.kind) 1).toArray⟩ : ByteArray)) ++ (⟨(numL (m64 y.car) 1).toArray⟩ : ByteArray) = ⟨T.toArray⟩ := by
    rw [app_bl, app_bl, app_bl, app_bl, hT]
    simp only [bytes_u, List.append_assoc]
  have z1 := str_size (numL 165 1)
  have z2 := str_size (numL x.cars.length 1)
  have z3 := str_size (numL y.pu 4 ++ numL y.pd 4)
  have z4 := str_size (numL (m64 y.kind) 1)
  have z5 := str_size (numL (m64 y.car) 1)
  simp only [List.length_append, numL_length] at z1 z2 z3 z4 z5
  have HTL : Hid (T.length = 12) := by rw [hT]; show _ = _; simp only [List.length_append, numL_length]
  clear hT
  generalize (⟨(numL 165 1).toArray⟩ : ByteArray) = B1 at *
  generalize (⟨(numL x.cars.length 1).toArray⟩ : ByteArray) = B2 at *
  generalize (⟨(numL y.pu 4 ++ numL y.pd 4).toArray⟩ : ByteArray) = B3 at *
  generalize (⟨(numL (m64 y.kind) 1).toArray⟩ : ByteArray) = B4 at *
  generalize (⟨(numL (m64 y.car) 1).toArray⟩ : ByteArray) = B5 at *
  have HCAT := Lib.hid hcat
  clear hcat
  obtain ⟨pu, pd, kind, car, ys⟩ := y
  obtain ⟨f, d, r, p, e1, e2, e3, cs⟩ := x
  simp only [BldD.agg, inAgg] at *
  generalize m64 kind = mk at *
  generalize m64 car = mc at *
  go_enter Try.func12, Try.ntmps12
  go_wp2_with fail
  obtain ⟨W0, hW0⟩ : ∃ W0, W0 = (w.alloc (.cells #[.int .i64 f, .int .i64 d, .int .i64 r, .int .i64 p, .float .f64 e1, .float .f64 e2, .float .f64 e3, .slice A cs.length cap] 25)).alloc (.cells #[.int .u32 pu, .int .u32 pd, .int .i64 kind, .int .i64 car, .slice A' ys.length cp] 33) := ⟨_, rfl⟩
  rw [← hW0]
  have hs0 : W0.heap.size = w.heap.size + 2 := by rw [hW0]; simp
  have HBW : Hid (Below w.heap.size w W0) := by rw [hW0]; exact ((Below.refl _ _).alloc (Nat.le_refl _) _).alloc (by simp) _
  have HB : Hid (∀ wx, Below W0.heap.size W0 wx → wx.cell? ⟨w.heap.size, 0, none⟩ = some (.int .i64 f) ∧ wx.cell? ⟨w.heap.size, 1, none⟩ = some (.int .i64 d) ∧ wx.cell? ⟨w.heap.size, 2, none⟩ = some (.int .i64 r) ∧ wx.cell? ⟨w.heap.size, 3, none⟩ = some (.int .i64 p) ∧ wx.cell? ⟨w.heap.size, 4, none⟩ = some (.float .f64 e1) ∧ wx.cell? ⟨w.heap.size, 5, none⟩ = some (.float .f64 e2) ∧ wx.cell? ⟨w.heap.size, 6, none⟩ = some (.float .f64 e3) ∧ wx.cell? ⟨w.heap.size, 7, none⟩ = some (.slice A cs.length cap) ∧ wx.cell? ⟨w.heap.size + 1, 0, none⟩ = some (.int .u32 pu) ∧ wx.cell? ⟨w.heap.size + 1, 1, none⟩ = some (.int .u32 pd) ∧ wx.cell? ⟨w.heap.size + 1, 2, none⟩ = some (.int .i64 kind) ∧ wx.cell? ⟨w.heap.size + 1, 3, none⟩ = some (.int .i64 car) ∧ wx.cell? ⟨w.heap.size + 1, 4, none⟩ = some (.slice A' ys.length cp)) := fun wx h => by
    have r0 : wx.heap[w.heap.size]? = some (.cells #[.int .i64 f, .int .i64 d, .int .i64 r, .int .i64 p, .float .f64 e1, .float .f64 e2, .float .f64 e3, .slice A cs.length cap] 25 (0, 0)) := (h.block _ (by omega)).trans (by rw [hW0]; exact (Below.heap_alloc _ _ _ (by simp)).trans (heap_alloc_new w _))
    have r1 : wx.heap[w.heap.size + 1]? = some (.cells #[.int .u32 pu, .int .u32 pd, .int .i64 kind, .int .i64 car, .slice A' ys.length cp] 33 (0, 0)) := (h.block _ (by omega)).trans (by
      rw [hW0]
      have h := heap_alloc_new (w.alloc (.cells #[.int .i64 f, .int .i64 d, .int .i64 r, .int .i64 p, .float .f64 e1, .float .f64 e2, .float .f64 e3, .slice A cs.length cap] 25)) (.cells #[.int .u32 pu, .int .u32 pd, .int .i64 kind, .int .i64 car, .slice A' ys.length cp] 33)
      have e : (w.alloc (.cells #[.int .i64 f, .int .i64 d, .int .i64 r, .int .i64 p, .float .f64 e1, .float .f64 e2, .float .f64 e3, .slice A cs.length cap] 25)).heap.size = w.heap.size + 1 := by simp
      rw [e] at h
      exact h)
    exact ⟨cell_of_row _ _ _ _ _ (0, 0) r0, cell_of_row _ _ _ _ _ (0, 0) r0, cell_of_row _ _ _ _ _ (0, 0) r0, cell_of_row _ _ _ _ _ (0, 0) r0, cell_of_row _ _ _ _ _ (0, 0) r0, cell_of_row _ _ _ _ _ (0, 0) r0, cell_of_row _ _ _ _ _ (0, 0) r0, cell_of_row _ _ _ _ _ (0, 0) r0, cell_of_row _ _ _ _ _ (0, 0) r1, cell_of_row _ _ _ _ _ (0, 0) r1, cell_of_row _ _ _ _ _ (0, 0) r1, cell_of_row _ _ _ _ _ (0, 0) r1, cell_of_row _ _ _ _ _ (0, 0) r1⟩
  clear hW0
  refine (F0.out W0 HBW.out).mono ?_
  rintro e w1 ⟨rfl, hb1⟩
  obtain ⟨a0, a1, a2, a3, a4, a5, a6, a7, a8, a9, a10, a11, a12⟩ := HB.out w1 hb1
  have HX := Lib.hid hb1
  clear hb1
  go_wp2_with fail
  clear a0 a1 a2 a3 a4 a5 a6 a7 a8 a9 a10 a11 a12
  refine Bag.region (fun wx => Below w1.heap.size w1 wx) (by kernel_rfl) (by kernel_rfl) (Below.refl _ _).drew ?_
  iterate 1
    (apply Bag.walk_yes (by rfl)
     (intro wx hx K hK
      obtain ⟨a0, a1, a2, a3, a4, a5, a6, a7, a8, a9, a10, a11, a12⟩ := HB.out wx (HX.out.trans (hx.mono HX.out.size))
      have HXX := Lib.hid hx
      clear hx
      go_simp
      go_at_call 32; refine (N1.out _).mono ?_; rintro e w3 ⟨rfl, hb3⟩; exact hK _ (HXX.out.trans (hb3.mono HXX.out.size)))
     rfl)
  iterate 4
    (apply Bag.walk_yes (by rfl)
     (intro wx hx K hK
      obtain ⟨a0, a1, a2, a3, a4, a5, a6, a7, a8, a9, a10, a11, a12⟩ := HB.out wx (HX.out.trans (hx.mono HX.out.size))
      have HXX := Lib.hid hx
      clear hx
      go_simp
      go_at_K; exact hK _ HXX.out)
     rfl)
  iterate 1
    (apply Bag.walk_yes (by rfl)
     (intro wx hx K hK
      obtain ⟨a0, a1, a2, a3, a4, a5, a6, a7, a8, a9, a10, a11, a12⟩ := HB.out wx (HX.out.trans (hx.mono HX.out.size))
      have HXX := Lib.hid hx
      clear hx
      go_simp
      go_at_call 32; refine (N2.out _).mono ?_; rintro e w3 ⟨rfl, hb3⟩; exact hK _ (HXX.out.trans (hb3.mono HXX.out.size)))
     rfl)
  iterate 3
    (apply Bag.walk_yes (by rfl)
     (intro wx hx K hK
      obtain ⟨a0, a1, a2, a3, a4, a5, a6, a7, a8, a9, a10, a11, a12⟩ := HB.out wx (HX.out.trans (hx.mono HX.out.size))
      have HXX := Lib.hid hx
      clear hx
      go_simp
      go_at_K; exact hK _ HXX.out)
     rfl)
  iterate 1
    (apply Bag.walk_yes (by rfl)
     (intro wx hx K hK
      obtain ⟨a0, a1, a2, a3, a4, a5, a6, a7, a8, a9, a10, a11, a12⟩ := HB.out wx (HX.out.trans (hx.mono HX.out.size))
      have HXX := Lib.hid hx
      clear hx
      go_simp
      go_at_call 33; refine (N3.out _).mono ?_; rintro e w3 ⟨rfl, hb3⟩; exact hK _ (HXX.out.trans (hb3.mono HXX.out.size)))
     rfl)
  iterate 5
    (apply Bag.walk_yes (by rfl)
     (intro wx hx K hK
      obtain ⟨a0, a1, a2, a3, a4, a5, a6, a7, a8, a9, a10, a11, a12⟩ := HB.out wx (HX.out.trans (hx.mono HX.out.size))
      have HXX := Lib.hid hx
      clear hx
      go_simp
      go_at_K; exact hK _ HXX.out)
     rfl)
  iterate 1
    (apply Bag.walk_yes (by rfl)
     (intro wx hx K hK
      obtain ⟨a0, a1, a2, a3, a4, a5, a6, a7, a8, a9, a10, a11, a12⟩ := HB.out wx (HX.out.trans (hx.mono HX.out.size))
      have HXX := Lib.hid hx
      clear hx
      go_simp
      go_at_call 32; refine (N4.out _).mono ?_; rintro e w3 ⟨rfl, hb3⟩; exact hK _ (HXX.out.trans (hb3.mono HXX.out.size)))
     rfl)
  iterate 5
    (apply Bag.walk_yes (by rfl)
     (intro wx hx K hK
      obtain ⟨a0, a1, a2, a3, a4, a5, a6, a7, a8, a9, a10, a11, a12⟩ := HB.out wx (HX.out.trans (hx.mono HX.out.size))
      have HXX := Lib.hid hx
      clear hx
      go_simp
      go_at_K; exact hK _ HXX.out)
     rfl)
  iterate 1
    (apply Bag.walk_yes (by rfl)
     (intro wx hx K hK
      obtain ⟨a0, a1, a2, a3, a4, a5, a6, a7, a8, a9, a10, a11, a12⟩ := HB.out wx (HX.out.trans (hx.mono HX.out.size))
      have HXX := Lib.hid hx
      clear hx
      go_simp
      go_at_call 32; refine (N5.out _).mono ?_; rintro e w3 ⟨rfl, hb3⟩; exact hK _ (HXX.out.trans (hb3.mono HXX.out.size)))
     rfl)
  iterate 2
    (apply Bag.walk_yes (by rfl)
     (intro wx hx K hK
      obtain ⟨a0, a1, a2, a3, a4, a5, a6, a7, a8, a9, a10, a11, a12⟩ := HB.out wx (HX.out.trans (hx.mono HX.out.size))
      have HXX := Lib.hid hx
      clear hx
      go_simp
      go_at_K; exact hK _ HXX.out)
     rfl)
  refine Bag.walk_nil (fun w3 hx => ?_)
  have HX3 := Lib.hid (HX.out.trans (hx.mono HX.out.size))
  clear hx
  rw [HCAT.out]
  clear N1 N2 N3 N4 N5 HCAT z1 z2 z3 z4 z5
  go_wp2_with fail
  go_loopw [6, 7] (fun v6 v7 wr => ∃ m : Nat, m ≤ ys.length ∧ v7 = .int .i64 m ∧ v6 = .string ⟨(T ++ (ys.take m).flatMap carB).toArray⟩ ∧ Below W0.heap.size W0 wr) (fun _ v _ => ys.length - (intOf v).toNat)
  case atStart => exact ⟨0, Nat.zero_le _, rfl, by simp, HX3.out⟩
  case round =>
    obtain ⟨m, hm, rfl, rfl, hbr⟩ := hrel
    have hs0r : W0.heap.size ≤ wr.heap.size := hbr.size
    obtain ⟨a0, a1, a2, a3, a4, a5, a6, a7, a8, a9, a10, a11, a12⟩ := HB.out wr hbr
    have HBR := Lib.hid hbr
    clear hbr
    rcases Nat.lt_or_ge m ys.length with hlt | hge
    case inr =>
      obtain rfl : m = ys.length := by omega
      rw [List.take_length]
      have hz : (⟨(T ++ ys.flatMap carB).toArray⟩ : ByteArray).size ≤ 1000000 := by
        rw [str_size, List.length_append, HTL.out, flat_length carB_length]; omega
      have hbl : Hid (bl ⟨(T ++ ys.flatMap carB).toArray⟩ = T ++ ys.flatMap carB) := by
        show _ = _
        unfold bl; rfl
      generalize (⟨(T ++ ys.flatMap carB).toArray⟩ : ByteArray) = S at *
      have SEAL := Lib.hid (fun wx => refSeal_any S wx hz)
      rw [hbl.out] at SEAL
      clear hz hbl
      go_wp2_with fail
      refine (SEAL.out _).mono ?_
      rintro e w5 ⟨rfl, hb5⟩
      have HX5 := Lib.hid ((HBW.out.trans (HBR.out.mono (by omega))).trans (hb5.mono (by have := HBR.out.size; have := HBW.out.size; omega)))
      clear hb5
      go_wp2_with fail
      go_ret2
      exact ⟨rfl, HX5.out⟩
    have hbwr := HBW.out.trans (HBR.out.mono (by omega))
    rcases HV.out.below hbwr with h0 | ⟨b, off, rfl, hv⟩
    · subst h0; simp at hlt
    have g := hv m hlt
    have hsc := HSC.out ys[m] (List.getElem_mem hlt)
    have hnx : (ys.take (m + 1)).flatMap carB = (ys.take m).flatMap carB ++ carB ys[m] := by
      rw [List.take_succ_eq_append_getElem hlt, List.flatMap_append]; simp
    have hfl : ((ys.take m).flatMap carB).length = m * 19 := by rw [flat_length carB_length, List.length_take, Nat.min_eq_left (by omega)]
    clear hbwr hv
    generalize ys[m] = c at g hsc hnx
    have hzs : (⟨(T ++ (ys.take m).flatMap carB).toArray⟩ : ByteArray).size = 12 + m * 19 := by rw [str_size, List.length_append, HTL.out, hfl]
    have hcat : (((((((⟨(T ++ (ys.take m).flatMap carB).toArray⟩ : ByteArray) ++ (⟨(numL c.floors 4).toArray⟩ : ByteArray)) ++ (⟨(numL (flg c.flags) 1).toArray⟩ : ByteArray)) ++ (⟨(numL (m64 c.floor) 1).toArray⟩ : ByteArray)) ++ (⟨(numL (m64 c.door) 1).toArray⟩ : ByteArray)) ++ (⟨(numL c.calls 4).toArray⟩ : ByteArray)) ++ (⟨(numL c.load 8).toArray⟩ : ByteArray)) = ⟨(T ++ (ys.take (m + 1)).flatMap carB).toArray⟩ := by
      rw [app_bl, app_bl, app_bl, app_bl, app_bl, app_bl, hnx]
      simp only [bytes_u, List.append_assoc, carB]
    have N1 := Lib.hid (fun wx => refNum_any c.floors 4 wx (by omega))
    have N2 := Lib.hid (fun g wx (h0 : wx.cell? ⟨g, 0, none⟩ = some (.bool c.up)) (h1 : wx.cell? ⟨g, 1, none⟩ = some (.bool c.down)) (h2 : wx.cell? ⟨g, 2, none⟩ = some (.bool c.opened)) (h3 : wx.cell? ⟨g, 3, none⟩ = some (.bool c.closed)) (h4 : wx.cell? ⟨g, 4, none⟩ = some (.bool c.level)) (h5 : wx.cell? ⟨g, 5, none⟩ = some (.bool c.block)) => show Calls Try.prog 34 #[.slice (some ⟨g, 0, none⟩) 6 6] wx fun e w' => e = .returned (.string ⟨(numL (flg c.flags) 1).toArray⟩) ∧ Below wx.heap.size wx w' from refBits_any c.flags g 6 wx (by simp [CarIn.flags]) (fun j hj => by
      have hj6 : j < 6 := hj
      match j, hj6 with
      | 0, _ => exact h0
      | 1, _ => exact h1
      | 2, _ => exact h2
      | 3, _ => exact h3
      | 4, _ => exact h4
      | 5, _ => exact h5))
    have N3 := Lib.hid (fun wx => refNum_any (m64 c.floor) 1 wx (by omega))
    have N4 := Lib.hid (fun wx => refNum_any (m64 c.door) 1 wx (by omega))
    have N5 := Lib.hid (fun wx => refNum_any c.calls 4 wx (by omega))
    have N6 := Lib.hid (fun wx => refNum_any c.load 8 wx (by omega))
    have z1 := str_size (numL c.floors 4)
    have z2 := str_size (numL (flg c.flags) 1)
    have z3 := str_size (numL (m64 c.floor) 1)
    have z4 := str_size (numL (m64 c.door) 1)
    have z5 := str_size (numL c.calls 4)
    have z6 := str_size (numL c.load 8)
    simp only [numL_length] at z1 z2 z3 z4 z5 z6
    generalize (⟨(T ++ (ys.take m).flatMap carB).toArray⟩ : ByteArray) = S at *
    generalize (⟨(numL c.floors 4).toArray⟩ : ByteArray) = B1 at *
    generalize (⟨(numL (flg c.flags) 1).toArray⟩ : ByteArray) = B2 at *
    generalize (⟨(numL (m64 c.floor) 1).toArray⟩ : ByteArray) = B3 at *
    generalize (⟨(numL (m64 c.door) 1).toArray⟩ : ByteArray) = B4 at *
    generalize (⟨(numL c.calls 4).toArray⟩ : ByteArray) = B5 at *
    generalize (⟨(numL c.load 8).toArray⟩ : ByteArray) = B6 at *
    have HCAT := Lib.hid hcat
    have no1 : ¬ 9223372036854775807 < 12 + m * 19 + 4 := by omega
    have no2 : ¬ 9223372036854775807 < 12 + m * 19 + 4 + 1 := by omega
    have no3 : ¬ 9223372036854775807 < 12 + m * 19 + 4 + 1 + 1 := by omega
    have no4 : ¬ 9223372036854775807 < 12 + m * 19 + 4 + 1 + 1 + 1 := by omega
    have no5 : ¬ 9223372036854775807 < 12 + m * 19 + 4 + 1 + 1 + 1 + 4 := by omega
    have no6 : ¬ 9223372036854775807 < 12 + m * 19 + 4 + 1 + 1 + 1 + 4 + 8 := by omega
    have hfw := m64_wrap c.floor
    have hdw := m64_wrap c.door
    have hffw : IntKind.u64.wrap (c.floors : Int) = (c.floors : Int) := by rw [IntKind.wrap_u64]; have := hsc.1; omega
    have hccw : IntKind.u64.wrap (c.calls : Int) = (c.calls : Int) := by rw [IntKind.wrap_u64]; have := hsc.2.1; omega
    clear hcat hnx hfl
    have g0 : wr.cell? ⟨b, off + m * 11, none⟩ = some (.int .u32 c.floors) := g 0 _ rfl
    have g1 : wr.cell? ⟨b, off + m * 11 + 1, none⟩ = some (.bool c.up) := g 1 _ rfl
    have g2 : wr.cell? ⟨b, off + m * 11 + 2, none⟩ = some (.bool c.down) := g 2 _ rfl
    have g3 : wr.cell? ⟨b, off + m * 11 + 3, none⟩ = some (.bool c.opened) := g 3 _ rfl
    have g4 : wr.cell? ⟨b, off + m * 11 + 4, none⟩ = some (.bool c.closed) := g 4 _ rfl
    have g5 : wr.cell? ⟨b, off + m * 11 + 5, none⟩ = some (.int .i64 c.floor) := g 5 _ rfl
    have g6 : wr.cell? ⟨b, off + m * 11 + 6, none⟩ = some (.bool c.level) := g 6 _ rfl
    have g7 : wr.cell? ⟨b, off + m * 11 + 7, none⟩ = some (.int .i64 c.door) := g 7 _ rfl
    have g8 : wr.cell? ⟨b, off + m * 11 + 8, none⟩ = some (.bool c.block) := g 8 _ rfl
    have g9 : wr.cell? ⟨b, off + m * 11 + 9, none⟩ = some (.int .u32 c.calls) := g 9 _ rfl
    have g10 : wr.cell? ⟨b, off + m * 11 + 10, none⟩ = some (.float .f64 c.load) := g 10 _ rfl
    have hbl : b < wr.heap.size := World.block_lt_of_cell? wr _ g0
    clear g
    go_wp2_with fail
    obtain ⟨W1, hW1⟩ : ∃ W1, W1 = wr.alloc (.cells #[.int .u32 c.floors, .bool c.up, .bool c.down, .bool c.opened, .bool c.closed, .int .i64 c.floor, .bool c.level, .int .i64 c.door, .bool c.block, .int .u32 c.calls, .float .f64 c.load] 71) := ⟨_, rfl⟩
    rw [← hW1]
    have hs1 : W1.heap.size = wr.heap.size + 1 := by rw [hW1]; simp
    have HB1B : Hid (Below W0.heap.size W0 W1) := by rw [hW1]; exact HBR.out.alloc hs0r _
    have HB1 : Hid (∀ wx, Below W1.heap.size W1 wx → wx.cell? ⟨wr.heap.size, 0, none⟩ = some (.int .u32 c.floors) ∧ wx.cell? ⟨wr.heap.size, 1, none⟩ = some (.bool c.up) ∧ wx.cell? ⟨wr.heap.size, 2, none⟩ = some (.bool c.down) ∧ wx.cell? ⟨wr.heap.size, 3, none⟩ = some (.bool c.opened) ∧ wx.cell? ⟨wr.heap.size, 4, none⟩ = some (.bool c.closed) ∧ wx.cell? ⟨wr.heap.size, 5, none⟩ = some (.int .i64 c.floor) ∧ wx.cell? ⟨wr.heap.size, 6, none⟩ = some (.bool c.level) ∧ wx.cell? ⟨wr.heap.size, 7, none⟩ = some (.int .i64 c.door) ∧ wx.cell? ⟨wr.heap.size, 8, none⟩ = some (.bool c.block) ∧ wx.cell? ⟨wr.heap.size, 9, none⟩ = some (.int .u32 c.calls) ∧ wx.cell? ⟨wr.heap.size, 10, none⟩ = some (.float .f64 c.load)) := fun wx h => by
      have r1 : wx.heap[wr.heap.size]? = some (.cells #[.int .u32 c.floors, .bool c.up, .bool c.down, .bool c.opened, .bool c.closed, .int .i64 c.floor, .bool c.level, .int .i64 c.door, .bool c.block, .int .u32 c.calls, .float .f64 c.load] 71 (0, 0)) := (h.block _ (by omega)).trans (by rw [hW1]; exact heap_alloc_new wr _)
      exact ⟨cell_of_row _ _ _ _ _ (0, 0) r1, cell_of_row _ _ _ _ _ (0, 0) r1, cell_of_row _ _ _ _ _ (0, 0) r1, cell_of_row _ _ _ _ _ (0, 0) r1, cell_of_row _ _ _ _ _ (0, 0) r1, cell_of_row _ _ _ _ _ (0, 0) r1, cell_of_row _ _ _ _ _ (0, 0) r1, cell_of_row _ _ _ _ _ (0, 0) r1, cell_of_row _ _ _ _ _ (0, 0) r1, cell_of_row _ _ _ _ _ (0, 0) r1, cell_of_row _ _ _ _ _ (0, 0) r1⟩
    clear hW1 a0 a1 a2 a3 a4 a5 a6 a7 a8 a9 a10 a11 a12 g0 g1 g2 g3 g4 g5 g6 g7 g8 g9 g10
    obtain ⟨c0, c1, c2, c3, c4, c5, c6, c7, c8, c9, c10⟩ := HB1.out W1 (Below.refl _ _)
    have hpast : ∀ o j, (W1.alloc o).cell? ⟨wr.heap.size, j, none⟩ = W1.cell? ⟨wr.heap.size, j, none⟩ := fun o j => World.cell?_of_block (w := W1) (Below.heap_alloc W1 o wr.heap.size (by omega))
    have p0 := fun o => (hpast o 0).trans c0
    have p1 := fun o => (hpast o 1).trans c1
    have p2 := fun o => (hpast o 2).trans c2
    have p3 := fun o => (hpast o 3).trans c3
    have p4 := fun o => (hpast o 4).trans c4
    have p5 := fun o => (hpast o 5).trans c5
    have p6 := fun o => (hpast o 6).trans c6
    have p7 := fun o => (hpast o 7).trans c7
    have p8 := fun o => (hpast o 8).trans c8
    have p9 := fun o => (hpast o 9).trans c9
    have p10 := fun o => (hpast o 10).trans c10
    clear hpast
    clear p0 p1 p2 p3 p4 p5 p6 p7 p8 p9 p10 c0 c1 c2 c3 c4 c5 c6 c7 c8 c9 c10
    refine Ghost.ghost (fun γ L wx => Ghost.Made W1 25 (.cells #[.bool c.up, .bool c.down, .bool c.opened, .bool c.closed, .bool c.level, .bool c.block] 4 (0, 0)) γ L wx) (by kernel_rfl) (by kernel_rfl) (fun γ => ⟨(Below.refl _ _).drew, fun h => absurd h Bool.false_ne_true⟩) ?_
    apply Ghost.walk_const (fun γ => by rfl)
    · intro γ L wx h1 h2 hx K hK
      obtain ⟨c0, c1, c2, c3, c4, c5, c6, c7, c8, c9, c10⟩ := HB1.out wx hx.below
      have HK2 := Lib.hid hK
      have HX := Lib.hid hx
      clear hK h1 h2 hx
      go_simp
      exact HK2.out _ (HX.out.next (by decide) (Below.refl _ _))
    simp only [Act.put, List.setIfInBounds_toArray, List.set_cons_succ, List.set_cons_zero]
    apply Ghost.walk_const (fun γ => by rfl)
    · intro γ L wx h1 h2 hx K hK
      obtain ⟨c0, c1, c2, c3, c4, c5, c6, c7, c8, c9, c10⟩ := HB1.out wx hx.below
      have HK2 := Lib.hid hK
      have HX := Lib.hid hx
      clear hK h1 h2 hx
      go_simp
      exact HK2.out _ (HX.out.next (by decide) (Below.refl _ _))
    simp only [Act.put, List.setIfInBounds_toArray, List.set_cons_succ, List.set_cons_zero]
    apply Ghost.walk_const (fun γ => by rfl)
    · intro γ L wx h1 h2 hx K hK
      obtain ⟨c0, c1, c2, c3, c4, c5, c6, c7, c8, c9, c10⟩ := HB1.out wx hx.below
      have HK2 := Lib.hid hK
      have HX := Lib.hid hx
      clear hK h1 h2 hx
      go_simp
      exact HK2.out _ (HX.out.next (by decide) (Below.refl _ _))
    simp only [Act.put, List.setIfInBounds_toArray, List.set_cons_succ, List.set_cons_zero]
    apply Ghost.walk_const (fun γ => by rfl)
    · intro γ L wx h1 h2 hx K hK
      obtain ⟨c0, c1, c2, c3, c4, c5, c6, c7, c8, c9, c10⟩ := HB1.out wx hx.below
      have HK2 := Lib.hid hK
      have HX := Lib.hid hx
      clear hK h1 h2 hx
      go_simp
      exact HK2.out _ (HX.out.next (by decide) (Below.refl _ _))
    simp only [Act.put, List.setIfInBounds_toArray, List.set_cons_succ, List.set_cons_zero]
    apply Ghost.walk_const (fun γ => by rfl)
    · intro γ L wx h1 h2 hx K hK
      obtain ⟨c0, c1, c2, c3, c4, c5, c6, c7, c8, c9, c10⟩ := HB1.out wx hx.below
      have HK2 := Lib.hid hK
      have HX := Lib.hid hx
      clear hK h1 h2 hx
      go_simp
      exact HK2.out _ (HX.out.next (by decide) (Below.refl _ _))
    simp only [Act.put, List.setIfInBounds_toArray, List.set_cons_succ, List.set_cons_zero]
    apply Ghost.walk_const (fun γ => by rfl)
    · intro γ L wx h1 h2 hx K hK
      obtain ⟨c0, c1, c2, c3, c4, c5, c6, c7, c8, c9, c10⟩ := HB1.out wx hx.below
      have HK2 := Lib.hid hK
      have HX := Lib.hid hx
      clear hK h1 h2 hx
      go_simp
      go_at_call 32; refine (N1.out _).mono ?_; rintro e w5 ⟨rfl, hb5⟩; exact HK2.out _ (HX.out.next (by decide) hb5)
    simp only [Act.put, List.setIfInBounds_toArray, List.set_cons_succ, List.set_cons_zero]
    apply Ghost.walk_const (fun γ => by rfl)
    · intro γ L wx h1 h2 hx K hK
      obtain ⟨c0, c1, c2, c3, c4, c5, c6, c7, c8, c9, c10⟩ := HB1.out wx hx.below
      have HK2 := Lib.hid hK
      have HX := Lib.hid hx
      clear hK h1 h2 hx
      go_simp
      exact HK2.out _ (HX.out.next (by decide) (Below.refl _ _))
    simp only [Act.put, List.setIfInBounds_toArray, List.set_cons_succ, List.set_cons_zero]
    apply Ghost.walk_const (fun γ => by rfl)
    · intro γ L wx h1 h2 hx K hK
      obtain ⟨c0, c1, c2, c3, c4, c5, c6, c7, c8, c9, c10⟩ := HB1.out wx hx.below
      have HK2 := Lib.hid hK
      have HX := Lib.hid hx
      clear hK h1 h2 hx
      go_simp
      exact HK2.out _ (HX.out.next (by decide) (Below.refl _ _))
    simp only [Act.put, List.setIfInBounds_toArray, List.set_cons_succ, List.set_cons_zero]
    apply Ghost.walk_const (fun γ => by rfl)
    · intro γ L wx h1 h2 hx K hK
      obtain ⟨c0, c1, c2, c3, c4, c5, c6, c7, c8, c9, c10⟩ := HB1.out wx hx.below
      have HK2 := Lib.hid hK
      have HX := Lib.hid hx
      clear hK h1 h2 hx
      go_simp
      exact HK2.out _ (HX.out.next (by decide) (Below.refl _ _))
    simp only [Act.put, List.setIfInBounds_toArray, List.set_cons_succ, List.set_cons_zero]
    apply Ghost.walk_const (fun γ => by rfl)
    · intro γ L wx h1 h2 hx K hK
      obtain ⟨c0, c1, c2, c3, c4, c5, c6, c7, c8, c9, c10⟩ := HB1.out wx hx.below
      have HK2 := Lib.hid hK
      have HX := Lib.hid hx
      clear hK h1 h2 hx
      go_simp
      exact HK2.out _ (HX.out.next (by decide) (Below.refl _ _))
    simp only [Act.put, List.setIfInBounds_toArray, List.set_cons_succ, List.set_cons_zero]
    apply Ghost.walk_const (fun γ => by rfl)
    · intro γ L wx h1 h2 hx K hK
      obtain ⟨c0, c1, c2, c3, c4, c5, c6, c7, c8, c9, c10⟩ := HB1.out wx hx.below
      have HK2 := Lib.hid hK
      have HX := Lib.hid hx
      clear hK h1 h2 hx
      go_simp
      exact HK2.out _ (HX.out.next (by decide) (Below.refl _ _))
    simp only [Act.put, List.setIfInBounds_toArray, List.set_cons_succ, List.set_cons_zero]
    apply Ghost.walk_const (fun γ => by rfl)
    · intro γ L wx h1 h2 hx K hK
      obtain ⟨c0, c1, c2, c3, c4, c5, c6, c7, c8, c9, c10⟩ := HB1.out wx hx.below
      have HK2 := Lib.hid hK
      have HX := Lib.hid hx
      clear hK h1 h2 hx
      go_simp
      exact HK2.out _ (HX.out.next (by decide) (Below.refl _ _))
    simp only [Act.put, List.setIfInBounds_toArray, List.set_cons_succ, List.set_cons_zero]
    apply Ghost.walk_const (fun γ => by rfl)
    · intro γ L wx h1 h2 hx K hK
      obtain ⟨c0, c1, c2, c3, c4, c5, c6, c7, c8, c9, c10⟩ := HB1.out wx hx.below
      have HK2 := Lib.hid hK
      have HX := Lib.hid hx
      clear hK h1 h2 hx
      go_simp
      exact HK2.out _ (HX.out.next (by decide) (Below.refl _ _))
    simp only [Act.put, List.setIfInBounds_toArray, List.set_cons_succ, List.set_cons_zero]
    apply Ghost.walk_const (fun γ => by rfl)
    · intro γ L wx h1 h2 hx K hK
      obtain ⟨c0, c1, c2, c3, c4, c5, c6, c7, c8, c9, c10⟩ := HB1.out wx hx.below
      have HK2 := Lib.hid hK
      have HX := Lib.hid hx
      clear hK h1 h2 hx
      go_simp
      exact HK2.out _ (HX.out.next (by decide) (Below.refl _ _))
    simp only [Act.put, List.setIfInBounds_toArray, List.set_cons_succ, List.set_cons_zero]
    apply Ghost.walk_const (fun γ => by rfl)
    · intro γ L wx h1 h2 hx K hK
      obtain ⟨c0, c1, c2, c3, c4, c5, c6, c7, c8, c9, c10⟩ := HB1.out wx hx.below
      have HK2 := Lib.hid hK
      have HX := Lib.hid hx
      clear hK h1 h2 hx
      go_simp
      exact HK2.out _ (HX.out.next (by decide) (Below.refl _ _))
    simp only [Act.put, List.setIfInBounds_toArray, List.set_cons_succ, List.set_cons_zero]
    apply Ghost.walk_const (fun γ => by rfl)
    · intro γ L wx h1 h2 hx K hK
      obtain ⟨c0, c1, c2, c3, c4, c5, c6, c7, c8, c9, c10⟩ := HB1.out wx hx.below
      have HK2 := Lib.hid hK
      have HX := Lib.hid hx
      clear hK h1 h2 hx
      go_simp
      exact HK2.out _ (HX.out.next (by decide) (Below.refl _ _))
    simp only [Act.put, List.setIfInBounds_toArray, List.set_cons_succ, List.set_cons_zero]
    apply Ghost.walk_const (fun γ => by rfl)
    · intro γ L wx h1 h2 hx K hK
      obtain ⟨c0, c1, c2, c3, c4, c5, c6, c7, c8, c9, c10⟩ := HB1.out wx hx.below
      have HK2 := Lib.hid hK
      have HX := Lib.hid hx
      clear hK h1 h2 hx
      go_simp
      exact HK2.out _ (HX.out.next (by decide) (Below.refl _ _))
    simp only [Act.put, List.setIfInBounds_toArray, List.set_cons_succ, List.set_cons_zero]
    apply Ghost.walk_const (fun γ => by rfl)
    · intro γ L wx h1 h2 hx K hK
      obtain ⟨c0, c1, c2, c3, c4, c5, c6, c7, c8, c9, c10⟩ := HB1.out wx hx.below
      have HK2 := Lib.hid hK
      have HX := Lib.hid hx
      clear hK h1 h2 hx
      go_simp
      exact HK2.out _ (HX.out.next (by decide) (Below.refl _ _))
    simp only [Act.put, List.setIfInBounds_toArray, List.set_cons_succ, List.set_cons_zero]
    apply Ghost.walk_const (fun γ => by rfl)
    · intro γ L wx h1 h2 hx K hK
      obtain ⟨c0, c1, c2, c3, c4, c5, c6, c7, c8, c9, c10⟩ := HB1.out wx hx.below
      have HK2 := Lib.hid hK
      have HX := Lib.hid hx
      clear hK h1 h2 hx
      go_simp
      exact HK2.out _ (HX.out.next (by decide) (Below.refl _ _))
    simp only [Act.put, List.setIfInBounds_toArray, List.set_cons_succ, List.set_cons_zero]
    apply Ghost.walk_const (fun γ => by rfl)
    · intro γ L wx h1 h2 hx K hK
      obtain ⟨c0, c1, c2, c3, c4, c5, c6, c7, c8, c9, c10⟩ := HB1.out wx hx.below
      have HK2 := Lib.hid hK
      have HX := Lib.hid hx
      clear hK h1 h2 hx
      go_simp
      exact HK2.out _ (HX.out.next (by decide) (Below.refl _ _))
    simp only [Act.put, List.setIfInBounds_toArray, List.set_cons_succ, List.set_cons_zero]
    apply Ghost.walk_const (fun γ => by rfl)
    · intro γ L wx h1 h2 hx K hK
      obtain ⟨c0, c1, c2, c3, c4, c5, c6, c7, c8, c9, c10⟩ := HB1.out wx hx.below
      have HK2 := Lib.hid hK
      have HX := Lib.hid hx
      clear hK h1 h2 hx
      go_simp
      exact HK2.out _ (HX.out.next (by decide) (Below.refl _ _))
    simp only [Act.put, List.setIfInBounds_toArray, List.set_cons_succ, List.set_cons_zero]
    apply Ghost.walk_const (fun γ => by rfl)
    · intro γ L wx h1 h2 hx K hK
      obtain ⟨c0, c1, c2, c3, c4, c5, c6, c7, c8, c9, c10⟩ := HB1.out wx hx.below
      have HK2 := Lib.hid hK
      have HX := Lib.hid hx
      clear hK h1 h2 hx
      go_simp
      exact HK2.out _ (HX.out.next (by decide) (Below.refl _ _))
    simp only [Act.put, List.setIfInBounds_toArray, List.set_cons_succ, List.set_cons_zero]
    apply Ghost.walk_const (fun γ => by rfl)
    · intro γ L wx h1 h2 hx K hK
      obtain ⟨c0, c1, c2, c3, c4, c5, c6, c7, c8, c9, c10⟩ := HB1.out wx hx.below
      have HK2 := Lib.hid hK
      have HX := Lib.hid hx
      clear hK h1 h2 hx
      go_simp
      exact HK2.out _ (HX.out.next (by decide) (Below.refl _ _))
    simp only [Act.put, List.setIfInBounds_toArray, List.set_cons_succ, List.set_cons_zero]
    apply Ghost.walk_const (fun γ => by rfl)
    · intro γ L wx h1 h2 hx K hK
      obtain ⟨c0, c1, c2, c3, c4, c5, c6, c7, c8, c9, c10⟩ := HB1.out wx hx.below
      have HK2 := Lib.hid hK
      have HX := Lib.hid hx
      clear hK h1 h2 hx
      go_simp
      exact HK2.out _ (HX.out.next (by decide) (Below.refl _ _))
    simp only [Act.put, List.setIfInBounds_toArray, List.set_cons_succ, List.set_cons_zero]
    apply Ghost.walk_const (fun γ => by rfl)
    · intro γ L wx h1 h2 hx K hK
      obtain ⟨c0, c1, c2, c3, c4, c5, c6, c7, c8, c9, c10⟩ := HB1.out wx hx.below
      have HK2 := Lib.hid hK
      have HX := Lib.hid hx
      clear hK h1 h2 hx
      go_simp
      exact HK2.out _ (HX.out.next (by decide) (Below.refl _ _))
    simp only [Act.put, List.setIfInBounds_toArray, List.set_cons_succ, List.set_cons_zero]
    apply Ghost.walk_yes (fun b => .slice (some ⟨b, 0, none⟩) 6 6) (fun γ => by rfl)
    · intro γ L wx h1 h2 hx K hK
      obtain ⟨c0, c1, c2, c3, c4, c5, c6, c7, c8, c9, c10⟩ := HB1.out wx hx.below
      have HK2 := Lib.hid hK
      have HX := Lib.hid hx
      clear hK h1 h2 hx
      go_simp
      exact HK2.out wx.heap.size _ HX.out.make
    simp only [Act.put, List.setIfInBounds_toArray, List.set_cons_succ, List.set_cons_zero]
    apply Ghost.walk_const (fun γ => by rfl)
    · intro γ L wx h1 h2 hx K hK
      obtain ⟨c0, c1, c2, c3, c4, c5, c6, c7, c8, c9, c10⟩ := HB1.out wx hx.below
      have HR := Lib.hid (hx.row (h2 25 (by kernel_rfl))).2
      have HK2 := Lib.hid hK
      have HX := Lib.hid hx
      clear hK h1 h2 hx
      go_simp
      go_at_call 34; refine (N2.out _ _ (cell_of_row _ _ 0 _ _ (0, 0) HR.out) (cell_of_row _ _ 1 _ _ (0, 0) HR.out) (cell_of_row _ _ 2 _ _ (0, 0) HR.out) (cell_of_row _ _ 3 _ _ (0, 0) HR.out) (cell_of_row _ _ 4 _ _ (0, 0) HR.out) (cell_of_row _ _ 5 _ _ (0, 0) HR.out)).mono ?_; rintro e w5 ⟨rfl, hb5⟩; exact HK2.out _ (HX.out.next (by decide) hb5)
    simp only [Act.put, List.setIfInBounds_toArray, List.set_cons_succ, List.set_cons_zero]
    apply Ghost.walk_const (fun γ => by rfl)
    · intro γ L wx h1 h2 hx K hK
      obtain ⟨c0, c1, c2, c3, c4, c5, c6, c7, c8, c9, c10⟩ := HB1.out wx hx.below
      have HK2 := Lib.hid hK
      have HX := Lib.hid hx
      clear hK h1 h2 hx
      go_simp
      exact HK2.out _ (HX.out.next (by decide) (Below.refl _ _))
    simp only [Act.put, List.setIfInBounds_toArray, List.set_cons_succ, List.set_cons_zero]
    apply Ghost.walk_const (fun γ => by rfl)
    · intro γ L wx h1 h2 hx K hK
      obtain ⟨c0, c1, c2, c3, c4, c5, c6, c7, c8, c9, c10⟩ := HB1.out wx hx.below
      have HK2 := Lib.hid hK
      have HX := Lib.hid hx
      clear hK h1 h2 hx
      go_simp
      exact HK2.out _ (HX.out.next (by decide) (Below.refl _ _))
    simp only [Act.put, List.setIfInBounds_toArray, List.set_cons_succ, List.set_cons_zero]
    refine Ghost.walk_nil (fun γ L w3 hall hx => ?_)
    clear hall
    generalize γ (0 + 1 + 1 + 1 + 1 + 1 + 1 + 1 + 1 + 1 + 1 + 1 + 1 + 1 + 1 + 1 + 1 + 1 + 1 + 1 + 1 + 1 + 1 + 1 + 1 + 1) = gb
    have HX4 := Lib.hid hx.below
    clear hx
    go_wp2_with fail
    have hb64 := float64bits_run c.load
    refine Bag.region (fun wx => Below w3.heap.size w3 wx) (by kernel_rfl) (by kernel_rfl) (Below.refl _ _).drew ?_
    iterate 5
      (apply Bag.walk_yes (by rfl)
       (intro wx hx K hK
        obtain ⟨c0, c1, c2, c3, c4, c5, c6, c7, c8, c9, c10⟩ := HB1.out wx (HX4.out.trans (hx.mono HX4.out.size))
        have HXX := Lib.hid hx
        clear hx
        go_simp
        go_at_K; exact hK _ HXX.out)
       rfl)
    iterate 1
      (apply Bag.walk_yes (by rfl)
       (intro wx hx K hK
        obtain ⟨c0, c1, c2, c3, c4, c5, c6, c7, c8, c9, c10⟩ := HB1.out wx (HX4.out.trans (hx.mono HX4.out.size))
        have HXX := Lib.hid hx
        clear hx
        go_simp
        go_at_call 32; refine (N3.out _).mono ?_; rintro e w5 ⟨rfl, hb5⟩; exact hK _ (HXX.out.trans (hb5.mono HXX.out.size)))
       rfl)
    iterate 5
      (apply Bag.walk_yes (by rfl)
       (intro wx hx K hK
        obtain ⟨c0, c1, c2, c3, c4, c5, c6, c7, c8, c9, c10⟩ := HB1.out wx (HX4.out.trans (hx.mono HX4.out.size))
        have HXX := Lib.hid hx
        clear hx
        go_simp
        go_at_K; exact hK _ HXX.out)
       rfl)
    iterate 1
      (apply Bag.walk_yes (by rfl)
       (intro wx hx K hK
        obtain ⟨c0, c1, c2, c3, c4, c5, c6, c7, c8, c9, c10⟩ := HB1.out wx (HX4.out.trans (hx.mono HX4.out.size))
        have HXX := Lib.hid hx
        clear hx
        go_simp
        go_at_call 32; refine (N4.out _).mono ?_; rintro e w5 ⟨rfl, hb5⟩; exact hK _ (HXX.out.trans (hb5.mono HXX.out.size)))
       rfl)
    iterate 4
      (apply Bag.walk_yes (by rfl)
       (intro wx hx K hK
        obtain ⟨c0, c1, c2, c3, c4, c5, c6, c7, c8, c9, c10⟩ := HB1.out wx (HX4.out.trans (hx.mono HX4.out.size))
        have HXX := Lib.hid hx
        clear hx
        go_simp
        go_at_K; exact hK _ HXX.out)
       rfl)
    iterate 1
      (apply Bag.walk_yes (by rfl)
       (intro wx hx K hK
        obtain ⟨c0, c1, c2, c3, c4, c5, c6, c7, c8, c9, c10⟩ := HB1.out wx (HX4.out.trans (hx.mono HX4.out.size))
        have HXX := Lib.hid hx
        clear hx
        go_simp
        go_at_call 32; refine (N5.out _).mono ?_; rintro e w5 ⟨rfl, hb5⟩; exact hK _ (HXX.out.trans (hb5.mono HXX.out.size)))
       rfl)
    iterate 4
      (apply Bag.walk_yes (by rfl)
       (intro wx hx K hK
        obtain ⟨c0, c1, c2, c3, c4, c5, c6, c7, c8, c9, c10⟩ := HB1.out wx (HX4.out.trans (hx.mono HX4.out.size))
        have HXX := Lib.hid hx
        clear hx
        go_simp
        go_at_K; exact hK _ HXX.out)
       rfl)
    iterate 1
      (apply Bag.walk_yes (by rfl)
       (intro wx hx K hK
        obtain ⟨c0, c1, c2, c3, c4, c5, c6, c7, c8, c9, c10⟩ := HB1.out wx (HX4.out.trans (hx.mono HX4.out.size))
        have HXX := Lib.hid hx
        clear hx
        go_simp
        go_at_call 32; refine (N6.out _).mono ?_; rintro e w5 ⟨rfl, hb5⟩; exact hK _ (HXX.out.trans (hb5.mono HXX.out.size)))
       rfl)
    iterate 2
      (apply Bag.walk_yes (by rfl)
       (intro wx hx K hK
        obtain ⟨c0, c1, c2, c3, c4, c5, c6, c7, c8, c9, c10⟩ := HB1.out wx (HX4.out.trans (hx.mono HX4.out.size))
        have HXX := Lib.hid hx
        clear hx
        go_simp
        go_at_K; exact hK _ HXX.out)
       rfl)
    refine Bag.walk_nil (fun w4 hx => ?_)
    have HX5 := Lib.hid ((HB1B.out.trans (HX4.out.mono (by omega))).trans (hx.mono (by have := HX4.out.size; omega)))
    clear hx
    rw [HCAT.out]
    go_wp2_with fail
    go_roundw
    case rel => exact ⟨m + 1, by omega, by go_num, rfl, HX5.out⟩
    case measure => simp [intOf]; omega
end

section
open Go.RowKit Frm

theorem numL_one (n : Nat) : numL n 1 = [UInt8.ofNat n] := by
  simp only [numL]
  refine congrArg (fun x => [x]) ?_
  apply UInt8.toNat_inj.1
  simp
theorem inText_ref (x : BldD) (y : In) : sealL (inHd x.cars.length y ++ y.cars.flatMap carB) = inText x y := by
  unfold inText
  rw [inN_wr]
  refine congrArg sealL ?_
  unfold inHd inB' headL
  rw [numL_one 165, numL_one x.cars.length]
  simp only [List.append_assoc, List.cons_append, List.nil_append]
/-- The answer of both. -/
def inRes (x : BldD) (y : In) : Value := if isInB x y = true then .tuple #[.string ⟨(inText x y).toArray⟩, .int .i64 0] else .tuple #[.string ⟨#[]⟩, .int .i64 1]
theorem refIn_res (x : BldD) (A : Option Addr) (cap : Nat) (y : In) (A' : Option Addr) (cp : Nat) (w : World) (hxn : x.cars.length ≤ 1000) (hc : CarsAt w w.heap.size A x.cars) (hn : y.cars.length ≤ 1000) (hy : saneIn y) (hv : CarsV w A' y.cars) :
    Calls Try.prog 12 #[x.agg A cap, inAgg y A' cp] w fun e w' => e = .returned (inRes x y) ∧ Below w.heap.size w w' := by
  unfold inRes
  cases hB : isInB x y
  · rw [if_neg Bool.false_ne_true]
    exact refIn_no x A cap y A' cp w (by omega) hc hn hy hv hB
  · rw [if_pos rfl, ← inText_ref]
    exact refIn_good x A cap y A' cp w hxn hc hn hy hv hB
theorem in_res (x : BldD) (A : Option Addr) (cap : Nat) (y : In) (A' : Option Addr) (cp : Nat) (w : World) (hxn : x.cars.length ≤ 1000) (hc : CarsAt w w.heap.size A x.cars) (hn : y.cars.length ≤ 1000) (hy : saneIn y) (hv : CarsV w A' y.cars) :
    Calls Try.prog 11 #[x.agg A cap, inAgg y A' cp] w fun e w' => e = .returned (inRes x y) ∧ Below w.heap.size w w' := by
  refine (in_any x A cap y A' cp w (by omega) hc hn hy hv).mono ?_
  rintro e w' ⟨hb, ⟨hok, he⟩ | ⟨hok, he⟩⟩
  · refine ⟨?_, hb⟩
    unfold inRes
    rw [if_pos ((isIn_iff x y).2 hok)]
    exact he
  · refine ⟨?_, hb⟩
    unfold inRes
    rw [if_neg (fun h => hok ((isIn_iff x y).1 h))]
    exact he
end

section
open Go.RowKit Frm

def fitC (F : Nat) (c : CarIn) : CarIn := { c with floors := c.floors &&& (2 ^ F - 1), calls := c.calls &&& (2 ^ F - 1), floor := ((m64 c.floor % F : Nat) : Int), door := ((m64 c.door % 3 : Nat) : Int) }
def fitCars (F C : Nat) (cs : List CarIn) : List CarIn := (List.range C).map fun i => fitC F (cs.getD i default)
def fitKind (y : In) : Nat := m64 y.kind % 9
def fitCarN (C : Nat) (y : In) : Nat := if fitKind y = 0 then 0 else m64 y.car % C
def fitIn (F C : Nat) (y : In) : In := ⟨y.pu &&& (2 ^ F - 1) &&& (2 ^ (F - 1) - 1), (y.pd &&& (2 ^ F - 1)) &&& 4294967294, (fitKind y : Int), (fitCarN C y : Int), fitCars F C y.cars⟩

theorem mask_down {F : Nat} (h : F ≤ 32) : (2 ^ F - 1) &&& 4294967294 = 2 ^ F - 2 := by
  have := (by decide +kernel : ∀ F : Fin 33, (2 ^ F.val - 1) &&& 4294967294 = 2 ^ F.val - 2) ⟨F, by omega⟩
  exact this
theorem fitIn_ok (F C : Nat) (y : In) (h1 : 2 ≤ F) (h2 : F ≤ 32) (h3 : 1 ≤ C) (h4 : C ≤ 8) : isInB (sampleD (F : Int) C) (fitIn F C y) = true := by
  have hv := sample_valid (F : Int) C (by omega) (by omega) h3 h4
  have hl : (sampleD (F : Int) C).cars.length = C := sampleCars_length _ _
  have hF : (sampleD (F : Int) C).floors.toNat = F := Int.toNat_natCast F
  unfold isInB
  rw [decide_eq_true hv, Bool.true_and, Bool.and_eq_true]
  constructor
  · unfold headIs
    have hu : hallUp (sampleD (F : Int) C) = 2 ^ (F - 1) - 1 := by unfold hallUp; rw [if_pos hv, hF]
    have hd : hallDown (sampleD (F : Int) C) = 2 ^ F - 2 := by unfold hallDown; rw [if_pos hv, hF]
    rw [hu, hd, hl]
    have a1 : setB (fitIn F C y).pu (2 ^ (F - 1) - 1) = true := by
      unfold setB fitIn
      simp only
      rw [Nat.and_assoc, Nat.and_self]
      exact beq_self_eq_true _
    have a2 : setB (fitIn F C y).pd (2 ^ F - 2) = true := by
      unfold setB fitIn
      simp only
      rw [Nat.and_assoc y.pd, mask_down h2, Nat.and_assoc, Nat.and_self]
      exact beq_self_eq_true _
    have a3 : inB 0 8 (fitIn F C y).kind = true := by
      rw [inB_iff]
      show 0 ≤ ((m64 y.kind % 9 : Nat) : Int) ∧ ((m64 y.kind % 9 : Nat) : Int) ≤ 8
      omega
    have a4 : inB 0 ((C : Int) - 1) (fitIn F C y).car = true := by
      rw [inB_iff]
      show 0 ≤ (fitCarN C y : Int) ∧ (fitCarN C y : Int) ≤ (C : Int) - 1
      unfold fitCarN
      have := Nat.mod_lt (m64 y.car) (show C > 0 by omega)
      split <;> omega
    have a5 : (!((fitIn F C y).kind == 0 && (fitIn F C y).car != 0)) = true := by
      show (!(((fitKind y : Nat) : Int) == 0 && ((fitCarN C y : Nat) : Int) != 0)) = true
      unfold fitCarN
      by_cases h : fitKind y = 0
      · rw [if_pos h]; simp
      · rw [if_neg h, beq_eq_false_iff_ne.2 (by omega : ((fitKind y : Nat) : Int) ≠ 0)]; rfl
    have a6 : decide (((fitIn F C y).cars.length : Int) = (C : Int)) = true := decide_eq_true (by
      show (((fitCars F C y.cars).length : Nat) : Int) = C
      unfold fitCars
      rw [List.length_map, List.length_range])
    rw [a1, a2, a3, a4, a5, a6]
    rfl
  · rw [List.all_eq_true]
    intro c hc
    obtain ⟨i, _, rfl⟩ := List.mem_map.1 hc
    have hp : 0 < 2 ^ F := Nat.two_pow_pos F
    have b : ∀ n : Nat, floorsB (sampleD (F : Int) C).floors (n &&& (2 ^ F - 1)) = true := fun n => by
      unfold floorsB
      rw [hF, Nat.and_two_pow_sub_one_eq_mod, Nat.div_eq_of_lt (Nat.mod_lt _ hp)]
      rfl
    unfold carIs
    have b3 : inB 0 ((sampleD (F : Int) C).floors - 1) (fitC F (y.cars.getD i default)).floor = true := by
      rw [inB_iff]
      show 0 ≤ ((m64 (y.cars.getD i default).floor % F : Nat) : Int) ∧ ((m64 (y.cars.getD i default).floor % F : Nat) : Int) ≤ (F : Int) - 1
      have := Nat.mod_lt (m64 (y.cars.getD i default).floor) (show F > 0 by omega)
      omega
    have b4 : inB 0 2 (fitC F (y.cars.getD i default)).door = true := by
      rw [inB_iff]
      show 0 ≤ ((m64 (y.cars.getD i default).door % 3 : Nat) : Int) ∧ ((m64 (y.cars.getD i default).door % 3 : Nat) : Int) ≤ 2
      omega
    have b1 : floorsB (sampleD (F : Int) C).floors (fitC F (y.cars.getD i default)).floors = true := b _
    have b2 : floorsB (sampleD (F : Int) C).floors (fitC F (y.cars.getD i default)).calls = true := b _
    rw [b1, b2, b3, b4]
    rfl
theorem sane_default : saneCar (default : CarIn) := by
  show (0 : Nat) < 4294967296 ∧ (0 : Nat) < 4294967296 ∧ (0 : Nat) < 18446744073709551616 ∧ In64 0 ∧ In64 0
  unfold In64; omega
theorem sane_getD {cs : List CarIn} (h : ∀ c ∈ cs, saneCar c) (i : Nat) : saneCar (cs.getD i default) := by
  rw [List.getD_eq_getElem?_getD]
  rcases Nat.lt_or_ge i cs.length with hi | hi
  · rw [List.getElem?_eq_getElem hi]; exact h _ (List.getElem_mem hi)
  · rw [List.getElem?_eq_none hi]; exact sane_default
theorem fitC_sane {F : Nat} (h1 : 2 ≤ F) (h2 : F ≤ 32) {c : CarIn} (h : saneCar c) : saneCar (fitC F c) := by
  obtain ⟨a, b, d, _, _⟩ := h
  have := Nat.mod_lt (m64 c.floor) (show F > 0 by omega)
  refine ⟨Nat.lt_of_le_of_lt Nat.and_le_left a, Nat.lt_of_le_of_lt Nat.and_le_left b, d, ?_, ?_⟩
  · show In64 ((m64 c.floor % F : Nat) : Int)
    unfold In64; omega
  · show In64 ((m64 c.door % 3 : Nat) : Int)
    unfold In64; omega
theorem fitIn_sane (F C : Nat) (y : In) (hy : saneIn y) (h1 : 2 ≤ F) (h2 : F ≤ 32) (h3 : 1 ≤ C) (h4 : C ≤ 8) : saneIn (fitIn F C y) := by
  obtain ⟨p1, p2, _, _, pc⟩ := hy
  refine ⟨?_, ?_, ?_, ?_, ?_⟩
  · exact Nat.lt_of_le_of_lt Nat.and_le_left (Nat.lt_of_le_of_lt Nat.and_le_left p1)
  · exact Nat.lt_of_le_of_lt Nat.and_le_left (Nat.lt_of_le_of_lt Nat.and_le_left p2)
  · show In64 ((m64 y.kind % 9 : Nat) : Int)
    unfold In64; omega
  · show In64 ((fitCarN C y : Nat) : Int)
    unfold fitCarN In64
    have := Nat.mod_lt (m64 y.car) (show C > 0 by omega)
    split <;> omega
  · intro c hc
    obtain ⟨i, _, rfl⟩ := List.mem_map.1 hc
    exact fitC_sane h1 h2 (sane_getD pc i)
end

section
open Go Go.RowKit Frm

theorem run_copy_wide {P : Program} (w : World) (dT sT ty elem : TypeId) (g o dLen dCap size n : Nat) (a : Addr) (sLen sCap : Nat) (cur : Array Value) (t : TypeId) (cs : List Value)
    (hu : P.underlying dT = some (.slice elem)) (hs : (P.info? elem).map (·.size) = some size)
    (hg : w.heap[g]? = some (.cells cur t (0, 0))) (hn : Nat.min sLen dLen = n) (hcl : cs.length = n * size)
    (hsrc : ∀ j v, cs[j]? = some v → w.cell? (a.add j) = some v) (hfit : o + cs.length ≤ cur.size) (h1 : ∀ v ∈ cs, v.oneCell' = true) :
    (Builtin.copy_ #[dT, sT] ty #[.slice (some ⟨g, o, none⟩) dLen dCap, .slice (some a) sLen sCap]).run P w =
      .ok (goInt n) (w.setRow g (cur.toList.take o ++ cs ++ cur.toList.drop (o + cs.length)).toArray) := by
  have hl := run_loadCells_list (P := P) w a cs hsrc
  have hst := run_storeCells_at P g o t cs 0 cur w hg (by simpa using hfit) h1
  cases hq : P.info? elem with
  | none => simp [hq] at hs
  | some i =>
    have hi : i.size = size := by simpa [hq] using hs
    rw [hcl] at hl
    simp [Builtin.copy_, run_underlying hu, Builtin.lenOf, Builtin.firstCells, sizeOf, typeInfo, hq, hi, hn, hl, hst]
end

section
open Go.RowKit

/-- What lies below block B is as in W1; block b holds this row. -/
structure Lit (B : Nat) (W1 : World) (b : Nat) (row : Obj) (wx : World) : Prop where
  below : Below B W1 wx
  size : B ≤ wx.heap.size
  row : wx.heap[b]? = some row
namespace Lit
variable {B b : Nat} {W1 wx x1 : World} {row : Obj}
theorem lt (h : Lit B W1 b row wx) : b < wx.heap.size := by
  rcases Nat.lt_or_ge b wx.heap.size with h1 | h1
  · exact h1
  · have := h.row; rw [Array.getElem?_eq_none h1] at this; cases this
theorem next (h : Lit B W1 b row wx) (hb : Below wx.heap.size wx x1) : Lit B W1 b row x1 :=
  ⟨h.below.trans (hb.mono h.size), Nat.le_trans h.size hb.size, (hb.block b h.lt).trans h.row⟩
theorem two (w : World) (o1 o2 : Obj) (n : Nat) : Lit (w.heap.size + 1) (w.alloc o1) (w.heap.size + 1) o2 { ((w.alloc o1).alloc o2) with drawn := n } := by
  refine ⟨?_, by simp, ?_⟩
  · have h := (Below.refl (w.heap.size + 1) (w.alloc o1)).alloc (by simp) o2
    exact ⟨h.os, h.tape, h.output, h.size, h.block⟩
  · have := heap_alloc_new (w.alloc o1) o2
    simpa using this
theorem one (w : World) (o : Obj) : Lit w.heap.size w w.heap.size o (w.alloc o) := ⟨(Below.refl _ _).alloc (Nat.le_refl _) o, by simp, heap_alloc_new w o⟩
theorem two' (w : World) (o1 o2 : Obj) : Lit (w.heap.size + 1) (w.alloc o1) (w.heap.size + 1) o2 ((w.alloc o1).alloc o2) := two w o1 o2 ((w.alloc o1).alloc o2).drawn
theorem cell {cs : Array Value} {t : TypeId} (h : Lit B W1 b (.cells cs t (0, 0)) wx) (i : Nat) : wx.cell? ⟨b, i, none⟩ = cs[i]? := cell_of_row _ _ _ _ _ (0, 0) h.row
theorem free {cs : Array Value} {t : TypeId} (h : Lit B W1 b (.cells cs t (0, 0)) wx) (i : Nat) : wx.frozen? ⟨b, i, none⟩ = false := frozen_of_row _ _ _ _ _ h.row
theorem store {P : Program} {op : Oper} {a : Act} {K : Act → World → Prop} {Q : Exit → Act → World → Prop} {cells old : Array Value} {t : TypeId} (ty : TypeId) (x y : Operand) (ho : op.op = .store ty x y)
    (hx : a.eval x = .pointer (some ⟨b, 0, none⟩)) (hy : a.eval y = .agg cells) (h : Lit B W1 b (.cells old t (0, 0)) wx) (hb : B ≤ b)
    (hi : (P.info? ty).map (·.size) = some cells.size) (hsz : old.size = cells.size) (h1 : cells.all (·.oneCell') = true)
    (hk : ∀ w', Lit B W1 b (.cells cells t (0, 0)) w' → K (a.put op.dst undef) w') : op.wp P a wx K Q := by
  unfold Oper.wp execOp
  simp only [ho, hx, hy, Instr.storeAt, Instr.sureAddr, Sem.run_bind, Sem.run_pure, Result.andThen_ok, run_storeVar_row wx b t ty old cells h.row hi hsz h1]
  refine hk _ ⟨⟨h.below.os, h.below.tape, h.below.output, by rw [size_setRow]; exact h.below.size, fun k hk => (setRow_other wx b k cells (by omega)).trans (h.below.block k hk)⟩, by rw [size_setRow]; exact h.size, setRow_heap wx b _ cells _ _ h.row⟩
theorem put {cs : Array Value} {t : TypeId} (h : Lit B W1 b (.cells cs t (0, 0)) wx) (hb : B ≤ b) (i : Nat) (v : Value) : Lit B W1 b (.cells (cs.setIfInBounds i v) t (0, 0)) (wx.setCell ⟨b, i, none⟩ v) := by
  refine ⟨h.below.setCell hb v, by rw [Go.Deep.nblk_setCell]; exact h.size, ?_⟩
  simp [World.setCell, Array.getElem?_modify, h.row]
theorem alloc (h : Lit B W1 b row wx) (o : Obj) : Lit B W1 b row (wx.alloc o) := h.next ((Below.refl _ _).alloc (Nat.le_refl _) o)
/-- Behind a whole store of three cells into b. -/
theorem put3 {cs : Array Value} {t : TypeId} (h : Lit B W1 b (.cells cs t (0, 0)) wx) (hb : B ≤ b) (hs : cs.size = 3) (v0 v1 v2 : Value) :
    Lit B W1 b (.cells #[v0, v1, v2] t (0, 0)) (((wx.setCell ⟨b, 0, none⟩ v0).setCell ⟨b, 1, none⟩ v1).setCell ⟨b, 2, none⟩ v2) := by
  have g := ((h.put hb 0 v0).put hb 1 v1).put hb 2 v2
  obtain ⟨l⟩ := cs
  match l, hs with
  | [a, b, c], _ => exact g
theorem put2 {cs : Array Value} {t : TypeId} (h : Lit B W1 b (.cells cs t (0, 0)) wx) (hb : B ≤ b) (hs : cs.size = 2) (v0 v1 : Value) :
    Lit B W1 b (.cells #[v0, v1] t (0, 0)) ((wx.setCell ⟨b, 0, none⟩ v0).setCell ⟨b, 1, none⟩ v1) := by
  have g := (h.put hb 0 v0).put hb 1 v1
  obtain ⟨l⟩ := cs
  match l, hs with
  | [a, b], _ => exact g
end Lit
end

section
open Go.RowKit
namespace Lit
variable {B b : Nat} {W1 wx : World} {row : Obj}
theorem putOther (h : Lit B W1 b row wx) {b' : Nat} (hb : B ≤ b') (hne : b ≠ b') (i : Nat) (v : Value) : Lit B W1 b row (wx.setCell ⟨b', i, none⟩ v) :=
  ⟨h.below.setCell hb v, by rw [Go.Deep.nblk_setCell]; exact h.size, (Go.Deep.blk_setCell_other _ _ _ _ hne).trans h.row⟩
end Lit
end

section
open Go Go.RowKit Frm

def padCars (C : Nat) (cs : List CarIn) : List CarIn := (List.range C).map fun i => cs.getD i default
theorem padCars_length (C : Nat) (cs : List CarIn) : (padCars C cs).length = C := by unfold padCars; rw [List.length_map, List.length_range]
theorem fitCars_pad (F C : Nat) (cs : List CarIn) : fitCars F C cs = (padCars C cs).map (fitC F) := by
  unfold fitCars padCars
  rw [List.map_map]; rfl
theorem make_carins (n : Nat) (hn : n ≤ 1000) : ∀ w : World, (Instr.makeSlice 31 (.int .i64 n) (.int .i64 n)).run Try.prog w = .ok (.slice (some ⟨w.heap.size, 0, none⟩) n n) (w.alloc (.cells (flatIn (List.replicate n default)).toArray 71)) := by
  intro w
  have := run_make (P := Try.prog) w 31 71 Try.t71 (.agg (carV default).toArray) Try.underlying31 (by kernel_rfl) (by kernel_rfl) .i64 .i64 n n (by omega) (Int.le_refl _) (by show ((56 : Nat) : Int) * (n : Int) ≤ _; omega) (by omega)
  rw [this, Int.toNat_natCast]
  have e : madeCells (Value.agg (carV default).toArray).cells (n * (Try.t71).size) = (flatIn (List.replicate n default)).toArray := by
    apply Array.ext
    · rw [size_madeCells, List.size_toArray, flatIn_length, List.length_replicate]; rfl
    · intro i h1 h2
      rw [size_madeCells] at h1
      have h1' : i < n * 11 := h1
      have h3 := flatIn_at (List.replicate n default) (i / 11) (by rw [List.length_replicate]; omega) (i % 11) (Nat.mod_lt _ (by decide))
      rw [show i / 11 * 11 + i % 11 = i from by omega, List.getElem_replicate] at h3
      have h4 : (madeCells (Value.agg (carV default).toArray).cells (n * (Try.t71).size))[i]? = (carV default)[i % 11]? := by
        have h5 : i % 11 = 0 ∨ i % 11 = 1 ∨ i % 11 = 2 ∨ i % 11 = 3 ∨ i % 11 = 4 ∨ i % 11 = 5 ∨ i % 11 = 6 ∨ i % 11 = 7 ∨ i % 11 = 8 ∨ i % 11 = 9 ∨ i % 11 = 10 := by omega
        rw [Array.getElem?_eq_getElem (by rw [size_madeCells]; exact h1)]
        simp only [madeCells, Array.getElem_map, Array.getElem_range]
        show some ((carV default).toArray[i % 11]!) = _
        rcases h5 with h | h | h | h | h | h | h | h | h | h | h <;> rw [h] <;> rfl
      rw [← h3, Array.getElem?_eq_getElem (by rw [size_madeCells]; exact h1), ← List.getElem?_toArray, Array.getElem?_eq_getElem h2] at h4
      exact Option.some.inj h4
  rw [e]
theorem flatIn_append (l m : List CarIn) : flatIn (l ++ m) = flatIn l ++ flatIn m := by unfold flatIn; rw [List.flatMap_append]
theorem flatIn_drop (l : List CarIn) (k : Nat) : (flatIn l).drop (k * 11) = flatIn (l.drop k) := by
  rcases Nat.lt_or_ge k l.length with h | h
  · conv => lhs; rw [← List.take_append_drop k l]
    rw [flatIn_append, List.drop_append_of_le_length (by rw [flatIn_length, List.length_take]; omega), List.drop_eq_nil_of_le (by rw [flatIn_length, List.length_take]; omega), List.nil_append]
  · rw [List.drop_eq_nil_of_le h, List.drop_eq_nil_of_le (by rw [flatIn_length]; omega)]; rfl
theorem pad_split (C : Nat) (cs : List CarIn) : padCars C cs = cs.take (min cs.length C) ++ (List.replicate C default).drop (min cs.length C) := by
  apply List.ext_getElem?
  intro i
  unfold padCars
  rw [List.getElem?_map]
  rcases Nat.lt_or_ge i C with h | h
  · rw [List.getElem?_range h]
    simp only [Option.map_some]
    rcases Nat.lt_or_ge i (min cs.length C) with h2 | h2
    · rw [List.getElem?_append_left (by rw [List.length_take]; omega), List.getElem?_take, if_pos h2, List.getD_eq_getElem?_getD, List.getElem?_eq_getElem (by omega : i < cs.length)]; rfl
    · rw [List.getElem?_append_right (by rw [List.length_take]; omega), List.length_take, List.getElem?_drop, List.getD_eq_getElem?_getD, List.getElem?_eq_none (by omega : cs.length ≤ i), List.getElem?_replicate, if_pos (by omega)]; rfl
  · rw [List.getElem?_eq_none (by rw [List.length_range]; omega), List.getElem?_eq_none (by rw [List.length_append, List.length_take, List.length_drop, List.length_replicate]; omega)]; rfl
theorem flatIn_pad (C : Nat) (cs : List CarIn) : flatIn (cs.take (min cs.length C)) ++ (flatIn (List.replicate C default)).drop ((min cs.length C) * 11) = flatIn (padCars C cs) := by
  rw [flatIn_drop, ← flatIn_append, ← pad_split]
/-- A car of the row is changed: four cells. -/
theorem set_car (l : List CarIn) (k : Nat) (h : k < l.length) (a d : Nat) (b c : Int) :
    ((((flatIn l).toArray.setIfInBounds (k * 11) (.int .u32 a)).setIfInBounds (k * 11 + 9) (.int .u32 d)).setIfInBounds (k * 11 + 5) (.int .i64 b)).setIfInBounds (k * 11 + 7) (.int .i64 c) = (flatIn (l.set k { l[k] with floors := a, floor := b, door := c, calls := d })).toArray := by
  have e : l = l.take k ++ l[k] :: l.drop (k + 1) := by rw [List.getElem_cons_drop, List.take_append_drop]
  have hl : (flatIn (l.take k)).length = k * 11 := by rw [flatIn_length, List.length_take, Nat.min_eq_left (by omega)]
  have e1 : flatIn l = flatIn (l.take k) ++ (carV l[k] ++ flatIn (l.drop (k + 1))) := by
    conv => lhs; rw [e]
    rw [flatIn_append]; rfl
  have e2 : l.set k { l[k] with floors := a, floor := b, door := c, calls := d } = l.take k ++ { l[k] with floors := a, floor := b, door := c, calls := d } :: l.drop (k + 1) := List.set_eq_take_append_cons_drop .. |>.trans (if_pos h)
  rw [e2, flatIn_append, e1]
  simp only [List.setIfInBounds_toArray]
  refine congrArg List.toArray ?_
  rw [List.set_append_right _ _ (by omega), List.set_append_right _ _ (by omega), List.set_append_right _ _ (by omega), List.set_append_right _ _ (by omega)]
  refine congrArg (fun x => flatIn (l.take k) ++ x) ?_
  rw [hl]
  simp only [Nat.sub_self, Nat.add_sub_cancel_left]
  rfl
end

section
open Go Go.RowKit Frm

theorem copy_cars (W : World) (A' : Option Addr) (cp : Nat) (ys : List CarIn) (hv : CarsV W A' ys) (C : Nat) : ∃ W' k,
    (Builtin.copy_ #[31, 31] 3 #[.slice (some ⟨W.heap.size, 0, none⟩) C C, .slice A' ys.length cp]).run Try.prog (W.alloc (.cells (flatIn (List.replicate C default)).toArray 71)) = .ok k W' ∧
      W'.heap[W.heap.size]? = some (.cells (flatIn (padCars C ys)).toArray 71 (0, 0)) ∧ Below W.heap.size W W' ∧ W'.heap.size = W.heap.size + 1 := by
  have hg := heap_alloc_new W (.cells (flatIn (List.replicate C default)).toArray 71)
  have hb0 : Below W.heap.size W (W.alloc (.cells (flatIn (List.replicate C default)).toArray 71)) := (Below.refl _ _).alloc (Nat.le_refl _) _
  have hs : (Try.prog.info? 71).map (·.size) = some 11 := by
    obtain ⟨i, hi, hz, hsize, hby⟩ := info_parts carInInfo
    rw [hi]; simp [hsize]
  have hpad0 : padCars C [] = List.replicate C default := by
    apply List.ext_getElem?
    intro i
    unfold padCars
    rw [List.getElem?_map]
    rcases Nat.lt_or_ge i C with h | h
    · rw [List.getElem?_range h, List.getElem?_replicate, if_pos h]; rfl
    · rw [List.getElem?_eq_none (by rw [List.length_range]; omega), List.getElem?_eq_none (by rw [List.length_replicate]; omega)]; rfl
  rcases hv with rfl | ⟨b, off, rfl, hc⟩
  · rw [hpad0]
    cases A' with
    | none =>
      obtain ⟨i, hi, hz, hsize, hby⟩ := info_parts carInInfo
      refine ⟨_, goInt 0, ?_, hg, hb0, by simp⟩
      simp [Builtin.copy_, run_underlying Try.underlying31, Builtin.lenOf, Builtin.firstCells, sizeOf, typeInfo, hi, storeCells]
    | some a =>
      have hr := run_copy_wide (P := Try.prog) (W.alloc (.cells (flatIn (List.replicate C default)).toArray 71)) 31 31 3 71 W.heap.size 0 C C 11 0 a 0 cp (flatIn (List.replicate C default)).toArray 71 [] Try.underlying31 hs hg (Nat.zero_min C) rfl (fun j v h => by simp at h) (by simp) (fun v h => by simp at h)
      refine ⟨_, _, hr, ?_, ⟨hb0.os, hb0.tape, hb0.output, by rw [size_setRow]; exact hb0.size, fun k hk => (setRow_other _ _ k _ (by omega)).trans (hb0.block k hk)⟩, by rw [size_setRow]; simp⟩
      rw [setRow_heap _ _ _ _ _ _ hg]
      simp
  · have hmin : (min ys.length C) * 11 ≤ C * 11 := Nat.mul_le_mul_right _ (Nat.min_le_right _ _)
    have hfl : (flatIn (ys.take (min ys.length C))).length = (min ys.length C) * 11 := by rw [flatIn_length, List.length_take, Nat.min_eq_left (Nat.min_le_left _ _)]
    have hr := run_copy_wide (P := Try.prog) (W.alloc (.cells (flatIn (List.replicate C default)).toArray 71)) 31 31 3 71 W.heap.size 0 C C 11 (min ys.length C) ⟨b, off, none⟩ ys.length cp (flatIn (List.replicate C default)).toArray 71 (flatIn (ys.take (min ys.length C))) Try.underlying31 hs hg rfl hfl (fun j v h => by
      have h2 : (flatIn ys)[j]? = some v := by
        have hlt := (List.getElem?_eq_some_iff.1 h).1
        conv => lhs; rw [← List.take_append_drop (min ys.length C) ys, flatIn_append]
        rw [List.getElem?_append_left hlt]; exact h
      have h3 := CarsV.flat hc j v h2
      exact (World.cell?_of_block (w := W) (Below.heap_alloc W _ _ (World.block_lt_of_cell? W _ h3))).trans h3) (by rw [hfl, List.size_toArray, flatIn_length, List.length_replicate]; omega) (flatIn_one _)
    refine ⟨_, _, hr, ?_, ⟨hb0.os, hb0.tape, hb0.output, by rw [size_setRow]; exact hb0.size, fun k hk => (setRow_other _ _ k _ (by omega)).trans (hb0.block k hk)⟩, by rw [size_setRow]; simp⟩
    rw [setRow_heap _ _ _ _ _ _ hg, List.take_zero, List.nil_append, Nat.zero_add, hfl, flatIn_pad]
end

section
open Go Go.RowKit Frm

def fitTo (F k : Nat) (l : List CarIn) : List CarIn := (l.take k).map (fitC F) ++ l.drop k
theorem fitTo_zero (F : Nat) (l : List CarIn) : fitTo F 0 l = l := rfl
theorem fitTo_length (F k : Nat) (l : List CarIn) : (fitTo F k l).length = l.length := by
  unfold fitTo
  rw [List.length_append, List.length_map, List.length_take, List.length_drop]; omega
theorem fitTo_all (F : Nat) (l : List CarIn) : fitTo F l.length l = l.map (fitC F) := by
  unfold fitTo
  rw [List.take_length, List.drop_length, List.append_nil]
theorem fitTo_get (F k : Nat) (l : List CarIn) (h : k < l.length) : (fitTo F k l)[k]'(by rw [fitTo_length]; exact h) = l[k] := by
  have : (fitTo F k l)[k]? = l[k]? := by
    unfold fitTo
    rw [List.getElem?_append_right (by rw [List.length_map, List.length_take]; omega), List.length_map, List.length_take, List.getElem?_drop]
    congr 1; omega
  rw [List.getElem?_eq_getElem h, List.getElem?_eq_getElem (by rw [fitTo_length]; exact h)] at this
  exact Option.some.inj this
theorem fitTo_succ (F k : Nat) (l : List CarIn) (h : k < l.length) : (fitTo F k l).set k (fitC F l[k]) = fitTo F (k + 1) l := by
  unfold fitTo
  have hl : ((l.take k).map (fitC F)).length = k := by rw [List.length_map, List.length_take]; omega
  rw [List.set_append_right _ _ (by omega), hl, Nat.sub_self, List.drop_eq_getElem_cons h, List.set_cons_zero, List.take_succ_eq_append_getElem h, List.map_append, List.append_assoc]
  rfl
theorem pad_sane {C : Nat} {ys : List CarIn} (h : ∀ c ∈ ys, saneCar c) : ∀ c ∈ padCars C ys, saneCar c := fun c hc => by
  obtain ⟨i, _, rfl⟩ := List.mem_map.1 hc
  exact sane_getD h i
/-- The cells of car k. -/
theorem row_car {B b : Nat} {W1 wx : World} {t : TypeId} {l : List CarIn} (h : Lit B W1 b (.cells (flatIn l).toArray t (0, 0)) wx) {k : Nat} (hk : k < l.length) {j : Nat} (hj : j < 11) : wx.cell? ⟨b, k * 11 + j, none⟩ = (carV l[k])[j]? := by
  rw [h.cell, List.getElem?_toArray, flatIn_at l k hk j hj]
end
end Go.Proofs.Ytcggngggkngbjaa
