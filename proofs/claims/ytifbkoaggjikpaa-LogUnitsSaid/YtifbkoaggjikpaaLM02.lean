/- What the texts behind this one rest on: several texts in one. No statement of the seat is proved here. -/
import Derived.Test.YtifbkoaggjikpaaLM00
import Derived.ChangeMaps5
import Derived.Deep.Slices
import Derived.ChangeSame
import Derived.ChangeOld
import Derived.Test.YtifbkoaggjikpaaLM01
import Derived.Deep.MidRow
import Derived.Deep.Heap
import Derived.Deep.AppendLies
import Derived.Laws.OwnMore
namespace Go.Proofs.Ytifbkoaggjikpaa
section
open Go.RowKit Go.ChangeShapes Go.WideShapes Go.Deep

set_option maxRecDepth 100000

theorem laidOut : laidOutB Try.prog = true := by kernel_rfl
theorem own : ownKnob Try.prog.godebug = none := by kernel_rfl
theorem u8_nat {x : Int} (h : (Lit.int .u8 x).wf = true) : ∃ n : Nat, x = (n : Int) ∧ n < 256 := by
  simp [Lit.wf, IntKind.min, IntKind.max, IntKind.bits, IntKind.signed] at h
  exact ⟨x.toNat, by omega, by omega⟩
theorem list_ofCt {α : Type} (P : Nat → α → Prop) : ∀ n : Nat, (∀ i, i < n → ∃ c, P i c) → ∃ l : List α, l.length = n ∧ ∀ i (h : i < l.length), P i l[i]
  | 0, _ => ⟨[], rfl, fun i hi => absurd hi (by simp)⟩
  | n + 1, h => by
    obtain ⟨l, hl, hp⟩ := list_ofCt P n (fun i hi => h i (by omega))
    obtain ⟨c, hc⟩ := h n (by omega)
    refine ⟨l ++ [c], by simp [hl], fun i hi => ?_⟩
    rcases Nat.lt_or_ge i l.length with hlt | hge
    · rw [List.getElem_append_left hlt]; exact hp i hlt
    · have : i = n := by simp at hi; omega
      subst this
      rw [List.getElem_append_right hge]
      simpa [hl] using hc

section
variable {H : Type} {enc : TypeId × Value → H} {w : World} {base : Nat} {spare : Nat → Bool} {held : Bool}
theorem trod_ints {P : Program} {fuel n : Nat} {t e : TypeId} {k : IntKind} {cs : List Value} {x : DataW H × List MemPlace} (ht : P.underlying t = some (.array n e)) (he : P.underlying e = some (.int k)) (hc : P.cellsOf e = 1) (hct : P.cellsOf t = n)
    (h : DataW.trod enc P w base spare held fuel t cs = some x) : ∃ ys : List Int, ys.length = n ∧ cs = (ys.map fun y => (Value.int k y)) ∧ x.1 = .agg (ys.map fun y => (DataW.lit (.int k y))) ∧ ∀ y ∈ ys, (Lit.int k y).wf = true := by
  obtain ⟨xs, m, _, hx, hlen, hxl, hg⟩ := DataW.trod_array ht h
  rw [hct] at hlen
  have hone : ∀ i, i < n → ∃ y : Int, cs[i]? = some (.int k y) ∧ (xs[i]?).map (·.1) = some (.lit (.int k y)) ∧ (Lit.int k y).wf = true := fun i hi => by
    have h1 := (hg i hi).trans (List.getElem?_eq_getElem (by omega : i < xs.length))
    rw [hc, Nat.mul_one, List.drop_eq_getElem_cons (by omega : i < cs.length)] at h1
    have h2 : DataW.trod enc P w base spare held m e [cs[i]'(by omega)] = some (xs[i]'(by omega)) := h1
    obtain ⟨y, hy, hd, hw⟩ := DataW.trod_int he h2
    simp only [List.cons.injEq, and_true] at hy
    exact ⟨y, by rw [List.getElem?_eq_getElem (by omega : i < cs.length), hy], by rw [List.getElem?_eq_getElem (by omega : i < xs.length), hd]; rfl, hw⟩
  obtain ⟨l, hl, hp⟩ := list_ofCt (fun i (y : Int) => cs[i]? = some (.int k y) ∧ (xs[i]?).map (·.1) = some (.lit (.int k y)) ∧ (Lit.int k y).wf = true) n hone
  refine ⟨l, hl, ?_, ?_, ?_⟩
  · apply List.ext_getElem?
    intro i
    rcases Nat.lt_or_ge i n with h | h
    · rw [(hp i (by omega)).1, List.getElem?_map, List.getElem?_eq_getElem (by omega : i < l.length)]; rfl
    · rw [List.getElem?_eq_none (by omega), List.getElem?_eq_none (by rw [List.length_map]; omega)]
  · rw [hx]
    refine congrArg DataW.agg ?_
    apply List.ext_getElem?
    intro i
    rw [List.getElem?_map, List.getElem?_map]
    rcases Nat.lt_or_ge i n with h | h
    · rw [(hp i (by omega)).2.1, List.getElem?_eq_getElem (by omega : i < l.length)]; rfl
    · rw [List.getElem?_eq_none (by omega : xs.length ≤ i), List.getElem?_eq_none (by omega : l.length ≤ i)]; rfl
  · intro y hy
    obtain ⟨i, hi, rfl⟩ := List.getElem_of_mem hy
    exact (hp i hi).2.2

/-- Values at an address, and as a slice. -/
def VAt (w : World) (A : Option Addr) (vs : List Value) : Prop := vs = [] ∨ ∃ b off, A = some ⟨b, off, none⟩ ∧ b < w.heap.size ∧ ∀ j, j < vs.length → w.cell? ⟨b, off + j, none⟩ = vs[j]?
def VV (w : World) (v : Value) (vs : List Value) : Prop := ∃ A cap, v = .slice A vs.length cap ∧ VAt w A vs
theorem VAt.below {w w' : World} {A : Option Addr} {l : List Value} (h : VAt w A l) (hb : RowKit.Below w.heap.size w w') : VAt w' A l := by
  rcases h with h | ⟨b, off, hA, hlt, hr⟩
  · exact .inl h
  · exact .inr ⟨b, off, hA, Nat.lt_of_lt_of_le hlt hb.size, fun j hj => (hb.cell (p := ⟨b, _, none⟩) hlt).trans (hr j hj)⟩
theorem VV.below {w w' : World} {v : Value} {l : List Value} (h : VV w v l) (hb : RowKit.Below w.heap.size w w') : VV w' v l := by
  obtain ⟨A, cap, hv, hA⟩ := h
  exact ⟨A, cap, hv, hA.below hb⟩
theorem VAt.at_ {w : World} {A : Option Addr} {vs : List Value} (h : VAt w A vs) {k : Nat} (hk : k < vs.length) : ∃ b off, A = some ⟨b, off, none⟩ ∧ b < w.heap.size ∧ w.cell? ⟨b, off + k, none⟩ = some vs[k] := by
  rcases h with h | ⟨b, off, hA, hlt, hr⟩
  · subst h; simp at hk
  · exact ⟨b, off, hA, hlt, (hr k hk).trans (List.getElem?_eq_getElem hk)⟩
theorem open_vv {T e : TypeId} {fuel : Nat} {v : Value} {x : DataW H × List MemPlace} (Pd : Value → Prop) (ht : Try.prog.underlying T = some (.slice e)) (hC : Try.prog.cellsOf e = 1)
    (hone : ∀ (m : Nat) (cs : List Value) (y : DataW H × List MemPlace), DataW.trod enc Try.prog w base spare held m e cs = some y → ∃ u, cs = [u] ∧ Pd u)
    (h : DataW.trod enc Try.prog w base spare held fuel T [v] = some x) : ∃ l : List Value, VV w v l ∧ (∀ u ∈ l, Pd u) ∧ l.length ≤ maxLen := by
  rcases open_slice ht h with ⟨hcs, _⟩ | ⟨a, len, cap, m, n, D, Pl, hcs, _, hl, hm, hmm, _, hi⟩
  · simp only [List.cons.injEq, and_true] at hcs
    exact ⟨[], ⟨none, 0, hcs, .inl rfl⟩, by simp, by simp [maxLen]⟩
  · simp only [List.cons.injEq, and_true] at hcs
    subst hcs
    have hml : len ≤ m := by rw [hmm]; split <;> omega
    obtain ⟨l, hll, hp⟩ := list_ofCt (fun i (c : Value) => Pd c ∧ w.cell? (a.add i) = some c) len (fun i hil => by
      obtain ⟨cs', hc, ht⟩ := hi i (by omega)
      rw [hC] at hc
      obtain ⟨_, hcl, hat⟩ := World.cells?_some hc
      obtain ⟨c, hcc, hpc⟩ := hone _ _ _ ht
      refine ⟨c, hpc, ?_⟩
      have := hat 0 (by omega)
      rw [hcc, Go.Deep.add_add, Nat.mul_one, Nat.add_zero] at this
      exact this)
    refine ⟨l, ⟨some a, cap, by rw [hll], ?_⟩, fun u hu => ?_, by omega⟩
    · rcases Nat.eq_zero_or_pos len with h0 | h0
      · exact .inl (List.eq_nil_of_length_eq_zero (by omega))
      · obtain ⟨b, off, spot⟩ := a
        have hfirst := (hp 0 (by omega)).2
        have hsp : spot = none := by
          cases spot with
          | none => rfl
          | some s =>
            simp only [Addr.add, if_true] at hfirst
            unfold World.cell? at hfirst
            split at hfirst <;> simp at hfirst
        subst hsp
        refine .inr ⟨b, off, rfl, ?_, fun j hj => ?_⟩
        · have := World.block_lt_of_cell? w _ hfirst
          simpa [Addr.add] using this
        · have := (hp j hj).2
          have hadd : (⟨b, off, none⟩ : Addr).add j = ⟨b, off + j, none⟩ := by unfold Addr.add; split <;> simp_all
          rw [← hadd, this, List.getElem?_eq_getElem hj]
    · obtain ⟨i, hi', rfl⟩ := List.getElem_of_mem hu
      exact (hp i hi').1
def u8s (l : List Nat) : List Value := l.map fun z : Nat => .int .u8 z
theorem u8s_len (l : List Nat) : (u8s l).length = l.length := by simp [u8s]
theorem list_back {α : Type} (f : α → Value) (Q : α → Prop) : ∀ vs : List Value, (∀ u ∈ vs, ∃ a, u = f a ∧ Q a) → ∃ l : List α, vs = l.map f ∧ ∀ a ∈ l, Q a
  | [], _ => ⟨[], rfl, by simp⟩
  | v :: vs, h => by
    obtain ⟨a, ha, hq⟩ := h v (by simp)
    obtain ⟨l, hl, hQ⟩ := list_back f Q vs (fun u hu => h u (List.mem_cons_of_mem _ hu))
    refine ⟨a :: l, by rw [hl, ha]; rfl, fun b hb => ?_⟩
    rcases List.mem_cons.1 hb with rfl | hb
    · exact hq
    · exact hQ b hb
theorem open_u8s {fuel : Nat} {v : Value} {x : DataW H × List MemPlace} (h : DataW.trod enc Try.prog w base spare held fuel 22 [v] = some x) : ∃ l : List Nat, VV w v (u8s l) ∧ (∀ s ∈ l, s < 256) ∧ l.length ≤ maxLen := by
  obtain ⟨vs, hv, hp, hl⟩ := open_vv (fun u => ∃ s : Nat, u = .int .u8 s ∧ s < 256) Try.underlying22 (by kernel_rfl)
    (fun m cs y hy => by
      obtain ⟨s, hs, -, hz⟩ := DataW.trod_int Try.underlying5 hy
      obtain ⟨n, hn, h2⟩ := u8_nat hz
      exact ⟨_, hs, n, by rw [hn], h2⟩) h
  obtain ⟨l, rfl, hq⟩ := list_back (fun s : Nat => .int .u8 s) (fun s => s < 256) vs hp
  exact ⟨l, hv, hq, by simpa using hl⟩
theorem agg_of {T e : TypeId} {n : Nat} {r : Reach} {b0 : Nat} {v : Value} (ht : Try.prog.underlying T = some (.array n e)) (hv : Value.okWide Try.prog w r b0 T v) : ∃ cs, v = .agg cs ∧ cs.size = Try.prog.cellsOf T := by
  simp only [Value.okWide, ht] at hv
  obtain ⟨cs, h1, h2, _⟩ := hv
  exact ⟨cs, h1, h2⟩
theorem open_au8_3 {r : Reach} {b0 : Nat} {v : Value} {d : DataW H} {p : List MemPlace} (hv : Value.okWide Try.prog w r b0 54 v) (h : DataW.Trod enc Try.prog w base spare held 54 v d p) :
    ∃ x y z : Nat, v = .agg #[.int .u8 x, .int .u8 y, .int .u8 z] ∧ x < 256 ∧ y < 256 ∧ z < 256 := by
  obtain ⟨⟨l⟩, rfl, hsz⟩ := agg_of Try.underlying54 hv
  obtain ⟨fuel, hf⟩ := h
  obtain ⟨ys, hl, hcs, _, hw⟩ := trod_ints Try.underlying54 Try.underlying5 (by kernel_rfl) (by kernel_rfl) hf
  match ys, hl with
  | [x, y, z], _ =>
    obtain ⟨m, rfl, hm⟩ := u8_nat (hw x (by simp))
    obtain ⟨n, rfl, hn⟩ := u8_nat (hw y (by simp))
    obtain ⟨k, rfl, hk⟩ := u8_nat (hw z (by simp))
    refine ⟨m, n, k, ?_, hm, hn, hk⟩
    have : l = [.int .u8 m, .int .u8 n, .int .u8 k] := by simpa [Value.cells] using hcs
    rw [this]
end
end

section
namespace Chain
open Go Go.Proofs.Ytifbkoaggjikpaa.Bag

section
variable {P : Program} {ops : Array Oper} {I : Nat → World → Prop} {E : Exit → World → Prop} {turns : List Nat}

/-- In which phases an operation may come. -/
def win (ops : Array Oper) (turns : List Nat) (i p : Nat) : Bool :=
  turns.zipIdx.all fun jk => (!Region.waitsFor .any ops i jk.1 || decide (jk.2 < p)) && (!Region.waitsFor .any ops jk.1 i || decide (p ≤ jk.2))

def linked (ops : Array Oper) : List Nat → Bool
  | [] => true
  | [i] => decide (i < ops.size)
  | i :: j :: rest => decide (i < ops.size) && Region.waitsFor .any ops j i && linked ops (j :: rest)

/-- One operation from act a to act a1. -/
def Step (P : Program) (ops : Array Oper) (I : Nat → World → Prop) (E : Exit → World → Prop) (turns : List Nat) (i : Nat) (o : Oper) (a a1 : Act) : Prop :=
  (Region.wanted o (yielded ops a.tmps) = false ∧ a1 = a.put o.dst undef ∧ i ∉ turns) ∨
  (Region.wanted o (yielded ops a.tmps) = true ∧ (∃ v, a1 = a.put o.dst v) ∧
    ((∃ k, turns[k]? = some i ∧ ∀ wx, I k wx → o.wp P a wx (fun a' w' => a' = a1 ∧ I (k + 1) w') (fun e _ w' => E e w')) ∨
     (i ∉ turns ∧ ∀ p wx, p ≤ turns.length → win ops turns i p = true → I p wx → o.wp P a wx (fun a' w' => a' = a1 ∧ I p w') (fun e _ w' => E e w'))))

def walk (P : Program) (ops : Array Oper) (I : Nat → World → Prop) (E : Exit → World → Prop) (turns : List Nat) (Q : Act → Prop) : Nat → List Oper → Act → Prop
  | _, [], a => Q a
  | i, o :: rest, a => ∃ a1, Step P ops I E turns i o a a1 ∧ walk P ops I E turns Q (i + 1) rest a1

theorem Step.put {i : Nat} {o : Oper} {a a1 : Act} (h : Step P ops I E turns i o a a1) : ∃ v, a1 = a.put o.dst v := by
  rcases h with ⟨_, h, _⟩ | ⟨_, h, _⟩
  · exact ⟨_, h⟩
  · exact h

theorem walk_acts {Q : Act → Prop} : ∀ (l : List Oper) (n : Nat) (a : Act), walk P ops I E turns Q n l a → ∃ acts : Nat → Act, acts 0 = a ∧ (∀ i o, l[i]? = some o → Step P ops I E turns (n + i) o (acts i) (acts (i + 1))) ∧ Q (acts l.length)
  | [], _, a, h => ⟨fun _ => a, rfl, fun i o hi => by simp at hi, h⟩
  | o :: rest, n, a, ⟨a1, hs, h⟩ => by
    obtain ⟨acts, h0, hst, hQ⟩ := walk_acts rest (n + 1) a1 h
    refine ⟨fun n => match n with | 0 => a | n + 1 => acts n, rfl, fun i oi hi => ?_, hQ⟩
    cases i with
    | zero =>
      simp only [List.getElem?_cons_zero, Option.some.injEq] at hi
      subst hi
      show Step P ops I E turns (n + 0) o a (acts 0)
      rw [h0]; exact hs
    | succ i =>
      have := hst i oi (by simpa using hi)
      rw [show n + 1 + i = n + (i + 1) from by omega] at this
      exact this

structure Seq (P : Program) (ops : Array Oper) (I : Nat → World → Prop) (E : Exit → World → Prop) (turns : List Nat) (acts : Nat → Act) : Prop where
  step : ∀ i o, ops[i]? = some o → Step P ops I E turns i o (acts i) (acts (i + 1))
  put : ∀ i o, ops[i]? = some o → ∃ v, acts (i + 1) = (acts i).put o.dst v

variable {acts : Nat → Act}
theorem Seq.size (h : Seq P ops I E turns acts) : ∀ k, k ≤ ops.size → (acts k).tmps.size = (acts 0).tmps.size ∧ (acts k).defers = (acts 0).defers
  | 0, _ => ⟨rfl, rfl⟩
  | k + 1, hk => by
    obtain ⟨v, hv⟩ := h.put k _ (Array.getElem?_eq_getElem (by omega : k < ops.size))
    have ih := h.size k (by omega)
    rw [hv, put_size, put_defers']
    exact ih

/-- A slot that none of the operations from k to m writes holds what it held. -/
theorem Seq.keeps (h : Seq P ops I E turns acts) {s : Tmp} (k : Nat) : ∀ m, k ≤ m → m ≤ ops.size → (∀ j oj, k ≤ j → j < m → ops[j]? = some oj → oj.dst ≠ some s) → (acts m).tmps[s]? = (acts k).tmps[s]?
  | 0, hm, _, _ => by have : k = 0 := by omega
                      subst this; rfl
  | m + 1, hm, hs, hw => by
    rcases Nat.lt_or_ge m k with hlt | hge
    · have : k = m + 1 := by omega
      subst this; rfl
    · have hmm : m < ops.size := by omega
      have hom := Array.getElem?_eq_getElem hmm
      obtain ⟨v, hv⟩ := h.put m _ hom
      have ih := h.keeps k m hge (by omega) (fun j oj h1 h2 h3 => hw j oj h1 (by omega) h3)
      rw [hv, ← ih]
      have hne := hw m _ hge (by omega) hom
      cases hd : ops[m].dst with
      | none => rfl
      | some d =>
        rw [put_get, if_neg (fun e => hne (by rw [hd, e]))]

structure Inv (ops : Array Oper) (acts : Nat → Act) (listed : Array Bool) (a : Act) : Prop where
  size : listed.size = ops.size
  closed : ∀ j oj, ops[j]? = some oj → listed.getD j false = true → ∀ e ∈ oj.after, Region.binds .any e = true → listed.getD e.on false = true
  tsize : a.tmps.size = (acts 0).tmps.size
  defers : a.defers = (acts 0).defers
  done : ∀ j oj s, ops[j]? = some oj → oj.dst = some s → listed.getD j false = true → a.tmps[s]? = (acts (j + 1)).tmps[s]?
  rest : ∀ s, (∀ j oj, ops[j]? = some oj → listed.getD j false = true → oj.dst ≠ some s) → a.tmps[s]? = (acts 0).tmps[s]?

/-- What an operation that is ready looks at is as it was in the text's order. -/
theorem agree (hok : Ok ops) (hseq : Seq P ops I E turns acts) {listed : Array Bool} {a : Act} (inv : Inv ops acts listed a) {i : Nat} {oi : Oper} (hi : ops[i]? = some oi) (hun : listed.getD i false = false)
    (hrd : ∀ e ∈ oi.after, Region.binds .any e = true → listed.getD e.on false = true) {s : Tmp} (hs : s ∈ oi.looksAt ops) : a.tmps[s]? = (acts i).tmps[s]? := by
  have hil := (Array.getElem?_eq_some_iff.1 hi).1
  by_cases hw : ∃ (j : Nat) (oj : Oper), ops[j]? = some oj ∧ oj.dst = some s
  · obtain ⟨j, oj, hj, hd⟩ := hw
    have hjl := (Array.getElem?_eq_some_iff.1 hj).1
    rcases hok.reads i oi j oj s hi hj hd hs with ⟨hlt, hwt⟩ | ⟨hlt, hwt⟩
    · obtain ⟨e, he, hb, hon⟩ := Bag.waits_spec hi hwt
      have hl := hrd e he hb
      rw [hon] at hl
      rw [inv.done j oj s hj hd hl]
      exact (hseq.keeps (j + 1) i (by omega) (by omega) (fun k ok h1 h2 hk hdk => by have := hok.one k ok j oj s hk hj hdk hd; omega)).symm
    · have hjun : listed.getD j false = false := by
        cases hc : listed.getD j false with
        | false => rfl
        | true =>
          obtain ⟨e, he, hb, hon⟩ := Bag.waits_spec hj hwt
          have := inv.closed j oj hj hc e he hb
          rw [hon, hun] at this
          cases this
      rw [inv.rest s (fun k ok hk hl hdk => by
        have := hok.one k ok j oj s hk hj hdk hd
        subst this
        rw [hjun] at hl
        cases hl)]
      exact (hseq.keeps 0 i (by omega) (by omega) (fun k ok h1 h2 hk hdk => by have := hok.one k ok j oj s hk hj hdk hd; omega)).symm
  · have hno : ∀ (j : Nat) (oj : Oper), ops[j]? = some oj → oj.dst ≠ some s := fun j oj hj hd => hw ⟨j, oj, hj, hd⟩
    rw [inv.rest s (fun j oj hj _ => hno j oj hj)]
    exact (hseq.keeps 0 i (by omega) (by omega) (fun k ok _ _ hk => hno k ok hk)).symm

theorem inv_next (hok : Ok ops) (hseq : Seq P ops I E turns acts) {listed : Array Bool} {a : Act} (inv : Inv ops acts listed a) {i : Nat} {oi : Oper} (hi : ops[i]? = some oi)
    (hrd : ∀ e ∈ oi.after, Region.binds .any e = true → listed.getD e.on false = true) {v : Value} (hv : acts (i + 1) = (acts i).put oi.dst v) : Inv ops acts (listed.setIfInBounds i true) (a.put oi.dst v) := by
  have hil := (Array.getElem?_eq_some_iff.1 hi).1
  have hset : (listed.setIfInBounds i true).getD i false = true := by simp [inv.size, hil]
  have hsz := hseq.size i (by omega)
  refine ⟨by simp [inv.size], fun j oj hj hl e he hb => ?_, by rw [put_size]; exact inv.tsize, by rw [put_defers']; exact inv.defers, fun j oj s hj hd hl => ?_, fun s hs => ?_⟩
  · by_cases hij : i = j
    · subst hij
      rw [hi] at hj
      obtain rfl := Option.some.inj hj
      exact getD_set_true (hrd e he hb)
    · rw [getD_set_ne false hij] at hl
      exact getD_set_true (inv.closed j oj hj hl e he hb)
  · by_cases hij : i = j
    · subst hij
      rw [hi] at hj
      obtain rfl := Option.some.inj hj
      rw [hv, hd, put_get, put_get, if_pos rfl, if_pos rfl, hsz.1, inv.tsize]
    · rw [getD_set_ne false hij] at hl
      rw [← inv.done j oj s hj hd hl]
      cases hdi : oi.dst with
      | none => rfl
      | some d =>
        rw [put_get, if_neg]
        intro e
        subst e
        exact hij (hok.one i oi j oj d hi hj hdi hd)
  · have hne : oi.dst ≠ some s := hs i oi hi hset
    have h2 : a.tmps[s]? = (acts 0).tmps[s]? := inv.rest s (fun j oj hj hl => hs j oj hj (getD_set_true hl))
    rw [← h2]
    cases hdi : oi.dst with
    | none => rfl
    | some d => rw [put_get, if_neg (fun e => hne (by rw [hdi, e]))]

theorem linked_size : ∀ {turns : List Nat} {k j : Nat}, linked ops turns = true → turns[k]? = some j → j < ops.size
  | [], _, _, _, h => by simp at h
  | [i], 0, j, h, hk => by simp at hk; subst hk; simpa [linked] using h
  | [i], k + 1, j, h, hk => by simp at hk
  | i :: i2 :: rest, 0, j, h, hk => by
    simp at hk; subst hk
    simp only [linked, Bool.and_eq_true, decide_eq_true_eq] at h
    exact h.1.1
  | i :: i2 :: rest, k + 1, j, h, hk => by
    simp only [linked, Bool.and_eq_true, decide_eq_true_eq] at h
    exact linked_size (turns := i2 :: rest) (k := k) h.2 (by simpa using hk)
theorem linked_waits : ∀ {turns : List Nat} {k i j : Nat}, linked ops turns = true → turns[k]? = some i → turns[k + 1]? = some j → Region.waitsFor .any ops j i = true
  | [], _, _, _, _, h, _ => by simp at h
  | [_], k, _, _, _, _, h => by simp at h
  | i0 :: i2 :: rest, 0, i, j, h, hk, hk2 => by
    simp at hk hk2; subst hk hk2
    simp only [linked, Bool.and_eq_true, decide_eq_true_eq] at h
    exact h.1.2
  | i0 :: i2 :: rest, k + 1, i, j, h, hk, hk2 => by
    simp only [linked, Bool.and_eq_true, decide_eq_true_eq] at h
    exact linked_waits (turns := i2 :: rest) (k := k) h.2 (by simpa using hk) (by simpa using hk2)
/-- The turns stand in the order of the text. -/
theorem linked_lt (hok : Ok ops) (hl : linked ops turns = true) {k : Nat} {i : Nat} (hk : turns[k]? = some i) : ∀ m j, k < m → turns[m]? = some j → i < j
  | 0, _, h, _ => absurd h (by omega)
  | m + 1, j, h, hm => by
    have hmm : m < turns.length := by have := (List.getElem?_eq_some_iff.1 hm).1; omega
    have hw := linked_waits hl (List.getElem?_eq_getElem hmm) hm
    have hjs := linked_size hl hm
    obtain ⟨e, he, hb, hon⟩ := Bag.waits_spec (Array.getElem?_eq_getElem hjs) hw
    have h1 := hok.back j _ (Array.getElem?_eq_getElem hjs) e he hb
    rcases Nat.lt_or_ge k m with h2 | h2
    · have := linked_lt hok hl hk m _ h2 (List.getElem?_eq_getElem hmm)
      omega
    · obtain rfl : k = m := by omega
      rw [List.getElem?_eq_getElem hmm] at hk
      have := Option.some.inj hk
      omega

/-- How many turns have come. -/
structure Phase (turns : List Nat) (listed : Array Bool) (p : Nat) : Prop where
  le : p ≤ turns.length
  at_ : ∀ k j, turns[k]? = some j → (listed.getD j false = true ↔ k < p)

theorem ready_lt {i : Nat} {oi : Oper} (hi : ops[i]? = some oi) {j : Nat} {listed : Array Bool} (hrd : ∀ e ∈ oi.after, Region.binds .any e = true → listed.getD e.on false = true) (h : Region.waitsFor .any ops i j = true) : listed.getD j false = true := by
  obtain ⟨e, he, hb, hon⟩ := Bag.waits_spec hi h
  rw [← hon]; exact hrd e he hb

theorem win_of {listed : Array Bool} {a : Act} (inv : Inv ops acts listed a) {p i : Nat} {oi : Oper} (hl : linked ops turns = true) (hp : Phase turns listed p) (hi : ops[i]? = some oi) (hun : listed.getD i false = false)
    (hrd : ∀ e ∈ oi.after, Region.binds .any e = true → listed.getD e.on false = true) : win ops turns i p = true := by
  unfold win
  rw [List.all_eq_true]
  rintro ⟨j, k⟩ hjk
  have hk : turns[k]? = some j := by
    have := List.mem_zipIdx_iff_getElem?.1 hjk
    simpa using this
  simp only [Bool.and_eq_true, Bool.or_eq_true, Bool.not_eq_true', decide_eq_true_eq]
  constructor
  · cases h : Region.waitsFor .any ops i j with
    | false => exact .inl rfl
    | true => exact .inr ((hp.at_ k j hk).1 (ready_lt hi hrd h))
  · cases h : Region.waitsFor .any ops j i with
    | false => exact .inl rfl
    | true =>
      refine .inr ?_
      rcases Nat.lt_or_ge k p with h2 | h2
      · exfalso
        have hlj := (hp.at_ k j hk).2 h2
        have hjs := linked_size hl hk
        obtain ⟨e, he, hb, hon⟩ := Bag.waits_spec (Array.getElem?_eq_getElem hjs) h
        have := inv.closed j _ (Array.getElem?_eq_getElem hjs) hlj e he hb
        rw [hon, hun] at this
        cases this
      · exact h2

theorem phase_turn (hok : Ok ops) (hl : linked ops turns = true) {listed : Array Bool} {p k i : Nat} {oi : Oper} (hsz : listed.size = ops.size) (hp : Phase turns listed p) (hk : turns[k]? = some i) (hi : ops[i]? = some oi) (hun : listed.getD i false = false)
    (hrd : ∀ e ∈ oi.after, Region.binds .any e = true → listed.getD e.on false = true) : p = k ∧ Phase turns (listed.setIfInBounds i true) (p + 1) := by
  have hil := (Array.getElem?_eq_some_iff.1 hi).1
  have hkl := (List.getElem?_eq_some_iff.1 hk).1
  have h1 : ¬ k < p := fun h => by rw [(hp.at_ k i hk).2 h] at hun; cases hun
  have h2 : p = k := by
    cases k with
    | zero => omega
    | succ k =>
      have hkk : k < turns.length := by omega
      have hw := linked_waits hl (List.getElem?_eq_getElem hkk) hk
      have := (hp.at_ k _ (List.getElem?_eq_getElem hkk)).1 (ready_lt hi hrd hw)
      omega
  refine ⟨h2, by omega, fun k' j' hk' => ?_⟩
  by_cases hij : i = j'
  · subst hij
    have hkk : k' = k := by
      rcases Nat.lt_trichotomy k' k with h | h | h
      · have := linked_lt hok hl hk' k i h hk; omega
      · exact h
      · have := linked_lt hok hl hk k' i h hk'; omega
    subst hkk
    have : (listed.setIfInBounds i true).getD i false = true := by simp [hsz, hil]
    rw [this]
    simp; omega
  · rw [getD_set_ne false hij, hp.at_ k' j' hk']
    have : k' ≠ k := fun e => by subst e; rw [hk] at hk'; exact hij (Option.some.inj hk')
    omega
theorem phase_quiet {listed : Array Bool} {p i : Nat} (hp : Phase turns listed p) (hn : i ∉ turns) : Phase turns (listed.setIfInBounds i true) p :=
  ⟨hp.le, fun k j hk => by
    have hij : i ≠ j := fun e => hn (by rw [e]; exact List.mem_of_getElem? hk)
    rw [getD_set_ne false hij]; exact hp.at_ k j hk⟩

/-- One operation, whichever comes up. -/
theorem wpOp_of (hok : Ok ops) (hl : linked ops turns = true) (hseq : Seq P ops I E turns acts) {listed : Array Bool} {a : Act} {w : World} (inv : Inv ops acts listed a) {p : Nat} (hp : Phase turns listed p) (hI : I p w) {Q : Exit → Act → World → Prop}
    (hE : ∀ e a' w', a'.defers = (acts 0).defers → E e w' → Q e a' w') {i : Nat} (hr : i ∈ Region.ready .any ops listed)
    {K : Act → World → Prop} (hK : ∀ a' w' p', Inv ops acts (listed.setIfInBounds i true) a' → Phase turns (listed.setIfInBounds i true) p' → I p' w' → K a' w') : wpOp P ops Q i K a w := by
  obtain ⟨hun, oi, hi, hrd⟩ := mem_ready.1 hr
  have hun' := getD_both hun
  obtain ⟨he, hwd⟩ := eval_of_agree (hok.sel i oi · · hi) (fun s hs => agree hok hseq inv hi hun' hrd hs)
  unfold Go.wpOp
  simp only [hi]
  rw [hwd]
  have put : ∀ v, acts (i + 1) = (acts i).put oi.dst v → Inv ops acts (listed.setIfInBounds i true) (a.put oi.dst v) := fun v hv => inv_next hok hseq inv hi hrd hv
  have main : ∀ p', Phase turns (listed.setIfInBounds i true) p' → oi.wp P (acts i) w (fun a' w' => a' = acts (i + 1) ∧ I p' w') (fun e _ w' => E e w') → (oi.wp P a w K Q) := by
    intro p' hp' h
    unfold Oper.wp at h ⊢
    rw [he]
    generalize (execOp (acts i).eval oi).run P w = r at h
    cases r with
    | ok n w' =>
      cases n with
      | value v => exact hK _ _ _ (put v h.1.symm) hp' h.2
      | skip => exact hK _ _ _ (put undef h.1.symm) hp' h.2
      | defer d =>
        exfalso
        have := h.1
        obtain ⟨v, hv⟩ := hseq.put i oi hi
        rw [hv] at this
        have hd := congrArg Act.defers this
        rw [put_defers', put_defers'] at hd
        exact absurd (congrArg List.length hd) (by simp)
      | enter f args =>
        refine Calls.mono h fun e w'' r => ?_
        cases e with
        | returned v => exact hK _ _ _ (put v r.1.symm) hp' r.2
        | panicked c => exact hE _ _ _ inv.defers r
        | outgrown => obtain ⟨a0, w0, h⟩ := r; exact ⟨a, w0, hE _ _ _ inv.defers h⟩
      | row row args => exact Rows.mono h fun v w'' r => hK _ _ _ (put v r.1.symm) hp' r.2
      | _ => exact h.elim
    | halt x w' =>
      cases x with
      | panic v => exact hE _ _ _ inv.defers h
      | _ => exact h.elim
  rcases hseq.step i oi hi with ⟨hnw, hput, hn⟩ | ⟨hw, _, ⟨k, hk, hst⟩ | ⟨hn, hst⟩⟩
  · rw [if_neg (by rw [hnw]; simp)]
    exact hK _ _ _ (put undef hput) (phase_quiet hp hn) hI
  · rw [if_pos hw]
    obtain ⟨rfl, hp'⟩ := phase_turn hok hl inv.size hp hk hi hun' hrd
    exact .inl (main _ hp' (hst w hI))
  · rw [if_pos hw]
    exact .inl (main _ (phase_quiet hp hn) (hst p w hp.le (win_of inv hl hp hi hun' hrd) hI))

theorem final (hok : Ok ops) (hseq : Seq P ops I E turns acts) {listed : Array Bool} {a : Act} (inv : Inv ops acts listed a) (hr : Region.ready .any ops listed = []) : a = acts ops.size := by
  have hall := fun i hi => Bag.all_listed hok hr inv.size ops.size i hi hi
  have ht : a.tmps = (acts ops.size).tmps := by
    apply Array.ext_getElem?
    intro s
    by_cases hw : ∃ (j : Nat) (oj : Oper), ops[j]? = some oj ∧ oj.dst = some s
    · obtain ⟨j, oj, hj, hd⟩ := hw
      have hjl := (Array.getElem?_eq_some_iff.1 hj).1
      rw [inv.done j oj s hj hd (hall j hjl)]
      exact (hseq.keeps (j + 1) ops.size (by omega) (Nat.le_refl _) (fun k ok h1 h2 hk hdk => by have := hok.one k ok j oj s hk hj hdk hd; omega)).symm
    · have hno : ∀ (j : Nat) (oj : Oper), ops[j]? = some oj → oj.dst ≠ some s := fun j oj hj hd => hw ⟨j, oj, hj, hd⟩
      rw [inv.rest s (fun j oj hj _ => hno j oj hj)]
      exact (hseq.keeps 0 ops.size (by omega) (Nat.le_refl _) (fun k ok _ _ hk => hno k ok hk)).symm
  have hd : a.defers = (acts ops.size).defers := by rw [inv.defers, (hseq.size ops.size (Nat.le_refl _)).2]
  cases a
  cases h : acts ops.size
  rw [h] at ht hd
  simp only at ht hd
  subst ht hd
  rfl

theorem final_phase (hok : Ok ops) (hl : linked ops turns = true) {listed : Array Bool} {a : Act} (inv : Inv ops acts listed a) (hr : Region.ready .any ops listed = []) {p : Nat} (hp : Phase turns listed p) : p = turns.length := by
  have hall := fun i hi => Bag.all_listed hok hr inv.size ops.size i hi hi
  rcases Nat.lt_or_ge p turns.length with h | h
  · exfalso
    have hg := List.getElem?_eq_getElem h
    have := (hp.at_ p _ hg).1 (hall _ (linked_size hl hg))
    omega
  · have := hp.le; omega

theorem wpAny_of (hok : Ok ops) (hl : linked ops turns = true) (hseq : Seq P ops I E turns acts) {Q : Exit → Act → World → Prop} (hE : ∀ e a' w', a'.defers = (acts 0).defers → E e w' → Q e a' w') (hQ : ∀ w, I turns.length w → Q .normal (acts ops.size) w) :
    ∀ (fuel : Nat) (listed : Array Bool) (a : Act) (w : World) (p : Nat), Inv ops acts listed a → Phase turns listed p → I p w → (ops.size ≤ fuel + ((List.range ops.size).filter fun i => listed.getD i false).length) → wpAny P .any ops Q fuel listed a w
  | 0, listed, a, w, p, inv, hp, hI, hf => by
    have hall : Region.ready .any ops listed = [] := by
      rw [List.eq_nil_iff_forall_not_mem]
      intro i hi
      obtain ⟨hun, oi, ho, _⟩ := mem_ready.1 hi
      have hil := (Array.getElem?_eq_some_iff.1 ho).1
      have hlen : ((List.range ops.size).filter fun i => listed.getD i false).length = (List.range ops.size).length := by
        have := List.length_filter_le (fun i => listed.getD i false) (List.range ops.size)
        rw [List.length_range] at this ⊢
        omega
      have := List.length_filter_eq_length_iff.1 hlen i (List.mem_range.2 hil)
      rw [getD_both hun] at this
      cases this
    refine ⟨hall, ?_⟩
    rw [final hok hseq inv hall]
    rw [final_phase hok hl inv hall hp] at hI
    exact hQ w hI
  | fuel + 1, listed, a, w, p, inv, hp, hI, hf => by
    refine ⟨fun hr => by rw [final hok hseq inv hr]; rw [final_phase hok hl inv hr hp] at hI; exact hQ w hI, fun i hi => wpOp_of hok hl hseq inv hp hI hE hi fun a' w' p' inv' hp' hI' => wpAny_of hok hl hseq hE hQ fuel _ a' w' p' inv' hp' hI' ?_⟩
    obtain ⟨hun, oi, ho, _⟩ := mem_ready.1 hi
    have hil := (Array.getElem?_eq_some_iff.1 ho).1
    have hlt : ((List.range ops.size).filter fun i => listed.getD i false).length < ((List.range ops.size).filter fun j => (listed.setIfInBounds i true).getD j false).length := by
      rw [← List.countP_eq_length_filter, ← List.countP_eq_length_filter]
      have hsplit := Bag.range_split ops.size i hil
      rw [hsplit, List.countP_append, List.countP_append, List.countP_cons, List.countP_cons]
      have h1 : List.countP (fun i => listed.getD i false) (List.range i) ≤ List.countP (fun j => (listed.setIfInBounds i true).getD j false) (List.range i) := List.countP_mono_left fun j _ h => getD_set_true h
      have h2 : List.countP (fun i => listed.getD i false) (List.range' (i + 1) (ops.size - (i + 1))) ≤ List.countP (fun j => (listed.setIfInBounds i true).getD j false) (List.range' (i + 1) (ops.size - (i + 1))) := List.countP_mono_left fun j _ h => getD_set_true h
      have h3 : (listed.setIfInBounds i true).getD i false = true := by simp [inv.size, hil]
      rw [h3, getD_both hun]
      simp
      simp at h1 h2
      omega
    omega

theorem walk_nil {Q : Act → Prop} {a : Act} {i : Nat} (h : Q a) : walk P ops I E turns Q i [] a := h
theorem walk_no {Q : Act → Prop} {a : Act} {o : Oper} {rest : List Oper} {i : Nat} (hw : Region.wanted o (yielded ops a.tmps) = false) (hn : i ∉ turns) (h : walk P ops I E turns Q (i + 1) rest (a.put o.dst undef)) : walk P ops I E turns Q i (o :: rest) a :=
  ⟨_, .inl ⟨hw, rfl, hn⟩, h⟩
theorem walk_quiet {Q : Act → Prop} {a a1 : Act} {o : Oper} {rest : List Oper} {i : Nat} (hw : Region.wanted o (yielded ops a.tmps) = true) (hn : i ∉ turns)
    (hs : ∀ p wx, p ≤ turns.length → win ops turns i p = true → I p wx → ∀ K : Act → World → Prop, (∀ w', I p w' → K a1 w') → o.wp P a wx K (fun e _ w' => E e w')) (hv : ∃ v, a1 = a.put o.dst v) (h : walk P ops I E turns Q (i + 1) rest a1) : walk P ops I E turns Q i (o :: rest) a :=
  ⟨a1, .inr ⟨hw, hv, .inr ⟨hn, fun p wx hp hwn hI => hs p wx hp hwn hI _ (fun _ h' => ⟨rfl, h'⟩)⟩⟩, h⟩
theorem walk_turn {Q : Act → Prop} {a a1 : Act} {o : Oper} {rest : List Oper} {i : Nat} (k : Nat) (hk : turns[k]? = some i) (hw : Region.wanted o (yielded ops a.tmps) = true)
    (hs : ∀ wx, I k wx → ∀ K : Act → World → Prop, (∀ w', I (k + 1) w' → K a1 w') → o.wp P a wx K (fun e _ w' => E e w')) (hv : ∃ v, a1 = a.put o.dst v) (h : walk P ops I E turns Q (i + 1) rest a1) : walk P ops I E turns Q i (o :: rest) a :=
  ⟨a1, .inr ⟨hw, hv, .inl ⟨k, hk, fun wx hI => hs wx hI _ (fun _ h' => ⟨rfl, h'⟩)⟩⟩, h⟩
end
end Chain
end

section
open Go.RowKit

/-- What lies below block B is as in W1; block b holds this row. -/
structure Lit (B : Nat) (W1 : World) (b : Nat) (row : Obj) (wx : World) : Prop where
  below : Below B W1 wx
  size : B ≤ wx.heap.size
  row : wx.heap[b]? = some row
namespace Lit
variable {B b : Nat} {W1 wx x1 : World} {row : Obj}
theorem lt (h : Lit B W1 b row wx) : b < wx.heap.size := by
  rcases Nat.lt_or_ge b wx.heap.size with h1 | h1
  · exact h1
  · have := h.row; rw [Array.getElem?_eq_none h1] at this; cases this
theorem next (h : Lit B W1 b row wx) (hb : Below wx.heap.size wx x1) : Lit B W1 b row x1 :=
  ⟨h.below.trans (hb.mono h.size), Nat.le_trans h.size hb.size, (hb.block b h.lt).trans h.row⟩
theorem two (w : World) (o1 o2 : Obj) (n : Nat) : Lit (w.heap.size + 1) (w.alloc o1) (w.heap.size + 1) o2 { ((w.alloc o1).alloc o2) with drawn := n } := by
  refine ⟨?_, by simp, ?_⟩
  · have h := (Below.refl (w.heap.size + 1) (w.alloc o1)).alloc (by simp) o2
    exact ⟨h.os, h.tape, h.output, h.size, h.block⟩
  · have := heap_alloc_new (w.alloc o1) o2
    simpa using this
theorem one (w : World) (o : Obj) : Lit w.heap.size w w.heap.size o (w.alloc o) := ⟨(Below.refl _ _).alloc (Nat.le_refl _) o, by simp, heap_alloc_new w o⟩
theorem two' (w : World) (o1 o2 : Obj) : Lit (w.heap.size + 1) (w.alloc o1) (w.heap.size + 1) o2 ((w.alloc o1).alloc o2) := two w o1 o2 ((w.alloc o1).alloc o2).drawn
theorem cell {cs : Array Value} {t : TypeId} (h : Lit B W1 b (.cells cs t (0, 0)) wx) (i : Nat) : wx.cell? ⟨b, i, none⟩ = cs[i]? := cell_of_row _ _ _ _ _ (0, 0) h.row
theorem store {P : Program} {op : Oper} {a : Act} {K : Act → World → Prop} {Q : Exit → Act → World → Prop} {cells old : Array Value} {t : TypeId} (ty : TypeId) (x y : Operand) (ho : op.op = .store ty x y)
    (hx : a.eval x = .pointer (some ⟨b, 0, none⟩)) (hy : a.eval y = .agg cells) (h : Lit B W1 b (.cells old t (0, 0)) wx) (hb : B ≤ b)
    (hi : (P.info? ty).map (·.size) = some cells.size) (hsz : old.size = cells.size) (h1 : cells.all (·.oneCell') = true)
    (hk : ∀ w', Lit B W1 b (.cells cells t (0, 0)) w' → K (a.put op.dst undef) w') : op.wp P a wx K Q := by
  unfold Oper.wp execOp
  simp only [ho, hx, hy, Instr.storeAt, Instr.sureAddr, Sem.run_bind, Sem.run_pure, Result.andThen_ok, run_storeVar_row wx b t ty old cells h.row hi hsz h1]
  refine hk _ ⟨⟨h.below.os, h.below.tape, h.below.output, by rw [size_setRow]; exact h.below.size, fun k hk => (setRow_other wx b k cells (by omega)).trans (h.below.block k hk)⟩, by rw [size_setRow]; exact h.size, setRow_heap wx b _ cells _ _ h.row⟩
theorem put {cs : Array Value} {t : TypeId} (h : Lit B W1 b (.cells cs t (0, 0)) wx) (hb : B ≤ b) (i : Nat) (v : Value) : Lit B W1 b (.cells (cs.setIfInBounds i v) t (0, 0)) (wx.setCell ⟨b, i, none⟩ v) := by
  refine ⟨h.below.setCell hb v, by rw [Go.Deep.nblk_setCell]; exact h.size, ?_⟩
  simp [World.setCell, Array.getElem?_modify, h.row]
theorem alloc (h : Lit B W1 b row wx) (o : Obj) : Lit B W1 b row (wx.alloc o) := h.next ((Below.refl _ _).alloc (Nat.le_refl _) o)
end Lit
end

section
open Go.RowKit
namespace Lit
variable {B b : Nat} {W1 wx : World} {row : Obj}
end Lit
end

section
open Go.RowKit

theorem own_base {w : World} {base base' n size : Nat} {e : TypeId} {v : Value} {xs : List Value} (h : w.ownsRow base e size v n xs) (hb : base' ≤ base) : w.ownsRow base' e size v n xs := by
  obtain ⟨hl, h | ⟨g, cap, cur, hv, hbg, hc⟩⟩ := h
  · exact ⟨hl, .inl h⟩
  · exact ⟨hl, .inr ⟨g, cap, cur, hv, by omega, hc⟩⟩
theorem own_of_blocks {w w' : World} {base n size : Nat} {e : TypeId} {v : Value} {xs : List Value} (h : w.ownsRow base e size v n xs) (hb : ∀ j, base ≤ j → j < w.heap.size → w'.heap[j]? = w.heap[j]?) : w'.ownsRow base e size v n xs := by
  obtain ⟨hl, h | ⟨g, cap, cur, hv, hbg, hg, hc⟩⟩ := h
  · exact ⟨hl, .inl h⟩
  · have hlt : g < w.heap.size := by
      rcases Nat.lt_or_ge g w.heap.size with h | h
      · exact h
      · rw [Array.getElem?_eq_none h] at hg; cases hg
    exact ⟨hl, .inr ⟨g, cap, cur, hv, hbg, (hb g hbg hlt).trans hg, hc⟩⟩
end

section
open Go.RowKit

def flatE (l : List En) : List Value := l.flatMap En.cells
theorem flatE_nil : flatE [] = [] := rfl
theorem flatE_cons (c : En) (l : List En) : flatE (c :: l) = c.cells ++ flatE l := rfl
theorem flatE_append (l m : List En) : flatE (l ++ m) = flatE l ++ flatE m := by unfold flatE; rw [List.flatMap_append]
theorem flatE_snoc (l : List En) (c : En) : flatE (l ++ [c]) = flatE l ++ c.cells := by rw [flatE_append, flatE_cons, flatE_nil, List.append_nil]
theorem flatE_length (l : List En) : (flatE l).length = l.length * 5 := by
  induction l with
  | nil => rfl
  | cons c l ih => rw [flatE_cons, List.length_append, ih, List.length_cons]; show 5 + _ = _; omega
theorem flatE_get : ∀ (l : List En) (i : Nat) (h : i < l.length) (j : Nat), j < 5 → (flatE l)[i * 5 + j]? = (l[i]).cells[j]?
  | c :: l, 0, _, j, hj => by
    rw [flatE_cons, Nat.zero_mul, Nat.zero_add, List.getElem?_append_left (by show j < 5; exact hj)]; rfl
  | c :: l, i + 1, h, j, hj => by
    rw [flatE_cons, List.getElem?_append_right (by show 5 ≤ _; omega), show (i + 1) * 5 + j - c.cells.length = i * 5 + j from by show (i + 1) * 5 + j - 5 = _; omega]
    exact flatE_get l i (by simpa using h) j hj
theorem flatE_one (l : List En) : ∀ u ∈ flatE l, u.oneCell' = true := by
  intro u hu
  obtain ⟨c, -, h⟩ := List.mem_flatMap.1 hu
  simp only [En.cells, List.mem_cons, List.not_mem_nil, or_false] at h
  rcases h with rfl | rfl | rfl | rfl | rfl <;> rfl

/-- A list of entries at an address, and as a slice. -/
def EAt (w : World) (A : Option Addr) (l : List En) : Prop := l = [] ∨ ∃ b off, A = some ⟨b, off, none⟩ ∧ w.rangeAt b off (flatE l)
def EV (w : World) (v : Value) (l : List En) : Prop := ∃ A cap, v = .slice A l.length cap ∧ EAt w A l
theorem EAt.below {w w' : World} {A : Option Addr} {l : List En} (h : EAt w A l) (hb : Below w.heap.size w w') : EAt w' A l := by
  rcases h with h | ⟨b, off, hA, hr⟩
  · exact .inl h
  · exact .inr ⟨b, off, hA, fun j v hv => (hb.cell (World.block_lt_of_cell? w _ (hr j v hv))).trans (hr j v hv)⟩
theorem EV.below {w w' : World} {v : Value} {l : List En} (h : EV w v l) (hb : Below w.heap.size w w') : EV w' v l := by
  obtain ⟨A, cap, hv, hA⟩ := h
  exact ⟨A, cap, hv, hA.below hb⟩
theorem EAt.at_ {w : World} {A : Option Addr} {l : List En} (h : EAt w A l) {k : Nat} (hk : k < l.length) :
    ∃ b off, A = some ⟨b, off, none⟩ ∧ b < w.heap.size ∧ w.cell? ⟨b, off + k * 5, none⟩ = some (.int .i64 (l[k]).f) ∧ w.cell? ⟨b, off + k * 5 + 1, none⟩ = some (.int .i64 (l[k]).d) ∧ w.cell? ⟨b, off + k * 5 + 2, none⟩ = some (.int .i64 (l[k]).car) ∧
      w.cell? ⟨b, off + k * 5 + 3, none⟩ = some (.int .i64 (l[k]).mv) ∧ w.cell? ⟨b, off + k * 5 + 4, none⟩ = some (.bool (l[k]).md) := by
  rcases h with h | ⟨b, off, hA, hr⟩
  · rw [h] at hk; simp at hk
  · have hc := fun j v (hj : j < 5) (e : (l[k]).cells[j]? = some v) => hr (k * 5 + j) v ((flatE_get l k hk j hj).trans e)
    have h0 := hc 0 _ (by omega) rfl
    refine ⟨b, off, hA, World.block_lt_of_cell? w _ h0, h0, hc 1 _ (by omega) rfl, hc 2 _ (by omega) rfl, hc 3 _ (by omega) rfl, hc 4 _ (by omega) rfl⟩
theorem EV.of_own {w : World} {base n : Nat} {v : Value} {l : List En} (h : w.ownsRow base 71 5 v n (flatE l)) : n = l.length ∧ EV w v l := by
  obtain ⟨hl, h | ⟨g, cap, cur, hv, _, hg, _, _, _, ht⟩⟩ := h
  · rw [flatE_length] at hl
    obtain ⟨rfl, rfl⟩ := h
    have : l = [] := List.eq_nil_of_length_eq_zero (by omega)
    subst this
    exact ⟨rfl, none, 0, rfl, .inl rfl⟩
  · rw [flatE_length] at hl
    have hn : n = l.length := by omega
    refine ⟨hn, some ⟨g, 0, none⟩, cap, by rw [hv, hn], .inr ⟨g, 0, rfl, fun j u hu => ?_⟩⟩
    rw [Nat.zero_add, cell_of_row w g j cur _ (0, 0) hg, ← Array.getElem?_toList]
    rw [← ht, List.getElem?_take] at hu
    split at hu
    · exact hu
    · cases hu
theorem enInfo : (Try.prog.info? 71).map (fun i => (i.zero, i.size, i.bytes)) = some (some (.agg #[.int .i64 0, .int .i64 0, .int .i64 0, .int .i64 0, .bool false]), 5, 40) := by kernel_rfl

namespace Cs
/-- The calls of a set at the floors below k, and at floor k those below direction d. -/
def part (c : Cs) (k d : Nat) : List (Nat × Nat) := prs c k ++ ((if 1 < d ∧ c.up.testBit k = true then [(k, 1)] else []) ++ (if 2 < d ∧ c.dn.testBit k = true then [(k, 2)] else []))
end Cs
end

section
namespace Ghost
open Go Go.RowKit Go.Proofs.Ytifbkoaggjikpaa.Bag

abbrev Gh := Nat → Nat
abbrev Run := Nat → Bool
def upd (γ : Gh) (i b : Nat) : Gh := fun j => if j = i then b else γ j
def mark (L : Run) (i : Nat) : Run := fun j => if j = i then true else L j

section
variable {P : Program} {ops : Array Oper} {I : Gh → Run → World → Prop}

/-- One operation, number i, whose value is 'val' of its ghost. -/
def Step (P : Program) (ops : Array Oper) (I : Gh → Run → World → Prop) (i : Nat) (o : Oper) (A : Gh → Act) (val : Nat → Value) : Prop :=
  ((∀ γ, Region.wanted o (yielded ops (A γ).tmps) = false) ∧ (∀ b, val b = undef) ∧ ∀ γ L w, I γ L w → I γ (mark L i) w) ∨
  ((∀ γ, Region.wanted o (yielded ops (A γ).tmps) = true) ∧
    ∀ γ (L : Run) w, L i = false → (∀ j, Region.waitsFor .any ops i j = true → L j = true) → I γ L w → o.wp P (A γ) w (fun a' w' => ∃ b, a' = (A γ).put o.dst (val b) ∧ I (upd γ i b) (mark L i) w') NoEnd)

def walk (P : Program) (ops : Array Oper) (I : Gh → Run → World → Prop) (Q : (Gh → Act) → Prop) : Nat → List Oper → (Gh → Act) → Prop
  | _, [], A => Q A
  | i, o :: rest, A => ∃ val : Nat → Value, Step P ops I i o A val ∧ walk P ops I Q (i + 1) rest (fun γ => (A γ).put o.dst (val (γ i)))

theorem walk_acts {Q : (Gh → Act) → Prop} : ∀ (l : List Oper) (i : Nat) (A : Gh → Act), walk P ops I Q i l A → ∃ (Af : Nat → Gh → Act) (val : Nat → Nat → Value), Af 0 = A ∧
    (∀ k o, l[k]? = some o → Step P ops I (i + k) o (Af k) (val k) ∧ ∀ γ, Af (k + 1) γ = (Af k γ).put o.dst (val k (γ (i + k)))) ∧ Q (Af l.length)
  | [], _, A, h => ⟨fun _ => A, fun _ _ => undef, rfl, fun k o hk => by simp at hk, h⟩
  | o :: rest, i, A, ⟨v, hs, h⟩ => by
    obtain ⟨Af, val, h0, hst, hQ⟩ := walk_acts rest (i + 1) _ h
    refine ⟨fun n => match n with | 0 => A | n + 1 => Af n, fun n => match n with | 0 => v | n + 1 => val n, rfl, fun k ok hk => ?_, hQ⟩
    cases k with
    | zero =>
      simp only [List.getElem?_cons_zero, Option.some.injEq] at hk
      subst hk
      exact ⟨hs, fun γ => by show Af 0 γ = _; rw [h0]; rfl⟩
    | succ k =>
      have := hst k ok (by simpa using hk)
      rw [show i + 1 + k = i + (k + 1) from by omega] at this
      exact this

structure Seq (ops : Array Oper) (Af : Nat → Gh → Act) (val : Nat → Nat → Value) (a0 : Act) : Prop where
  zero : ∀ γ, Af 0 γ = a0
  put : ∀ k o, ops[k]? = some o → ∀ γ, Af (k + 1) γ = (Af k γ).put o.dst (val k (γ k))

variable {Af : Nat → Gh → Act} {val : Nat → Nat → Value} {a0 : Act}

theorem Seq.size (h : Seq ops Af val a0) (γ : Gh) : ∀ k, k ≤ ops.size → (Af k γ).tmps.size = a0.tmps.size ∧ (Af k γ).defers = a0.defers
  | 0, _ => by rw [h.zero]; exact ⟨rfl, rfl⟩
  | k + 1, hk => by
    rw [h.put k _ (Array.getElem?_eq_getElem (by omega : k < ops.size)) γ, put_size, put_defers']
    exact h.size γ k (by omega)
theorem Seq.keeps (h : Seq ops Af val a0) (γ : Gh) {s : Tmp} (k : Nat) : ∀ m, k ≤ m → m ≤ ops.size → (∀ j oj, k ≤ j → j < m → ops[j]? = some oj → oj.dst ≠ some s) → (Af m γ).tmps[s]? = (Af k γ).tmps[s]?
  | 0, hm, _, _ => by have : k = 0 := by omega
                      subst this; rfl
  | m + 1, hm, hs, hw => by
    rcases Nat.lt_or_ge m k with hlt | hge
    · have : k = m + 1 := by omega
      subst this; rfl
    · have hmm : m < ops.size := by omega
      have hom := Array.getElem?_eq_getElem hmm
      have ih := h.keeps γ k m hge (by omega) (fun j oj h1 h2 h3 => hw j oj h1 (by omega) h3)
      rw [h.put m _ hom γ, ← ih]
      have hne := hw m _ hge (by omega) hom
      cases hd : ops[m].dst with
      | none => rfl
      | some d => rw [put_get, if_neg (fun e => hne (by rw [hd, e]))]
/-- What stands in a slot behind its operation. -/
theorem Seq.at_ (h : Seq ops Af val a0) (hok : Ok ops) (γ : Gh) {j : Nat} {oj : Oper} {s : Tmp} (hj : ops[j]? = some oj) (hd : oj.dst = some s) {m : Nat} (hm : j < m) (hs : m ≤ ops.size) : (Af m γ).tmps[s]? = if s < a0.tmps.size then some (val j (γ j)) else none := by
  rw [h.keeps γ (j + 1) m (by omega) hs (fun k ok h1 h2 hk hdk => by have := hok.one k ok j oj s hk hj hdk hd; omega), h.put j oj hj γ, hd, put_get, if_pos rfl, (h.size γ j (by omega)).1]

structure Inv (ops : Array Oper) (val : Nat → Nat → Value) (a0 : Act) (γ : Gh) (listed : Array Bool) (a : Act) : Prop where
  size : listed.size = ops.size
  closed : ∀ j oj, ops[j]? = some oj → listed.getD j false = true → ∀ e ∈ oj.after, Region.binds .any e = true → listed.getD e.on false = true
  tsize : a.tmps.size = a0.tmps.size
  defers : a.defers = a0.defers
  done : ∀ j oj s, ops[j]? = some oj → oj.dst = some s → listed.getD j false = true → a.tmps[s]? = if s < a0.tmps.size then some (val j (γ j)) else none
  rest : ∀ s, (∀ j oj, ops[j]? = some oj → listed.getD j false = true → oj.dst ≠ some s) → a.tmps[s]? = a0.tmps[s]?

theorem agree (hok : Ok ops) (hseq : Seq ops Af val a0) {γ : Gh} {listed : Array Bool} {a : Act} (inv : Inv ops val a0 γ listed a) {i : Nat} {oi : Oper} (hi : ops[i]? = some oi) (hun : listed.getD i false = false)
    (hrd : ∀ e ∈ oi.after, Region.binds .any e = true → listed.getD e.on false = true) {s : Tmp} (hs : s ∈ oi.looksAt ops) : a.tmps[s]? = (Af i γ).tmps[s]? := by
  have hil := (Array.getElem?_eq_some_iff.1 hi).1
  by_cases hw : ∃ (j : Nat) (oj : Oper), ops[j]? = some oj ∧ oj.dst = some s
  · obtain ⟨j, oj, hj, hd⟩ := hw
    have hjl := (Array.getElem?_eq_some_iff.1 hj).1
    rcases hok.reads i oi j oj s hi hj hd hs with ⟨hlt, hwt⟩ | ⟨hlt, hwt⟩
    · obtain ⟨e, he, hb, hon⟩ := waits_spec hi hwt
      have hl := hrd e he hb
      rw [hon] at hl
      rw [inv.done j oj s hj hd hl, hseq.at_ hok γ hj hd hlt (by omega)]
    · have hjun : listed.getD j false = false := by
        cases hc : listed.getD j false with
        | false => rfl
        | true =>
          obtain ⟨e, he, hb, hon⟩ := waits_spec hj hwt
          have := inv.closed j oj hj hc e he hb
          rw [hon, hun] at this
          cases this
      rw [inv.rest s (fun k ok hk hl hdk => by
        have := hok.one k ok j oj s hk hj hdk hd
        subst this
        rw [hjun] at hl
        cases hl), hseq.keeps γ 0 i (by omega) (by omega) (fun k ok h1 h2 hk hdk => by have := hok.one k ok j oj s hk hj hdk hd; omega), hseq.zero]
  · have hno : ∀ (j : Nat) (oj : Oper), ops[j]? = some oj → oj.dst ≠ some s := fun j oj hj hd => hw ⟨j, oj, hj, hd⟩
    rw [inv.rest s (fun j oj hj _ => hno j oj hj), hseq.keeps γ 0 i (by omega) (by omega) (fun k ok _ _ hk => hno k ok hk), hseq.zero]

theorem inv_next (hok : Ok ops) (hseq : Seq ops Af val a0) {γ : Gh} {listed : Array Bool} {a : Act} (inv : Inv ops val a0 γ listed a) {i : Nat} {oi : Oper} (hi : ops[i]? = some oi)
    (hrd : ∀ e ∈ oi.after, Region.binds .any e = true → listed.getD e.on false = true) {v : Value} {b : Nat} (hv : (Af i γ).put oi.dst v = (Af i γ).put oi.dst (val i b)) : Inv ops val a0 (upd γ i b) (listed.setIfInBounds i true) (a.put oi.dst v) := by
  have hil := (Array.getElem?_eq_some_iff.1 hi).1
  have hset : (listed.setIfInBounds i true).getD i false = true := by simp [inv.size, hil]
  have hsz := hseq.size γ i (by omega)
  refine ⟨by simp [inv.size], fun j oj hj hl e he hb => ?_, by rw [put_size]; exact inv.tsize, by rw [put_defers']; exact inv.defers, fun j oj s hj hd hl => ?_, fun s hs => ?_⟩
  · by_cases hij : i = j
    · subst hij
      rw [hi] at hj
      obtain rfl := Option.some.inj hj
      exact getD_set_true (hrd e he hb)
    · rw [getD_set_ne false hij] at hl
      exact getD_set_true (inv.closed j oj hj hl e he hb)
  · by_cases hij : i = j
    · subst hij
      rw [hi] at hj
      obtain rfl := Option.some.inj hj
      have h1 : ((Af i γ).put oi.dst v).tmps[s]? = ((Af i γ).put oi.dst (val i b)).tmps[s]? := by rw [hv]
      rw [hd, put_get, put_get, if_pos rfl, if_pos rfl, hsz.1] at h1
      rw [hd, put_get, if_pos rfl, inv.tsize, h1]
      show _ = if s < a0.tmps.size then some (val i (upd γ i b i)) else none
      unfold upd
      rw [if_pos rfl]
    · rw [getD_set_ne false hij] at hl
      have h1 := inv.done j oj s hj hd hl
      have h2 : upd γ i b j = γ j := by unfold upd; rw [if_neg (fun e => hij e.symm)]
      rw [h2, ← h1]
      cases hdi : oi.dst with
      | none => rfl
      | some d =>
        rw [put_get, if_neg]
        intro e
        subst e
        exact hij (hok.one i oi j oj d hi hj hdi hd)
  · have hne : oi.dst ≠ some s := hs i oi hi hset
    have h2 : a.tmps[s]? = a0.tmps[s]? := inv.rest s (fun j oj hj hl => hs j oj hj (getD_set_true hl))
    rw [← h2]
    cases hdi : oi.dst with
    | none => rfl
    | some d => rw [put_get, if_neg (fun e => hne (by rw [hdi, e]))]

/-- What has run, as a function. -/
def runOf (listed : Array Bool) : Run := fun j => listed.getD j false
theorem runOf_set {listed : Array Bool} {i : Nat} (hi : i < listed.size) : runOf (listed.setIfInBounds i true) = mark (runOf listed) i := by
  funext j
  unfold runOf mark
  by_cases h : j = i
  · subst h; rw [if_pos rfl]; simp [hi]
  · rw [if_neg h, getD_set_ne false (fun e => h e.symm)]

theorem wpOp_of (hok : Ok ops) (hseq : Seq ops Af val a0) (hst : ∀ i o, ops[i]? = some o → Step P ops I i o (Af i) (val i)) {γ : Gh} {listed : Array Bool} {a : Act} {w : World} (inv : Inv ops val a0 γ listed a) (hI : I γ (runOf listed) w) {Q : Exit → Act → World → Prop} {i : Nat} (hr : i ∈ Region.ready .any ops listed)
    {K : Act → World → Prop} (hK : ∀ γ' a' w', Inv ops val a0 γ' (listed.setIfInBounds i true) a' → I γ' (runOf (listed.setIfInBounds i true)) w' → K a' w') : wpOp P ops Q i K a w := by
  obtain ⟨hun, oi, hi, hrd⟩ := mem_ready.1 hr
  have hun' := getD_both hun
  have hil := (Array.getElem?_eq_some_iff.1 hi).1
  obtain ⟨he, hwd⟩ := eval_of_agree (hok.sel i oi · · hi) (fun s hs => agree hok hseq inv hi hun' hrd hs)
  have hset := runOf_set (listed := listed) (i := i) (by rw [inv.size]; exact hil)
  unfold Go.wpOp
  simp only [hi]
  have next : ∀ b v w', (Af i γ).put oi.dst v = (Af i γ).put oi.dst (val i b) → I (upd γ i b) (mark (runOf listed) i) w' → K (a.put oi.dst v) w' := fun b v w' hv hI' => hK _ _ _ (inv_next hok hseq inv hi hrd hv) (by rw [hset]; exact hI')
  rw [hwd]
  rcases hst i oi hi with ⟨hnw, hu, hm⟩ | ⟨hw, hs⟩
  · rw [if_neg (by rw [hnw]; simp)]
    refine next (γ i) undef w (by rw [hu]) ?_
    have e : upd γ i (γ i) = γ := by
      funext j; unfold upd
      by_cases h : j = i
      · rw [if_pos h, h]
      · rw [if_neg h]
    rw [e]
    exact hm _ _ _ hI
  · rw [if_pos (hw γ)]
    refine .inl ?_
    have h := hs γ (runOf listed) w hun' (fun j hj => by obtain ⟨e, he, hb, hon⟩ := waits_spec hi hj; have := hrd e he hb; rw [hon] at this; exact this) hI
    unfold Oper.wp at h ⊢
    rw [he]
    generalize (execOp (Af i γ).eval oi).run P w = r at h
    cases r with
    | ok n w' =>
      cases n with
      | value v => obtain ⟨b, h1, h2⟩ := h; exact next b v w' h1 h2
      | skip => obtain ⟨b, h1, h2⟩ := h; exact next b undef w' h1 h2
      | defer d =>
        exfalso
        obtain ⟨b, h1, _⟩ := h
        have := congrArg Act.defers h1
        rw [put_defers', put_defers'] at this
        exact absurd (congrArg List.length this) (by simp)
      | enter f args =>
        refine Calls.mono h fun e w'' r => ?_
        cases e with
        | returned v => obtain ⟨b, h1, h2⟩ := r; exact next b v w'' h1 h2
        | panicked c => exact r.elim
        | outgrown => obtain ⟨_, _, h⟩ := r; exact h.elim
      | row row args => exact Rows.mono h fun v w'' r => by obtain ⟨b, h1, h2⟩ := r; exact next b v w'' h1 h2
      | _ => exact h.elim
    | halt x w' => cases x <;> exact h.elim

theorem all_listed (hok : Ok ops) {listed : Array Bool} (hr : Region.ready .any ops listed = []) (hsz : listed.size = ops.size) : ∀ n i, i < n → i < ops.size → listed.getD i false = true
  | 0, i, h, _ => absurd h (by omega)
  | n + 1, i, h, hi => by
    rcases Nat.lt_or_ge i n with hlt | hge
    · exact all_listed hok hr hsz n i hlt hi
    · cases hc : listed.getD i false with
      | true => rfl
      | false =>
        exfalso
        have hoi := Array.getElem?_eq_getElem hi
        have hmem : i ∈ Region.ready .any ops listed := mem_ready.2 ⟨getD_in (by omega) hc, _, hoi, fun e he hb => by
          have := hok.back i _ hoi e he hb
          exact all_listed hok hr hsz n e.on (by omega) (by omega)⟩
        rw [hr] at hmem
        cases hmem

theorem final (hok : Ok ops) (hseq : Seq ops Af val a0) {γ : Gh} {listed : Array Bool} {a : Act} (inv : Inv ops val a0 γ listed a) (hr : Region.ready .any ops listed = []) : a = Af ops.size γ := by
  have hall := fun i hi => all_listed hok hr inv.size ops.size i hi hi
  have ht : a.tmps = (Af ops.size γ).tmps := by
    apply Array.ext_getElem?
    intro s
    by_cases hw : ∃ (j : Nat) (oj : Oper), ops[j]? = some oj ∧ oj.dst = some s
    · obtain ⟨j, oj, hj, hd⟩ := hw
      have hjl := (Array.getElem?_eq_some_iff.1 hj).1
      rw [inv.done j oj s hj hd (hall j hjl), hseq.at_ hok γ hj hd hjl (Nat.le_refl _)]
    · have hno : ∀ (j : Nat) (oj : Oper), ops[j]? = some oj → oj.dst ≠ some s := fun j oj hj hd => hw ⟨j, oj, hj, hd⟩
      rw [inv.rest s (fun j oj hj _ => hno j oj hj), hseq.keeps γ 0 ops.size (by omega) (Nat.le_refl _) (fun k ok _ _ hk => hno k ok hk), hseq.zero]
  have hd : a.defers = (Af ops.size γ).defers := by rw [inv.defers, (hseq.size γ ops.size (Nat.le_refl _)).2]
  cases a
  cases h : Af ops.size γ
  rw [h] at ht hd
  simp only at ht hd
  subst ht hd
  rfl

theorem wpAny_of (hok : Ok ops) (hseq : Seq ops Af val a0) (hst : ∀ i o, ops[i]? = some o → Step P ops I i o (Af i) (val i)) {Q : Exit → Act → World → Prop} (hQ : ∀ γ L w, (∀ j, j < ops.size → L j = true) → I γ L w → Q .normal (Af ops.size γ) w) :
    ∀ (fuel : Nat) (γ : Gh) (listed : Array Bool) (a : Act) (w : World), Inv ops val a0 γ listed a → I γ (runOf listed) w → (ops.size ≤ fuel + ((List.range ops.size).filter fun i => listed.getD i false).length) → wpAny P .any ops Q fuel listed a w
  | 0, γ, listed, a, w, inv, hI, hf => by
    have hall : Region.ready .any ops listed = [] := by
      rw [List.eq_nil_iff_forall_not_mem]
      intro i hi
      obtain ⟨hun, oi, ho, _⟩ := mem_ready.1 hi
      have hil := (Array.getElem?_eq_some_iff.1 ho).1
      have hlen : ((List.range ops.size).filter fun i => listed.getD i false).length = (List.range ops.size).length := by
        have := List.length_filter_le (fun i => listed.getD i false) (List.range ops.size)
        rw [List.length_range] at this ⊢
        omega
      have := List.length_filter_eq_length_iff.1 hlen i (List.mem_range.2 hil)
      rw [getD_both hun] at this
      cases this
    exact ⟨hall, by rw [final hok hseq inv hall]; exact hQ γ _ w (fun j hj => all_listed hok hall inv.size ops.size j hj hj) hI⟩
  | fuel + 1, γ, listed, a, w, inv, hI, hf => by
    refine ⟨fun hr => by rw [final hok hseq inv hr]; exact hQ γ _ w (fun j hj => all_listed hok hr inv.size ops.size j hj hj) hI, fun i hi => wpOp_of hok hseq hst inv hI hi fun γ' a' w' inv' hI' => wpAny_of hok hseq hst hQ fuel γ' _ a' w' inv' hI' ?_⟩
    obtain ⟨hun, oi, ho, _⟩ := mem_ready.1 hi
    have hil := (Array.getElem?_eq_some_iff.1 ho).1
    have hlt : ((List.range ops.size).filter fun i => listed.getD i false).length < ((List.range ops.size).filter fun j => (listed.setIfInBounds i true).getD j false).length := by
      rw [← List.countP_eq_length_filter, ← List.countP_eq_length_filter]
      have hsplit := range_split ops.size i hil
      rw [hsplit, List.countP_append, List.countP_append, List.countP_cons, List.countP_cons]
      have h1 : List.countP (fun i => listed.getD i false) (List.range i) ≤ List.countP (fun j => (listed.setIfInBounds i true).getD j false) (List.range i) := List.countP_mono_left fun j _ h => getD_set_true h
      have h2 : List.countP (fun i => listed.getD i false) (List.range' (i + 1) (ops.size - (i + 1))) ≤ List.countP (fun j => (listed.setIfInBounds i true).getD j false) (List.range' (i + 1) (ops.size - (i + 1))) := List.countP_mono_left fun j _ h => getD_set_true h
      have h3 : (listed.setIfInBounds i true).getD i false = true := by simp [inv.size, hil]
      rw [h3, getD_both hun]
      simp
      simp at h1 h2
      omega
    omega

/-- THE LAW. -/
theorem ghost {id : Nat} {l : List Oper} {a : Act} {w : World} {Q : Exit → Act → World → Prop} (I : Gh → Run → World → Prop) (hm : P.follows .mixedOrders = true) (hok : ok l.toArray = true)
    (hI : ∀ γ, I γ (fun _ => false) { w with drawn := w.drawn + 1 }) (h : walk P l.toArray I (fun A => ∀ γ L w', (∀ j, j < l.length → L j = true) → I γ L w' → Q .normal (A γ) w') 0 l (fun _ => a)) : (Code.region id l.toArray true).wp P Q a w := by
  obtain ⟨Af, val, h0, hst, hQ⟩ := walk_acts l 0 _ h
  have hsz : l.toArray.size = l.length := by simp
  have hseq : Seq l.toArray Af val a := ⟨fun γ => by rw [h0], fun k o hk γ => by have := (hst k o (by simpa using hk)).2 γ; rwa [Nat.zero_add] at this⟩
  have hst' : ∀ i o, l.toArray[i]? = some o → Step P l.toArray I i o (Af i) (val i) := fun i o hi => by have := (hst i o (by simpa using hi)).1; rwa [Nat.zero_add] at this
  refine wp_region_any hm (wpAny_of (ok_spec hok) hseq hst' (by rw [hsz]; exact hQ) _ (fun _ => 0) _ a _ ⟨by simp, fun j oj _ hl => (by rw [getD_replicate_false] at hl; cases hl), rfl, rfl, fun j oj s _ _ hl => (by rw [getD_replicate_false] at hl; cases hl), fun s _ => rfl⟩ ?_ (by omega))
  have e : runOf (Array.replicate l.toArray.size false) = fun _ => false := by funext j; unfold runOf; rw [getD_replicate_false]
  rw [e]
  exact hI _

theorem walk_nil {Q : (Gh → Act) → Prop} {A : Gh → Act} {i : Nat} (h : Q A) : walk P ops I Q i [] A := h
theorem walk_no {Q : (Gh → Act) → Prop} {A : Gh → Act} {o : Oper} {rest : List Oper} {i : Nat} (hw : ∀ γ, Region.wanted o (yielded ops (A γ).tmps) = false) (hm : ∀ γ L w, I γ L w → I γ (mark L i) w) (h : walk P ops I Q (i + 1) rest (fun γ => (A γ).put o.dst undef)) : walk P ops I Q i (o :: rest) A :=
  ⟨fun _ => undef, .inl ⟨hw, fun _ => rfl, hm⟩, h⟩
/-- An operation: its value, of its ghost; what it needs to have run before it may be asked by 'kernel_rfl'. -/
theorem walk_yes {Q : (Gh → Act) → Prop} {A : Gh → Act} {o : Oper} {rest : List Oper} {i : Nat} (val : Nat → Value) (hw : ∀ γ, Region.wanted o (yielded ops (A γ).tmps) = true)
    (hs : ∀ γ (L : Run) w, L i = false → (∀ j, Region.waitsFor .any ops i j = true → L j = true) → I γ L w → ∀ K : Act → World → Prop, (∀ b w', I (upd γ i b) (mark L i) w' → K ((A γ).put o.dst (val b)) w') → o.wp P (A γ) w K NoEnd)
    (h : walk P ops I Q (i + 1) rest (fun γ => (A γ).put o.dst (val (γ i)))) : walk P ops I Q i (o :: rest) A :=
  ⟨val, .inr ⟨hw, fun γ L w h1 h2 h3 => hs γ L w h1 h2 h3 _ (fun b _ h' => ⟨b, rfl, h'⟩)⟩, h⟩
/-- An operation that gives one value, whatever the ghosts. -/
theorem walk_const {Q : (Gh → Act) → Prop} {A : Gh → Act} {o : Oper} {rest : List Oper} {i : Nat} {v : Value} (hw : ∀ γ, Region.wanted o (yielded ops (A γ).tmps) = true)
    (hs : ∀ γ (L : Run) w, L i = false → (∀ j, Region.waitsFor .any ops i j = true → L j = true) → I γ L w → ∀ K : Act → World → Prop, (∀ w', I (upd γ i 0) (mark L i) w' → K ((A γ).put o.dst v) w') → o.wp P (A γ) w K NoEnd)
    (h : walk P ops I Q (i + 1) rest (fun γ => (A γ).put o.dst v)) : walk P ops I Q i (o :: rest) A :=
  walk_yes (fun _ => v) hw (fun γ L w h1 h2 h3 K hK => hs γ L w h1 h2 h3 K (fun w' h' => hK 0 w' h')) h
/-- One block that an operation of the region makes (number k): its ghost is its number. -/
structure Made (W1 : World) (k : Nat) (row : Obj) (γ : Gh) (L : Run) (wx : World) : Prop where
  below : Go.RowKit.Below W1.heap.size W1 wx
  row : L k = true → W1.heap.size ≤ γ k ∧ wx.heap[γ k]? = some row
theorem Made.next {W1 wx w' : World} {k i b : Nat} {row : Obj} {γ : Gh} {L : Run} (h : Made W1 k row γ L wx) (hi : k ≠ i) (hb : Go.RowKit.Below wx.heap.size wx w') : Made W1 k row (upd γ i b) (mark L i) w' := by
  refine ⟨h.below.trans (hb.mono h.below.size), fun hl => ?_⟩
  have e1 : mark L i k = L k := by unfold mark; rw [if_neg hi]
  have e2 : upd γ i b k = γ k := by unfold upd; rw [if_neg hi]
  rw [e1] at hl
  rw [e2]
  obtain ⟨h1, h2⟩ := h.row hl
  have hlt : γ k < wx.heap.size := by
    rcases Nat.lt_or_ge (γ k) wx.heap.size with h3 | h3
    · exact h3
    · rw [Array.getElem?_eq_none h3] at h2; cases h2
  exact ⟨h1, (hb.block _ hlt).trans h2⟩
theorem Made.make {W1 wx : World} {k : Nat} {row : Obj} {γ : Gh} {L : Run} (h : Made W1 k row γ L wx) : Made W1 k row (upd γ k wx.heap.size) (mark L k) (wx.alloc row) := by
  refine ⟨h.below.alloc h.below.size row, fun _ => ?_⟩
  have e2 : upd γ k wx.heap.size k = wx.heap.size := by unfold upd; rw [if_pos rfl]
  rw [e2]
  exact ⟨h.below.size, heap_alloc_new wx row⟩
end
end Ghost
end

section
open Go.RowKit

end
end Go.Proofs.Ytifbkoaggjikpaa
