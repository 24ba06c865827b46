/- Plain mathematics of debounced contacts. No statement of the seat is proved here. -/
namespace Go.Proofs.YtimaidiabjkgkaaDoor

/-- The contacts of a car. -/
structure Ct where
  fl : Nat
  up : Bool
  dn : Bool
  opn : Bool
  cls : Bool

namespace Ct
def zero : Ct := ⟨0, false, false, false, false⟩
def ok (c : Ct) : Prop := c.fl < 4294967296
/-- Whether contact i is closed. -/
def get (c : Ct) (i : Nat) : Bool :=
  if i < 32 then c.fl.testBit i else if i = 32 then c.up else if i = 33 then c.dn else if i = 34 then c.opn else if i = 35 then c.cls else false
/-- The contacts in which contact i is so. -/
def set (c : Ct) (i : Nat) (on : Bool) : Ct :=
  if i < 32 then { c with fl := if on then c.fl ||| 2 ^ i else c.fl &&& (4294967295 - 2 ^ i) } else if i = 32 then { c with up := on } else if i = 33 then { c with dn := on }
  else if i = 34 then { c with opn := on } else if i = 35 then { c with cls := on } else c
def getI (c : Ct) (i : Int) : Bool := if 0 ≤ i then c.get i.toNat else false
def setI (c : Ct) (i : Int) (on : Bool) : Ct := if 0 ≤ i then c.set i.toNat on else c

theorem getI_nat (c : Ct) (i : Nat) : c.getI (i : Int) = c.get i := by unfold getI; rw [if_pos (by omega), Int.toNat_natCast]
theorem setI_nat (c : Ct) (i : Nat) (on : Bool) : c.setI (i : Int) on = c.set i on := by unfold setI; rw [if_pos (by omega), Int.toNat_natCast]
theorem mask_bit {i j : Nat} (hi : i < 32) (hj : j < 32) : (4294967295 - 2 ^ i).testBit j = decide (i ≠ j) := by
  have h : ∀ (i j : Fin 32), (4294967295 - 2 ^ i.val).testBit j.val = decide (i.val ≠ j.val) := by decide +kernel
  exact h ⟨i, hi⟩ ⟨j, hj⟩
theorem bit_bit {i j : Nat} (hi : i < 32) (hj : j < 32) : (2 ^ i).testBit j = decide (i = j) := by
  have h : ∀ (i j : Fin 32), (2 ^ i.val).testBit j.val = decide (i.val = j.val) := by decide +kernel
  exact h ⟨i, hi⟩ ⟨j, hj⟩
theorem bit_lt {i : Nat} (hi : i < 32) : 2 ^ i < 4294967296 := by
  have h : ∀ (i : Fin 32), 2 ^ i.val < 4294967296 := by decide +kernel
  exact h ⟨i, hi⟩
theorem and_bit (c : Ct) {i : Nat} (hi : i < 32) : c.fl &&& 2 ^ i = if c.fl.testBit i then 2 ^ i else 0 := by
  have _ := hi
  apply Nat.eq_of_testBit_eq
  intro j
  rw [Nat.testBit_and, Nat.testBit_two_pow]
  by_cases e : i = j
  · subst e
    cases h : c.fl.testBit i <;> simp
  · cases h : c.fl.testBit i <;> simp [e]
theorem ok_set {c : Ct} (h : c.ok) (i : Nat) (on : Bool) : (c.set i on).ok := by
  unfold set
  by_cases hi : i < 32
  · rw [if_pos hi]
    cases on
    · exact Nat.lt_of_le_of_lt Nat.and_le_left h
    · exact Nat.or_lt_two_pow (n := 32) h (bit_lt hi)
  · rw [if_neg hi]
    repeat' split
    all_goals exact h
theorem get_set_same (c : Ct) {i : Nat} (hi : i < 36) (on : Bool) : (c.set i on).get i = on := by
  unfold set get
  by_cases h : i < 32
  · rw [if_pos h, if_pos h]
    cases on
    · simp [Nat.testBit_and, mask_bit h h]
    · simp [Nat.testBit_or, bit_bit h h]
  · have : i = 32 ∨ i = 33 ∨ i = 34 ∨ i = 35 := by omega
    rcases this with rfl | rfl | rfl | rfl <;> rfl
theorem get_set_other (c : Ct) {i j : Nat} (h : i ≠ j) (on : Bool) : (c.set i on).get j = c.get j := by
  unfold set
  by_cases hi : i < 32
  · rw [if_pos hi]
    unfold get
    by_cases hj : j < 32
    · rw [if_pos hj, if_pos hj]
      cases on
      · simp [Nat.testBit_and, mask_bit hi hj, h]
      · simp [Nat.testBit_or, bit_bit hi hj, h]
    · rw [if_neg hj, if_neg hj]
  · rw [if_neg hi]
    have hj : j < 32 ∨ j = 32 ∨ j = 33 ∨ j = 34 ∨ j = 35 ∨ 35 < j := by omega
    have hi' : i = 32 ∨ i = 33 ∨ i = 34 ∨ i = 35 ∨ 35 < i := by omega
    rcases hi' with rfl | rfl | rfl | rfl | hi'
    · unfold get; simp only [if_neg (Ne.symm h)]; rfl
    · unfold get; simp only [if_neg (Ne.symm h)]; rfl
    · unfold get; simp only [if_neg (Ne.symm h)]; rfl
    · unfold get; simp only [if_neg (Ne.symm h)]; rfl
    · rw [if_neg (by omega), if_neg (by omega), if_neg (by omega), if_neg (by omega)]
theorem get_out (c : Ct) {i : Nat} (h : 36 ≤ i) : c.get i = false := by
  unfold get; rw [if_neg (by omega), if_neg (by omega), if_neg (by omega), if_neg (by omega), if_neg (by omega)]
theorem set_out (c : Ct) {i : Nat} (h : 36 ≤ i) (on : Bool) : c.set i on = c := by
  unfold set; rw [if_neg (by omega), if_neg (by omega), if_neg (by omega), if_neg (by omega), if_neg (by omega)]
theorem ext36 {c d : Ct} (hc : c.ok) (hd : d.ok) (h : ∀ i, i < 36 → c.get i = d.get i) : c = d := by
  have hf : c.fl = d.fl := Nat.eq_of_testBit_eq fun i => by
    by_cases hi : i < 32
    · have := h i (by omega)
      unfold get at this
      rwa [if_pos hi, if_pos hi] at this
    · have hp : 2 ^ 32 ≤ 2 ^ i := Nat.pow_le_pow_right (by decide) (by omega)
      unfold ok at hc hd
      rw [Nat.testBit_lt_two_pow (by omega), Nat.testBit_lt_two_pow (by omega)]
  have h1 : c.up = d.up := h 32 (by omega)
  have h2 : c.dn = d.dn := h 33 (by omega)
  have h3 : c.opn = d.opn := h 34 (by omega)
  have h4 : c.cls = d.cls := h 35 (by omega)
  obtain ⟨_, _, _, _, _⟩ := c
  obtain ⟨_, _, _, _, _⟩ := d
  simp only at hf h1 h2 h3 h4
  subst hf h1 h2 h3 h4
  rfl
theorem set_get (c : Ct) (h : c.ok) {i : Nat} (hi : i < 36) : c.set i (c.get i) = c := by
  refine ext36 (ok_set h _ _) h fun j _ => ?_
  by_cases e : i = j
  · subst e; exact get_set_same c hi _
  · exact get_set_other c e _
theorem zero_ok : zero.ok := by show (0 : Nat) < 4294967296; decide
theorem zero_get (i : Nat) : zero.get i = false := by
  unfold get; repeat' split
  · exact Nat.zero_testBit i
  all_goals rfl
end Ct

/-- The state of debounced contacts. -/
structure Db where
  c : Ct
  n : List Int

/-- How one contact counts behind a reading. -/
def deb (n : Int) (b : Bool) (k : Int) (r : Bool) : Bool × Int := if r = b then (b, 0) else if k + 1 = n then (r, 0) else (b, k + 1)

namespace Db
def zero : Db := ⟨Ct.zero, List.replicate 36 0⟩
structure ok (s : Db) : Prop where
  c : s.c.ok
  n : s.n.length = 36
def isB (n : Int) (s : Db) : Bool := decide (1 ≤ n ∧ n ≤ 16) && s.n.all fun k => decide (0 ≤ k ∧ k < n)
def at_ (s : Db) (i : Nat) : Bool × Int := (s.c.get i, s.n.getD i 0)
def put (s : Db) (i : Nat) (p : Bool × Int) : Db := ⟨s.c.set i p.1, s.n.set i p.2⟩
def debAt (n : Int) (r : Ct) (s : Db) (i : Nat) : Bool × Int := deb n (s.c.get i) (s.n.getD i 0) (r.get i)
def stepTo (n : Int) (r : Ct) (s : Db) : Nat → Db
  | 0 => s
  | k + 1 => (stepTo n r s k).put k (debAt n r s k)
def step (n : Int) (s : Db) (r : Ct) : Db := stepTo n r s 36

theorem ok_put {s : Db} (h : s.ok) (i : Nat) (p : Bool × Int) : (s.put i p).ok := ⟨Ct.ok_set h.c _ _, by show (s.n.set i p.2).length = 36; rw [List.length_set]; exact h.n⟩
theorem ok_stepTo {n : Int} {r : Ct} {s : Db} (h : s.ok) : ∀ k, (stepTo n r s k).ok
  | 0 => h
  | k + 1 => ok_put (ok_stepTo h k) _ _
theorem ok_step {n : Int} {r : Ct} {s : Db} (h : s.ok) : (s.step n r).ok := ok_stepTo h 36
theorem at_put_same {s : Db} (h : s.ok) {i : Nat} (hi : i < 36) (p : Bool × Int) : (s.put i p).at_ i = p := by
  unfold at_ put
  simp only [Ct.get_set_same _ hi]
  have : i < s.n.length := by rw [h.n]; exact hi
  rw [List.getD_eq_getElem?_getD, List.getElem?_set_self this]
  rfl
theorem at_put_other (s : Db) {i j : Nat} (h : i ≠ j) (p : Bool × Int) : (s.put i p).at_ j = s.at_ j := by
  unfold at_ put
  simp only [Ct.get_set_other _ h]
  rw [List.getD_eq_getElem?_getD, List.getElem?_set_ne h, ← List.getD_eq_getElem?_getD]
theorem at_stepTo {n : Int} {r : Ct} {s : Db} (h : s.ok) : ∀ k, k ≤ 36 → ∀ j, (stepTo n r s k).at_ j = if j < k then debAt n r s j else s.at_ j
  | 0, _, j => by rw [if_neg (by omega)]; rfl
  | k + 1, hk, j => by
    show ((stepTo n r s k).put k _).at_ j = _
    by_cases e : k = j
    · subst e
      rw [at_put_same (ok_stepTo h k) (by omega), if_pos (by omega)]
    · rw [at_put_other _ e, at_stepTo h k (by omega) j]
      by_cases hj : j < k
      · rw [if_pos hj, if_pos (by omega)]
      · rw [if_neg hj, if_neg (by omega)]
/-- Behind a reading each contact counts by itself. -/
theorem at_step {n : Int} {r : Ct} {s : Db} (h : s.ok) {j : Nat} (hj : j < 36) : (s.step n r).at_ j = deb n (s.at_ j).1 (s.at_ j).2 (r.get j) := by
  unfold step
  rw [at_stepTo h 36 (Nat.le_refl _), if_pos hj]
  rfl
/-- At k what is read of contact k is what came in. -/
theorem debAt_stepTo {n : Int} {r : Ct} {s : Db} (h : s.ok) {k : Nat} (hk : k < 36) : deb n ((stepTo n r s k).c.get k) ((stepTo n r s k).n.getD k 0) (r.get k) = debAt n r s k := by
  have := at_stepTo (n := n) (r := r) h k (by omega) k
  rw [if_neg (by omega)] at this
  unfold at_ at this
  rw [Prod.mk.injEq] at this
  rw [this.1, this.2]
  rfl
theorem getD_all {l : List Int} {p : Int → Bool} : l.all p = true ↔ ∀ i, i < l.length → p (l.getD i 0) = true := by
  rw [List.all_eq_true]
  constructor
  · intro h i hi
    rw [List.getD_eq_getElem?_getD, List.getElem?_eq_getElem hi]
    exact h _ (List.getElem_mem hi)
  · intro h x hx
    obtain ⟨i, hi, rfl⟩ := List.getElem_of_mem hx
    have := h i hi
    rwa [List.getD_eq_getElem?_getD, List.getElem?_eq_getElem hi] at this
theorem isB_iff {n : Int} {s : Db} (h : s.ok) : isB n s = true ↔ (1 ≤ n ∧ n ≤ 16) ∧ ∀ i, i < 36 → 0 ≤ (s.at_ i).2 ∧ (s.at_ i).2 < n := by
  unfold isB
  rw [Bool.and_eq_true, decide_eq_true_iff, getD_all, h.n]
  simp only [decide_eq_true_iff]
  rfl
theorem deb_in {n : Int} {b r : Bool} {k : Int} (hn : 1 ≤ n) (h : 0 ≤ k ∧ k < n) : 0 ≤ (deb n b k r).2 ∧ (deb n b k r).2 < n := by
  unfold deb
  split
  · exact ⟨Int.le_refl _, by show (0 : Int) < n; omega⟩
  · split
    · exact ⟨Int.le_refl _, by show (0 : Int) < n; omega⟩
    · exact ⟨by show 0 ≤ k + 1; omega, by show k + 1 < n; omega⟩
/-- Behind a state for n is a state for n. -/
theorem isB_step {n : Int} {s : Db} {r : Ct} (h : s.ok) (hs : isB n s = true) : isB n (s.step n r) = true := by
  rw [isB_iff h] at hs
  rw [isB_iff (ok_step h)]
  refine ⟨hs.1, fun i hi => ?_⟩
  rw [at_step h hi]
  exact deb_in hs.1.1 (hs.2 i hi)
theorem zero_okD : zero.ok := ⟨Ct.zero_ok, by decide⟩
theorem isB_zero {n : Int} (h1 : 1 ≤ n) (h2 : n ≤ 16) : isB n zero = true := by
  unfold isB
  rw [Bool.and_eq_true, decide_eq_true_iff, List.all_eq_true]
  refine ⟨⟨h1, h2⟩, fun x hx => ?_⟩
  have := (List.mem_replicate.1 hx).2
  subst this
  exact decide_eq_true ⟨Int.le_refl _, by omega⟩
theorem ext36 {s t : Db} (hs : s.ok) (ht : t.ok) (h : ∀ i, i < 36 → s.at_ i = t.at_ i) : s = t := by
  have h1 := Ct.ext36 hs.c ht.c fun i hi => congrArg Prod.fst (h i hi)
  have h2 : s.n = t.n := by
    apply List.ext_getElem (by rw [hs.n, ht.n])
    intro i hi hi'
    have := congrArg Prod.snd (h i (by rw [hs.n] at hi; exact hi))
    unfold at_ at this
    simp only [List.getD_eq_getElem?_getD, List.getElem?_eq_getElem hi, List.getElem?_eq_getElem hi', Option.getD_some] at this
    exact this
  obtain ⟨_, _⟩ := s
  obtain ⟨_, _⟩ := t
  simp only at h1 h2
  subst h1 h2
  rfl

/-- The state behind some readings. -/
def run (n : Int) (s : Db) (l : List Ct) : Db := l.foldl (fun s r => s.step n r) s
theorem run_nil (n : Int) (s : Db) : s.run n [] = s := rfl
theorem run_snoc (n : Int) (s : Db) (l : List Ct) (r : Ct) : s.run n (l ++ [r]) = (s.run n l).step n r := by unfold run; rw [List.foldl_append]; rfl
theorem run_append (n : Int) (s : Db) (l m : List Ct) : s.run n (l ++ m) = (s.run n l).run n m := List.foldl_append
theorem ok_run {n : Int} {s : Db} (h : s.ok) : ∀ l, (s.run n l).ok
  | [] => h
  | r :: l => ok_run (s := s.step n r) (ok_step h) l
theorem isB_run {n : Int} {s : Db} (h : s.ok) (hs : isB n s = true) : ∀ l, isB n (s.run n l) = true
  | [] => hs
  | r :: l => isB_run (s := s.step n r) (ok_step h) (isB_step h hs) l
/-- What counts behind each reading. -/
def outs (n : Int) (s : Db) (l : List Ct) : List Ct := (List.range l.length).map fun i => (s.run n (l.take (i + 1))).c
theorem outs_len (n : Int) (s : Db) (l : List Ct) : (s.outs n l).length = l.length := by unfold outs; rw [List.length_map, List.length_range]
theorem outs_get (n : Int) (s : Db) (l : List Ct) {i : Nat} (h : i < l.length) : (s.outs n l)[i]'(by rw [outs_len]; exact h) = (s.run n (l.take (i + 1))).c := by
  unfold outs; simp
/-- A contact by itself, behind some readings. -/
def own (n : Int) (p : Bool × Int) (l : List Bool) : Bool × Int := l.foldl (fun p r => deb n p.1 p.2 r) p
theorem at_run {n : Int} {j : Nat} (hj : j < 36) : ∀ {s : Db} (_ : s.ok) (l : List Ct), (s.run n l).at_ j = own n (s.at_ j) (l.map fun c => c.get j)
  | s, _, [] => rfl
  | s, h, r :: l => by
    show ((s.step n r).run n l).at_ j = own n (deb n (s.at_ j).1 (s.at_ j).2 (r.get j)) _
    rw [at_run hj (ok_step h) l, at_step h hj]

/-- What is read as it counts stays. -/
theorem own_still (n : Int) (r : Bool) : ∀ k, own n (r, 0) (List.replicate k r) = (r, 0)
  | 0 => rfl
  | k + 1 => by
    show own n (deb n r 0 r) (List.replicate k r) = _
    have : deb n r 0 r = (r, 0) := by unfold deb; rw [if_pos rfl]
    rw [this]; exact own_still n r k
/-- What has been read n times in a row counts. -/
theorem own_follows {n : Int} {b r : Bool} : ∀ (m : Nat) {k : Int}, 0 ≤ k → k < n → n ≤ k + (m : Int) → 1 ≤ m → own n (b, k) (List.replicate m r) = (r, 0)
  | 0, _, _, _, _, h => absurd h (by omega)
  | m + 1, k, h0, h1, h2, _ => by
    show own n (deb n b k r) (List.replicate m r) = _
    unfold deb
    by_cases e : r = b
    · rw [if_pos e, ← e]; exact own_still n r m
    · rw [if_neg e]
      by_cases e2 : k + 1 = n
      · rw [if_pos e2]; exact own_still n r m
      · rw [if_neg e2]
        exact own_follows m (by omega) (by omega) (by omega) (by omega)
/-- Fewer than n readings turn nothing. -/
theorem own_short {n : Int} {b r : Bool} (hn : 1 ≤ n) : ∀ (m : Nat) {k : Int}, 0 ≤ k → k + (m : Int) < n → (own n (b, k) (List.replicate m r)).1 = b ∧ (own n (b, k) (List.replicate m r)).2 < n
  | 0, k, _, h => ⟨rfl, by show k < n; omega⟩
  | m + 1, k, h0, h1 => by
    show (own n (deb n b k r) (List.replicate m r)).1 = b ∧ (own n (deb n b k r) (List.replicate m r)).2 < n
    unfold deb
    by_cases e : r = b
    · rw [if_pos e]; exact own_short hn m (Int.le_refl _) (by omega)
    · rw [if_neg e, if_neg (by omega)]
      exact own_short hn m (by omega) (by omega)

theorem step_of (n : Int) (s : Db) (r : Ct) : s.step n r = s.run n [r] := rfl
theorem map_rep (m : Nat) (r : Ct) (j : Nat) : ((List.replicate m r).map fun c => c.get j) = List.replicate m (r.get j) := by rw [List.map_replicate]
/-- n equal readings: they count, and no contact differs from what counts. -/
theorem run_quiet {m : Nat} {s : Db} {r : Ct} (h : s.ok) (hr : r.ok) (hm : 1 ≤ m) (hs : isB m s = true) : s.run m (List.replicate m r) = ⟨r, List.replicate 36 0⟩ := by
  rw [isB_iff h] at hs
  refine ext36 (ok_run h _) ⟨hr, by simp⟩ fun i hi => ?_
  rw [at_run hi h, map_rep]
  have := hs.2 i hi
  rw [show s.at_ i = ((s.at_ i).1, (s.at_ i).2) from rfl, own_follows m this.1 this.2 (by omega) hm]
  unfold at_
  simp only
  rw [List.getD_eq_getElem?_getD, List.getElem?_replicate, if_pos hi]
  rfl
/-- Fewer than n other readings leave what counts. -/
theorem run_short {m : Nat} {r x : Ct} (hr : r.ok) (hm : 1 ≤ m) (hm2 : m ≤ 16) :
    ((Db.mk r (List.replicate 36 0)).run m (List.replicate (m - 1) x)).c = r ∧ ((Db.mk r (List.replicate 36 0)).run m (List.replicate (m - 1) x)).step m r = ⟨r, List.replicate 36 0⟩ := by
  have hok : (Db.mk r (List.replicate 36 0)).ok := ⟨hr, by simp⟩
  have h0 : ∀ i, i < 36 → (Db.mk r (List.replicate 36 0)).at_ i = (r.get i, 0) := fun i hi => by
    unfold at_
    simp only
    rw [List.getD_eq_getElem?_getD, List.getElem?_replicate, if_pos hi]
    rfl
  have hi1 : ∀ i, i < 36 → (((Db.mk r (List.replicate 36 0)).run m (List.replicate (m - 1) x)).at_ i).1 = r.get i := fun i hi => by
    rw [at_run hi hok, map_rep, h0 i hi]
    exact (own_short (by omega) (m - 1) (Int.le_refl _) (by omega)).1
  have hc : ((Db.mk r (List.replicate 36 0)).run m (List.replicate (m - 1) x)).c = r := Ct.ext36 (ok_run hok _).c hr fun i hi => hi1 i hi
  refine ⟨hc, ext36 (ok_step (ok_run hok _)) hok fun i hi => ?_⟩
  rw [at_step (ok_run hok _) hi, hi1 i hi, h0 i hi]
  unfold deb
  rw [if_pos rfl]
/-- Contacts do not influence each other. -/
theorem run_apart {n : Int} {j : Nat} (hj : j < 36) {s : Db} (h : s.ok) (l : List Ct) : (s.run n l).at_ j = (s.run n (l.map fun c => Ct.zero.set j (c.get j))).at_ j := by
  rw [at_run hj h, at_run hj h, List.map_map]
  congr 1
  apply List.map_congr_left
  intro c _
  simp [Ct.get_set_same _ hj]
end Db
end Go.Proofs.YtimaidiabjkgkaaDoor
