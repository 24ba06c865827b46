/- Plain facts on loads: order of float64, the class of a load, the class behind a reading. -/
import Derived.Test.YtaiciopfinlpiaaRefValid
import Derived.Test.YtaiciopfinlpiaaSampleValid
import Derived.Laws.FloatArith
namespace Go.Proofs.Ytaiciopfinlpiaa

/-- Go's 'x >= y' on float64, by their bits. -/
def geB (x y : Nat) : Bool := FloatKind.f64.format.order x y == some .gt || FloatKind.f64.format.order x y == some .eq
def nanB (x : Nat) : Bool := (FloatKind.f64.format.read x).isNaN
def sixteenth : Nat := 4589168020290535424
def lessB (x : Nat) : Nat := (floatBits .sub .f64 x sixteenth).getD 0

theorem ord_nan {x y : Nat} (h : nanB x = true) : FloatKind.f64.format.order x y = none := by
  unfold nanB at h
  unfold Ieee.Format.order
  generalize FloatKind.f64.format.read x = d at *
  cases d with
  | number => cases h
  | infinity => cases h
  | nan n t => rfl
theorem ord_some {x y : Nat} (hx : nanB x = false) (hy : nanB y = false) : ∃ o, FloatKind.f64.format.order x y = some o := by
  unfold nanB at hx hy
  unfold Ieee.Format.order
  generalize FloatKind.f64.format.read x = d at *
  generalize FloatKind.f64.format.read y = e at *
  cases d <;> cases e <;> first | (cases hx; done) | (cases hy; done) | exact ⟨_, rfl⟩
theorem compare_self (z : Int) : compare z z = .eq := by
  show compareOfLessAndEq _ _ = _
  unfold compareOfLessAndEq
  rw [if_neg (by omega), if_pos rfl]
theorem ord_self {x : Nat} (hx : nanB x = false) : FloatKind.f64.format.order x x = some .eq := by
  unfold nanB at hx
  unfold Ieee.Format.order
  generalize FloatKind.f64.format.read x = d at *
  cases d with
  | number s m i => simp only [Ieee.Datum.order]; rw [compare_self]
  | infinity s => cases s <;> rfl
  | nan => cases hx
/-- 'x != x' on float64. -/
theorem ne_self (x : Nat) : (FloatKind.f64.format.order x x != some .eq) = nanB x := by
  rcases Bool.eq_false_or_eq_true (nanB x) with h | h
  · rw [ord_nan h, h]; rfl
  · rw [ord_self h, h]; rfl
theorem ge_not {x y : Nat} (hx : nanB x = false) (hy : nanB y = false) : geB x y = !fltB x y := by
  obtain ⟨o, ho⟩ := ord_some hx hy
  unfold geB fltB
  rw [ho]
  cases o <;> rfl
theorem ge_nan {x y : Nat} (hx : nanB x = true) : geB x y = false := by
  unfold geB
  rw [ord_nan hx]
  rfl
theorem flt_num {x y : Nat} (h : fltB x y = true) : nanB x = false ∧ nanB y = false := by
  unfold fltB Ieee.Format.order at h
  unfold nanB
  generalize FloatKind.f64.format.read x = d at *
  generalize FloatKind.f64.format.read y = e at *
  cases d <;> cases e <;> first | exact ⟨rfl, rfl⟩ | exact Bool.noConfusion (show false = true from h)
theorem nan_zero : nanB 0 = false := by decide +kernel
theorem sixteenth_read : (FloatKind.f64.format.read sixteenth).opposite = .number true 4503599627370496 (-56) := by decide +kernel

theorem nan_word (neg : Bool) (rung : Nat) (h : rung ≤ 9218868437227405312) : nanB (FloatKind.f64.format.word neg rung) = false := by
  have hb : FloatKind.f64.format.binade = 4503599627370496 := by decide +kernel
  have hi : FloatKind.f64.format.infRung = 9218868437227405312 := by decide +kernel
  have hs : FloatKind.f64.format.signWeight = 9223372036854775808 := by decide +kernel
  unfold nanB Ieee.Format.read
  rw [hb, hi, hs]
  have hw : FloatKind.f64.format.word neg rung % 9223372036854775808 = rung := by
    unfold Ieee.Format.word
    rw [hs]
    split <;> omega
  dsimp only
  rw [hw]
  split
  · rfl
  · split
    · rfl
    · rw [if_pos (by omega)]; rfl

/-- A difference of a number and a sixteenth is a number. -/
theorem less_ok {x : Nat} (hx : nanB x = false) : floatBits .sub .f64 x sixteenth = some (lessB x) ∧ nanB (lessB x) = false := by
  have hi : FloatKind.f64.format.infRung = 9218868437227405312 := by decide +kernel
  have key : ∃ r, floatBits .sub .f64 x sixteenth = some r ∧ nanB r = false := by
    show ∃ r, FloatKind.f64.format.sub x sixteenth = some r ∧ nanB r = false
    unfold Ieee.Format.sub
    rw [sixteenth_read]
    unfold nanB at hx
    generalize FloatKind.f64.format.read x = d at *
    cases d with
    | nan => cases hx
    | infinity s => exact ⟨_, rfl, nan_word _ _ (by rw [hi]; omega)⟩
    | number s m i =>
      refine ⟨_, rfl, ?_⟩
      show nanB (FloatKind.f64.format.nearest _ _ _) = false
      unfold Ieee.Format.nearest
      split
      · exact nan_word _ _ (by omega)
      · exact nan_word _ _ (by rw [hi]; omega)
  obtain ⟨r, hr, hn⟩ := key
  unfold lessB
  rw [hr]
  exact ⟨rfl, hn⟩

/-- The thresholds of a valid building are numbers. -/
theorem loads_num {b : BldD} (h : validE b = 0) : nanB b.empty = false ∧ nanB b.full = false ∧ nanB b.over = false := by
  have hl : loadsB b = true := by
    unfold validE at h
    cases hq : loadsB b with
    | true => rfl
    | false => rw [hq] at h; split at h; (· omega); split at h; (· omega); split at h; (· omega); simp at h
  rw [loadsB_eq] at hl
  simp only [Bool.and_eq_true] at hl
  exact ⟨(flt_num hl.2.1).1, (flt_num hl.2.1).2, (flt_num hl.2.2.1).2⟩

/-- The class of a load. -/
def classF (b : BldD) (x : Nat) : Int :=
  if validE b = 0 then if geB x 0 = false then 0 else if fltB x b.empty = true then 1 else if fltB x b.full = true then 2 else if fltB x b.over = true then 3 else 4 else 0
/-- Whether a load is not far enough below the threshold of a class to leave it. -/
def stayB (b : BldD) (c : Int) (x : Nat) : Bool := if c = 3 then geB x (lessB b.full) else if c = 4 then geB x (lessB b.over) else false
/-- The class behind a reading. -/
def stepF (b : BldD) (s : Int) (x : Nat) : Int := if ¬ classF b x = 0 ∧ classF b x < s ∧ stayB b s x = true then s else classF b x

theorem classF_range (b : BldD) (x : Nat) : 0 ≤ classF b x ∧ classF b x ≤ 4 := by
  unfold classF
  repeat' split
  all_goals omega
theorem classF_num {b : BldD} {x : Nat} (h : ¬ classF b x = 0) : validE b = 0 ∧ nanB x = false := by
  by_cases hv : validE b = 0
  · refine ⟨hv, ?_⟩
    unfold classF at h
    rw [if_pos hv] at h
    cases hq : nanB x with
    | false => rfl
    | true => rw [if_pos (ge_nan hq)] at h; exact absurd rfl h
  · unfold classF at h
    rw [if_neg hv] at h
    exact absurd rfl h
theorem stepF_range {b : BldD} {s : Int} (x : Nat) (h0 : -9223372036854775808 ≤ s) (h1 : s < 9223372036854775808) : -9223372036854775808 ≤ stepF b s x ∧ stepF b s x < 9223372036854775808 := by
  have := classF_range b x
  unfold stepF
  split <;> omega
/-- All classes behind some loads. -/
def runF (b : BldD) (s : Int) : List Nat → Int
  | [] => s
  | x :: l => runF b (stepF b s x) l
theorem runF_snoc (b : BldD) (l : List Nat) (x : Nat) : ∀ s, runF b s (l ++ [x]) = stepF b (runF b s l) x := by
  induction l with
  | nil => intro s; rfl
  | cons y l ih => intro s; exact ih _
theorem runF_range {b : BldD} (l : List Nat) : ∀ {s : Int}, -9223372036854775808 ≤ s → s < 9223372036854775808 → -9223372036854775808 ≤ runF b s l ∧ runF b s l < 9223372036854775808 := by
  induction l with
  | nil => intro s h0 h1; exact ⟨h0, h1⟩
  | cons y l ih => intro s h0 h1; have := stepF_range (b := b) y h0 h1; exact ih this.1 this.2
def outsF (b : BldD) (s : Int) (l : List Nat) : List Int := (List.range l.length).map fun i => runF b s (l.take (i + 1))
theorem outsF_len (b : BldD) (s : Int) (l : List Nat) : (outsF b s l).length = l.length := by simp [outsF]

/-- The building of the statements: these thresholds, or usual ones. -/
def bldX (t0 t1 t2 : Nat) : BldD := ⟨5, 1, 4000, 30, t0, t1, t2, sampleCars 5 2⟩
def bldD (t0 t1 t2 : Nat) : BldD := if validE (bldX t0 t1 t2) = 0 then bldX t0 t1 t2 else bldX 4593671619917905920 4604930618986332160 4607182418800017408
theorem usual_loads : ascB [0, 4593671619917905920, 4604930618986332160, 4607182418800017408, 9218868437227405312] = true := by decide +kernel
theorem usual_valid : validE (bldX 4593671619917905920 4604930618986332160 4607182418800017408) = 0 := by
  have hs := sample_valid 5 2 (by omega) (by omega) (by omega) (by omega)
  have a1 : inAll 2 32 [(sampleD 5 2).floors] = true := by simp [inAll, sampleD]
  have a2 : inAll 1 8 [((sampleD 5 2).cars.length : Int)] = true := by simp [inAll, sampleD, sampleCars_length]
  have a3 : timesFitB (sampleD 5 2) = true := by
    cases h : timesFitB (sampleD 5 2) with
    | true => rfl
    | false => unfold validE at hs; rw [a1, a2, h] at hs; simp at hs
  have a4 : loadsB (bldX 4593671619917905920 4604930618986332160 4607182418800017408) = true := usual_loads
  have a5 : roomB (sampleD 5 2) = true := by simp [roomB, inAll, sampleD, sampleCars_length]
  have b3 : timesFitB (bldX 4593671619917905920 4604930618986332160 4607182418800017408) = true := a3
  have b1 : inAll 2 32 [(bldX 4593671619917905920 4604930618986332160 4607182418800017408).floors] = true := a1
  have b2 : inAll 1 8 [((bldX 4593671619917905920 4604930618986332160 4607182418800017408).cars.length : Int)] = true := a2
  have b5 : roomB (bldX 4593671619917905920 4604930618986332160 4607182418800017408) = true := a5
  unfold validE
  rw [b1, b2, b3, a4, b5]
  rfl
theorem bld_valid (t0 t1 t2 : Nat) : validE (bldD t0 t1 t2) = 0 := by
  unfold bldD
  split
  · assumption
  · exact usual_valid
end Go.Proofs.Ytaiciopfinlpiaa
