/- The order of float64 is transitive; the class of the loads of LoadKeeps. Plain facts. -/
import Derived.Test.YtaiciopfinlpiaaLdMath
namespace Go.Proofs.Ytaiciopfinlpiaa

theorem signed_add (s : Bool) (m a c : Nat) : Ieee.signed s m (a + c) = Ieee.signed s m a * ((2 ^ c : Nat) : Int) := by
  unfold Ieee.signed
  rw [Nat.shiftLeft_eq, Nat.shiftLeft_eq, Nat.pow_add, ← Nat.mul_assoc, Int.natCast_mul]
  cases s
  · rfl
  · simp [Int.neg_mul]
theorem cmp_lt {a b : Int} : compare a b = .lt ↔ a < b := by
  show compareOfLessAndEq _ _ = _ ↔ _
  unfold compareOfLessAndEq
  constructor
  · intro h
    split at h
    · assumption
    · split at h <;> cases h
  · intro h; rw [if_pos h]
theorem cmp_gt {a b : Int} : compare a b = .gt ↔ b < a := by
  show compareOfLessAndEq _ _ = _ ↔ _
  unfold compareOfLessAndEq
  constructor
  · intro h
    split at h
    · cases h
    · split at h
      · cases h
      · omega
  · intro h; rw [if_neg (by omega), if_neg (by omega)]
theorem cmp_eq {a b : Int} : compare a b = .eq ↔ a = b := by
  show compareOfLessAndEq _ _ = _ ↔ _
  unfold compareOfLessAndEq
  constructor
  · intro h
    split at h
    · cases h
    · split at h
      · assumption
      · cases h
  · intro h; rw [if_neg (by omega), if_pos h]
theorem cmp_mul {a b c : Int} (hc : 0 < c) : compare (a * c) (b * c) = compare a b := by
  rcases Int.lt_trichotomy a b with h | h | h
  · rw [cmp_lt.2 h, cmp_lt.2 (Int.mul_lt_mul_of_pos_right h hc)]
  · subst h; rw [cmp_eq.2 rfl, cmp_eq.2 rfl]
  · rw [cmp_gt.2 h, cmp_gt.2 (Int.mul_lt_mul_of_pos_right h hc)]
theorem cmp_scale (s t : Bool) (m n : Nat) {i j k : Int} (hi : k ≤ i) (hj : k ≤ j) :
    compare (Ieee.signed s m (i - min i j).toNat) (Ieee.signed t n (j - min i j).toNat) = compare (Ieee.signed s m (i - k).toNat) (Ieee.signed t n (j - k).toNat) := by
  have e1 : (i - k).toNat = (i - min i j).toNat + (min i j - k).toNat := by omega
  have e2 : (j - k).toNat = (j - min i j).toNat + (min i j - k).toNat := by omega
  rw [e1, e2, signed_add, signed_add, cmp_mul]
  have : 0 < 2 ^ (min i j - k).toNat := Nat.two_pow_pos _
  omega
theorem datum_trans {x y z : Ieee.Datum} (h1 : x.order y = some .gt ∨ x.order y = some .eq) (h2 : z.order y = some .lt) : z.order x = some .lt := by
  cases x with
  | nan => rcases h1 with h | h <;> cases h
  | infinity sx =>
    cases y with
    | nan => rcases h1 with h | h <;> cases h
    | infinity sy =>
      cases z with
      | nan => cases h2
      | infinity sz => cases sx <;> cases sy <;> cases sz <;> first | rfl | (exact absurd h2 (by decide)) | (exact absurd h1 (by decide))
      | number sz mz iz => cases sx <;> cases sy <;> first | rfl | (exact absurd h1 (by decide)) | (simp [Ieee.Datum.order] at h2; done)
    | number sy my iy =>
      cases z with
      | nan => cases h2
      | infinity sz => cases sx <;> cases sz <;> first | rfl | (simp [Ieee.Datum.order] at h1 h2; done)
      | number sz mz iz => cases sx <;> first | rfl | (simp [Ieee.Datum.order] at h1; done)
  | number sx mx ix =>
    cases y with
    | nan => rcases h1 with h | h <;> cases h
    | infinity sy =>
      cases z with
      | nan => cases h2
      | infinity sz => cases sy <;> cases sz <;> simp [Ieee.Datum.order] at h1 h2 ⊢ <;> (first | done | exact absurd h2 (by decide))
      | number sz mz iz => cases sy <;> simp [Ieee.Datum.order] at h1 h2
    | number sy my iy =>
      cases z with
      | nan => cases h2
      | infinity sz => cases sz <;> simp [Ieee.Datum.order] at h2 ⊢
      | number sz mz iz =>
        simp only [Ieee.Datum.order, Option.some.injEq] at h1 h2 ⊢
        rw [cmp_scale sx sy mx my (k := min ix (min iy iz)) (by omega) (by omega)] at h1
        rw [cmp_scale sz sy mz my (k := min ix (min iy iz)) (by omega) (by omega), cmp_lt] at h2
        rw [cmp_scale sz sx mz mx (k := min ix (min iy iz)) (by omega) (by omega), cmp_lt]
        rw [cmp_gt, cmp_eq] at h1
        omega
theorem datum_asymm {x y : Ieee.Datum} (h : x.order y = some .lt) : y.order x ≠ some .lt := by
  cases x <;> cases y
  all_goals simp only [Ieee.Datum.order, ne_eq, Option.some.injEq] at h ⊢
  case number.number sx mx ix sy my iy =>
    rw [cmp_lt] at h ⊢
    rw [Int.min_comm iy ix]
    omega
  all_goals first | (intro h'; cases h'; done) | (rename_i a b; cases a <;> cases b <;> simp_all; done) | (rename_i a b; revert h; cases a <;> cases b <;> decide) | (rename_i a _ _ b; cases a <;> cases b <;> simp_all; done) | (rename_i a _ _ _ ; cases a <;> simp_all; done) | (simp_all; done)
theorem flt_trans {x y z : Nat} (h1 : geB x y = true) (h2 : fltB z y = true) : fltB z x = true := by
  unfold geB at h1
  unfold fltB at h2 ⊢
  rw [Bool.or_eq_true, beq_iff_eq, beq_iff_eq] at h1
  rw [beq_iff_eq] at h2 ⊢
  exact datum_trans h1 h2
theorem flt_asymm {x y : Nat} (h : fltB x y = true) : fltB y x = false := by
  unfold fltB at h ⊢
  rw [beq_iff_eq] at h
  cases hq : (FloatKind.f64.format.order y x == some .lt) with
  | false => rfl
  | true => rw [beq_iff_eq] at hq; exact absurd hq (datum_asymm h)

def usual : BldD := bldX 4593671619917905920 4604930618986332160 4607182418800017408
theorem usual_valid' : validE usual = 0 := usual_valid
/-- The class of a load from a half to one, in the usual building. -/
theorem usual_class {x : Nat} (h1 : geB x 4602678819172646912 = true) (h2 : fltB x 4607182418800017408 = true) : classF usual x = if geB x 4604930618986332160 = true then 3 else 2 := by
  have hz : fltB 0 x = true := flt_trans h1 (by decide +kernel)
  have he : fltB 4593671619917905920 x = true := flt_trans h1 (by decide +kernel)
  have hn := (flt_num h2).1
  have h0 : geB x 0 = true := by rw [ge_not hn nan_zero, flt_asymm hz]; rfl
  have hf : geB x 4604930618986332160 = !fltB x 4604930618986332160 := ge_not hn (by decide +kernel)
  have e1 : usual.empty = 4593671619917905920 := rfl
  have e2 : usual.full = 4604930618986332160 := rfl
  have e3 : usual.over = 4607182418800017408 := rfl
  unfold classF
  rw [if_pos usual_valid', h0, if_neg (by simp), e1, e2, e3, flt_asymm he, if_neg (by simp), h2, hf]
  cases fltB x 4604930618986332160 <;> rfl
theorem usual_less : lessB usual.full = 4604367669032910848 := by decide +kernel
/-- A full car stays full while its load is not more than a sixteenth below the threshold. -/
theorem usual_keeps {x : Nat} {s : Int} {full : Bool} (h1 : geB x 4602678819172646912 = true) (h2 : fltB x 4607182418800017408 = true) (hs : s = 0 ∨ s = 2 ∨ s = 3) (hf : full = decide (s = 3)) :
    stepF usual s x = if (geB x 4604930618986332160 || (full && geB x 4604367669032910848)) = true then 3 else 2 := by
  have hst : stayB usual 3 x = geB x 4604367669032910848 := by unfold stayB; rw [if_pos rfl, usual_less]
  unfold stepF
  rw [usual_class h1 h2, hf]
  cases hg : geB x 4604930618986332160
  · rcases hs with rfl | rfl | rfl
    · simp
    · simp
    · rw [hst]; cases geB x 4604367669032910848 <;> simp
  · rcases hs with rfl | rfl | rfl <;> simp
theorem rest_load : geB 4604367669032910848 4602678819172646912 = true ∧ fltB 4604367669032910848 4607182418800017408 = true := by decide +kernel
end Go.Proofs.Ytaiciopfinlpiaa
