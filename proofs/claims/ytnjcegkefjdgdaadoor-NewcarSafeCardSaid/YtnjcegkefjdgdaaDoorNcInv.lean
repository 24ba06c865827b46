/- The control of a modernised car, plainly: behind a step there is a state again, and what never happens. No statement of the seat is proved here. -/
import Derived.Test.YtnjcegkefjdgdaaDoorG19
namespace Go.Proofs.YtnjcegkefjdgdaaDoor
open Go.RowKit

namespace Mo
theorem later_t {s : Mo} (h : 0 ≤ s.t ∧ s.t ≤ 1000000) : 1 ≤ s.later.t ∧ s.later.t ≤ 1000000 ∧ s.later.c = s.c ∧ s.later.f = s.f := by
  unfold later
  split
  · exact ⟨by simp only; omega, by simp only; omega, rfl, rfl⟩
  · exact ⟨by omega, by omega, rfl, rfl⟩
theorem isB_later {F : Int} {s : Mo} (h : isB F s = true) : isB F s.later = true := by
  obtain ⟨a, b, c⟩ := s
  obtain ⟨h1, h2, h3⟩ := isB_range h
  obtain ⟨l1, l2, l3, l4⟩ := later_t (s := ⟨a, b, c⟩) h2
  generalize later ⟨a, b, c⟩ = l at *
  obtain ⟨x, y, z⟩ := l
  simp only at l1 l2 l3 l4
  subst l3 l4
  rw [isB_c h1 ⟨by omega, l2⟩]
  rw [isB_c h1 h2] at h
  exact h
theorem stepF_isB {F : Int} {s : Mo} {fl : Int} {lv : Bool} {m : Int} (hF : 2 ≤ F ∧ F ≤ 32) : isB F (stepF F s fl lv m).1 = true := by
  have hz : isB F zero = true := isB_none hF (by omega)
  unfold stepF
  split
  · exact hz
  · rename_i hg
    have hb : isB F s = true := by
      cases h : isB F s
      · exact absurd (by rw [h]; rfl) hg
      · rfl
    split
    · split
      · exact hz
      · exact isB_later hb
    · split
      · exact isB_later hb
      · split
        · rename_i h; exact h.2
        · exact hz
/-- A tick without a wish: the step is over, or the car stands level; or it goes on. -/
theorem stepF_on {F : Int} {s : Mo} {fl : Int} {lv : Bool} (hs : isB F s = true) (hf : 0 ≤ fl ∧ fl < F) :
    (stepF F s fl lv 0).1 = zero ∧ lv = true ∧ (stepF F s fl lv 0).2.1 = 0 ∨ 1 ≤ (stepF F s fl lv 0).1.t ∧ (stepF F s fl lv 0).1.c = s.c ∧ (stepF F s fl lv 0).2.1 = s.c := by
  have hr := (isB_range (F := F) (a := s.c) (b := s.t) (c := s.f) hs).2.1
  have hl := later_t (s := s) hr
  unfold stepF
  rw [hs, isF_of hf.1 hf.2]
  rw [if_neg (by decide)]
  split
  · split
    · rename_i h; exact .inl ⟨rfl, h.1, rfl⟩
    · exact .inr ⟨hl.1, hl.2.2.1, rfl⟩
  · rename_i h0
    have h0 : s.c = 0 := by omega
    split
    · exact .inr ⟨hl.1, hl.2.2.1, by rw [h0]⟩
    · rw [if_neg (by simp)]
      refine .inl ⟨rfl, ?_, rfl⟩
      rename_i h
      simpa using h
end Mo
namespace Dr
theorem stepG_cmd (dw ho : Int) (s : Dr) (d : Int) (b w : Bool) : (stepG dw ho s d b w).2 ≠ 1 ∧ (stepG dw ho s d b w).2 ≠ 2 := by
  unfold stepG
  repeat' split
  all_goals simp
theorem stepF_cmd (dw ho : Int) (s : Dr) (d : Int) (b w : Bool) : (stepF dw ho s d b w).2 ≠ 1 ∧ (stepF dw ho s d b w).2 ≠ 2 := by
  unfold stepF
  split <;> exact stepG_cmd _ _ _ _ _ _
end Dr
namespace Nc
/-- What a state without a fault is. -/
structure Good (F : Int) (s : Nc) : Prop where
  sd : 0 ≤ s.sd ∧ s.sd ≤ 2
  so : 0 ≤ s.so ∧ s.so ≤ 7
  dr : s.dr.isB = true
  mo : Mo.isB F s.mo = true
  one : s.dr = Dr.zero ∨ s.mo = Mo.zero
  ca : fits F s.ca = s.ca
  sh : 0 ≤ s.sh ∧ s.sh ≤ 2
  il : 0 ≤ s.il ∧ s.il ≤ 1000000
theorem good_iff {F : Int} {s : Nc} : goodB F s = true ↔ Good F s := by
  unfold goodB
  simp only [Bool.and_eq_true, Bool.or_eq_true, wi_iff, drB_iff, moB_iff, beq_iff_eq]
  constructor
  · rintro ⟨⟨h1, h2⟩, h3, h4, h5, h6, h7, h8⟩
    exact ⟨h1, h2, h3, h4, h5, h6.symm, h7, h8⟩
  · rintro ⟨h1, h2, h3, h4, h5, h6, h7, h8⟩
    exact ⟨⟨h1, h2⟩, h3, h4, h5, h6.symm, h7, h8⟩
theorem fits_lt {F : Int} (hF : F ≤ 32) (p : Nat) : fits F p < 4294967296 := by
  have h1 : fits F p ≤ allF F := Nat.and_le_right
  have h2 := Cv.all_lt (F := F.toNat) (by omega)
  unfold allF at h1
  unfold Cv.all at h2
  omega
theorem Good.ca_lt {F : Int} {s : Nc} (hF : F ≤ 32) (h : Good F s) : s.ca < 4294967296 := by
  rw [← h.ca]; exact fits_lt hF _
theorem fits_fits (F : Int) (p : Nat) : fits F (fits F p) = fits F p := by
  unfold fits
  rw [Nat.and_assoc, Nat.and_self]
theorem fits_minus {F : Int} {p q : Nat} (h : fits F p = p) : fits F (minus p q) = minus p q := by
  unfold minus
  unfold fits at h ⊢
  rw [Nat.and_assoc, Nat.and_comm _ (allF F), ← Nat.and_assoc, h]
theorem fits_or {F : Int} {p q : Nat} (h : fits F p = p) (h2 : fits F q = q) : fits F (p ||| q) = p ||| q := by
  unfold fits at h h2 ⊢
  rw [Nat.and_or_distrib_right, h, h2]
theorem fits_heard (F : Int) (x : Fb) (s : Nc) (p : Nat) : fits F (heard F x s p) = heard F x s p := by
  unfold heard
  split
  · exact fits_fits F p
  · exact fits_minus (fits_fits F p)
theorem Good.told {F : Int} {s : Nc} (h : Good F s) (x : Fb) (p : Nat) : Good F (told F x p s) :=
  ⟨h.sd, h.so, h.dr, h.mo, h.one, fits_or h.ca (fits_heard F x s p), h.sh, h.il⟩
theorem Good.turnDoor {F : Int} {s : Nc} (h : Good F s) (hm : s.mo = Mo.zero) (c : CarD) (x : Fb) (w : Bool) : Good F (Nc.turnDoor c x s w).1 :=
  ⟨h.sd, h.so, Dr.stepF_isB _ _ _ _ _ _, h.mo, .inr hm, h.ca, h.sh, ⟨Int.le_refl 0, by show (0 : Int) ≤ 1000000; decide⟩⟩
theorem Good.turned {F : Int} {s : Nc} (h : Good F s) (x : Fb) : Good F (Nc.turned x s) := by
  unfold Nc.turned
  split
  · exact ⟨h.sd, h.so, h.dr, h.mo, h.one, fits_minus h.ca, h.sh, h.il⟩
  · split
    · exact ⟨h.sd, h.so, h.dr, h.mo, h.one, h.ca, ⟨Int.le_refl 0, by show (0 : Int) ≤ 2; decide⟩, h.il⟩
    · exact h
theorem Good.cycle {F : Int} {s : Nc} (h : Good F s) (hm : s.mo = Mo.zero) (c : CarD) (x : Fb) : Good F (Nc.cycle c x s).1 := (h.turnDoor hm c x false).turned x
theorem Good.move {F : Int} {s : Nc} (hF : 2 ≤ F ∧ F ≤ 32) (h : Good F s) (hd : s.dr = Dr.zero) (x : Fb) (m : Int) : Good F (Nc.move F x s m).1 :=
  ⟨h.sd, h.so, h.dr, Mo.stepF_isB hF, .inl hd, h.ca, h.sh, h.il⟩
theorem Good.underway {F : Int} {s : Nc} (h : Good F s) : Good F (Nc.underway s) := by
  unfold Nc.underway
  split
  · exact h
  · exact ⟨h.sd, h.so, h.dr, h.mo, h.one, h.ca, h.sh, ⟨Int.le_refl 0, by show (0 : Int) ≤ 1000000; decide⟩⟩
theorem or_one_le {q : Nat} (h : q ≤ 7) : q ||| 1 ≤ 7 := by
  have := (by decide +kernel : ∀ q : Fin 8, q.val ||| 1 ≤ 7) ⟨q, by omega⟩
  exact this
theorem Good.foundOpen {F : Int} {s : Nc} (h : Good F s) (hm : s.mo = Mo.zero) : Good F (Nc.foundOpen s) := by
  have h1 := h.so
  have h2 := or_one_le (q := s.so.toNat) (by omega)
  exact ⟨h.sd, ⟨by show (0 : Int) ≤ ((s.so.toNat ||| 1 : Nat) : Int); omega, by show ((s.so.toNat ||| 1 : Nat) : Int) ≤ 7; omega⟩, by show Dr.isB ⟨1, 0, 0, false, 0⟩ = true; decide, h.mo, .inr hm, h.ca, ⟨Int.le_refl 0, by show (0 : Int) ≤ 2; decide⟩, h.il⟩
theorem more_range {n : Int} (h : 0 ≤ n ∧ n ≤ 1000000) : 0 ≤ more n ∧ more n ≤ 1000000 := by
  unfold more
  split <;> omega
theorem Good.rest {b : BldD} {s : Nc} (hF : 2 ≤ b.floors ∧ b.floors ≤ 32) (h : Good b.floors s) (hd : s.dr = Dr.zero) (k : Int) (x : Fb) : Good b.floors (Nc.rest b k x s).1 := by
  unfold Nc.rest
  split
  · exact ⟨h.sd, h.so, h.dr, h.mo, h.one, h.ca, h.sh, more_range h.il⟩
  · exact h.move hF hd x _
theorem choice_in (F : Int) (x : Fb) (h : Cs) (s : Nc) (hs : 0 ≤ s.sd ∧ s.sd ≤ 2) : choice F x h s ∈ [Cv.openC 0, Cv.openC 1, Cv.openC 2, Cv.moveC 0, Cv.moveC 1, Cv.moveC 2] :=
  Cv.ch_in _ _ (Cv.look_fit _ _ _ _) (by omega)
theorem choice_le {F : Int} {x : Fb} {h : Cs} {s : Nc} (hs : 0 ≤ s.sd ∧ s.sd ≤ 2) : (choice F x h s).dir ≤ 2 ∧ (choice F x h s).sh ≤ 2 := by
  have := choice_in F x h s hs
  generalize choice F x h s = z at *
  simp only [List.mem_cons, List.not_mem_nil, or_false] at this
  rcases this with rfl | rfl | rfl | rfl | rfl | rfl <;> decide
theorem opened_le {q : Nat} {c : Cv.Ch} (hq : q ≤ 7) (hc : c.sh ≤ 2) : Cv.opened q c ≤ 7 := by
  unfold Cv.opened
  split
  · have := (by decide +kernel : ∀ q : Fin 8, ∀ k : Fin 3, q.val ||| 2 ^ k.val ≤ 7) ⟨q, by omega⟩ ⟨c.sh, by omega⟩
    exact this
  · omega
theorem Good.swept {F : Int} {s : Nc} (h : Good F s) (x : Fb) (ha : Cs) : Good F (Nc.swept F x ha s) := by
  have h1 := choice_le (F := F) (x := x) (h := ha) h.sd
  have hcd : Cv.cd s.so.toNat x.fl.toNat (Cv.cnt F.toNat (stops s ha)) ≤ 7 := by have := h.so; unfold Cv.cd; split <;> omega
  have h2 := opened_le hcd h1.2
  exact ⟨⟨by show (0 : Int) ≤ ((choice F x ha s).dir : Int); omega, by show ((choice F x ha s).dir : Int) ≤ 2; omega⟩, ⟨by show (0 : Int) ≤ ((Cv.opened _ _ : Nat) : Int); omega, by show ((Cv.opened _ _ : Nat) : Int) ≤ 7; omega⟩, h.dr, h.mo, h.one, h.ca, h.sh, h.il⟩
theorem Good.choose {b : BldD} {s : Nc} (hF : 2 ≤ b.floors ∧ b.floors ≤ 32) (h : Good b.floors s) (hd : s.dr = Dr.zero) (hm : s.mo = Mo.zero) (k : Int) (c : CarD) (x : Fb) (ha : Cs) : Good b.floors (Nc.choose b k c x ha s).1 := by
  have h0 := h.swept x ha
  have h1 := choice_le (F := b.floors) (x := x) (h := ha) h.sd
  unfold Nc.choose
  split
  · exact Good.turnDoor (s := {Nc.swept b.floors x ha s with sh := ((choice b.floors x ha s).sh : Int)}) ⟨h0.sd, h0.so, h0.dr, h0.mo, h0.one, h0.ca, ⟨by show (0 : Int) ≤ ((choice b.floors x ha s).sh : Int); omega, by show ((choice b.floors x ha s).sh : Int) ≤ 2; omega⟩, h0.il⟩ hm c x true
  · split
    · exact Good.move (s := {Nc.swept b.floors x ha s with il := 0}) hF ⟨h0.sd, h0.so, h0.dr, h0.mo, h0.one, h0.ca, h0.sh, ⟨Int.le_refl 0, by show (0 : Int) ≤ 1000000; decide⟩⟩ hd x _
    · exact h0.rest hF hd k x
theorem Good.control {b : BldD} {s : Nc} (hF : 2 ≤ b.floors ∧ b.floors ≤ 32) (h : Good b.floors s) (k : Int) (c : CarD) (x : Fb) (ha : Cs) : Good b.floors (Nc.control b k c x ha s).1 := by
  unfold Nc.control
  split
  · rename_i hd
    have hm : s.mo = Mo.zero := h.one.resolve_left (fun e => by rw [drB_iff.2 e] at hd; cases hd)
    exact h.cycle hm c x
  · rename_i hd
    have hd : s.dr = Dr.zero := drB_iff.1 (by simpa using hd)
    have h1 := h.move hF hd x 0
    split
    · exact h1.underway
    · rename_i hm
      have hm : (Nc.move b.floors x s 0).1.mo = Mo.zero := moB_iff.1 (by simpa using hm)
      split
      · exact (h1.foundOpen hm).cycle hm c x
      · exact h1.choose hF hd hm k c x ha
theorem stB_good {F : Int} {s : Nc} (h : Good F s) (hf : s.fa = false) : stB F s = true := by
  unfold stB
  rw [hf, if_neg (by decide)]
  exact good_iff.2 h
theorem stB_faulty (F : Int) : stB F faulty = true := by unfold stB; rw [if_pos (show faulty.fa = true from rfl)]; exact same_self _
theorem stB_cases {F : Int} {s : Nc} (h : stB F s = true) : s = faulty ∨ (s.fa = false ∧ Good F s) := by
  unfold stB at h
  cases hf : s.fa
  · rw [hf, if_neg (by decide)] at h
    exact .inr ⟨rfl, good_iff.1 h⟩
  · rw [hf, if_pos rfl] at h
    exact .inl ((same_iff _ _).1 h)
theorem control_fa (b : BldD) (k : Int) (c : CarD) (x : Fb) (ha : Cs) (s : Nc) : (Nc.control b k c x ha s).1.fa = s.fa := by
  unfold Nc.control
  split
  · unfold Nc.cycle Nc.turned
    split
    · rfl
    · split <;> rfl
  · split
    · unfold Nc.underway
      split <;> rfl
    · split
      · unfold Nc.cycle Nc.turned
        split
        · rfl
        · split <;> rfl
      · unfold Nc.choose
        split
        · rfl
        · split
          · rfl
          · unfold Nc.rest
            split <;> rfl
theorem watched_st {F : Int} {c : CarD} {r : Nc × Int} (h : stB F r.1 = true) : stB F (watched c r).1 = true := by
  unfold watched
  split
  · exact stB_faulty F
  · exact h
/-- Behind a step there is a state. -/
theorem stepG_st {b : BldD} {k : Int} {s : Nc} (x : Fb) (p : Nat) (ha : Cs) (hF : 2 ≤ b.floors ∧ b.floors ≤ 32) (h : stB b.floors s = true) : stB b.floors (stepG b k s x p ha).1 = true := by
  unfold stepG
  rcases stB_cases h with rfl | ⟨hf, hg⟩
  · rw [if_pos (show faulty.fa = true from rfl)]; exact stB_faulty _
  · rw [hf, if_neg (by decide)]
    refine watched_st (stB_good ((hg.told x p).control hF k _ x ha) ?_)
    rw [control_fa]
    exact hf
/-- What never happens in a step: as the document's consequences have it. -/
structure Safe (F : Int) (x : Fb) (s : Nc) (r : Nc × Int) : Prop where
  begins : r.1.mo.c ≠ 0 → s.mo ≠ r.1.mo → r.1.mo.t = 0 → x.dd = 2 ∧ x.lv = true ∧ r.2 = r.1.mo.c ∧ ¬ (r.2 = 1 ∧ x.fl = F - 1) ∧ ¬ (r.2 = 2 ∧ x.fl = 0)
  goes : r.2 = 1 ∨ r.2 = 2 → r.1.mo.c = r.2
  opens : s.dr.st = 0 → r.1.dr.st ≠ 0 → x.lv = true
theorem cycle_mo (c : CarD) (x : Fb) (s : Nc) : (Nc.cycle c x s).1.mo = s.mo := by
  unfold Nc.cycle Nc.turned
  split
  · rfl
  · split <;> rfl
theorem cycle_cmd (c : CarD) (x : Fb) (s : Nc) : (Nc.cycle c x s).2 ≠ 1 ∧ (Nc.cycle c x s).2 ≠ 2 := Dr.stepF_cmd _ _ _ _ _ _
theorem safe_begin {F : Int} {x : Fb} {s q : Nc} {m : Int} (hF : 2 ≤ F ∧ F ≤ 32) (hf : 0 ≤ x.fl ∧ x.fl ≤ F - 1) (hd : x.dd = 2) (hl : x.lv = true) (hq : q.mo = Mo.zero) (hm : m = 1 ∨ m = 2) : Safe F x s (Nc.move F x q m) := by
  have h := Mo.step_begin (F := F) (fl := x.fl) (want := m) hF hf.1 (by omega) hm
  unfold Nc.move
  rw [hq, hl, h]
  split
  · exact ⟨fun h => absurd rfl h, (fun h => by rcases h with h | h <;> cases h), fun _ _ => hl⟩
  · rename_i hn
    exact ⟨fun _ _ _ => ⟨hd, hl, rfl, fun h => hn (.inl h), fun h => hn (.inr h)⟩, fun _ => rfl, fun _ _ => hl⟩
theorem safe_control {b : BldD} {k : Int} {c : CarD} {x : Fb} {ha : Cs} {s s0 : Nc} (hF : 2 ≤ b.floors ∧ b.floors ≤ 32) (hf : 0 ≤ x.fl ∧ x.fl ≤ b.floors - 1) (h : Good b.floors s) (e2 : s0.dr = s.dr) :
    Safe b.floors x s0 (Nc.control b k c x ha s) := by
  unfold Nc.control
  split
  · rename_i hd
    have hm : s.mo = Mo.zero := h.one.resolve_left (fun e => by rw [drB_iff.2 e] at hd; cases hd)
    have hc := cycle_cmd c x s
    refine ⟨fun h1 => absurd (by rw [cycle_mo, hm]; rfl) h1, fun h1 => ?_, fun h1 => ?_⟩
    · rcases h1 with h1 | h1
      · exact absurd h1 hc.1
      · exact absurd h1 hc.2
    · rw [e2] at h1
      exfalso
      have := Dr.isB_zero h.dr h1
      rw [drB_iff.2 this] at hd
      cases hd
  · rename_i hd
    have hd : s.dr = Dr.zero := drB_iff.1 (by simpa using hd)
    have ho := Mo.stepF_on (lv := x.lv) h.mo ⟨hf.1, by omega⟩
    split
    · rename_i hm
      rcases ho with ⟨o1, -, -⟩ | ⟨o1, o2, o3⟩
      · exfalso
        rw [moB_iff.2 (show (Nc.move b.floors x s 0).1.mo = Mo.zero from o1)] at hm
        cases hm
      · have hu : (underway (Nc.move b.floors x s 0).1).mo = (Mo.stepF b.floors s.mo x.fl x.lv 0).1 := by unfold underway; split <;> rfl
        have hv : (underway (Nc.move b.floors x s 0).1).dr = s.dr := by unfold underway; split <;> rfl
        refine ⟨fun _ _ h3 => ?_, fun _ => ?_, fun h1 h2 => ?_⟩
        · exfalso
          simp only [hu] at h3
          omega
        · show (underway (Nc.move b.floors x s 0).1).mo.c = (Mo.stepF b.floors s.mo x.fl x.lv 0).2.1
          rw [hu, o2, o3]
        · exfalso
          simp only [hv] at h2
          rw [e2] at h1
          exact h2 h1
    · rename_i hm
      have hm : (Nc.move b.floors x s 0).1.mo = Mo.zero := moB_iff.1 (by simpa using hm)
      have hl : x.lv = true := by
        rcases ho with ⟨-, o2, -⟩ | ⟨o1, -, -⟩
        · exact o2
        · exfalso
          have hm2 : (Mo.stepF b.floors s.mo x.fl x.lv 0).1 = Mo.zero := hm
          rw [hm2] at o1
          exact absurd o1 (by decide)
      split
      · have hc := cycle_cmd c x (foundOpen (Nc.move b.floors x s 0).1)
        refine ⟨fun h1 => absurd ?_ h1, fun h1 => ?_, fun _ _ => hl⟩
        · rw [cycle_mo]
          show (Nc.move b.floors x s 0).1.mo.c = 0
          rw [hm]; rfl
        · rcases h1 with h1 | h1
          · exact absurd h1 hc.1
          · exact absurd h1 hc.2
      · rename_i hdd
        have hdd : x.dd = 2 := by simpa using hdd
        unfold Nc.choose
        split
        · have hc := Dr.stepF_cmd c.dwell c.hold (Nc.move b.floors x s 0).1.dr x.dd x.bl true
          refine ⟨fun h1 => absurd ?_ h1, fun h1 => ?_, fun _ _ => hl⟩
          · show (Nc.move b.floors x s 0).1.mo.c = 0
            rw [hm]; rfl
          · rcases h1 with h1 | h1
            · exact absurd h1 hc.1
            · exact absurd h1 hc.2
        · split
          · rename_i hz
            exact safe_begin hF hf hdd hl hm (by omega)
          · unfold Nc.rest
            split
            · refine ⟨fun h1 => absurd ?_ h1, (fun h1 => by rcases h1 with h1 | h1 <;> cases h1), fun _ _ => hl⟩
              show (Nc.move b.floors x s 0).1.mo.c = 0
              rw [hm]; rfl
            · rename_i hr
              refine safe_begin hF hf hdd hl hm ?_
              unfold moveF at hr ⊢
              split
              · rename_i hh
                rw [if_pos hh] at hr
                unfold towardF at hr ⊢
                split
                · exact .inl rfl
                · split
                  · exact .inr rfl
                  · rename_i a1 a2
                    rw [if_neg a1, if_neg a2] at hr
                    exact absurd rfl hr
              · rename_i hh
                rw [if_neg hh] at hr
                exact absurd rfl hr
theorem safe_step {b : BldD} {k : Int} {x : Fb} {p : Nat} {ha : Cs} {s : Nc} (hF : 2 ≤ b.floors ∧ b.floors ≤ 32) (hf : 0 ≤ x.fl ∧ x.fl ≤ b.floors - 1) (h : stB b.floors s = true) : Safe b.floors x s (stepG b k s x p ha) := by
  unfold stepG
  rcases stB_cases h with rfl | ⟨hfa, hg⟩
  · rw [if_pos (show faulty.fa = true from rfl)]
    exact ⟨fun h1 => absurd rfl h1, (fun h1 => by rcases h1 with h1 | h1 <;> cases h1), fun _ h1 => absurd rfl h1⟩
  · rw [hfa, if_neg (by decide)]
    have hs := safe_control (k := k) (c := carAt b k) (ha := ha) (s0 := s) hF hf (hg.told x p) rfl
    unfold watched
    split
    · exact ⟨fun h1 => absurd rfl h1, (fun h1 => by rcases h1 with h1 | h1 <;> cases h1), fun _ h1 => absurd rfl h1⟩
    · exact hs
end Nc
end Go.Proofs.YtnjcegkefjdgdaaDoor
