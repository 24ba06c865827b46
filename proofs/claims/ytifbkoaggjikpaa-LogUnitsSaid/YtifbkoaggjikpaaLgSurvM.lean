/- Appends, recoveries that a power failure may cut, plainly. No statement of the seat is proved here. -/
import Derived.Test.YtifbkoaggjikpaaLgKp
namespace Go.Proofs.Ytifbkoaggjikpaa
open Go.RowKit Lg Img

theorem Bx.r5 {w wx : World} {L : List (Nat × Obj)} {p0 p1 p2 p3 p4 p5 : Nat × Obj} (h : Bx w (p0 :: p1 :: p2 :: p3 :: p4 :: p5 :: L) wx) : wx.heap[p5.1]? = some p5.2 := h.rows p5 (by simp)
theorem Bx.r6 {w wx : World} {L : List (Nat × Obj)} {p0 p1 p2 p3 p4 p5 p6 : Nat × Obj} (h : Bx w (p0 :: p1 :: p2 :: p3 :: p4 :: p5 :: p6 :: L) wx) : wx.heap[p6.1]? = some p6.2 := h.rows p6 (by simp)
theorem Bx.r7 {w wx : World} {L : List (Nat × Obj)} {p0 p1 p2 p3 p4 p5 p6 p7 : Nat × Obj} (h : Bx w (p0 :: p1 :: p2 :: p3 :: p4 :: p5 :: p6 :: p7 :: L) wx) : wx.heap[p7.1]? = some p7.2 := h.rows p7 (by simp)
namespace Lg
/-- An append under any budget: refused for want of room, made, or cut; cut, the image is the one before. -/
theorem append_any3 {b : BldD} {s : St} {m : Img} {r : Rc} (h : Jrn b s m) (hr : Rc.okB b r = true) {bud : Int} (hbud : 0 ≤ bud) :
    (fullB b m r = true ∧ appendF b s m r bud = (St.zero, Img.zero, 0, 7)) ∨ (fullB b m r = false ∧ ∃ s' n, appendF b s m r bud = (s', applyM m r, n, 0) ∧ Jrn b s' (applyM m r) ∧ 0 ≤ n ∧ n ≤ bud) ∨ (fullB b m r = false ∧ ∃ s', appendF b s m r bud = (s', m, 0, 8) ∧ Cut b s' m) := by
  cases hf : fullB b m r
  · right
    obtain ⟨need, h1, -, h3⟩ := append_cases h hr hf hbud
    rcases h3 with ⟨-, s', h5, h6⟩ | ⟨h4, s', h5, h6⟩
    · exact .inr ⟨rfl, s', h5, h6⟩
    · exact .inl ⟨rfl, s', _, h5, h6, by omega, by omega⟩
  · left
    refine ⟨rfl, ?_⟩
    have hok : okS b s bud = true := by simp [okS, h.good.val, h.st]; omega
    unfold appendF
    rw [hok, isB_iff.2 h.good, hr, hf]
    rfl
theorem cut_small {b : BldD} {s : St} {m : Img} (h : Cut b s m) (hroom : b.room ≤ 1000) : m.ph.length ≤ 100 ∧ m.fl.length ≤ 100 ∧ m.lv.length ≤ 100 ∧ m.en.length ≤ 100 ∧ (s.a.size : Int) ≤ b.room ∧ (s.b.size : Int) ≤ b.room ∧ s.cur.size ≤ 2000000 := by
  have h1 := h.good.ph
  have h2 := h.good.fl
  have h3 := h.good.lv
  have h4 := h.room
  obtain ⟨-, -, h5, h6, -⟩ := St.isB_of h.st
  have h7 := St.get_size h.st s.sel
  rw [cur_get] at h7
  exact ⟨by omega, by omega, by omega, by omega, h5, h6, by omega⟩
/-- A recovery: made, or cut; the store that is left is replayed to the same image. -/
theorem recG_any {b : BldD} {s : St} {p : Img} {bud : Int} (h : Cut b s p) (hb : 0 ≤ bud) : (∃ s' n, recG b s p bud = (s', p, n, 0) ∧ Cut b s' p) ∨ (∃ s', recG b s p bud = (s', Img.zero, 0, 8) ∧ Cut b s' p) := by
  rcases recover_cases h hb with ⟨-, s', h2, h3⟩ | ⟨-, s', h2, h3⟩
  · exact .inr ⟨s', by unfold recG; rw [h2]; rfl, h3⟩
  · exact .inl ⟨s', _, by unfold recG; rw [h2]; rfl, h3.cut⟩
/-- A recovery, in one form. -/
theorem recG_one {b : BldD} {s : St} {p : Img} {bud : Int} (h : Cut b s p) (hb : 0 ≤ bud) : ∃ s' q n e, recG b s p bud = (s', q, n, e) ∧ (e = 0 ∨ e = 8) ∧ Cut b s' p := by
  rcases recG_any h hb with ⟨s', n, h1, h2⟩ | ⟨s', h1, h2⟩
  · exact ⟨s', p, n, 0, h1, .inl rfl, h2⟩
  · exact ⟨s', Img.zero, 0, 8, h1, .inr rfl, h2⟩
theorem recG_whole {b : BldD} {s : St} {p : Img} {bud : Int} (h : Cut b s p) (hroom : b.room ≤ 1000) (hb : 2000 ≤ bud) : ∃ s' n, recG b s p bud = (s', p, n, 0) ∧ Jrn b s' p := by
  rcases recover_cases h (by omega : 0 ≤ bud) with ⟨h1, -⟩ | ⟨-, s', h2, h3⟩
  · exfalso
    have hs := snapM_len p
    rw [h.good.ph] at hs
    have := h.room
    omega
  · exact ⟨s', _, by unfold recG; rw [h2]; rfl, h3⟩
/-- The record by which the flag of the first car is set. -/
theorem flag_ok {b : BldD} (hv : validE b = 0) : Rc.okB b ⟨5, 0, 0, 0, 1⟩ = true := by
  have hc := (fine_of hv).cars.1
  simp [Rc.okB, Rc.carB, Rc.fitB, hv]
  omega
theorem flag_full {b : BldD} {m : Img} : fullB b m ⟨5, 0, 0, 0, 1⟩ = false := by simp [fullB]
theorem flag_set {b : BldD} {m : Img} (hg : Img.Good b m) : (applyM m ⟨5, 0, 0, 0, 1⟩).fl.length = m.fl.length ∧ 0 < m.fl.length ∧ (applyM m ⟨5, 0, 0, 0, 1⟩).fl[0]? = some true := by
  have hc := (fine_of hg.val).cars.1
  have h2 := hg.fl
  have h3 : 0 < m.fl.length := by omega
  simp [applyM, h3]
theorem flag_cell {w : World} {B p cap : Nat} {fl : List Bool} (h : w.ownsRow B 4 1 (.slice (some ⟨p, 0, none⟩) fl.length cap) fl.length (bls fl)) (h0 : fl[0]? = some true) : w.cell? ⟨p, 0, none⟩ = some (.bool true) := by
  obtain ⟨A, c, hv, hat⟩ := (VV.of_own h).2
  injection hv with q1 q2 q3
  subst q1
  cases fl with
  | nil => cases h0
  | cons x fl =>
    rw [List.getElem?_cons_zero] at h0
    injection h0 with h0
    subst h0
    rcases hat with hat | ⟨b, off, hA, -, hr⟩
    · cases hat
    · injection hA with hA
      injection hA with r1 r2
      subst r1 r2
      exact hr 0 (by simp [bls])
end Lg
end Go.Proofs.Ytifbkoaggjikpaa
