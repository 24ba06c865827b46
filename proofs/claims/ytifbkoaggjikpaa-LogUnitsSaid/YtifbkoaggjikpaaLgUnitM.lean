/- Plain part for LogUnits: what an append of a phase's record does under any budget. No statement of the seat is proved here. -/
import Derived.Test.YtifbkoaggjikpaaLgSurvM
import Derived.Test.YtifbkoaggjikpaaLgRefSnap
namespace Go.Proofs.Ytifbkoaggjikpaa
open Go.RowKit Lg Img
namespace Lg
theorem unit_ok {b : BldD} (hv : validE b = 0) : Rc.okB b ⟨4, 0, 0, 0, 1⟩ = true := by
  have hc := (fine_of hv).cars.1
  simp [Rc.okB, Rc.carB, Rc.fitB, hv]
  omega
theorem unit_full {b : BldD} {m : Img} : fullB b m ⟨4, 0, 0, 0, 1⟩ = false := by simp [fullB]
/-- How many units of work the append takes. -/
def needU (b : BldD) (s : St) (m : Img) : Int := ((if (s.cur.size : Int) + 6 ≤ b.room then 6 else 2 + 6 * (snapM (applyM m ⟨4, 0, 0, 0, 1⟩)).length : Nat) : Int)
theorem unit_cases {b : BldD} {s : St} {m : Img} {bud : Int} (h : Jrn b s m) (hb : 0 ≤ bud) :
    (bud < needU b s m ∧ ∃ s', appendF b s m ⟨4, 0, 0, 0, 1⟩ bud = (s', m, 0, 8) ∧ Cut b s' m) ∨
    (needU b s m ≤ bud ∧ ∃ s', appendF b s m ⟨4, 0, 0, 0, 1⟩ bud = (s', applyM m ⟨4, 0, 0, 0, 1⟩, bud - needU b s m, 0) ∧ Jrn b s' (applyM m ⟨4, 0, 0, 0, 1⟩)) := by
  obtain ⟨need, -, h2, h3⟩ := append_cases h (unit_ok h.good.val) unit_full hb
  have hn : need = needU b s m := h2
  subst hn
  exact h3
theorem unit_set {b : BldD} {m : Img} (hg : Img.Good b m) : (applyM m ⟨4, 0, 0, 0, 1⟩).ph.length = m.ph.length ∧ 0 < m.ph.length ∧ (applyM m ⟨4, 0, 0, 0, 1⟩).ph[0]? = some 1 := by
  have hc := (fine_of hg.val).cars.1
  have h2 := hg.ph
  have h3 : 0 < m.ph.length := by omega
  simp [applyM, h3]
theorem phase_cell {w : World} {B p cap : Nat} {l : List Int} {x : Int} (h : w.ownsRow B 3 1 (.slice (some ⟨p, 0, none⟩) l.length cap) l.length (nums l)) (h0 : l[0]? = some x) : w.cell? ⟨p, 0, none⟩ = some (.int .i64 x) := by
  obtain ⟨A, c, hv, hat⟩ := (VV.of_own h).2
  injection hv with q1 q2 q3
  subst q1
  cases l with
  | nil => cases h0
  | cons y l =>
    rw [List.getElem?_cons_zero] at h0
    injection h0 with h0
    subst h0
    rcases hat with hat | ⟨b, off, hA, -, hr⟩
    · cases hat
    · injection hA with hA
      injection hA with r1 r2
      subst r1 r2
      exact hr 0 (by simp [nums])
theorem unit_len {b : BldD} {s : St} {m : Img} (h : Jrn b s m) (hroom : b.room ≤ 1000) : 0 ≤ needU b s m ∧ needU b s m ≤ 3000 ∧ (snapM (applyM m ⟨4, 0, 0, 0, 1⟩)).length ≤ 400 ∧ s.cur.size ≤ 2000000 := by
  have hl := applyM_len (unit_full (b := b) (m := m)) h.good h.room
  have hs := snapM_len (applyM m ⟨4, 0, 0, 0, 1⟩)
  rw [(applyM_good h.good (unit_ok h.good.val)).ph] at hs
  have h4 := (jrn_small h hroom).2.2.2.2
  unfold needU
  refine ⟨?_, ?_, ?_, ?_⟩
  all_goals first | omega | (split <;> omega) | skip
end Lg
end Go.Proofs.Ytifbkoaggjikpaa
