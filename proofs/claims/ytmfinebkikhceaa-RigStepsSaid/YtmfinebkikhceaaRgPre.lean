/- Feedbacks and drives, plainly (the same as in NcMath and NwPlayM, for a seat without the controls). No statement of the seat is proved here. -/
import Derived.Test.YtmfinebkikhceaaMem
namespace Go.Proofs.Ytmfinebkikhceaa
open Go.RowKit

/-- A feedback. -/
structure Fb where
  fl : Int
  lv : Bool
  dd : Int
  bl : Bool
deriving DecidableEq
namespace Fb
def agg (x : Fb) : Value := .agg #[.int .i64 x.fl, .bool x.lv, .int .i64 x.dd, .bool x.bl]
def okB (F : Int) (x : Fb) : Bool := (decide (0 ≤ x.fl) && decide (x.fl ≤ F - 1)) && (decide (0 ≤ x.dd) && decide (x.dd ≤ 2))
theorem okB_iff {F : Int} {x : Fb} : okB F x = true ↔ (0 ≤ x.fl ∧ x.fl ≤ F - 1) ∧ 0 ≤ x.dd ∧ x.dd ≤ 2 := by
  unfold okB
  simp only [Bool.and_eq_true, decide_eq_true_eq]
end Fb
namespace Nc
def wi (lo hi n : Int) : Bool := decide (lo ≤ n) && decide (n ≤ hi)
theorem wi_iff {lo hi n : Int} : wi lo hi n = true ↔ lo ≤ n ∧ n ≤ hi := by unfold wi; simp
end Nc
/-- A drive: its floor, the step's target, the ticks that are left, the door, where it goes, the ticks that are left. -/
structure Rg where
  fl : Int
  tg : Int
  lf : Int
  dd : Int
  am : Int
  tk : Int
deriving DecidableEq
namespace Rg
def agg (r : Rg) : Value := .agg #[.int .i64 r.fl, .int .i64 r.tg, .int .i64 r.lf, .int .i64 r.dd, .int .i64 r.am, .int .i64 r.tk]
def new (f : Int) : Rg := ⟨f, f, 0, 2, 0, 0⟩
/-- States of a building with F floors. -/
structure Ok (F : Int) (r : Rg) : Prop where
  fs : 2 ≤ F ∧ F ≤ 32
  fl : 0 ≤ r.fl ∧ r.fl ≤ F - 1
  tg : 0 ≤ r.tg ∧ r.tg ≤ F - 1
  near : -1 ≤ r.tg - r.fl ∧ r.tg - r.fl ≤ 1
  dd : 0 ≤ r.dd ∧ r.dd ≤ 2
  step : (r.tg = r.fl ∧ r.lf = 0) ∨ (r.tg ≠ r.fl ∧ (1 ≤ r.lf ∧ r.lf ≤ 10000) ∧ r.dd = 2)
  door : (r.dd = 0 ∧ (1 ≤ r.am ∧ r.am ≤ 2) ∧ 1 ≤ r.tk ∧ r.tk ≤ 10000) ∨ (r.dd ≠ 0 ∧ r.am = 0 ∧ r.tk = 0)
def arr (r : Rg) : Rg := if r.lf = 0 then {r with fl := r.tg} else r
def nxt (r : Rg) (m : Int) : Int := if m = 1 then r.fl + 1 else if m = 2 then r.fl - 1 else r.fl
def aim (r : Rg) (m : Int) : Int := if m = 3 then 1 else if m = 4 ∨ m = 5 then 2 else r.am
def shut (r : Rg) (a : Int) : Rg := if r.tk = 0 then {r with dd := a, am := 0} else r
def stepF (F : Int) (r : Rg) (m t : Int) : Rg :=
  if 0 < r.lf then arr {r with lf := r.lf - 1}
  else if r.dd = 2 ∧ r.nxt m ≠ r.fl ∧ (0 ≤ r.nxt m ∧ r.nxt m ≤ F - 1) then arr {r with tg := r.nxt m, lf := t - 1}
  else if r.aim m = 0 ∨ r.aim m = r.dd then r
  else if r.dd = 0 ∧ r.aim m = r.am then shut {r with tk := r.tk - 1} (r.aim m)
  else shut {r with dd := 0, am := r.aim m, tk := t - 1} (r.aim m)
def report (r : Rg) (b : Bool) : Fb := ⟨r.fl, r.lf == 0, r.dd, b⟩
theorem new_ok {F f : Int} (hF : 2 ≤ F ∧ F ≤ 32) (hf : 0 ≤ f ∧ f ≤ F - 1) : Ok F (new f) :=
  ⟨hF, hf, hf, by show -1 ≤ f - f ∧ f - f ≤ 1; omega, by show (0 : Int) ≤ 2 ∧ (2 : Int) ≤ 2; omega, .inl ⟨rfl, rfl⟩, .inr ⟨by show (2 : Int) ≠ 0; decide, rfl, rfl⟩⟩
theorem report_ok {F : Int} {r : Rg} (h : Ok F r) (b : Bool) : Fb.okB F (report r b) = true := Fb.okB_iff.2 ⟨h.fl, h.dd⟩
theorem arr_ok {F : Int} {r : Rg} (h1 : 2 ≤ F ∧ F ≤ 32) (h2 : 0 ≤ r.fl ∧ r.fl ≤ F - 1) (h3 : 0 ≤ r.tg ∧ r.tg ≤ F - 1) (h4 : -1 ≤ r.tg - r.fl ∧ r.tg - r.fl ≤ 1) (h5 : r.dd = 2) (h6 : r.tg ≠ r.fl) (h7 : 0 ≤ r.lf ∧ r.lf ≤ 10000) (h8 : r.am = 0 ∧ r.tk = 0) : Ok F (arr r) := by
  unfold arr
  split
  · rename_i h0
    exact ⟨h1, h3, h3, by show -1 ≤ r.tg - r.tg ∧ r.tg - r.tg ≤ 1; omega, by show 0 ≤ r.dd ∧ r.dd ≤ 2; omega, .inl ⟨rfl, h0⟩, .inr ⟨by show r.dd ≠ 0; omega, h8⟩⟩
  · exact ⟨h1, h2, h3, h4, by omega, .inr ⟨h6, by omega, h5⟩, .inr ⟨by omega, h8⟩⟩
theorem shut_ok {F : Int} {r : Rg} {a : Int} (h1 : 2 ≤ F ∧ F ≤ 32) (h2 : 0 ≤ r.fl ∧ r.fl ≤ F - 1) (h3 : r.tg = r.fl) (h4 : r.lf = 0) (h5 : r.dd = 0) (h6 : r.am = a) (h7 : a = 1 ∨ a = 2) (h8 : 0 ≤ r.tk ∧ r.tk ≤ 10000) : Ok F (shut r a) := by
  unfold shut
  split
  · rename_i h0
    exact ⟨h1, h2, by show 0 ≤ r.tg ∧ r.tg ≤ F - 1; omega, by show -1 ≤ r.tg - r.fl ∧ r.tg - r.fl ≤ 1; omega, by show 0 ≤ a ∧ a ≤ 2; omega, .inl ⟨h3, h4⟩, .inr ⟨by show a ≠ 0; omega, rfl, h0⟩⟩
  · exact ⟨h1, h2, by omega, by omega, by omega, .inl ⟨h3, h4⟩, .inl ⟨h5, by omega, by omega⟩⟩
/-- Behind a tick there is a state again. -/
theorem stepF_ok {F : Int} {r : Rg} {m t : Int} (h : Ok F r) (ht : 1 ≤ t ∧ t ≤ 10000) : Ok F (stepF F r m t) := by
  obtain ⟨h1, h2, h3, h4, h5, h6, h7⟩ := h
  unfold stepF
  split
  · rename_i hl
    rcases h6 with ⟨_, h6⟩ | ⟨h6, h8, h9⟩
    · omega
    · refine arr_ok h1 h2 h3 h4 h9 h6 (by show 0 ≤ r.lf - 1 ∧ r.lf - 1 ≤ 10000; omega) ?_
      rcases h7 with ⟨h7, _⟩ | ⟨_, h7⟩
      · omega
      · exact h7
  · rename_i hl
    obtain ⟨h6, h8⟩ : r.tg = r.fl ∧ r.lf = 0 := by rcases h6 with h6 | h6 <;> omega
    split
    · rename_i hg
      obtain ⟨g1, g2, g3⟩ := hg
      refine arr_ok h1 h2 g3 ?_ g1 g2 (by show 0 ≤ t - 1 ∧ t - 1 ≤ 10000; omega) ?_
      · show -1 ≤ r.nxt m - r.fl ∧ r.nxt m - r.fl ≤ 1
        unfold nxt
        split
        · omega
        · split <;> omega
      · rcases h7 with ⟨h7, _⟩ | ⟨_, h7⟩
        · omega
        · exact h7
    · split
      · exact ⟨h1, h2, h3, h4, h5, .inl ⟨h6, h8⟩, h7⟩
      · rename_i ha
        have ha2 : r.aim m = 1 ∨ r.aim m = 2 := by
          unfold aim at ha ⊢
          split
          · exact .inl rfl
          · split
            · exact .inr rfl
            · rename_i a1 a2
              rw [if_neg a1, if_neg a2] at ha
              rcases h7 with ⟨_, h7, _⟩ | ⟨_, h7, _⟩ <;> omega
        split
        · rename_i hd
          refine shut_ok h1 h2 h6 h8 hd.1 hd.2.symm ha2 ?_
          show 0 ≤ r.tk - 1 ∧ r.tk - 1 ≤ 10000
          rcases h7 with ⟨_, _, h7⟩ | ⟨h7, _⟩
          · omega
          · exact absurd hd.1 h7
        · exact shut_ok h1 h2 h6 h8 rfl rfl ha2 (by show 0 ≤ t - 1 ∧ t - 1 ≤ 10000; omega)
end Rg
end Go.Proofs.Ytmfinebkikhceaa
