/- Step of the played drive: any state, any command. No statement of the seat is proved here. -/
import Derived.Test.YtnjcegkefjdgdaaDoorNwPlayA
import Derived.Test.YtnjcegkefjdgdaaDoorNwPlayB
import Derived.Test.YtnjcegkefjdgdaaDoorNwPlayC
import Derived.Test.YtnjcegkefjdgdaaDoorG23
namespace Go.Proofs.YtnjcegkefjdgdaaDoor
open Go.RowKit

theorem playStep_any (F : Int) (r : Rg) (m t : Int) (w : World) (h : Rg.Ok F r) (ht : 1 ≤ t ∧ t ≤ 9999) (hm : 0 ≤ m ∧ m ≤ 5) :
    Calls Tryd.prog 13 #[.int .i64 F, r.agg, .int .i64 m, .int .i64 t] w fun ee w' => ee = .returned ((Rg.stepF F r m t).agg) ∧ Below w.heap.size w w' := by
  by_cases hl : 0 < r.lf
  · exact playStep_on F r m t w h ht hl
  · have hs := h.step
    have hd := h.door
    have h2 := h.dd
    obtain ⟨fl, tg, lf, dd, am, tk⟩ := r
    simp only at hl hs hd h2
    obtain ⟨e1, e2⟩ : tg = fl ∧ lf = 0 := by omega
    subst e1 e2
    have hm6 : m = 0 ∨ m = 1 ∨ m = 2 ∨ m = 3 ∨ m = 4 ∨ m = 5 := by omega
    rcases hd with ⟨rfl, h4, h5⟩ | ⟨h3, rfl, rfl⟩
    · rcases hm6 with rfl | rfl | rfl | rfl | rfl | rfl
      · rw [Rg.e0_on _ _ _ _ _ h4]; exact playD0_on F tg am tk t w h ht h4 h5
      · rw [Rg.e1_on _ _ _ _ _ h4]; exact playD1_on F tg am tk t w h ht h4 h5
      · rw [Rg.e2_on _ _ _ _ _ h4]; exact playD2_on F tg am tk t w h ht h4 h5
      · rcases (show am = 1 ∨ am = 2 by omega) with rfl | rfl
        · rw [Rg.e3_on]; exact playD3_on F tg tk t w h ht h5
        · rw [Rg.e3_back]; exact playD3_back F tg tk t w h ht h5
      · rcases (show am = 1 ∨ am = 2 by omega) with rfl | rfl
        · rw [Rg.e4_back]; exact playD4_back F tg tk t w h ht h5
        · rw [Rg.e4_on]; exact playD4_on F tg tk t w h ht h5
      · rcases (show am = 1 ∨ am = 2 by omega) with rfl | rfl
        · rw [Rg.e5_back]; exact playD5_back F tg tk t w h ht h5
        · rw [Rg.e5_on]; exact playD5_on F tg tk t w h ht h5
    · rcases (show dd = 1 ∨ dd = 2 by omega) with rfl | rfl
      · rcases hm6 with rfl | rfl | rfl | rfl | rfl | rfl
        · rw [Rg.e0_door]; exact playD0_open F tg t w h ht
        · rw [Rg.e1_open]; exact playD1_open F tg t w h ht
        · rw [Rg.e2_open]; exact playD2_open F tg t w h ht
        · rw [Rg.e3_still]; exact playD3_still F tg t w h ht
        · rw [Rg.e4_turn]; exact playD4_turn F tg t w h ht
        · rw [Rg.e5_turn]; exact playD5_turn F tg t w h ht
      · rcases hm6 with rfl | rfl | rfl | rfl | rfl | rfl
        · rw [Rg.e0_door]; exact playD0_shut F tg t w h ht
        · by_cases ho : 0 ≤ tg + 1 ∧ tg + 1 ≤ F - 1
          · exact playStep_up F ⟨tg, tg, 0, 2, 0, 0⟩ t w h ht rfl rfl ho
          · rw [Rg.e1_out _ _ _ ho]; exact playD1_out F tg t w h ht ho
        · by_cases ho : 0 ≤ tg - 1 ∧ tg - 1 ≤ F - 1
          · exact playStep_dn F ⟨tg, tg, 0, 2, 0, 0⟩ t w h ht rfl rfl ho
          · rw [Rg.e2_out _ _ _ ho]; exact playD2_out F tg t w h ht ho
        · rw [Rg.e3_turn]; exact playD3_turn F tg t w h ht
        · rw [Rg.e4_still]; exact playD4_still F tg t w h ht
        · rw [Rg.e5_still]; exact playD5_still F tg t w h ht
end Go.Proofs.YtnjcegkefjdgdaaDoor
