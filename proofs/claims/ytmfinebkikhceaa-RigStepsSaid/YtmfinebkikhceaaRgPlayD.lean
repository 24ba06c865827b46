/- Step of the played drive: any state, any command, any time. No statement of the seat is proved here. -/
import Derived.Test.YtmfinebkikhceaaRgPlayA
import Derived.Test.YtmfinebkikhceaaRgPlayB
import Derived.Test.YtmfinebkikhceaaRgPlayC
namespace Go.Proofs.Ytmfinebkikhceaa
open Go.RowKit
set_option maxRecDepth 4000
set_option linter.unusedSimpArgs false
set_option linter.unusedVariables false

theorem playS_ok (F : Int) (r : Rg) (m t u T : Int) (w : World) (h : Rg.Ok F r) (hu : (if 10000 < t then (10000 : Int) else t) = u) (hT : (if 1 < u then u else 1) = T) (hT1 : 1 ≤ T ∧ T ≤ 10000) :
    Calls Try.prog 21 #[.int .i64 F, r.agg, .int .i64 m, .int .i64 t] w fun ee w' => ee = .returned ((Rg.stepF F r m T).agg) ∧ Below w.heap.size w w' := by
  by_cases hl : 0 < r.lf
  · exact playS_on F r m t u T w h hu hT hT1 hl
  · have hs := h.step
    have hd := h.door
    have h2 := h.dd
    obtain ⟨fl, tg, lf, dd, am, tk⟩ := r
    simp only at hl hs hd h2
    obtain ⟨e1, e2⟩ : tg = fl ∧ lf = 0 := by omega
    subst e1 e2
    have hm6 : (m ≠ 1 ∧ m ≠ 2 ∧ m ≠ 3 ∧ m ≠ 4 ∧ m ≠ 5) ∨ m = 1 ∨ m = 2 ∨ m = 3 ∨ m = 4 ∨ m = 5 := by omega
    rcases hd with ⟨rfl, h4, h5⟩ | ⟨h3, rfl, rfl⟩
    · rcases hm6 with ⟨n1, n2, n3, n4, n5⟩ | rfl | rfl | rfl | rfl | rfl
      · rw [Rg.e_other _ _ n1 n2 n3 n4 n5, Rg.e0_on _ _ _ _ _ h4]; exact playS0_on F tg am tk m t u T w h hu hT hT1 h4 h5 (by simpa using n1) (by simpa using n2) (by simpa using n3) (by simpa using n4) (by simpa using n5)
      · rw [Rg.e1_on _ _ _ _ _ h4]; exact playS1_on F tg am tk t u T w h hu hT hT1 h4 h5
      · rw [Rg.e2_on _ _ _ _ _ h4]; exact playS2_on F tg am tk t u T w h hu hT hT1 h4 h5
      · rcases (show am = 1 ∨ am = 2 by omega) with rfl | rfl
        · rw [Rg.e3_on]; exact playS3_on F tg tk t u T w h hu hT hT1 h5
        · rw [Rg.e3_back]; exact playS3_back F tg tk t u T w h hu hT hT1 h5
      · rcases (show am = 1 ∨ am = 2 by omega) with rfl | rfl
        · rw [Rg.e4_back]; exact playS4_back F tg tk t u T w h hu hT hT1 h5
        · rw [Rg.e4_on]; exact playS4_on F tg tk t u T w h hu hT hT1 h5
      · rcases (show am = 1 ∨ am = 2 by omega) with rfl | rfl
        · rw [Rg.e5_back]; exact playS5_back F tg tk t u T w h hu hT hT1 h5
        · rw [Rg.e5_on]; exact playS5_on F tg tk t u T w h hu hT hT1 h5
    · rcases (show dd = 1 ∨ dd = 2 by omega) with rfl | rfl
      · rcases hm6 with ⟨n1, n2, n3, n4, n5⟩ | rfl | rfl | rfl | rfl | rfl
        · rw [Rg.e_other _ _ n1 n2 n3 n4 n5, Rg.e0_door]; exact playS0_open F tg m t u T w h hu hT hT1 (by simpa using n1) (by simpa using n2) (by simpa using n3) (by simpa using n4) (by simpa using n5)
        · rw [Rg.e1_open]; exact playS1_open F tg t u T w h hu hT hT1
        · rw [Rg.e2_open]; exact playS2_open F tg t u T w h hu hT hT1
        · rw [Rg.e3_still]; exact playS3_still F tg t u T w h hu hT hT1
        · rw [Rg.e4_turn]; exact playS4_turn F tg t u T w h hu hT hT1
        · rw [Rg.e5_turn]; exact playS5_turn F tg t u T w h hu hT hT1
      · rcases hm6 with ⟨n1, n2, n3, n4, n5⟩ | rfl | rfl | rfl | rfl | rfl
        · rw [Rg.e_other _ _ n1 n2 n3 n4 n5, Rg.e0_door]; exact playS0_shut F tg m t u T w h hu hT hT1 (by simpa using n1) (by simpa using n2) (by simpa using n3) (by simpa using n4) (by simpa using n5)
        · by_cases ho : 0 ≤ tg + 1 ∧ tg + 1 ≤ F - 1
          · exact playS_up F ⟨tg, tg, 0, 2, 0, 0⟩ t u T w h hu hT hT1 rfl rfl ho
          · rw [Rg.e1_out _ _ _ ho]; exact playS1_out F tg t u T w h hu hT hT1 ho
        · by_cases ho : 0 ≤ tg - 1 ∧ tg - 1 ≤ F - 1
          · exact playS_dn F ⟨tg, tg, 0, 2, 0, 0⟩ t u T w h hu hT hT1 rfl rfl ho
          · rw [Rg.e2_out _ _ _ ho]; exact playS2_out F tg t u T w h hu hT hT1 ho
        · rw [Rg.e3_turn]; exact playS3_turn F tg t u T w h hu hT hT1
        · rw [Rg.e4_still]; exact playS4_still F tg t u T w h hu hT hT1
        · rw [Rg.e5_still]; exact playS5_still F tg t u T w h hu hT hT1

theorem playStepAll_any (F : Int) (r : Rg) (m t : Int) (w : World) :
    Calls Try.prog 21 #[.int .i64 F, r.agg, .int .i64 m, .int .i64 t] w fun ee w' => ee = .returned ((Rg.anyF F r m t).agg) ∧ Below w.heap.size w w' := by
  unfold Rg.anyF
  cases hb : Rg.isB F r
  · rw [if_neg (by decide)]
    exact playS_bad F r m t w hb
  · rw [if_pos rfl]
    obtain ⟨u, hu, hT⟩ := Rg.lim_play t
    exact playS_ok F r m t u _ w (Rg.isB_iff.1 hb) hu hT (Rg.lim_le t)
end Go.Proofs.Ytmfinebkikhceaa
