/- The law CallsLists: the list and the number of the calls of any set, and the set of any entries. No condition. -/
import Derived.Test.YtclkfclbnapamaaCsLawSets
import Derived.Test.YtclkfclbnapamaaGhostP
namespace Go.Proofs.Ytclkfclbnapamaa
open Go.RowKit Go.ChangeShapes Go.WideShapes Go.ChangeAt GhostV

def evP (l : List En) : Pd := ⟨fun w v => EV w v l, fun _ _ _ h hb => h.below hb⟩
theorem of_ev (l : List En) (v : Value) (w : World) (h : EV w v l) (hl : l.length ≤ 1000000) :
    Calls Try.prog 27 #[v] w fun e w' => e = .returned (Cs.of l).agg ∧ Below w.heap.size w w' := by
  obtain ⟨A, cap, rfl, hA⟩ := h
  exact of_any l A cap w hA hl

set_option maxRecDepth 100000 in
set_option maxHeartbeats 4000000 in
theorem lawCallsLists_walk (c : Cs) (v : Value) (l : List En) (w : World) (hc : c.ok) (hv : EV w v l) (hmax : l.length ≤ maxLen) :
    Calls Try.prog 5 #[c.agg, v] w fun e w' => e = .returned (.bool true) ∧ Below w.heap.size w w' := by
  unfold maxLen at hmax
  obtain ⟨A, cap, rfl, hA⟩ := hv
  have HA := Lib.hid hA
  clear hA
  have FS := Lib.hid (fun w => sane_any w)
  have HBX := Lib.hid (fun (wx : World) (h : Below (w.heap.size + 1) (w.alloc (.cells #[.int .u32 c.up, .int .u32 c.dn] 24)) wx) => boxCs h)
  by_cases hlen : 200 < l.length
  · obtain ⟨a1, a2⟩ := c
    simp only [Cs.agg] at *
    clear hc HBX HA
    go_enter Try.func5, Try.ntmps5
    go_wp2_with fail
    refine (FS.out _).mono ?_
    rintro e w2 ⟨rfl, hb⟩
    have HB := Lib.hid hb
    clear hb
    go_wp2_with fail
    go_ret
    exact ⟨rfl, below_of_new (HB.out.mono (by simp))⟩
  · have hl1 : l.length ≤ 1000000 := by omega
    have hec := Cs.ents_len hc
    have hcl := Cs.count_le hc
    have he1 : (Cs.ents c).length ≤ 1000000 := by omega
    have FL := Lib.hid (fun w => list_any c w hc)
    have GL := Lib.hid (fun w => refList_any c w hc)
    have FM := Lib.hid (fun v1 v2 w h1 h2 => same_any (Cs.ents c) v1 v2 w h1 h2 he1)
    have FC := Lib.hid (fun w => count_any c w hc)
    have GC := Lib.hid (fun w => refCount_any c w hc)
    have FO := Lib.hid (fun w h => of_any l A cap w h hl1)
    have GO := Lib.hid (fun w h => refOf_any l A cap w h hl1)
    have FE := Lib.hid (fun v w h => of_ev (Cs.ents c) v w h he1)
    rw [Cs.of_ents hc] at FE
    have n1 := eqlSame (Cs.of l)
    have n2 := eqlSame c
    generalize Cs.of l = O at *
    generalize Cs.ents c = E at *
    generalize Cs.count c = CN at *
    obtain ⟨a1, a2⟩ := c
    obtain ⟨o1, o2⟩ := O
    simp only [Cs.agg] at *
    clear hc hec hcl he1 hl1
    have hng : ¬ (200 < (l.length : Int)) := by omega
    go_enter Try.func5, Try.ntmps5
    go_wp2_with fail
    refine GhostV.ghost (fun γ L wx => GP ((w.alloc (.cells #[.int .u32 a1, .int .u32 a2] 24))) [(1, evP E), (3, evP E), (21, evP E)] γ L wx) (by kernel_rfl) (by kernel_rfl) (fun γ => GP.start _ _ γ) ?_
    apply GhostV.walk_const (fun γ => by rfl)
    · intro γ L wx h1 h2 hx K hK
      obtain ⟨k0, k1⟩ := HBX.out _ (hx.below.mono (by simp))
      have HK2 := Lib.hid hK
      have HX := Lib.hid hx
      have H2 := Lib.hid h2
      clear hK h1 h2 hx
      go_simp
      first
        | (go_at_call 22; refine (FM.out (γ 1) (γ 3) wx (HX.out.row (1, evP E) (by simp) (H2.out 1 (by kernel_rfl))) (HX.out.row (3, evP E) (by simp) (H2.out 3 (by kernel_rfl)))).mono ?_; rintro e w' ⟨rfl, hb⟩; exact HK2.out _ (HX.out.next _ (by rfl) hb))
        | (go_at_call 25; refine (FC.out wx).mono ?_; rintro e w' ⟨rfl, hb⟩; exact HK2.out _ (HX.out.next _ (by rfl) hb))
        | (go_at_call 26; refine (GC.out wx).mono ?_; rintro e w' ⟨rfl, hb⟩; exact HK2.out _ (HX.out.next _ (by rfl) hb))
        | (go_at_call 28; refine (GO.out wx (HA.out.below (below_of_new (HX.out.below.mono (by simp))))).mono ?_; rintro e w' ⟨rfl, hb⟩; exact HK2.out _ (HX.out.next _ (by rfl) hb))
        | (go_at_call 27; first | with_reducible refine (FO.out wx (HA.out.below (below_of_new (HX.out.below.mono (by simp))))).mono ?_ | refine (FE.out (γ 21) wx (HX.out.row (21, evP E) (by simp) (H2.out 21 (by kernel_rfl)))).mono ?_); (rintro e w' ⟨rfl, hb⟩; exact HK2.out _ (HX.out.next _ (by rfl) hb))
        | (go_at_call 17; refine (FS.out wx).mono ?_; rintro e w' ⟨rfl, hb⟩; exact HK2.out _ (HX.out.next _ (by rfl) hb))
        | exact HK2.out _ (HX.out.next _ (by rfl) (Below.refl _ _))
    try simp only [Act.put, List.setIfInBounds_toArray, List.set_cons_succ, List.set_cons_zero]
    refine GhostV.walk_yes (fun b => b) (fun γ => by rfl) ?_ ?_
    · intro γ L wx h1 h2 hx K hK
      obtain ⟨k0, k1⟩ := HBX.out _ (hx.below.mono (by simp))
      have HK2 := Lib.hid hK
      have HX := Lib.hid hx
      have H2 := Lib.hid h2
      clear hK h1 h2 hx
      go_simp
      (go_at_call 23; refine (FL.out wx).mono ?_; rintro e w' ⟨u, rfl, hu, hb⟩; exact HK2.out _ _ (HX.out.make (by simp only [List.mem_cons, List.not_mem_nil, or_false]; rintro d (rfl | rfl | rfl) h; (· exact hu); (· cases h); (· cases h)) hb))
    try simp only [Act.put, List.setIfInBounds_toArray, List.set_cons_succ, List.set_cons_zero]
    apply GhostV.walk_const (fun γ => by rfl)
    · intro γ L wx h1 h2 hx K hK
      obtain ⟨k0, k1⟩ := HBX.out _ (hx.below.mono (by simp))
      have HK2 := Lib.hid hK
      have HX := Lib.hid hx
      have H2 := Lib.hid h2
      clear hK h1 h2 hx
      go_simp
      first
        | (go_at_call 22; refine (FM.out (γ 1) (γ 3) wx (HX.out.row (1, evP E) (by simp) (H2.out 1 (by kernel_rfl))) (HX.out.row (3, evP E) (by simp) (H2.out 3 (by kernel_rfl)))).mono ?_; rintro e w' ⟨rfl, hb⟩; exact HK2.out _ (HX.out.next _ (by rfl) hb))
        | (go_at_call 25; refine (FC.out wx).mono ?_; rintro e w' ⟨rfl, hb⟩; exact HK2.out _ (HX.out.next _ (by rfl) hb))
        | (go_at_call 26; refine (GC.out wx).mono ?_; rintro e w' ⟨rfl, hb⟩; exact HK2.out _ (HX.out.next _ (by rfl) hb))
        | (go_at_call 28; refine (GO.out wx (HA.out.below (below_of_new (HX.out.below.mono (by simp))))).mono ?_; rintro e w' ⟨rfl, hb⟩; exact HK2.out _ (HX.out.next _ (by rfl) hb))
        | (go_at_call 27; first | with_reducible refine (FO.out wx (HA.out.below (below_of_new (HX.out.below.mono (by simp))))).mono ?_ | refine (FE.out (γ 21) wx (HX.out.row (21, evP E) (by simp) (H2.out 21 (by kernel_rfl)))).mono ?_); (rintro e w' ⟨rfl, hb⟩; exact HK2.out _ (HX.out.next _ (by rfl) hb))
        | (go_at_call 17; refine (FS.out wx).mono ?_; rintro e w' ⟨rfl, hb⟩; exact HK2.out _ (HX.out.next _ (by rfl) hb))
        | exact HK2.out _ (HX.out.next _ (by rfl) (Below.refl _ _))
    try simp only [Act.put, List.setIfInBounds_toArray, List.set_cons_succ, List.set_cons_zero]
    refine GhostV.walk_yes (fun b => b) (fun γ => by rfl) ?_ ?_
    · intro γ L wx h1 h2 hx K hK
      obtain ⟨k0, k1⟩ := HBX.out _ (hx.below.mono (by simp))
      have HK2 := Lib.hid hK
      have HX := Lib.hid hx
      have H2 := Lib.hid h2
      clear hK h1 h2 hx
      go_simp
      (go_at_call 24; refine (GL.out wx).mono ?_; rintro e w' ⟨u, rfl, hu, hb⟩; exact HK2.out _ _ (HX.out.make (by simp only [List.mem_cons, List.not_mem_nil, or_false]; rintro d (rfl | rfl | rfl) h; (· cases h); (· exact hu); (· cases h)) hb))
    try simp only [Act.put, List.setIfInBounds_toArray, List.set_cons_succ, List.set_cons_zero]
    apply GhostV.walk_const (fun γ => by rfl)
    · intro γ L wx h1 h2 hx K hK
      obtain ⟨k0, k1⟩ := HBX.out _ (hx.below.mono (by simp))
      have HK2 := Lib.hid hK
      have HX := Lib.hid hx
      have H2 := Lib.hid h2
      clear hK h1 h2 hx
      go_simp
      first
        | (go_at_call 22; refine (FM.out (γ 1) (γ 3) wx (HX.out.row (1, evP E) (by simp) (H2.out 1 (by kernel_rfl))) (HX.out.row (3, evP E) (by simp) (H2.out 3 (by kernel_rfl)))).mono ?_; rintro e w' ⟨rfl, hb⟩; exact HK2.out _ (HX.out.next _ (by rfl) hb))
        | (go_at_call 25; refine (FC.out wx).mono ?_; rintro e w' ⟨rfl, hb⟩; exact HK2.out _ (HX.out.next _ (by rfl) hb))
        | (go_at_call 26; refine (GC.out wx).mono ?_; rintro e w' ⟨rfl, hb⟩; exact HK2.out _ (HX.out.next _ (by rfl) hb))
        | (go_at_call 28; refine (GO.out wx (HA.out.below (below_of_new (HX.out.below.mono (by simp))))).mono ?_; rintro e w' ⟨rfl, hb⟩; exact HK2.out _ (HX.out.next _ (by rfl) hb))
        | (go_at_call 27; first | with_reducible refine (FO.out wx (HA.out.below (below_of_new (HX.out.below.mono (by simp))))).mono ?_ | refine (FE.out (γ 21) wx (HX.out.row (21, evP E) (by simp) (H2.out 21 (by kernel_rfl)))).mono ?_); (rintro e w' ⟨rfl, hb⟩; exact HK2.out _ (HX.out.next _ (by rfl) hb))
        | (go_at_call 17; refine (FS.out wx).mono ?_; rintro e w' ⟨rfl, hb⟩; exact HK2.out _ (HX.out.next _ (by rfl) hb))
        | exact HK2.out _ (HX.out.next _ (by rfl) (Below.refl _ _))
    try simp only [Act.put, List.setIfInBounds_toArray, List.set_cons_succ, List.set_cons_zero]
    apply GhostV.walk_const (fun γ => by rfl)
    · intro γ L wx h1 h2 hx K hK
      obtain ⟨k0, k1⟩ := HBX.out _ (hx.below.mono (by simp))
      have HK2 := Lib.hid hK
      have HX := Lib.hid hx
      have H2 := Lib.hid h2
      clear hK h1 h2 hx
      go_simp
      first
        | (go_at_call 22; refine (FM.out (γ 1) (γ 3) wx (HX.out.row (1, evP E) (by simp) (H2.out 1 (by kernel_rfl))) (HX.out.row (3, evP E) (by simp) (H2.out 3 (by kernel_rfl)))).mono ?_; rintro e w' ⟨rfl, hb⟩; exact HK2.out _ (HX.out.next _ (by rfl) hb))
        | (go_at_call 25; refine (FC.out wx).mono ?_; rintro e w' ⟨rfl, hb⟩; exact HK2.out _ (HX.out.next _ (by rfl) hb))
        | (go_at_call 26; refine (GC.out wx).mono ?_; rintro e w' ⟨rfl, hb⟩; exact HK2.out _ (HX.out.next _ (by rfl) hb))
        | (go_at_call 28; refine (GO.out wx (HA.out.below (below_of_new (HX.out.below.mono (by simp))))).mono ?_; rintro e w' ⟨rfl, hb⟩; exact HK2.out _ (HX.out.next _ (by rfl) hb))
        | (go_at_call 27; first | with_reducible refine (FO.out wx (HA.out.below (below_of_new (HX.out.below.mono (by simp))))).mono ?_ | refine (FE.out (γ 21) wx (HX.out.row (21, evP E) (by simp) (H2.out 21 (by kernel_rfl)))).mono ?_); (rintro e w' ⟨rfl, hb⟩; exact HK2.out _ (HX.out.next _ (by rfl) hb))
        | (go_at_call 17; refine (FS.out wx).mono ?_; rintro e w' ⟨rfl, hb⟩; exact HK2.out _ (HX.out.next _ (by rfl) hb))
        | exact HK2.out _ (HX.out.next _ (by rfl) (Below.refl _ _))
    try simp only [Act.put, List.setIfInBounds_toArray, List.set_cons_succ, List.set_cons_zero]
    apply GhostV.walk_const (fun γ => by rfl)
    · intro γ L wx h1 h2 hx K hK
      obtain ⟨k0, k1⟩ := HBX.out _ (hx.below.mono (by simp))
      have HK2 := Lib.hid hK
      have HX := Lib.hid hx
      have H2 := Lib.hid h2
      clear hK h1 h2 hx
      go_simp
      first
        | (go_at_call 22; refine (FM.out (γ 1) (γ 3) wx (HX.out.row (1, evP E) (by simp) (H2.out 1 (by kernel_rfl))) (HX.out.row (3, evP E) (by simp) (H2.out 3 (by kernel_rfl)))).mono ?_; rintro e w' ⟨rfl, hb⟩; exact HK2.out _ (HX.out.next _ (by rfl) hb))
        | (go_at_call 25; refine (FC.out wx).mono ?_; rintro e w' ⟨rfl, hb⟩; exact HK2.out _ (HX.out.next _ (by rfl) hb))
        | (go_at_call 26; refine (GC.out wx).mono ?_; rintro e w' ⟨rfl, hb⟩; exact HK2.out _ (HX.out.next _ (by rfl) hb))
        | (go_at_call 28; refine (GO.out wx (HA.out.below (below_of_new (HX.out.below.mono (by simp))))).mono ?_; rintro e w' ⟨rfl, hb⟩; exact HK2.out _ (HX.out.next _ (by rfl) hb))
        | (go_at_call 27; first | with_reducible refine (FO.out wx (HA.out.below (below_of_new (HX.out.below.mono (by simp))))).mono ?_ | refine (FE.out (γ 21) wx (HX.out.row (21, evP E) (by simp) (H2.out 21 (by kernel_rfl)))).mono ?_); (rintro e w' ⟨rfl, hb⟩; exact HK2.out _ (HX.out.next _ (by rfl) hb))
        | (go_at_call 17; refine (FS.out wx).mono ?_; rintro e w' ⟨rfl, hb⟩; exact HK2.out _ (HX.out.next _ (by rfl) hb))
        | exact HK2.out _ (HX.out.next _ (by rfl) (Below.refl _ _))
    try simp only [Act.put, List.setIfInBounds_toArray, List.set_cons_succ, List.set_cons_zero]
    apply GhostV.walk_const (fun γ => by rfl)
    · intro γ L wx h1 h2 hx K hK
      obtain ⟨k0, k1⟩ := HBX.out _ (hx.below.mono (by simp))
      have HK2 := Lib.hid hK
      have HX := Lib.hid hx
      have H2 := Lib.hid h2
      clear hK h1 h2 hx
      go_simp
      first
        | (go_at_call 22; refine (FM.out (γ 1) (γ 3) wx (HX.out.row (1, evP E) (by simp) (H2.out 1 (by kernel_rfl))) (HX.out.row (3, evP E) (by simp) (H2.out 3 (by kernel_rfl)))).mono ?_; rintro e w' ⟨rfl, hb⟩; exact HK2.out _ (HX.out.next _ (by rfl) hb))
        | (go_at_call 25; refine (FC.out wx).mono ?_; rintro e w' ⟨rfl, hb⟩; exact HK2.out _ (HX.out.next _ (by rfl) hb))
        | (go_at_call 26; refine (GC.out wx).mono ?_; rintro e w' ⟨rfl, hb⟩; exact HK2.out _ (HX.out.next _ (by rfl) hb))
        | (go_at_call 28; refine (GO.out wx (HA.out.below (below_of_new (HX.out.below.mono (by simp))))).mono ?_; rintro e w' ⟨rfl, hb⟩; exact HK2.out _ (HX.out.next _ (by rfl) hb))
        | (go_at_call 27; first | with_reducible refine (FO.out wx (HA.out.below (below_of_new (HX.out.below.mono (by simp))))).mono ?_ | refine (FE.out (γ 21) wx (HX.out.row (21, evP E) (by simp) (H2.out 21 (by kernel_rfl)))).mono ?_); (rintro e w' ⟨rfl, hb⟩; exact HK2.out _ (HX.out.next _ (by rfl) hb))
        | (go_at_call 17; refine (FS.out wx).mono ?_; rintro e w' ⟨rfl, hb⟩; exact HK2.out _ (HX.out.next _ (by rfl) hb))
        | exact HK2.out _ (HX.out.next _ (by rfl) (Below.refl _ _))
    try simp only [Act.put, List.setIfInBounds_toArray, List.set_cons_succ, List.set_cons_zero]
    apply GhostV.walk_const (fun γ => by rfl)
    · intro γ L wx h1 h2 hx K hK
      obtain ⟨k0, k1⟩ := HBX.out _ (hx.below.mono (by simp))
      have HK2 := Lib.hid hK
      have HX := Lib.hid hx
      have H2 := Lib.hid h2
      clear hK h1 h2 hx
      go_simp
      first
        | (go_at_call 22; refine (FM.out (γ 1) (γ 3) wx (HX.out.row (1, evP E) (by simp) (H2.out 1 (by kernel_rfl))) (HX.out.row (3, evP E) (by simp) (H2.out 3 (by kernel_rfl)))).mono ?_; rintro e w' ⟨rfl, hb⟩; exact HK2.out _ (HX.out.next _ (by rfl) hb))
        | (go_at_call 25; refine (FC.out wx).mono ?_; rintro e w' ⟨rfl, hb⟩; exact HK2.out _ (HX.out.next _ (by rfl) hb))
        | (go_at_call 26; refine (GC.out wx).mono ?_; rintro e w' ⟨rfl, hb⟩; exact HK2.out _ (HX.out.next _ (by rfl) hb))
        | (go_at_call 28; refine (GO.out wx (HA.out.below (below_of_new (HX.out.below.mono (by simp))))).mono ?_; rintro e w' ⟨rfl, hb⟩; exact HK2.out _ (HX.out.next _ (by rfl) hb))
        | (go_at_call 27; first | with_reducible refine (FO.out wx (HA.out.below (below_of_new (HX.out.below.mono (by simp))))).mono ?_ | refine (FE.out (γ 21) wx (HX.out.row (21, evP E) (by simp) (H2.out 21 (by kernel_rfl)))).mono ?_); (rintro e w' ⟨rfl, hb⟩; exact HK2.out _ (HX.out.next _ (by rfl) hb))
        | (go_at_call 17; refine (FS.out wx).mono ?_; rintro e w' ⟨rfl, hb⟩; exact HK2.out _ (HX.out.next _ (by rfl) hb))
        | exact HK2.out _ (HX.out.next _ (by rfl) (Below.refl _ _))
    try simp only [Act.put, List.setIfInBounds_toArray, List.set_cons_succ, List.set_cons_zero]
    apply GhostV.walk_const (fun γ => by rfl)
    · intro γ L wx h1 h2 hx K hK
      obtain ⟨k0, k1⟩ := HBX.out _ (hx.below.mono (by simp))
      have HK2 := Lib.hid hK
      have HX := Lib.hid hx
      have H2 := Lib.hid h2
      clear hK h1 h2 hx
      go_simp
      first
        | (go_at_call 22; refine (FM.out (γ 1) (γ 3) wx (HX.out.row (1, evP E) (by simp) (H2.out 1 (by kernel_rfl))) (HX.out.row (3, evP E) (by simp) (H2.out 3 (by kernel_rfl)))).mono ?_; rintro e w' ⟨rfl, hb⟩; exact HK2.out _ (HX.out.next _ (by rfl) hb))
        | (go_at_call 25; refine (FC.out wx).mono ?_; rintro e w' ⟨rfl, hb⟩; exact HK2.out _ (HX.out.next _ (by rfl) hb))
        | (go_at_call 26; refine (GC.out wx).mono ?_; rintro e w' ⟨rfl, hb⟩; exact HK2.out _ (HX.out.next _ (by rfl) hb))
        | (go_at_call 28; refine (GO.out wx (HA.out.below (below_of_new (HX.out.below.mono (by simp))))).mono ?_; rintro e w' ⟨rfl, hb⟩; exact HK2.out _ (HX.out.next _ (by rfl) hb))
        | (go_at_call 27; first | with_reducible refine (FO.out wx (HA.out.below (below_of_new (HX.out.below.mono (by simp))))).mono ?_ | refine (FE.out (γ 21) wx (HX.out.row (21, evP E) (by simp) (H2.out 21 (by kernel_rfl)))).mono ?_); (rintro e w' ⟨rfl, hb⟩; exact HK2.out _ (HX.out.next _ (by rfl) hb))
        | (go_at_call 17; refine (FS.out wx).mono ?_; rintro e w' ⟨rfl, hb⟩; exact HK2.out _ (HX.out.next _ (by rfl) hb))
        | exact HK2.out _ (HX.out.next _ (by rfl) (Below.refl _ _))
    try simp only [Act.put, List.setIfInBounds_toArray, List.set_cons_succ, List.set_cons_zero]
    apply GhostV.walk_const (fun γ => by rfl)
    · intro γ L wx h1 h2 hx K hK
      obtain ⟨k0, k1⟩ := HBX.out _ (hx.below.mono (by simp))
      have HK2 := Lib.hid hK
      have HX := Lib.hid hx
      have H2 := Lib.hid h2
      clear hK h1 h2 hx
      go_simp
      first
        | (go_at_call 22; refine (FM.out (γ 1) (γ 3) wx (HX.out.row (1, evP E) (by simp) (H2.out 1 (by kernel_rfl))) (HX.out.row (3, evP E) (by simp) (H2.out 3 (by kernel_rfl)))).mono ?_; rintro e w' ⟨rfl, hb⟩; exact HK2.out _ (HX.out.next _ (by rfl) hb))
        | (go_at_call 25; refine (FC.out wx).mono ?_; rintro e w' ⟨rfl, hb⟩; exact HK2.out _ (HX.out.next _ (by rfl) hb))
        | (go_at_call 26; refine (GC.out wx).mono ?_; rintro e w' ⟨rfl, hb⟩; exact HK2.out _ (HX.out.next _ (by rfl) hb))
        | (go_at_call 28; refine (GO.out wx (HA.out.below (below_of_new (HX.out.below.mono (by simp))))).mono ?_; rintro e w' ⟨rfl, hb⟩; exact HK2.out _ (HX.out.next _ (by rfl) hb))
        | (go_at_call 27; first | with_reducible refine (FO.out wx (HA.out.below (below_of_new (HX.out.below.mono (by simp))))).mono ?_ | refine (FE.out (γ 21) wx (HX.out.row (21, evP E) (by simp) (H2.out 21 (by kernel_rfl)))).mono ?_); (rintro e w' ⟨rfl, hb⟩; exact HK2.out _ (HX.out.next _ (by rfl) hb))
        | (go_at_call 17; refine (FS.out wx).mono ?_; rintro e w' ⟨rfl, hb⟩; exact HK2.out _ (HX.out.next _ (by rfl) hb))
        | exact HK2.out _ (HX.out.next _ (by rfl) (Below.refl _ _))
    try simp only [Act.put, List.setIfInBounds_toArray, List.set_cons_succ, List.set_cons_zero]
    apply GhostV.walk_const (fun γ => by rfl)
    · intro γ L wx h1 h2 hx K hK
      obtain ⟨k0, k1⟩ := HBX.out _ (hx.below.mono (by simp))
      have HK2 := Lib.hid hK
      have HX := Lib.hid hx
      have H2 := Lib.hid h2
      clear hK h1 h2 hx
      go_simp
      first
        | (go_at_call 22; refine (FM.out (γ 1) (γ 3) wx (HX.out.row (1, evP E) (by simp) (H2.out 1 (by kernel_rfl))) (HX.out.row (3, evP E) (by simp) (H2.out 3 (by kernel_rfl)))).mono ?_; rintro e w' ⟨rfl, hb⟩; exact HK2.out _ (HX.out.next _ (by rfl) hb))
        | (go_at_call 25; refine (FC.out wx).mono ?_; rintro e w' ⟨rfl, hb⟩; exact HK2.out _ (HX.out.next _ (by rfl) hb))
        | (go_at_call 26; refine (GC.out wx).mono ?_; rintro e w' ⟨rfl, hb⟩; exact HK2.out _ (HX.out.next _ (by rfl) hb))
        | (go_at_call 28; refine (GO.out wx (HA.out.below (below_of_new (HX.out.below.mono (by simp))))).mono ?_; rintro e w' ⟨rfl, hb⟩; exact HK2.out _ (HX.out.next _ (by rfl) hb))
        | (go_at_call 27; first | with_reducible refine (FO.out wx (HA.out.below (below_of_new (HX.out.below.mono (by simp))))).mono ?_ | refine (FE.out (γ 21) wx (HX.out.row (21, evP E) (by simp) (H2.out 21 (by kernel_rfl)))).mono ?_); (rintro e w' ⟨rfl, hb⟩; exact HK2.out _ (HX.out.next _ (by rfl) hb))
        | (go_at_call 17; refine (FS.out wx).mono ?_; rintro e w' ⟨rfl, hb⟩; exact HK2.out _ (HX.out.next _ (by rfl) hb))
        | exact HK2.out _ (HX.out.next _ (by rfl) (Below.refl _ _))
    try simp only [Act.put, List.setIfInBounds_toArray, List.set_cons_succ, List.set_cons_zero]
    apply GhostV.walk_const (fun γ => by rfl)
    · intro γ L wx h1 h2 hx K hK
      obtain ⟨k0, k1⟩ := HBX.out _ (hx.below.mono (by simp))
      have HK2 := Lib.hid hK
      have HX := Lib.hid hx
      have H2 := Lib.hid h2
      clear hK h1 h2 hx
      go_simp
      first
        | (go_at_call 22; refine (FM.out (γ 1) (γ 3) wx (HX.out.row (1, evP E) (by simp) (H2.out 1 (by kernel_rfl))) (HX.out.row (3, evP E) (by simp) (H2.out 3 (by kernel_rfl)))).mono ?_; rintro e w' ⟨rfl, hb⟩; exact HK2.out _ (HX.out.next _ (by rfl) hb))
        | (go_at_call 25; refine (FC.out wx).mono ?_; rintro e w' ⟨rfl, hb⟩; exact HK2.out _ (HX.out.next _ (by rfl) hb))
        | (go_at_call 26; refine (GC.out wx).mono ?_; rintro e w' ⟨rfl, hb⟩; exact HK2.out _ (HX.out.next _ (by rfl) hb))
        | (go_at_call 28; refine (GO.out wx (HA.out.below (below_of_new (HX.out.below.mono (by simp))))).mono ?_; rintro e w' ⟨rfl, hb⟩; exact HK2.out _ (HX.out.next _ (by rfl) hb))
        | (go_at_call 27; first | with_reducible refine (FO.out wx (HA.out.below (below_of_new (HX.out.below.mono (by simp))))).mono ?_ | refine (FE.out (γ 21) wx (HX.out.row (21, evP E) (by simp) (H2.out 21 (by kernel_rfl)))).mono ?_); (rintro e w' ⟨rfl, hb⟩; exact HK2.out _ (HX.out.next _ (by rfl) hb))
        | (go_at_call 17; refine (FS.out wx).mono ?_; rintro e w' ⟨rfl, hb⟩; exact HK2.out _ (HX.out.next _ (by rfl) hb))
        | exact HK2.out _ (HX.out.next _ (by rfl) (Below.refl _ _))
    try simp only [Act.put, List.setIfInBounds_toArray, List.set_cons_succ, List.set_cons_zero]
    apply GhostV.walk_const (fun γ => by rfl)
    · intro γ L wx h1 h2 hx K hK
      obtain ⟨k0, k1⟩ := HBX.out _ (hx.below.mono (by simp))
      have HK2 := Lib.hid hK
      have HX := Lib.hid hx
      have H2 := Lib.hid h2
      clear hK h1 h2 hx
      go_simp
      first
        | (go_at_call 22; refine (FM.out (γ 1) (γ 3) wx (HX.out.row (1, evP E) (by simp) (H2.out 1 (by kernel_rfl))) (HX.out.row (3, evP E) (by simp) (H2.out 3 (by kernel_rfl)))).mono ?_; rintro e w' ⟨rfl, hb⟩; exact HK2.out _ (HX.out.next _ (by rfl) hb))
        | (go_at_call 25; refine (FC.out wx).mono ?_; rintro e w' ⟨rfl, hb⟩; exact HK2.out _ (HX.out.next _ (by rfl) hb))
        | (go_at_call 26; refine (GC.out wx).mono ?_; rintro e w' ⟨rfl, hb⟩; exact HK2.out _ (HX.out.next _ (by rfl) hb))
        | (go_at_call 28; refine (GO.out wx (HA.out.below (below_of_new (HX.out.below.mono (by simp))))).mono ?_; rintro e w' ⟨rfl, hb⟩; exact HK2.out _ (HX.out.next _ (by rfl) hb))
        | (go_at_call 27; first | with_reducible refine (FO.out wx (HA.out.below (below_of_new (HX.out.below.mono (by simp))))).mono ?_ | refine (FE.out (γ 21) wx (HX.out.row (21, evP E) (by simp) (H2.out 21 (by kernel_rfl)))).mono ?_); (rintro e w' ⟨rfl, hb⟩; exact HK2.out _ (HX.out.next _ (by rfl) hb))
        | (go_at_call 17; refine (FS.out wx).mono ?_; rintro e w' ⟨rfl, hb⟩; exact HK2.out _ (HX.out.next _ (by rfl) hb))
        | exact HK2.out _ (HX.out.next _ (by rfl) (Below.refl _ _))
    try simp only [Act.put, List.setIfInBounds_toArray, List.set_cons_succ, List.set_cons_zero]
    apply GhostV.walk_const (fun γ => by rfl)
    · intro γ L wx h1 h2 hx K hK
      obtain ⟨k0, k1⟩ := HBX.out _ (hx.below.mono (by simp))
      have HK2 := Lib.hid hK
      have HX := Lib.hid hx
      have H2 := Lib.hid h2
      clear hK h1 h2 hx
      go_simp
      first
        | (go_at_call 22; refine (FM.out (γ 1) (γ 3) wx (HX.out.row (1, evP E) (by simp) (H2.out 1 (by kernel_rfl))) (HX.out.row (3, evP E) (by simp) (H2.out 3 (by kernel_rfl)))).mono ?_; rintro e w' ⟨rfl, hb⟩; exact HK2.out _ (HX.out.next _ (by rfl) hb))
        | (go_at_call 25; refine (FC.out wx).mono ?_; rintro e w' ⟨rfl, hb⟩; exact HK2.out _ (HX.out.next _ (by rfl) hb))
        | (go_at_call 26; refine (GC.out wx).mono ?_; rintro e w' ⟨rfl, hb⟩; exact HK2.out _ (HX.out.next _ (by rfl) hb))
        | (go_at_call 28; refine (GO.out wx (HA.out.below (below_of_new (HX.out.below.mono (by simp))))).mono ?_; rintro e w' ⟨rfl, hb⟩; exact HK2.out _ (HX.out.next _ (by rfl) hb))
        | (go_at_call 27; first | with_reducible refine (FO.out wx (HA.out.below (below_of_new (HX.out.below.mono (by simp))))).mono ?_ | refine (FE.out (γ 21) wx (HX.out.row (21, evP E) (by simp) (H2.out 21 (by kernel_rfl)))).mono ?_); (rintro e w' ⟨rfl, hb⟩; exact HK2.out _ (HX.out.next _ (by rfl) hb))
        | (go_at_call 17; refine (FS.out wx).mono ?_; rintro e w' ⟨rfl, hb⟩; exact HK2.out _ (HX.out.next _ (by rfl) hb))
        | exact HK2.out _ (HX.out.next _ (by rfl) (Below.refl _ _))
    try simp only [Act.put, List.setIfInBounds_toArray, List.set_cons_succ, List.set_cons_zero]
    apply GhostV.walk_const (fun γ => by rfl)
    · intro γ L wx h1 h2 hx K hK
      obtain ⟨k0, k1⟩ := HBX.out _ (hx.below.mono (by simp))
      have HK2 := Lib.hid hK
      have HX := Lib.hid hx
      have H2 := Lib.hid h2
      clear hK h1 h2 hx
      go_simp
      first
        | (go_at_call 22; refine (FM.out (γ 1) (γ 3) wx (HX.out.row (1, evP E) (by simp) (H2.out 1 (by kernel_rfl))) (HX.out.row (3, evP E) (by simp) (H2.out 3 (by kernel_rfl)))).mono ?_; rintro e w' ⟨rfl, hb⟩; exact HK2.out _ (HX.out.next _ (by rfl) hb))
        | (go_at_call 25; refine (FC.out wx).mono ?_; rintro e w' ⟨rfl, hb⟩; exact HK2.out _ (HX.out.next _ (by rfl) hb))
        | (go_at_call 26; refine (GC.out wx).mono ?_; rintro e w' ⟨rfl, hb⟩; exact HK2.out _ (HX.out.next _ (by rfl) hb))
        | (go_at_call 28; refine (GO.out wx (HA.out.below (below_of_new (HX.out.below.mono (by simp))))).mono ?_; rintro e w' ⟨rfl, hb⟩; exact HK2.out _ (HX.out.next _ (by rfl) hb))
        | (go_at_call 27; first | with_reducible refine (FO.out wx (HA.out.below (below_of_new (HX.out.below.mono (by simp))))).mono ?_ | refine (FE.out (γ 21) wx (HX.out.row (21, evP E) (by simp) (H2.out 21 (by kernel_rfl)))).mono ?_); (rintro e w' ⟨rfl, hb⟩; exact HK2.out _ (HX.out.next _ (by rfl) hb))
        | (go_at_call 17; refine (FS.out wx).mono ?_; rintro e w' ⟨rfl, hb⟩; exact HK2.out _ (HX.out.next _ (by rfl) hb))
        | exact HK2.out _ (HX.out.next _ (by rfl) (Below.refl _ _))
    try simp only [Act.put, List.setIfInBounds_toArray, List.set_cons_succ, List.set_cons_zero]
    apply GhostV.walk_const (fun γ => by rfl)
    · intro γ L wx h1 h2 hx K hK
      obtain ⟨k0, k1⟩ := HBX.out _ (hx.below.mono (by simp))
      have HK2 := Lib.hid hK
      have HX := Lib.hid hx
      have H2 := Lib.hid h2
      clear hK h1 h2 hx
      go_simp
      first
        | (go_at_call 22; refine (FM.out (γ 1) (γ 3) wx (HX.out.row (1, evP E) (by simp) (H2.out 1 (by kernel_rfl))) (HX.out.row (3, evP E) (by simp) (H2.out 3 (by kernel_rfl)))).mono ?_; rintro e w' ⟨rfl, hb⟩; exact HK2.out _ (HX.out.next _ (by rfl) hb))
        | (go_at_call 25; refine (FC.out wx).mono ?_; rintro e w' ⟨rfl, hb⟩; exact HK2.out _ (HX.out.next _ (by rfl) hb))
        | (go_at_call 26; refine (GC.out wx).mono ?_; rintro e w' ⟨rfl, hb⟩; exact HK2.out _ (HX.out.next _ (by rfl) hb))
        | (go_at_call 28; refine (GO.out wx (HA.out.below (below_of_new (HX.out.below.mono (by simp))))).mono ?_; rintro e w' ⟨rfl, hb⟩; exact HK2.out _ (HX.out.next _ (by rfl) hb))
        | (go_at_call 27; first | with_reducible refine (FO.out wx (HA.out.below (below_of_new (HX.out.below.mono (by simp))))).mono ?_ | refine (FE.out (γ 21) wx (HX.out.row (21, evP E) (by simp) (H2.out 21 (by kernel_rfl)))).mono ?_); (rintro e w' ⟨rfl, hb⟩; exact HK2.out _ (HX.out.next _ (by rfl) hb))
        | (go_at_call 17; refine (FS.out wx).mono ?_; rintro e w' ⟨rfl, hb⟩; exact HK2.out _ (HX.out.next _ (by rfl) hb))
        | exact HK2.out _ (HX.out.next _ (by rfl) (Below.refl _ _))
    try simp only [Act.put, List.setIfInBounds_toArray, List.set_cons_succ, List.set_cons_zero]
    apply GhostV.walk_const (fun γ => by rfl)
    · intro γ L wx h1 h2 hx K hK
      obtain ⟨k0, k1⟩ := HBX.out _ (hx.below.mono (by simp))
      have HK2 := Lib.hid hK
      have HX := Lib.hid hx
      have H2 := Lib.hid h2
      clear hK h1 h2 hx
      go_simp
      first
        | (go_at_call 22; refine (FM.out (γ 1) (γ 3) wx (HX.out.row (1, evP E) (by simp) (H2.out 1 (by kernel_rfl))) (HX.out.row (3, evP E) (by simp) (H2.out 3 (by kernel_rfl)))).mono ?_; rintro e w' ⟨rfl, hb⟩; exact HK2.out _ (HX.out.next _ (by rfl) hb))
        | (go_at_call 25; refine (FC.out wx).mono ?_; rintro e w' ⟨rfl, hb⟩; exact HK2.out _ (HX.out.next _ (by rfl) hb))
        | (go_at_call 26; refine (GC.out wx).mono ?_; rintro e w' ⟨rfl, hb⟩; exact HK2.out _ (HX.out.next _ (by rfl) hb))
        | (go_at_call 28; refine (GO.out wx (HA.out.below (below_of_new (HX.out.below.mono (by simp))))).mono ?_; rintro e w' ⟨rfl, hb⟩; exact HK2.out _ (HX.out.next _ (by rfl) hb))
        | (go_at_call 27; first | with_reducible refine (FO.out wx (HA.out.below (below_of_new (HX.out.below.mono (by simp))))).mono ?_ | refine (FE.out (γ 21) wx (HX.out.row (21, evP E) (by simp) (H2.out 21 (by kernel_rfl)))).mono ?_); (rintro e w' ⟨rfl, hb⟩; exact HK2.out _ (HX.out.next _ (by rfl) hb))
        | (go_at_call 17; refine (FS.out wx).mono ?_; rintro e w' ⟨rfl, hb⟩; exact HK2.out _ (HX.out.next _ (by rfl) hb))
        | exact HK2.out _ (HX.out.next _ (by rfl) (Below.refl _ _))
    try simp only [Act.put, List.setIfInBounds_toArray, List.set_cons_succ, List.set_cons_zero]
    apply GhostV.walk_const (fun γ => by rfl)
    · intro γ L wx h1 h2 hx K hK
      obtain ⟨k0, k1⟩ := HBX.out _ (hx.below.mono (by simp))
      have HK2 := Lib.hid hK
      have HX := Lib.hid hx
      have H2 := Lib.hid h2
      clear hK h1 h2 hx
      go_simp
      first
        | (go_at_call 22; refine (FM.out (γ 1) (γ 3) wx (HX.out.row (1, evP E) (by simp) (H2.out 1 (by kernel_rfl))) (HX.out.row (3, evP E) (by simp) (H2.out 3 (by kernel_rfl)))).mono ?_; rintro e w' ⟨rfl, hb⟩; exact HK2.out _ (HX.out.next _ (by rfl) hb))
        | (go_at_call 25; refine (FC.out wx).mono ?_; rintro e w' ⟨rfl, hb⟩; exact HK2.out _ (HX.out.next _ (by rfl) hb))
        | (go_at_call 26; refine (GC.out wx).mono ?_; rintro e w' ⟨rfl, hb⟩; exact HK2.out _ (HX.out.next _ (by rfl) hb))
        | (go_at_call 28; refine (GO.out wx (HA.out.below (below_of_new (HX.out.below.mono (by simp))))).mono ?_; rintro e w' ⟨rfl, hb⟩; exact HK2.out _ (HX.out.next _ (by rfl) hb))
        | (go_at_call 27; first | with_reducible refine (FO.out wx (HA.out.below (below_of_new (HX.out.below.mono (by simp))))).mono ?_ | refine (FE.out (γ 21) wx (HX.out.row (21, evP E) (by simp) (H2.out 21 (by kernel_rfl)))).mono ?_); (rintro e w' ⟨rfl, hb⟩; exact HK2.out _ (HX.out.next _ (by rfl) hb))
        | (go_at_call 17; refine (FS.out wx).mono ?_; rintro e w' ⟨rfl, hb⟩; exact HK2.out _ (HX.out.next _ (by rfl) hb))
        | exact HK2.out _ (HX.out.next _ (by rfl) (Below.refl _ _))
    try simp only [Act.put, List.setIfInBounds_toArray, List.set_cons_succ, List.set_cons_zero]
    apply GhostV.walk_const (fun γ => by rfl)
    · intro γ L wx h1 h2 hx K hK
      obtain ⟨k0, k1⟩ := HBX.out _ (hx.below.mono (by simp))
      have HK2 := Lib.hid hK
      have HX := Lib.hid hx
      have H2 := Lib.hid h2
      clear hK h1 h2 hx
      go_simp
      first
        | (go_at_call 22; refine (FM.out (γ 1) (γ 3) wx (HX.out.row (1, evP E) (by simp) (H2.out 1 (by kernel_rfl))) (HX.out.row (3, evP E) (by simp) (H2.out 3 (by kernel_rfl)))).mono ?_; rintro e w' ⟨rfl, hb⟩; exact HK2.out _ (HX.out.next _ (by rfl) hb))
        | (go_at_call 25; refine (FC.out wx).mono ?_; rintro e w' ⟨rfl, hb⟩; exact HK2.out _ (HX.out.next _ (by rfl) hb))
        | (go_at_call 26; refine (GC.out wx).mono ?_; rintro e w' ⟨rfl, hb⟩; exact HK2.out _ (HX.out.next _ (by rfl) hb))
        | (go_at_call 28; refine (GO.out wx (HA.out.below (below_of_new (HX.out.below.mono (by simp))))).mono ?_; rintro e w' ⟨rfl, hb⟩; exact HK2.out _ (HX.out.next _ (by rfl) hb))
        | (go_at_call 27; first | with_reducible refine (FO.out wx (HA.out.below (below_of_new (HX.out.below.mono (by simp))))).mono ?_ | refine (FE.out (γ 21) wx (HX.out.row (21, evP E) (by simp) (H2.out 21 (by kernel_rfl)))).mono ?_); (rintro e w' ⟨rfl, hb⟩; exact HK2.out _ (HX.out.next _ (by rfl) hb))
        | (go_at_call 17; refine (FS.out wx).mono ?_; rintro e w' ⟨rfl, hb⟩; exact HK2.out _ (HX.out.next _ (by rfl) hb))
        | exact HK2.out _ (HX.out.next _ (by rfl) (Below.refl _ _))
    try simp only [Act.put, List.setIfInBounds_toArray, List.set_cons_succ, List.set_cons_zero]
    apply GhostV.walk_const (fun γ => by rfl)
    · intro γ L wx h1 h2 hx K hK
      obtain ⟨k0, k1⟩ := HBX.out _ (hx.below.mono (by simp))
      have HK2 := Lib.hid hK
      have HX := Lib.hid hx
      have H2 := Lib.hid h2
      clear hK h1 h2 hx
      go_simp
      first
        | (go_at_call 22; refine (FM.out (γ 1) (γ 3) wx (HX.out.row (1, evP E) (by simp) (H2.out 1 (by kernel_rfl))) (HX.out.row (3, evP E) (by simp) (H2.out 3 (by kernel_rfl)))).mono ?_; rintro e w' ⟨rfl, hb⟩; exact HK2.out _ (HX.out.next _ (by rfl) hb))
        | (go_at_call 25; refine (FC.out wx).mono ?_; rintro e w' ⟨rfl, hb⟩; exact HK2.out _ (HX.out.next _ (by rfl) hb))
        | (go_at_call 26; refine (GC.out wx).mono ?_; rintro e w' ⟨rfl, hb⟩; exact HK2.out _ (HX.out.next _ (by rfl) hb))
        | (go_at_call 28; refine (GO.out wx (HA.out.below (below_of_new (HX.out.below.mono (by simp))))).mono ?_; rintro e w' ⟨rfl, hb⟩; exact HK2.out _ (HX.out.next _ (by rfl) hb))
        | (go_at_call 27; first | with_reducible refine (FO.out wx (HA.out.below (below_of_new (HX.out.below.mono (by simp))))).mono ?_ | refine (FE.out (γ 21) wx (HX.out.row (21, evP E) (by simp) (H2.out 21 (by kernel_rfl)))).mono ?_); (rintro e w' ⟨rfl, hb⟩; exact HK2.out _ (HX.out.next _ (by rfl) hb))
        | (go_at_call 17; refine (FS.out wx).mono ?_; rintro e w' ⟨rfl, hb⟩; exact HK2.out _ (HX.out.next _ (by rfl) hb))
        | exact HK2.out _ (HX.out.next _ (by rfl) (Below.refl _ _))
    try simp only [Act.put, List.setIfInBounds_toArray, List.set_cons_succ, List.set_cons_zero]
    refine GhostV.walk_yes (fun b => b) (fun γ => by rfl) ?_ ?_
    · intro γ L wx h1 h2 hx K hK
      obtain ⟨k0, k1⟩ := HBX.out _ (hx.below.mono (by simp))
      have HK2 := Lib.hid hK
      have HX := Lib.hid hx
      have H2 := Lib.hid h2
      clear hK h1 h2 hx
      go_simp
      (go_at_call 23; refine (FL.out wx).mono ?_; rintro e w' ⟨u, rfl, hu, hb⟩; exact HK2.out _ _ (HX.out.make (by simp only [List.mem_cons, List.not_mem_nil, or_false]; rintro d (rfl | rfl | rfl) h; (· cases h); (· cases h); (· exact hu)) hb))
    try simp only [Act.put, List.setIfInBounds_toArray, List.set_cons_succ, List.set_cons_zero]
    apply GhostV.walk_const (fun γ => by rfl)
    · intro γ L wx h1 h2 hx K hK
      obtain ⟨k0, k1⟩ := HBX.out _ (hx.below.mono (by simp))
      have HK2 := Lib.hid hK
      have HX := Lib.hid hx
      have H2 := Lib.hid h2
      clear hK h1 h2 hx
      go_simp
      first
        | (go_at_call 22; refine (FM.out (γ 1) (γ 3) wx (HX.out.row (1, evP E) (by simp) (H2.out 1 (by kernel_rfl))) (HX.out.row (3, evP E) (by simp) (H2.out 3 (by kernel_rfl)))).mono ?_; rintro e w' ⟨rfl, hb⟩; exact HK2.out _ (HX.out.next _ (by rfl) hb))
        | (go_at_call 25; refine (FC.out wx).mono ?_; rintro e w' ⟨rfl, hb⟩; exact HK2.out _ (HX.out.next _ (by rfl) hb))
        | (go_at_call 26; refine (GC.out wx).mono ?_; rintro e w' ⟨rfl, hb⟩; exact HK2.out _ (HX.out.next _ (by rfl) hb))
        | (go_at_call 28; refine (GO.out wx (HA.out.below (below_of_new (HX.out.below.mono (by simp))))).mono ?_; rintro e w' ⟨rfl, hb⟩; exact HK2.out _ (HX.out.next _ (by rfl) hb))
        | (go_at_call 27; first | with_reducible refine (FO.out wx (HA.out.below (below_of_new (HX.out.below.mono (by simp))))).mono ?_ | refine (FE.out (γ 21) wx (HX.out.row (21, evP E) (by simp) (H2.out 21 (by kernel_rfl)))).mono ?_); (rintro e w' ⟨rfl, hb⟩; exact HK2.out _ (HX.out.next _ (by rfl) hb))
        | (go_at_call 17; refine (FS.out wx).mono ?_; rintro e w' ⟨rfl, hb⟩; exact HK2.out _ (HX.out.next _ (by rfl) hb))
        | exact HK2.out _ (HX.out.next _ (by rfl) (Below.refl _ _))
    try simp only [Act.put, List.setIfInBounds_toArray, List.set_cons_succ, List.set_cons_zero]
    apply GhostV.walk_const (fun γ => by rfl)
    · intro γ L wx h1 h2 hx K hK
      obtain ⟨k0, k1⟩ := HBX.out _ (hx.below.mono (by simp))
      have HK2 := Lib.hid hK
      have HX := Lib.hid hx
      have H2 := Lib.hid h2
      clear hK h1 h2 hx
      go_simp
      first
        | (go_at_call 22; refine (FM.out (γ 1) (γ 3) wx (HX.out.row (1, evP E) (by simp) (H2.out 1 (by kernel_rfl))) (HX.out.row (3, evP E) (by simp) (H2.out 3 (by kernel_rfl)))).mono ?_; rintro e w' ⟨rfl, hb⟩; exact HK2.out _ (HX.out.next _ (by rfl) hb))
        | (go_at_call 25; refine (FC.out wx).mono ?_; rintro e w' ⟨rfl, hb⟩; exact HK2.out _ (HX.out.next _ (by rfl) hb))
        | (go_at_call 26; refine (GC.out wx).mono ?_; rintro e w' ⟨rfl, hb⟩; exact HK2.out _ (HX.out.next _ (by rfl) hb))
        | (go_at_call 28; refine (GO.out wx (HA.out.below (below_of_new (HX.out.below.mono (by simp))))).mono ?_; rintro e w' ⟨rfl, hb⟩; exact HK2.out _ (HX.out.next _ (by rfl) hb))
        | (go_at_call 27; first | with_reducible refine (FO.out wx (HA.out.below (below_of_new (HX.out.below.mono (by simp))))).mono ?_ | refine (FE.out (γ 21) wx (HX.out.row (21, evP E) (by simp) (H2.out 21 (by kernel_rfl)))).mono ?_); (rintro e w' ⟨rfl, hb⟩; exact HK2.out _ (HX.out.next _ (by rfl) hb))
        | (go_at_call 17; refine (FS.out wx).mono ?_; rintro e w' ⟨rfl, hb⟩; exact HK2.out _ (HX.out.next _ (by rfl) hb))
        | exact HK2.out _ (HX.out.next _ (by rfl) (Below.refl _ _))
    try simp only [Act.put, List.setIfInBounds_toArray, List.set_cons_succ, List.set_cons_zero]
    apply GhostV.walk_const (fun γ => by rfl)
    · intro γ L wx h1 h2 hx K hK
      obtain ⟨k0, k1⟩ := HBX.out _ (hx.below.mono (by simp))
      have HK2 := Lib.hid hK
      have HX := Lib.hid hx
      have H2 := Lib.hid h2
      clear hK h1 h2 hx
      go_simp
      first
        | (go_at_call 22; refine (FM.out (γ 1) (γ 3) wx (HX.out.row (1, evP E) (by simp) (H2.out 1 (by kernel_rfl))) (HX.out.row (3, evP E) (by simp) (H2.out 3 (by kernel_rfl)))).mono ?_; rintro e w' ⟨rfl, hb⟩; exact HK2.out _ (HX.out.next _ (by rfl) hb))
        | (go_at_call 25; refine (FC.out wx).mono ?_; rintro e w' ⟨rfl, hb⟩; exact HK2.out _ (HX.out.next _ (by rfl) hb))
        | (go_at_call 26; refine (GC.out wx).mono ?_; rintro e w' ⟨rfl, hb⟩; exact HK2.out _ (HX.out.next _ (by rfl) hb))
        | (go_at_call 28; refine (GO.out wx (HA.out.below (below_of_new (HX.out.below.mono (by simp))))).mono ?_; rintro e w' ⟨rfl, hb⟩; exact HK2.out _ (HX.out.next _ (by rfl) hb))
        | (go_at_call 27; first | with_reducible refine (FO.out wx (HA.out.below (below_of_new (HX.out.below.mono (by simp))))).mono ?_ | refine (FE.out (γ 21) wx (HX.out.row (21, evP E) (by simp) (H2.out 21 (by kernel_rfl)))).mono ?_); (rintro e w' ⟨rfl, hb⟩; exact HK2.out _ (HX.out.next _ (by rfl) hb))
        | (go_at_call 17; refine (FS.out wx).mono ?_; rintro e w' ⟨rfl, hb⟩; exact HK2.out _ (HX.out.next _ (by rfl) hb))
        | exact HK2.out _ (HX.out.next _ (by rfl) (Below.refl _ _))
    try simp only [Act.put, List.setIfInBounds_toArray, List.set_cons_succ, List.set_cons_zero]
    apply GhostV.walk_const (fun γ => by rfl)
    · intro γ L wx h1 h2 hx K hK
      obtain ⟨k0, k1⟩ := HBX.out _ (hx.below.mono (by simp))
      have HK2 := Lib.hid hK
      have HX := Lib.hid hx
      have H2 := Lib.hid h2
      clear hK h1 h2 hx
      go_simp
      first
        | (go_at_call 22; refine (FM.out (γ 1) (γ 3) wx (HX.out.row (1, evP E) (by simp) (H2.out 1 (by kernel_rfl))) (HX.out.row (3, evP E) (by simp) (H2.out 3 (by kernel_rfl)))).mono ?_; rintro e w' ⟨rfl, hb⟩; exact HK2.out _ (HX.out.next _ (by rfl) hb))
        | (go_at_call 25; refine (FC.out wx).mono ?_; rintro e w' ⟨rfl, hb⟩; exact HK2.out _ (HX.out.next _ (by rfl) hb))
        | (go_at_call 26; refine (GC.out wx).mono ?_; rintro e w' ⟨rfl, hb⟩; exact HK2.out _ (HX.out.next _ (by rfl) hb))
        | (go_at_call 28; refine (GO.out wx (HA.out.below (below_of_new (HX.out.below.mono (by simp))))).mono ?_; rintro e w' ⟨rfl, hb⟩; exact HK2.out _ (HX.out.next _ (by rfl) hb))
        | (go_at_call 27; first | with_reducible refine (FO.out wx (HA.out.below (below_of_new (HX.out.below.mono (by simp))))).mono ?_ | refine (FE.out (γ 21) wx (HX.out.row (21, evP E) (by simp) (H2.out 21 (by kernel_rfl)))).mono ?_); (rintro e w' ⟨rfl, hb⟩; exact HK2.out _ (HX.out.next _ (by rfl) hb))
        | (go_at_call 17; refine (FS.out wx).mono ?_; rintro e w' ⟨rfl, hb⟩; exact HK2.out _ (HX.out.next _ (by rfl) hb))
        | exact HK2.out _ (HX.out.next _ (by rfl) (Below.refl _ _))
    try simp only [Act.put, List.setIfInBounds_toArray, List.set_cons_succ, List.set_cons_zero]
    apply GhostV.walk_const (fun γ => by rfl)
    · intro γ L wx h1 h2 hx K hK
      obtain ⟨k0, k1⟩ := HBX.out _ (hx.below.mono (by simp))
      have HK2 := Lib.hid hK
      have HX := Lib.hid hx
      have H2 := Lib.hid h2
      clear hK h1 h2 hx
      go_simp
      first
        | (go_at_call 22; refine (FM.out (γ 1) (γ 3) wx (HX.out.row (1, evP E) (by simp) (H2.out 1 (by kernel_rfl))) (HX.out.row (3, evP E) (by simp) (H2.out 3 (by kernel_rfl)))).mono ?_; rintro e w' ⟨rfl, hb⟩; exact HK2.out _ (HX.out.next _ (by rfl) hb))
        | (go_at_call 25; refine (FC.out wx).mono ?_; rintro e w' ⟨rfl, hb⟩; exact HK2.out _ (HX.out.next _ (by rfl) hb))
        | (go_at_call 26; refine (GC.out wx).mono ?_; rintro e w' ⟨rfl, hb⟩; exact HK2.out _ (HX.out.next _ (by rfl) hb))
        | (go_at_call 28; refine (GO.out wx (HA.out.below (below_of_new (HX.out.below.mono (by simp))))).mono ?_; rintro e w' ⟨rfl, hb⟩; exact HK2.out _ (HX.out.next _ (by rfl) hb))
        | (go_at_call 27; first | with_reducible refine (FO.out wx (HA.out.below (below_of_new (HX.out.below.mono (by simp))))).mono ?_ | refine (FE.out (γ 21) wx (HX.out.row (21, evP E) (by simp) (H2.out 21 (by kernel_rfl)))).mono ?_); (rintro e w' ⟨rfl, hb⟩; exact HK2.out _ (HX.out.next _ (by rfl) hb))
        | (go_at_call 17; refine (FS.out wx).mono ?_; rintro e w' ⟨rfl, hb⟩; exact HK2.out _ (HX.out.next _ (by rfl) hb))
        | exact HK2.out _ (HX.out.next _ (by rfl) (Below.refl _ _))
    try simp only [Act.put, List.setIfInBounds_toArray, List.set_cons_succ, List.set_cons_zero]
    apply GhostV.walk_const (fun γ => by rfl)
    · intro γ L wx h1 h2 hx K hK
      obtain ⟨k0, k1⟩ := HBX.out _ (hx.below.mono (by simp))
      have HK2 := Lib.hid hK
      have HX := Lib.hid hx
      have H2 := Lib.hid h2
      clear hK h1 h2 hx
      go_simp
      first
        | (go_at_call 22; refine (FM.out (γ 1) (γ 3) wx (HX.out.row (1, evP E) (by simp) (H2.out 1 (by kernel_rfl))) (HX.out.row (3, evP E) (by simp) (H2.out 3 (by kernel_rfl)))).mono ?_; rintro e w' ⟨rfl, hb⟩; exact HK2.out _ (HX.out.next _ (by rfl) hb))
        | (go_at_call 25; refine (FC.out wx).mono ?_; rintro e w' ⟨rfl, hb⟩; exact HK2.out _ (HX.out.next _ (by rfl) hb))
        | (go_at_call 26; refine (GC.out wx).mono ?_; rintro e w' ⟨rfl, hb⟩; exact HK2.out _ (HX.out.next _ (by rfl) hb))
        | (go_at_call 28; refine (GO.out wx (HA.out.below (below_of_new (HX.out.below.mono (by simp))))).mono ?_; rintro e w' ⟨rfl, hb⟩; exact HK2.out _ (HX.out.next _ (by rfl) hb))
        | (go_at_call 27; first | with_reducible refine (FO.out wx (HA.out.below (below_of_new (HX.out.below.mono (by simp))))).mono ?_ | refine (FE.out (γ 21) wx (HX.out.row (21, evP E) (by simp) (H2.out 21 (by kernel_rfl)))).mono ?_); (rintro e w' ⟨rfl, hb⟩; exact HK2.out _ (HX.out.next _ (by rfl) hb))
        | (go_at_call 17; refine (FS.out wx).mono ?_; rintro e w' ⟨rfl, hb⟩; exact HK2.out _ (HX.out.next _ (by rfl) hb))
        | exact HK2.out _ (HX.out.next _ (by rfl) (Below.refl _ _))
    try simp only [Act.put, List.setIfInBounds_toArray, List.set_cons_succ, List.set_cons_zero]
    apply GhostV.walk_const (fun γ => by rfl)
    · intro γ L wx h1 h2 hx K hK
      obtain ⟨k0, k1⟩ := HBX.out _ (hx.below.mono (by simp))
      have HK2 := Lib.hid hK
      have HX := Lib.hid hx
      have H2 := Lib.hid h2
      clear hK h1 h2 hx
      go_simp
      first
        | (go_at_call 22; refine (FM.out (γ 1) (γ 3) wx (HX.out.row (1, evP E) (by simp) (H2.out 1 (by kernel_rfl))) (HX.out.row (3, evP E) (by simp) (H2.out 3 (by kernel_rfl)))).mono ?_; rintro e w' ⟨rfl, hb⟩; exact HK2.out _ (HX.out.next _ (by rfl) hb))
        | (go_at_call 25; refine (FC.out wx).mono ?_; rintro e w' ⟨rfl, hb⟩; exact HK2.out _ (HX.out.next _ (by rfl) hb))
        | (go_at_call 26; refine (GC.out wx).mono ?_; rintro e w' ⟨rfl, hb⟩; exact HK2.out _ (HX.out.next _ (by rfl) hb))
        | (go_at_call 28; refine (GO.out wx (HA.out.below (below_of_new (HX.out.below.mono (by simp))))).mono ?_; rintro e w' ⟨rfl, hb⟩; exact HK2.out _ (HX.out.next _ (by rfl) hb))
        | (go_at_call 27; first | with_reducible refine (FO.out wx (HA.out.below (below_of_new (HX.out.below.mono (by simp))))).mono ?_ | refine (FE.out (γ 21) wx (HX.out.row (21, evP E) (by simp) (H2.out 21 (by kernel_rfl)))).mono ?_); (rintro e w' ⟨rfl, hb⟩; exact HK2.out _ (HX.out.next _ (by rfl) hb))
        | (go_at_call 17; refine (FS.out wx).mono ?_; rintro e w' ⟨rfl, hb⟩; exact HK2.out _ (HX.out.next _ (by rfl) hb))
        | exact HK2.out _ (HX.out.next _ (by rfl) (Below.refl _ _))
    try simp only [Act.put, List.setIfInBounds_toArray, List.set_cons_succ, List.set_cons_zero]
    apply GhostV.walk_const (fun γ => by rfl)
    · intro γ L wx h1 h2 hx K hK
      obtain ⟨k0, k1⟩ := HBX.out _ (hx.below.mono (by simp))
      have HK2 := Lib.hid hK
      have HX := Lib.hid hx
      have H2 := Lib.hid h2
      clear hK h1 h2 hx
      go_simp
      first
        | (go_at_call 22; refine (FM.out (γ 1) (γ 3) wx (HX.out.row (1, evP E) (by simp) (H2.out 1 (by kernel_rfl))) (HX.out.row (3, evP E) (by simp) (H2.out 3 (by kernel_rfl)))).mono ?_; rintro e w' ⟨rfl, hb⟩; exact HK2.out _ (HX.out.next _ (by rfl) hb))
        | (go_at_call 25; refine (FC.out wx).mono ?_; rintro e w' ⟨rfl, hb⟩; exact HK2.out _ (HX.out.next _ (by rfl) hb))
        | (go_at_call 26; refine (GC.out wx).mono ?_; rintro e w' ⟨rfl, hb⟩; exact HK2.out _ (HX.out.next _ (by rfl) hb))
        | (go_at_call 28; refine (GO.out wx (HA.out.below (below_of_new (HX.out.below.mono (by simp))))).mono ?_; rintro e w' ⟨rfl, hb⟩; exact HK2.out _ (HX.out.next _ (by rfl) hb))
        | (go_at_call 27; first | with_reducible refine (FO.out wx (HA.out.below (below_of_new (HX.out.below.mono (by simp))))).mono ?_ | refine (FE.out (γ 21) wx (HX.out.row (21, evP E) (by simp) (H2.out 21 (by kernel_rfl)))).mono ?_); (rintro e w' ⟨rfl, hb⟩; exact HK2.out _ (HX.out.next _ (by rfl) hb))
        | (go_at_call 17; refine (FS.out wx).mono ?_; rintro e w' ⟨rfl, hb⟩; exact HK2.out _ (HX.out.next _ (by rfl) hb))
        | exact HK2.out _ (HX.out.next _ (by rfl) (Below.refl _ _))
    try simp only [Act.put, List.setIfInBounds_toArray, List.set_cons_succ, List.set_cons_zero]
    refine GhostV.walk_nil (fun γ L w4 hall hG4 => ?_)
    have hB4 := Lib.hid hG4.below
    clear hG4 hall n1 n2
    go_wp2_with fail
    go_ret
    exact ⟨rfl, below_of_new (hB4.out.mono (by simp))⟩
set_option maxRecDepth 100000 in
theorem lawCallsLists_lifted (os : Os) (started : os.Started) (H : Type) (enc : TypeId × Value → H) :
    ReturnsInHanded {} Try.checked os 5 .any (Rows.callsListsSpec.pre6 enc Try.prog Try.f5 Rows.callsListsRow.domain false) (Rows.callsListsSpec.post enc Try.prog Try.f5 false true false false) := by
  refine returnsInHanded_of_change (C := Try.checked) own started (by kernel_rfl) Try.func5
    (ChangeSpec.witness6 (enc := enc) (C := Try.checked) false ⟨#[], #[.agg #[.int .u32 0, .int .u32 0], .slice none 0 0], []⟩ 8 (by kernel_rfl) (by kernel_rfl) (by kernel_rfl) (by kernel_rfl)) ?_
  intro W base args ds gs before hval0 hW hcnd _
  have hval : ∀ (j : Nat) t v, Try.f5.params[j]? = some t → args[j]? = some v → Value.okWide Try.prog W .any base t v := hval0
  have hW' := hW
  obtain ⟨p, q, hA0, hV, rfl, hfz, hnd⟩ := hW
  have hA : DataW.TrodAll enc Try.prog W 0 (fun _ => true) true Try.f5.params.toList args.toList ds p := hA0
  rw [Try.params5] at hA hval
  obtain ⟨v0, vs0, d0, ds0, p0, q0, hargs, rfl, rfl, h0, r0⟩ := trodAll_cons hA
  obtain ⟨v1, vs1, d1, ds1, p1, q1, rfl, rfl, rfl, h1, r1⟩ := trodAll_cons r0
  obtain ⟨rfl, rfl, rfl⟩ := trodAll_nil r1
  obtain rfl : args = #[v0, v1] := by cases args; simp_all
  obtain ⟨rfl, rfl⟩ := trodVars_none hV
  have k0 := h0
  have lt0 : ∀ x ∈ p0, x.block < W.heap.size := by obtain ⟨m, hm⟩ := k0; exact DataW.trod_lt m _ _ _ hm
  obtain ⟨x0, rfl, g0⟩ := open_cs (hval 0 24 v0 rfl rfl) h0
  have k1 := h1
  have lt1 : ∀ x ∈ p1, x.block < W.heap.size := by obtain ⟨m, hm⟩ := k1; exact DataW.trod_lt m _ _ _ hm
  obtain ⟨a1, l1, c1, rfl⟩ := okWide_slice Try.underlying31 (hval 1 31 v1 rfl rfl)
  obtain ⟨fuel1, hf1⟩ := h1
  obtain ⟨x1, g1, m1⟩ := open_ens hf1
  clear hA0 hval0
  refine (lawCallsLists_walk x0 _ x1 W g0 g1 m1).mono fun e W' ⟨he, bel⟩ => ?_
  subst he
  exact ⟨_, rfl, _, _, _, [], _, [], hW', trodAll_mk1 (shut_bool Try.underlying4 _), (trodAll_cons_mk (Below.trod laidOut (by kernel_rfl) (of_decide_eq_true (by kernel_rfl)) k0 bel lt0) (trodAll_cons_mk (Below.trod laidOut (by kernel_rfl) (of_decide_eq_true (by kernel_rfl)) k1 bel lt1) trodAll_mk0)), rfl, bel.frame _, fun h => by cases h⟩

theorem lawCallsLists_over : Rows.callsListsRow.holds Try.pinned (OpenSpec.ofChange Rows.callsListsSpec) :=
  OpenClaim.holds_of_wide 5 Try.f5 rfl rfl rfl rfl rfl rfl rfl ⟨rfl, rfl, rfl, rfl, rfl⟩ rfl rfl rfl rfl rfl (by kernel_rfl) Try.func5 (by kernel_rfl)
    (of_decide_eq_true (by kernel_rfl)) (by unfold Func.isWrapper; first | (rw [if_pos (by decide +kernel)]; kernel_rfl) | (rw [if_neg (by decide +kernel)]; exact ⟨rfl, rfl⟩))
    (fun os started H enc _ => lawCallsLists_lifted os started H enc)

theorem callsLists_holds : Rows.CallsListsSaid := lawCallsLists_over
#print axioms callsLists_holds
end Go.Proofs.Ytclkfclbnapamaa
