/- The law CallsLaws: what is above, below and at a floor makes up a set, a set is the union of its calls, and the parts of two sets fit together. No condition. -/
import Derived.Test.YtclkfclbnapamaaCsLawSets
import Derived.Test.YtclkfclbnapamaaDecl1
namespace Go.Proofs.Ytclkfclbnapamaa
open Go.RowKit Go.ChangeShapes Go.WideShapes Go.ChangeAt Ghost

theorem EAt.ne {w : World} {b off ba s1 s2 : Nat} {l : List En} {t : TypeId} (h : EAt w (some ⟨b, off, none⟩) l) {k : Nat} (hk : k < l.length) (hrow : w.heap[ba]? = some (.cells #[.int .u32 s1, .int .u32 s2] t (0, 0))) : b ≠ ba := by
  rintro rfl
  obtain ⟨b', off', e, -, r0, -⟩ := h.at_ hk
  obtain ⟨rfl, rfl⟩ : b = b' ∧ off = off' := by injection e with e; injection e with e1 e2; exact ⟨e1, e2⟩
  rw [cell_of_row _ _ _ _ _ (0, 0) hrow] at r0
  match h9 : off + k * 5 with
  | 0 => rw [h9] at r0; cases r0
  | 1 => rw [h9] at r0; cases r0
  | n + 2 => rw [h9] at r0; simp at r0

set_option maxRecDepth 100000 in
set_option maxHeartbeats 4000000 in
theorem lawCallsLaws_walk (a b : Cs) (n : Int) (w : World) (ha : a.ok) (hb : b.ok) (hn : (Lit.int .u8 n).wf = true) :
    Calls Try.prog 6 #[a.agg, b.agg, .int .u8 n] w fun e w' => e = .returned (.bool true) ∧ Below w.heap.size w w' := by
  obtain ⟨m, rfl, hm⟩ := u8_nat hn
  clear hn
  obtain ⟨f, hf, hfm⟩ : ∃ f : Nat, f < 32 ∧ (m : Int) % 32 = (f : Int) := ⟨m % 32, Nat.mod_lt _ (by decide), by omega⟩
  have FS := Lib.hid (fun w => sane_any w)
  have HBX := Lib.hid (fun (wx : World) (h : Below (w.heap.size + 2) ((w.alloc (.cells #[.int .u32 a.up, .int .u32 a.dn] 24)).alloc (.cells #[.int .u32 b.up, .int .u32 b.dn] 24)) wx) => box2 h)
  have hat : Cs.both a (Cs.union (Cs.one f 1) (Cs.one f 2)) = Cs.atF a f := rfl
  have hato : (Cs.atF a f).ok := Cs.both_ok ha
  have FO1 := Lib.hid (fun w => one_any (f : Int) 1 w)
  have FO2 := Lib.hid (fun w => one_any (f : Int) 2 w)
  have FU1 := Lib.hid (fun w => union_any (Cs.one f 1) (Cs.one f 2) w (Cs.one_ok _ _) (Cs.one_ok _ _))
  have FB1 := Lib.hid (fun w => both_any a (Cs.union (Cs.one f 1) (Cs.one f 2)) w ha (Cs.union_ok (Cs.one_ok _ _) (Cs.one_ok _ _)))
  rw [hat] at FB1
  have FA := Lib.hid (fun w => above_any a f w ha)
  have FL := Lib.hid (fun w => below_any a f w ha)
  have FU2 := Lib.hid (fun w => union_any (Cs.above a f) (Cs.below a f) w (Cs.above_ok ha _) (Cs.below_ok ha _))
  have FU3 := Lib.hid (fun w => union_any (Cs.union (Cs.above a f) (Cs.below a f)) (Cs.atF a f) w (Cs.union_ok (Cs.above_ok ha _) (Cs.below_ok ha _)) hato)
  rw [Cs.law_parts ha f] at FU3
  have FC1 := Lib.hid (fun w => count_any (Cs.above a f) w (Cs.above_ok ha _))
  have FC2 := Lib.hid (fun w => count_any (Cs.below a f) w (Cs.below_ok ha _))
  have FC3 := Lib.hid (fun w => count_any (Cs.atF a f) w hato)
  have FCA := Lib.hid (fun w => count_any a w ha)
  have FCB := Lib.hid (fun w => count_any b w hb)
  have hcnt := Cs.law_count ha (f : Int)
  have l1 := Cs.count_le (Cs.above_ok ha (f : Int))
  have l2 := Cs.count_le (Cs.below_ok ha (f : Int))
  have l3 := Cs.count_le hato
  have l4 := Cs.count_le ha
  have l5 := Cs.count_le hb
  have FLI := Lib.hid (fun w => list_any a w ha)
  have he1 : (Cs.ents a).length ≤ 1000000 := by rw [Cs.ents_len ha]; omega
  have FON := Lib.hid (fun f d w => one_any f d w)
  have HAT := Lib.hid (fun i hi => Cs.ents_at ha (i := i) hi)
  have FBN := Lib.hid (fun i f d w => both_any (Cs.of ((Cs.ents a).take i)) (Cs.one f d) w (Cs.of_ok _) (Cs.one_ok _ _))
  have FUN := Lib.hid (fun i f d w => union_any (Cs.of ((Cs.ents a).take i)) (Cs.one f d) w (Cs.of_ok _) (Cs.one_ok _ _))
  have FHA := Lib.hid (fun f d w => has_any a f d w ha)
  have HOS := Lib.hid (fun k (h : k < (Cs.ents a).length) => ofT_succ (Cs.ents a) h)
  have HOE := Lib.hid ((ofT_end (Cs.ents a)).trans (Cs.of_ents ha))
  have HOZ := Lib.hid (ofT_zero (Cs.ents a))
  have FM := Lib.hid (fun w => minus_any a b w ha hb)
  have FB2 := Lib.hid (fun w => both_any a b w ha hb)
  have FU4 := Lib.hid (fun w => union_any (Cs.minus a b) (Cs.both a b) w (Cs.minus_ok ha) (Cs.both_ok ha))
  rw [Cs.law_minus ha hb] at FU4
  have FU5 := Lib.hid (fun w => union_any a b w ha hb)
  have FC4 := Lib.hid (fun w => count_any (Cs.union a b) w (Cs.union_ok ha hb))
  have FC5 := Lib.hid (fun w => count_any (Cs.both a b) w (Cs.both_ok ha))
  have hcnt2 := Cs.law_union ha hb
  have l6 := Cs.count_le (Cs.union_ok ha hb)
  have l7 := Cs.count_le (Cs.both_ok (b := b) ha)
  have NQA := Lib.hid (fun wx => neqSame a wx)
  have EQA := Lib.hid (fun wx => eqlSame a wx)
  have nzz : ∀ wx, (binOp .neq 24 (.agg #[.int .u32 0, .int .u32 0]) (.agg #[.int .u32 0, .int .u32 0])).run Try.prog wx = .ok (.bool false) wx := fun wx => by rw [neqCs]; rfl
  have NZZ := Lib.hid nzz
  clear nzz
  have HEM : Cs.empty = ⟨0, 0⟩ := rfl
  simp only [HEM] at HAT
  clear hat hato HEM
  generalize Cs.ents a = E at *
  generalize Cs.count (Cs.above a f) = x1 at *
  generalize Cs.count (Cs.below a f) = x2 at *
  generalize Cs.count (Cs.atF a f) = x3 at *
  generalize Cs.count (Cs.union a b) = x6 at *
  generalize Cs.count (Cs.both a b) = x7 at *
  generalize Cs.count a = x4 at *
  generalize Cs.count b = x5 at *
  generalize Cs.union (Cs.above a f) (Cs.below a f) = UAB at *
  generalize Cs.above a f = QA at *
  generalize Cs.below a f = QB at *
  generalize Cs.atF a f = QT at *
  generalize Cs.union (Cs.one f 1) (Cs.one f 2) = U12 at *
  generalize Cs.one f 1 = O1 at *
  generalize Cs.one f 2 = O2 at *
  generalize Cs.union a b = UU at *
  generalize Cs.minus a b = MM at *
  generalize Cs.both a b = BB at *
  obtain ⟨hs, hhs⟩ : ∃ hs : Int → Int → Bool, ∀ f d : Int, Cs.has a f d = hs f d := ⟨_, fun _ _ => rfl⟩
  simp only [hhs] at HAT FHA
  clear hhs
  obtain ⟨OT, hOT⟩ : ∃ OT : Nat → Cs, ∀ k, Cs.of (E.take k) = OT k := ⟨_, fun _ => rfl⟩
  simp only [hOT] at HAT FBN FUN HOS HOE HOZ
  clear hOT
  have hs1 : IntKind.i64.wrap ((x1 : Int) + x2) = (x1 : Int) + x2 := by rw [IntKind.wrap_i64]; omega
  have hs2 : IntKind.i64.wrap ((x1 : Int) + x2 + x3) = x4 := by rw [IntKind.wrap_i64]; omega
  have hs3 : IntKind.i64.wrap ((x6 : Int) + x7) = (x4 : Int) + x5 := by rw [IntKind.wrap_i64]; omega
  have hs4 : IntKind.i64.wrap ((x4 : Int) + x5) = (x4 : Int) + x5 := by rw [IntKind.wrap_i64]; omega
  clear hcnt hcnt2 l1 l2 l3 l4 l5 l6 l7
  obtain ⟨a1, a2⟩ := a
  obtain ⟨b1, b2⟩ := b
  obtain ⟨u1, u2⟩ := UAB
  obtain ⟨qa1, qa2⟩ := QA
  obtain ⟨qb1, qb2⟩ := QB
  obtain ⟨qt1, qt2⟩ := QT
  obtain ⟨v1, v2⟩ := U12
  obtain ⟨o1, o2⟩ := O1
  obtain ⟨p1, p2⟩ := O2
  obtain ⟨uu1, uu2⟩ := UU
  obtain ⟨mm1, mm2⟩ := MM
  obtain ⟨bb1, bb2⟩ := BB
  simp only [Cs.agg] at *
  clear ha hb
  have hr : (m : Int).tmod 32 = (f : Int) := by rw [Int.tmod_eq_emod_of_nonneg (by omega)]; exact hfm
  go_enter Try.func6, Try.ntmps6
  go_wp2_with fail
  try simp only [hfm]
  refine Ghost.ghost (fun γ L wx => Decls ((w.alloc (.cells #[.int .u32 a1, .int .u32 a2] 24)).alloc (.cells #[.int .u32 b1, .int .u32 b2] 24)).heap.size ((w.alloc (.cells #[.int .u32 a1, .int .u32 a2] 24)).alloc (.cells #[.int .u32 b1, .int .u32 b2] 24)) [(⟨7, 8, 24, #[.int .u32 0, .int .u32 0], #[.int .u32 qt1, .int .u32 qt2]⟩ : Decl)] γ L wx) (by kernel_rfl) (by kernel_rfl) (fun γ => Decls.start _ γ (Below.refl _ _).drew (Nat.le_refl _)) ?_
  apply Ghost.walk_const (fun γ => by rfl)
  · intro γ L wx h1 h2 hx K hK
    obtain ⟨k0, k1, k2, k3⟩ := HBX.out _ (hx.below.mono (by simp))
    have HK2 := Lib.hid hK
    have HX := Lib.hid hx
    clear hK h1 h2 hx
    go_simp
    first
      | (go_at_call 20; with_reducible first | refine (FO1.out _).mono ?_ | refine (FO2.out _).mono ?_); (rintro e x1 ⟨rfl, hb⟩; exact HK2.out _ (HX.out.quiet 0 (by rfl) hb))
      | (go_at_call 7; refine (FU1.out _).mono ?_; rintro e x1 ⟨rfl, hb⟩; exact HK2.out _ (HX.out.quiet 0 (by rfl) hb))
      | (go_at_call 9; refine (FB1.out _).mono ?_; rintro e x1 ⟨rfl, hb⟩; exact HK2.out _ (HX.out.quiet 0 (by rfl) hb))
      | exact HK2.out _ (HX.out.quiet 0 (by rfl) (Below.refl _ _))
  simp only [Act.put, List.setIfInBounds_toArray, List.set_cons_succ, List.set_cons_zero]
  apply Ghost.walk_const (fun γ => by rfl)
  · intro γ L wx h1 h2 hx K hK
    obtain ⟨k0, k1, k2, k3⟩ := HBX.out _ (hx.below.mono (by simp))
    have HK2 := Lib.hid hK
    have HX := Lib.hid hx
    clear hK h1 h2 hx
    go_simp
    first
      | (go_at_call 20; with_reducible first | refine (FO1.out _).mono ?_ | refine (FO2.out _).mono ?_); (rintro e x1 ⟨rfl, hb⟩; exact HK2.out _ (HX.out.quiet 0 (by rfl) hb))
      | (go_at_call 7; refine (FU1.out _).mono ?_; rintro e x1 ⟨rfl, hb⟩; exact HK2.out _ (HX.out.quiet 0 (by rfl) hb))
      | (go_at_call 9; refine (FB1.out _).mono ?_; rintro e x1 ⟨rfl, hb⟩; exact HK2.out _ (HX.out.quiet 0 (by rfl) hb))
      | exact HK2.out _ (HX.out.quiet 0 (by rfl) (Below.refl _ _))
  simp only [Act.put, List.setIfInBounds_toArray, List.set_cons_succ, List.set_cons_zero]
  apply Ghost.walk_const (fun γ => by rfl)
  · intro γ L wx h1 h2 hx K hK
    obtain ⟨k0, k1, k2, k3⟩ := HBX.out _ (hx.below.mono (by simp))
    have HK2 := Lib.hid hK
    have HX := Lib.hid hx
    clear hK h1 h2 hx
    go_simp
    first
      | (go_at_call 20; with_reducible first | refine (FO1.out _).mono ?_ | refine (FO2.out _).mono ?_); (rintro e x1 ⟨rfl, hb⟩; exact HK2.out _ (HX.out.quiet 0 (by rfl) hb))
      | (go_at_call 7; refine (FU1.out _).mono ?_; rintro e x1 ⟨rfl, hb⟩; exact HK2.out _ (HX.out.quiet 0 (by rfl) hb))
      | (go_at_call 9; refine (FB1.out _).mono ?_; rintro e x1 ⟨rfl, hb⟩; exact HK2.out _ (HX.out.quiet 0 (by rfl) hb))
      | exact HK2.out _ (HX.out.quiet 0 (by rfl) (Below.refl _ _))
  simp only [Act.put, List.setIfInBounds_toArray, List.set_cons_succ, List.set_cons_zero]
  apply Ghost.walk_const (fun γ => by rfl)
  · intro γ L wx h1 h2 hx K hK
    obtain ⟨k0, k1, k2, k3⟩ := HBX.out _ (hx.below.mono (by simp))
    have HK2 := Lib.hid hK
    have HX := Lib.hid hx
    clear hK h1 h2 hx
    go_simp
    first
      | (go_at_call 20; with_reducible first | refine (FO1.out _).mono ?_ | refine (FO2.out _).mono ?_); (rintro e x1 ⟨rfl, hb⟩; exact HK2.out _ (HX.out.quiet 0 (by rfl) hb))
      | (go_at_call 7; refine (FU1.out _).mono ?_; rintro e x1 ⟨rfl, hb⟩; exact HK2.out _ (HX.out.quiet 0 (by rfl) hb))
      | (go_at_call 9; refine (FB1.out _).mono ?_; rintro e x1 ⟨rfl, hb⟩; exact HK2.out _ (HX.out.quiet 0 (by rfl) hb))
      | exact HK2.out _ (HX.out.quiet 0 (by rfl) (Below.refl _ _))
  simp only [Act.put, List.setIfInBounds_toArray, List.set_cons_succ, List.set_cons_zero]
  apply Ghost.walk_const (fun γ => by rfl)
  · intro γ L wx h1 h2 hx K hK
    obtain ⟨k0, k1, k2, k3⟩ := HBX.out _ (hx.below.mono (by simp))
    have HK2 := Lib.hid hK
    have HX := Lib.hid hx
    clear hK h1 h2 hx
    go_simp
    first
      | (go_at_call 20; with_reducible first | refine (FO1.out _).mono ?_ | refine (FO2.out _).mono ?_); (rintro e x1 ⟨rfl, hb⟩; exact HK2.out _ (HX.out.quiet 0 (by rfl) hb))
      | (go_at_call 7; refine (FU1.out _).mono ?_; rintro e x1 ⟨rfl, hb⟩; exact HK2.out _ (HX.out.quiet 0 (by rfl) hb))
      | (go_at_call 9; refine (FB1.out _).mono ?_; rintro e x1 ⟨rfl, hb⟩; exact HK2.out _ (HX.out.quiet 0 (by rfl) hb))
      | exact HK2.out _ (HX.out.quiet 0 (by rfl) (Below.refl _ _))
  simp only [Act.put, List.setIfInBounds_toArray, List.set_cons_succ, List.set_cons_zero]
  apply Ghost.walk_const (fun γ => by rfl)
  · intro γ L wx h1 h2 hx K hK
    obtain ⟨k0, k1, k2, k3⟩ := HBX.out _ (hx.below.mono (by simp))
    have HK2 := Lib.hid hK
    have HX := Lib.hid hx
    clear hK h1 h2 hx
    go_simp
    first
      | (go_at_call 20; with_reducible first | refine (FO1.out _).mono ?_ | refine (FO2.out _).mono ?_); (rintro e x1 ⟨rfl, hb⟩; exact HK2.out _ (HX.out.quiet 0 (by rfl) hb))
      | (go_at_call 7; refine (FU1.out _).mono ?_; rintro e x1 ⟨rfl, hb⟩; exact HK2.out _ (HX.out.quiet 0 (by rfl) hb))
      | (go_at_call 9; refine (FB1.out _).mono ?_; rintro e x1 ⟨rfl, hb⟩; exact HK2.out _ (HX.out.quiet 0 (by rfl) hb))
      | exact HK2.out _ (HX.out.quiet 0 (by rfl) (Below.refl _ _))
  simp only [Act.put, List.setIfInBounds_toArray, List.set_cons_succ, List.set_cons_zero]
  apply Ghost.walk_const (fun γ => by rfl)
  · intro γ L wx h1 h2 hx K hK
    obtain ⟨k0, k1, k2, k3⟩ := HBX.out _ (hx.below.mono (by simp))
    have HK2 := Lib.hid hK
    have HX := Lib.hid hx
    clear hK h1 h2 hx
    go_simp
    first
      | (go_at_call 20; with_reducible first | refine (FO1.out _).mono ?_ | refine (FO2.out _).mono ?_); (rintro e x1 ⟨rfl, hb⟩; exact HK2.out _ (HX.out.quiet 0 (by rfl) hb))
      | (go_at_call 7; refine (FU1.out _).mono ?_; rintro e x1 ⟨rfl, hb⟩; exact HK2.out _ (HX.out.quiet 0 (by rfl) hb))
      | (go_at_call 9; refine (FB1.out _).mono ?_; rintro e x1 ⟨rfl, hb⟩; exact HK2.out _ (HX.out.quiet 0 (by rfl) hb))
      | exact HK2.out _ (HX.out.quiet 0 (by rfl) (Below.refl _ _))
  simp only [Act.put, List.setIfInBounds_toArray, List.set_cons_succ, List.set_cons_zero]
  refine Ghost.walk_yes (fun b => .pointer (some ⟨b, 0, none⟩)) (fun γ => by rfl) ?_ ?_
  · intro γ L wx h1 h2 hx K hK
    have HK2 := Lib.hid hK
    clear hK h2
    have hL : L (⟨7, 8, 24, #[.int .u32 0, .int .u32 0], #[.int .u32 qt1, .int .u32 qt2]⟩ : Decl).al = false := h1
    clear h1
    go_simp
    exact HK2.out wx.heap.size _ (hx.alloc (⟨7, 8, 24, #[.int .u32 0, .int .u32 0], #[.int .u32 qt1, .int .u32 qt2]⟩ : Decl) (decl_mem _) hL (by rfl) (decl_al _))
  simp only [Act.put, List.setIfInBounds_toArray, List.set_cons_succ, List.set_cons_zero]
  refine Ghost.walk_yes (fun _ => undef) (fun γ => by rfl) ?_ ?_
  · intro γ L wx h1 h2 hx K hK
    have hA : L (⟨7, 8, 24, #[.int .u32 0, .int .u32 0], #[.int .u32 qt1, .int .u32 qt2]⟩ : Decl).al = true := h2 7 (by kernel_rfl)
    exact hx.wp_store (⟨7, 8, 24, #[.int .u32 0, .int .u32 0], #[.int .u32 qt1, .int .u32 qt2]⟩ : Decl) (decl_mem _) h1 hA _ _ rfl rfl rfl (by kernel_rfl) rfl (by kernel_rfl) (hK 0 _ (hx.store (⟨7, 8, 24, #[.int .u32 0, .int .u32 0], #[.int .u32 qt1, .int .u32 qt2]⟩ : Decl) (decl_mem _) hA (by rfl) (decl_st _) (decl_al _) 0))
  simp only [Act.put]
  refine Ghost.walk_nil (fun γ L w1 hall hD => ?_)
  obtain ⟨hg1, hg2, hbw1⟩ := hD.done1 hall (by show 7 < 9; decide) (by show 8 < 9; decide)
  clear hall hD
  simp only [Nat.zero_add, Nat.reduceAdd] at hg1 hg2 ⊢
  generalize γ 7 = g at *
  have hsz1 : w.heap.size + 2 ≤ g := by simpa using hg1
  have hbw : Below (w.heap.size + 2) ((w.alloc (.cells #[.int .u32 a1, .int .u32 a2] 24)).alloc (.cells #[.int .u32 b1, .int .u32 b2] 24)) w1 := hbw1.mono (by simp)
  have hgl : g < w1.heap.size := (Array.getElem?_eq_some_iff.1 hg2).1
  obtain ⟨k0, k1, k2, k3⟩ := HBX.out _ hbw
  have y0 : w1.cell? ⟨g, 0, none⟩ = some (.int .u32 qt1) := cell_of_row _ _ _ _ _ (0, 0) hg2
  have y1 : w1.cell? ⟨g, 1, none⟩ = some (.int .u32 qt2) := cell_of_row _ _ _ _ _ (0, 0) hg2
  have HC1 := Lib.hid (And.intro k0 (And.intro k1 (And.intro k2 (And.intro k3 (And.intro y0 y1)))))
  have HBW := Lib.hid hbw
  clear hbw hbw1 k0 k1 k2 k3 y0 y1 hg1 hg2
  have hlt0 : w.heap.size < w1.heap.size := by omega
  have hlt1 : w.heap.size + 1 < w1.heap.size := by omega
  have n1 := NQA.out
  go_wp2_with fail
  refine Bag.region (fun wx => Below w1.heap.size w1 wx) (by kernel_rfl) (by kernel_rfl) (Below.refl _ _).drew ?_
  iterate 28 (first
      | (apply Bag.walk_yes (by rfl)
         (intro wx hx K hK
          have z0 := (hx.cell (p := ⟨w.heap.size, 0, none⟩) hlt0).trans HC1.out.1
          have z1 := (hx.cell (p := ⟨w.heap.size, 1, none⟩) hlt0).trans HC1.out.2.1
          have z4 := (hx.cell (p := ⟨g, 0, none⟩) hgl).trans HC1.out.2.2.2.2.1
          have z5 := (hx.cell (p := ⟨g, 1, none⟩) hgl).trans HC1.out.2.2.2.2.2
          first
            | (go_simp
               first
                | (go_at_call 13; refine (FA.out _).mono ?_; rintro e x1 ⟨rfl, hb⟩; exact hK _ (hx.trans (hb.mono hx.size)))
                | (go_at_call 15; refine (FL.out _).mono ?_; rintro e x1 ⟨rfl, hb⟩; exact hK _ (hx.trans (hb.mono hx.size)))
                | (go_at_call 7; with_reducible first | refine (FU2.out _).mono ?_ | refine (FU3.out _).mono ?_); (rintro e x1 ⟨rfl, hb⟩; exact hK _ (hx.trans (hb.mono hx.size)))
                | (go_at_call 25; with_reducible first | refine (FC1.out _).mono ?_ | refine (FC2.out _).mono ?_ | refine (FC3.out _).mono ?_ | refine (FCA.out _).mono ?_); (rintro e x1 ⟨rfl, hb⟩; exact hK _ (hx.trans (hb.mono hx.size)))
                | (go_at_K; exact hK _ hx)))
         rfl)
      | (refine Bag.walk_no (by rfl) ?_; simp only [Act.put, List.setIfInBounds_toArray, List.set_cons_succ, List.set_cons_zero]))
  refine Bag.walk_nil (fun w2 hB => ?_)
  have HB1 := Lib.hid hB
  clear hB n1
  have hsz2 := HB1.out.size
  have k0 := (HB1.out.cell (p := ⟨w.heap.size, 0, none⟩) hlt0).trans HC1.out.1
  have k1 := (HB1.out.cell (p := ⟨w.heap.size, 1, none⟩) hlt0).trans HC1.out.2.1
  have hlt2 : w.heap.size < w2.heap.size := by omega
  have hne2 : ¬ w.heap.size = w2.heap.size := by omega
  go_wp2_with fail
  refine (FLI.out _).mono ?_
  rintro e w3 ⟨v, rfl, ⟨A, cap, rfl, hA⟩, hb3⟩
  have hr3 : w3.heap[w2.heap.size]? = some (.cells #[.int .u32 0, .int .u32 0] 24 (0, 0)) := (hb3.block _ (by simp)).trans (last1 w2 _)
  have HB3 := Lib.hid ((HB1.out.alloc hsz2 _).trans (hb3.mono (by simp; omega)))
  have HA := Lib.hid hA
  have HR3 := Lib.hid hr3
  have hsz3 : w2.heap.size < w3.heap.size := (Array.getElem?_eq_some_iff.1 hr3).1
  clear hA hb3 hr3 k0 k1
  have HC3 := Lib.hid (And.intro ((HB3.out.cell (p := ⟨w.heap.size, 0, none⟩) hlt0).trans HC1.out.1) (And.intro ((HB3.out.cell (p := ⟨w.heap.size, 1, none⟩) hlt0).trans HC1.out.2.1) (And.intro ((HB3.out.cell (p := ⟨w.heap.size + 1, 0, none⟩) hlt1).trans HC1.out.2.2.1) ((HB3.out.cell (p := ⟨w.heap.size + 1, 1, none⟩) hlt1).trans HC1.out.2.2.2.1))))
  go_wp2_with fail
  go_loopw [11, 12] (fun v _ wr => ∃ k : Nat, k ≤ E.length ∧ v = .int .i64 k ∧ Put w3 w2.heap.size (.cells #[.int .u32 (OT k).up, .int .u32 (OT k).dn] 24 (0, 0)) wr) (fun v _ _ => E.length - (intOf v).toNat)
  case atStart => exact ⟨0, Nat.zero_le _, rfl, by rw [HOZ.out]; exact Put.start HR3.out⟩
  case round =>
    obtain ⟨k, hk, rfl, hP⟩ := hrel
    have hszr := hP.size
    have HP := Lib.hid hP
    have c0 := (hP.cellOf (k := w.heap.size) (i := 0) (by omega) (by omega)).trans HC3.out.1
    have c1 := (hP.cellOf (k := w.heap.size) (i := 1) (by omega) (by omega)).trans HC3.out.2.1
    have c2 := (hP.cellOf (k := w.heap.size + 1) (i := 0) (by omega) (by omega)).trans HC3.out.2.2.1
    have c3 := (hP.cellOf (k := w.heap.size + 1) (i := 1) (by omega) (by omega)).trans HC3.out.2.2.2
    have s0 : wr.cell? ⟨w2.heap.size, 0, none⟩ = some (.int .u32 (OT k).up) := hP.cell 0
    have s1 : wr.cell? ⟨w2.heap.size, 1, none⟩ = some (.int .u32 (OT k).dn) := hP.cell 1
    have HCR := Lib.hid (And.intro c0 (And.intro c1 (And.intro c2 (And.intro c3 (And.intro s0 s1)))))
    clear hP c0 c1 c2 c3 s0 s1
    have hltA : w.heap.size < wr.heap.size := by omega
    have hltB : w.heap.size + 1 < wr.heap.size := by omega
    have hltS : w2.heap.size < wr.heap.size := by omega
    by_cases hlt : k < E.length
    · obtain ⟨b', off, rfl, hbl, r0, r1, -, -, -⟩ := HA.out.at_ hlt
      have hbne := HA.out.ne hlt HR3.out
      have hblr : b' < wr.heap.size := by omega
      have R0 := Lib.hid ((HP.out.cellOf (i := off + k * 5) hbl hbne).trans r0)
      have R1 := Lib.hid ((HP.out.cellOf (i := off + k * 5 + 1) hbl hbne).trans r1)
      clear r0 r1
      have FON1 := Lib.hid (fun w => FON.out (E[k]).f (E[k]).d w)
      have hat := HAT.out k hlt
      have fb := fun w => FBN.out k (E[k]).f (E[k]).d w
      rw [hat.1] at fb
      have FB := Lib.hid fb
      clear fb
      have FH := Lib.hid (fun w => FHA.out (E[k]).f (E[k]).d w)
      rw [hat.2] at FH
      have FU := Lib.hid (fun w => FUN.out k (E[k]).f (E[k]).d w)
      have hos := HOS.out k hlt
      rw [← hos] at FU
      clear hat hos
      generalize E[k] = x at *
      obtain ⟨xf, xd, xc, xm, xb⟩ := x
      generalize Cs.one xf xd = B1 at *
      obtain ⟨on1, on2⟩ := B1
      generalize hS1 : OT (k + 1) = S1 at *
      have HS1 := Lib.hid hS1
      generalize hS0 : OT k = S0 at *
      clear hS1 hS0
      obtain ⟨n1, n2⟩ := S1
      obtain ⟨s1, s2⟩ := S0
      simp only at HP HCR R0 R1 FON1 FB FH FU
      have hd : decide ((k : Int) < (E.length : Int)) = true := decide_eq_true (by omega)
      have hk2 : ¬ ((k : Int) < 0) := by omega
      go_wp2_with fail
      refine Ghost.ghost (fun γ L wx => Decls (wr).heap.size (wr) [(⟨11, 12, 24, #[.int .u32 0, .int .u32 0], #[.int .u32 on1, .int .u32 on2]⟩ : Decl)] γ L wx) (by kernel_rfl) (by kernel_rfl) (fun γ => Decls.start _ γ (Below.refl _ _).drew (Nat.le_refl _)) ?_
      apply Ghost.walk_const (fun γ => by rfl)
      · intro γ L wx h1 h2 hx K hK
        have z0 := (hx.below.cell (p := ⟨b', off + k * 5, none⟩) hblr).trans R0.out
        have z1 := (hx.below.cell (p := ⟨b', off + k * 5 + 1, none⟩) hblr).trans R1.out
        have HK2 := Lib.hid hK
        have HX := Lib.hid hx
        clear hK h1 h2 hx
        go_simp
        first
          | (go_at_call 20; refine (FON1.out _).mono ?_; rintro e x1 ⟨rfl, hb⟩; exact HK2.out _ (HX.out.quiet 0 (by rfl) hb))
          | exact HK2.out _ (HX.out.quiet 0 (by rfl) (Below.refl _ _))
      simp only [Act.put, List.setIfInBounds_toArray, List.set_cons_succ, List.set_cons_zero]
      apply Ghost.walk_const (fun γ => by rfl)
      · intro γ L wx h1 h2 hx K hK
        have z0 := (hx.below.cell (p := ⟨b', off + k * 5, none⟩) hblr).trans R0.out
        have z1 := (hx.below.cell (p := ⟨b', off + k * 5 + 1, none⟩) hblr).trans R1.out
        have HK2 := Lib.hid hK
        have HX := Lib.hid hx
        clear hK h1 h2 hx
        go_simp
        first
          | (go_at_call 20; refine (FON1.out _).mono ?_; rintro e x1 ⟨rfl, hb⟩; exact HK2.out _ (HX.out.quiet 0 (by rfl) hb))
          | exact HK2.out _ (HX.out.quiet 0 (by rfl) (Below.refl _ _))
      simp only [Act.put, List.setIfInBounds_toArray, List.set_cons_succ, List.set_cons_zero]
      apply Ghost.walk_const (fun γ => by rfl)
      · intro γ L wx h1 h2 hx K hK
        have z0 := (hx.below.cell (p := ⟨b', off + k * 5, none⟩) hblr).trans R0.out
        have z1 := (hx.below.cell (p := ⟨b', off + k * 5 + 1, none⟩) hblr).trans R1.out
        have HK2 := Lib.hid hK
        have HX := Lib.hid hx
        clear hK h1 h2 hx
        go_simp
        first
          | (go_at_call 20; refine (FON1.out _).mono ?_; rintro e x1 ⟨rfl, hb⟩; exact HK2.out _ (HX.out.quiet 0 (by rfl) hb))
          | exact HK2.out _ (HX.out.quiet 0 (by rfl) (Below.refl _ _))
      simp only [Act.put, List.setIfInBounds_toArray, List.set_cons_succ, List.set_cons_zero]
      apply Ghost.walk_const (fun γ => by rfl)
      · intro γ L wx h1 h2 hx K hK
        have z0 := (hx.below.cell (p := ⟨b', off + k * 5, none⟩) hblr).trans R0.out
        have z1 := (hx.below.cell (p := ⟨b', off + k * 5 + 1, none⟩) hblr).trans R1.out
        have HK2 := Lib.hid hK
        have HX := Lib.hid hx
        clear hK h1 h2 hx
        go_simp
        first
          | (go_at_call 20; refine (FON1.out _).mono ?_; rintro e x1 ⟨rfl, hb⟩; exact HK2.out _ (HX.out.quiet 0 (by rfl) hb))
          | exact HK2.out _ (HX.out.quiet 0 (by rfl) (Below.refl _ _))
      simp only [Act.put, List.setIfInBounds_toArray, List.set_cons_succ, List.set_cons_zero]
      apply Ghost.walk_const (fun γ => by rfl)
      · intro γ L wx h1 h2 hx K hK
        have z0 := (hx.below.cell (p := ⟨b', off + k * 5, none⟩) hblr).trans R0.out
        have z1 := (hx.below.cell (p := ⟨b', off + k * 5 + 1, none⟩) hblr).trans R1.out
        have HK2 := Lib.hid hK
        have HX := Lib.hid hx
        clear hK h1 h2 hx
        go_simp
        first
          | (go_at_call 20; refine (FON1.out _).mono ?_; rintro e x1 ⟨rfl, hb⟩; exact HK2.out _ (HX.out.quiet 0 (by rfl) hb))
          | exact HK2.out _ (HX.out.quiet 0 (by rfl) (Below.refl _ _))
      simp only [Act.put, List.setIfInBounds_toArray, List.set_cons_succ, List.set_cons_zero]
      apply Ghost.walk_const (fun γ => by rfl)
      · intro γ L wx h1 h2 hx K hK
        have z0 := (hx.below.cell (p := ⟨b', off + k * 5, none⟩) hblr).trans R0.out
        have z1 := (hx.below.cell (p := ⟨b', off + k * 5 + 1, none⟩) hblr).trans R1.out
        have HK2 := Lib.hid hK
        have HX := Lib.hid hx
        clear hK h1 h2 hx
        go_simp
        first
          | (go_at_call 20; refine (FON1.out _).mono ?_; rintro e x1 ⟨rfl, hb⟩; exact HK2.out _ (HX.out.quiet 0 (by rfl) hb))
          | exact HK2.out _ (HX.out.quiet 0 (by rfl) (Below.refl _ _))
      simp only [Act.put, List.setIfInBounds_toArray, List.set_cons_succ, List.set_cons_zero]
      apply Ghost.walk_const (fun γ => by rfl)
      · intro γ L wx h1 h2 hx K hK
        have z0 := (hx.below.cell (p := ⟨b', off + k * 5, none⟩) hblr).trans R0.out
        have z1 := (hx.below.cell (p := ⟨b', off + k * 5 + 1, none⟩) hblr).trans R1.out
        have HK2 := Lib.hid hK
        have HX := Lib.hid hx
        clear hK h1 h2 hx
        go_simp
        first
          | (go_at_call 20; refine (FON1.out _).mono ?_; rintro e x1 ⟨rfl, hb⟩; exact HK2.out _ (HX.out.quiet 0 (by rfl) hb))
          | exact HK2.out _ (HX.out.quiet 0 (by rfl) (Below.refl _ _))
      simp only [Act.put, List.setIfInBounds_toArray, List.set_cons_succ, List.set_cons_zero]
      apply Ghost.walk_const (fun γ => by rfl)
      · intro γ L wx h1 h2 hx K hK
        have z0 := (hx.below.cell (p := ⟨b', off + k * 5, none⟩) hblr).trans R0.out
        have z1 := (hx.below.cell (p := ⟨b', off + k * 5 + 1, none⟩) hblr).trans R1.out
        have HK2 := Lib.hid hK
        have HX := Lib.hid hx
        clear hK h1 h2 hx
        go_simp
        first
          | (go_at_call 20; refine (FON1.out _).mono ?_; rintro e x1 ⟨rfl, hb⟩; exact HK2.out _ (HX.out.quiet 0 (by rfl) hb))
          | exact HK2.out _ (HX.out.quiet 0 (by rfl) (Below.refl _ _))
      simp only [Act.put, List.setIfInBounds_toArray, List.set_cons_succ, List.set_cons_zero]
      apply Ghost.walk_const (fun γ => by rfl)
      · intro γ L wx h1 h2 hx K hK
        have z0 := (hx.below.cell (p := ⟨b', off + k * 5, none⟩) hblr).trans R0.out
        have z1 := (hx.below.cell (p := ⟨b', off + k * 5 + 1, none⟩) hblr).trans R1.out
        have HK2 := Lib.hid hK
        have HX := Lib.hid hx
        clear hK h1 h2 hx
        go_simp
        first
          | (go_at_call 20; refine (FON1.out _).mono ?_; rintro e x1 ⟨rfl, hb⟩; exact HK2.out _ (HX.out.quiet 0 (by rfl) hb))
          | exact HK2.out _ (HX.out.quiet 0 (by rfl) (Below.refl _ _))
      simp only [Act.put, List.setIfInBounds_toArray, List.set_cons_succ, List.set_cons_zero]
      apply Ghost.walk_const (fun γ => by rfl)
      · intro γ L wx h1 h2 hx K hK
        have z0 := (hx.below.cell (p := ⟨b', off + k * 5, none⟩) hblr).trans R0.out
        have z1 := (hx.below.cell (p := ⟨b', off + k * 5 + 1, none⟩) hblr).trans R1.out
        have HK2 := Lib.hid hK
        have HX := Lib.hid hx
        clear hK h1 h2 hx
        go_simp
        first
          | (go_at_call 20; refine (FON1.out _).mono ?_; rintro e x1 ⟨rfl, hb⟩; exact HK2.out _ (HX.out.quiet 0 (by rfl) hb))
          | exact HK2.out _ (HX.out.quiet 0 (by rfl) (Below.refl _ _))
      simp only [Act.put, List.setIfInBounds_toArray, List.set_cons_succ, List.set_cons_zero]
      apply Ghost.walk_const (fun γ => by rfl)
      · intro γ L wx h1 h2 hx K hK
        have z0 := (hx.below.cell (p := ⟨b', off + k * 5, none⟩) hblr).trans R0.out
        have z1 := (hx.below.cell (p := ⟨b', off + k * 5 + 1, none⟩) hblr).trans R1.out
        have HK2 := Lib.hid hK
        have HX := Lib.hid hx
        clear hK h1 h2 hx
        go_simp
        first
          | (go_at_call 20; refine (FON1.out _).mono ?_; rintro e x1 ⟨rfl, hb⟩; exact HK2.out _ (HX.out.quiet 0 (by rfl) hb))
          | exact HK2.out _ (HX.out.quiet 0 (by rfl) (Below.refl _ _))
      simp only [Act.put, List.setIfInBounds_toArray, List.set_cons_succ, List.set_cons_zero]
      refine Ghost.walk_yes (fun b => .pointer (some ⟨b, 0, none⟩)) (fun γ => by rfl) ?_ ?_
      · intro γ L wx h1 h2 hx K hK
        have HK2 := Lib.hid hK
        clear hK h2
        have hL : L (⟨11, 12, 24, #[.int .u32 0, .int .u32 0], #[.int .u32 on1, .int .u32 on2]⟩ : Decl).al = false := h1
        clear h1
        go_simp
        exact HK2.out wx.heap.size _ (hx.alloc (⟨11, 12, 24, #[.int .u32 0, .int .u32 0], #[.int .u32 on1, .int .u32 on2]⟩ : Decl) (decl_mem _) hL (by rfl) (decl_al _))
      simp only [Act.put, List.setIfInBounds_toArray, List.set_cons_succ, List.set_cons_zero]
      refine Ghost.walk_yes (fun _ => undef) (fun γ => by rfl) ?_ ?_
      · intro γ L wx h1 h2 hx K hK
        have hA : L (⟨11, 12, 24, #[.int .u32 0, .int .u32 0], #[.int .u32 on1, .int .u32 on2]⟩ : Decl).al = true := h2 11 (by kernel_rfl)
        exact hx.wp_store (⟨11, 12, 24, #[.int .u32 0, .int .u32 0], #[.int .u32 on1, .int .u32 on2]⟩ : Decl) (decl_mem _) h1 hA _ _ rfl rfl rfl (by kernel_rfl) rfl (by kernel_rfl) (hK 0 _ (hx.store (⟨11, 12, 24, #[.int .u32 0, .int .u32 0], #[.int .u32 on1, .int .u32 on2]⟩ : Decl) (decl_mem _) hA (by rfl) (decl_st _) (decl_al _) 0))
      simp only [Act.put]
      refine Ghost.walk_nil (fun γ L w4 hall hD => ?_)
      obtain ⟨hg4, hr4, hb4⟩ := hD.done1 hall (by show 11 < 13; decide) (by show 12 < 13; decide)
      clear hall hD
      simp only [Nat.zero_add, Nat.reduceAdd] at hg4 hr4 ⊢
      generalize γ 11 = g4 at *
      have hg4l : g4 < w4.heap.size := (Array.getElem?_eq_some_iff.1 hr4).1
      have hs4 := hb4.size
      have hltA4 : w.heap.size < w4.heap.size := by omega
      have hltS4 : w2.heap.size < w4.heap.size := by omega
      have hblr4 : b' < w4.heap.size := by omega
      have HR4 := Lib.hid hr4
      have HP4 := Lib.hid (HP.out.next hb4)
      have HC4 := Lib.hid (And.intro ((hb4.cell (p := ⟨w.heap.size, 0, none⟩) hltA).trans HCR.out.1) (And.intro ((hb4.cell (p := ⟨w.heap.size, 1, none⟩) hltA).trans HCR.out.2.1) (And.intro ((hb4.cell (p := ⟨w2.heap.size, 0, none⟩) hltS).trans HCR.out.2.2.2.2.1) (And.intro ((hb4.cell (p := ⟨w2.heap.size, 1, none⟩) hltS).trans HCR.out.2.2.2.2.2) (And.intro ((hb4.cell (p := ⟨b', off + k * 5, none⟩) hblr).trans R0.out) (And.intro ((hb4.cell (p := ⟨b', off + k * 5 + 1, none⟩) hblr).trans R1.out) (And.intro (cell_of_row w4 g4 0 _ _ (0, 0) hr4) (cell_of_row w4 g4 1 _ _ (0, 0) hr4))))))))
      clear hr4 hb4 hg4
      have nz := NZZ.out
      go_wp2_with fail
      refine Bag.region (fun wx => Below w4.heap.size w4 wx) (by kernel_rfl) (by kernel_rfl) (Below.refl _ _).drew ?_
      iterate 20 (first
          | (apply Bag.walk_yes (by rfl)
             (intro wx hx K hK
              have z0 := (hx.cell (p := ⟨w.heap.size, 0, none⟩) hltA4).trans HC4.out.1
              have z1 := (hx.cell (p := ⟨w.heap.size, 1, none⟩) hltA4).trans HC4.out.2.1
              have z2 := (hx.cell (p := ⟨w2.heap.size, 0, none⟩) hltS4).trans HC4.out.2.2.1
              have z3 := (hx.cell (p := ⟨w2.heap.size, 1, none⟩) hltS4).trans HC4.out.2.2.2.1
              have z4 := (hx.cell (p := ⟨b', off + k * 5, none⟩) hblr4).trans HC4.out.2.2.2.2.1
              have z5 := (hx.cell (p := ⟨b', off + k * 5 + 1, none⟩) hblr4).trans HC4.out.2.2.2.2.2.1
              have z6 := (hx.cell (p := ⟨g4, 0, none⟩) hg4l).trans HC4.out.2.2.2.2.2.2.1
              have z7 := (hx.cell (p := ⟨g4, 1, none⟩) hg4l).trans HC4.out.2.2.2.2.2.2.2
              simp only [List.getElem?_toArray, List.getElem?_cons_zero, List.getElem?_cons_succ] at z6 z7
              first
                | (go_simp
                   first
                    | (go_at_call 9; refine (FB.out _).mono ?_; rintro e x1 ⟨rfl, hb⟩; exact hK _ (hx.trans (hb.mono hx.size)))
                    | (go_at_call 18; refine (FH.out _).mono ?_; rintro e x1 ⟨rfl, hb⟩; exact hK _ (hx.trans (hb.mono hx.size)))
                    | (go_at_K; exact hK _ hx)))
             rfl)
          | (refine Bag.walk_no (by rfl) ?_; simp only [Act.put, List.setIfInBounds_toArray, List.set_cons_succ, List.set_cons_zero]))
      refine Bag.walk_nil (fun w5 hB => ?_)
      have HB5 := Lib.hid hB
      have hs5 := hB.size
      clear hB nz
      have HP5 := Lib.hid (HP4.out.next HB5.out)
      have c2 := (HB5.out.cell (p := ⟨w2.heap.size, 0, none⟩) hltS4).trans HC4.out.2.2.1
      have c3 := (HB5.out.cell (p := ⟨w2.heap.size, 1, none⟩) hltS4).trans HC4.out.2.2.2.1
      have c6 := (HB5.out.cell (p := ⟨g4, 0, none⟩) hg4l).trans HC4.out.2.2.2.2.2.2.1
      have c7 := (HB5.out.cell (p := ⟨g4, 1, none⟩) hg4l).trans HC4.out.2.2.2.2.2.2.2
      simp only [List.getElem?_toArray, List.getElem?_cons_zero, List.getElem?_cons_succ] at c6 c7
      go_wp2_with fail
      refine (FU.out _).mono ?_
      rintro e w6 ⟨rfl, hb6⟩
      have HP6 := Lib.hid (HP5.out.next hb6)
      clear c2 c3 c6 c7 hb6
      have c2 : w6.cell? ⟨w2.heap.size, 0, none⟩ = some (.int .u32 s1) := HP6.out.cell 0
      have c3 : w6.cell? ⟨w2.heap.size, 1, none⟩ = some (.int .u32 s2) := HP6.out.cell 1
      have q0 := HP6.out.free 0
      have q1 := HP6.out.free 1
      go_wp2_with fail
      go_roundw
      case rel => exact ⟨k + 1, by omega, by go_num, by rw [HS1.out]; exact HP6.out.put2 rfl _ _⟩
      case measure => simp [intOf]; omega
    · obtain rfl : k = E.length := by omega
      rw [HOE.out] at HCR
      simp only at HCR
      have e1 := EQA.out
      have hd : decide ((E.length : Int) < (E.length : Int)) = false := decide_eq_false (by omega)
      go_wp2_with fail
      refine Bag.region (fun wx => Below wr.heap.size wr wx) (by kernel_rfl) (by kernel_rfl) (Below.refl _ _).drew ?_
      iterate 35 (first
          | (apply Bag.walk_yes (by rfl)
             (intro wx hx K hK
              have z0 := (hx.cell (p := ⟨w.heap.size, 0, none⟩) hltA).trans HCR.out.1
              have z1 := (hx.cell (p := ⟨w.heap.size, 1, none⟩) hltA).trans HCR.out.2.1
              have z2 := (hx.cell (p := ⟨w.heap.size + 1, 0, none⟩) hltB).trans HCR.out.2.2.1
              have z3 := (hx.cell (p := ⟨w.heap.size + 1, 1, none⟩) hltB).trans HCR.out.2.2.2.1
              have z4 := (hx.cell (p := ⟨w2.heap.size, 0, none⟩) hltS).trans HCR.out.2.2.2.2.1
              have z5 := (hx.cell (p := ⟨w2.heap.size, 1, none⟩) hltS).trans HCR.out.2.2.2.2.2
              first
                | (go_simp
                   first
                    | (go_at_call 11; refine (FM.out _).mono ?_; rintro e x1 ⟨rfl, hb⟩; exact hK _ (hx.trans (hb.mono hx.size)))
                    | (go_at_call 9; refine (FB2.out _).mono ?_; rintro e x1 ⟨rfl, hb⟩; exact hK _ (hx.trans (hb.mono hx.size)))
                    | (go_at_call 7; with_reducible first | refine (FU4.out _).mono ?_ | refine (FU5.out _).mono ?_); (rintro e x1 ⟨rfl, hb⟩; exact hK _ (hx.trans (hb.mono hx.size)))
                    | (go_at_call 25; with_reducible first | refine (FC4.out _).mono ?_ | refine (FC5.out _).mono ?_ | refine (FCA.out _).mono ?_ | refine (FCB.out _).mono ?_); (rintro e x1 ⟨rfl, hb⟩; exact hK _ (hx.trans (hb.mono hx.size)))
                    | (go_at_call 17; refine (FS.out _).mono ?_; rintro e x1 ⟨rfl, hb⟩; exact hK _ (hx.trans (hb.mono hx.size)))
                    | (go_at_K; exact hK _ hx)))
             rfl)
          | (refine Bag.walk_no (by rfl) ?_; simp only [Act.put, List.setIfInBounds_toArray, List.set_cons_succ, List.set_cons_zero]))
      refine Bag.walk_nil (fun w9 hB => ?_)
      have HB9 := Lib.hid hB
      clear hB e1
      go_wp2_with fail
      go_ret
      exact ⟨rfl, (below2 HBW.out).trans ((HB3.out.mono (by omega)).trans ((HP.out.below (by omega) (by omega)).trans (HB9.out.mono (by omega))))⟩
set_option maxRecDepth 100000 in
theorem lawCallsLaws_lifted (os : Os) (started : os.Started) (H : Type) (enc : TypeId × Value → H) :
    ReturnsInHanded {} Try.checked os 6 .any (Rows.callsLawsSpec.pre6 enc Try.prog Try.f6 Rows.callsLawsRow.domain false) (Rows.callsLawsSpec.post enc Try.prog Try.f6 false true false false) := by
  refine returnsInHanded_of_change (C := Try.checked) own started (by kernel_rfl) Try.func6
    (ChangeSpec.witness6 (enc := enc) (C := Try.checked) false ⟨#[], #[.agg #[.int .u32 0, .int .u32 0], .agg #[.int .u32 0, .int .u32 0], .int .u8 0], []⟩ 8 (by kernel_rfl) (by kernel_rfl) (by kernel_rfl) (by kernel_rfl)) ?_
  intro W base args ds gs before hval0 hW hcnd _
  have hval : ∀ (j : Nat) t v, Try.f6.params[j]? = some t → args[j]? = some v → Value.okWide Try.prog W .any base t v := hval0
  have hW' := hW
  obtain ⟨p, q, hA0, hV, rfl, hfz, hnd⟩ := hW
  have hA : DataW.TrodAll enc Try.prog W 0 (fun _ => true) true Try.f6.params.toList args.toList ds p := hA0
  rw [Try.params6] at hA hval
  obtain ⟨v0, vs0, d0, ds0, p0, q0, hargs, rfl, rfl, h0, r0⟩ := trodAll_cons hA
  obtain ⟨v1, vs1, d1, ds1, p1, q1, rfl, rfl, rfl, h1, r1⟩ := trodAll_cons r0
  obtain ⟨v2, vs2, d2, ds2, p2, q2, rfl, rfl, rfl, h2, r2⟩ := trodAll_cons r1
  obtain ⟨rfl, rfl, rfl⟩ := trodAll_nil r2
  obtain rfl : args = #[v0, v1, v2] := by cases args; simp_all
  obtain ⟨rfl, rfl⟩ := trodVars_none hV
  have k0 := h0
  have lt0 : ∀ x ∈ p0, x.block < W.heap.size := by obtain ⟨m, hm⟩ := k0; exact DataW.trod_lt m _ _ _ hm
  obtain ⟨x0, rfl, g0⟩ := open_cs (hval 0 24 v0 rfl rfl) h0
  have k1 := h1
  have lt1 : ∀ x ∈ p1, x.block < W.heap.size := by obtain ⟨m, hm⟩ := k1; exact DataW.trod_lt m _ _ _ hm
  obtain ⟨x1, rfl, g1⟩ := open_cs (hval 1 24 v1 rfl rfl) h1
  obtain ⟨x2, rfl, rfl, rfl, g2⟩ := open_int Try.underlying5 (hval 2 5 v2 rfl rfl) h2
  clear hA0 hval0
  refine (lawCallsLaws_walk x0 x1 x2 W g0 g1 g2).mono fun e W' ⟨he, bel⟩ => ?_
  subst he
  exact ⟨_, rfl, _, _, _, [], _, [], hW', trodAll_mk1 (shut_bool Try.underlying4 _), (trodAll_cons_mk (Below.trod laidOut (by kernel_rfl) (of_decide_eq_true (by kernel_rfl)) k0 bel lt0) (trodAll_cons_mk (Below.trod laidOut (by kernel_rfl) (of_decide_eq_true (by kernel_rfl)) k1 bel lt1) (trodAll_cons_mk (shut_int Try.underlying5 g2) trodAll_mk0))), rfl, bel.frame _, fun h => by cases h⟩

theorem lawCallsLaws_over : Rows.callsLawsRow.holds Try.pinned (OpenSpec.ofChange Rows.callsLawsSpec) :=
  OpenClaim.holds_of_wide 6 Try.f6 rfl rfl rfl rfl rfl rfl rfl ⟨rfl, rfl, rfl, rfl, rfl⟩ rfl rfl rfl rfl rfl (by kernel_rfl) Try.func6 (by kernel_rfl)
    (of_decide_eq_true (by kernel_rfl)) (by unfold Func.isWrapper; first | (rw [if_pos (by decide +kernel)]; kernel_rfl) | (rw [if_neg (by decide +kernel)]; exact ⟨rfl, rfl⟩))
    (fun os started H enc _ => lawCallsLaws_lifted os started H enc)

theorem callsLaws_holds : Rows.CallsLawsSaid := lawCallsLaws_over
#print axioms callsLaws_holds
end Go.Proofs.Ytclkfclbnapamaa
