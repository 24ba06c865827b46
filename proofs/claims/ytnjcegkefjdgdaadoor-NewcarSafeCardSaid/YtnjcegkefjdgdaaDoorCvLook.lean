/- collective.look. No statement of the seat is proved here. -/
import Derived.Test.YtnjcegkefjdgdaaDoorCvMark
import Derived.Test.YtnjcegkefjdgdaaDoorG10
import Derived.Test.YtnjcegkefjdgdaaDoorG11
import Derived.Test.YtnjcegkefjdgdaaDoorG13
import Derived.Test.YtnjcegkefjdgdaaDoorG8
namespace Go.Proofs.YtnjcegkefjdgdaaDoor
open Go.RowKit Ghost
set_option maxRecDepth 4000
set_option linter.unusedSimpArgs false

theorem swRow {wx : World} {g : Nat} {d o : Int} (h : wx.heap[g]? = some (.cells #[.int .i64 d, .int .i64 o] 31 (0, 0))) :
    wx.cell? ⟨g, 0, none⟩ = some (.int .i64 d) ∧ wx.cell? ⟨g, 1, none⟩ = some (.int .i64 o) :=
  ⟨cell_of_row wx _ _ _ _ (0, 0) h, cell_of_row wx _ _ _ _ (0, 0) h⟩
theorem new3r (w : World) (A B C : Obj) : (((w.alloc A).alloc B).alloc C).heap[w.heap.size]? = some A ∧ (((w.alloc A).alloc B).alloc C).heap[w.heap.size + 1]? = some B ∧ (((w.alloc A).alloc B).alloc C).heap[w.heap.size + 2]? = some C := by
  obtain ⟨h1, h2⟩ := boxes3c (Put.start (new3 w A B C))
  exact ⟨h1, h2, new3 w A B C⟩
theorem bx3 (w : World) (A B C : Obj) : Bx w [(w.heap.size, A), (w.heap.size + 1, B), (w.heap.size + 2, C)] (((w.alloc A).alloc B).alloc C) := by
  obtain ⟨h1, h2, h3⟩ := new3r w A B C
  refine ⟨((((Below.refl w.heap.size w).alloc (Nat.le_refl _) A).alloc (by simp) B).alloc (by simp <;> omega) C), fun p hp => ?_⟩
  simp only [List.mem_cons, List.not_mem_nil, or_false] at hp
  rcases hp with rfl | rfl | rfl
  · exact h1
  · exact h2
  · exact h3

theorem eqB_int (a b c x y z : Nat) : ((a : Int) == (x : Int) && ((b : Int) == (y : Int) && (c : Int) == (z : Int))) = Stp.eqB ⟨a, b, c⟩ ⟨x, y, z⟩ := by
  have h : ∀ p q : Nat, ((p : Int) == (q : Int)) = (p == q) := fun p q => by
    by_cases e : p = q
    · rw [e, beq_self_eq_true, beq_self_eq_true]
    · rw [beq_eq_false_iff_ne.2 e, beq_eq_false_iff_ne.2 (by omega)]
  simp only [Stp.eqB, h]
theorem bit_f {a : Nat} (f : Nat) (ha : a < 4294967296) : (bits .and .u32 ((a : Int) / 2 ^ f) 1 == 1) = a.testBit f := by
  have e : (a : Int) / 2 ^ f = ((a / 2 ^ f : Nat) : Int) := by rw [Int.natCast_ediv, Int.natCast_pow]; rfl
  have hl : a / 2 ^ f < 4294967296 := Nat.lt_of_le_of_lt (Nat.div_le_self _ _) ha
  have h1 := u32_and_nat (a / 2 ^ f) 1 hl (by decide)
  rw [e]
  have h2 : bits .and .u32 ((a / 2 ^ f : Nat) : Int) 1 = ((a / 2 ^ f &&& 1 : Nat) : Int) := h1
  rw [h2, Nat.and_one_is_mod, Nat.testBit_eq_decide_div_mod_eq]
  rcases Nat.mod_two_eq_zero_or_one (a / 2 ^ f) with h | h <;> rw [h] <;> rfl
theorem ab_f (a f : Nat) : (a : Int) / 2 ^ f / (2 : Int) = ((abN a f : Nat) : Int) := by
  unfold abN
  rw [Nat.shiftRight_eq_div_pow, Nat.shiftRight_eq_div_pow, Int.natCast_ediv, Int.natCast_ediv, Int.natCast_pow]
  rfl
theorem be_f (a f : Nat) : IntKind.u32.wrap ((a : Int) * 2 ^ (32 - f)) = ((beN a f : Nat) : Int) := by
  unfold beN
  rw [IntKind.wrap_u32, Nat.shiftLeft_eq, Int.natCast_emod, Int.natCast_mul, Int.natCast_pow]
  rfl
theorem size3' (w : World) (A B C : Obj) : (((w.alloc A).alloc B).alloc C).heap.size = w.heap.size + 3 := by simp
theorem results_cellS {fn : Func} {p u : Tmp} (h : fn.results = #[.cell p 120, .tmp u]) (tmps : Array Value) (w1 : World) (b : Nat) (cells : Array Value) (m : Value)
    (hp : tmps.getD p undef = .pointer (some ⟨b, 0, none⟩)) (hu : tmps.getD u undef = m) (hsz : cells.size = 9) (hr : w1.heap[b]? = some (.cells cells 120 (0, 0))) :
    (results fn tmps).run Tryd.prog w1 = .ok (.tuple #[.agg cells, m]) w1 := by
  obtain ⟨l⟩ := cells
  match l, hsz with
  | [x0, x1, x2, x3, x4, x5, x6, x7, x8], _ =>
    have hp' : tmps[p]?.getD undef = .pointer (some ⟨b, 0, none⟩) := by simpa using hp
    have hu' : tmps[u]?.getD undef = m := by simpa using hu
    have k0 : w1.cell? ⟨b, 0, none⟩ = some x0 := cell_of_row _ _ _ _ _ (0, 0) hr
    have k1 : w1.cell? ⟨b, 1, none⟩ = some x1 := cell_of_row _ _ _ _ _ (0, 0) hr
    have k2 : w1.cell? ⟨b, 2, none⟩ = some x2 := cell_of_row _ _ _ _ _ (0, 0) hr
    have k3 : w1.cell? ⟨b, 3, none⟩ = some x3 := cell_of_row _ _ _ _ _ (0, 0) hr
    have k4 : w1.cell? ⟨b, 4, none⟩ = some x4 := cell_of_row _ _ _ _ _ (0, 0) hr
    have k5 : w1.cell? ⟨b, 5, none⟩ = some x5 := cell_of_row _ _ _ _ _ (0, 0) hr
    have k6 : w1.cell? ⟨b, 6, none⟩ = some x6 := cell_of_row _ _ _ _ _ (0, 0) hr
    have k7 : w1.cell? ⟨b, 7, none⟩ = some x7 := cell_of_row _ _ _ _ _ (0, 0) hr
    have k8 : w1.cell? ⟨b, 8, none⟩ = some x8 := cell_of_row _ _ _ _ _ (0, 0) hr
    simp [results, h, hp', hu', go_sem, asAddr, k0, k1, k2, k3, k4, k5, k6, k7, k8]
set_option maxHeartbeats 4000000 in
theorem lookGood_any (F f d o : Nat) (s : Stp) (w : World) (hF1 : 2 ≤ F) (hF : F ≤ 32) (hf : f < F) (hd : d ≤ 2) (ho : o ≤ 7) (hs : s.ok) :
    Calls Tryd.prog 68 #[.int .i64 (F : Int), .agg #[.int .i64 (d : Int), .int .i64 (o : Int)], .int .i64 (f : Int), s.agg] w fun e w' => e = .returned (.tuple #[(placeF F o f s).agg, .bool true]) ∧ Below w.heap.size w w' := by
  have hf32 : f < 32 := by omega
  have F1 := Lib.hid (fun wx => cvWithin_any 2 32 (F : Int) wx)
  have F2 := Lib.hid (fun wx => cvWithin_any 0 ((F : Int) - 1) (f : Int) wx)
  have F3 := Lib.hid (fun wx => isSweep_any (d : Int) (o : Int) wx)
  rw [show (decide ((2 : Int) ≤ (F : Int)) && decide ((F : Int) ≤ 32)) = true by simp; omega] at F1
  rw [show (decide ((0 : Int) ≤ (f : Int)) && decide ((f : Int) ≤ (F : Int) - 1)) = true by simp; omega] at F2
  rw [show isSw (d : Int) (o : Int) = true by simp [isSw]; omega] at F3
  have FC := Lib.hid (fun wx => counting_any F s wx hF hs)
  have ht := Cv.cnt_ok (F := F) hs
  have FM := Lib.hid (fun wx => marked_any o f (Cv.cnt F s) wx ho hf32 ht)
  have hmo := Cv.mk_ok (o := o) (f := f) ht
  have hlv := live_ok (F := F) (o := o) (f := f) hs
  have hL : Cv.live F o f s = Cv.minus (Cv.cnt F s) (Cv.spent F o f s) := rfl
  have hS : Cv.spent F o f s = Cv.mk (Cv.cd o f (Cv.cnt F s)) f (Cv.cnt F s) := rfl
  have hso : (Cv.spent F o f s).ok := Cv.mk_ok ht
  have hCD : Cv.cd o f (Cv.cnt F s) = if Stp.eqB (Cv.mk o f (Cv.cnt F s)) (Cv.cnt F s) then 0 else o := rfl
  have hP : placeF F o f s = ⟨Cv.cd o f (Cv.cnt F s), Cv.spent F o f s, (Cv.live F o f s).car.testBit f, (Cv.live F o f s).h.up.testBit f, (Cv.live F o f s).h.dn.testBit f, abN (Cv.live F o f s).bits f, beN (Cv.live F o f s).bits f⟩ := rfl
  have hU := Cs.has_up hlv.2 hf32
  have hD := Cs.has_dn hlv.2 hf32
  have FH1 := Lib.hid (fun wx => has_any (Cv.live F o f s).h (f : Int) 1 wx hlv.2)
  have FH2 := Lib.hid (fun wx => has_any (Cv.live F o f s).h (f : Int) 2 wx hlv.2)
  rw [hU] at FH1
  rw [hD] at FH2
  have FN := Lib.hid (fun wx => minus_any (Cv.cnt F s).h (Cv.spent F o f s).h wx ht.2 hso.2)
  have e1 : bits .andNot .u32 ((Cv.cnt F s).car : Int) ((Cv.spent F o f s).car : Int) = ((Cv.live F o f s).car : Int) := u32_andNot_nat _ _ ht.1 hso.1
  have hxh : (Cv.live F o f s).h = Cs.minus (Cv.cnt F s).h (Cv.spent F o f s).h := rfl
  rw [← hxh] at FN
  have e2 := u32_or_nat (Cv.live F o f s).car (Cv.live F o f s).h.up hlv.1 hlv.2.1
  have e3 := u32_or_nat ((Cv.live F o f s).car ||| (Cv.live F o f s).h.up) (Cv.live F o f s).h.dn (Cs.or_lt hlv.1 hlv.2.1) hlv.2.2
  have hbits : (Cv.live F o f s).bits = (Cv.live F o f s).car ||| (Cv.live F o f s).h.up ||| (Cv.live F o f s).h.dn := rfl
  rw [← hbits] at e3
  have e4 := bit_f f hlv.1
  have e5 := ab_f (Cv.live F o f s).bits f
  have e6 := be_f (Cv.live F o f s).bits f
  rw [hP]
  clear hP hU hD hL hxh hbits hlv
  generalize Cv.live F o f s = x at *
  obtain ⟨x0, x1, x2⟩ := x
  simp only at e1 e2 e3 e4 e5 e6 FH1 FH2 FN ⊢
  generalize x0.testBit f = bc at *
  generalize x1.testBit f = bu at *
  generalize x2.testBit f = bd at *
  generalize (⟨x0, ⟨x1, x2⟩⟩ : Stp).bits = xb at *
  generalize abN xb f = an at *
  generalize beN xb f = bn at *
  generalize x0 ||| x1 = x01 at *
  generalize Cv.spent F o f s = sp at *
  generalize Cv.cd o f (Cv.cnt F s) = cdv at *
  generalize hmk : Cv.mk o f (Cv.cnt F s) = m at *
  generalize hcn : Cv.cnt F s = t at *
  obtain ⟨t0, t1, t2⟩ := t
  obtain ⟨m0, m1, m2⟩ := m
  obtain ⟨sp0, sp1, sp2⟩ := sp
  obtain ⟨s0, s1, s2⟩ := s
  simp only [Stp.agg, Cs.agg, Pl.agg] at *
  have hw1 : IntKind.i64.wrap ((F : Int) - 1) = (F : Int) - 1 := by rw [IntKind.wrap_i64]; omega
  have hw2 : IntKind.i64.wrap ((32 : Int) - (f : Int)) = (32 : Int) - (f : Int) := by rw [IntKind.wrap_i64]; omega
  have hfn : decide ((f : Int) < 0) = false := decide_eq_false (by omega)
  have hfn2 : decide ((32 : Int) - (f : Int) < 0) = false := decide_eq_false (by omega)
  have HB0 := Lib.hid (bx3 w (.cells #[.int .i64 (d : Int), .int .i64 (o : Int)] 31) (.cells #[.int .u32 s0, .int .u32 s1, .int .u32 s2] 105) (.cells #[.int .i64 0, .int .u32 0, .int .u32 0, .int .u32 0, .bool false, .bool false, .bool false, .int .u32 0, .int .u32 0] 120))
  have hz := size3' w (.cells #[.int .i64 (d : Int), .int .i64 (o : Int)] 31) (.cells #[.int .u32 s0, .int .u32 s1, .int .u32 s2] 105) (.cells #[.int .i64 0, .int .u32 0, .int .u32 0, .int .u32 0, .bool false, .bool false, .bool false, .int .u32 0, .int .u32 0] 120)
  go_enter Tryd.func68, Tryd.ntmps68
  go_wp2_with (go_at_call 51; first | (with_reducible refine (F1.out _).mono ?_; rintro e w1 ⟨rfl, rfl⟩) | (with_reducible refine (F2.out _).mono ?_; rintro e w1 ⟨rfl, rfl⟩))
  refine (F3.out _).mono ?_
  rintro e w1 ⟨rfl, hb1⟩
  have HB1 := Lib.hid (HB0.out.next hb1)
  clear hb1 HB0
  obtain ⟨a0, a1, a2⟩ := stRow HB1.out.r1
  go_wp2_with fail
  refine (FC.out _).mono ?_
  rintro e w2 ⟨rfl, hb2⟩
  have HB2 := Lib.hid (HB1.out.next hb2)
  clear hb2 HB1 a0 a1 a2
  have hr := HB2.out.r1
  go_wp2_with (with_reducible show wpList _ _ _ (Oper.mk _ (.store 105 _ _) _ _ _ _ :: _) _ _; refine wpList_put rfl 105 _ _ rfl (w.heap.size + 1) #[.int .u32 t0, .int .u32 t1, .int .u32 t2] _ 105 rfl rfl hr (by kernel_rfl) rfl (by kernel_rfl) ?_; intro w3 hr3 hg3; refine Hid.out ?_)
  have HB3 : Hid (Bx w [(w.heap.size, .cells #[.int .i64 (d : Int), .int .i64 (o : Int)] 31 (0, 0)), (w.heap.size + 1, .cells #[.int .u32 t0, .int .u32 t1, .int .u32 t2] 105 (0, 0)), (w.heap.size + 2, .cells #[.int .i64 0, .int .u32 0, .int .u32 0, .int .u32 0, .bool false, .bool false, .bool false, .int .u32 0, .int .u32 0] 120 (0, 0))] w3) := Lib.hid (HB2.out.put (by omega) hg3.out hr3.out (by simp only [List.mem_cons, List.not_mem_nil, or_false]; rintro p (rfl | rfl | rfl) <;> simp))
  clear hr hr3 hg3 HB2
  refine Lib.hid ?_
  go_wp2_with fail
  refine Ghost.ghost (fun γ L wx => Decls (w3).heap.size (w3) [(⟨7, 9, 105, #[.int .u32 0, .int .u32 0, .int .u32 0], #[.int .u32 m0, .int .u32 m1, .int .u32 m2]⟩ : Decl)] γ L wx) (by kernel_rfl) (by kernel_rfl) (fun γ => Decls.start _ γ (Below.refl _ _).drew (Nat.le_refl _)) ?_
  iterate 7
    apply Ghost.walk_const (fun γ => by rfl)
    · intro γ L wx h1 h2 hx K hK
      have HXx := HB3.out.next hx.below
      obtain ⟨a0, a1, a2⟩ := stRow HXx.r1
      obtain ⟨b0, b1⟩ := swRow HXx.r0
      have HK2 := Lib.hid hK
      have HX := Lib.hid hx
      clear hK h1 h2 hx
      go_simp
      first
        | (go_at_call 76; refine (FM.out _).mono ?_; rintro e y1 ⟨rfl, hb⟩; exact HK2.out _ (HX.out.quiet 0 (by rfl) hb))
        | exact HK2.out _ (HX.out.quiet 0 (by rfl) (Below.refl _ _))
    simp only [Act.put, List.setIfInBounds_toArray, List.set_cons_succ, List.set_cons_zero]
  refine Ghost.walk_yes (fun b => .pointer (some ⟨b, 0, none⟩)) (fun γ => by rfl) ?_ ?_
  · intro γ L wx h1 h2 hx K hK
    have HK2 := Lib.hid hK
    clear hK h2
    have hL : L (⟨7, 9, 105, #[.int .u32 0, .int .u32 0, .int .u32 0], #[.int .u32 m0, .int .u32 m1, .int .u32 m2]⟩ : Decl).al = false := h1
    clear h1
    go_simp
    exact HK2.out wx.heap.size _ (hx.alloc (⟨7, 9, 105, #[.int .u32 0, .int .u32 0, .int .u32 0], #[.int .u32 m0, .int .u32 m1, .int .u32 m2]⟩ : Decl) (decl_mem _) hL (by rfl) (decl_al _))
  simp only [Act.put, List.setIfInBounds_toArray, List.set_cons_succ, List.set_cons_zero]
  apply Ghost.walk_const (fun γ => by rfl)
  · intro γ L wx h1 h2 hx K hK
    have HXx := HB3.out.next hx.below
    obtain ⟨a0, a1, a2⟩ := stRow HXx.r1
    obtain ⟨b0, b1⟩ := swRow HXx.r0
    have HK2 := Lib.hid hK
    have HX := Lib.hid hx
    clear hK h1 h2 hx
    go_simp
    first
      | (go_at_call 76; refine (FM.out _).mono ?_; rintro e y1 ⟨rfl, hb⟩; exact HK2.out _ (HX.out.quiet 0 (by rfl) hb))
      | exact HK2.out _ (HX.out.quiet 0 (by rfl) (Below.refl _ _))
  simp only [Act.put, List.setIfInBounds_toArray, List.set_cons_succ, List.set_cons_zero]
  refine Ghost.walk_yes (fun _ => undef) (fun γ => by rfl) ?_ ?_
  · intro γ L wx h1 h2 hx K hK
    have hA : L (⟨7, 9, 105, #[.int .u32 0, .int .u32 0, .int .u32 0], #[.int .u32 m0, .int .u32 m1, .int .u32 m2]⟩ : Decl).al = true := h2 7 (by kernel_rfl)
    exact hx.wp_store (⟨7, 9, 105, #[.int .u32 0, .int .u32 0, .int .u32 0], #[.int .u32 m0, .int .u32 m1, .int .u32 m2]⟩ : Decl) (decl_mem _) h1 hA _ _ rfl rfl rfl (by kernel_rfl) rfl (by kernel_rfl) (hK 0 _ (hx.store (⟨7, 9, 105, #[.int .u32 0, .int .u32 0, .int .u32 0], #[.int .u32 m0, .int .u32 m1, .int .u32 m2]⟩ : Decl) (decl_mem _) hA (by rfl) (decl_st _) (decl_al _) 0))
  simp only [Act.put]
  refine Ghost.walk_nil (fun γ L w4 hall hD => ?_)
  obtain ⟨hg1, hg2, hb4⟩ := hD.done1 hall (by show 7 < 10; decide) (by show 9 < 10; decide)
  clear hall hD
  simp only [Nat.zero_add, Nat.reduceAdd] at hg1 hg2 ⊢
  generalize γ 7 = g at *
  have HB4 := Lib.hid (HB3.out.make hg2 hb4)
  have hgg : w.heap.size + 3 ≤ g := by have := (Array.getElem?_eq_some_iff.1 HB3.out.r2).1; simp at this; omega
  clear hb4 hg2 HB3
  obtain ⟨a0, a1, a2⟩ := stRow HB4.out.r2
  obtain ⟨b0, b1, b2⟩ := stRow HB4.out.r0
  have hq := eqlSt (m0 : Int) (m1 : Int) (m2 : Int) (t0 : Int) (t1 : Int) (t2 : Int)
  have hqb : ((m0 : Int) == (t0 : Int) && ((m1 : Int) == (t1 : Int) && (m2 : Int) == (t2 : Int))) = Stp.eqB ⟨m0, m1, m2⟩ ⟨t0, t1, t2⟩ := eqB_int _ _ _ _ _ _
  rw [hqb] at hq
  generalize Stp.eqB ⟨m0, m1, m2⟩ ⟨t0, t1, t2⟩ = qb at *
  cases qb
  · have hcd : cdv = o := hCD
    subst hcd
    rw [hmk] at hS
    injection hS with i0 i1
    injection i1 with i1 i2
    subst i0 i1 i2
    have HBQ := HB4
    clear hCD hqb HB4 hmk hcn hso hmo ht hs
    generalize hwq : w4 = wq at *
    clear hwq
    go_wp2_with fail
    clear a0 a1 a2 b0 b1 b2 hq
    refine Ghost.ghost (fun γ L wx => Decls (wq).heap.size (wq) [(⟨10, 12, 42, #[.int .u32 0, .int .u32 0], #[.int .u32 x1, .int .u32 x2]⟩ : Decl)] γ L wx) (by kernel_rfl) (by kernel_rfl) (fun γ => Decls.start _ γ (Below.refl _ _).drew (Nat.le_refl _)) ?_
    iterate 10
      apply Ghost.walk_const (fun γ => by rfl)
      · intro γ L wx h1 h2 hx K hK
        have HXx := HBQ.out.next hx.below
        obtain ⟨a0, a1, a2⟩ := stRow HXx.r2
        obtain ⟨b0, b1, b2⟩ := stRow HXx.r0
        have HK2 := Lib.hid hK
        have HX := Lib.hid hx
        clear hK h1 h2 hx
        go_simp
        first
          | (go_at_call 77; refine (FN.out _).mono ?_; rintro e y1 ⟨rfl, hb⟩; exact HK2.out _ (HX.out.quiet 0 (by rfl) hb))
          | exact HK2.out _ (HX.out.quiet 0 (by rfl) (Below.refl _ _))
      simp only [Act.put, List.setIfInBounds_toArray, List.set_cons_succ, List.set_cons_zero]
    refine Ghost.walk_yes (fun b => .pointer (some ⟨b, 0, none⟩)) (fun γ => by rfl) ?_ ?_
    · intro γ L wx h1 h2 hx K hK
      have HK2 := Lib.hid hK
      clear hK h2
      have hL : L (⟨10, 12, 42, #[.int .u32 0, .int .u32 0], #[.int .u32 x1, .int .u32 x2]⟩ : Decl).al = false := h1
      clear h1
      go_simp
      exact HK2.out wx.heap.size _ (hx.alloc (⟨10, 12, 42, #[.int .u32 0, .int .u32 0], #[.int .u32 x1, .int .u32 x2]⟩ : Decl) (decl_mem _) hL (by rfl) (decl_al _))
    simp only [Act.put, List.setIfInBounds_toArray, List.set_cons_succ, List.set_cons_zero]
    apply Ghost.walk_const (fun γ => by rfl)
    · intro γ L wx h1 h2 hx K hK
      have HXx := HBQ.out.next hx.below
      obtain ⟨a0, a1, a2⟩ := stRow HXx.r2
      obtain ⟨b0, b1, b2⟩ := stRow HXx.r0
      have HK2 := Lib.hid hK
      have HX := Lib.hid hx
      clear hK h1 h2 hx
      go_simp
      first
        | (go_at_call 77; refine (FN.out _).mono ?_; rintro e y1 ⟨rfl, hb⟩; exact HK2.out _ (HX.out.quiet 0 (by rfl) hb))
        | exact HK2.out _ (HX.out.quiet 0 (by rfl) (Below.refl _ _))
    simp only [Act.put, List.setIfInBounds_toArray, List.set_cons_succ, List.set_cons_zero]
    refine Ghost.walk_yes (fun _ => undef) (fun γ => by rfl) ?_ ?_
    · intro γ L wx h1 h2 hx K hK
      have hA : L (⟨10, 12, 42, #[.int .u32 0, .int .u32 0], #[.int .u32 x1, .int .u32 x2]⟩ : Decl).al = true := h2 10 (by kernel_rfl)
      exact hx.wp_store (⟨10, 12, 42, #[.int .u32 0, .int .u32 0], #[.int .u32 x1, .int .u32 x2]⟩ : Decl) (decl_mem _) h1 hA _ _ rfl rfl rfl (by kernel_rfl) rfl (by kernel_rfl) (hK 0 _ (hx.store (⟨10, 12, 42, #[.int .u32 0, .int .u32 0], #[.int .u32 x1, .int .u32 x2]⟩ : Decl) (decl_mem _) hA (by rfl) (decl_st _) (decl_al _) 0))
    simp only [Act.put]
    refine Ghost.walk_nil (fun γ L w6 hall hD => ?_)
    obtain ⟨hg1, hg2, hb6⟩ := hD.done1 hall (by show 10 < 13; decide) (by show 12 < 13; decide)
    clear hall hD
    simp only [Nat.zero_add, Nat.reduceAdd] at hg1 hg2 ⊢
    generalize γ 10 = g2 at *
    have HB6 := Lib.hid (HBQ.out.make hg2 hb6)
    have HBQ2 := HBQ
    clear hb6 hg2 HBQ
    obtain ⟨c0, c1⟩ := csRow HB6.out.r0
    go_wp2_with fail
    clear c0 c1
    have hgl := (Array.getElem?_eq_some_iff.1 HB6.out.r1).1
    have hg2l := (Array.getElem?_eq_some_iff.1 HB6.out.r0).1
    have hgq : w.heap.size + 2 < g2 := by have := (Array.getElem?_eq_some_iff.1 HBQ2.out.r3).1; simp at this; omega
    refine Chain.chain (fun p wx => Put (w6) (w.heap.size + 2) (.cells (if p = 0 then #[.int .i64 0, .int .u32 0, .int .u32 0, .int .u32 0, .bool false, .bool false, .bool false, .int .u32 0, .int .u32 0] else #[.int .i64 (cdv : Int), .int .u32 sp0, .int .u32 sp1, .int .u32 sp2, .bool bc, .bool bu, .bool bd, .int .u32 (an : Nat), .int .u32 (bn : Nat)]) 120 (0, 0)) wx) (fun _ _ => False) [22] (by kernel_rfl) (by kernel_rfl) (fun _ _ _ _ h => h.elim) ((Put.start HB6.out.r4).drew) ?_
    iterate 22 (first
        | (apply Chain.walk_quiet (by rfl) (by decide)
           (intro p wx hp hwn hx K hK
            obtain ⟨b0, b1, b2⟩ := stRow ((hx.other g hgl (by omega)).trans HB6.out.r1)
            obtain ⟨c0, c1⟩ := csRow ((hx.other g2 hg2l (by omega)).trans HB6.out.r0)
            first
              | (go_simp
                 first
                  | (go_at_call 78; with_reducible refine (FH1.out _).mono ?_; rintro e y1 ⟨rfl, hb⟩; exact hK _ (hx.next hb))
                  | (go_at_call 78; with_reducible refine (FH2.out _).mono ?_; rintro e y1 ⟨rfl, hb⟩; exact hK _ (hx.next hb))
                  | (go_at_K; exact hK _ hx)))
           exact ⟨_, rfl⟩)
        | (refine Chain.walk_no (by rfl) (by decide) ?_; simp only [Act.put, List.setIfInBounds_toArray, List.set_cons_succ, List.set_cons_zero]))
    apply Chain.walk_turn 0 (by rfl) (by rfl)
    · intro wx hx K hK
      exact Put.store 120 _ _ rfl rfl rfl hx (by kernel_rfl) rfl (by kernel_rfl) (fun w2 h => hK w2 h)
    · exact ⟨undef, rfl⟩
    iterate 1 (
           apply Chain.walk_quiet (by rfl) (by decide)
           (intro p wx hp hwn hx K hK
            go_simp
            (go_at_K; exact hK _ hx))
           exact ⟨_, rfl⟩)
    refine Chain.walk_nil (fun w7 hb7 => ?_)
    replace hb7 : Put (w6) (w.heap.size + 2) (.cells #[.int .i64 (cdv : Int), .int .u32 sp0, .int .u32 sp1, .int .u32 sp2, .bool bc, .bool bu, .bool bd, .int .u32 (an : Nat), .int .u32 (bn : Nat)] 120 (0, 0)) w7 := hb7
    try simp only [Act.put, List.setIfInBounds_toArray, List.set_cons_succ, List.set_cons_zero]
    have hfin := HB6.out.below.trans (hb7.below (by omega) HB6.out.below.size)
    go_wp2_with fail
    exact bodyPost_ret (results_cellS Tryd.results68 _ _ _ _ _ rfl rfl rfl hb7.row) rfl ⟨rfl, hfin⟩
  · have hcd : cdv = 0 := hCD
    subst hcd
    have hS2 : (⟨sp0, ⟨sp1, sp2⟩⟩ : Stp) = ⟨0, ⟨0, 0⟩⟩ := by rw [hS]; unfold Cv.mk; simp
    injection hS2 with i0 i1
    injection i1 with i1 i2
    subst i0 i1 i2
    have e1' : bits .andNot .u32 (t0 : Int) 0 = (x0 : Int) := e1
    clear hCD hqb hS hmk hcn hso hmo ht hs
    have hr := HB4.out.r0
    go_wp2_with (with_reducible show wpList _ _ _ (Oper.mk _ (.store 105 _ _) _ _ _ _ :: _) _ _; refine wpList_put rfl 105 _ _ rfl g #[.int .u32 ((0 : Nat) : Int), .int .u32 ((0 : Nat) : Int), .int .u32 ((0 : Nat) : Int)] _ 105 rfl rfl hr (by kernel_rfl) rfl (by kernel_rfl) ?_; intro wq hr3 hg3; refine Hid.out ?_)
    have HBQ : Hid (Bx w [(g, .cells #[.int .u32 ((0 : Nat) : Int), .int .u32 ((0 : Nat) : Int), .int .u32 ((0 : Nat) : Int)] 105 (0, 0)), (w.heap.size, .cells #[.int .i64 (d : Int), .int .i64 (o : Int)] 31 (0, 0)), (w.heap.size + 1, .cells #[.int .u32 t0, .int .u32 t1, .int .u32 t2] 105 (0, 0)), (w.heap.size + 2, .cells #[.int .i64 0, .int .u32 0, .int .u32 0, .int .u32 0, .bool false, .bool false, .bool false, .int .u32 0, .int .u32 0] 120 (0, 0))] wq) := Lib.hid (HB4.out.put (by omega) hg3.out hr3.out (by simp only [List.mem_cons, List.not_mem_nil, or_false]; rintro p (rfl | rfl | rfl | rfl) <;> simp <;> omega))
    clear hr hr3 hg3 HB4
    refine Lib.hid ?_
    go_wp2_with fail
    clear a0 a1 a2 b0 b1 b2 hq
    refine Ghost.ghost (fun γ L wx => Decls (wq).heap.size (wq) [(⟨10, 12, 42, #[.int .u32 0, .int .u32 0], #[.int .u32 x1, .int .u32 x2]⟩ : Decl)] γ L wx) (by kernel_rfl) (by kernel_rfl) (fun γ => Decls.start _ γ (Below.refl _ _).drew (Nat.le_refl _)) ?_
    iterate 10
      apply Ghost.walk_const (fun γ => by rfl)
      · intro γ L wx h1 h2 hx K hK
        have HXx := HBQ.out.next hx.below
        obtain ⟨a0, a1, a2⟩ := stRow HXx.r2
        obtain ⟨b0, b1, b2⟩ := stRow HXx.r0
        have HK2 := Lib.hid hK
        have HX := Lib.hid hx
        clear hK h1 h2 hx
        go_simp
        first
          | (go_at_call 77; refine (FN.out _).mono ?_; rintro e y1 ⟨rfl, hb⟩; exact HK2.out _ (HX.out.quiet 0 (by rfl) hb))
          | exact HK2.out _ (HX.out.quiet 0 (by rfl) (Below.refl _ _))
      simp only [Act.put, List.setIfInBounds_toArray, List.set_cons_succ, List.set_cons_zero]
    refine Ghost.walk_yes (fun b => .pointer (some ⟨b, 0, none⟩)) (fun γ => by rfl) ?_ ?_
    · intro γ L wx h1 h2 hx K hK
      have HK2 := Lib.hid hK
      clear hK h2
      have hL : L (⟨10, 12, 42, #[.int .u32 0, .int .u32 0], #[.int .u32 x1, .int .u32 x2]⟩ : Decl).al = false := h1
      clear h1
      go_simp
      exact HK2.out wx.heap.size _ (hx.alloc (⟨10, 12, 42, #[.int .u32 0, .int .u32 0], #[.int .u32 x1, .int .u32 x2]⟩ : Decl) (decl_mem _) hL (by rfl) (decl_al _))
    simp only [Act.put, List.setIfInBounds_toArray, List.set_cons_succ, List.set_cons_zero]
    apply Ghost.walk_const (fun γ => by rfl)
    · intro γ L wx h1 h2 hx K hK
      have HXx := HBQ.out.next hx.below
      obtain ⟨a0, a1, a2⟩ := stRow HXx.r2
      obtain ⟨b0, b1, b2⟩ := stRow HXx.r0
      have HK2 := Lib.hid hK
      have HX := Lib.hid hx
      clear hK h1 h2 hx
      go_simp
      first
        | (go_at_call 77; refine (FN.out _).mono ?_; rintro e y1 ⟨rfl, hb⟩; exact HK2.out _ (HX.out.quiet 0 (by rfl) hb))
        | exact HK2.out _ (HX.out.quiet 0 (by rfl) (Below.refl _ _))
    simp only [Act.put, List.setIfInBounds_toArray, List.set_cons_succ, List.set_cons_zero]
    refine Ghost.walk_yes (fun _ => undef) (fun γ => by rfl) ?_ ?_
    · intro γ L wx h1 h2 hx K hK
      have hA : L (⟨10, 12, 42, #[.int .u32 0, .int .u32 0], #[.int .u32 x1, .int .u32 x2]⟩ : Decl).al = true := h2 10 (by kernel_rfl)
      exact hx.wp_store (⟨10, 12, 42, #[.int .u32 0, .int .u32 0], #[.int .u32 x1, .int .u32 x2]⟩ : Decl) (decl_mem _) h1 hA _ _ rfl rfl rfl (by kernel_rfl) rfl (by kernel_rfl) (hK 0 _ (hx.store (⟨10, 12, 42, #[.int .u32 0, .int .u32 0], #[.int .u32 x1, .int .u32 x2]⟩ : Decl) (decl_mem _) hA (by rfl) (decl_st _) (decl_al _) 0))
    simp only [Act.put]
    refine Ghost.walk_nil (fun γ L w6 hall hD => ?_)
    obtain ⟨hg1, hg2, hb6⟩ := hD.done1 hall (by show 10 < 13; decide) (by show 12 < 13; decide)
    clear hall hD
    simp only [Nat.zero_add, Nat.reduceAdd] at hg1 hg2 ⊢
    generalize γ 10 = g2 at *
    have HB6 := Lib.hid (HBQ.out.make hg2 hb6)
    have HBQ2 := HBQ
    clear hb6 hg2 HBQ
    obtain ⟨c0, c1⟩ := csRow HB6.out.r0
    go_wp2_with fail
    clear c0 c1
    have hgl := (Array.getElem?_eq_some_iff.1 HB6.out.r1).1
    have hg2l := (Array.getElem?_eq_some_iff.1 HB6.out.r0).1
    have hgq : w.heap.size + 2 < g2 := by have := (Array.getElem?_eq_some_iff.1 HBQ2.out.r3).1; simp at this; omega
    refine Chain.chain (fun p wx => Put (w6) (w.heap.size + 2) (.cells (if p = 0 then #[.int .i64 0, .int .u32 0, .int .u32 0, .int .u32 0, .bool false, .bool false, .bool false, .int .u32 0, .int .u32 0] else #[.int .i64 (((0 : Nat) : Int) : Int), .int .u32 ((0 : Nat) : Int), .int .u32 ((0 : Nat) : Int), .int .u32 ((0 : Nat) : Int), .bool bc, .bool bu, .bool bd, .int .u32 (an : Nat), .int .u32 (bn : Nat)]) 120 (0, 0)) wx) (fun _ _ => False) [22] (by kernel_rfl) (by kernel_rfl) (fun _ _ _ _ h => h.elim) ((Put.start HB6.out.r4).drew) ?_
    iterate 22 (first
        | (apply Chain.walk_quiet (by rfl) (by decide)
           (intro p wx hp hwn hx K hK
            obtain ⟨b0, b1, b2⟩ := stRow ((hx.other g hgl (by omega)).trans HB6.out.r1)
            obtain ⟨c0, c1⟩ := csRow ((hx.other g2 hg2l (by omega)).trans HB6.out.r0)
            first
              | (go_simp
                 first
                  | (go_at_call 78; with_reducible refine (FH1.out _).mono ?_; rintro e y1 ⟨rfl, hb⟩; exact hK _ (hx.next hb))
                  | (go_at_call 78; with_reducible refine (FH2.out _).mono ?_; rintro e y1 ⟨rfl, hb⟩; exact hK _ (hx.next hb))
                  | (go_at_K; exact hK _ hx)))
           exact ⟨_, rfl⟩)
        | (refine Chain.walk_no (by rfl) (by decide) ?_; simp only [Act.put, List.setIfInBounds_toArray, List.set_cons_succ, List.set_cons_zero]))
    apply Chain.walk_turn 0 (by rfl) (by rfl)
    · intro wx hx K hK
      exact Put.store 120 _ _ rfl rfl rfl hx (by kernel_rfl) rfl (by kernel_rfl) (fun w2 h => hK w2 h)
    · exact ⟨undef, rfl⟩
    iterate 1 (
           apply Chain.walk_quiet (by rfl) (by decide)
           (intro p wx hp hwn hx K hK
            go_simp
            (go_at_K; exact hK _ hx))
           exact ⟨_, rfl⟩)
    refine Chain.walk_nil (fun w7 hb7 => ?_)
    replace hb7 : Put (w6) (w.heap.size + 2) (.cells #[.int .i64 (((0 : Nat) : Int) : Int), .int .u32 ((0 : Nat) : Int), .int .u32 ((0 : Nat) : Int), .int .u32 ((0 : Nat) : Int), .bool bc, .bool bu, .bool bd, .int .u32 (an : Nat), .int .u32 (bn : Nat)] 120 (0, 0)) w7 := hb7
    try simp only [Act.put, List.setIfInBounds_toArray, List.set_cons_succ, List.set_cons_zero]
    have hfin := HB6.out.below.trans (hb7.below (by omega) HB6.out.below.size)
    go_wp2_with fail
    exact bodyPost_ret (results_cellS Tryd.results68 _ _ _ _ _ rfl rfl rfl hb7.row) rfl ⟨rfl, hfin⟩
end Go.Proofs.YtnjcegkefjdgdaaDoor
