/- The law RigSafe: a car never leaves the building, moves by one floor at a time, and never moves or stands between floors with a door that is not closed, whatever it is told. No condition. -/
import Derived.Test.YtmfinebkikhceaaDecl1
import Derived.Test.YtmfinebkikhceaaRgSane
import Derived.Test.YtmfinebkikhceaaRgOpen
namespace Go.Proofs.Ytmfinebkikhceaa
open Go.RowKit Go.ChangeShapes Go.WideShapes Go.ChangeAt
set_option linter.unusedSimpArgs false
set_option linter.unusedVariables false

set_option maxRecDepth 100000 in
set_option maxHeartbeats 8000000 in
theorem lawRigSafe_walk (n0 : Int) (v : Value) (l : List Od) (w : World) (h0 : (Lit.int .u8 n0).wf = true) (hv : OV w v l) (_hlen : l.length ≤ maxLen) :
    Calls Try.prog 5 #[.int .u8 n0, v] w fun e w' => e = .returned (.bool true) ∧ Below w.heap.size w w' := by
  obtain ⟨n, rfl, hn⟩ := u8_nat h0
  clear h0
  obtain ⟨F, hFe, hF⟩ : ∃ F : Int, (2 : Int) + (n : Int) % 31 = F ∧ (2 ≤ F ∧ F ≤ 32) := ⟨_, rfl, by omega⟩
  obtain ⟨VA, vcap, rfl, hVA⟩ := hv
  have HVA := Lib.hid hVA
  have FN := Lib.hid (fun wx => sane16_any wx)
  clear hVA
  have HF := Lib.hid hF
  have HB0 : Hid (Bx w [] w) := Lib.hid ⟨Below.refl _ _, fun p hp => by simp at hp⟩
  by_cases hlen : 300 < l.length
  · have hli : (300 : Int) < (l.length : Int) := by omega
    clear hF
    go_enter Try.func5, Try.ntmps5
    go_wp2_with fail
    refine (FN.out _).mono ?_
    rintro e w1 ⟨rfl, hb1⟩
    have HB1 := Lib.hid (HB0.out.next hb1)
    clear hb1 HB0
    go_wp2_with fail
    go_ret
    exact ⟨rfl, HB1.out.below⟩
  have hli : ¬ (300 : Int) < (l.length : Int) := by omega
  have FW := Lib.hid (fun wx => rigNew_any 0 wx)
  rw [show (Rg.new 0).agg = .agg #[.int .i64 0, .int .i64 0, .int .i64 0, .int .i64 2, .int .i64 0, .int .i64 0] from rfl] at FW
  clear hF
  go_enter Try.func5, Try.ntmps5
  go_wp2_with fail
  refine (FW.out _).mono ?_
  rintro e w1 ⟨rfl, hb1⟩
  have HB1 := Lib.hid (HB0.out.next hb1)
  clear hb1 HB0
  go_wp2_with (with_reducible show wpList _ _ _ (Oper.mk _ (.store 23 _ _) _ _ _ _ :: _) _ _; refine Hid.out ?_)
  refine Lib.hid ?_
  have lw2 : w.heap.size ≤ w1.heap.size := HB1.out.below.size
  refine wpList_put rfl 23 _ _ rfl w1.heap.size #[.int .i64 0, .int .i64 0, .int .i64 0, .int .i64 2, .int .i64 0, .int .i64 0] _ 23 rfl rfl (heap_alloc_new w1 _) (by kernel_rfl) rfl (by kernel_rfl) ?_
  intro w2 hr2 hg2
  have HB2 : Hid (Bx w [(w1.heap.size, .cells #[.int .i64 0, .int .i64 0, .int .i64 0, .int .i64 2, .int .i64 0, .int .i64 0] 23 (0, 0))] w2) := Lib.hid ((HB1.out.make (heap_alloc_new w1 (.cells #[.int .i64 0, .int .i64 0, .int .i64 0, .int .i64 0, .int .i64 0, .int .i64 0] 23)) ((Below.refl w1.heap.size w1).alloc (Nat.le_refl _) _)).put HB1.out.below.size hg2.out hr2.out (by simp only [List.mem_cons, List.not_mem_nil, or_false]; rintro p rfl <;> simp <;> omega))
  clear hr2 hg2 HB1
  generalize w1.heap.size = gs at *
  go_wp2_with fail
  clear hFe hli
  go_loopw [7] (fun vi wr => ∃ (s : Rg) (i : Nat), vi = .int .i64 i ∧ i ≤ l.length ∧ Rg.Ok F s ∧ Bx w [(gs, .cells #[.int .i64 s.fl, .int .i64 s.tg, .int .i64 s.lf, .int .i64 s.dd, .int .i64 s.am, .int .i64 s.tk] 23 (0, 0))] wr) (fun vi _ => l.length - (intOf vi).toNat)
  case atStart => exact ⟨Rg.new 0, 0, rfl, Nat.zero_le _, Rg.new_ok HF.out (by have := HF.out; omega), HB2.out⟩
  case round =>
    obtain ⟨s, i, rfl, hil, hok, hbr⟩ := hrel
    have HOK := Lib.hid hok
    clear hok HB2
    by_cases hlt : i < l.length
    · have hok := Rg.anyF_good (m := (l[i]).cm) (t := (l[i]).ti) HOK.out
      have hnr := Rg.stepF_near (m := (l[i]).cm) (t := Rg.lim (l[i]).ti) HOK.out
      rw [← Rg.anyF_ok HOK.out] at hnr
      obtain ⟨s1, s2, s3, s4, s5, s6⟩ := s
      simp only at hbr
      have HBR := Lib.hid hbr
      clear hbr
      have hlti : (i : Int) < (l.length : Int) := by omega
      have hltB : decide ((i : Int) < (l.length : Int)) = true := decide_eq_true hlti
      obtain ⟨tb, toff, rfl, htb, k0, k1⟩ := HVA.out.at_ hlt
      generalize l[i] = od at *
      obtain ⟨cm, ti⟩ := od
      simp only at k0 k1 hok hnr
      have HTK := Lib.hid (fun (wx : World) (h : Below w.heap.size w wx) => (⟨(h.cell (p := ⟨tb, _, none⟩) htb).trans k0, (h.cell (p := ⟨tb, _, none⟩) htb).trans k1⟩ : wx.cell? ⟨tb, toff + i * 2, none⟩ = some (.int .i64 cm) ∧ wx.cell? ⟨tb, toff + i * 2 + 1, none⟩ = some (.int .i64 ti)))
      clear k0 k1 HVA
      have FS := Lib.hid (fun wx => rigStep_any F ⟨s1, s2, s3, s4, s5, s6⟩ cm ti wx)
      generalize Rg.anyF F ⟨s1, s2, s3, s4, s5, s6⟩ cm ti = X at *
      obtain ⟨a1, a2, a3, a4, a5, a6⟩ := X
      simp only [Rg.agg] at FS
      simp only at hnr
      have HOK2 := Lib.hid hok
      have hfl := hok.fl
      have hfs := HOK.out.fl
      have hst := hok.step
      simp only at hfl hfs hst
      have e1 : ¬ a1 < 0 := by omega
      have e2 : ¬ F ≤ a1 := by omega
      have wa : IntKind.i64.wrap (a1 - s1) = a1 - s1 := by rw [IntKind.wrap_i64]; have := HF.out; omega
      have wb : IntKind.i64.wrap (s1 - a1) = s1 - a1 := by rw [IntKind.wrap_i64]; have := HF.out; omega
      have e3 : ¬ 1 < a1 - s1 := by omega
      have e4 : ¬ 1 < s1 - a1 := by omega
      have hq1 : (a1 != s1) = false ∨ ((a1 != s1) = true ∧ (s4 != 2) = false ∧ (a4 != 2) = false) := by simp only [bne_eq_false_iff_eq, bne_iff_ne, ne_eq]; omega
      have hq2 : ¬ 0 < a3 ∨ (0 < a3 ∧ (a4 != 2) = false) := by simp only [bne_eq_false_iff_eq]; omega
      clear hok hfl hfs hst hnr
      go_wp2_with fail
      have q0 : gs < wr.heap.size := (Array.getElem?_eq_some_iff.1 HBR.out.r0).1
      refine Ghost.ghost (fun γ L wx => Decls (wr).heap.size (wr) [(⟨13, 14, 23, #[.int .i64 0, .int .i64 0, .int .i64 0, .int .i64 0, .int .i64 0, .int .i64 0], #[.int .i64 a1, .int .i64 a2, .int .i64 a3, .int .i64 a4, .int .i64 a5, .int .i64 a6]⟩ : Decl)] γ L wx) (by kernel_rfl) (by kernel_rfl) (fun γ => Decls.start _ γ (Below.refl _ _).drew (Nat.le_refl _)) ?_
      apply Ghost.walk_const (fun γ => by rfl)
      · intro γ L wx h1 h2 hx K hK
        have HXx := HBR.out.next hx.below
        have z0_0 : wx.cell? ⟨gs, 0, none⟩ = some (.int .i64 s1) := cell_of_row _ _ _ _ _ (0, 0) HXx.r0
        have z0_1 : wx.cell? ⟨gs, 1, none⟩ = some (.int .i64 s2) := cell_of_row _ _ _ _ _ (0, 0) HXx.r0
        have z0_2 : wx.cell? ⟨gs, 2, none⟩ = some (.int .i64 s3) := cell_of_row _ _ _ _ _ (0, 0) HXx.r0
        have z0_3 : wx.cell? ⟨gs, 3, none⟩ = some (.int .i64 s4) := cell_of_row _ _ _ _ _ (0, 0) HXx.r0
        have z0_4 : wx.cell? ⟨gs, 4, none⟩ = some (.int .i64 s5) := cell_of_row _ _ _ _ _ (0, 0) HXx.r0
        have z0_5 : wx.cell? ⟨gs, 5, none⟩ = some (.int .i64 s6) := cell_of_row _ _ _ _ _ (0, 0) HXx.r0
        obtain ⟨k0, k1⟩ := HTK.out wx HXx.below
        have HK2 := Lib.hid hK
        have HX := Lib.hid hx
        clear hK h1 h2 hx
        go_simp
        first
          | (go_at_call 10; (with_reducible refine (FS.out _).mono ?_); rintro e x1 ⟨rfl, hb⟩; exact HK2.out _ (HX.out.quiet 0 (by rfl) hb))
          | exact HK2.out _ (HX.out.quiet 0 (by rfl) (Below.refl _ _))
      simp only [Act.put, List.setIfInBounds_toArray, List.set_cons_succ, List.set_cons_zero]
      apply Ghost.walk_const (fun γ => by rfl)
      · intro γ L wx h1 h2 hx K hK
        have HXx := HBR.out.next hx.below
        have z0_0 : wx.cell? ⟨gs, 0, none⟩ = some (.int .i64 s1) := cell_of_row _ _ _ _ _ (0, 0) HXx.r0
        have z0_1 : wx.cell? ⟨gs, 1, none⟩ = some (.int .i64 s2) := cell_of_row _ _ _ _ _ (0, 0) HXx.r0
        have z0_2 : wx.cell? ⟨gs, 2, none⟩ = some (.int .i64 s3) := cell_of_row _ _ _ _ _ (0, 0) HXx.r0
        have z0_3 : wx.cell? ⟨gs, 3, none⟩ = some (.int .i64 s4) := cell_of_row _ _ _ _ _ (0, 0) HXx.r0
        have z0_4 : wx.cell? ⟨gs, 4, none⟩ = some (.int .i64 s5) := cell_of_row _ _ _ _ _ (0, 0) HXx.r0
        have z0_5 : wx.cell? ⟨gs, 5, none⟩ = some (.int .i64 s6) := cell_of_row _ _ _ _ _ (0, 0) HXx.r0
        obtain ⟨k0, k1⟩ := HTK.out wx HXx.below
        have HK2 := Lib.hid hK
        have HX := Lib.hid hx
        clear hK h1 h2 hx
        go_simp
        first
          | (go_at_call 10; (with_reducible refine (FS.out _).mono ?_); rintro e x1 ⟨rfl, hb⟩; exact HK2.out _ (HX.out.quiet 0 (by rfl) hb))
          | exact HK2.out _ (HX.out.quiet 0 (by rfl) (Below.refl _ _))
      simp only [Act.put, List.setIfInBounds_toArray, List.set_cons_succ, List.set_cons_zero]
      apply Ghost.walk_const (fun γ => by rfl)
      · intro γ L wx h1 h2 hx K hK
        have HXx := HBR.out.next hx.below
        have z0_0 : wx.cell? ⟨gs, 0, none⟩ = some (.int .i64 s1) := cell_of_row _ _ _ _ _ (0, 0) HXx.r0
        have z0_1 : wx.cell? ⟨gs, 1, none⟩ = some (.int .i64 s2) := cell_of_row _ _ _ _ _ (0, 0) HXx.r0
        have z0_2 : wx.cell? ⟨gs, 2, none⟩ = some (.int .i64 s3) := cell_of_row _ _ _ _ _ (0, 0) HXx.r0
        have z0_3 : wx.cell? ⟨gs, 3, none⟩ = some (.int .i64 s4) := cell_of_row _ _ _ _ _ (0, 0) HXx.r0
        have z0_4 : wx.cell? ⟨gs, 4, none⟩ = some (.int .i64 s5) := cell_of_row _ _ _ _ _ (0, 0) HXx.r0
        have z0_5 : wx.cell? ⟨gs, 5, none⟩ = some (.int .i64 s6) := cell_of_row _ _ _ _ _ (0, 0) HXx.r0
        obtain ⟨k0, k1⟩ := HTK.out wx HXx.below
        have HK2 := Lib.hid hK
        have HX := Lib.hid hx
        clear hK h1 h2 hx
        go_simp
        first
          | (go_at_call 10; (with_reducible refine (FS.out _).mono ?_); rintro e x1 ⟨rfl, hb⟩; exact HK2.out _ (HX.out.quiet 0 (by rfl) hb))
          | exact HK2.out _ (HX.out.quiet 0 (by rfl) (Below.refl _ _))
      simp only [Act.put, List.setIfInBounds_toArray, List.set_cons_succ, List.set_cons_zero]
      apply Ghost.walk_const (fun γ => by rfl)
      · intro γ L wx h1 h2 hx K hK
        have HXx := HBR.out.next hx.below
        have z0_0 : wx.cell? ⟨gs, 0, none⟩ = some (.int .i64 s1) := cell_of_row _ _ _ _ _ (0, 0) HXx.r0
        have z0_1 : wx.cell? ⟨gs, 1, none⟩ = some (.int .i64 s2) := cell_of_row _ _ _ _ _ (0, 0) HXx.r0
        have z0_2 : wx.cell? ⟨gs, 2, none⟩ = some (.int .i64 s3) := cell_of_row _ _ _ _ _ (0, 0) HXx.r0
        have z0_3 : wx.cell? ⟨gs, 3, none⟩ = some (.int .i64 s4) := cell_of_row _ _ _ _ _ (0, 0) HXx.r0
        have z0_4 : wx.cell? ⟨gs, 4, none⟩ = some (.int .i64 s5) := cell_of_row _ _ _ _ _ (0, 0) HXx.r0
        have z0_5 : wx.cell? ⟨gs, 5, none⟩ = some (.int .i64 s6) := cell_of_row _ _ _ _ _ (0, 0) HXx.r0
        obtain ⟨k0, k1⟩ := HTK.out wx HXx.below
        have HK2 := Lib.hid hK
        have HX := Lib.hid hx
        clear hK h1 h2 hx
        go_simp
        first
          | (go_at_call 10; (with_reducible refine (FS.out _).mono ?_); rintro e x1 ⟨rfl, hb⟩; exact HK2.out _ (HX.out.quiet 0 (by rfl) hb))
          | exact HK2.out _ (HX.out.quiet 0 (by rfl) (Below.refl _ _))
      simp only [Act.put, List.setIfInBounds_toArray, List.set_cons_succ, List.set_cons_zero]
      apply Ghost.walk_const (fun γ => by rfl)
      · intro γ L wx h1 h2 hx K hK
        have HXx := HBR.out.next hx.below
        have z0_0 : wx.cell? ⟨gs, 0, none⟩ = some (.int .i64 s1) := cell_of_row _ _ _ _ _ (0, 0) HXx.r0
        have z0_1 : wx.cell? ⟨gs, 1, none⟩ = some (.int .i64 s2) := cell_of_row _ _ _ _ _ (0, 0) HXx.r0
        have z0_2 : wx.cell? ⟨gs, 2, none⟩ = some (.int .i64 s3) := cell_of_row _ _ _ _ _ (0, 0) HXx.r0
        have z0_3 : wx.cell? ⟨gs, 3, none⟩ = some (.int .i64 s4) := cell_of_row _ _ _ _ _ (0, 0) HXx.r0
        have z0_4 : wx.cell? ⟨gs, 4, none⟩ = some (.int .i64 s5) := cell_of_row _ _ _ _ _ (0, 0) HXx.r0
        have z0_5 : wx.cell? ⟨gs, 5, none⟩ = some (.int .i64 s6) := cell_of_row _ _ _ _ _ (0, 0) HXx.r0
        obtain ⟨k0, k1⟩ := HTK.out wx HXx.below
        have HK2 := Lib.hid hK
        have HX := Lib.hid hx
        clear hK h1 h2 hx
        go_simp
        first
          | (go_at_call 10; (with_reducible refine (FS.out _).mono ?_); rintro e x1 ⟨rfl, hb⟩; exact HK2.out _ (HX.out.quiet 0 (by rfl) hb))
          | exact HK2.out _ (HX.out.quiet 0 (by rfl) (Below.refl _ _))
      simp only [Act.put, List.setIfInBounds_toArray, List.set_cons_succ, List.set_cons_zero]
      apply Ghost.walk_const (fun γ => by rfl)
      · intro γ L wx h1 h2 hx K hK
        have HXx := HBR.out.next hx.below
        have z0_0 : wx.cell? ⟨gs, 0, none⟩ = some (.int .i64 s1) := cell_of_row _ _ _ _ _ (0, 0) HXx.r0
        have z0_1 : wx.cell? ⟨gs, 1, none⟩ = some (.int .i64 s2) := cell_of_row _ _ _ _ _ (0, 0) HXx.r0
        have z0_2 : wx.cell? ⟨gs, 2, none⟩ = some (.int .i64 s3) := cell_of_row _ _ _ _ _ (0, 0) HXx.r0
        have z0_3 : wx.cell? ⟨gs, 3, none⟩ = some (.int .i64 s4) := cell_of_row _ _ _ _ _ (0, 0) HXx.r0
        have z0_4 : wx.cell? ⟨gs, 4, none⟩ = some (.int .i64 s5) := cell_of_row _ _ _ _ _ (0, 0) HXx.r0
        have z0_5 : wx.cell? ⟨gs, 5, none⟩ = some (.int .i64 s6) := cell_of_row _ _ _ _ _ (0, 0) HXx.r0
        obtain ⟨k0, k1⟩ := HTK.out wx HXx.below
        have HK2 := Lib.hid hK
        have HX := Lib.hid hx
        clear hK h1 h2 hx
        go_simp
        first
          | (go_at_call 10; (with_reducible refine (FS.out _).mono ?_); rintro e x1 ⟨rfl, hb⟩; exact HK2.out _ (HX.out.quiet 0 (by rfl) hb))
          | exact HK2.out _ (HX.out.quiet 0 (by rfl) (Below.refl _ _))
      simp only [Act.put, List.setIfInBounds_toArray, List.set_cons_succ, List.set_cons_zero]
      apply Ghost.walk_const (fun γ => by rfl)
      · intro γ L wx h1 h2 hx K hK
        have HXx := HBR.out.next hx.below
        have z0_0 : wx.cell? ⟨gs, 0, none⟩ = some (.int .i64 s1) := cell_of_row _ _ _ _ _ (0, 0) HXx.r0
        have z0_1 : wx.cell? ⟨gs, 1, none⟩ = some (.int .i64 s2) := cell_of_row _ _ _ _ _ (0, 0) HXx.r0
        have z0_2 : wx.cell? ⟨gs, 2, none⟩ = some (.int .i64 s3) := cell_of_row _ _ _ _ _ (0, 0) HXx.r0
        have z0_3 : wx.cell? ⟨gs, 3, none⟩ = some (.int .i64 s4) := cell_of_row _ _ _ _ _ (0, 0) HXx.r0
        have z0_4 : wx.cell? ⟨gs, 4, none⟩ = some (.int .i64 s5) := cell_of_row _ _ _ _ _ (0, 0) HXx.r0
        have z0_5 : wx.cell? ⟨gs, 5, none⟩ = some (.int .i64 s6) := cell_of_row _ _ _ _ _ (0, 0) HXx.r0
        obtain ⟨k0, k1⟩ := HTK.out wx HXx.below
        have HK2 := Lib.hid hK
        have HX := Lib.hid hx
        clear hK h1 h2 hx
        go_simp
        first
          | (go_at_call 10; (with_reducible refine (FS.out _).mono ?_); rintro e x1 ⟨rfl, hb⟩; exact HK2.out _ (HX.out.quiet 0 (by rfl) hb))
          | exact HK2.out _ (HX.out.quiet 0 (by rfl) (Below.refl _ _))
      simp only [Act.put, List.setIfInBounds_toArray, List.set_cons_succ, List.set_cons_zero]
      apply Ghost.walk_const (fun γ => by rfl)
      · intro γ L wx h1 h2 hx K hK
        have HXx := HBR.out.next hx.below
        have z0_0 : wx.cell? ⟨gs, 0, none⟩ = some (.int .i64 s1) := cell_of_row _ _ _ _ _ (0, 0) HXx.r0
        have z0_1 : wx.cell? ⟨gs, 1, none⟩ = some (.int .i64 s2) := cell_of_row _ _ _ _ _ (0, 0) HXx.r0
        have z0_2 : wx.cell? ⟨gs, 2, none⟩ = some (.int .i64 s3) := cell_of_row _ _ _ _ _ (0, 0) HXx.r0
        have z0_3 : wx.cell? ⟨gs, 3, none⟩ = some (.int .i64 s4) := cell_of_row _ _ _ _ _ (0, 0) HXx.r0
        have z0_4 : wx.cell? ⟨gs, 4, none⟩ = some (.int .i64 s5) := cell_of_row _ _ _ _ _ (0, 0) HXx.r0
        have z0_5 : wx.cell? ⟨gs, 5, none⟩ = some (.int .i64 s6) := cell_of_row _ _ _ _ _ (0, 0) HXx.r0
        obtain ⟨k0, k1⟩ := HTK.out wx HXx.below
        have HK2 := Lib.hid hK
        have HX := Lib.hid hx
        clear hK h1 h2 hx
        go_simp
        first
          | (go_at_call 10; (with_reducible refine (FS.out _).mono ?_); rintro e x1 ⟨rfl, hb⟩; exact HK2.out _ (HX.out.quiet 0 (by rfl) hb))
          | exact HK2.out _ (HX.out.quiet 0 (by rfl) (Below.refl _ _))
      simp only [Act.put, List.setIfInBounds_toArray, List.set_cons_succ, List.set_cons_zero]
      apply Ghost.walk_const (fun γ => by rfl)
      · intro γ L wx h1 h2 hx K hK
        have HXx := HBR.out.next hx.below
        have z0_0 : wx.cell? ⟨gs, 0, none⟩ = some (.int .i64 s1) := cell_of_row _ _ _ _ _ (0, 0) HXx.r0
        have z0_1 : wx.cell? ⟨gs, 1, none⟩ = some (.int .i64 s2) := cell_of_row _ _ _ _ _ (0, 0) HXx.r0
        have z0_2 : wx.cell? ⟨gs, 2, none⟩ = some (.int .i64 s3) := cell_of_row _ _ _ _ _ (0, 0) HXx.r0
        have z0_3 : wx.cell? ⟨gs, 3, none⟩ = some (.int .i64 s4) := cell_of_row _ _ _ _ _ (0, 0) HXx.r0
        have z0_4 : wx.cell? ⟨gs, 4, none⟩ = some (.int .i64 s5) := cell_of_row _ _ _ _ _ (0, 0) HXx.r0
        have z0_5 : wx.cell? ⟨gs, 5, none⟩ = some (.int .i64 s6) := cell_of_row _ _ _ _ _ (0, 0) HXx.r0
        obtain ⟨k0, k1⟩ := HTK.out wx HXx.below
        have HK2 := Lib.hid hK
        have HX := Lib.hid hx
        clear hK h1 h2 hx
        go_simp
        first
          | (go_at_call 10; (with_reducible refine (FS.out _).mono ?_); rintro e x1 ⟨rfl, hb⟩; exact HK2.out _ (HX.out.quiet 0 (by rfl) hb))
          | exact HK2.out _ (HX.out.quiet 0 (by rfl) (Below.refl _ _))
      simp only [Act.put, List.setIfInBounds_toArray, List.set_cons_succ, List.set_cons_zero]
      apply Ghost.walk_const (fun γ => by rfl)
      · intro γ L wx h1 h2 hx K hK
        have HXx := HBR.out.next hx.below
        have z0_0 : wx.cell? ⟨gs, 0, none⟩ = some (.int .i64 s1) := cell_of_row _ _ _ _ _ (0, 0) HXx.r0
        have z0_1 : wx.cell? ⟨gs, 1, none⟩ = some (.int .i64 s2) := cell_of_row _ _ _ _ _ (0, 0) HXx.r0
        have z0_2 : wx.cell? ⟨gs, 2, none⟩ = some (.int .i64 s3) := cell_of_row _ _ _ _ _ (0, 0) HXx.r0
        have z0_3 : wx.cell? ⟨gs, 3, none⟩ = some (.int .i64 s4) := cell_of_row _ _ _ _ _ (0, 0) HXx.r0
        have z0_4 : wx.cell? ⟨gs, 4, none⟩ = some (.int .i64 s5) := cell_of_row _ _ _ _ _ (0, 0) HXx.r0
        have z0_5 : wx.cell? ⟨gs, 5, none⟩ = some (.int .i64 s6) := cell_of_row _ _ _ _ _ (0, 0) HXx.r0
        obtain ⟨k0, k1⟩ := HTK.out wx HXx.below
        have HK2 := Lib.hid hK
        have HX := Lib.hid hx
        clear hK h1 h2 hx
        go_simp
        first
          | (go_at_call 10; (with_reducible refine (FS.out _).mono ?_); rintro e x1 ⟨rfl, hb⟩; exact HK2.out _ (HX.out.quiet 0 (by rfl) hb))
          | exact HK2.out _ (HX.out.quiet 0 (by rfl) (Below.refl _ _))
      simp only [Act.put, List.setIfInBounds_toArray, List.set_cons_succ, List.set_cons_zero]
      apply Ghost.walk_const (fun γ => by rfl)
      · intro γ L wx h1 h2 hx K hK
        have HXx := HBR.out.next hx.below
        have z0_0 : wx.cell? ⟨gs, 0, none⟩ = some (.int .i64 s1) := cell_of_row _ _ _ _ _ (0, 0) HXx.r0
        have z0_1 : wx.cell? ⟨gs, 1, none⟩ = some (.int .i64 s2) := cell_of_row _ _ _ _ _ (0, 0) HXx.r0
        have z0_2 : wx.cell? ⟨gs, 2, none⟩ = some (.int .i64 s3) := cell_of_row _ _ _ _ _ (0, 0) HXx.r0
        have z0_3 : wx.cell? ⟨gs, 3, none⟩ = some (.int .i64 s4) := cell_of_row _ _ _ _ _ (0, 0) HXx.r0
        have z0_4 : wx.cell? ⟨gs, 4, none⟩ = some (.int .i64 s5) := cell_of_row _ _ _ _ _ (0, 0) HXx.r0
        have z0_5 : wx.cell? ⟨gs, 5, none⟩ = some (.int .i64 s6) := cell_of_row _ _ _ _ _ (0, 0) HXx.r0
        obtain ⟨k0, k1⟩ := HTK.out wx HXx.below
        have HK2 := Lib.hid hK
        have HX := Lib.hid hx
        clear hK h1 h2 hx
        go_simp
        first
          | (go_at_call 10; (with_reducible refine (FS.out _).mono ?_); rintro e x1 ⟨rfl, hb⟩; exact HK2.out _ (HX.out.quiet 0 (by rfl) hb))
          | exact HK2.out _ (HX.out.quiet 0 (by rfl) (Below.refl _ _))
      simp only [Act.put, List.setIfInBounds_toArray, List.set_cons_succ, List.set_cons_zero]
      apply Ghost.walk_const (fun γ => by rfl)
      · intro γ L wx h1 h2 hx K hK
        have HXx := HBR.out.next hx.below
        have z0_0 : wx.cell? ⟨gs, 0, none⟩ = some (.int .i64 s1) := cell_of_row _ _ _ _ _ (0, 0) HXx.r0
        have z0_1 : wx.cell? ⟨gs, 1, none⟩ = some (.int .i64 s2) := cell_of_row _ _ _ _ _ (0, 0) HXx.r0
        have z0_2 : wx.cell? ⟨gs, 2, none⟩ = some (.int .i64 s3) := cell_of_row _ _ _ _ _ (0, 0) HXx.r0
        have z0_3 : wx.cell? ⟨gs, 3, none⟩ = some (.int .i64 s4) := cell_of_row _ _ _ _ _ (0, 0) HXx.r0
        have z0_4 : wx.cell? ⟨gs, 4, none⟩ = some (.int .i64 s5) := cell_of_row _ _ _ _ _ (0, 0) HXx.r0
        have z0_5 : wx.cell? ⟨gs, 5, none⟩ = some (.int .i64 s6) := cell_of_row _ _ _ _ _ (0, 0) HXx.r0
        obtain ⟨k0, k1⟩ := HTK.out wx HXx.below
        have HK2 := Lib.hid hK
        have HX := Lib.hid hx
        clear hK h1 h2 hx
        go_simp
        first
          | (go_at_call 10; (with_reducible refine (FS.out _).mono ?_); rintro e x1 ⟨rfl, hb⟩; exact HK2.out _ (HX.out.quiet 0 (by rfl) hb))
          | exact HK2.out _ (HX.out.quiet 0 (by rfl) (Below.refl _ _))
      simp only [Act.put, List.setIfInBounds_toArray, List.set_cons_succ, List.set_cons_zero]
      apply Ghost.walk_const (fun γ => by rfl)
      · intro γ L wx h1 h2 hx K hK
        have HXx := HBR.out.next hx.below
        have z0_0 : wx.cell? ⟨gs, 0, none⟩ = some (.int .i64 s1) := cell_of_row _ _ _ _ _ (0, 0) HXx.r0
        have z0_1 : wx.cell? ⟨gs, 1, none⟩ = some (.int .i64 s2) := cell_of_row _ _ _ _ _ (0, 0) HXx.r0
        have z0_2 : wx.cell? ⟨gs, 2, none⟩ = some (.int .i64 s3) := cell_of_row _ _ _ _ _ (0, 0) HXx.r0
        have z0_3 : wx.cell? ⟨gs, 3, none⟩ = some (.int .i64 s4) := cell_of_row _ _ _ _ _ (0, 0) HXx.r0
        have z0_4 : wx.cell? ⟨gs, 4, none⟩ = some (.int .i64 s5) := cell_of_row _ _ _ _ _ (0, 0) HXx.r0
        have z0_5 : wx.cell? ⟨gs, 5, none⟩ = some (.int .i64 s6) := cell_of_row _ _ _ _ _ (0, 0) HXx.r0
        obtain ⟨k0, k1⟩ := HTK.out wx HXx.below
        have HK2 := Lib.hid hK
        have HX := Lib.hid hx
        clear hK h1 h2 hx
        go_simp
        first
          | (go_at_call 10; (with_reducible refine (FS.out _).mono ?_); rintro e x1 ⟨rfl, hb⟩; exact HK2.out _ (HX.out.quiet 0 (by rfl) hb))
          | exact HK2.out _ (HX.out.quiet 0 (by rfl) (Below.refl _ _))
      simp only [Act.put, List.setIfInBounds_toArray, List.set_cons_succ, List.set_cons_zero]
      refine Ghost.walk_yes (fun b => .pointer (some ⟨b, 0, none⟩)) (fun γ => by rfl) ?_ ?_
      · intro γ L wx h1 h2 hx K hK
        have HK2 := Lib.hid hK
        clear hK h2
        have hL : L (⟨13, 14, 23, #[.int .i64 0, .int .i64 0, .int .i64 0, .int .i64 0, .int .i64 0, .int .i64 0], #[.int .i64 a1, .int .i64 a2, .int .i64 a3, .int .i64 a4, .int .i64 a5, .int .i64 a6]⟩ : Decl).al = false := h1
        clear h1
        go_simp
        exact HK2.out wx.heap.size _ (hx.alloc (⟨13, 14, 23, #[.int .i64 0, .int .i64 0, .int .i64 0, .int .i64 0, .int .i64 0, .int .i64 0], #[.int .i64 a1, .int .i64 a2, .int .i64 a3, .int .i64 a4, .int .i64 a5, .int .i64 a6]⟩ : Decl) (decl_mem _) hL (by rfl) (decl_al _))
      simp only [Act.put, List.setIfInBounds_toArray, List.set_cons_succ, List.set_cons_zero]
      refine Ghost.walk_yes (fun _ => undef) (fun γ => by rfl) ?_ ?_
      · intro γ L wx h1 h2 hx K hK
        have hA : L (⟨13, 14, 23, #[.int .i64 0, .int .i64 0, .int .i64 0, .int .i64 0, .int .i64 0, .int .i64 0], #[.int .i64 a1, .int .i64 a2, .int .i64 a3, .int .i64 a4, .int .i64 a5, .int .i64 a6]⟩ : Decl).al = true := h2 13 (by kernel_rfl)
        exact hx.wp_store (⟨13, 14, 23, #[.int .i64 0, .int .i64 0, .int .i64 0, .int .i64 0, .int .i64 0, .int .i64 0], #[.int .i64 a1, .int .i64 a2, .int .i64 a3, .int .i64 a4, .int .i64 a5, .int .i64 a6]⟩ : Decl) (decl_mem _) h1 hA _ _ rfl rfl rfl (by kernel_rfl) rfl (by kernel_rfl) (hK 0 _ (hx.store (⟨13, 14, 23, #[.int .i64 0, .int .i64 0, .int .i64 0, .int .i64 0, .int .i64 0, .int .i64 0], #[.int .i64 a1, .int .i64 a2, .int .i64 a3, .int .i64 a4, .int .i64 a5, .int .i64 a6]⟩ : Decl) (decl_mem _) hA (by rfl) (decl_st _) (decl_al _) 0))
      simp only [Act.put]
      refine Ghost.walk_nil (fun γ L w3 hall hD => ?_)
      obtain ⟨hd3, hr3, hb3⟩ := hD.done1 hall (by show 13 < 15; decide) (by show 14 < 15; decide)
      clear hall hD
      simp only [Nat.zero_add, Nat.reduceAdd] at hd3 hr3 ⊢
      generalize γ 13 = gt at *
      have HB3 := Lib.hid (HBR.out.make hr3 hb3)
      have l3_0 : gs < gt := by omega
      have lw3 : w.heap.size ≤ gt := by have := HBR.out.below.size; omega
      clear hd3 hr3 hb3 HBR q0
      have c0_0 : w3.cell? ⟨gt, 0, none⟩ = some (.int .i64 a1) := cell_of_row _ _ _ _ _ (0, 0) HB3.out.r0
      have c0_1 : w3.cell? ⟨gt, 1, none⟩ = some (.int .i64 a2) := cell_of_row _ _ _ _ _ (0, 0) HB3.out.r0
      have c0_2 : w3.cell? ⟨gt, 2, none⟩ = some (.int .i64 a3) := cell_of_row _ _ _ _ _ (0, 0) HB3.out.r0
      have c0_3 : w3.cell? ⟨gt, 3, none⟩ = some (.int .i64 a4) := cell_of_row _ _ _ _ _ (0, 0) HB3.out.r0
      have c0_4 : w3.cell? ⟨gt, 4, none⟩ = some (.int .i64 a5) := cell_of_row _ _ _ _ _ (0, 0) HB3.out.r0
      have c0_5 : w3.cell? ⟨gt, 5, none⟩ = some (.int .i64 a6) := cell_of_row _ _ _ _ _ (0, 0) HB3.out.r0
      have c1_0 : w3.cell? ⟨gs, 0, none⟩ = some (.int .i64 s1) := cell_of_row _ _ _ _ _ (0, 0) HB3.out.r1
      have c1_1 : w3.cell? ⟨gs, 1, none⟩ = some (.int .i64 s2) := cell_of_row _ _ _ _ _ (0, 0) HB3.out.r1
      have c1_2 : w3.cell? ⟨gs, 2, none⟩ = some (.int .i64 s3) := cell_of_row _ _ _ _ _ (0, 0) HB3.out.r1
      have c1_3 : w3.cell? ⟨gs, 3, none⟩ = some (.int .i64 s4) := cell_of_row _ _ _ _ _ (0, 0) HB3.out.r1
      have c1_4 : w3.cell? ⟨gs, 4, none⟩ = some (.int .i64 s5) := cell_of_row _ _ _ _ _ (0, 0) HB3.out.r1
      have c1_5 : w3.cell? ⟨gs, 5, none⟩ = some (.int .i64 s6) := cell_of_row _ _ _ _ _ (0, 0) HB3.out.r1
      rcases hq1 with p1 | ⟨p1, p2, p3⟩
      all_goals rcases hq2 with r1 | ⟨r1, r2⟩
      · skip
        go_wp2_with (with_reducible show wpList _ _ _ (Oper.mk _ (.store 23 _ _) _ _ _ _ :: _) _ _; refine Hid.out ?_)
        refine Lib.hid ?_
        refine wpList_put rfl 23 _ _ rfl (gs) #[.int .i64 a1, .int .i64 a2, .int .i64 a3, .int .i64 a4, .int .i64 a5, .int .i64 a6] _ 23 rfl rfl HB3.out.r1 (by kernel_rfl) rfl (by kernel_rfl) ?_
        intro w4 hr4 hg4
        have HB4 : Hid (Bx w [(gt, .cells #[.int .i64 a1, .int .i64 a2, .int .i64 a3, .int .i64 a4, .int .i64 a5, .int .i64 a6] 23 (0, 0)), (gs, .cells #[.int .i64 a1, .int .i64 a2, .int .i64 a3, .int .i64 a4, .int .i64 a5, .int .i64 a6] 23 (0, 0))] w4) := Lib.hid (HB3.out.put (by omega) hg4.out hr4.out (by simp only [List.mem_cons, List.not_mem_nil, or_false]; rintro p (rfl | rfl) <;> simp <;> omega))
        clear c0_0 c0_1 c0_2 c0_3 c0_4 c0_5 c1_0 c1_1 c1_2 c1_3 c1_4 c1_5 hr4 hg4 HB3
        go_wp2_with fail
        go_roundw
        case rel => exact ⟨⟨a1, a2, a3, a4, a5, a6⟩, i + 1, by go_num, by omega, HOK2.out, (HB4.out.less (by simp only [List.mem_cons, List.not_mem_nil, or_false]; rintro p (rfl | rfl) <;> simp))⟩
        case measure => simp [intOf]; omega
      · skip
        go_wp2_with (with_reducible show wpList _ _ _ (Oper.mk _ (.store 23 _ _) _ _ _ _ :: _) _ _; refine Hid.out ?_)
        refine Lib.hid ?_
        refine wpList_put rfl 23 _ _ rfl (gs) #[.int .i64 a1, .int .i64 a2, .int .i64 a3, .int .i64 a4, .int .i64 a5, .int .i64 a6] _ 23 rfl rfl HB3.out.r1 (by kernel_rfl) rfl (by kernel_rfl) ?_
        intro w4 hr4 hg4
        have HB4 : Hid (Bx w [(gt, .cells #[.int .i64 a1, .int .i64 a2, .int .i64 a3, .int .i64 a4, .int .i64 a5, .int .i64 a6] 23 (0, 0)), (gs, .cells #[.int .i64 a1, .int .i64 a2, .int .i64 a3, .int .i64 a4, .int .i64 a5, .int .i64 a6] 23 (0, 0))] w4) := Lib.hid (HB3.out.put (by omega) hg4.out hr4.out (by simp only [List.mem_cons, List.not_mem_nil, or_false]; rintro p (rfl | rfl) <;> simp <;> omega))
        clear c0_0 c0_1 c0_2 c0_3 c0_4 c0_5 c1_0 c1_1 c1_2 c1_3 c1_4 c1_5 hr4 hg4 HB3
        go_wp2_with fail
        go_roundw
        case rel => exact ⟨⟨a1, a2, a3, a4, a5, a6⟩, i + 1, by go_num, by omega, HOK2.out, (HB4.out.less (by simp only [List.mem_cons, List.not_mem_nil, or_false]; rintro p (rfl | rfl) <;> simp))⟩
        case measure => simp [intOf]; omega
      · skip
        go_wp2_with (with_reducible show wpList _ _ _ (Oper.mk _ (.store 23 _ _) _ _ _ _ :: _) _ _; refine Hid.out ?_)
        refine Lib.hid ?_
        refine wpList_put rfl 23 _ _ rfl (gs) #[.int .i64 a1, .int .i64 a2, .int .i64 a3, .int .i64 a4, .int .i64 a5, .int .i64 a6] _ 23 rfl rfl HB3.out.r1 (by kernel_rfl) rfl (by kernel_rfl) ?_
        intro w4 hr4 hg4
        have HB4 : Hid (Bx w [(gt, .cells #[.int .i64 a1, .int .i64 a2, .int .i64 a3, .int .i64 a4, .int .i64 a5, .int .i64 a6] 23 (0, 0)), (gs, .cells #[.int .i64 a1, .int .i64 a2, .int .i64 a3, .int .i64 a4, .int .i64 a5, .int .i64 a6] 23 (0, 0))] w4) := Lib.hid (HB3.out.put (by omega) hg4.out hr4.out (by simp only [List.mem_cons, List.not_mem_nil, or_false]; rintro p (rfl | rfl) <;> simp <;> omega))
        clear c0_0 c0_1 c0_2 c0_3 c0_4 c0_5 c1_0 c1_1 c1_2 c1_3 c1_4 c1_5 hr4 hg4 HB3
        go_wp2_with fail
        go_roundw
        case rel => exact ⟨⟨a1, a2, a3, a4, a5, a6⟩, i + 1, by go_num, by omega, HOK2.out, (HB4.out.less (by simp only [List.mem_cons, List.not_mem_nil, or_false]; rintro p (rfl | rfl) <;> simp))⟩
        case measure => simp [intOf]; omega
      · skip
        go_wp2_with (with_reducible show wpList _ _ _ (Oper.mk _ (.store 23 _ _) _ _ _ _ :: _) _ _; refine Hid.out ?_)
        refine Lib.hid ?_
        refine wpList_put rfl 23 _ _ rfl (gs) #[.int .i64 a1, .int .i64 a2, .int .i64 a3, .int .i64 a4, .int .i64 a5, .int .i64 a6] _ 23 rfl rfl HB3.out.r1 (by kernel_rfl) rfl (by kernel_rfl) ?_
        intro w4 hr4 hg4
        have HB4 : Hid (Bx w [(gt, .cells #[.int .i64 a1, .int .i64 a2, .int .i64 a3, .int .i64 a4, .int .i64 a5, .int .i64 a6] 23 (0, 0)), (gs, .cells #[.int .i64 a1, .int .i64 a2, .int .i64 a3, .int .i64 a4, .int .i64 a5, .int .i64 a6] 23 (0, 0))] w4) := Lib.hid (HB3.out.put (by omega) hg4.out hr4.out (by simp only [List.mem_cons, List.not_mem_nil, or_false]; rintro p (rfl | rfl) <;> simp <;> omega))
        clear c0_0 c0_1 c0_2 c0_3 c0_4 c0_5 c1_0 c1_1 c1_2 c1_3 c1_4 c1_5 hr4 hg4 HB3
        go_wp2_with fail
        go_roundw
        case rel => exact ⟨⟨a1, a2, a3, a4, a5, a6⟩, i + 1, by go_num, by omega, HOK2.out, (HB4.out.less (by simp only [List.mem_cons, List.not_mem_nil, or_false]; rintro p (rfl | rfl) <;> simp))⟩
        case measure => simp [intOf]; omega
    · obtain rfl : i = l.length := by omega
      have HBR := Lib.hid hbr
      clear hbr hlt
      have hlti : ¬ (l.length : Int) < (l.length : Int) := by omega
      have hltB : decide ((l.length : Int) < (l.length : Int)) = false := decide_eq_false hlti
      go_wp2_with fail
      refine (FN.out _).mono ?_
      rintro e w81 ⟨rfl, hb81⟩
      have HB81 := Lib.hid (HBR.out.next hb81)
      clear hb81 HBR
      go_wp2_with fail
      go_ret
      exact ⟨rfl, HB81.out.below⟩
set_option maxRecDepth 100000 in
theorem lawRigSafe_lifted (os : Os) (started : os.Started) (H : Type) (enc : TypeId × Value → H) :
    ReturnsInHanded {} Try.checked os 5 .any (Rows.rigSafeSpec.pre6 enc Try.prog Try.f5 Rows.rigSafeRow.domain false) (Rows.rigSafeSpec.post enc Try.prog Try.f5 false true false false) := by
  refine returnsInHanded_of_change (C := Try.checked) own started (by kernel_rfl) Try.func5
    (ChangeSpec.witness6 (enc := enc) (C := Try.checked) false ⟨#[], #[.int .u8 0, .slice none 0 0], []⟩ 8 (by kernel_rfl) (by kernel_rfl) (by kernel_rfl) (by kernel_rfl)) ?_
  intro W base args ds gs before hval0 hW hcnd _
  have hval : ∀ (j : Nat) t v, Try.f5.params[j]? = some t → args[j]? = some v → Value.okWide Try.prog W .any base t v := hval0
  have hW' := hW
  obtain ⟨p, q, hA0, hV, rfl, hfz, hnd⟩ := hW
  have hA : DataW.TrodAll enc Try.prog W 0 (fun _ => true) true Try.f5.params.toList args.toList ds p := hA0
  rw [Try.params5] at hA hval
  obtain ⟨v0, vs0, d0, ds0, p0, q0, hargs, rfl, rfl, h0, r0⟩ := trodAll_cons hA
  obtain ⟨v1, vs1, d1, ds1, p1, q1, rfl, rfl, rfl, h1, r1⟩ := trodAll_cons r0
  obtain ⟨rfl, rfl, rfl⟩ := trodAll_nil r1
  obtain rfl : args = #[v0, v1] := by cases args; simp_all
  obtain ⟨rfl, rfl⟩ := trodVars_none hV
  obtain ⟨x0, rfl, rfl, rfl, g0⟩ := open_int Try.underlying5 (hval 0 5 v0 rfl rfl) h0
  have k1 := h1
  have lt1 : ∀ x ∈ p1, x.block < W.heap.size := by obtain ⟨m, hm⟩ := k1; exact DataW.trod_lt m _ _ _ hm
  obtain ⟨a1, l1, c1, rfl⟩ := okWide_slice Try.underlying24 (hval 1 24 v1 rfl rfl)
  obtain ⟨fuel1, hf1⟩ := h1
  obtain ⟨x1, g1, m1⟩ := open_ods hf1
  clear hA0 hval0
  refine (lawRigSafe_walk x0 _ x1 W g0 g1 m1).mono fun e W' ⟨he, bel⟩ => ?_
  subst he
  exact ⟨_, rfl, _, _, _, [], _, [], hW', trodAll_mk1 (shut_bool Try.underlying4 _), (trodAll_cons_mk (shut_int Try.underlying5 g0) (trodAll_cons_mk (Below.trod laidOut (by kernel_rfl) (of_decide_eq_true (by kernel_rfl)) k1 bel lt1) trodAll_mk0)), rfl, bel.frame _, fun h => by cases h⟩

theorem lawRigSafe_over : Rows.rigSafeRow.holds Try.pinned (OpenSpec.ofChange Rows.rigSafeSpec) :=
  OpenClaim.holds_of_wide 5 Try.f5 rfl rfl rfl rfl rfl rfl rfl ⟨rfl, rfl, rfl, rfl, rfl⟩ rfl rfl rfl rfl rfl (by kernel_rfl) Try.func5 (by kernel_rfl)
    (of_decide_eq_true (by kernel_rfl)) (by unfold Func.isWrapper; first | (rw [if_pos (by decide +kernel)]; kernel_rfl) | (rw [if_neg (by decide +kernel)]; exact ⟨rfl, rfl⟩))
    (fun os started H enc _ => lawRigSafe_lifted os started H enc)

theorem rigSafe_holds : Rows.RigSafeSaid := lawRigSafe_over
#print axioms rigSafe_holds
end Go.Proofs.Ytmfinebkikhceaa
