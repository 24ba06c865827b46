/- The choices of every place: the walk. No statement of the seat is proved here. -/
import Derived.Test.YtfbmaocedicelaaDoorCvFew
namespace Go.Proofs.YtfbmaocedicelaaDoor
open Go.RowKit Ghost GhostV Go.ChangeShapes Go.WideShapes Go.ChangeAt Go.Deep

theorem bit_o0 {o : Nat} (ho : o ≤ 7) : bits .and .i64 (o : Int) 1 = if o.testBit 0 = true then 1 else 0 := by
  have := (by decide +kernel : ∀ o : Fin 8, bits .and .i64 (o.val : Int) 1 = if o.val.testBit 0 = true then 1 else 0) ⟨o, by omega⟩
  exact this
theorem bit_o1 {o : Nat} (ho : o ≤ 7) : bits .and .i64 ((o : Int) / (2 : Int)) 1 = if o.testBit 1 = true then 1 else 0 := by
  have := (by decide +kernel : ∀ o : Fin 8, bits .and .i64 ((o.val : Int) / (2 : Int)) 1 = if o.val.testBit 1 = true then 1 else 0) ⟨o, by omega⟩
  exact this
theorem bit_o2 {o : Nat} (ho : o ≤ 7) : bits .and .i64 ((o : Int) / (4 : Int)) 1 = if o.testBit 2 = true then 1 else 0 := by
  have := (by decide +kernel : ∀ o : Fin 8, bits .and .i64 ((o.val : Int) / (4 : Int)) 1 = if o.val.testBit 2 = true then 1 else 0) ⟨o, by omega⟩
  exact this
theorem bx2 (w : World) (A B : Obj) : Bx w [(w.heap.size + 1, B)] ((w.alloc A).alloc B) := by
  have h := heap_alloc_new (w.alloc A) B
  have hs : (w.alloc A).heap.size = w.heap.size + 1 := by simp
  rw [hs] at h
  refine ⟨(((Below.refl w.heap.size w).alloc (Nat.le_refl _) A).alloc (by simp) B), fun p hp => ?_⟩
  simp only [List.mem_cons, List.not_mem_nil, or_false] at hp
  rw [hp]; exact h
set_option maxRecDepth 100000 in
set_option maxHeartbeats 16000000 in
theorem lawMoves_nat (n : Nat) (p1 p2 p3 : Int) (s : Stp) (w : World) (hn : n < 256) (hs : s.ok) (hT : Tabs w) :
    Calls Tryd.prog 4 #[.int .u8 n, .agg #[.int .i64 p1, .int .i64 p2, .int .i64 p3], s.agg] w fun e w' => e = .returned (.bool true) ∧ Below w.heap.size w w' := by
  have FSA := Lib.hid (fun wx (hb : Below w.heap.size w wx) => sane11_any wx (hT.below hb))
  obtain ⟨F, hFe⟩ : ∃ F : Nat, F = 2 + n % 31 := ⟨_, rfl⟩
  have hF2 : 2 ≤ F := by omega
  have hF32 : F ≤ 32 := by omega
  have eF : (2 : Int) + (n : Int) % 31 = (F : Int) := by omega
  obtain ⟨f, hfF, ef⟩ := uint_mod p3 F (by omega) (by omega)
  have FW := Lib.hid (fun wx => few_any 3 (by decide) s wx hs)
  have hf3 := fewF_ok hs (2 ^ 3 - 1)
  have ha1 := u32_and_nat s.car s.h.up hs.1 hs.2.1
  have ha2 := u32_and_nat s.h.dn s.car hs.2.2 hs.1
  have hx3 : Stp.ok ⟨s.car &&& s.h.up, ⟨0, s.h.dn &&& s.car⟩⟩ := ⟨Cs.and_lt hs.1, by show (0 : Nat) < 4294967296; decide, Cs.and_lt hs.2.2⟩
  have HXO : Hid (∀ c ∈ [s, fewF s (2 ^ 3 - 1), ⟨s.car &&& s.h.up, ⟨0, s.h.dn &&& s.car⟩⟩], c.ok) := Lib.hid (by simp only [List.mem_cons, List.not_mem_nil, or_false]; rintro c (rfl | rfl | rfl); exact hs; exact hf3; exact hx3)
  have HL3 := Lib.hid (show [s, fewF s (2 ^ 3 - 1), ⟨s.car &&& s.h.up, ⟨0, s.h.dn &&& s.car⟩⟩].length = 3 from rfl)
  have HSV := Lib.hid (fun (wx : World) => sv_new wx s (fewF s (2 ^ 3 - 1)) ⟨s.car &&& s.h.up, ⟨0, s.h.dn &&& s.car⟩⟩)
  generalize hxs : [s, fewF s (2 ^ 3 - 1), ⟨s.car &&& s.h.up, ⟨0, s.h.dn &&& s.car⟩⟩] = xs at *
  clear hxs hf3 hx3 hs
  generalize fewF s (2 ^ 3 - 1) = fw at *
  obtain ⟨f0, ⟨f1, f2⟩⟩ := fw
  obtain ⟨s0, ⟨s1, s2⟩⟩ := s
  simp only [Stp.agg] at *
  generalize s0 &&& s1 = a1 at *
  generalize s2 &&& s0 = a2 at *
  clear hFe
  go_enter Tryd.func4, Tryd.ntmps4
  go_wp2_with fail
  simp only [eF, ef]
  clear eF ef hn
  have HST := Lib.hid (bx2 w (.cells #[.int .i64 p1, .int .i64 p2, .int .i64 p3] 25) (.cells #[.int .u32 s0, .int .u32 s1, .int .u32 s2] 30))
  go_loopw [9] (fun vd wr => ∃ d : Nat, d ≤ 3 ∧ vd = .int .i64 (d : Int) ∧ Bx w [(w.heap.size + 1, .cells #[.int .u32 s0, .int .u32 s1, .int .u32 s2] 30 (0, 0))] wr) (fun vd _ => 3 - (intOf vd).toNat)
  case atStart => exact ⟨0, by omega, rfl, HST.out⟩
  case round =>
    obtain ⟨d, hd3, rfl, hbx⟩ := hrel
    have HB0 := Lib.hid hbx
    clear hbx HST
    by_cases hdl : d < 3
    · have hdd : decide ((d : Int) < 3) = true := decide_eq_true (by omega)
      have hd1 : IntKind.i64.wrap ((d : Int) + 1) = (d : Int) + 1 := by rw [IntKind.wrap_i64]; omega
      go_wp2_with fail
      go_loopw [10] (fun vo wr => ∃ o : Nat, o ≤ 8 ∧ vo = .int .i64 (o : Int) ∧ Bx w [(w.heap.size + 1, .cells #[.int .u32 s0, .int .u32 s1, .int .u32 s2] 30 (0, 0))] wr) (fun vo _ => 8 - (intOf vo).toNat)
      case atStart => exact ⟨0, by omega, rfl, HB0.out⟩
      case round =>
        obtain ⟨o, ho8, rfl, hbx⟩ := hrel
        have HB1 := Lib.hid hbx
        clear hbx HB0
        by_cases hol : o < 8
        · have hoo : decide ((o : Int) < 8) = true := decide_eq_true (by omega)
          have ho1 : IntKind.i64.wrap ((o : Int) + 1) = (o : Int) + 1 := by rw [IntKind.wrap_i64]; omega
          go_wp2_with fail
          refine GhostV.ghost (fun γ L wx => GP (wr) [(17, pdS xs), (18, pdC3)] γ L wx) (by kernel_rfl) (by kernel_rfl) (fun γ => GP.start _ _ γ) ?_
          apply GhostV.walk_const (fun γ => by rfl)
          · intro γ L wx h1 h2 hx K hK
            have HXB := HB1.out.next hx.below
            obtain ⟨c0, c1, c2⟩ := stRow HXB.r0
            have HK2 := Lib.hid hK
            have HX := Lib.hid hx
            have H2 := Lib.hid h2
            clear hK h1 h2 hx
            go_simp
            first
              | (go_at_call 9; refine (FW.out _).mono ?_; rintro e w' ⟨rfl, hb⟩; exact HK2.out _ (HX.out.next _ (by rfl) hb))
              | exact HK2.out _ (HX.out.next _ (by rfl) (Below.refl _ _))
          try simp only [Act.put, List.setIfInBounds_toArray, List.set_cons_succ, List.set_cons_zero]
          apply GhostV.walk_const (fun γ => by rfl)
          · intro γ L wx h1 h2 hx K hK
            have HXB := HB1.out.next hx.below
            obtain ⟨c0, c1, c2⟩ := stRow HXB.r0
            have HK2 := Lib.hid hK
            have HX := Lib.hid hx
            have H2 := Lib.hid h2
            clear hK h1 h2 hx
            go_simp
            first
              | (go_at_call 9; refine (FW.out _).mono ?_; rintro e w' ⟨rfl, hb⟩; exact HK2.out _ (HX.out.next _ (by rfl) hb))
              | exact HK2.out _ (HX.out.next _ (by rfl) (Below.refl _ _))
          try simp only [Act.put, List.setIfInBounds_toArray, List.set_cons_succ, List.set_cons_zero]
          apply GhostV.walk_const (fun γ => by rfl)
          · intro γ L wx h1 h2 hx K hK
            have HXB := HB1.out.next hx.below
            obtain ⟨c0, c1, c2⟩ := stRow HXB.r0
            have HK2 := Lib.hid hK
            have HX := Lib.hid hx
            have H2 := Lib.hid h2
            clear hK h1 h2 hx
            go_simp
            first
              | (go_at_call 9; refine (FW.out _).mono ?_; rintro e w' ⟨rfl, hb⟩; exact HK2.out _ (HX.out.next _ (by rfl) hb))
              | exact HK2.out _ (HX.out.next _ (by rfl) (Below.refl _ _))
          try simp only [Act.put, List.setIfInBounds_toArray, List.set_cons_succ, List.set_cons_zero]
          apply GhostV.walk_const (fun γ => by rfl)
          · intro γ L wx h1 h2 hx K hK
            have HXB := HB1.out.next hx.below
            obtain ⟨c0, c1, c2⟩ := stRow HXB.r0
            have HK2 := Lib.hid hK
            have HX := Lib.hid hx
            have H2 := Lib.hid h2
            clear hK h1 h2 hx
            go_simp
            first
              | (go_at_call 9; refine (FW.out _).mono ?_; rintro e w' ⟨rfl, hb⟩; exact HK2.out _ (HX.out.next _ (by rfl) hb))
              | exact HK2.out _ (HX.out.next _ (by rfl) (Below.refl _ _))
          try simp only [Act.put, List.setIfInBounds_toArray, List.set_cons_succ, List.set_cons_zero]
          apply GhostV.walk_const (fun γ => by rfl)
          · intro γ L wx h1 h2 hx K hK
            have HXB := HB1.out.next hx.below
            obtain ⟨c0, c1, c2⟩ := stRow HXB.r0
            have HK2 := Lib.hid hK
            have HX := Lib.hid hx
            have H2 := Lib.hid h2
            clear hK h1 h2 hx
            go_simp
            first
              | (go_at_call 9; refine (FW.out _).mono ?_; rintro e w' ⟨rfl, hb⟩; exact HK2.out _ (HX.out.next _ (by rfl) hb))
              | exact HK2.out _ (HX.out.next _ (by rfl) (Below.refl _ _))
          try simp only [Act.put, List.setIfInBounds_toArray, List.set_cons_succ, List.set_cons_zero]
          apply GhostV.walk_const (fun γ => by rfl)
          · intro γ L wx h1 h2 hx K hK
            have HXB := HB1.out.next hx.below
            obtain ⟨c0, c1, c2⟩ := stRow HXB.r0
            have HK2 := Lib.hid hK
            have HX := Lib.hid hx
            have H2 := Lib.hid h2
            clear hK h1 h2 hx
            go_simp
            first
              | (go_at_call 9; refine (FW.out _).mono ?_; rintro e w' ⟨rfl, hb⟩; exact HK2.out _ (HX.out.next _ (by rfl) hb))
              | exact HK2.out _ (HX.out.next _ (by rfl) (Below.refl _ _))
          try simp only [Act.put, List.setIfInBounds_toArray, List.set_cons_succ, List.set_cons_zero]
          apply GhostV.walk_const (fun γ => by rfl)
          · intro γ L wx h1 h2 hx K hK
            have HXB := HB1.out.next hx.below
            obtain ⟨c0, c1, c2⟩ := stRow HXB.r0
            have HK2 := Lib.hid hK
            have HX := Lib.hid hx
            have H2 := Lib.hid h2
            clear hK h1 h2 hx
            go_simp
            first
              | (go_at_call 9; refine (FW.out _).mono ?_; rintro e w' ⟨rfl, hb⟩; exact HK2.out _ (HX.out.next _ (by rfl) hb))
              | exact HK2.out _ (HX.out.next _ (by rfl) (Below.refl _ _))
          try simp only [Act.put, List.setIfInBounds_toArray, List.set_cons_succ, List.set_cons_zero]
          apply GhostV.walk_const (fun γ => by rfl)
          · intro γ L wx h1 h2 hx K hK
            have HXB := HB1.out.next hx.below
            obtain ⟨c0, c1, c2⟩ := stRow HXB.r0
            have HK2 := Lib.hid hK
            have HX := Lib.hid hx
            have H2 := Lib.hid h2
            clear hK h1 h2 hx
            go_simp
            first
              | (go_at_call 9; refine (FW.out _).mono ?_; rintro e w' ⟨rfl, hb⟩; exact HK2.out _ (HX.out.next _ (by rfl) hb))
              | exact HK2.out _ (HX.out.next _ (by rfl) (Below.refl _ _))
          try simp only [Act.put, List.setIfInBounds_toArray, List.set_cons_succ, List.set_cons_zero]
          apply GhostV.walk_const (fun γ => by rfl)
          · intro γ L wx h1 h2 hx K hK
            have HXB := HB1.out.next hx.below
            obtain ⟨c0, c1, c2⟩ := stRow HXB.r0
            have HK2 := Lib.hid hK
            have HX := Lib.hid hx
            have H2 := Lib.hid h2
            clear hK h1 h2 hx
            go_simp
            first
              | (go_at_call 9; refine (FW.out _).mono ?_; rintro e w' ⟨rfl, hb⟩; exact HK2.out _ (HX.out.next _ (by rfl) hb))
              | exact HK2.out _ (HX.out.next _ (by rfl) (Below.refl _ _))
          try simp only [Act.put, List.setIfInBounds_toArray, List.set_cons_succ, List.set_cons_zero]
          apply GhostV.walk_const (fun γ => by rfl)
          · intro γ L wx h1 h2 hx K hK
            have HXB := HB1.out.next hx.below
            obtain ⟨c0, c1, c2⟩ := stRow HXB.r0
            have HK2 := Lib.hid hK
            have HX := Lib.hid hx
            have H2 := Lib.hid h2
            clear hK h1 h2 hx
            go_simp
            first
              | (go_at_call 9; refine (FW.out _).mono ?_; rintro e w' ⟨rfl, hb⟩; exact HK2.out _ (HX.out.next _ (by rfl) hb))
              | exact HK2.out _ (HX.out.next _ (by rfl) (Below.refl _ _))
          try simp only [Act.put, List.setIfInBounds_toArray, List.set_cons_succ, List.set_cons_zero]
          apply GhostV.walk_const (fun γ => by rfl)
          · intro γ L wx h1 h2 hx K hK
            have HXB := HB1.out.next hx.below
            obtain ⟨c0, c1, c2⟩ := stRow HXB.r0
            have HK2 := Lib.hid hK
            have HX := Lib.hid hx
            have H2 := Lib.hid h2
            clear hK h1 h2 hx
            go_simp
            first
              | (go_at_call 9; refine (FW.out _).mono ?_; rintro e w' ⟨rfl, hb⟩; exact HK2.out _ (HX.out.next _ (by rfl) hb))
              | exact HK2.out _ (HX.out.next _ (by rfl) (Below.refl _ _))
          try simp only [Act.put, List.setIfInBounds_toArray, List.set_cons_succ, List.set_cons_zero]
          apply GhostV.walk_const (fun γ => by rfl)
          · intro γ L wx h1 h2 hx K hK
            have HXB := HB1.out.next hx.below
            obtain ⟨c0, c1, c2⟩ := stRow HXB.r0
            have HK2 := Lib.hid hK
            have HX := Lib.hid hx
            have H2 := Lib.hid h2
            clear hK h1 h2 hx
            go_simp
            first
              | (go_at_call 9; refine (FW.out _).mono ?_; rintro e w' ⟨rfl, hb⟩; exact HK2.out _ (HX.out.next _ (by rfl) hb))
              | exact HK2.out _ (HX.out.next _ (by rfl) (Below.refl _ _))
          try simp only [Act.put, List.setIfInBounds_toArray, List.set_cons_succ, List.set_cons_zero]
          apply GhostV.walk_const (fun γ => by rfl)
          · intro γ L wx h1 h2 hx K hK
            have HXB := HB1.out.next hx.below
            obtain ⟨c0, c1, c2⟩ := stRow HXB.r0
            have HK2 := Lib.hid hK
            have HX := Lib.hid hx
            have H2 := Lib.hid h2
            clear hK h1 h2 hx
            go_simp
            first
              | (go_at_call 9; refine (FW.out _).mono ?_; rintro e w' ⟨rfl, hb⟩; exact HK2.out _ (HX.out.next _ (by rfl) hb))
              | exact HK2.out _ (HX.out.next _ (by rfl) (Below.refl _ _))
          try simp only [Act.put, List.setIfInBounds_toArray, List.set_cons_succ, List.set_cons_zero]
          apply GhostV.walk_const (fun γ => by rfl)
          · intro γ L wx h1 h2 hx K hK
            have HXB := HB1.out.next hx.below
            obtain ⟨c0, c1, c2⟩ := stRow HXB.r0
            have HK2 := Lib.hid hK
            have HX := Lib.hid hx
            have H2 := Lib.hid h2
            clear hK h1 h2 hx
            go_simp
            first
              | (go_at_call 9; refine (FW.out _).mono ?_; rintro e w' ⟨rfl, hb⟩; exact HK2.out _ (HX.out.next _ (by rfl) hb))
              | exact HK2.out _ (HX.out.next _ (by rfl) (Below.refl _ _))
          try simp only [Act.put, List.setIfInBounds_toArray, List.set_cons_succ, List.set_cons_zero]
          apply GhostV.walk_const (fun γ => by rfl)
          · intro γ L wx h1 h2 hx K hK
            have HXB := HB1.out.next hx.below
            obtain ⟨c0, c1, c2⟩ := stRow HXB.r0
            have HK2 := Lib.hid hK
            have HX := Lib.hid hx
            have H2 := Lib.hid h2
            clear hK h1 h2 hx
            go_simp
            first
              | (go_at_call 9; refine (FW.out _).mono ?_; rintro e w' ⟨rfl, hb⟩; exact HK2.out _ (HX.out.next _ (by rfl) hb))
              | exact HK2.out _ (HX.out.next _ (by rfl) (Below.refl _ _))
          try simp only [Act.put, List.setIfInBounds_toArray, List.set_cons_succ, List.set_cons_zero]
          apply GhostV.walk_const (fun γ => by rfl)
          · intro γ L wx h1 h2 hx K hK
            have HXB := HB1.out.next hx.below
            obtain ⟨c0, c1, c2⟩ := stRow HXB.r0
            have HK2 := Lib.hid hK
            have HX := Lib.hid hx
            have H2 := Lib.hid h2
            clear hK h1 h2 hx
            go_simp
            first
              | (go_at_call 9; refine (FW.out _).mono ?_; rintro e w' ⟨rfl, hb⟩; exact HK2.out _ (HX.out.next _ (by rfl) hb))
              | exact HK2.out _ (HX.out.next _ (by rfl) (Below.refl _ _))
          try simp only [Act.put, List.setIfInBounds_toArray, List.set_cons_succ, List.set_cons_zero]
          apply GhostV.walk_const (fun γ => by rfl)
          · intro γ L wx h1 h2 hx K hK
            have HXB := HB1.out.next hx.below
            obtain ⟨c0, c1, c2⟩ := stRow HXB.r0
            have HK2 := Lib.hid hK
            have HX := Lib.hid hx
            have H2 := Lib.hid h2
            clear hK h1 h2 hx
            go_simp
            first
              | (go_at_call 9; refine (FW.out _).mono ?_; rintro e w' ⟨rfl, hb⟩; exact HK2.out _ (HX.out.next _ (by rfl) hb))
              | exact HK2.out _ (HX.out.next _ (by rfl) (Below.refl _ _))
          try simp only [Act.put, List.setIfInBounds_toArray, List.set_cons_succ, List.set_cons_zero]
          refine GhostV.walk_yes (fun b => b) (fun γ => by rfl) ?_ ?_
          · intro γ L wx h1 h2 hx K hK
            have HXB := HB1.out.next hx.below
            obtain ⟨c0, c1, c2⟩ := stRow HXB.r0
            have HK2 := Lib.hid hK
            have HX := Lib.hid hx
            have H2 := Lib.hid h2
            clear hK h1 h2 hx
            go_simp
            (exact HK2.out _ _ (HX.out.make (by simp only [List.mem_cons, List.not_mem_nil, or_false]; rintro d (rfl | rfl) h; (· exact HSV.out _); (· cases h)) ((Below.refl _ _).alloc (Nat.le_refl _) _)))
          try simp only [Act.put, List.setIfInBounds_toArray, List.set_cons_succ, List.set_cons_zero]
          refine GhostV.walk_yes (fun b => b) (fun γ => by rfl) ?_ ?_
          · intro γ L wx h1 h2 hx K hK
            have HXB := HB1.out.next hx.below
            obtain ⟨c0, c1, c2⟩ := stRow HXB.r0
            have HK2 := Lib.hid hK
            have HX := Lib.hid hx
            have H2 := Lib.hid h2
            clear hK h1 h2 hx
            go_simp
            (obtain ⟨A, cap, e, hA⟩ := HX.out.row (17, pdS xs) (by simp) (H2.out 17 (by kernel_rfl)); simp only at e; rw [e, HL3.out] at HK2 ⊢; clear e; go_simp; exact HK2.out (.int .i64 3) _ (HX.out.make (by simp only [List.mem_cons, List.not_mem_nil, or_false]; rintro d (rfl | rfl) h; (· cases h); (· exact rfl)) (Below.refl _ _)))
          try simp only [Act.put, List.setIfInBounds_toArray, List.set_cons_succ, List.set_cons_zero]
          apply GhostV.walk_const (fun γ => by rfl)
          · intro γ L wx h1 h2 hx K hK
            have HXB := HB1.out.next hx.below
            obtain ⟨c0, c1, c2⟩ := stRow HXB.r0
            have HK2 := Lib.hid hK
            have HX := Lib.hid hx
            have H2 := Lib.hid h2
            clear hK h1 h2 hx
            go_simp
            first
              | (go_at_call 9; refine (FW.out _).mono ?_; rintro e w' ⟨rfl, hb⟩; exact HK2.out _ (HX.out.next _ (by rfl) hb))
              | exact HK2.out _ (HX.out.next _ (by rfl) (Below.refl _ _))
          try simp only [Act.put, List.setIfInBounds_toArray, List.set_cons_succ, List.set_cons_zero]
          refine GhostV.walk_nil (fun γ L w2 hall hG => ?_)
          obtain ⟨A, cap, eA, hsa⟩ := hG.row (17, pdS xs) (by simp) (hall 17 (by decide))
          have e3 : γ 18 = .int .i64 3 := hG.row (18, pdC3) (by simp) (hall 18 (by decide))
          simp only at eA
          have HB2 := Lib.hid (HB1.out.next hG.below)
          have HSA0 := Lib.hid hsa
          clear hG hall hsa
          simp only [Nat.zero_add, Nat.reduceAdd]
          rw [eA, e3]
          clear eA e3
          go_wp2_with fail
          go_loopw [56] (fun vj wr => ∃ j : Nat, j ≤ 3 ∧ vj = .int .i64 (j : Int) ∧ Bx w [(w.heap.size + 1, .cells #[.int .u32 s0, .int .u32 s1, .int .u32 s2] 30 (0, 0))] wr ∧ SAt wr A xs) (fun vj _ => 3 - (intOf vj).toNat)
          case atStart => exact ⟨0, by omega, rfl, HB2.out, HSA0.out⟩
          case round =>
            obtain ⟨j, hj3', rfl, hbx, hsa⟩ := hrel
            have HB2 := Lib.hid hbx
            clear hbx HSA0
            by_cases hjl : j < 3
            · have hjd : decide ((j : Int) < 3) = true := decide_eq_true (by omega)
              have hj3 : j < xs.length := by rw [HL3.out]; exact hjl
              have hjn : ¬ (j : Int) < 0 := by omega
              have HSA := Lib.hid hsa
              clear hsa
              obtain ⟨gb, off, hA, hgb, k0, k1, k2⟩ := HSA.out.at_ hj3
              subst hA
              have hxo := HXO.out _ (List.getElem_mem hj3)
              have hatk := atK_eq (s := xs[j]) hfF
              have habk := abK_eq (o := o) hxo hF32 hfF
              have hbek := beK_eq (o := o) hxo hF32 hfF
              have hop := fun k (hk : k ≤ 2) (h : Cv.choose (Cv.look F o f xs[j]) d = Cv.openC k) => open_ok (o := o) hxo hF32 hfF (show d ≤ 2 by omega) h hk
              have hno := fun (h : Cv.choose (Cv.look F o f xs[j]) d = Cv.moveC 0) => none_ok (o := o) hxo hF32 hfF (show d ≤ 2 by omega) h
              have hmv := Cv.ch_mv (Cv.look F o f xs[j]) d (Cv.look_fit _ _ _ _) (by omega)
              have hin := Cv.ch_in (Cv.look F o f xs[j]) d (Cv.look_fit _ _ _ _) (by omega)
              have FC := Lib.hid (fun wx (hb : Below w.heap.size w wx) => ChooseGood_any F f d o xs[j] wx hF2 hF32 hfF (by omega) (by omega) hxo (hT.below hb))
              have FST := Lib.hid (fun wx => stops_any F f xs[j] wx hF2 hF32 hxo)
              rw [hatk, habk, hbek] at FST
              have HOP := Lib.hid hop
              have HNO := Lib.hid hno
              have HMV := Lib.hid hmv
              clear hatk habk hbek hxo hop hno hmv
              generalize Cv.atB F xs[j] f = bat at *
              generalize Cv.choose (Cv.look F o f xs[j]) d = z at *
              generalize (Cv.look F o f xs[j]).ab = bab at *
              generalize (Cv.look F o f xs[j]).be = bbe at *
              generalize xs[j] = xj at *
              obtain ⟨x0, ⟨x1, x2⟩⟩ := xj
              simp only [Stp.agg] at *
              have HS3' := HSA
              go_wp2_with (with_reducible show wpList _ _ _ (Oper.mk _ (.store 30 _ _) _ _ _ _ :: _) _ _; refine Hid.out ?_)
              refine Lib.hid ?_
              refine wpList_put rfl 30 _ _ rfl wr.heap.size #[.int .u32 x0, .int .u32 x1, .int .u32 x2] _ 30 rfl rfl (heap_alloc_new wr _) (by kernel_rfl) rfl (by kernel_rfl) ?_
              intro w3 hr3 hg3
              have hb3 := ((Below.refl wr.heap.size wr).alloc (Nat.le_refl _) (.cells #[.int .u32 0, .int .u32 0, .int .u32 0] 30)).grown hg3.out (by simp) (fun k hk => Nat.le_of_eq (Option.some.inj hk))
              have HS3 := Lib.hid (HSA.out.below hb3)
              have hl3 := (Array.getElem?_eq_some_iff.1 HB2.out.r0).1
              simp only at hl3
              have HB3 : Hid (Bx w [(wr.heap.size, .cells #[.int .u32 x0, .int .u32 x1, .int .u32 x2] 30 (0, 0)), (w.heap.size + 1, .cells #[.int .u32 s0, .int .u32 s1, .int .u32 s2] 30 (0, 0))] w3) := Lib.hid ((HB2.out.make (heap_alloc_new wr (.cells #[.int .u32 0, .int .u32 0, .int .u32 0] 30)) ((Below.refl wr.heap.size wr).alloc (Nat.le_refl _) _)).put HB2.out.below.size hg3.out hr3.out (by simp only [List.mem_cons, List.not_mem_nil, or_false]; rintro p (rfl | rfl) <;> simp <;> omega))
              generalize wr.heap.size = gx at *
              clear hr3 hg3 HB2 hb3 HSA HS3' k0 k1 k2
              obtain ⟨a0, a1, a2⟩ := stRow HB3.out.r0
              go_wp2_with fail
              refine (FC.out _ HB3.out.below).mono ?_
              rintro e w4 ⟨rfl, hb4⟩
              have hzc : (∃ k, z = Cv.openC k ∧ k ≤ 2) ∨ z = Cv.moveC 0 ∨ z = Cv.moveC 1 ∨ z = Cv.moveC 2 := by
                simp only [List.mem_cons, List.not_mem_nil, or_false] at hin
                rcases hin with h | h | h | h | h | h
                · exact .inl ⟨0, h, by decide⟩
                · exact .inl ⟨1, h, by decide⟩
                · exact .inl ⟨2, h, by decide⟩
                · exact .inr (.inl h)
                · exact .inr (.inr (.inl h))
                · exact .inr (.inr (.inr h))
              clear hin FC
              have hj1 : IntKind.i64.wrap ((j : Int) + 1) = (j : Int) + 1 := by rw [IntKind.wrap_i64]; omega
              have hFw : IntKind.i64.wrap ((F : Int) - 1) = (F : Int) - 1 := by rw [IntKind.wrap_i64]; omega
              rcases hzc with ⟨k, hz, hk2⟩ | hz | hz | hz
              · subst hz
                obtain ⟨hat, hk1F, hk20, hbit⟩ := HOP.out k hk2 (by trivial)
                obtain rfl : bat = true := hat
                obtain rfl | rfl | rfl : k = 0 ∨ k = 1 ∨ k = 2 := by omega
                · have hbo := bit_o0 (o := o) (by omega)
                  generalize o.testBit 0 = ob at *
                  have HB4 := Lib.hid (HB3.out.next hb4)
                  have hl4 := (Array.getElem?_eq_some_iff.1 HB4.out.r0).1
                  have hl4' := (Array.getElem?_eq_some_iff.1 HB4.out.r1).1
                  simp only at hl4 hl4'
                  have HS4 := Lib.hid (HS3.out.below hb4)
                  go_wp2_with (with_reducible show wpList _ _ _ (Oper.mk _ (.store 38 _ _) _ _ _ _ :: _) _ _; refine Hid.out ?_)
                  refine Lib.hid ?_
                  refine wpList_put rfl 38 _ _ rfl w4.heap.size #[.int .i64 ((3 : Nat) : Int), .int .i64 ((0 : Nat) : Int), .int .i64 ((0 : Nat) : Int)] _ 38 rfl rfl (heap_alloc_new w4 _) (by kernel_rfl) rfl (by kernel_rfl) ?_
                  intro w5 hr5 hg5
                  have hb45 := ((Below.refl w4.heap.size w4).alloc (Nat.le_refl _) (.cells #[.int .i64 0, .int .i64 0, .int .i64 0] 38)).grown hg5.out (by simp) (fun k hk => Nat.le_of_eq (Option.some.inj hk))
                  have HS5 := Lib.hid (HS4.out.below hb45)
                  have HB5 : Hid (Bx w [(w4.heap.size, .cells #[.int .i64 ((3 : Nat) : Int), .int .i64 ((0 : Nat) : Int), .int .i64 ((0 : Nat) : Int)] 38 (0, 0)), (gx, .cells #[.int .u32 x0, .int .u32 x1, .int .u32 x2] 30 (0, 0)), (w.heap.size + 1, .cells #[.int .u32 s0, .int .u32 s1, .int .u32 s2] 30 (0, 0))] w5) := Lib.hid ((HB4.out.make (heap_alloc_new w4 (.cells #[.int .i64 0, .int .i64 0, .int .i64 0] 38)) ((Below.refl w4.heap.size w4).alloc (Nat.le_refl _) _)).put HB4.out.below.size hg5.out hr5.out (by simp only [List.mem_cons, List.not_mem_nil, or_false]; rintro p (rfl | rfl | rfl) <;> simp <;> omega))
                  generalize w4.heap.size = gc at *
                  clear hr5 hg5 HB4 hb45 HS4 a0 a1 a2
                  obtain ⟨a0, a1, a2⟩ := stRow HB5.out.r1
                  obtain ⟨c0, c1, c2⟩ := ch3Row HB5.out.r0
                  go_wp2_with fail
                  refine (FST.out _).mono ?_
                  rintro e w6 ⟨rfl, hb6⟩
                  have HB6 := Lib.hid (HB5.out.next hb6)
                  have HS6 := Lib.hid (HS5.out.below hb6)
                  clear hb6 HB5 HS5 a0 a1 a2 c0 c1 c2
                  obtain ⟨c0, c1, c2⟩ := ch3Row HB6.out.r0
                  cases bab
                  · cases bbe
                    · clear hbit hbo
                      go_wp2_with fail
                      go_roundw
                      case rel => exact ⟨j + 1, by omega, by rw [Int.natCast_add]; rfl, HB6.out.less (by simp only [List.mem_cons, List.not_mem_nil, or_false]; rintro p rfl; simp), HS6.out⟩
                      case measure => simp [intOf]; omega
                    · obtain rfl : ob = false := by simpa using hbit
                      rw [if_neg (by decide)] at hbo
                      go_wp2_with fail
                      go_roundw
                      case rel => exact ⟨j + 1, by omega, by rw [Int.natCast_add]; rfl, HB6.out.less (by simp only [List.mem_cons, List.not_mem_nil, or_false]; rintro p rfl; simp), HS6.out⟩
                      case measure => simp [intOf]; omega
                  · obtain rfl : ob = false := by simpa using hbit
                    rw [if_neg (by decide)] at hbo
                    go_wp2_with fail
                    go_roundw
                    case rel => exact ⟨j + 1, by omega, by rw [Int.natCast_add]; rfl, HB6.out.less (by simp only [List.mem_cons, List.not_mem_nil, or_false]; rintro p rfl; simp), HS6.out⟩
                    case measure => simp [intOf]; omega
                · have hff : ((f : Int) == (F : Int) - 1) = false := beq_eq_false_iff_ne.2 (by omega)
                  have hbo := bit_o1 (o := o) (by omega)
                  generalize o.testBit 1 = ob at *
                  have HB4 := Lib.hid (HB3.out.next hb4)
                  have hl4 := (Array.getElem?_eq_some_iff.1 HB4.out.r0).1
                  have hl4' := (Array.getElem?_eq_some_iff.1 HB4.out.r1).1
                  simp only at hl4 hl4'
                  have HS4 := Lib.hid (HS3.out.below hb4)
                  go_wp2_with (with_reducible show wpList _ _ _ (Oper.mk _ (.store 38 _ _) _ _ _ _ :: _) _ _; refine Hid.out ?_)
                  refine Lib.hid ?_
                  refine wpList_put rfl 38 _ _ rfl w4.heap.size #[.int .i64 ((3 : Nat) : Int), .int .i64 ((1 : Nat) : Int), .int .i64 ((1 : Nat) : Int)] _ 38 rfl rfl (heap_alloc_new w4 _) (by kernel_rfl) rfl (by kernel_rfl) ?_
                  intro w5 hr5 hg5
                  have hb45 := ((Below.refl w4.heap.size w4).alloc (Nat.le_refl _) (.cells #[.int .i64 0, .int .i64 0, .int .i64 0] 38)).grown hg5.out (by simp) (fun k hk => Nat.le_of_eq (Option.some.inj hk))
                  have HS5 := Lib.hid (HS4.out.below hb45)
                  have HB5 : Hid (Bx w [(w4.heap.size, .cells #[.int .i64 ((3 : Nat) : Int), .int .i64 ((1 : Nat) : Int), .int .i64 ((1 : Nat) : Int)] 38 (0, 0)), (gx, .cells #[.int .u32 x0, .int .u32 x1, .int .u32 x2] 30 (0, 0)), (w.heap.size + 1, .cells #[.int .u32 s0, .int .u32 s1, .int .u32 s2] 30 (0, 0))] w5) := Lib.hid ((HB4.out.make (heap_alloc_new w4 (.cells #[.int .i64 0, .int .i64 0, .int .i64 0] 38)) ((Below.refl w4.heap.size w4).alloc (Nat.le_refl _) _)).put HB4.out.below.size hg5.out hr5.out (by simp only [List.mem_cons, List.not_mem_nil, or_false]; rintro p (rfl | rfl | rfl) <;> simp <;> omega))
                  generalize w4.heap.size = gc at *
                  clear hr5 hg5 HB4 hb45 HS4 a0 a1 a2
                  obtain ⟨a0, a1, a2⟩ := stRow HB5.out.r1
                  obtain ⟨c0, c1, c2⟩ := ch3Row HB5.out.r0
                  go_wp2_with fail
                  refine (FST.out _).mono ?_
                  rintro e w6 ⟨rfl, hb6⟩
                  have HB6 := Lib.hid (HB5.out.next hb6)
                  have HS6 := Lib.hid (HS5.out.below hb6)
                  clear hb6 HB5 HS5 a0 a1 a2 c0 c1 c2
                  obtain ⟨c0, c1, c2⟩ := ch3Row HB6.out.r0
                  cases bab
                  · cases bbe
                    · clear hbit hbo
                      go_wp2_with fail
                      go_roundw
                      case rel => exact ⟨j + 1, by omega, by rw [Int.natCast_add]; rfl, HB6.out.less (by simp only [List.mem_cons, List.not_mem_nil, or_false]; rintro p rfl; simp), HS6.out⟩
                      case measure => simp [intOf]; omega
                    · obtain rfl : ob = false := by simpa using hbit
                      rw [if_neg (by decide)] at hbo
                      go_wp2_with fail
                      go_roundw
                      case rel => exact ⟨j + 1, by omega, by rw [Int.natCast_add]; rfl, HB6.out.less (by simp only [List.mem_cons, List.not_mem_nil, or_false]; rintro p rfl; simp), HS6.out⟩
                      case measure => simp [intOf]; omega
                  · obtain rfl : ob = false := by simpa using hbit
                    rw [if_neg (by decide)] at hbo
                    go_wp2_with fail
                    go_roundw
                    case rel => exact ⟨j + 1, by omega, by rw [Int.natCast_add]; rfl, HB6.out.less (by simp only [List.mem_cons, List.not_mem_nil, or_false]; rintro p rfl; simp), HS6.out⟩
                    case measure => simp [intOf]; omega
                · have hff : ((f : Int) == 0) = false := beq_eq_false_iff_ne.2 (by omega)
                  have hbo := bit_o2 (o := o) (by omega)
                  generalize o.testBit 2 = ob at *
                  have HB4 := Lib.hid (HB3.out.next hb4)
                  have hl4 := (Array.getElem?_eq_some_iff.1 HB4.out.r0).1
                  have hl4' := (Array.getElem?_eq_some_iff.1 HB4.out.r1).1
                  simp only at hl4 hl4'
                  have HS4 := Lib.hid (HS3.out.below hb4)
                  go_wp2_with (with_reducible show wpList _ _ _ (Oper.mk _ (.store 38 _ _) _ _ _ _ :: _) _ _; refine Hid.out ?_)
                  refine Lib.hid ?_
                  refine wpList_put rfl 38 _ _ rfl w4.heap.size #[.int .i64 ((3 : Nat) : Int), .int .i64 ((2 : Nat) : Int), .int .i64 ((2 : Nat) : Int)] _ 38 rfl rfl (heap_alloc_new w4 _) (by kernel_rfl) rfl (by kernel_rfl) ?_
                  intro w5 hr5 hg5
                  have hb45 := ((Below.refl w4.heap.size w4).alloc (Nat.le_refl _) (.cells #[.int .i64 0, .int .i64 0, .int .i64 0] 38)).grown hg5.out (by simp) (fun k hk => Nat.le_of_eq (Option.some.inj hk))
                  have HS5 := Lib.hid (HS4.out.below hb45)
                  have HB5 : Hid (Bx w [(w4.heap.size, .cells #[.int .i64 ((3 : Nat) : Int), .int .i64 ((2 : Nat) : Int), .int .i64 ((2 : Nat) : Int)] 38 (0, 0)), (gx, .cells #[.int .u32 x0, .int .u32 x1, .int .u32 x2] 30 (0, 0)), (w.heap.size + 1, .cells #[.int .u32 s0, .int .u32 s1, .int .u32 s2] 30 (0, 0))] w5) := Lib.hid ((HB4.out.make (heap_alloc_new w4 (.cells #[.int .i64 0, .int .i64 0, .int .i64 0] 38)) ((Below.refl w4.heap.size w4).alloc (Nat.le_refl _) _)).put HB4.out.below.size hg5.out hr5.out (by simp only [List.mem_cons, List.not_mem_nil, or_false]; rintro p (rfl | rfl | rfl) <;> simp <;> omega))
                  generalize w4.heap.size = gc at *
                  clear hr5 hg5 HB4 hb45 HS4 a0 a1 a2
                  obtain ⟨a0, a1, a2⟩ := stRow HB5.out.r1
                  obtain ⟨c0, c1, c2⟩ := ch3Row HB5.out.r0
                  go_wp2_with fail
                  refine (FST.out _).mono ?_
                  rintro e w6 ⟨rfl, hb6⟩
                  have HB6 := Lib.hid (HB5.out.next hb6)
                  have HS6 := Lib.hid (HS5.out.below hb6)
                  clear hb6 HB5 HS5 a0 a1 a2 c0 c1 c2
                  obtain ⟨c0, c1, c2⟩ := ch3Row HB6.out.r0
                  cases bab
                  · cases bbe
                    · clear hbit hbo
                      go_wp2_with fail
                      go_roundw
                      case rel => exact ⟨j + 1, by omega, by rw [Int.natCast_add]; rfl, HB6.out.less (by simp only [List.mem_cons, List.not_mem_nil, or_false]; rintro p rfl; simp), HS6.out⟩
                      case measure => simp [intOf]; omega
                    · obtain rfl : ob = false := by simpa using hbit
                      rw [if_neg (by decide)] at hbo
                      go_wp2_with fail
                      go_roundw
                      case rel => exact ⟨j + 1, by omega, by rw [Int.natCast_add]; rfl, HB6.out.less (by simp only [List.mem_cons, List.not_mem_nil, or_false]; rintro p rfl; simp), HS6.out⟩
                      case measure => simp [intOf]; omega
                  · obtain rfl : ob = false := by simpa using hbit
                    rw [if_neg (by decide)] at hbo
                    go_wp2_with fail
                    go_roundw
                    case rel => exact ⟨j + 1, by omega, by rw [Int.natCast_add]; rfl, HB6.out.less (by simp only [List.mem_cons, List.not_mem_nil, or_false]; rintro p rfl; simp), HS6.out⟩
                    case measure => simp [intOf]; omega
              · subst hz
                obtain ⟨h1, h2, h3⟩ := HNO.out (by trivial)
                subst h1 h2 h3
                have he := eqlCh 0 0 0 0 0 0
                have HB4 := Lib.hid (HB3.out.next hb4)
                have hl4 := (Array.getElem?_eq_some_iff.1 HB4.out.r0).1
                have hl4' := (Array.getElem?_eq_some_iff.1 HB4.out.r1).1
                simp only at hl4 hl4'
                have HS4 := Lib.hid (HS3.out.below hb4)
                go_wp2_with (with_reducible show wpList _ _ _ (Oper.mk _ (.store 38 _ _) _ _ _ _ :: _) _ _; refine Hid.out ?_)
                refine Lib.hid ?_
                refine wpList_put rfl 38 _ _ rfl w4.heap.size #[.int .i64 ((0 : Nat) : Int), .int .i64 ((0 : Nat) : Int), .int .i64 ((0 : Nat) : Int)] _ 38 rfl rfl (heap_alloc_new w4 _) (by kernel_rfl) rfl (by kernel_rfl) ?_
                intro w5 hr5 hg5
                have hb45 := ((Below.refl w4.heap.size w4).alloc (Nat.le_refl _) (.cells #[.int .i64 0, .int .i64 0, .int .i64 0] 38)).grown hg5.out (by simp) (fun k hk => Nat.le_of_eq (Option.some.inj hk))
                have HS5 := Lib.hid (HS4.out.below hb45)
                have HB5 : Hid (Bx w [(w4.heap.size, .cells #[.int .i64 ((0 : Nat) : Int), .int .i64 ((0 : Nat) : Int), .int .i64 ((0 : Nat) : Int)] 38 (0, 0)), (gx, .cells #[.int .u32 x0, .int .u32 x1, .int .u32 x2] 30 (0, 0)), (w.heap.size + 1, .cells #[.int .u32 s0, .int .u32 s1, .int .u32 s2] 30 (0, 0))] w5) := Lib.hid ((HB4.out.make (heap_alloc_new w4 (.cells #[.int .i64 0, .int .i64 0, .int .i64 0] 38)) ((Below.refl w4.heap.size w4).alloc (Nat.le_refl _) _)).put HB4.out.below.size hg5.out hr5.out (by simp only [List.mem_cons, List.not_mem_nil, or_false]; rintro p (rfl | rfl | rfl) <;> simp <;> omega))
                generalize w4.heap.size = gc at *
                clear hr5 hg5 HB4 hb45 HS4 a0 a1 a2
                obtain ⟨a0, a1, a2⟩ := stRow HB5.out.r1
                obtain ⟨c0, c1, c2⟩ := ch3Row HB5.out.r0
                go_wp2_with fail
                refine (FST.out _).mono ?_
                rintro e w6 ⟨rfl, hb6⟩
                have HB6 := Lib.hid (HB5.out.next hb6)
                have HS6 := Lib.hid (HS5.out.below hb6)
                clear hb6 HB5 HS5 a0 a1 a2 c0 c1 c2
                obtain ⟨c0, c1, c2⟩ := ch3Row HB6.out.r0
                go_wp2_with fail
                go_roundw
                case rel => exact ⟨j + 1, by omega, by rw [Int.natCast_add]; rfl, HB6.out.less (by simp only [List.mem_cons, List.not_mem_nil, or_false]; rintro p rfl; simp), HS6.out⟩
                case measure => simp [intOf]; omega
              · subst hz
                obtain rfl : bab = true := HMV.out.1 (by trivial)
                have HB4 := Lib.hid (HB3.out.next hb4)
                have hl4 := (Array.getElem?_eq_some_iff.1 HB4.out.r0).1
                have hl4' := (Array.getElem?_eq_some_iff.1 HB4.out.r1).1
                simp only at hl4 hl4'
                have HS4 := Lib.hid (HS3.out.below hb4)
                go_wp2_with (with_reducible show wpList _ _ _ (Oper.mk _ (.store 38 _ _) _ _ _ _ :: _) _ _; refine Hid.out ?_)
                refine Lib.hid ?_
                refine wpList_put rfl 38 _ _ rfl w4.heap.size #[.int .i64 ((1 : Nat) : Int), .int .i64 ((1 : Nat) : Int), .int .i64 ((0 : Nat) : Int)] _ 38 rfl rfl (heap_alloc_new w4 _) (by kernel_rfl) rfl (by kernel_rfl) ?_
                intro w5 hr5 hg5
                have hb45 := ((Below.refl w4.heap.size w4).alloc (Nat.le_refl _) (.cells #[.int .i64 0, .int .i64 0, .int .i64 0] 38)).grown hg5.out (by simp) (fun k hk => Nat.le_of_eq (Option.some.inj hk))
                have HS5 := Lib.hid (HS4.out.below hb45)
                have HB5 : Hid (Bx w [(w4.heap.size, .cells #[.int .i64 ((1 : Nat) : Int), .int .i64 ((1 : Nat) : Int), .int .i64 ((0 : Nat) : Int)] 38 (0, 0)), (gx, .cells #[.int .u32 x0, .int .u32 x1, .int .u32 x2] 30 (0, 0)), (w.heap.size + 1, .cells #[.int .u32 s0, .int .u32 s1, .int .u32 s2] 30 (0, 0))] w5) := Lib.hid ((HB4.out.make (heap_alloc_new w4 (.cells #[.int .i64 0, .int .i64 0, .int .i64 0] 38)) ((Below.refl w4.heap.size w4).alloc (Nat.le_refl _) _)).put HB4.out.below.size hg5.out hr5.out (by simp only [List.mem_cons, List.not_mem_nil, or_false]; rintro p (rfl | rfl | rfl) <;> simp <;> omega))
                generalize w4.heap.size = gc at *
                clear hr5 hg5 HB4 hb45 HS4 a0 a1 a2
                obtain ⟨a0, a1, a2⟩ := stRow HB5.out.r1
                obtain ⟨c0, c1, c2⟩ := ch3Row HB5.out.r0
                go_wp2_with fail
                refine (FST.out _).mono ?_
                rintro e w6 ⟨rfl, hb6⟩
                have HB6 := Lib.hid (HB5.out.next hb6)
                have HS6 := Lib.hid (HS5.out.below hb6)
                clear hb6 HB5 HS5 a0 a1 a2 c0 c1 c2
                obtain ⟨c0, c1, c2⟩ := ch3Row HB6.out.r0
                go_wp2_with fail
                go_roundw
                case rel => exact ⟨j + 1, by omega, by rw [Int.natCast_add]; rfl, HB6.out.less (by simp only [List.mem_cons, List.not_mem_nil, or_false]; rintro p rfl; simp), HS6.out⟩
                case measure => simp [intOf]; omega
              · subst hz
                obtain rfl : bbe = true := HMV.out.2 (by trivial)
                have HB4 := Lib.hid (HB3.out.next hb4)
                have hl4 := (Array.getElem?_eq_some_iff.1 HB4.out.r0).1
                have hl4' := (Array.getElem?_eq_some_iff.1 HB4.out.r1).1
                simp only at hl4 hl4'
                have HS4 := Lib.hid (HS3.out.below hb4)
                go_wp2_with (with_reducible show wpList _ _ _ (Oper.mk _ (.store 38 _ _) _ _ _ _ :: _) _ _; refine Hid.out ?_)
                refine Lib.hid ?_
                refine wpList_put rfl 38 _ _ rfl w4.heap.size #[.int .i64 ((2 : Nat) : Int), .int .i64 ((2 : Nat) : Int), .int .i64 ((0 : Nat) : Int)] _ 38 rfl rfl (heap_alloc_new w4 _) (by kernel_rfl) rfl (by kernel_rfl) ?_
                intro w5 hr5 hg5
                have hb45 := ((Below.refl w4.heap.size w4).alloc (Nat.le_refl _) (.cells #[.int .i64 0, .int .i64 0, .int .i64 0] 38)).grown hg5.out (by simp) (fun k hk => Nat.le_of_eq (Option.some.inj hk))
                have HS5 := Lib.hid (HS4.out.below hb45)
                have HB5 : Hid (Bx w [(w4.heap.size, .cells #[.int .i64 ((2 : Nat) : Int), .int .i64 ((2 : Nat) : Int), .int .i64 ((0 : Nat) : Int)] 38 (0, 0)), (gx, .cells #[.int .u32 x0, .int .u32 x1, .int .u32 x2] 30 (0, 0)), (w.heap.size + 1, .cells #[.int .u32 s0, .int .u32 s1, .int .u32 s2] 30 (0, 0))] w5) := Lib.hid ((HB4.out.make (heap_alloc_new w4 (.cells #[.int .i64 0, .int .i64 0, .int .i64 0] 38)) ((Below.refl w4.heap.size w4).alloc (Nat.le_refl _) _)).put HB4.out.below.size hg5.out hr5.out (by simp only [List.mem_cons, List.not_mem_nil, or_false]; rintro p (rfl | rfl | rfl) <;> simp <;> omega))
                generalize w4.heap.size = gc at *
                clear hr5 hg5 HB4 hb45 HS4 a0 a1 a2
                obtain ⟨a0, a1, a2⟩ := stRow HB5.out.r1
                obtain ⟨c0, c1, c2⟩ := ch3Row HB5.out.r0
                go_wp2_with fail
                refine (FST.out _).mono ?_
                rintro e w6 ⟨rfl, hb6⟩
                have HB6 := Lib.hid (HB5.out.next hb6)
                have HS6 := Lib.hid (HS5.out.below hb6)
                clear hb6 HB5 HS5 a0 a1 a2 c0 c1 c2
                obtain ⟨c0, c1, c2⟩ := ch3Row HB6.out.r0
                go_wp2_with fail
                go_roundw
                case rel => exact ⟨j + 1, by omega, by rw [Int.natCast_add]; rfl, HB6.out.less (by simp only [List.mem_cons, List.not_mem_nil, or_false]; rintro p rfl; simp), HS6.out⟩
                case measure => simp [intOf]; omega
            · have hje : j = 3 := by omega
              subst hje
              go_wp2_with fail
              go_roundw
              case rel => exact ⟨o + 1, by omega, by rw [Int.natCast_add]; rfl, HB2.out⟩
              case measure => simp [intOf]; omega
        · have hoe : o = 8 := by omega
          subst hoe
          go_wp2_with fail
          go_roundw
          case rel => exact ⟨d + 1, by omega, by rw [Int.natCast_add]; rfl, HB1.out⟩
          case measure => simp [intOf]; omega
    · have hde : d = 3 := by omega
      subst hde
      go_wp2_with (go_at_call 10; refine (FSA.out _ HB0.out.below).mono ?_; rintro e w9 ⟨rfl, hb9⟩)
      go_ret
      exact ⟨rfl, HB0.out.below.trans (hb9.mono HB0.out.below.size)⟩
end Go.Proofs.YtfbmaocedicelaaDoor
