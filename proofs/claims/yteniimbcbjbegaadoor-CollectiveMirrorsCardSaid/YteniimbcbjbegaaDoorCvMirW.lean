/- A building turned upside down: the walk. No statement of the seat is proved here. -/
import Derived.Test.YteniimbcbjbegaaDoorCvMirM
import Derived.Test.YteniimbcbjbegaaDoorCvPlay
import Derived.Test.YteniimbcbjbegaaDoorDecl1
namespace Go.Proofs.YteniimbcbjbegaaDoor
open Go.RowKit Ghost Go.ChangeShapes Go.WideShapes Go.ChangeAt Go.Deep

theorem flip_int (o : Fin 8) : bits .or .i64 (bits .or .i64 (bits .and .i64 (o.val : Int) 1) (IntKind.i64.wrap (bits .and .i64 (o.val : Int) 2 * 2))) (bits .and .i64 (o.val : Int) 4 / (2 : Int)) = (Cv.flipO o.val : Int) := by
  revert o; decide +kernel
theorem tu_at {z : Nat} (h : z ≤ 3) : (#[.int .i64 0, .int .i64 2, .int .i64 1, .int .i64 3] : Array Value)[z]? = some (.int .i64 ((Cv.back z : Nat) : Int)) := by
  rcases (show z = 0 ∨ z = 1 ∨ z = 2 ∨ z = 3 by omega) with rfl | rfl | rfl | rfl <;> rfl
theorem bk_at {z : Nat} (h : z ≤ 2) : (#[.int .i64 0, .int .i64 2, .int .i64 1] : Array Value)[z]? = some (.int .i64 ((Cv.back z : Nat) : Int)) := by
  rcases (show z = 0 ∨ z = 1 ∨ z = 2 by omega) with rfl | rfl | rfl <;> rfl
theorem rev_or {t x k g : Nat} (ht : t < 4294967296) (hx : x < 4294967296) (hg : g < 32) : bits .or .u32 (t : Int) (bits .and .u32 ((x : Int) / 2 ^ k) 1 * 2 ^ g % 4294967296) = ((t ||| ((x / 2 ^ k) &&& 1) * 2 ^ g : Nat) : Int) := by
  have h1 : (x : Int) / 2 ^ k = ((x / 2 ^ k : Nat) : Int) := by
    rw [Int.natCast_ediv, Int.natCast_pow]; rfl
  have h2 : x / 2 ^ k < 4294967296 := Nat.lt_of_le_of_lt (Nat.div_le_self _ _) hx
  rw [h1, show (1 : Int) = ((1 : Nat) : Int) from rfl, u32_and_nat _ 1 h2 (by decide)]
  have h3 : ((x / 2 ^ k &&& 1 : Nat) : Int) * 2 ^ g % 4294967296 = (((x / 2 ^ k &&& 1) * 2 ^ g : Nat) : Int) := by
    have hb : (x / 2 ^ k &&& 1) ≤ 1 := Nat.and_le_right
    have hp := Cs.pow_lt hg
    have : (x / 2 ^ k &&& 1) * 2 ^ g < 4294967296 := Nat.lt_of_le_of_lt (Nat.mul_le_mul_right _ hb) (by omega)
    rw [Int.emod_eq_of_lt]
    · rw [Int.natCast_mul, Int.natCast_pow]; rfl
    · exact Int.mul_nonneg (by omega) (Int.pow_nonneg (by decide))
    · have e : ((x / 2 ^ k &&& 1 : Nat) : Int) * 2 ^ g = (((x / 2 ^ k &&& 1) * 2 ^ g : Nat) : Int) := by rw [Int.natCast_mul, Int.natCast_pow]; rfl
      rw [e]; omega
  rw [h3]
  have hb : (x / 2 ^ k &&& 1) ≤ 1 := Nat.and_le_right
  have hp := Cs.pow_lt hg
  exact u32_or_nat _ _ ht (Nat.lt_of_le_of_lt (Nat.mul_le_mul_right _ hb) (by omega))
theorem bx2m (w : World) (A B : Obj) : Bx w [(w.heap.size + 1, B)] ((w.alloc A).alloc B) := by
  have h := heap_alloc_new (w.alloc A) B
  have hs : (w.alloc A).heap.size = w.heap.size + 1 := by simp
  rw [hs] at h
  refine ⟨(((Below.refl w.heap.size w).alloc (Nat.le_refl _) A).alloc (by simp) B), fun p hp => ?_⟩
  simp only [List.mem_cons, List.not_mem_nil, or_false] at hp
  rw [hp]; exact h
theorem bx3m (w : World) (A B C : Obj) : Bx w [(w.heap.size + 2, C), (w.heap.size + 1, B)] (((w.alloc A).alloc B).alloc C) := by
  have h := heap_alloc_new ((w.alloc A).alloc B) C
  have hs : ((w.alloc A).alloc B).heap.size = w.heap.size + 2 := by simp
  have hb := (bx2m w A B).make h ((Below.refl _ _).alloc (Nat.le_refl _) C)
  rw [hs] at hb
  exact hb
theorem wpList_back {ops : Array Oper} {rest : List Oper} {o : Oper} {a : Act} {w : World} {Q : Exit → Act → World → Prop} (hg : o.guard = none) (ho : o.op = .buildSlice 42 3 #[(0, .const (.int .i64 0)), (1, .const (.int .i64 2)), (2, .const (.int .i64 1))])
    (h : wpList Tryd.prog ops Q rest (a.put o.dst (.slice (some ⟨w.heap.size, 0, none⟩) 3 3)) (w.alloc (.cells #[.int .i64 0, .int .i64 2, .int .i64 1] 3))) : wpList Tryd.prog ops Q (o :: rest) a w := by
  obtain ⟨i, hi, hz, hsz, _⟩ := info_parts (show (Tryd.prog.info? 3).map (fun i => (i.zero, i.size, i.bytes)) = some (some (.int .i64 0), 1, 8) by kernel_rfl)
  refine wpList_buildSlice hg 42 3 3 _ ho #[.int .i64 0, .int .i64 2, .int .i64 1] i _ Tryd.underlying42 hi hz (by rw [hsz]; decide) (by rw [hsz]; decide) ?_ h
  rw [hsz]
  have e : ((#[(0, Operand.const (.int .i64 0)), (1, .const (.int .i64 2)), (2, .const (.int .i64 1))] : Array (Nat × Operand)).map fun (i, x) => (i, a.eval x)).toList = [(0, .int .i64 0), (1, .int .i64 2), (2, .int .i64 1)] := by simp [Act.eval]
  have er : Array.range (3 * 1) = #[0, 1, 2] := by decide
  rw [e, er]
  simp [Instr.fill, Value.cells]
theorem wpList_turn {ops : Array Oper} {rest : List Oper} {o : Oper} {a : Act} {w : World} {Q : Exit → Act → World → Prop} (hg : o.guard = none) (ho : o.op = .buildSlice 42 4 #[(0, .const (.int .i64 0)), (1, .const (.int .i64 2)), (2, .const (.int .i64 1)), (3, .const (.int .i64 3))])
    (h : wpList Tryd.prog ops Q rest (a.put o.dst (.slice (some ⟨w.heap.size, 0, none⟩) 4 4)) (w.alloc (.cells #[.int .i64 0, .int .i64 2, .int .i64 1, .int .i64 3] 3))) : wpList Tryd.prog ops Q (o :: rest) a w := by
  obtain ⟨i, hi, hz, hsz, _⟩ := info_parts (show (Tryd.prog.info? 3).map (fun i => (i.zero, i.size, i.bytes)) = some (some (.int .i64 0), 1, 8) by kernel_rfl)
  refine wpList_buildSlice hg 42 3 4 _ ho #[.int .i64 0, .int .i64 2, .int .i64 1, .int .i64 3] i _ Tryd.underlying42 hi hz (by rw [hsz]; decide) (by rw [hsz]; decide) ?_ h
  rw [hsz]
  have e : ((#[(0, Operand.const (.int .i64 0)), (1, .const (.int .i64 2)), (2, .const (.int .i64 1)), (3, .const (.int .i64 3))] : Array (Nat × Operand)).map fun (i, x) => (i, a.eval x)).toList = [(0, .int .i64 0), (1, .int .i64 2), (2, .int .i64 1), (3, .int .i64 3)] := by simp [Act.eval]
  have er : Array.range (4 * 1) = #[0, 1, 2, 3] := by decide
  rw [e, er]
  simp [Instr.fill, Value.cells]
theorem bkRow {wx : World} {g : Nat} {x y z : Value} {T : TypeId} (h : wx.heap[g]? = some (.cells #[x, y, z] T (0, 0))) :
    wx.cell? ⟨g, 0, none⟩ = some x ∧ wx.cell? ⟨g, 1, none⟩ = some y ∧ wx.cell? ⟨g, 2, none⟩ = some z :=
  ⟨cell_of_row wx _ _ _ _ (0, 0) h, cell_of_row wx _ _ _ _ (0, 0) h, cell_of_row wx _ _ _ _ (0, 0) h⟩
theorem tuRow {wx : World} {g : Nat} {x y z u : Value} {T : TypeId} (h : wx.heap[g]? = some (.cells #[x, y, z, u] T (0, 0))) :
    wx.cell? ⟨g, 0, none⟩ = some x ∧ wx.cell? ⟨g, 1, none⟩ = some y ∧ wx.cell? ⟨g, 2, none⟩ = some z ∧ wx.cell? ⟨g, 3, none⟩ = some u :=
  ⟨cell_of_row wx _ _ _ _ (0, 0) h, cell_of_row wx _ _ _ _ (0, 0) h, cell_of_row wx _ _ _ _ (0, 0) h, cell_of_row wx _ _ _ _ (0, 0) h⟩
set_option maxRecDepth 100000 in
set_option maxHeartbeats 16000000 in
theorem lawMirrors_nat (n : Nat) (p1 p2 p3 : Int) (s : Stp) (w : World) (hn : n < 256) (hs : s.ok) (hT : Tabs w) :
    Calls Tryd.prog 5 #[.int .u8 n, .agg #[.int .i64 p1, .int .i64 p2, .int .i64 p3], s.agg] w fun e w' => e = .returned (.bool true) ∧ Below w.heap.size w w' := by
  have FSA := Lib.hid (fun wx (hb : Below w.heap.size w wx) => sane11_any wx (hT.below hb))
  obtain ⟨F, hFe⟩ : ∃ F : Nat, F = 2 + n % 31 := ⟨_, rfl⟩
  have hF2 : 2 ≤ F := by omega
  have hF32 : F ≤ 32 := by omega
  have eF : (2 : Int) + (n : Int) % 31 = (F : Int) := by omega
  obtain ⟨f, hfF, ef⟩ := uint_mod p3 F (by omega) (by omega)
  obtain ⟨s0, ⟨s1, s2⟩⟩ := s
  simp only [Stp.agg] at *
  have hF1 : IntKind.i64.wrap ((F : Int) - 1) = (F : Int) - 1 := by rw [IntKind.wrap_i64]; omega
  clear hFe
  go_enter Tryd.func5, Tryd.ntmps5
  go_wp2_with fail
  simp only [eF, ef, Nat.add_assoc, Nat.reduceAdd]
  clear eF ef hn
  have HST := Lib.hid (bx3m w (.cells #[.int .i64 p1, .int .i64 p2, .int .i64 p3] 25) (.cells #[.int .u32 s0, .int .u32 s1, .int .u32 s2] 30) (.cells #[.int .u32 0, .int .u32 0, .int .u32 0] 30))
  go_loopw [10] (fun vk wr => ∃ k : Nat, k ≤ F ∧ vk = .int .i64 (k : Int) ∧ ∃ t0 t1 t2 : Nat, Cv.revS F ⟨s0, ⟨s1, s2⟩⟩ k = ⟨t0, ⟨t1, t2⟩⟩ ∧ Bx w [(w.heap.size + 2, .cells #[.int .u32 t0, .int .u32 t1, .int .u32 t2] 30 (0, 0)), (w.heap.size + 1, .cells #[.int .u32 s0, .int .u32 s1, .int .u32 s2] 30 (0, 0))] wr) (fun vk _ => F - (intOf vk).toNat)
  case atStart => exact ⟨0, by omega, rfl, 0, 0, 0, rfl, HST.out⟩
  case round =>
    obtain ⟨k, hkF, rfl, t0, t1, t2, hte, hbx⟩ := hrel
    have HB0 := Lib.hid hbx
    clear hbx HST
    have ht := Cv.revS_ok F ⟨s0, ⟨s1, s2⟩⟩ k hF32 hkF
    rw [hte] at ht
    by_cases hkl : k < F
    · have hte : Cv.revS F ⟨s0, ⟨s1, s2⟩⟩ (k + 1) = ⟨t0 ||| ((s0 / 2 ^ k) &&& 1) * 2 ^ (F - 1 - k), ⟨t1 ||| ((s2 / 2 ^ k) &&& 1) * 2 ^ (F - 1 - k), t2 ||| ((s1 / 2 ^ k) &&& 1) * 2 ^ (F - 1 - k)⟩⟩ := by
        injection hte with h0 h1
        injection h1 with h1 h2
        rw [← h0, ← h1, ← h2]; rfl
      have HTE := Lib.hid hte
      clear hte
      have hfd : decide ((k : Int) < (F : Int)) = true := decide_eq_true (by omega)
      have hk1 : IntKind.i64.wrap ((k : Int) + 1) = (k : Int) + 1 := by rw [IntKind.wrap_i64]; omega
      have hgw : (F : Int) - 1 - (k : Int) = ((F - 1 - k : Nat) : Int) := by omega
      have ho0 := rev_or (t := t0) (x := s0) (k := k) (g := F - 1 - k) ht.1 hs.1 (by omega)
      have ho1 := rev_or (t := t1) (x := s2) (k := k) (g := F - 1 - k) ht.2.1 hs.2.2 (by omega)
      have ho2 := rev_or (t := t2) (x := s1) (k := k) (g := F - 1 - k) ht.2.2 hs.2.1 (by omega)
      obtain ⟨a0, a1, a2⟩ := stRow HB0.out.r0
      obtain ⟨b0, b1, b2⟩ := stRow HB0.out.r1
      generalize F - 1 - k = g at *
      generalize hq0 : (t0 ||| ((s0 / 2 ^ k) &&& 1) * 2 ^ g : Nat) = q0 at *
      generalize hq1 : (t1 ||| ((s2 / 2 ^ k) &&& 1) * 2 ^ g : Nat) = q1 at *
      generalize hq2 : (t2 ||| ((s1 / 2 ^ k) &&& 1) * 2 ^ g : Nat) = q2 at *
      have hr := HB0.out.r0
      go_wp2_with (with_reducible show wpList _ _ _ (Oper.mk _ (.store 26 _ _) _ _ _ _ :: _) _ _; refine Hid.out ?_)
      refine Lib.hid ?_
      refine wpList_putCell rfl 26 _ _ rfl (w.heap.size + 2) 0 (.int .u32 (q0 : Int)) _ _ 30 rfl (by first | rfl | (rw [← ho0]; rfl)) hr (by kernel_rfl) (by simp) rfl rfl rfl ?_
      intro w3 hr3 hg3
      refine Hid.out ?_
      have HB3 : Hid (Bx w [(w.heap.size + 2, .cells #[.int .u32 q0, .int .u32 t1, .int .u32 t2] 30 (0, 0)), (w.heap.size + 1, .cells #[.int .u32 s0, .int .u32 s1, .int .u32 s2] 30 (0, 0))] w3) := Lib.hid (HB0.out.put (by omega) hg3.out hr3.out (by simp only [List.mem_cons, List.not_mem_nil, or_false]; rintro p (rfl | rfl) <;> simp))
      clear hr hr3 hg3 HB0 a0 a1 a2 b0 b1 b2
      obtain ⟨a0, a1, a2⟩ := stRow HB3.out.r0
      obtain ⟨b0, b1, b2⟩ := stRow HB3.out.r1
      refine Lib.hid ?_
      have hr := HB3.out.r0
      go_wp2_with (with_reducible show wpList _ _ _ (Oper.mk _ (.store 26 _ _) _ _ _ _ :: _) _ _; refine Hid.out ?_)
      refine Lib.hid ?_
      refine wpList_putCell rfl 26 _ _ rfl (w.heap.size + 2) 1 (.int .u32 (q1 : Int)) _ _ 30 rfl (by first | rfl | (rw [← ho1]; rfl)) hr (by kernel_rfl) (by simp) rfl rfl rfl ?_
      intro w4 hr4 hg4
      refine Hid.out ?_
      have HB4 : Hid (Bx w [(w.heap.size + 2, .cells #[.int .u32 q0, .int .u32 q1, .int .u32 t2] 30 (0, 0)), (w.heap.size + 1, .cells #[.int .u32 s0, .int .u32 s1, .int .u32 s2] 30 (0, 0))] w4) := Lib.hid (HB3.out.put (by omega) hg4.out hr4.out (by simp only [List.mem_cons, List.not_mem_nil, or_false]; rintro p (rfl | rfl) <;> simp))
      clear hr hr4 hg4 HB3 a0 a1 a2 b0 b1 b2
      obtain ⟨a0, a1, a2⟩ := stRow HB4.out.r0
      obtain ⟨b0, b1, b2⟩ := stRow HB4.out.r1
      refine Lib.hid ?_
      have hr := HB4.out.r0
      go_wp2_with (with_reducible show wpList _ _ _ (Oper.mk _ (.store 26 _ _) _ _ _ _ :: _) _ _; refine Hid.out ?_)
      refine Lib.hid ?_
      refine wpList_putCell rfl 26 _ _ rfl (w.heap.size + 2) 2 (.int .u32 (q2 : Int)) _ _ 30 rfl (by first | rfl | (rw [← ho2]; rfl)) hr (by kernel_rfl) (by simp) rfl rfl rfl ?_
      intro w5 hr5 hg5
      refine Hid.out ?_
      have HB5 : Hid (Bx w [(w.heap.size + 2, .cells #[.int .u32 q0, .int .u32 q1, .int .u32 q2] 30 (0, 0)), (w.heap.size + 1, .cells #[.int .u32 s0, .int .u32 s1, .int .u32 s2] 30 (0, 0))] w5) := Lib.hid (HB4.out.put (by omega) hg5.out hr5.out (by simp only [List.mem_cons, List.not_mem_nil, or_false]; rintro p (rfl | rfl) <;> simp))
      clear hr hr5 hg5 HB4 a0 a1 a2 b0 b1 b2
      obtain ⟨a0, a1, a2⟩ := stRow HB5.out.r0
      obtain ⟨b0, b1, b2⟩ := stRow HB5.out.r1
      refine Lib.hid ?_
      go_wp2_with fail
      go_roundw
      case rel => exact ⟨k + 1, by omega, by rw [Int.natCast_add]; rfl, q0, q1, q2, HTE.out, HB5.out⟩
      case measure => simp [intOf]; omega
    · have hke : k = F := by omega
      subst hke
      have hfd : decide ((k : Int) < (k : Int)) = false := decide_eq_false (by omega)
      have hm := Cv.revS_mir k ⟨s0, ⟨s1, s2⟩⟩ hF32
      rw [hte] at hm
      clear hte hkl hkF
      generalize hFk : k = F at *
      clear hFk
      go_wp2_with (with_reducible show wpList _ _ _ (Oper.mk _ (.buildSlice _ _ _) _ _ _ _ :: _) _ _; refine Hid.out ?_)
      refine Lib.hid ?_
      refine wpList_back rfl rfl ?_
      try simp only [Act.put, List.setIfInBounds_toArray, List.set_cons_succ, List.set_cons_zero]
      have HBa := Lib.hid (HB0.out.make (heap_alloc_new wr (.cells #[.int .i64 0, .int .i64 2, .int .i64 1] 3)) ((Below.refl wr.heap.size wr).alloc (Nat.le_refl _) (.cells #[.int .i64 0, .int .i64 2, .int .i64 1] 3)))
      generalize wr.alloc (.cells #[.int .i64 0, .int .i64 2, .int .i64 1] 3) = wa at *
      clear HB0
      generalize wr.heap.size = gb at *
      go_wp2_with (with_reducible show wpList _ _ _ (Oper.mk _ (.buildSlice _ _ _) _ _ _ _ :: _) _ _; refine Hid.out ?_)
      refine Lib.hid ?_
      refine wpList_turn rfl rfl ?_
      try simp only [Act.put, List.setIfInBounds_toArray, List.set_cons_succ, List.set_cons_zero]
      have HBb := Lib.hid (HBa.out.make (heap_alloc_new wa (.cells #[.int .i64 0, .int .i64 2, .int .i64 1, .int .i64 3] 3)) ((Below.refl wa.heap.size wa).alloc (Nat.le_refl _) (.cells #[.int .i64 0, .int .i64 2, .int .i64 1, .int .i64 3] 3)))
      generalize wa.alloc (.cells #[.int .i64 0, .int .i64 2, .int .i64 1, .int .i64 3] 3) = wb at *
      clear HBa
      generalize wa.heap.size = gt at *
      go_wp2_with fail
      go_loopw [14] (fun vd wr => ∃ d : Int, (d = 1 ∨ d = 2 ∨ d = 3) ∧ vd = .int .i64 d ∧ Bx w [(gt, .cells #[.int .i64 0, .int .i64 2, .int .i64 1, .int .i64 3] 3 (0, 0)), (gb, .cells #[.int .i64 0, .int .i64 2, .int .i64 1] 3 (0, 0)), (w.heap.size + 2, .cells #[.int .u32 t0, .int .u32 t1, .int .u32 t2] 30 (0, 0)), (w.heap.size + 1, .cells #[.int .u32 s0, .int .u32 s1, .int .u32 s2] 30 (0, 0))] wr) (fun vd _ => 3 - (intOf vd).toNat)
      case atStart => exact ⟨1, by omega, rfl, HBb.out⟩
      case round =>
        obtain ⟨d, hd, rfl, hbx⟩ := hrel
        have HB0 := Lib.hid hbx
        clear hbx HBb
        rcases hd with rfl | rfl | rfl
        · go_wp2_with fail
          go_loopw [15] (fun vo wr => ∃ o : Nat, o ≤ 8 ∧ vo = .int .i64 (o : Int) ∧ Bx w [(gt, .cells #[.int .i64 0, .int .i64 2, .int .i64 1, .int .i64 3] 3 (0, 0)), (gb, .cells #[.int .i64 0, .int .i64 2, .int .i64 1] 3 (0, 0)), (w.heap.size + 2, .cells #[.int .u32 t0, .int .u32 t1, .int .u32 t2] 30 (0, 0)), (w.heap.size + 1, .cells #[.int .u32 s0, .int .u32 s1, .int .u32 s2] 30 (0, 0))] wr) (fun vo _ => 8 - (intOf vo).toNat)
          case atStart => exact ⟨0, by omega, rfl, HB0.out⟩
          case round =>
            obtain ⟨o, ho8, rfl, hbx⟩ := hrel
            have HB1 := Lib.hid hbx
            clear hbx HB0
            by_cases hol : o < 8
            · have hoo : decide ((o : Int) < 8) = true := decide_eq_true (by omega)
              have ho1 : IntKind.i64.wrap ((o : Int) + 1) = (o : Int) + 1 := by rw [IntKind.wrap_i64]; omega
              have FC1 := Lib.hid (fun wx (hb : Below w.heap.size w wx) => ChooseGood_any F f 1 o ⟨s0, ⟨s1, s2⟩⟩ wx hF2 hF32 hfF (by decide) (by omega) hs (hT.below hb))
              have FE1 := Lib.hid (fun wx (hb : Below w.heap.size w wx) => ChooseGood_any F (F - 1 - f) 2 (Cv.flipO o) ⟨t0, ⟨t1, t2⟩⟩ wx hF2 hF32 (by omega) (by decide) (by have := (Cv.flipO_facts ⟨o, hol⟩).2.2.2; simp only at this; omega) ht (hT.below hb))
              have hin := Cv.ch_in (Cv.look F o f ⟨s0, ⟨s1, s2⟩⟩) 1 (Cv.look_fit _ _ _ _) (by omega)
              rw [(Cv.choose_mir hs ht hm hF32 hfF hol).1] at FE1
              have hfo := flip_int ⟨o, hol⟩
              simp only at hfo
              have hfe : ((F - 1 - f : Nat) : Int) = (F : Int) - 1 - (f : Int) := by omega
              have hF1 : IntKind.i64.wrap ((F : Int) - 1) = (F : Int) - 1 := by rw [IntKind.wrap_i64]; omega
              have hF1f : IntKind.i64.wrap ((F : Int) - 1 - (f : Int)) = (F : Int) - 1 - (f : Int) := by rw [IntKind.wrap_i64]; omega
              rw [hfe] at FE1
              rw [← hfo] at FE1
              clear hfe hfo
              obtain ⟨b0, b1, b2⟩ := stRow HB1.out.r3
              generalize Cv.choose (Cv.look F o f ⟨s0, ⟨s1, s2⟩⟩) 1 = z at *
              obtain ⟨y, hy⟩ : ∃ y, y = Cv.flipC z := ⟨_, rfl⟩
              rw [← hy] at FE1
              simp only [Stp.agg] at *
              obtain ⟨z0, z1, z2⟩ := z
              obtain ⟨y0, y1, y2⟩ := y
              simp only [Cv.Ch.agg] at *
              have HY := Lib.hid hy
              have HIN := Lib.hid hin
              clear hy hin
              go_wp2_with fail
              refine (FC1.out _ HB1.out.below).mono ?_
              rintro e w4 ⟨rfl, hb4⟩
              have HB4 := Lib.hid (HB1.out.next hb4)
              clear hb4 HB1 b0 b1 b2
              have hl0 := (Array.getElem?_eq_some_iff.1 HB4.out.r0).1
              have hl1 := (Array.getElem?_eq_some_iff.1 HB4.out.r1).1
              have hl2 := (Array.getElem?_eq_some_iff.1 HB4.out.r2).1
              simp only at hl0 hl1 hl2
              go_wp2_with (with_reducible show wpList _ _ _ (Oper.mk _ (.store 38 _ _) _ _ _ _ :: _) _ _; refine Hid.out ?_)
              refine Lib.hid ?_
              refine wpList_put rfl 38 _ _ rfl w4.heap.size #[.int .i64 ((z0 : Nat) : Int), .int .i64 ((z1 : Nat) : Int), .int .i64 ((z2 : Nat) : Int)] _ 38 rfl rfl (heap_alloc_new w4 _) (by kernel_rfl) rfl (by kernel_rfl) ?_
              intro w5 hr5 hg5
              have HB5 : Hid (Bx w [(w4.heap.size, .cells #[.int .i64 ((z0 : Nat) : Int), .int .i64 ((z1 : Nat) : Int), .int .i64 ((z2 : Nat) : Int)] 38 (0, 0)), (gt, .cells #[.int .i64 0, .int .i64 2, .int .i64 1, .int .i64 3] 3 (0, 0)), (gb, .cells #[.int .i64 0, .int .i64 2, .int .i64 1] 3 (0, 0)), (w.heap.size + 2, .cells #[.int .u32 t0, .int .u32 t1, .int .u32 t2] 30 (0, 0)), (w.heap.size + 1, .cells #[.int .u32 s0, .int .u32 s1, .int .u32 s2] 30 (0, 0))] w5) := Lib.hid ((HB4.out.make (heap_alloc_new w4 (.cells #[.int .i64 0, .int .i64 0, .int .i64 0] 38)) ((Below.refl w4.heap.size w4).alloc (Nat.le_refl _) _)).put HB4.out.below.size hg5.out hr5.out (by simp only [List.mem_cons, List.not_mem_nil, or_false]; rintro p (rfl | rfl | rfl | rfl | rfl) <;> simp <;> omega))
              generalize w4.heap.size = gc at *
              clear hr5 hg5 HB4
              refine Hid.out ?_
              refine Lib.hid ?_
              go_wp2_with fail
              refine Ghost.ghost (fun γ L wx => Decls (w5).heap.size (w5) [(⟨22, 23, 38, #[.int .i64 0, .int .i64 0, .int .i64 0], #[.int .i64 ((y0 : Nat) : Int), .int .i64 ((y1 : Nat) : Int), .int .i64 ((y2 : Nat) : Int)]⟩ : Decl)] γ L wx) (by kernel_rfl) (by kernel_rfl) (fun γ => Decls.start _ γ (Below.refl _ _).drew (Nat.le_refl _)) ?_
              apply Ghost.walk_const (fun γ => by rfl)
              · intro γ L wx h1 h2 hx K hK
                have HXx := HB5.out.next hx.below
                obtain ⟨m0, m1, m2⟩ := stRow HXx.r3
                obtain ⟨k0, k1, k2⟩ := bkRow HXx.r2
                have HK2 := Lib.hid hK
                have HX := Lib.hid hx
                clear hK h1 h2 hx
                go_simp
                first
                  | (go_at_call 11; refine (FE1.out _ (HB5.out.next (HX.out.below)).below).mono ?_; rintro e y1 ⟨rfl, hb⟩; exact HK2.out _ (HX.out.quiet 0 (by rfl) hb))
                  | exact HK2.out _ (HX.out.quiet 0 (by rfl) (Below.refl _ _))
              simp only [Act.put, List.setIfInBounds_toArray, List.set_cons_succ, List.set_cons_zero]
              apply Ghost.walk_const (fun γ => by rfl)
              · intro γ L wx h1 h2 hx K hK
                have HXx := HB5.out.next hx.below
                obtain ⟨m0, m1, m2⟩ := stRow HXx.r3
                obtain ⟨k0, k1, k2⟩ := bkRow HXx.r2
                have HK2 := Lib.hid hK
                have HX := Lib.hid hx
                clear hK h1 h2 hx
                go_simp
                first
                  | (go_at_call 11; refine (FE1.out _ (HB5.out.next (HX.out.below)).below).mono ?_; rintro e y1 ⟨rfl, hb⟩; exact HK2.out _ (HX.out.quiet 0 (by rfl) hb))
                  | exact HK2.out _ (HX.out.quiet 0 (by rfl) (Below.refl _ _))
              simp only [Act.put, List.setIfInBounds_toArray, List.set_cons_succ, List.set_cons_zero]
              apply Ghost.walk_const (fun γ => by rfl)
              · intro γ L wx h1 h2 hx K hK
                have HXx := HB5.out.next hx.below
                obtain ⟨m0, m1, m2⟩ := stRow HXx.r3
                obtain ⟨k0, k1, k2⟩ := bkRow HXx.r2
                have HK2 := Lib.hid hK
                have HX := Lib.hid hx
                clear hK h1 h2 hx
                go_simp
                first
                  | (go_at_call 11; refine (FE1.out _ (HB5.out.next (HX.out.below)).below).mono ?_; rintro e y1 ⟨rfl, hb⟩; exact HK2.out _ (HX.out.quiet 0 (by rfl) hb))
                  | exact HK2.out _ (HX.out.quiet 0 (by rfl) (Below.refl _ _))
              simp only [Act.put, List.setIfInBounds_toArray, List.set_cons_succ, List.set_cons_zero]
              apply Ghost.walk_const (fun γ => by rfl)
              · intro γ L wx h1 h2 hx K hK
                have HXx := HB5.out.next hx.below
                obtain ⟨m0, m1, m2⟩ := stRow HXx.r3
                obtain ⟨k0, k1, k2⟩ := bkRow HXx.r2
                have HK2 := Lib.hid hK
                have HX := Lib.hid hx
                clear hK h1 h2 hx
                go_simp
                first
                  | (go_at_call 11; refine (FE1.out _ (HB5.out.next (HX.out.below)).below).mono ?_; rintro e y1 ⟨rfl, hb⟩; exact HK2.out _ (HX.out.quiet 0 (by rfl) hb))
                  | exact HK2.out _ (HX.out.quiet 0 (by rfl) (Below.refl _ _))
              simp only [Act.put, List.setIfInBounds_toArray, List.set_cons_succ, List.set_cons_zero]
              apply Ghost.walk_const (fun γ => by rfl)
              · intro γ L wx h1 h2 hx K hK
                have HXx := HB5.out.next hx.below
                obtain ⟨m0, m1, m2⟩ := stRow HXx.r3
                obtain ⟨k0, k1, k2⟩ := bkRow HXx.r2
                have HK2 := Lib.hid hK
                have HX := Lib.hid hx
                clear hK h1 h2 hx
                go_simp
                first
                  | (go_at_call 11; refine (FE1.out _ (HB5.out.next (HX.out.below)).below).mono ?_; rintro e y1 ⟨rfl, hb⟩; exact HK2.out _ (HX.out.quiet 0 (by rfl) hb))
                  | exact HK2.out _ (HX.out.quiet 0 (by rfl) (Below.refl _ _))
              simp only [Act.put, List.setIfInBounds_toArray, List.set_cons_succ, List.set_cons_zero]
              apply Ghost.walk_const (fun γ => by rfl)
              · intro γ L wx h1 h2 hx K hK
                have HXx := HB5.out.next hx.below
                obtain ⟨m0, m1, m2⟩ := stRow HXx.r3
                obtain ⟨k0, k1, k2⟩ := bkRow HXx.r2
                have HK2 := Lib.hid hK
                have HX := Lib.hid hx
                clear hK h1 h2 hx
                go_simp
                first
                  | (go_at_call 11; refine (FE1.out _ (HB5.out.next (HX.out.below)).below).mono ?_; rintro e y1 ⟨rfl, hb⟩; exact HK2.out _ (HX.out.quiet 0 (by rfl) hb))
                  | exact HK2.out _ (HX.out.quiet 0 (by rfl) (Below.refl _ _))
              simp only [Act.put, List.setIfInBounds_toArray, List.set_cons_succ, List.set_cons_zero]
              apply Ghost.walk_const (fun γ => by rfl)
              · intro γ L wx h1 h2 hx K hK
                have HXx := HB5.out.next hx.below
                obtain ⟨m0, m1, m2⟩ := stRow HXx.r3
                obtain ⟨k0, k1, k2⟩ := bkRow HXx.r2
                have HK2 := Lib.hid hK
                have HX := Lib.hid hx
                clear hK h1 h2 hx
                go_simp
                first
                  | (go_at_call 11; refine (FE1.out _ (HB5.out.next (HX.out.below)).below).mono ?_; rintro e y1 ⟨rfl, hb⟩; exact HK2.out _ (HX.out.quiet 0 (by rfl) hb))
                  | exact HK2.out _ (HX.out.quiet 0 (by rfl) (Below.refl _ _))
              simp only [Act.put, List.setIfInBounds_toArray, List.set_cons_succ, List.set_cons_zero]
              apply Ghost.walk_const (fun γ => by rfl)
              · intro γ L wx h1 h2 hx K hK
                have HXx := HB5.out.next hx.below
                obtain ⟨m0, m1, m2⟩ := stRow HXx.r3
                obtain ⟨k0, k1, k2⟩ := bkRow HXx.r2
                have HK2 := Lib.hid hK
                have HX := Lib.hid hx
                clear hK h1 h2 hx
                go_simp
                first
                  | (go_at_call 11; refine (FE1.out _ (HB5.out.next (HX.out.below)).below).mono ?_; rintro e y1 ⟨rfl, hb⟩; exact HK2.out _ (HX.out.quiet 0 (by rfl) hb))
                  | exact HK2.out _ (HX.out.quiet 0 (by rfl) (Below.refl _ _))
              simp only [Act.put, List.setIfInBounds_toArray, List.set_cons_succ, List.set_cons_zero]
              apply Ghost.walk_const (fun γ => by rfl)
              · intro γ L wx h1 h2 hx K hK
                have HXx := HB5.out.next hx.below
                obtain ⟨m0, m1, m2⟩ := stRow HXx.r3
                obtain ⟨k0, k1, k2⟩ := bkRow HXx.r2
                have HK2 := Lib.hid hK
                have HX := Lib.hid hx
                clear hK h1 h2 hx
                go_simp
                first
                  | (go_at_call 11; refine (FE1.out _ (HB5.out.next (HX.out.below)).below).mono ?_; rintro e y1 ⟨rfl, hb⟩; exact HK2.out _ (HX.out.quiet 0 (by rfl) hb))
                  | exact HK2.out _ (HX.out.quiet 0 (by rfl) (Below.refl _ _))
              simp only [Act.put, List.setIfInBounds_toArray, List.set_cons_succ, List.set_cons_zero]
              apply Ghost.walk_const (fun γ => by rfl)
              · intro γ L wx h1 h2 hx K hK
                have HXx := HB5.out.next hx.below
                obtain ⟨m0, m1, m2⟩ := stRow HXx.r3
                obtain ⟨k0, k1, k2⟩ := bkRow HXx.r2
                have HK2 := Lib.hid hK
                have HX := Lib.hid hx
                clear hK h1 h2 hx
                go_simp
                first
                  | (go_at_call 11; refine (FE1.out _ (HB5.out.next (HX.out.below)).below).mono ?_; rintro e y1 ⟨rfl, hb⟩; exact HK2.out _ (HX.out.quiet 0 (by rfl) hb))
                  | exact HK2.out _ (HX.out.quiet 0 (by rfl) (Below.refl _ _))
              simp only [Act.put, List.setIfInBounds_toArray, List.set_cons_succ, List.set_cons_zero]
              apply Ghost.walk_const (fun γ => by rfl)
              · intro γ L wx h1 h2 hx K hK
                have HXx := HB5.out.next hx.below
                obtain ⟨m0, m1, m2⟩ := stRow HXx.r3
                obtain ⟨k0, k1, k2⟩ := bkRow HXx.r2
                have HK2 := Lib.hid hK
                have HX := Lib.hid hx
                clear hK h1 h2 hx
                go_simp
                first
                  | (go_at_call 11; refine (FE1.out _ (HB5.out.next (HX.out.below)).below).mono ?_; rintro e y1 ⟨rfl, hb⟩; exact HK2.out _ (HX.out.quiet 0 (by rfl) hb))
                  | exact HK2.out _ (HX.out.quiet 0 (by rfl) (Below.refl _ _))
              simp only [Act.put, List.setIfInBounds_toArray, List.set_cons_succ, List.set_cons_zero]
              apply Ghost.walk_const (fun γ => by rfl)
              · intro γ L wx h1 h2 hx K hK
                have HXx := HB5.out.next hx.below
                obtain ⟨m0, m1, m2⟩ := stRow HXx.r3
                obtain ⟨k0, k1, k2⟩ := bkRow HXx.r2
                have HK2 := Lib.hid hK
                have HX := Lib.hid hx
                clear hK h1 h2 hx
                go_simp
                first
                  | (go_at_call 11; refine (FE1.out _ (HB5.out.next (HX.out.below)).below).mono ?_; rintro e y1 ⟨rfl, hb⟩; exact HK2.out _ (HX.out.quiet 0 (by rfl) hb))
                  | exact HK2.out _ (HX.out.quiet 0 (by rfl) (Below.refl _ _))
              simp only [Act.put, List.setIfInBounds_toArray, List.set_cons_succ, List.set_cons_zero]
              apply Ghost.walk_const (fun γ => by rfl)
              · intro γ L wx h1 h2 hx K hK
                have HXx := HB5.out.next hx.below
                obtain ⟨m0, m1, m2⟩ := stRow HXx.r3
                obtain ⟨k0, k1, k2⟩ := bkRow HXx.r2
                have HK2 := Lib.hid hK
                have HX := Lib.hid hx
                clear hK h1 h2 hx
                go_simp
                first
                  | (go_at_call 11; refine (FE1.out _ (HB5.out.next (HX.out.below)).below).mono ?_; rintro e y1 ⟨rfl, hb⟩; exact HK2.out _ (HX.out.quiet 0 (by rfl) hb))
                  | exact HK2.out _ (HX.out.quiet 0 (by rfl) (Below.refl _ _))
              simp only [Act.put, List.setIfInBounds_toArray, List.set_cons_succ, List.set_cons_zero]
              apply Ghost.walk_const (fun γ => by rfl)
              · intro γ L wx h1 h2 hx K hK
                have HXx := HB5.out.next hx.below
                obtain ⟨m0, m1, m2⟩ := stRow HXx.r3
                obtain ⟨k0, k1, k2⟩ := bkRow HXx.r2
                have HK2 := Lib.hid hK
                have HX := Lib.hid hx
                clear hK h1 h2 hx
                go_simp
                first
                  | (go_at_call 11; refine (FE1.out _ (HB5.out.next (HX.out.below)).below).mono ?_; rintro e y1 ⟨rfl, hb⟩; exact HK2.out _ (HX.out.quiet 0 (by rfl) hb))
                  | exact HK2.out _ (HX.out.quiet 0 (by rfl) (Below.refl _ _))
              simp only [Act.put, List.setIfInBounds_toArray, List.set_cons_succ, List.set_cons_zero]
              apply Ghost.walk_const (fun γ => by rfl)
              · intro γ L wx h1 h2 hx K hK
                have HXx := HB5.out.next hx.below
                obtain ⟨m0, m1, m2⟩ := stRow HXx.r3
                obtain ⟨k0, k1, k2⟩ := bkRow HXx.r2
                have HK2 := Lib.hid hK
                have HX := Lib.hid hx
                clear hK h1 h2 hx
                go_simp
                first
                  | (go_at_call 11; refine (FE1.out _ (HB5.out.next (HX.out.below)).below).mono ?_; rintro e y1 ⟨rfl, hb⟩; exact HK2.out _ (HX.out.quiet 0 (by rfl) hb))
                  | exact HK2.out _ (HX.out.quiet 0 (by rfl) (Below.refl _ _))
              simp only [Act.put, List.setIfInBounds_toArray, List.set_cons_succ, List.set_cons_zero]
              apply Ghost.walk_const (fun γ => by rfl)
              · intro γ L wx h1 h2 hx K hK
                have HXx := HB5.out.next hx.below
                obtain ⟨m0, m1, m2⟩ := stRow HXx.r3
                obtain ⟨k0, k1, k2⟩ := bkRow HXx.r2
                have HK2 := Lib.hid hK
                have HX := Lib.hid hx
                clear hK h1 h2 hx
                go_simp
                first
                  | (go_at_call 11; refine (FE1.out _ (HB5.out.next (HX.out.below)).below).mono ?_; rintro e y1 ⟨rfl, hb⟩; exact HK2.out _ (HX.out.quiet 0 (by rfl) hb))
                  | exact HK2.out _ (HX.out.quiet 0 (by rfl) (Below.refl _ _))
              simp only [Act.put, List.setIfInBounds_toArray, List.set_cons_succ, List.set_cons_zero]
              apply Ghost.walk_const (fun γ => by rfl)
              · intro γ L wx h1 h2 hx K hK
                have HXx := HB5.out.next hx.below
                obtain ⟨m0, m1, m2⟩ := stRow HXx.r3
                obtain ⟨k0, k1, k2⟩ := bkRow HXx.r2
                have HK2 := Lib.hid hK
                have HX := Lib.hid hx
                clear hK h1 h2 hx
                go_simp
                first
                  | (go_at_call 11; refine (FE1.out _ (HB5.out.next (HX.out.below)).below).mono ?_; rintro e y1 ⟨rfl, hb⟩; exact HK2.out _ (HX.out.quiet 0 (by rfl) hb))
                  | exact HK2.out _ (HX.out.quiet 0 (by rfl) (Below.refl _ _))
              simp only [Act.put, List.setIfInBounds_toArray, List.set_cons_succ, List.set_cons_zero]
              apply Ghost.walk_const (fun γ => by rfl)
              · intro γ L wx h1 h2 hx K hK
                have HXx := HB5.out.next hx.below
                obtain ⟨m0, m1, m2⟩ := stRow HXx.r3
                obtain ⟨k0, k1, k2⟩ := bkRow HXx.r2
                have HK2 := Lib.hid hK
                have HX := Lib.hid hx
                clear hK h1 h2 hx
                go_simp
                first
                  | (go_at_call 11; refine (FE1.out _ (HB5.out.next (HX.out.below)).below).mono ?_; rintro e y1 ⟨rfl, hb⟩; exact HK2.out _ (HX.out.quiet 0 (by rfl) hb))
                  | exact HK2.out _ (HX.out.quiet 0 (by rfl) (Below.refl _ _))
              simp only [Act.put, List.setIfInBounds_toArray, List.set_cons_succ, List.set_cons_zero]
              apply Ghost.walk_const (fun γ => by rfl)
              · intro γ L wx h1 h2 hx K hK
                have HXx := HB5.out.next hx.below
                obtain ⟨m0, m1, m2⟩ := stRow HXx.r3
                obtain ⟨k0, k1, k2⟩ := bkRow HXx.r2
                have HK2 := Lib.hid hK
                have HX := Lib.hid hx
                clear hK h1 h2 hx
                go_simp
                first
                  | (go_at_call 11; refine (FE1.out _ (HB5.out.next (HX.out.below)).below).mono ?_; rintro e y1 ⟨rfl, hb⟩; exact HK2.out _ (HX.out.quiet 0 (by rfl) hb))
                  | exact HK2.out _ (HX.out.quiet 0 (by rfl) (Below.refl _ _))
              simp only [Act.put, List.setIfInBounds_toArray, List.set_cons_succ, List.set_cons_zero]
              apply Ghost.walk_const (fun γ => by rfl)
              · intro γ L wx h1 h2 hx K hK
                have HXx := HB5.out.next hx.below
                obtain ⟨m0, m1, m2⟩ := stRow HXx.r3
                obtain ⟨k0, k1, k2⟩ := bkRow HXx.r2
                have HK2 := Lib.hid hK
                have HX := Lib.hid hx
                clear hK h1 h2 hx
                go_simp
                first
                  | (go_at_call 11; refine (FE1.out _ (HB5.out.next (HX.out.below)).below).mono ?_; rintro e y1 ⟨rfl, hb⟩; exact HK2.out _ (HX.out.quiet 0 (by rfl) hb))
                  | exact HK2.out _ (HX.out.quiet 0 (by rfl) (Below.refl _ _))
              simp only [Act.put, List.setIfInBounds_toArray, List.set_cons_succ, List.set_cons_zero]
              apply Ghost.walk_const (fun γ => by rfl)
              · intro γ L wx h1 h2 hx K hK
                have HXx := HB5.out.next hx.below
                obtain ⟨m0, m1, m2⟩ := stRow HXx.r3
                obtain ⟨k0, k1, k2⟩ := bkRow HXx.r2
                have HK2 := Lib.hid hK
                have HX := Lib.hid hx
                clear hK h1 h2 hx
                go_simp
                first
                  | (go_at_call 11; refine (FE1.out _ (HB5.out.next (HX.out.below)).below).mono ?_; rintro e y1 ⟨rfl, hb⟩; exact HK2.out _ (HX.out.quiet 0 (by rfl) hb))
                  | exact HK2.out _ (HX.out.quiet 0 (by rfl) (Below.refl _ _))
              simp only [Act.put, List.setIfInBounds_toArray, List.set_cons_succ, List.set_cons_zero]
              apply Ghost.walk_const (fun γ => by rfl)
              · intro γ L wx h1 h2 hx K hK
                have HXx := HB5.out.next hx.below
                obtain ⟨m0, m1, m2⟩ := stRow HXx.r3
                obtain ⟨k0, k1, k2⟩ := bkRow HXx.r2
                have HK2 := Lib.hid hK
                have HX := Lib.hid hx
                clear hK h1 h2 hx
                go_simp
                first
                  | (go_at_call 11; refine (FE1.out _ (HB5.out.next (HX.out.below)).below).mono ?_; rintro e y1 ⟨rfl, hb⟩; exact HK2.out _ (HX.out.quiet 0 (by rfl) hb))
                  | exact HK2.out _ (HX.out.quiet 0 (by rfl) (Below.refl _ _))
              simp only [Act.put, List.setIfInBounds_toArray, List.set_cons_succ, List.set_cons_zero]
              refine Ghost.walk_yes (fun b => .pointer (some ⟨b, 0, none⟩)) (fun γ => by rfl) ?_ ?_
              · intro γ L wx h1 h2 hx K hK
                have HK2 := Lib.hid hK
                clear hK h2
                have hL : L (⟨22, 23, 38, #[.int .i64 0, .int .i64 0, .int .i64 0], #[.int .i64 ((y0 : Nat) : Int), .int .i64 ((y1 : Nat) : Int), .int .i64 ((y2 : Nat) : Int)]⟩ : Decl).al = false := h1
                clear h1
                go_simp
                exact HK2.out wx.heap.size _ (hx.alloc (⟨22, 23, 38, #[.int .i64 0, .int .i64 0, .int .i64 0], #[.int .i64 ((y0 : Nat) : Int), .int .i64 ((y1 : Nat) : Int), .int .i64 ((y2 : Nat) : Int)]⟩ : Decl) (decl_mem _) hL (by rfl) (decl_al _))
              simp only [Act.put, List.setIfInBounds_toArray, List.set_cons_succ, List.set_cons_zero]
              refine Ghost.walk_yes (fun _ => undef) (fun γ => by rfl) ?_ ?_
              · intro γ L wx h1 h2 hx K hK
                have hA : L (⟨22, 23, 38, #[.int .i64 0, .int .i64 0, .int .i64 0], #[.int .i64 ((y0 : Nat) : Int), .int .i64 ((y1 : Nat) : Int), .int .i64 ((y2 : Nat) : Int)]⟩ : Decl).al = true := h2 22 (by kernel_rfl)
                exact hx.wp_store (⟨22, 23, 38, #[.int .i64 0, .int .i64 0, .int .i64 0], #[.int .i64 ((y0 : Nat) : Int), .int .i64 ((y1 : Nat) : Int), .int .i64 ((y2 : Nat) : Int)]⟩ : Decl) (decl_mem _) h1 hA _ _ rfl rfl rfl (by kernel_rfl) rfl (by kernel_rfl) (hK 0 _ (hx.store (⟨22, 23, 38, #[.int .i64 0, .int .i64 0, .int .i64 0], #[.int .i64 ((y0 : Nat) : Int), .int .i64 ((y1 : Nat) : Int), .int .i64 ((y2 : Nat) : Int)]⟩ : Decl) (decl_mem _) hA (by rfl) (decl_st _) (decl_al _) 0))
              simp only [Act.put]
              refine Ghost.walk_nil (fun γ L w6 hall hD => ?_)
              obtain ⟨hg1, hg2, hb6⟩ := hD.done1 hall (by show 22 < 24; decide) (by show 23 < 24; decide)
              clear hall hD
              simp only [Nat.zero_add, Nat.reduceAdd] at hg1 hg2 ⊢
              generalize γ 22 = ge at *
              have HB6 := Lib.hid (HB5.out.make hg2 hb6)
              clear hg1 hg2 hb6 HB5
              obtain ⟨e0, e1, e2⟩ := ch3Row HB6.out.r0
              obtain ⟨c0, c1, c2⟩ := ch3Row HB6.out.r1
              obtain ⟨k0, k1, k2⟩ := bkRow HB6.out.r3
              obtain ⟨u0, u1, u2, u3⟩ := tuRow HB6.out.r2
              have hin := HIN.out
              have hy := HY.out
              clear HIN HY
              simp only [List.mem_cons, List.not_mem_nil, or_false] at hin
              have hzb : z0 ≤ 3 ∧ z1 ≤ 2 ∧ z2 ≤ 2 := by
                rcases hin with h | h | h | h | h | h <;> (injection h with h0 h1 h2; subst h0 h1 h2; decide)
              clear hin
              have hfl : (⟨y0, y1, y2⟩ : Cv.Ch) = ⟨Cv.back z0, Cv.back z1, Cv.back z2⟩ := hy
              injection hfl with h0 h1 h2
              have hu0 := tu_at hzb.1
              have hu1 := bk_at hzb.2.1
              have hu2 := bk_at hzb.2.2
              rw [← h0] at hu0
              rw [← h1] at hu1
              rw [← h2] at hu2
              have HU0 := Lib.hid hu0
              have HU1 := Lib.hid hu1
              have HU2 := Lib.hid hu2
              have hne := neqCh (y0 : Int) (y1 : Int) (y2 : Int) (y0 : Int) (y1 : Int) (y2 : Int)
              simp only [beq_self_eq_true, Bool.and_self, Bool.not_true] at hne
              have i0 : (z0 : Int) < 4 := by omega
              have i1 : (z1 : Int) < 3 := by omega
              have i2 : (z2 : Int) < 3 := by omega
              have d0 : decide ((z0 : Int) < 0) = false := decide_eq_false (by omega)
              have d1 : decide ((z0 : Int) > 3) = false := decide_eq_false (by omega)
              have d2 : decide ((z1 : Int) < 0) = false := decide_eq_false (by omega)
              have d3 : decide ((z1 : Int) > 2) = false := decide_eq_false (by omega)
              have d4 : decide ((z2 : Int) < 0) = false := decide_eq_false (by omega)
              have d5 : decide ((z2 : Int) > 2) = false := decide_eq_false (by omega)
              have d6 : decide (3 < (z0 : Int)) = false := decide_eq_false (by omega)
              have d7 : decide (2 < (z1 : Int)) = false := decide_eq_false (by omega)
              have d8 : decide (2 < (z2 : Int)) = false := decide_eq_false (by omega)
              clear hu0 hu1 hu2 h0 h1 h2 hy hzb
              clear e0 e1 e2 c0 c1 c2 k0 k1 k2 u0 u1 u2 u3
              go_wp2_with fail
              refine Bag.region (fun wx => Below w6.heap.size w6 wx) (by kernel_rfl) (by kernel_rfl) (Below.refl _ _).drew ?_
              iterate 48 (first
                  | (apply Bag.walk_yes (by rfl)
                     (intro wx hx K hK
                      have HXx := HB6.out.next hx
                      obtain ⟨e0, e1, e2⟩ := ch3Row HXx.r0
                      obtain ⟨c0, c1, c2⟩ := ch3Row HXx.r1
                      have u0 : wx.cell? ⟨gt, z0, none⟩ = some (.int .i64 (y0 : Int)) := (cell_of_row _ _ _ _ _ (0, 0) HXx.r2).trans HU0.out
                      have k1 : wx.cell? ⟨gb, z1, none⟩ = some (.int .i64 (y1 : Int)) := (cell_of_row _ _ _ _ _ (0, 0) HXx.r3).trans HU1.out
                      have k2 : wx.cell? ⟨gb, z2, none⟩ = some (.int .i64 (y2 : Int)) := (cell_of_row _ _ _ _ _ (0, 0) HXx.r3).trans HU2.out
                      first
                        | (go_simp
                           first
                            | (go_at_K; exact hK _ hx)))
                     rfl)
                  | (refine Bag.walk_no (by rfl) ?_; simp only [Act.put, List.setIfInBounds_toArray, List.set_cons_succ, List.set_cons_zero]))
              refine Bag.walk_nil (fun w7 hB => ?_)
              have HB7 := Lib.hid (HB6.out.next hB)
              clear HB6 hB
              go_wp2_with fail
              go_roundw
              case rel => exact ⟨o + 1, by omega, by rw [Int.natCast_add]; rfl, HB7.out.less (by simp only [List.mem_cons, List.not_mem_nil, or_false]; rintro p (rfl | rfl | rfl | rfl) <;> simp)⟩
              case measure => simp [intOf]; omega
            · have hoe : o = 8 := by omega
              subst hoe
              go_wp2_with fail
              go_roundw
              case rel => exact ⟨1 + 1, by omega, rfl, HB1.out⟩
              case measure => simp [intOf]
        · go_wp2_with fail
          go_loopw [15] (fun vo wr => ∃ o : Nat, o ≤ 8 ∧ vo = .int .i64 (o : Int) ∧ Bx w [(gt, .cells #[.int .i64 0, .int .i64 2, .int .i64 1, .int .i64 3] 3 (0, 0)), (gb, .cells #[.int .i64 0, .int .i64 2, .int .i64 1] 3 (0, 0)), (w.heap.size + 2, .cells #[.int .u32 t0, .int .u32 t1, .int .u32 t2] 30 (0, 0)), (w.heap.size + 1, .cells #[.int .u32 s0, .int .u32 s1, .int .u32 s2] 30 (0, 0))] wr) (fun vo _ => 8 - (intOf vo).toNat)
          case atStart => exact ⟨0, by omega, rfl, HB0.out⟩
          case round =>
            obtain ⟨o, ho8, rfl, hbx⟩ := hrel
            have HB1 := Lib.hid hbx
            clear hbx HB0
            by_cases hol : o < 8
            · have hoo : decide ((o : Int) < 8) = true := decide_eq_true (by omega)
              have ho1 : IntKind.i64.wrap ((o : Int) + 1) = (o : Int) + 1 := by rw [IntKind.wrap_i64]; omega
              have FC2 := Lib.hid (fun wx (hb : Below w.heap.size w wx) => ChooseGood_any F f 2 o ⟨s0, ⟨s1, s2⟩⟩ wx hF2 hF32 hfF (by decide) (by omega) hs (hT.below hb))
              have FE2 := Lib.hid (fun wx (hb : Below w.heap.size w wx) => ChooseGood_any F (F - 1 - f) 1 (Cv.flipO o) ⟨t0, ⟨t1, t2⟩⟩ wx hF2 hF32 (by omega) (by decide) (by have := (Cv.flipO_facts ⟨o, hol⟩).2.2.2; simp only at this; omega) ht (hT.below hb))
              have hin := Cv.ch_in (Cv.look F o f ⟨s0, ⟨s1, s2⟩⟩) 2 (Cv.look_fit _ _ _ _) (by omega)
              rw [(Cv.choose_mir hs ht hm hF32 hfF hol).2] at FE2
              have hfo := flip_int ⟨o, hol⟩
              simp only at hfo
              have hfe : ((F - 1 - f : Nat) : Int) = (F : Int) - 1 - (f : Int) := by omega
              have hF1 : IntKind.i64.wrap ((F : Int) - 1) = (F : Int) - 1 := by rw [IntKind.wrap_i64]; omega
              have hF1f : IntKind.i64.wrap ((F : Int) - 1 - (f : Int)) = (F : Int) - 1 - (f : Int) := by rw [IntKind.wrap_i64]; omega
              rw [hfe] at FE2
              rw [← hfo] at FE2
              clear hfe hfo
              obtain ⟨b0, b1, b2⟩ := stRow HB1.out.r3
              generalize Cv.choose (Cv.look F o f ⟨s0, ⟨s1, s2⟩⟩) 2 = z at *
              obtain ⟨y, hy⟩ : ∃ y, y = Cv.flipC z := ⟨_, rfl⟩
              rw [← hy] at FE2
              simp only [Stp.agg] at *
              obtain ⟨z0, z1, z2⟩ := z
              obtain ⟨y0, y1, y2⟩ := y
              simp only [Cv.Ch.agg] at *
              have HY := Lib.hid hy
              have HIN := Lib.hid hin
              clear hy hin
              go_wp2_with fail
              refine (FC2.out _ HB1.out.below).mono ?_
              rintro e w4 ⟨rfl, hb4⟩
              have HB4 := Lib.hid (HB1.out.next hb4)
              clear hb4 HB1 b0 b1 b2
              have hl0 := (Array.getElem?_eq_some_iff.1 HB4.out.r0).1
              have hl1 := (Array.getElem?_eq_some_iff.1 HB4.out.r1).1
              have hl2 := (Array.getElem?_eq_some_iff.1 HB4.out.r2).1
              simp only at hl0 hl1 hl2
              go_wp2_with (with_reducible show wpList _ _ _ (Oper.mk _ (.store 38 _ _) _ _ _ _ :: _) _ _; refine Hid.out ?_)
              refine Lib.hid ?_
              refine wpList_put rfl 38 _ _ rfl w4.heap.size #[.int .i64 ((z0 : Nat) : Int), .int .i64 ((z1 : Nat) : Int), .int .i64 ((z2 : Nat) : Int)] _ 38 rfl rfl (heap_alloc_new w4 _) (by kernel_rfl) rfl (by kernel_rfl) ?_
              intro w5 hr5 hg5
              have HB5 : Hid (Bx w [(w4.heap.size, .cells #[.int .i64 ((z0 : Nat) : Int), .int .i64 ((z1 : Nat) : Int), .int .i64 ((z2 : Nat) : Int)] 38 (0, 0)), (gt, .cells #[.int .i64 0, .int .i64 2, .int .i64 1, .int .i64 3] 3 (0, 0)), (gb, .cells #[.int .i64 0, .int .i64 2, .int .i64 1] 3 (0, 0)), (w.heap.size + 2, .cells #[.int .u32 t0, .int .u32 t1, .int .u32 t2] 30 (0, 0)), (w.heap.size + 1, .cells #[.int .u32 s0, .int .u32 s1, .int .u32 s2] 30 (0, 0))] w5) := Lib.hid ((HB4.out.make (heap_alloc_new w4 (.cells #[.int .i64 0, .int .i64 0, .int .i64 0] 38)) ((Below.refl w4.heap.size w4).alloc (Nat.le_refl _) _)).put HB4.out.below.size hg5.out hr5.out (by simp only [List.mem_cons, List.not_mem_nil, or_false]; rintro p (rfl | rfl | rfl | rfl | rfl) <;> simp <;> omega))
              generalize w4.heap.size = gc at *
              clear hr5 hg5 HB4
              refine Hid.out ?_
              refine Lib.hid ?_
              go_wp2_with fail
              refine Ghost.ghost (fun γ L wx => Decls (w5).heap.size (w5) [(⟨22, 23, 38, #[.int .i64 0, .int .i64 0, .int .i64 0], #[.int .i64 ((y0 : Nat) : Int), .int .i64 ((y1 : Nat) : Int), .int .i64 ((y2 : Nat) : Int)]⟩ : Decl)] γ L wx) (by kernel_rfl) (by kernel_rfl) (fun γ => Decls.start _ γ (Below.refl _ _).drew (Nat.le_refl _)) ?_
              apply Ghost.walk_const (fun γ => by rfl)
              · intro γ L wx h1 h2 hx K hK
                have HXx := HB5.out.next hx.below
                obtain ⟨m0, m1, m2⟩ := stRow HXx.r3
                obtain ⟨k0, k1, k2⟩ := bkRow HXx.r2
                have HK2 := Lib.hid hK
                have HX := Lib.hid hx
                clear hK h1 h2 hx
                go_simp
                first
                  | (go_at_call 11; refine (FE2.out _ (HB5.out.next (HX.out.below)).below).mono ?_; rintro e y1 ⟨rfl, hb⟩; exact HK2.out _ (HX.out.quiet 0 (by rfl) hb))
                  | exact HK2.out _ (HX.out.quiet 0 (by rfl) (Below.refl _ _))
              simp only [Act.put, List.setIfInBounds_toArray, List.set_cons_succ, List.set_cons_zero]
              apply Ghost.walk_const (fun γ => by rfl)
              · intro γ L wx h1 h2 hx K hK
                have HXx := HB5.out.next hx.below
                obtain ⟨m0, m1, m2⟩ := stRow HXx.r3
                obtain ⟨k0, k1, k2⟩ := bkRow HXx.r2
                have HK2 := Lib.hid hK
                have HX := Lib.hid hx
                clear hK h1 h2 hx
                go_simp
                first
                  | (go_at_call 11; refine (FE2.out _ (HB5.out.next (HX.out.below)).below).mono ?_; rintro e y1 ⟨rfl, hb⟩; exact HK2.out _ (HX.out.quiet 0 (by rfl) hb))
                  | exact HK2.out _ (HX.out.quiet 0 (by rfl) (Below.refl _ _))
              simp only [Act.put, List.setIfInBounds_toArray, List.set_cons_succ, List.set_cons_zero]
              apply Ghost.walk_const (fun γ => by rfl)
              · intro γ L wx h1 h2 hx K hK
                have HXx := HB5.out.next hx.below
                obtain ⟨m0, m1, m2⟩ := stRow HXx.r3
                obtain ⟨k0, k1, k2⟩ := bkRow HXx.r2
                have HK2 := Lib.hid hK
                have HX := Lib.hid hx
                clear hK h1 h2 hx
                go_simp
                first
                  | (go_at_call 11; refine (FE2.out _ (HB5.out.next (HX.out.below)).below).mono ?_; rintro e y1 ⟨rfl, hb⟩; exact HK2.out _ (HX.out.quiet 0 (by rfl) hb))
                  | exact HK2.out _ (HX.out.quiet 0 (by rfl) (Below.refl _ _))
              simp only [Act.put, List.setIfInBounds_toArray, List.set_cons_succ, List.set_cons_zero]
              apply Ghost.walk_const (fun γ => by rfl)
              · intro γ L wx h1 h2 hx K hK
                have HXx := HB5.out.next hx.below
                obtain ⟨m0, m1, m2⟩ := stRow HXx.r3
                obtain ⟨k0, k1, k2⟩ := bkRow HXx.r2
                have HK2 := Lib.hid hK
                have HX := Lib.hid hx
                clear hK h1 h2 hx
                go_simp
                first
                  | (go_at_call 11; refine (FE2.out _ (HB5.out.next (HX.out.below)).below).mono ?_; rintro e y1 ⟨rfl, hb⟩; exact HK2.out _ (HX.out.quiet 0 (by rfl) hb))
                  | exact HK2.out _ (HX.out.quiet 0 (by rfl) (Below.refl _ _))
              simp only [Act.put, List.setIfInBounds_toArray, List.set_cons_succ, List.set_cons_zero]
              apply Ghost.walk_const (fun γ => by rfl)
              · intro γ L wx h1 h2 hx K hK
                have HXx := HB5.out.next hx.below
                obtain ⟨m0, m1, m2⟩ := stRow HXx.r3
                obtain ⟨k0, k1, k2⟩ := bkRow HXx.r2
                have HK2 := Lib.hid hK
                have HX := Lib.hid hx
                clear hK h1 h2 hx
                go_simp
                first
                  | (go_at_call 11; refine (FE2.out _ (HB5.out.next (HX.out.below)).below).mono ?_; rintro e y1 ⟨rfl, hb⟩; exact HK2.out _ (HX.out.quiet 0 (by rfl) hb))
                  | exact HK2.out _ (HX.out.quiet 0 (by rfl) (Below.refl _ _))
              simp only [Act.put, List.setIfInBounds_toArray, List.set_cons_succ, List.set_cons_zero]
              apply Ghost.walk_const (fun γ => by rfl)
              · intro γ L wx h1 h2 hx K hK
                have HXx := HB5.out.next hx.below
                obtain ⟨m0, m1, m2⟩ := stRow HXx.r3
                obtain ⟨k0, k1, k2⟩ := bkRow HXx.r2
                have HK2 := Lib.hid hK
                have HX := Lib.hid hx
                clear hK h1 h2 hx
                go_simp
                first
                  | (go_at_call 11; refine (FE2.out _ (HB5.out.next (HX.out.below)).below).mono ?_; rintro e y1 ⟨rfl, hb⟩; exact HK2.out _ (HX.out.quiet 0 (by rfl) hb))
                  | exact HK2.out _ (HX.out.quiet 0 (by rfl) (Below.refl _ _))
              simp only [Act.put, List.setIfInBounds_toArray, List.set_cons_succ, List.set_cons_zero]
              apply Ghost.walk_const (fun γ => by rfl)
              · intro γ L wx h1 h2 hx K hK
                have HXx := HB5.out.next hx.below
                obtain ⟨m0, m1, m2⟩ := stRow HXx.r3
                obtain ⟨k0, k1, k2⟩ := bkRow HXx.r2
                have HK2 := Lib.hid hK
                have HX := Lib.hid hx
                clear hK h1 h2 hx
                go_simp
                first
                  | (go_at_call 11; refine (FE2.out _ (HB5.out.next (HX.out.below)).below).mono ?_; rintro e y1 ⟨rfl, hb⟩; exact HK2.out _ (HX.out.quiet 0 (by rfl) hb))
                  | exact HK2.out _ (HX.out.quiet 0 (by rfl) (Below.refl _ _))
              simp only [Act.put, List.setIfInBounds_toArray, List.set_cons_succ, List.set_cons_zero]
              apply Ghost.walk_const (fun γ => by rfl)
              · intro γ L wx h1 h2 hx K hK
                have HXx := HB5.out.next hx.below
                obtain ⟨m0, m1, m2⟩ := stRow HXx.r3
                obtain ⟨k0, k1, k2⟩ := bkRow HXx.r2
                have HK2 := Lib.hid hK
                have HX := Lib.hid hx
                clear hK h1 h2 hx
                go_simp
                first
                  | (go_at_call 11; refine (FE2.out _ (HB5.out.next (HX.out.below)).below).mono ?_; rintro e y1 ⟨rfl, hb⟩; exact HK2.out _ (HX.out.quiet 0 (by rfl) hb))
                  | exact HK2.out _ (HX.out.quiet 0 (by rfl) (Below.refl _ _))
              simp only [Act.put, List.setIfInBounds_toArray, List.set_cons_succ, List.set_cons_zero]
              apply Ghost.walk_const (fun γ => by rfl)
              · intro γ L wx h1 h2 hx K hK
                have HXx := HB5.out.next hx.below
                obtain ⟨m0, m1, m2⟩ := stRow HXx.r3
                obtain ⟨k0, k1, k2⟩ := bkRow HXx.r2
                have HK2 := Lib.hid hK
                have HX := Lib.hid hx
                clear hK h1 h2 hx
                go_simp
                first
                  | (go_at_call 11; refine (FE2.out _ (HB5.out.next (HX.out.below)).below).mono ?_; rintro e y1 ⟨rfl, hb⟩; exact HK2.out _ (HX.out.quiet 0 (by rfl) hb))
                  | exact HK2.out _ (HX.out.quiet 0 (by rfl) (Below.refl _ _))
              simp only [Act.put, List.setIfInBounds_toArray, List.set_cons_succ, List.set_cons_zero]
              apply Ghost.walk_const (fun γ => by rfl)
              · intro γ L wx h1 h2 hx K hK
                have HXx := HB5.out.next hx.below
                obtain ⟨m0, m1, m2⟩ := stRow HXx.r3
                obtain ⟨k0, k1, k2⟩ := bkRow HXx.r2
                have HK2 := Lib.hid hK
                have HX := Lib.hid hx
                clear hK h1 h2 hx
                go_simp
                first
                  | (go_at_call 11; refine (FE2.out _ (HB5.out.next (HX.out.below)).below).mono ?_; rintro e y1 ⟨rfl, hb⟩; exact HK2.out _ (HX.out.quiet 0 (by rfl) hb))
                  | exact HK2.out _ (HX.out.quiet 0 (by rfl) (Below.refl _ _))
              simp only [Act.put, List.setIfInBounds_toArray, List.set_cons_succ, List.set_cons_zero]
              apply Ghost.walk_const (fun γ => by rfl)
              · intro γ L wx h1 h2 hx K hK
                have HXx := HB5.out.next hx.below
                obtain ⟨m0, m1, m2⟩ := stRow HXx.r3
                obtain ⟨k0, k1, k2⟩ := bkRow HXx.r2
                have HK2 := Lib.hid hK
                have HX := Lib.hid hx
                clear hK h1 h2 hx
                go_simp
                first
                  | (go_at_call 11; refine (FE2.out _ (HB5.out.next (HX.out.below)).below).mono ?_; rintro e y1 ⟨rfl, hb⟩; exact HK2.out _ (HX.out.quiet 0 (by rfl) hb))
                  | exact HK2.out _ (HX.out.quiet 0 (by rfl) (Below.refl _ _))
              simp only [Act.put, List.setIfInBounds_toArray, List.set_cons_succ, List.set_cons_zero]
              apply Ghost.walk_const (fun γ => by rfl)
              · intro γ L wx h1 h2 hx K hK
                have HXx := HB5.out.next hx.below
                obtain ⟨m0, m1, m2⟩ := stRow HXx.r3
                obtain ⟨k0, k1, k2⟩ := bkRow HXx.r2
                have HK2 := Lib.hid hK
                have HX := Lib.hid hx
                clear hK h1 h2 hx
                go_simp
                first
                  | (go_at_call 11; refine (FE2.out _ (HB5.out.next (HX.out.below)).below).mono ?_; rintro e y1 ⟨rfl, hb⟩; exact HK2.out _ (HX.out.quiet 0 (by rfl) hb))
                  | exact HK2.out _ (HX.out.quiet 0 (by rfl) (Below.refl _ _))
              simp only [Act.put, List.setIfInBounds_toArray, List.set_cons_succ, List.set_cons_zero]
              apply Ghost.walk_const (fun γ => by rfl)
              · intro γ L wx h1 h2 hx K hK
                have HXx := HB5.out.next hx.below
                obtain ⟨m0, m1, m2⟩ := stRow HXx.r3
                obtain ⟨k0, k1, k2⟩ := bkRow HXx.r2
                have HK2 := Lib.hid hK
                have HX := Lib.hid hx
                clear hK h1 h2 hx
                go_simp
                first
                  | (go_at_call 11; refine (FE2.out _ (HB5.out.next (HX.out.below)).below).mono ?_; rintro e y1 ⟨rfl, hb⟩; exact HK2.out _ (HX.out.quiet 0 (by rfl) hb))
                  | exact HK2.out _ (HX.out.quiet 0 (by rfl) (Below.refl _ _))
              simp only [Act.put, List.setIfInBounds_toArray, List.set_cons_succ, List.set_cons_zero]
              apply Ghost.walk_const (fun γ => by rfl)
              · intro γ L wx h1 h2 hx K hK
                have HXx := HB5.out.next hx.below
                obtain ⟨m0, m1, m2⟩ := stRow HXx.r3
                obtain ⟨k0, k1, k2⟩ := bkRow HXx.r2
                have HK2 := Lib.hid hK
                have HX := Lib.hid hx
                clear hK h1 h2 hx
                go_simp
                first
                  | (go_at_call 11; refine (FE2.out _ (HB5.out.next (HX.out.below)).below).mono ?_; rintro e y1 ⟨rfl, hb⟩; exact HK2.out _ (HX.out.quiet 0 (by rfl) hb))
                  | exact HK2.out _ (HX.out.quiet 0 (by rfl) (Below.refl _ _))
              simp only [Act.put, List.setIfInBounds_toArray, List.set_cons_succ, List.set_cons_zero]
              apply Ghost.walk_const (fun γ => by rfl)
              · intro γ L wx h1 h2 hx K hK
                have HXx := HB5.out.next hx.below
                obtain ⟨m0, m1, m2⟩ := stRow HXx.r3
                obtain ⟨k0, k1, k2⟩ := bkRow HXx.r2
                have HK2 := Lib.hid hK
                have HX := Lib.hid hx
                clear hK h1 h2 hx
                go_simp
                first
                  | (go_at_call 11; refine (FE2.out _ (HB5.out.next (HX.out.below)).below).mono ?_; rintro e y1 ⟨rfl, hb⟩; exact HK2.out _ (HX.out.quiet 0 (by rfl) hb))
                  | exact HK2.out _ (HX.out.quiet 0 (by rfl) (Below.refl _ _))
              simp only [Act.put, List.setIfInBounds_toArray, List.set_cons_succ, List.set_cons_zero]
              apply Ghost.walk_const (fun γ => by rfl)
              · intro γ L wx h1 h2 hx K hK
                have HXx := HB5.out.next hx.below
                obtain ⟨m0, m1, m2⟩ := stRow HXx.r3
                obtain ⟨k0, k1, k2⟩ := bkRow HXx.r2
                have HK2 := Lib.hid hK
                have HX := Lib.hid hx
                clear hK h1 h2 hx
                go_simp
                first
                  | (go_at_call 11; refine (FE2.out _ (HB5.out.next (HX.out.below)).below).mono ?_; rintro e y1 ⟨rfl, hb⟩; exact HK2.out _ (HX.out.quiet 0 (by rfl) hb))
                  | exact HK2.out _ (HX.out.quiet 0 (by rfl) (Below.refl _ _))
              simp only [Act.put, List.setIfInBounds_toArray, List.set_cons_succ, List.set_cons_zero]
              apply Ghost.walk_const (fun γ => by rfl)
              · intro γ L wx h1 h2 hx K hK
                have HXx := HB5.out.next hx.below
                obtain ⟨m0, m1, m2⟩ := stRow HXx.r3
                obtain ⟨k0, k1, k2⟩ := bkRow HXx.r2
                have HK2 := Lib.hid hK
                have HX := Lib.hid hx
                clear hK h1 h2 hx
                go_simp
                first
                  | (go_at_call 11; refine (FE2.out _ (HB5.out.next (HX.out.below)).below).mono ?_; rintro e y1 ⟨rfl, hb⟩; exact HK2.out _ (HX.out.quiet 0 (by rfl) hb))
                  | exact HK2.out _ (HX.out.quiet 0 (by rfl) (Below.refl _ _))
              simp only [Act.put, List.setIfInBounds_toArray, List.set_cons_succ, List.set_cons_zero]
              apply Ghost.walk_const (fun γ => by rfl)
              · intro γ L wx h1 h2 hx K hK
                have HXx := HB5.out.next hx.below
                obtain ⟨m0, m1, m2⟩ := stRow HXx.r3
                obtain ⟨k0, k1, k2⟩ := bkRow HXx.r2
                have HK2 := Lib.hid hK
                have HX := Lib.hid hx
                clear hK h1 h2 hx
                go_simp
                first
                  | (go_at_call 11; refine (FE2.out _ (HB5.out.next (HX.out.below)).below).mono ?_; rintro e y1 ⟨rfl, hb⟩; exact HK2.out _ (HX.out.quiet 0 (by rfl) hb))
                  | exact HK2.out _ (HX.out.quiet 0 (by rfl) (Below.refl _ _))
              simp only [Act.put, List.setIfInBounds_toArray, List.set_cons_succ, List.set_cons_zero]
              apply Ghost.walk_const (fun γ => by rfl)
              · intro γ L wx h1 h2 hx K hK
                have HXx := HB5.out.next hx.below
                obtain ⟨m0, m1, m2⟩ := stRow HXx.r3
                obtain ⟨k0, k1, k2⟩ := bkRow HXx.r2
                have HK2 := Lib.hid hK
                have HX := Lib.hid hx
                clear hK h1 h2 hx
                go_simp
                first
                  | (go_at_call 11; refine (FE2.out _ (HB5.out.next (HX.out.below)).below).mono ?_; rintro e y1 ⟨rfl, hb⟩; exact HK2.out _ (HX.out.quiet 0 (by rfl) hb))
                  | exact HK2.out _ (HX.out.quiet 0 (by rfl) (Below.refl _ _))
              simp only [Act.put, List.setIfInBounds_toArray, List.set_cons_succ, List.set_cons_zero]
              apply Ghost.walk_const (fun γ => by rfl)
              · intro γ L wx h1 h2 hx K hK
                have HXx := HB5.out.next hx.below
                obtain ⟨m0, m1, m2⟩ := stRow HXx.r3
                obtain ⟨k0, k1, k2⟩ := bkRow HXx.r2
                have HK2 := Lib.hid hK
                have HX := Lib.hid hx
                clear hK h1 h2 hx
                go_simp
                first
                  | (go_at_call 11; refine (FE2.out _ (HB5.out.next (HX.out.below)).below).mono ?_; rintro e y1 ⟨rfl, hb⟩; exact HK2.out _ (HX.out.quiet 0 (by rfl) hb))
                  | exact HK2.out _ (HX.out.quiet 0 (by rfl) (Below.refl _ _))
              simp only [Act.put, List.setIfInBounds_toArray, List.set_cons_succ, List.set_cons_zero]
              apply Ghost.walk_const (fun γ => by rfl)
              · intro γ L wx h1 h2 hx K hK
                have HXx := HB5.out.next hx.below
                obtain ⟨m0, m1, m2⟩ := stRow HXx.r3
                obtain ⟨k0, k1, k2⟩ := bkRow HXx.r2
                have HK2 := Lib.hid hK
                have HX := Lib.hid hx
                clear hK h1 h2 hx
                go_simp
                first
                  | (go_at_call 11; refine (FE2.out _ (HB5.out.next (HX.out.below)).below).mono ?_; rintro e y1 ⟨rfl, hb⟩; exact HK2.out _ (HX.out.quiet 0 (by rfl) hb))
                  | exact HK2.out _ (HX.out.quiet 0 (by rfl) (Below.refl _ _))
              simp only [Act.put, List.setIfInBounds_toArray, List.set_cons_succ, List.set_cons_zero]
              apply Ghost.walk_const (fun γ => by rfl)
              · intro γ L wx h1 h2 hx K hK
                have HXx := HB5.out.next hx.below
                obtain ⟨m0, m1, m2⟩ := stRow HXx.r3
                obtain ⟨k0, k1, k2⟩ := bkRow HXx.r2
                have HK2 := Lib.hid hK
                have HX := Lib.hid hx
                clear hK h1 h2 hx
                go_simp
                first
                  | (go_at_call 11; refine (FE2.out _ (HB5.out.next (HX.out.below)).below).mono ?_; rintro e y1 ⟨rfl, hb⟩; exact HK2.out _ (HX.out.quiet 0 (by rfl) hb))
                  | exact HK2.out _ (HX.out.quiet 0 (by rfl) (Below.refl _ _))
              simp only [Act.put, List.setIfInBounds_toArray, List.set_cons_succ, List.set_cons_zero]
              refine Ghost.walk_yes (fun b => .pointer (some ⟨b, 0, none⟩)) (fun γ => by rfl) ?_ ?_
              · intro γ L wx h1 h2 hx K hK
                have HK2 := Lib.hid hK
                clear hK h2
                have hL : L (⟨22, 23, 38, #[.int .i64 0, .int .i64 0, .int .i64 0], #[.int .i64 ((y0 : Nat) : Int), .int .i64 ((y1 : Nat) : Int), .int .i64 ((y2 : Nat) : Int)]⟩ : Decl).al = false := h1
                clear h1
                go_simp
                exact HK2.out wx.heap.size _ (hx.alloc (⟨22, 23, 38, #[.int .i64 0, .int .i64 0, .int .i64 0], #[.int .i64 ((y0 : Nat) : Int), .int .i64 ((y1 : Nat) : Int), .int .i64 ((y2 : Nat) : Int)]⟩ : Decl) (decl_mem _) hL (by rfl) (decl_al _))
              simp only [Act.put, List.setIfInBounds_toArray, List.set_cons_succ, List.set_cons_zero]
              refine Ghost.walk_yes (fun _ => undef) (fun γ => by rfl) ?_ ?_
              · intro γ L wx h1 h2 hx K hK
                have hA : L (⟨22, 23, 38, #[.int .i64 0, .int .i64 0, .int .i64 0], #[.int .i64 ((y0 : Nat) : Int), .int .i64 ((y1 : Nat) : Int), .int .i64 ((y2 : Nat) : Int)]⟩ : Decl).al = true := h2 22 (by kernel_rfl)
                exact hx.wp_store (⟨22, 23, 38, #[.int .i64 0, .int .i64 0, .int .i64 0], #[.int .i64 ((y0 : Nat) : Int), .int .i64 ((y1 : Nat) : Int), .int .i64 ((y2 : Nat) : Int)]⟩ : Decl) (decl_mem _) h1 hA _ _ rfl rfl rfl (by kernel_rfl) rfl (by kernel_rfl) (hK 0 _ (hx.store (⟨22, 23, 38, #[.int .i64 0, .int .i64 0, .int .i64 0], #[.int .i64 ((y0 : Nat) : Int), .int .i64 ((y1 : Nat) : Int), .int .i64 ((y2 : Nat) : Int)]⟩ : Decl) (decl_mem _) hA (by rfl) (decl_st _) (decl_al _) 0))
              simp only [Act.put]
              refine Ghost.walk_nil (fun γ L w6 hall hD => ?_)
              obtain ⟨hg1, hg2, hb6⟩ := hD.done1 hall (by show 22 < 24; decide) (by show 23 < 24; decide)
              clear hall hD
              simp only [Nat.zero_add, Nat.reduceAdd] at hg1 hg2 ⊢
              generalize γ 22 = ge at *
              have HB6 := Lib.hid (HB5.out.make hg2 hb6)
              clear hg1 hg2 hb6 HB5
              obtain ⟨e0, e1, e2⟩ := ch3Row HB6.out.r0
              obtain ⟨c0, c1, c2⟩ := ch3Row HB6.out.r1
              obtain ⟨k0, k1, k2⟩ := bkRow HB6.out.r3
              obtain ⟨u0, u1, u2, u3⟩ := tuRow HB6.out.r2
              have hin := HIN.out
              have hy := HY.out
              clear HIN HY
              simp only [List.mem_cons, List.not_mem_nil, or_false] at hin
              have hzb : z0 ≤ 3 ∧ z1 ≤ 2 ∧ z2 ≤ 2 := by
                rcases hin with h | h | h | h | h | h <;> (injection h with h0 h1 h2; subst h0 h1 h2; decide)
              clear hin
              have hfl : (⟨y0, y1, y2⟩ : Cv.Ch) = ⟨Cv.back z0, Cv.back z1, Cv.back z2⟩ := hy
              injection hfl with h0 h1 h2
              have hu0 := tu_at hzb.1
              have hu1 := bk_at hzb.2.1
              have hu2 := bk_at hzb.2.2
              rw [← h0] at hu0
              rw [← h1] at hu1
              rw [← h2] at hu2
              have HU0 := Lib.hid hu0
              have HU1 := Lib.hid hu1
              have HU2 := Lib.hid hu2
              have hne := neqCh (y0 : Int) (y1 : Int) (y2 : Int) (y0 : Int) (y1 : Int) (y2 : Int)
              simp only [beq_self_eq_true, Bool.and_self, Bool.not_true] at hne
              have i0 : (z0 : Int) < 4 := by omega
              have i1 : (z1 : Int) < 3 := by omega
              have i2 : (z2 : Int) < 3 := by omega
              have d0 : decide ((z0 : Int) < 0) = false := decide_eq_false (by omega)
              have d1 : decide ((z0 : Int) > 3) = false := decide_eq_false (by omega)
              have d2 : decide ((z1 : Int) < 0) = false := decide_eq_false (by omega)
              have d3 : decide ((z1 : Int) > 2) = false := decide_eq_false (by omega)
              have d4 : decide ((z2 : Int) < 0) = false := decide_eq_false (by omega)
              have d5 : decide ((z2 : Int) > 2) = false := decide_eq_false (by omega)
              have d6 : decide (3 < (z0 : Int)) = false := decide_eq_false (by omega)
              have d7 : decide (2 < (z1 : Int)) = false := decide_eq_false (by omega)
              have d8 : decide (2 < (z2 : Int)) = false := decide_eq_false (by omega)
              clear hu0 hu1 hu2 h0 h1 h2 hy hzb
              clear e0 e1 e2 c0 c1 c2 k0 k1 k2 u0 u1 u2 u3
              go_wp2_with fail
              refine Bag.region (fun wx => Below w6.heap.size w6 wx) (by kernel_rfl) (by kernel_rfl) (Below.refl _ _).drew ?_
              iterate 48 (first
                  | (apply Bag.walk_yes (by rfl)
                     (intro wx hx K hK
                      have HXx := HB6.out.next hx
                      obtain ⟨e0, e1, e2⟩ := ch3Row HXx.r0
                      obtain ⟨c0, c1, c2⟩ := ch3Row HXx.r1
                      have u0 : wx.cell? ⟨gt, z0, none⟩ = some (.int .i64 (y0 : Int)) := (cell_of_row _ _ _ _ _ (0, 0) HXx.r2).trans HU0.out
                      have k1 : wx.cell? ⟨gb, z1, none⟩ = some (.int .i64 (y1 : Int)) := (cell_of_row _ _ _ _ _ (0, 0) HXx.r3).trans HU1.out
                      have k2 : wx.cell? ⟨gb, z2, none⟩ = some (.int .i64 (y2 : Int)) := (cell_of_row _ _ _ _ _ (0, 0) HXx.r3).trans HU2.out
                      first
                        | (go_simp
                           first
                            | (go_at_K; exact hK _ hx)))
                     rfl)
                  | (refine Bag.walk_no (by rfl) ?_; simp only [Act.put, List.setIfInBounds_toArray, List.set_cons_succ, List.set_cons_zero]))
              refine Bag.walk_nil (fun w7 hB => ?_)
              have HB7 := Lib.hid (HB6.out.next hB)
              clear HB6 hB
              go_wp2_with fail
              go_roundw
              case rel => exact ⟨o + 1, by omega, by rw [Int.natCast_add]; rfl, HB7.out.less (by simp only [List.mem_cons, List.not_mem_nil, or_false]; rintro p (rfl | rfl | rfl | rfl) <;> simp)⟩
              case measure => simp [intOf]; omega
            · have hoe : o = 8 := by omega
              subst hoe
              go_wp2_with fail
              go_roundw
              case rel => exact ⟨2 + 1, by omega, rfl, HB1.out⟩
              case measure => simp [intOf]
        · go_wp2_with (go_at_call 10; refine (FSA.out _ HB0.out.below).mono ?_; rintro e w9 ⟨rfl, hb9⟩)
          go_ret
          exact ⟨rfl, HB0.out.below.trans (hb9.mono HB0.out.below.size)⟩
end Go.Proofs.YteniimbcbjbegaaDoor
