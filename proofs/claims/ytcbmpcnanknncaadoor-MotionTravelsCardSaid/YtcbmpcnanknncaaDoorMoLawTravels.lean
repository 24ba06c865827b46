/- The law MotionTravels: a step leads to the neighbouring floor and ends there, and a car whose steps take at most Step ticks is never Late. No condition but the listed table. -/
import Derived.Test.YtcbmpcnanknncaaDoorMoSane
import Derived.Test.YtcbmpcnanknncaaDoorMoOpen
import Derived.Test.YtcbmpcnanknncaaDoorCards
import Derived.Test.YtcbmpcnanknncaaDoorTie
import Derived.SevenTiedAt
import Derived.Deep.CutRange
namespace Go.Proofs.YtcbmpcnanknncaaDoor
open Go.RowKit Go.ChangeShapes Go.WideShapes Go.ChangeAt

set_option maxRecDepth 100000 in
set_option maxHeartbeats 8000000 in
theorem lawMotionTravels_walk (x y z : Nat) (v : Value) (l : List Nat) (w : World) (hT : Tabs w) (hx : x < 256) (hy : y < 256) (hz : z < 256) (hv : VV w v (u8s l)) (h256 : ∀ s ∈ l, s < 256) (_hlen : l.length ≤ maxLen) :
    Calls Tryd.prog 4 #[.agg #[.int .u8 x, .int .u8 y, .int .u8 z], v] w fun e w' => e = .returned (.bool true) ∧ Below w.heap.size w w' := by
  obtain ⟨n, hNe, hn⟩ : ∃ n : Int, (2 : Int) + (x : Int) % 10 = n ∧ (2 ≤ n ∧ n ≤ 11) := ⟨_, rfl, by omega⟩
  obtain ⟨f0, hFe, hf0⟩ : ∃ f0 : Int, (y : Int).tmod n = f0 ∧ (0 ≤ f0 ∧ f0 < n) := ⟨_, rfl, by rw [Int.tmod_eq_emod_of_nonneg (by omega)]; exact ⟨Int.emod_nonneg _ (by omega), Int.emod_lt_of_pos _ (by omega)⟩⟩
  obtain ⟨st, hSe, hS⟩ : ∃ st : Int, (1 : Int) + (z : Int) % 9 = st ∧ (1 ≤ st ∧ st ≤ 9) := ⟨_, rfl, by omega⟩
  have hnz : ¬ n = 0 := by omega
  have HT := Lib.hid (fun wx (hb : Below w.heap.size w wx) => hT.below hb)
  have FN := Lib.hid (fun wx (hb : Below w.heap.size w wx) => sane13_any wx (hT.below hb))
  have eqz := neqMo 0 0 0 0 0 0
  rw [Mo.same_self] at eqz
  clear hT
  obtain ⟨VA, vcap, rfl, hVA⟩ := hv
  have HVA := Lib.hid hVA
  have hul : (u8s l).length = l.length := by unfold u8s; simp
  rw [hul]
  clear hVA
  have HB0 := Lib.hid (bxs2 w (.cells #[.int .u8 x, .int .u8 y, .int .u8 z] 34) (.cells #[.int .i64 0, .int .i64 0, .int .i64 0, .int .i64 0, .int .i64 0, .int .i64 0, .int .i64 0, .int .i64 0, .int .i64 0] 27))
  go_enter Tryd.func4, Tryd.ntmps4
  go_wp2_with (with_reducible show wpList _ _ _ (Oper.mk _ (.store 27 _ _) _ _ _ _ :: _) _ _; refine Hid.out ?_)
  refine Lib.hid ?_
  refine wpList_put rfl 27 _ _ rfl (w.heap.size + 1) #[.int .i64 0, .int .i64 0, .int .i64 0, .int .i64 0, .int .i64 st, .int .i64 0, .int .i64 0, .int .i64 0, .int .i64 0] _ 27 rfl rfl HB0.out.r1 (by kernel_rfl) rfl (by kernel_rfl) ?_
  intro w1 hr1 hg1
  have HB1 : Hid (Bx w [(w.heap.size, .cells #[.int .u8 x, .int .u8 y, .int .u8 z] 34 (0, 0)), (w.heap.size + 1, .cells #[.int .i64 0, .int .i64 0, .int .i64 0, .int .i64 0, .int .i64 st, .int .i64 0, .int .i64 0, .int .i64 0, .int .i64 0] 27 (0, 0))] w1) := Lib.hid (HB0.out.put (by omega) hg1.out hr1.out (by simp only [List.mem_cons, List.not_mem_nil, or_false]; rintro p (rfl | rfl) <;> simp <;> omega))
  clear hr1 hg1 HB0
  go_wp2_with fail
  clear hNe hFe hSe
  go_loopw [6, 8] (fun vf vi wr => ∃ (f : Int) (i : Nat), 0 ≤ f ∧ f < n ∧ i ≤ l.length ∧ i ≤ 60 ∧ vf = .int .i64 f ∧ vi = .int .i64 i ∧ Bx w [(w.heap.size, .cells #[.int .u8 x, .int .u8 y, .int .u8 z] 34 (0, 0)), (w.heap.size + 1, .cells #[.int .i64 0, .int .i64 0, .int .i64 0, .int .i64 0, .int .i64 st, .int .i64 0, .int .i64 0, .int .i64 0, .int .i64 0] 27 (0, 0))] wr) (fun _ vi _ => 60 - (intOf vi).toNat)
  case atStart => exact ⟨f0, 0, hf0.1, hf0.2, Nat.zero_le _, by omega, rfl, rfl, HB1.out⟩
  case round =>
    obtain ⟨f, i, hf1, hf2, hil, hi60, rfl, rfl, hbr⟩ := hrel
    have HBR := Lib.hid hbr
    clear hbr HB1 hf0
    by_cases hl : i < l.length
    · have hlI : (i : Int) < (l.length : Int) := by omega
      by_cases h60 : i < 60
      · have h6I : (i : Int) < 60 := by omega
        obtain ⟨vb, voff, rfl, hvb, hvc⟩ := HVA.out.at_ (k := i) (by rw [hul]; exact hl)
        have hg : (u8s l)[i]'(by rw [hul]; exact hl) = .int .u8 ((l[i] : Nat) : Int) := by simp [u8s]
        rw [hg] at hvc
        have hb256 := h256 _ (List.getElem_mem hl)
        generalize l[i] = b at *
        have HK := Lib.hid (fun (wx : World) (h : Below w.heap.size w wx) => ((h.cell (p := ⟨vb, _, none⟩) hvb).trans hvc : wx.cell? ⟨vb, voff + i, none⟩ = some (.int .u8 b)))
        clear hvc
        obtain ⟨q0, hQe, hQ⟩ : ∃ q0 : Int, (1 : Int) + (b : Int) % 2 = q0 ∧ (q0 = 1 ∨ q0 = 2) := ⟨_, rfl, by omega⟩
        obtain ⟨N, hNN, hN⟩ : ∃ N : Nat, (1 : Int) + ((b : Int) / 2) % st = (N : Int) ∧ (1 ≤ N ∧ (N : Int) ≤ st) := ⟨(1 + ((b : Int) / 2) % st).toNat, by have := Int.emod_nonneg ((b : Int) / 2) (show st ≠ 0 by omega); omega, by have := Int.emod_nonneg ((b : Int) / 2) (show st ≠ 0 by omega); have := Int.emod_lt_of_pos ((b : Int) / 2) (show 0 < st by omega); omega⟩
        have htm : ((b : Int) / 2).tmod st = ((b : Int) / 2) % st := Int.tmod_eq_emod_of_nonneg (by omega)
        have hsz : ¬ st = 0 := by omega
        have e1 : IntKind.u8.wrap ((b : Int) / 2) = (b : Int) / 2 := by rw [IntKind.wrap_u8]; omega
        have e2 : IntKind.i64.wrap ((b : Int) / 2) = (b : Int) / 2 := by rw [IntKind.wrap_i64]; omega
        have e4 : IntKind.i64.wrap (1 + (b : Int) / 2 % st) = (N : Int) := by rw [hNN, IntKind.wrap_i64]; omega
        have HNV := Lib.hid (And.intro e1 (And.intro e2 (And.intro htm e4)))
        clear hNN htm e1 e2 e4
        obtain ⟨m, r3, hst, hE, hNE⟩ : ∃ m r3 : Int, Mo.stepF n ⟨0, 0, 0⟩ f true q0 = (⟨m, 0, r3⟩, m, false) ∧ ((q0 = 1 ∧ f = n - 1) ∨ (q0 = 2 ∧ f = 0) → m = 0) ∧ (¬ ((q0 = 1 ∧ f = n - 1) ∨ (q0 = 2 ∧ f = 0)) → m = q0 ∧ r3 = f) := by
          rw [show (⟨0, 0, 0⟩ : Mo) = Mo.zero from rfl, Mo.step_begin (by omega) hf1 hf2 hQ]
          by_cases h : (q0 = 1 ∧ f = n - 1) ∨ (q0 = 2 ∧ f = 0)
          · exact ⟨0, 0, by rw [if_pos h]; rfl, fun _ => rfl, fun hh => absurd h hh⟩
          · exact ⟨q0, f, by rw [if_neg h], fun hh => absurd hh h, fun _ => ⟨rfl, rfl⟩⟩
        have FS := Lib.hid (fun wx (hb : Below w.heap.size w wx) => mostep_to n 0 0 0 f true 0 false q0 m 0 r3 m false wx (HT.out _ hb) hst)
        clear hst
        have HEN := Lib.hid (And.intro hE hNE)
        clear hE hNE
        have k0 := HK.out wr HBR.out.below
        go_wp2_with fail
        refine (FS.out _ HBR.out.below).mono ?_
        rintro e w3 ⟨rfl, hb3⟩
        have HB3 := Lib.hid (HBR.out.next hb3)
        clear hb3 HBR
        go_wp2_with (with_reducible show wpList _ _ _ (Oper.mk _ (.store 23 _ _) _ _ _ _ :: _) _ _; refine Hid.out ?_)
        refine Lib.hid ?_
        have l4_0 : w.heap.size < w3.heap.size := (Array.getElem?_eq_some_iff.1 HB3.out.r0).1
        have l4_1 : w.heap.size + 1 < w3.heap.size := (Array.getElem?_eq_some_iff.1 HB3.out.r1).1
        have lw4 : w.heap.size ≤ w3.heap.size := HB3.out.below.size
        refine wpList_put rfl 23 _ _ rfl w3.heap.size #[.int .i64 m, .int .i64 0, .int .i64 r3] _ 23 rfl rfl (heap_alloc_new w3 _) (by kernel_rfl) rfl (by kernel_rfl) ?_
        intro w4 hr4 hg4
        have HB4 : Hid (Bx w [(w3.heap.size, .cells #[.int .i64 m, .int .i64 0, .int .i64 r3] 23 (0, 0)), (w.heap.size, .cells #[.int .u8 x, .int .u8 y, .int .u8 z] 34 (0, 0)), (w.heap.size + 1, .cells #[.int .i64 0, .int .i64 0, .int .i64 0, .int .i64 0, .int .i64 st, .int .i64 0, .int .i64 0, .int .i64 0, .int .i64 0] 27 (0, 0))] w4) := Lib.hid ((HB3.out.make (heap_alloc_new w3 (.cells #[.int .i64 0, .int .i64 0, .int .i64 0] 23)) ((Below.refl w3.heap.size w3).alloc (Nat.le_refl _) _)).put HB3.out.below.size hg4.out hr4.out (by simp only [List.mem_cons, List.not_mem_nil, or_false]; rintro p (rfl | rfl | rfl) <;> simp <;> omega))
        clear hr4 hg4 HB3
        generalize w3.heap.size = gs at *
        clear k0 hQe
        have c0_0 : w4.cell? ⟨gs, 0, none⟩ = some (.int .i64 m) := cell_of_row _ _ _ _ _ (0, 0) HB4.out.r0
        have c0_1 : w4.cell? ⟨gs, 1, none⟩ = some (.int .i64 0) := cell_of_row _ _ _ _ _ (0, 0) HB4.out.r0
        have c0_2 : w4.cell? ⟨gs, 2, none⟩ = some (.int .i64 r3) := cell_of_row _ _ _ _ _ (0, 0) HB4.out.r0
        have c2_0 : w4.cell? ⟨w.heap.size + 1, 0, none⟩ = some (.int .i64 0) := cell_of_row _ _ _ _ _ (0, 0) HB4.out.r2
        have c2_1 : w4.cell? ⟨w.heap.size + 1, 1, none⟩ = some (.int .i64 0) := cell_of_row _ _ _ _ _ (0, 0) HB4.out.r2
        have c2_2 : w4.cell? ⟨w.heap.size + 1, 2, none⟩ = some (.int .i64 0) := cell_of_row _ _ _ _ _ (0, 0) HB4.out.r2
        have c2_3 : w4.cell? ⟨w.heap.size + 1, 3, none⟩ = some (.int .i64 0) := cell_of_row _ _ _ _ _ (0, 0) HB4.out.r2
        have c2_4 : w4.cell? ⟨w.heap.size + 1, 4, none⟩ = some (.int .i64 st) := cell_of_row _ _ _ _ _ (0, 0) HB4.out.r2
        have c2_5 : w4.cell? ⟨w.heap.size + 1, 5, none⟩ = some (.int .i64 0) := cell_of_row _ _ _ _ _ (0, 0) HB4.out.r2
        have c2_6 : w4.cell? ⟨w.heap.size + 1, 6, none⟩ = some (.int .i64 0) := cell_of_row _ _ _ _ _ (0, 0) HB4.out.r2
        have c2_7 : w4.cell? ⟨w.heap.size + 1, 7, none⟩ = some (.int .i64 0) := cell_of_row _ _ _ _ _ (0, 0) HB4.out.r2
        have c2_8 : w4.cell? ⟨w.heap.size + 1, 8, none⟩ = some (.int .i64 0) := cell_of_row _ _ _ _ _ (0, 0) HB4.out.r2
        have hnw : IntKind.i64.wrap (n - 1) = n - 1 := by rw [IntKind.wrap_i64]; omega
        by_cases hedge : (q0 = 1 ∧ f = n - 1) ∨ (q0 = 2 ∧ f = 0)
        · obtain rfl := HEN.out.1 hedge
          have hwi : IntKind.i64.wrap ((i : Int) + 1) = ((i + 1 : Nat) : Int) := by rw [IntKind.wrap_i64]; omega
          rcases hedge with ⟨rfl, rfl⟩ | ⟨rfl, rfl⟩
          all_goals
            go_wp2_with fail
            go_roundw
            case rel => exact ⟨_, i + 1, hf1, hf2, by omega, by omega, rfl, rfl, HB4.out.less (by simp only [List.mem_cons, List.not_mem_nil, or_false]; rintro p (rfl | rfl) <;> simp)⟩
            case measure => simp [intOf]; omega
        · obtain ⟨rfl, rfl⟩ := HEN.out.2 hedge
          clear HEN
          have hQ2 : (m = 1 ∧ ¬ r3 = n - 1) ∨ (m = 2 ∧ ¬ r3 = 0) := by omega
          clear hedge FS
          rcases hQ2 with ⟨rfl, hne⟩ | ⟨rfl, hne⟩
          · have hwt : IntKind.i64.wrap (r3 + 1) = r3 + 1 := by rw [IntKind.wrap_i64]; omega
            have hwu : IntKind.i64.wrap (r3 - 1) = r3 - 1 := by rw [IntKind.wrap_i64]; omega
            clear c0_0 c0_1 c0_2 c2_0 c2_1 c2_2 c2_3 c2_4 c2_5 c2_6 c2_7 c2_8
            have c0_0 : w4.cell? ⟨gs, 0, none⟩ = some (.int .i64 1) := cell_of_row _ _ _ _ _ (0, 0) HB4.out.r0
            go_wp2_with fail
            refine Bag.region (fun wx => Below w4.heap.size w4 wx) (by kernel_rfl) (by kernel_rfl) (Below.refl _ _).drew ?_
            iterate 11 (first
                | (apply Bag.walk_yes (by rfl)
                   (intro wx hx K hK
                    have HXx := HB4.out.next hx
                    have z2_4 : wx.cell? ⟨w.heap.size + 1, 4, none⟩ = some (.int .i64 st) := cell_of_row _ _ _ _ _ (0, 0) HXx.r2
                    have k0 := HK.out wx HXx.below
                    first
                      | (go_simp
                         first
                          | (go_at_K; exact hK _ hx)))
                   rfl)
                | (refine Bag.walk_no (by rfl) ?_; simp only [Act.put, List.setIfInBounds_toArray, List.set_cons_succ, List.set_cons_zero]))
            refine Bag.walk_nil (fun w6 hb6 => ?_)
            have HB6 := Lib.hid (HB4.out.next hb6)
            clear c0_0 hb6 HB4
            rw [HNV.out.1, HNV.out.2.1, HNV.out.2.2.1, HNV.out.2.2.2]
            go_wp2_with fail
            clear hwt hwu
            go_loopw [11, 12, 15] (fun vc vo vk wr => ∃ (j : Nat) (s : Mo) (cmd : Int) (ok : Bool), j ≤ N ∧ (j < N → s = ⟨1, j, r3⟩ ∧ cmd = 1) ∧ (j = N → s = ⟨0, 0, 0⟩ ∧ cmd = 0) ∧ vc = .int .i64 cmd ∧ vo = .bool ok ∧ vk = .int .i64 ((j : Int) + 1) ∧ Bx w [(gs, .cells #[.int .i64 s.c, .int .i64 s.t, .int .i64 s.f] 23 (0, 0)), (w.heap.size, .cells #[.int .u8 x, .int .u8 y, .int .u8 z] 34 (0, 0)), (w.heap.size + 1, .cells #[.int .i64 0, .int .i64 0, .int .i64 0, .int .i64 0, .int .i64 st, .int .i64 0, .int .i64 0, .int .i64 0, .int .i64 0] 27 (0, 0))] wr) (fun _ _ vk _ => 20 - (intOf vk).toNat)
            case atStart => exact ⟨0, ⟨1, 0, r3⟩, 1, false, Nat.zero_le _, fun _ => ⟨rfl, rfl⟩, fun h => by omega, rfl, rfl, rfl, HB6.out⟩
            case round =>
              obtain ⟨j, s, cmd, ok, hj, hs1, hs2, rfl, rfl, rfl, hbr⟩ := hrel
              have HBJ := Lib.hid hbr
              clear hbr HB6
              by_cases hjn : j < N
              · obtain ⟨rfl, rfl⟩ := hs1 hjn
                clear hs1 hs2
                simp only at HBJ
                have hjc : (j : Int) + 1 ≤ (N : Int) := by omega
                have hjB : decide ((j : Int) + 1 ≤ (N : Int)) = true := decide_eq_true hjc
                have hwj : IntKind.i64.wrap ((j : Int) + 1 + 1) = ((j + 1 : Nat) : Int) + 1 := by rw [IntKind.wrap_i64]; omega
                have k0 := HK.out wr HBJ.out.below
                have c0_0 : wr.cell? ⟨gs, 0, none⟩ = some (.int .i64 1) := cell_of_row _ _ _ _ _ (0, 0) HBJ.out.r0
                have c0_1 : wr.cell? ⟨gs, 1, none⟩ = some (.int .i64 (j : Int)) := cell_of_row _ _ _ _ _ (0, 0) HBJ.out.r0
                have c0_2 : wr.cell? ⟨gs, 2, none⟩ = some (.int .i64 r3) := cell_of_row _ _ _ _ _ (0, 0) HBJ.out.r0
                go_wp2_with (with_reducible show wpList _ _ _ (Oper.mk _ (.store 25 _ _) _ _ _ _ :: _) _ _; refine Hid.out ?_)
                refine Lib.hid ?_
                have l21_0 : gs < wr.heap.size := (Array.getElem?_eq_some_iff.1 HBJ.out.r0).1
                have l21_1 : w.heap.size < wr.heap.size := (Array.getElem?_eq_some_iff.1 HBJ.out.r1).1
                have l21_2 : w.heap.size + 1 < wr.heap.size := (Array.getElem?_eq_some_iff.1 HBJ.out.r2).1
                have lw21 : w.heap.size ≤ wr.heap.size := HBJ.out.below.size
                refine wpList_put rfl 25 _ _ rfl wr.heap.size #[.int .i64 r3, .bool ((b : Int) % 5 == 0), .int .i64 0, .bool false] _ 25 rfl rfl (heap_alloc_new wr _) (by kernel_rfl) rfl (by kernel_rfl) ?_
                intro w21 hr21 hg21
                have HB21 : Hid (Bx w [(wr.heap.size, .cells #[.int .i64 r3, .bool ((b : Int) % 5 == 0), .int .i64 0, .bool false] 25 (0, 0)), (gs, .cells #[.int .i64 1, .int .i64 (j : Int), .int .i64 r3] 23 (0, 0)), (w.heap.size, .cells #[.int .u8 x, .int .u8 y, .int .u8 z] 34 (0, 0)), (w.heap.size + 1, .cells #[.int .i64 0, .int .i64 0, .int .i64 0, .int .i64 0, .int .i64 st, .int .i64 0, .int .i64 0, .int .i64 0, .int .i64 0] 27 (0, 0))] w21) := Lib.hid ((HBJ.out.make (heap_alloc_new wr (.cells #[.int .i64 0, .bool false, .int .i64 0, .bool false] 25)) ((Below.refl wr.heap.size wr).alloc (Nat.le_refl _) _)).put HBJ.out.below.size hg21.out hr21.out (by simp only [List.mem_cons, List.not_mem_nil, or_false]; rintro p (rfl | rfl | rfl | rfl) <;> simp <;> omega))
                clear c0_0 c0_1 c0_2 hr21 hg21 HBJ
                generalize wr.heap.size = gb at *
                clear k0
                generalize ((b : Int) % 5 == 0) = lv at *
                by_cases hend : j + 1 = N
                · have hE : (j : Int) + 1 = (N : Int) := by omega
                  have hEB : ((j : Int) + 1 == (N : Int)) = true := by simp [hE]
                  have FS := Lib.hid (fun wx (hb : Below w.heap.size w wx) => mostep_to n 1 j r3 (r3 + 1) true 0 false 0 0 0 0 0 true wx (HT.out _ hb) (Mo.step_end (w2 := 0) (by omega) (by omega) hf1 hf2 (.inl ⟨rfl, by omega⟩)))
                  have FL := Lib.hid (fun wx => moLate_any 0 0 0 0 st 0 0 0 0 0 0 0 wx)
                  rw [show Mo.late st ⟨0, 0, 0⟩ = false from decide_eq_false (by simp only; omega)] at FL
                  clear hE
                  have c0_0 : w21.cell? ⟨gb, 0, none⟩ = some (.int .i64 r3) := cell_of_row _ _ _ _ _ (0, 0) HB21.out.r0
                  have c0_1 : w21.cell? ⟨gb, 1, none⟩ = some (.bool lv) := cell_of_row _ _ _ _ _ (0, 0) HB21.out.r0
                  have c0_2 : w21.cell? ⟨gb, 2, none⟩ = some (.int .i64 0) := cell_of_row _ _ _ _ _ (0, 0) HB21.out.r0
                  have c0_3 : w21.cell? ⟨gb, 3, none⟩ = some (.bool false) := cell_of_row _ _ _ _ _ (0, 0) HB21.out.r0
                  have c1_0 : w21.cell? ⟨gs, 0, none⟩ = some (.int .i64 1) := cell_of_row _ _ _ _ _ (0, 0) HB21.out.r1
                  have c1_1 : w21.cell? ⟨gs, 1, none⟩ = some (.int .i64 (j : Int)) := cell_of_row _ _ _ _ _ (0, 0) HB21.out.r1
                  have c1_2 : w21.cell? ⟨gs, 2, none⟩ = some (.int .i64 r3) := cell_of_row _ _ _ _ _ (0, 0) HB21.out.r1
                  have c3_0 : w21.cell? ⟨w.heap.size + 1, 0, none⟩ = some (.int .i64 0) := cell_of_row _ _ _ _ _ (0, 0) HB21.out.r3
                  have c3_1 : w21.cell? ⟨w.heap.size + 1, 1, none⟩ = some (.int .i64 0) := cell_of_row _ _ _ _ _ (0, 0) HB21.out.r3
                  have c3_2 : w21.cell? ⟨w.heap.size + 1, 2, none⟩ = some (.int .i64 0) := cell_of_row _ _ _ _ _ (0, 0) HB21.out.r3
                  have c3_3 : w21.cell? ⟨w.heap.size + 1, 3, none⟩ = some (.int .i64 0) := cell_of_row _ _ _ _ _ (0, 0) HB21.out.r3
                  have c3_4 : w21.cell? ⟨w.heap.size + 1, 4, none⟩ = some (.int .i64 st) := cell_of_row _ _ _ _ _ (0, 0) HB21.out.r3
                  have c3_5 : w21.cell? ⟨w.heap.size + 1, 5, none⟩ = some (.int .i64 0) := cell_of_row _ _ _ _ _ (0, 0) HB21.out.r3
                  have c3_6 : w21.cell? ⟨w.heap.size + 1, 6, none⟩ = some (.int .i64 0) := cell_of_row _ _ _ _ _ (0, 0) HB21.out.r3
                  have c3_7 : w21.cell? ⟨w.heap.size + 1, 7, none⟩ = some (.int .i64 0) := cell_of_row _ _ _ _ _ (0, 0) HB21.out.r3
                  have c3_8 : w21.cell? ⟨w.heap.size + 1, 8, none⟩ = some (.int .i64 0) := cell_of_row _ _ _ _ _ (0, 0) HB21.out.r3
                  go_wp2_with (with_reducible show wpList _ _ _ (Oper.mk _ (.store 25 _ _) _ _ _ _ :: _) _ _; refine Hid.out ?_)
                  refine Lib.hid ?_
                  refine wpList_put rfl 25 _ _ rfl (gb) #[.int .i64 (r3 + 1), .bool true, .int .i64 0, .bool false] _ 25 rfl rfl HB21.out.r0 (by kernel_rfl) rfl (by kernel_rfl) ?_
                  intro w22 hr22 hg22
                  have HB22 : Hid (Bx w [(gb, .cells #[.int .i64 (r3 + 1), .bool true, .int .i64 0, .bool false] 25 (0, 0)), (gs, .cells #[.int .i64 1, .int .i64 (j : Int), .int .i64 r3] 23 (0, 0)), (w.heap.size, .cells #[.int .u8 x, .int .u8 y, .int .u8 z] 34 (0, 0)), (w.heap.size + 1, .cells #[.int .i64 0, .int .i64 0, .int .i64 0, .int .i64 0, .int .i64 st, .int .i64 0, .int .i64 0, .int .i64 0, .int .i64 0] 27 (0, 0))] w22) := Lib.hid (HB21.out.put (by omega) hg22.out hr22.out (by simp only [List.mem_cons, List.not_mem_nil, or_false]; rintro p (rfl | rfl | rfl | rfl) <;> simp <;> omega))
                  clear c0_0 c0_1 c0_2 c0_3 c1_0 c1_1 c1_2 c3_0 c3_1 c3_2 c3_3 c3_4 c3_5 c3_6 c3_7 c3_8 hr22 hg22 HB21
                  have c0_0 : w22.cell? ⟨gb, 0, none⟩ = some (.int .i64 (r3 + 1)) := cell_of_row _ _ _ _ _ (0, 0) HB22.out.r0
                  have c0_1 : w22.cell? ⟨gb, 1, none⟩ = some (.bool true) := cell_of_row _ _ _ _ _ (0, 0) HB22.out.r0
                  have c0_2 : w22.cell? ⟨gb, 2, none⟩ = some (.int .i64 0) := cell_of_row _ _ _ _ _ (0, 0) HB22.out.r0
                  have c0_3 : w22.cell? ⟨gb, 3, none⟩ = some (.bool false) := cell_of_row _ _ _ _ _ (0, 0) HB22.out.r0
                  have c1_0 : w22.cell? ⟨gs, 0, none⟩ = some (.int .i64 1) := cell_of_row _ _ _ _ _ (0, 0) HB22.out.r1
                  have c1_1 : w22.cell? ⟨gs, 1, none⟩ = some (.int .i64 (j : Int)) := cell_of_row _ _ _ _ _ (0, 0) HB22.out.r1
                  have c1_2 : w22.cell? ⟨gs, 2, none⟩ = some (.int .i64 r3) := cell_of_row _ _ _ _ _ (0, 0) HB22.out.r1
                  have c3_0 : w22.cell? ⟨w.heap.size + 1, 0, none⟩ = some (.int .i64 0) := cell_of_row _ _ _ _ _ (0, 0) HB22.out.r3
                  have c3_1 : w22.cell? ⟨w.heap.size + 1, 1, none⟩ = some (.int .i64 0) := cell_of_row _ _ _ _ _ (0, 0) HB22.out.r3
                  have c3_2 : w22.cell? ⟨w.heap.size + 1, 2, none⟩ = some (.int .i64 0) := cell_of_row _ _ _ _ _ (0, 0) HB22.out.r3
                  have c3_3 : w22.cell? ⟨w.heap.size + 1, 3, none⟩ = some (.int .i64 0) := cell_of_row _ _ _ _ _ (0, 0) HB22.out.r3
                  have c3_4 : w22.cell? ⟨w.heap.size + 1, 4, none⟩ = some (.int .i64 st) := cell_of_row _ _ _ _ _ (0, 0) HB22.out.r3
                  have c3_5 : w22.cell? ⟨w.heap.size + 1, 5, none⟩ = some (.int .i64 0) := cell_of_row _ _ _ _ _ (0, 0) HB22.out.r3
                  have c3_6 : w22.cell? ⟨w.heap.size + 1, 6, none⟩ = some (.int .i64 0) := cell_of_row _ _ _ _ _ (0, 0) HB22.out.r3
                  have c3_7 : w22.cell? ⟨w.heap.size + 1, 7, none⟩ = some (.int .i64 0) := cell_of_row _ _ _ _ _ (0, 0) HB22.out.r3
                  have c3_8 : w22.cell? ⟨w.heap.size + 1, 8, none⟩ = some (.int .i64 0) := cell_of_row _ _ _ _ _ (0, 0) HB22.out.r3
                  go_wp2_with fail
                  refine (FS.out _ HB22.out.below).mono ?_
                  rintro e w23 ⟨rfl, hb23⟩
                  have HB23 := Lib.hid (HB22.out.next hb23)
                  clear c0_0 c0_1 c0_2 c0_3 c1_0 c1_1 c1_2 c3_0 c3_1 c3_2 c3_3 c3_4 c3_5 c3_6 c3_7 c3_8 hb23 HB22
                  have c0_0 : w23.cell? ⟨gb, 0, none⟩ = some (.int .i64 (r3 + 1)) := cell_of_row _ _ _ _ _ (0, 0) HB23.out.r0
                  have c0_1 : w23.cell? ⟨gb, 1, none⟩ = some (.bool true) := cell_of_row _ _ _ _ _ (0, 0) HB23.out.r0
                  have c0_2 : w23.cell? ⟨gb, 2, none⟩ = some (.int .i64 0) := cell_of_row _ _ _ _ _ (0, 0) HB23.out.r0
                  have c0_3 : w23.cell? ⟨gb, 3, none⟩ = some (.bool false) := cell_of_row _ _ _ _ _ (0, 0) HB23.out.r0
                  have c1_0 : w23.cell? ⟨gs, 0, none⟩ = some (.int .i64 1) := cell_of_row _ _ _ _ _ (0, 0) HB23.out.r1
                  have c1_1 : w23.cell? ⟨gs, 1, none⟩ = some (.int .i64 (j : Int)) := cell_of_row _ _ _ _ _ (0, 0) HB23.out.r1
                  have c1_2 : w23.cell? ⟨gs, 2, none⟩ = some (.int .i64 r3) := cell_of_row _ _ _ _ _ (0, 0) HB23.out.r1
                  have c3_0 : w23.cell? ⟨w.heap.size + 1, 0, none⟩ = some (.int .i64 0) := cell_of_row _ _ _ _ _ (0, 0) HB23.out.r3
                  have c3_1 : w23.cell? ⟨w.heap.size + 1, 1, none⟩ = some (.int .i64 0) := cell_of_row _ _ _ _ _ (0, 0) HB23.out.r3
                  have c3_2 : w23.cell? ⟨w.heap.size + 1, 2, none⟩ = some (.int .i64 0) := cell_of_row _ _ _ _ _ (0, 0) HB23.out.r3
                  have c3_3 : w23.cell? ⟨w.heap.size + 1, 3, none⟩ = some (.int .i64 0) := cell_of_row _ _ _ _ _ (0, 0) HB23.out.r3
                  have c3_4 : w23.cell? ⟨w.heap.size + 1, 4, none⟩ = some (.int .i64 st) := cell_of_row _ _ _ _ _ (0, 0) HB23.out.r3
                  have c3_5 : w23.cell? ⟨w.heap.size + 1, 5, none⟩ = some (.int .i64 0) := cell_of_row _ _ _ _ _ (0, 0) HB23.out.r3
                  have c3_6 : w23.cell? ⟨w.heap.size + 1, 6, none⟩ = some (.int .i64 0) := cell_of_row _ _ _ _ _ (0, 0) HB23.out.r3
                  have c3_7 : w23.cell? ⟨w.heap.size + 1, 7, none⟩ = some (.int .i64 0) := cell_of_row _ _ _ _ _ (0, 0) HB23.out.r3
                  have c3_8 : w23.cell? ⟨w.heap.size + 1, 8, none⟩ = some (.int .i64 0) := cell_of_row _ _ _ _ _ (0, 0) HB23.out.r3
                  go_wp2_with (with_reducible show wpList _ _ _ (Oper.mk _ (.store 23 _ _) _ _ _ _ :: _) _ _; refine Hid.out ?_)
                  refine Lib.hid ?_
                  refine wpList_put rfl 23 _ _ rfl (gs) #[.int .i64 0, .int .i64 0, .int .i64 0] _ 23 rfl rfl HB23.out.r1 (by kernel_rfl) rfl (by kernel_rfl) ?_
                  intro w24 hr24 hg24
                  have HB24 : Hid (Bx w [(gb, .cells #[.int .i64 (r3 + 1), .bool true, .int .i64 0, .bool false] 25 (0, 0)), (gs, .cells #[.int .i64 0, .int .i64 0, .int .i64 0] 23 (0, 0)), (w.heap.size, .cells #[.int .u8 x, .int .u8 y, .int .u8 z] 34 (0, 0)), (w.heap.size + 1, .cells #[.int .i64 0, .int .i64 0, .int .i64 0, .int .i64 0, .int .i64 st, .int .i64 0, .int .i64 0, .int .i64 0, .int .i64 0] 27 (0, 0))] w24) := Lib.hid (HB23.out.put (by omega) hg24.out hr24.out (by simp only [List.mem_cons, List.not_mem_nil, or_false]; rintro p (rfl | rfl | rfl | rfl) <;> simp <;> omega))
                  clear c0_0 c0_1 c0_2 c0_3 c1_0 c1_1 c1_2 c3_0 c3_1 c3_2 c3_3 c3_4 c3_5 c3_6 c3_7 c3_8 hr24 hg24 HB23
                  have c0_0 : w24.cell? ⟨gb, 0, none⟩ = some (.int .i64 (r3 + 1)) := cell_of_row _ _ _ _ _ (0, 0) HB24.out.r0
                  have c0_1 : w24.cell? ⟨gb, 1, none⟩ = some (.bool true) := cell_of_row _ _ _ _ _ (0, 0) HB24.out.r0
                  have c0_2 : w24.cell? ⟨gb, 2, none⟩ = some (.int .i64 0) := cell_of_row _ _ _ _ _ (0, 0) HB24.out.r0
                  have c0_3 : w24.cell? ⟨gb, 3, none⟩ = some (.bool false) := cell_of_row _ _ _ _ _ (0, 0) HB24.out.r0
                  have c1_0 : w24.cell? ⟨gs, 0, none⟩ = some (.int .i64 0) := cell_of_row _ _ _ _ _ (0, 0) HB24.out.r1
                  have c1_1 : w24.cell? ⟨gs, 1, none⟩ = some (.int .i64 0) := cell_of_row _ _ _ _ _ (0, 0) HB24.out.r1
                  have c1_2 : w24.cell? ⟨gs, 2, none⟩ = some (.int .i64 0) := cell_of_row _ _ _ _ _ (0, 0) HB24.out.r1
                  have c3_0 : w24.cell? ⟨w.heap.size + 1, 0, none⟩ = some (.int .i64 0) := cell_of_row _ _ _ _ _ (0, 0) HB24.out.r3
                  have c3_1 : w24.cell? ⟨w.heap.size + 1, 1, none⟩ = some (.int .i64 0) := cell_of_row _ _ _ _ _ (0, 0) HB24.out.r3
                  have c3_2 : w24.cell? ⟨w.heap.size + 1, 2, none⟩ = some (.int .i64 0) := cell_of_row _ _ _ _ _ (0, 0) HB24.out.r3
                  have c3_3 : w24.cell? ⟨w.heap.size + 1, 3, none⟩ = some (.int .i64 0) := cell_of_row _ _ _ _ _ (0, 0) HB24.out.r3
                  have c3_4 : w24.cell? ⟨w.heap.size + 1, 4, none⟩ = some (.int .i64 st) := cell_of_row _ _ _ _ _ (0, 0) HB24.out.r3
                  have c3_5 : w24.cell? ⟨w.heap.size + 1, 5, none⟩ = some (.int .i64 0) := cell_of_row _ _ _ _ _ (0, 0) HB24.out.r3
                  have c3_6 : w24.cell? ⟨w.heap.size + 1, 6, none⟩ = some (.int .i64 0) := cell_of_row _ _ _ _ _ (0, 0) HB24.out.r3
                  have c3_7 : w24.cell? ⟨w.heap.size + 1, 7, none⟩ = some (.int .i64 0) := cell_of_row _ _ _ _ _ (0, 0) HB24.out.r3
                  have c3_8 : w24.cell? ⟨w.heap.size + 1, 8, none⟩ = some (.int .i64 0) := cell_of_row _ _ _ _ _ (0, 0) HB24.out.r3
                  go_wp2_with fail
                  refine (FL.out _).mono ?_
                  rintro e w25 ⟨rfl, hb25⟩
                  have HB25 := Lib.hid (HB24.out.next hb25)
                  clear c0_0 c0_1 c0_2 c0_3 c1_0 c1_1 c1_2 c3_0 c3_1 c3_2 c3_3 c3_4 c3_5 c3_6 c3_7 c3_8 hb25 HB24
                  have c0_0 : w25.cell? ⟨gb, 0, none⟩ = some (.int .i64 (r3 + 1)) := cell_of_row _ _ _ _ _ (0, 0) HB25.out.r0
                  have c0_1 : w25.cell? ⟨gb, 1, none⟩ = some (.bool true) := cell_of_row _ _ _ _ _ (0, 0) HB25.out.r0
                  have c0_2 : w25.cell? ⟨gb, 2, none⟩ = some (.int .i64 0) := cell_of_row _ _ _ _ _ (0, 0) HB25.out.r0
                  have c0_3 : w25.cell? ⟨gb, 3, none⟩ = some (.bool false) := cell_of_row _ _ _ _ _ (0, 0) HB25.out.r0
                  have c1_0 : w25.cell? ⟨gs, 0, none⟩ = some (.int .i64 0) := cell_of_row _ _ _ _ _ (0, 0) HB25.out.r1
                  have c1_1 : w25.cell? ⟨gs, 1, none⟩ = some (.int .i64 0) := cell_of_row _ _ _ _ _ (0, 0) HB25.out.r1
                  have c1_2 : w25.cell? ⟨gs, 2, none⟩ = some (.int .i64 0) := cell_of_row _ _ _ _ _ (0, 0) HB25.out.r1
                  have c3_0 : w25.cell? ⟨w.heap.size + 1, 0, none⟩ = some (.int .i64 0) := cell_of_row _ _ _ _ _ (0, 0) HB25.out.r3
                  have c3_1 : w25.cell? ⟨w.heap.size + 1, 1, none⟩ = some (.int .i64 0) := cell_of_row _ _ _ _ _ (0, 0) HB25.out.r3
                  have c3_2 : w25.cell? ⟨w.heap.size + 1, 2, none⟩ = some (.int .i64 0) := cell_of_row _ _ _ _ _ (0, 0) HB25.out.r3
                  have c3_3 : w25.cell? ⟨w.heap.size + 1, 3, none⟩ = some (.int .i64 0) := cell_of_row _ _ _ _ _ (0, 0) HB25.out.r3
                  have c3_4 : w25.cell? ⟨w.heap.size + 1, 4, none⟩ = some (.int .i64 st) := cell_of_row _ _ _ _ _ (0, 0) HB25.out.r3
                  have c3_5 : w25.cell? ⟨w.heap.size + 1, 5, none⟩ = some (.int .i64 0) := cell_of_row _ _ _ _ _ (0, 0) HB25.out.r3
                  have c3_6 : w25.cell? ⟨w.heap.size + 1, 6, none⟩ = some (.int .i64 0) := cell_of_row _ _ _ _ _ (0, 0) HB25.out.r3
                  have c3_7 : w25.cell? ⟨w.heap.size + 1, 7, none⟩ = some (.int .i64 0) := cell_of_row _ _ _ _ _ (0, 0) HB25.out.r3
                  have c3_8 : w25.cell? ⟨w.heap.size + 1, 8, none⟩ = some (.int .i64 0) := cell_of_row _ _ _ _ _ (0, 0) HB25.out.r3
                  go_wp2_with fail
                  go_roundw
                  case rel => exact ⟨j + 1, ⟨0, 0, 0⟩, 0, true, by omega, fun h => by omega, fun _ => ⟨rfl, rfl⟩, rfl, rfl, by first | rfl | go_num, HB25.out.less (by simp only [List.mem_cons, List.not_mem_nil, or_false]; rintro p (rfl | rfl | rfl) <;> simp)⟩
                  case measure => simp [intOf]; omega
                · have hE : ¬ (j : Int) + 1 = (N : Int) := by omega
                  have hEB : ((j : Int) + 1 == (N : Int)) = false := by simp [hE]
                  have FS := Lib.hid (fun wx (hb : Below w.heap.size w wx) => mostep_to n 1 j r3 r3 lv 0 false 0 1 (j + 1) r3 1 false wx (HT.out _ hb) (Mo.step_ride (w2 := 0) lv (by omega) (by omega) hf1 hf2 (.inl ⟨rfl, by omega⟩)))
                  have FL := Lib.hid (fun wx => moLate_any 0 0 0 0 st 0 0 0 0 1 (j + 1) r3 wx)
                  rw [show Mo.late st ⟨1, j + 1, r3⟩ = false from decide_eq_false (by simp only; omega)] at FL
                  have c0_0 : w21.cell? ⟨gb, 0, none⟩ = some (.int .i64 r3) := cell_of_row _ _ _ _ _ (0, 0) HB21.out.r0
                  have c0_1 : w21.cell? ⟨gb, 1, none⟩ = some (.bool lv) := cell_of_row _ _ _ _ _ (0, 0) HB21.out.r0
                  have c0_2 : w21.cell? ⟨gb, 2, none⟩ = some (.int .i64 0) := cell_of_row _ _ _ _ _ (0, 0) HB21.out.r0
                  have c0_3 : w21.cell? ⟨gb, 3, none⟩ = some (.bool false) := cell_of_row _ _ _ _ _ (0, 0) HB21.out.r0
                  have c1_0 : w21.cell? ⟨gs, 0, none⟩ = some (.int .i64 1) := cell_of_row _ _ _ _ _ (0, 0) HB21.out.r1
                  have c1_1 : w21.cell? ⟨gs, 1, none⟩ = some (.int .i64 (j : Int)) := cell_of_row _ _ _ _ _ (0, 0) HB21.out.r1
                  have c1_2 : w21.cell? ⟨gs, 2, none⟩ = some (.int .i64 r3) := cell_of_row _ _ _ _ _ (0, 0) HB21.out.r1
                  have c3_0 : w21.cell? ⟨w.heap.size + 1, 0, none⟩ = some (.int .i64 0) := cell_of_row _ _ _ _ _ (0, 0) HB21.out.r3
                  have c3_1 : w21.cell? ⟨w.heap.size + 1, 1, none⟩ = some (.int .i64 0) := cell_of_row _ _ _ _ _ (0, 0) HB21.out.r3
                  have c3_2 : w21.cell? ⟨w.heap.size + 1, 2, none⟩ = some (.int .i64 0) := cell_of_row _ _ _ _ _ (0, 0) HB21.out.r3
                  have c3_3 : w21.cell? ⟨w.heap.size + 1, 3, none⟩ = some (.int .i64 0) := cell_of_row _ _ _ _ _ (0, 0) HB21.out.r3
                  have c3_4 : w21.cell? ⟨w.heap.size + 1, 4, none⟩ = some (.int .i64 st) := cell_of_row _ _ _ _ _ (0, 0) HB21.out.r3
                  have c3_5 : w21.cell? ⟨w.heap.size + 1, 5, none⟩ = some (.int .i64 0) := cell_of_row _ _ _ _ _ (0, 0) HB21.out.r3
                  have c3_6 : w21.cell? ⟨w.heap.size + 1, 6, none⟩ = some (.int .i64 0) := cell_of_row _ _ _ _ _ (0, 0) HB21.out.r3
                  have c3_7 : w21.cell? ⟨w.heap.size + 1, 7, none⟩ = some (.int .i64 0) := cell_of_row _ _ _ _ _ (0, 0) HB21.out.r3
                  have c3_8 : w21.cell? ⟨w.heap.size + 1, 8, none⟩ = some (.int .i64 0) := cell_of_row _ _ _ _ _ (0, 0) HB21.out.r3
                  go_wp2_with fail
                  refine (FS.out _ HB21.out.below).mono ?_
                  rintro e w22 ⟨rfl, hb22⟩
                  have HB22 := Lib.hid (HB21.out.next hb22)
                  clear c0_0 c0_1 c0_2 c0_3 c1_0 c1_1 c1_2 c3_0 c3_1 c3_2 c3_3 c3_4 c3_5 c3_6 c3_7 c3_8 hb22 HB21
                  have c0_0 : w22.cell? ⟨gb, 0, none⟩ = some (.int .i64 r3) := cell_of_row _ _ _ _ _ (0, 0) HB22.out.r0
                  have c0_1 : w22.cell? ⟨gb, 1, none⟩ = some (.bool lv) := cell_of_row _ _ _ _ _ (0, 0) HB22.out.r0
                  have c0_2 : w22.cell? ⟨gb, 2, none⟩ = some (.int .i64 0) := cell_of_row _ _ _ _ _ (0, 0) HB22.out.r0
                  have c0_3 : w22.cell? ⟨gb, 3, none⟩ = some (.bool false) := cell_of_row _ _ _ _ _ (0, 0) HB22.out.r0
                  have c1_0 : w22.cell? ⟨gs, 0, none⟩ = some (.int .i64 1) := cell_of_row _ _ _ _ _ (0, 0) HB22.out.r1
                  have c1_1 : w22.cell? ⟨gs, 1, none⟩ = some (.int .i64 (j : Int)) := cell_of_row _ _ _ _ _ (0, 0) HB22.out.r1
                  have c1_2 : w22.cell? ⟨gs, 2, none⟩ = some (.int .i64 r3) := cell_of_row _ _ _ _ _ (0, 0) HB22.out.r1
                  have c3_0 : w22.cell? ⟨w.heap.size + 1, 0, none⟩ = some (.int .i64 0) := cell_of_row _ _ _ _ _ (0, 0) HB22.out.r3
                  have c3_1 : w22.cell? ⟨w.heap.size + 1, 1, none⟩ = some (.int .i64 0) := cell_of_row _ _ _ _ _ (0, 0) HB22.out.r3
                  have c3_2 : w22.cell? ⟨w.heap.size + 1, 2, none⟩ = some (.int .i64 0) := cell_of_row _ _ _ _ _ (0, 0) HB22.out.r3
                  have c3_3 : w22.cell? ⟨w.heap.size + 1, 3, none⟩ = some (.int .i64 0) := cell_of_row _ _ _ _ _ (0, 0) HB22.out.r3
                  have c3_4 : w22.cell? ⟨w.heap.size + 1, 4, none⟩ = some (.int .i64 st) := cell_of_row _ _ _ _ _ (0, 0) HB22.out.r3
                  have c3_5 : w22.cell? ⟨w.heap.size + 1, 5, none⟩ = some (.int .i64 0) := cell_of_row _ _ _ _ _ (0, 0) HB22.out.r3
                  have c3_6 : w22.cell? ⟨w.heap.size + 1, 6, none⟩ = some (.int .i64 0) := cell_of_row _ _ _ _ _ (0, 0) HB22.out.r3
                  have c3_7 : w22.cell? ⟨w.heap.size + 1, 7, none⟩ = some (.int .i64 0) := cell_of_row _ _ _ _ _ (0, 0) HB22.out.r3
                  have c3_8 : w22.cell? ⟨w.heap.size + 1, 8, none⟩ = some (.int .i64 0) := cell_of_row _ _ _ _ _ (0, 0) HB22.out.r3
                  go_wp2_with (with_reducible show wpList _ _ _ (Oper.mk _ (.store 23 _ _) _ _ _ _ :: _) _ _; refine Hid.out ?_)
                  refine Lib.hid ?_
                  refine wpList_put rfl 23 _ _ rfl (gs) #[.int .i64 1, .int .i64 ((j : Int) + 1), .int .i64 r3] _ 23 rfl rfl HB22.out.r1 (by kernel_rfl) rfl (by kernel_rfl) ?_
                  intro w23 hr23 hg23
                  have HB23 : Hid (Bx w [(gb, .cells #[.int .i64 r3, .bool lv, .int .i64 0, .bool false] 25 (0, 0)), (gs, .cells #[.int .i64 1, .int .i64 ((j : Int) + 1), .int .i64 r3] 23 (0, 0)), (w.heap.size, .cells #[.int .u8 x, .int .u8 y, .int .u8 z] 34 (0, 0)), (w.heap.size + 1, .cells #[.int .i64 0, .int .i64 0, .int .i64 0, .int .i64 0, .int .i64 st, .int .i64 0, .int .i64 0, .int .i64 0, .int .i64 0] 27 (0, 0))] w23) := Lib.hid (HB22.out.put (by omega) hg23.out hr23.out (by simp only [List.mem_cons, List.not_mem_nil, or_false]; rintro p (rfl | rfl | rfl | rfl) <;> simp <;> omega))
                  clear c0_0 c0_1 c0_2 c0_3 c1_0 c1_1 c1_2 c3_0 c3_1 c3_2 c3_3 c3_4 c3_5 c3_6 c3_7 c3_8 hr23 hg23 HB22
                  have c0_0 : w23.cell? ⟨gb, 0, none⟩ = some (.int .i64 r3) := cell_of_row _ _ _ _ _ (0, 0) HB23.out.r0
                  have c0_1 : w23.cell? ⟨gb, 1, none⟩ = some (.bool lv) := cell_of_row _ _ _ _ _ (0, 0) HB23.out.r0
                  have c0_2 : w23.cell? ⟨gb, 2, none⟩ = some (.int .i64 0) := cell_of_row _ _ _ _ _ (0, 0) HB23.out.r0
                  have c0_3 : w23.cell? ⟨gb, 3, none⟩ = some (.bool false) := cell_of_row _ _ _ _ _ (0, 0) HB23.out.r0
                  have c1_0 : w23.cell? ⟨gs, 0, none⟩ = some (.int .i64 1) := cell_of_row _ _ _ _ _ (0, 0) HB23.out.r1
                  have c1_1 : w23.cell? ⟨gs, 1, none⟩ = some (.int .i64 ((j : Int) + 1)) := cell_of_row _ _ _ _ _ (0, 0) HB23.out.r1
                  have c1_2 : w23.cell? ⟨gs, 2, none⟩ = some (.int .i64 r3) := cell_of_row _ _ _ _ _ (0, 0) HB23.out.r1
                  have c3_0 : w23.cell? ⟨w.heap.size + 1, 0, none⟩ = some (.int .i64 0) := cell_of_row _ _ _ _ _ (0, 0) HB23.out.r3
                  have c3_1 : w23.cell? ⟨w.heap.size + 1, 1, none⟩ = some (.int .i64 0) := cell_of_row _ _ _ _ _ (0, 0) HB23.out.r3
                  have c3_2 : w23.cell? ⟨w.heap.size + 1, 2, none⟩ = some (.int .i64 0) := cell_of_row _ _ _ _ _ (0, 0) HB23.out.r3
                  have c3_3 : w23.cell? ⟨w.heap.size + 1, 3, none⟩ = some (.int .i64 0) := cell_of_row _ _ _ _ _ (0, 0) HB23.out.r3
                  have c3_4 : w23.cell? ⟨w.heap.size + 1, 4, none⟩ = some (.int .i64 st) := cell_of_row _ _ _ _ _ (0, 0) HB23.out.r3
                  have c3_5 : w23.cell? ⟨w.heap.size + 1, 5, none⟩ = some (.int .i64 0) := cell_of_row _ _ _ _ _ (0, 0) HB23.out.r3
                  have c3_6 : w23.cell? ⟨w.heap.size + 1, 6, none⟩ = some (.int .i64 0) := cell_of_row _ _ _ _ _ (0, 0) HB23.out.r3
                  have c3_7 : w23.cell? ⟨w.heap.size + 1, 7, none⟩ = some (.int .i64 0) := cell_of_row _ _ _ _ _ (0, 0) HB23.out.r3
                  have c3_8 : w23.cell? ⟨w.heap.size + 1, 8, none⟩ = some (.int .i64 0) := cell_of_row _ _ _ _ _ (0, 0) HB23.out.r3
                  go_wp2_with fail
                  refine (FL.out _).mono ?_
                  rintro e w24 ⟨rfl, hb24⟩
                  have HB24 := Lib.hid (HB23.out.next hb24)
                  clear c0_0 c0_1 c0_2 c0_3 c1_0 c1_1 c1_2 c3_0 c3_1 c3_2 c3_3 c3_4 c3_5 c3_6 c3_7 c3_8 hb24 HB23
                  have c0_0 : w24.cell? ⟨gb, 0, none⟩ = some (.int .i64 r3) := cell_of_row _ _ _ _ _ (0, 0) HB24.out.r0
                  have c0_1 : w24.cell? ⟨gb, 1, none⟩ = some (.bool lv) := cell_of_row _ _ _ _ _ (0, 0) HB24.out.r0
                  have c0_2 : w24.cell? ⟨gb, 2, none⟩ = some (.int .i64 0) := cell_of_row _ _ _ _ _ (0, 0) HB24.out.r0
                  have c0_3 : w24.cell? ⟨gb, 3, none⟩ = some (.bool false) := cell_of_row _ _ _ _ _ (0, 0) HB24.out.r0
                  have c1_0 : w24.cell? ⟨gs, 0, none⟩ = some (.int .i64 1) := cell_of_row _ _ _ _ _ (0, 0) HB24.out.r1
                  have c1_1 : w24.cell? ⟨gs, 1, none⟩ = some (.int .i64 ((j : Int) + 1)) := cell_of_row _ _ _ _ _ (0, 0) HB24.out.r1
                  have c1_2 : w24.cell? ⟨gs, 2, none⟩ = some (.int .i64 r3) := cell_of_row _ _ _ _ _ (0, 0) HB24.out.r1
                  have c3_0 : w24.cell? ⟨w.heap.size + 1, 0, none⟩ = some (.int .i64 0) := cell_of_row _ _ _ _ _ (0, 0) HB24.out.r3
                  have c3_1 : w24.cell? ⟨w.heap.size + 1, 1, none⟩ = some (.int .i64 0) := cell_of_row _ _ _ _ _ (0, 0) HB24.out.r3
                  have c3_2 : w24.cell? ⟨w.heap.size + 1, 2, none⟩ = some (.int .i64 0) := cell_of_row _ _ _ _ _ (0, 0) HB24.out.r3
                  have c3_3 : w24.cell? ⟨w.heap.size + 1, 3, none⟩ = some (.int .i64 0) := cell_of_row _ _ _ _ _ (0, 0) HB24.out.r3
                  have c3_4 : w24.cell? ⟨w.heap.size + 1, 4, none⟩ = some (.int .i64 st) := cell_of_row _ _ _ _ _ (0, 0) HB24.out.r3
                  have c3_5 : w24.cell? ⟨w.heap.size + 1, 5, none⟩ = some (.int .i64 0) := cell_of_row _ _ _ _ _ (0, 0) HB24.out.r3
                  have c3_6 : w24.cell? ⟨w.heap.size + 1, 6, none⟩ = some (.int .i64 0) := cell_of_row _ _ _ _ _ (0, 0) HB24.out.r3
                  have c3_7 : w24.cell? ⟨w.heap.size + 1, 7, none⟩ = some (.int .i64 0) := cell_of_row _ _ _ _ _ (0, 0) HB24.out.r3
                  have c3_8 : w24.cell? ⟨w.heap.size + 1, 8, none⟩ = some (.int .i64 0) := cell_of_row _ _ _ _ _ (0, 0) HB24.out.r3
                  go_wp2_with fail
                  go_roundw
                  case rel => exact ⟨j + 1, ⟨1, j + 1, r3⟩, 1, false, by omega, fun _ => ⟨by simp, rfl⟩, fun h => by omega, rfl, rfl, by first | rfl | go_num, HB24.out.less (by simp only [List.mem_cons, List.not_mem_nil, or_false]; rintro p (rfl | rfl | rfl) <;> simp)⟩
                  case measure => simp [intOf]; omega
              · obtain rfl : j = N := by omega
                obtain ⟨rfl, rfl⟩ := hs2 rfl
                clear hs1 hs2
                simp only at HBJ
                have hjc : ¬ (j : Int) + 1 ≤ (j : Int) := by omega
                have hjB : decide ((j : Int) + 1 ≤ (j : Int)) = false := decide_eq_false hjc
                have hwi : IntKind.i64.wrap ((i : Int) + 1) = ((i + 1 : Nat) : Int) := by rw [IntKind.wrap_i64]; omega
                have c0_0 : wr.cell? ⟨gs, 0, none⟩ = some (.int .i64 0) := cell_of_row _ _ _ _ _ (0, 0) HBJ.out.r0
                have c0_1 : wr.cell? ⟨gs, 1, none⟩ = some (.int .i64 0) := cell_of_row _ _ _ _ _ (0, 0) HBJ.out.r0
                have c0_2 : wr.cell? ⟨gs, 2, none⟩ = some (.int .i64 0) := cell_of_row _ _ _ _ _ (0, 0) HBJ.out.r0
                go_wp2_with fail
                go_roundw
                case rel => exact ⟨r3 + 1, i + 1, by omega, by omega, by omega, by omega, rfl, rfl, HBJ.out.less (by simp only [List.mem_cons, List.not_mem_nil, or_false]; rintro p (rfl | rfl) <;> simp)⟩
                case measure => simp [intOf]; omega
          · have hwt : IntKind.i64.wrap (r3 + 1) = r3 + 1 := by rw [IntKind.wrap_i64]; omega
            have hwu : IntKind.i64.wrap (r3 - 1) = r3 - 1 := by rw [IntKind.wrap_i64]; omega
            clear c0_0 c0_1 c0_2 c2_0 c2_1 c2_2 c2_3 c2_4 c2_5 c2_6 c2_7 c2_8
            have c0_0 : w4.cell? ⟨gs, 0, none⟩ = some (.int .i64 2) := cell_of_row _ _ _ _ _ (0, 0) HB4.out.r0
            go_wp2_with fail
            refine Bag.region (fun wx => Below w4.heap.size w4 wx) (by kernel_rfl) (by kernel_rfl) (Below.refl _ _).drew ?_
            iterate 11 (first
                | (apply Bag.walk_yes (by rfl)
                   (intro wx hx K hK
                    have HXx := HB4.out.next hx
                    have z2_4 : wx.cell? ⟨w.heap.size + 1, 4, none⟩ = some (.int .i64 st) := cell_of_row _ _ _ _ _ (0, 0) HXx.r2
                    have k0 := HK.out wx HXx.below
                    first
                      | (go_simp
                         first
                          | (go_at_K; exact hK _ hx)))
                   rfl)
                | (refine Bag.walk_no (by rfl) ?_; simp only [Act.put, List.setIfInBounds_toArray, List.set_cons_succ, List.set_cons_zero]))
            refine Bag.walk_nil (fun w6 hb6 => ?_)
            have HB6 := Lib.hid (HB4.out.next hb6)
            clear c0_0 hb6 HB4
            rw [HNV.out.1, HNV.out.2.1, HNV.out.2.2.1, HNV.out.2.2.2]
            go_wp2_with fail
            clear hwt hwu
            go_loopw [11, 12, 15] (fun vc vo vk wr => ∃ (j : Nat) (s : Mo) (cmd : Int) (ok : Bool), j ≤ N ∧ (j < N → s = ⟨2, j, r3⟩ ∧ cmd = 2) ∧ (j = N → s = ⟨0, 0, 0⟩ ∧ cmd = 0) ∧ vc = .int .i64 cmd ∧ vo = .bool ok ∧ vk = .int .i64 ((j : Int) + 1) ∧ Bx w [(gs, .cells #[.int .i64 s.c, .int .i64 s.t, .int .i64 s.f] 23 (0, 0)), (w.heap.size, .cells #[.int .u8 x, .int .u8 y, .int .u8 z] 34 (0, 0)), (w.heap.size + 1, .cells #[.int .i64 0, .int .i64 0, .int .i64 0, .int .i64 0, .int .i64 st, .int .i64 0, .int .i64 0, .int .i64 0, .int .i64 0] 27 (0, 0))] wr) (fun _ _ vk _ => 20 - (intOf vk).toNat)
            case atStart => exact ⟨0, ⟨2, 0, r3⟩, 2, false, Nat.zero_le _, fun _ => ⟨rfl, rfl⟩, fun h => by omega, rfl, rfl, rfl, HB6.out⟩
            case round =>
              obtain ⟨j, s, cmd, ok, hj, hs1, hs2, rfl, rfl, rfl, hbr⟩ := hrel
              have HBJ := Lib.hid hbr
              clear hbr HB6
              by_cases hjn : j < N
              · obtain ⟨rfl, rfl⟩ := hs1 hjn
                clear hs1 hs2
                simp only at HBJ
                have hjc : (j : Int) + 1 ≤ (N : Int) := by omega
                have hjB : decide ((j : Int) + 1 ≤ (N : Int)) = true := decide_eq_true hjc
                have hwj : IntKind.i64.wrap ((j : Int) + 1 + 1) = ((j + 1 : Nat) : Int) + 1 := by rw [IntKind.wrap_i64]; omega
                have k0 := HK.out wr HBJ.out.below
                have c0_0 : wr.cell? ⟨gs, 0, none⟩ = some (.int .i64 2) := cell_of_row _ _ _ _ _ (0, 0) HBJ.out.r0
                have c0_1 : wr.cell? ⟨gs, 1, none⟩ = some (.int .i64 (j : Int)) := cell_of_row _ _ _ _ _ (0, 0) HBJ.out.r0
                have c0_2 : wr.cell? ⟨gs, 2, none⟩ = some (.int .i64 r3) := cell_of_row _ _ _ _ _ (0, 0) HBJ.out.r0
                go_wp2_with (with_reducible show wpList _ _ _ (Oper.mk _ (.store 25 _ _) _ _ _ _ :: _) _ _; refine Hid.out ?_)
                refine Lib.hid ?_
                have l21_0 : gs < wr.heap.size := (Array.getElem?_eq_some_iff.1 HBJ.out.r0).1
                have l21_1 : w.heap.size < wr.heap.size := (Array.getElem?_eq_some_iff.1 HBJ.out.r1).1
                have l21_2 : w.heap.size + 1 < wr.heap.size := (Array.getElem?_eq_some_iff.1 HBJ.out.r2).1
                have lw21 : w.heap.size ≤ wr.heap.size := HBJ.out.below.size
                refine wpList_put rfl 25 _ _ rfl wr.heap.size #[.int .i64 r3, .bool ((b : Int) % 5 == 0), .int .i64 0, .bool false] _ 25 rfl rfl (heap_alloc_new wr _) (by kernel_rfl) rfl (by kernel_rfl) ?_
                intro w21 hr21 hg21
                have HB21 : Hid (Bx w [(wr.heap.size, .cells #[.int .i64 r3, .bool ((b : Int) % 5 == 0), .int .i64 0, .bool false] 25 (0, 0)), (gs, .cells #[.int .i64 2, .int .i64 (j : Int), .int .i64 r3] 23 (0, 0)), (w.heap.size, .cells #[.int .u8 x, .int .u8 y, .int .u8 z] 34 (0, 0)), (w.heap.size + 1, .cells #[.int .i64 0, .int .i64 0, .int .i64 0, .int .i64 0, .int .i64 st, .int .i64 0, .int .i64 0, .int .i64 0, .int .i64 0] 27 (0, 0))] w21) := Lib.hid ((HBJ.out.make (heap_alloc_new wr (.cells #[.int .i64 0, .bool false, .int .i64 0, .bool false] 25)) ((Below.refl wr.heap.size wr).alloc (Nat.le_refl _) _)).put HBJ.out.below.size hg21.out hr21.out (by simp only [List.mem_cons, List.not_mem_nil, or_false]; rintro p (rfl | rfl | rfl | rfl) <;> simp <;> omega))
                clear c0_0 c0_1 c0_2 hr21 hg21 HBJ
                generalize wr.heap.size = gb at *
                clear k0
                generalize ((b : Int) % 5 == 0) = lv at *
                by_cases hend : j + 1 = N
                · have hE : (j : Int) + 1 = (N : Int) := by omega
                  have hEB : ((j : Int) + 1 == (N : Int)) = true := by simp [hE]
                  have FS := Lib.hid (fun wx (hb : Below w.heap.size w wx) => mostep_to n 2 j r3 (r3 - 1) true 0 false 0 0 0 0 0 true wx (HT.out _ hb) (Mo.step_end (w2 := 0) (by omega) (by omega) hf1 hf2 (.inr ⟨rfl, by omega⟩)))
                  have FL := Lib.hid (fun wx => moLate_any 0 0 0 0 st 0 0 0 0 0 0 0 wx)
                  rw [show Mo.late st ⟨0, 0, 0⟩ = false from decide_eq_false (by simp only; omega)] at FL
                  clear hE
                  have c0_0 : w21.cell? ⟨gb, 0, none⟩ = some (.int .i64 r3) := cell_of_row _ _ _ _ _ (0, 0) HB21.out.r0
                  have c0_1 : w21.cell? ⟨gb, 1, none⟩ = some (.bool lv) := cell_of_row _ _ _ _ _ (0, 0) HB21.out.r0
                  have c0_2 : w21.cell? ⟨gb, 2, none⟩ = some (.int .i64 0) := cell_of_row _ _ _ _ _ (0, 0) HB21.out.r0
                  have c0_3 : w21.cell? ⟨gb, 3, none⟩ = some (.bool false) := cell_of_row _ _ _ _ _ (0, 0) HB21.out.r0
                  have c1_0 : w21.cell? ⟨gs, 0, none⟩ = some (.int .i64 2) := cell_of_row _ _ _ _ _ (0, 0) HB21.out.r1
                  have c1_1 : w21.cell? ⟨gs, 1, none⟩ = some (.int .i64 (j : Int)) := cell_of_row _ _ _ _ _ (0, 0) HB21.out.r1
                  have c1_2 : w21.cell? ⟨gs, 2, none⟩ = some (.int .i64 r3) := cell_of_row _ _ _ _ _ (0, 0) HB21.out.r1
                  have c3_0 : w21.cell? ⟨w.heap.size + 1, 0, none⟩ = some (.int .i64 0) := cell_of_row _ _ _ _ _ (0, 0) HB21.out.r3
                  have c3_1 : w21.cell? ⟨w.heap.size + 1, 1, none⟩ = some (.int .i64 0) := cell_of_row _ _ _ _ _ (0, 0) HB21.out.r3
                  have c3_2 : w21.cell? ⟨w.heap.size + 1, 2, none⟩ = some (.int .i64 0) := cell_of_row _ _ _ _ _ (0, 0) HB21.out.r3
                  have c3_3 : w21.cell? ⟨w.heap.size + 1, 3, none⟩ = some (.int .i64 0) := cell_of_row _ _ _ _ _ (0, 0) HB21.out.r3
                  have c3_4 : w21.cell? ⟨w.heap.size + 1, 4, none⟩ = some (.int .i64 st) := cell_of_row _ _ _ _ _ (0, 0) HB21.out.r3
                  have c3_5 : w21.cell? ⟨w.heap.size + 1, 5, none⟩ = some (.int .i64 0) := cell_of_row _ _ _ _ _ (0, 0) HB21.out.r3
                  have c3_6 : w21.cell? ⟨w.heap.size + 1, 6, none⟩ = some (.int .i64 0) := cell_of_row _ _ _ _ _ (0, 0) HB21.out.r3
                  have c3_7 : w21.cell? ⟨w.heap.size + 1, 7, none⟩ = some (.int .i64 0) := cell_of_row _ _ _ _ _ (0, 0) HB21.out.r3
                  have c3_8 : w21.cell? ⟨w.heap.size + 1, 8, none⟩ = some (.int .i64 0) := cell_of_row _ _ _ _ _ (0, 0) HB21.out.r3
                  go_wp2_with (with_reducible show wpList _ _ _ (Oper.mk _ (.store 25 _ _) _ _ _ _ :: _) _ _; refine Hid.out ?_)
                  refine Lib.hid ?_
                  refine wpList_put rfl 25 _ _ rfl (gb) #[.int .i64 (r3 - 1), .bool true, .int .i64 0, .bool false] _ 25 rfl rfl HB21.out.r0 (by kernel_rfl) rfl (by kernel_rfl) ?_
                  intro w22 hr22 hg22
                  have HB22 : Hid (Bx w [(gb, .cells #[.int .i64 (r3 - 1), .bool true, .int .i64 0, .bool false] 25 (0, 0)), (gs, .cells #[.int .i64 2, .int .i64 (j : Int), .int .i64 r3] 23 (0, 0)), (w.heap.size, .cells #[.int .u8 x, .int .u8 y, .int .u8 z] 34 (0, 0)), (w.heap.size + 1, .cells #[.int .i64 0, .int .i64 0, .int .i64 0, .int .i64 0, .int .i64 st, .int .i64 0, .int .i64 0, .int .i64 0, .int .i64 0] 27 (0, 0))] w22) := Lib.hid (HB21.out.put (by omega) hg22.out hr22.out (by simp only [List.mem_cons, List.not_mem_nil, or_false]; rintro p (rfl | rfl | rfl | rfl) <;> simp <;> omega))
                  clear c0_0 c0_1 c0_2 c0_3 c1_0 c1_1 c1_2 c3_0 c3_1 c3_2 c3_3 c3_4 c3_5 c3_6 c3_7 c3_8 hr22 hg22 HB21
                  have c0_0 : w22.cell? ⟨gb, 0, none⟩ = some (.int .i64 (r3 - 1)) := cell_of_row _ _ _ _ _ (0, 0) HB22.out.r0
                  have c0_1 : w22.cell? ⟨gb, 1, none⟩ = some (.bool true) := cell_of_row _ _ _ _ _ (0, 0) HB22.out.r0
                  have c0_2 : w22.cell? ⟨gb, 2, none⟩ = some (.int .i64 0) := cell_of_row _ _ _ _ _ (0, 0) HB22.out.r0
                  have c0_3 : w22.cell? ⟨gb, 3, none⟩ = some (.bool false) := cell_of_row _ _ _ _ _ (0, 0) HB22.out.r0
                  have c1_0 : w22.cell? ⟨gs, 0, none⟩ = some (.int .i64 2) := cell_of_row _ _ _ _ _ (0, 0) HB22.out.r1
                  have c1_1 : w22.cell? ⟨gs, 1, none⟩ = some (.int .i64 (j : Int)) := cell_of_row _ _ _ _ _ (0, 0) HB22.out.r1
                  have c1_2 : w22.cell? ⟨gs, 2, none⟩ = some (.int .i64 r3) := cell_of_row _ _ _ _ _ (0, 0) HB22.out.r1
                  have c3_0 : w22.cell? ⟨w.heap.size + 1, 0, none⟩ = some (.int .i64 0) := cell_of_row _ _ _ _ _ (0, 0) HB22.out.r3
                  have c3_1 : w22.cell? ⟨w.heap.size + 1, 1, none⟩ = some (.int .i64 0) := cell_of_row _ _ _ _ _ (0, 0) HB22.out.r3
                  have c3_2 : w22.cell? ⟨w.heap.size + 1, 2, none⟩ = some (.int .i64 0) := cell_of_row _ _ _ _ _ (0, 0) HB22.out.r3
                  have c3_3 : w22.cell? ⟨w.heap.size + 1, 3, none⟩ = some (.int .i64 0) := cell_of_row _ _ _ _ _ (0, 0) HB22.out.r3
                  have c3_4 : w22.cell? ⟨w.heap.size + 1, 4, none⟩ = some (.int .i64 st) := cell_of_row _ _ _ _ _ (0, 0) HB22.out.r3
                  have c3_5 : w22.cell? ⟨w.heap.size + 1, 5, none⟩ = some (.int .i64 0) := cell_of_row _ _ _ _ _ (0, 0) HB22.out.r3
                  have c3_6 : w22.cell? ⟨w.heap.size + 1, 6, none⟩ = some (.int .i64 0) := cell_of_row _ _ _ _ _ (0, 0) HB22.out.r3
                  have c3_7 : w22.cell? ⟨w.heap.size + 1, 7, none⟩ = some (.int .i64 0) := cell_of_row _ _ _ _ _ (0, 0) HB22.out.r3
                  have c3_8 : w22.cell? ⟨w.heap.size + 1, 8, none⟩ = some (.int .i64 0) := cell_of_row _ _ _ _ _ (0, 0) HB22.out.r3
                  go_wp2_with fail
                  refine (FS.out _ HB22.out.below).mono ?_
                  rintro e w23 ⟨rfl, hb23⟩
                  have HB23 := Lib.hid (HB22.out.next hb23)
                  clear c0_0 c0_1 c0_2 c0_3 c1_0 c1_1 c1_2 c3_0 c3_1 c3_2 c3_3 c3_4 c3_5 c3_6 c3_7 c3_8 hb23 HB22
                  have c0_0 : w23.cell? ⟨gb, 0, none⟩ = some (.int .i64 (r3 - 1)) := cell_of_row _ _ _ _ _ (0, 0) HB23.out.r0
                  have c0_1 : w23.cell? ⟨gb, 1, none⟩ = some (.bool true) := cell_of_row _ _ _ _ _ (0, 0) HB23.out.r0
                  have c0_2 : w23.cell? ⟨gb, 2, none⟩ = some (.int .i64 0) := cell_of_row _ _ _ _ _ (0, 0) HB23.out.r0
                  have c0_3 : w23.cell? ⟨gb, 3, none⟩ = some (.bool false) := cell_of_row _ _ _ _ _ (0, 0) HB23.out.r0
                  have c1_0 : w23.cell? ⟨gs, 0, none⟩ = some (.int .i64 2) := cell_of_row _ _ _ _ _ (0, 0) HB23.out.r1
                  have c1_1 : w23.cell? ⟨gs, 1, none⟩ = some (.int .i64 (j : Int)) := cell_of_row _ _ _ _ _ (0, 0) HB23.out.r1
                  have c1_2 : w23.cell? ⟨gs, 2, none⟩ = some (.int .i64 r3) := cell_of_row _ _ _ _ _ (0, 0) HB23.out.r1
                  have c3_0 : w23.cell? ⟨w.heap.size + 1, 0, none⟩ = some (.int .i64 0) := cell_of_row _ _ _ _ _ (0, 0) HB23.out.r3
                  have c3_1 : w23.cell? ⟨w.heap.size + 1, 1, none⟩ = some (.int .i64 0) := cell_of_row _ _ _ _ _ (0, 0) HB23.out.r3
                  have c3_2 : w23.cell? ⟨w.heap.size + 1, 2, none⟩ = some (.int .i64 0) := cell_of_row _ _ _ _ _ (0, 0) HB23.out.r3
                  have c3_3 : w23.cell? ⟨w.heap.size + 1, 3, none⟩ = some (.int .i64 0) := cell_of_row _ _ _ _ _ (0, 0) HB23.out.r3
                  have c3_4 : w23.cell? ⟨w.heap.size + 1, 4, none⟩ = some (.int .i64 st) := cell_of_row _ _ _ _ _ (0, 0) HB23.out.r3
                  have c3_5 : w23.cell? ⟨w.heap.size + 1, 5, none⟩ = some (.int .i64 0) := cell_of_row _ _ _ _ _ (0, 0) HB23.out.r3
                  have c3_6 : w23.cell? ⟨w.heap.size + 1, 6, none⟩ = some (.int .i64 0) := cell_of_row _ _ _ _ _ (0, 0) HB23.out.r3
                  have c3_7 : w23.cell? ⟨w.heap.size + 1, 7, none⟩ = some (.int .i64 0) := cell_of_row _ _ _ _ _ (0, 0) HB23.out.r3
                  have c3_8 : w23.cell? ⟨w.heap.size + 1, 8, none⟩ = some (.int .i64 0) := cell_of_row _ _ _ _ _ (0, 0) HB23.out.r3
                  go_wp2_with (with_reducible show wpList _ _ _ (Oper.mk _ (.store 23 _ _) _ _ _ _ :: _) _ _; refine Hid.out ?_)
                  refine Lib.hid ?_
                  refine wpList_put rfl 23 _ _ rfl (gs) #[.int .i64 0, .int .i64 0, .int .i64 0] _ 23 rfl rfl HB23.out.r1 (by kernel_rfl) rfl (by kernel_rfl) ?_
                  intro w24 hr24 hg24
                  have HB24 : Hid (Bx w [(gb, .cells #[.int .i64 (r3 - 1), .bool true, .int .i64 0, .bool false] 25 (0, 0)), (gs, .cells #[.int .i64 0, .int .i64 0, .int .i64 0] 23 (0, 0)), (w.heap.size, .cells #[.int .u8 x, .int .u8 y, .int .u8 z] 34 (0, 0)), (w.heap.size + 1, .cells #[.int .i64 0, .int .i64 0, .int .i64 0, .int .i64 0, .int .i64 st, .int .i64 0, .int .i64 0, .int .i64 0, .int .i64 0] 27 (0, 0))] w24) := Lib.hid (HB23.out.put (by omega) hg24.out hr24.out (by simp only [List.mem_cons, List.not_mem_nil, or_false]; rintro p (rfl | rfl | rfl | rfl) <;> simp <;> omega))
                  clear c0_0 c0_1 c0_2 c0_3 c1_0 c1_1 c1_2 c3_0 c3_1 c3_2 c3_3 c3_4 c3_5 c3_6 c3_7 c3_8 hr24 hg24 HB23
                  have c0_0 : w24.cell? ⟨gb, 0, none⟩ = some (.int .i64 (r3 - 1)) := cell_of_row _ _ _ _ _ (0, 0) HB24.out.r0
                  have c0_1 : w24.cell? ⟨gb, 1, none⟩ = some (.bool true) := cell_of_row _ _ _ _ _ (0, 0) HB24.out.r0
                  have c0_2 : w24.cell? ⟨gb, 2, none⟩ = some (.int .i64 0) := cell_of_row _ _ _ _ _ (0, 0) HB24.out.r0
                  have c0_3 : w24.cell? ⟨gb, 3, none⟩ = some (.bool false) := cell_of_row _ _ _ _ _ (0, 0) HB24.out.r0
                  have c1_0 : w24.cell? ⟨gs, 0, none⟩ = some (.int .i64 0) := cell_of_row _ _ _ _ _ (0, 0) HB24.out.r1
                  have c1_1 : w24.cell? ⟨gs, 1, none⟩ = some (.int .i64 0) := cell_of_row _ _ _ _ _ (0, 0) HB24.out.r1
                  have c1_2 : w24.cell? ⟨gs, 2, none⟩ = some (.int .i64 0) := cell_of_row _ _ _ _ _ (0, 0) HB24.out.r1
                  have c3_0 : w24.cell? ⟨w.heap.size + 1, 0, none⟩ = some (.int .i64 0) := cell_of_row _ _ _ _ _ (0, 0) HB24.out.r3
                  have c3_1 : w24.cell? ⟨w.heap.size + 1, 1, none⟩ = some (.int .i64 0) := cell_of_row _ _ _ _ _ (0, 0) HB24.out.r3
                  have c3_2 : w24.cell? ⟨w.heap.size + 1, 2, none⟩ = some (.int .i64 0) := cell_of_row _ _ _ _ _ (0, 0) HB24.out.r3
                  have c3_3 : w24.cell? ⟨w.heap.size + 1, 3, none⟩ = some (.int .i64 0) := cell_of_row _ _ _ _ _ (0, 0) HB24.out.r3
                  have c3_4 : w24.cell? ⟨w.heap.size + 1, 4, none⟩ = some (.int .i64 st) := cell_of_row _ _ _ _ _ (0, 0) HB24.out.r3
                  have c3_5 : w24.cell? ⟨w.heap.size + 1, 5, none⟩ = some (.int .i64 0) := cell_of_row _ _ _ _ _ (0, 0) HB24.out.r3
                  have c3_6 : w24.cell? ⟨w.heap.size + 1, 6, none⟩ = some (.int .i64 0) := cell_of_row _ _ _ _ _ (0, 0) HB24.out.r3
                  have c3_7 : w24.cell? ⟨w.heap.size + 1, 7, none⟩ = some (.int .i64 0) := cell_of_row _ _ _ _ _ (0, 0) HB24.out.r3
                  have c3_8 : w24.cell? ⟨w.heap.size + 1, 8, none⟩ = some (.int .i64 0) := cell_of_row _ _ _ _ _ (0, 0) HB24.out.r3
                  go_wp2_with fail
                  refine (FL.out _).mono ?_
                  rintro e w25 ⟨rfl, hb25⟩
                  have HB25 := Lib.hid (HB24.out.next hb25)
                  clear c0_0 c0_1 c0_2 c0_3 c1_0 c1_1 c1_2 c3_0 c3_1 c3_2 c3_3 c3_4 c3_5 c3_6 c3_7 c3_8 hb25 HB24
                  have c0_0 : w25.cell? ⟨gb, 0, none⟩ = some (.int .i64 (r3 - 1)) := cell_of_row _ _ _ _ _ (0, 0) HB25.out.r0
                  have c0_1 : w25.cell? ⟨gb, 1, none⟩ = some (.bool true) := cell_of_row _ _ _ _ _ (0, 0) HB25.out.r0
                  have c0_2 : w25.cell? ⟨gb, 2, none⟩ = some (.int .i64 0) := cell_of_row _ _ _ _ _ (0, 0) HB25.out.r0
                  have c0_3 : w25.cell? ⟨gb, 3, none⟩ = some (.bool false) := cell_of_row _ _ _ _ _ (0, 0) HB25.out.r0
                  have c1_0 : w25.cell? ⟨gs, 0, none⟩ = some (.int .i64 0) := cell_of_row _ _ _ _ _ (0, 0) HB25.out.r1
                  have c1_1 : w25.cell? ⟨gs, 1, none⟩ = some (.int .i64 0) := cell_of_row _ _ _ _ _ (0, 0) HB25.out.r1
                  have c1_2 : w25.cell? ⟨gs, 2, none⟩ = some (.int .i64 0) := cell_of_row _ _ _ _ _ (0, 0) HB25.out.r1
                  have c3_0 : w25.cell? ⟨w.heap.size + 1, 0, none⟩ = some (.int .i64 0) := cell_of_row _ _ _ _ _ (0, 0) HB25.out.r3
                  have c3_1 : w25.cell? ⟨w.heap.size + 1, 1, none⟩ = some (.int .i64 0) := cell_of_row _ _ _ _ _ (0, 0) HB25.out.r3
                  have c3_2 : w25.cell? ⟨w.heap.size + 1, 2, none⟩ = some (.int .i64 0) := cell_of_row _ _ _ _ _ (0, 0) HB25.out.r3
                  have c3_3 : w25.cell? ⟨w.heap.size + 1, 3, none⟩ = some (.int .i64 0) := cell_of_row _ _ _ _ _ (0, 0) HB25.out.r3
                  have c3_4 : w25.cell? ⟨w.heap.size + 1, 4, none⟩ = some (.int .i64 st) := cell_of_row _ _ _ _ _ (0, 0) HB25.out.r3
                  have c3_5 : w25.cell? ⟨w.heap.size + 1, 5, none⟩ = some (.int .i64 0) := cell_of_row _ _ _ _ _ (0, 0) HB25.out.r3
                  have c3_6 : w25.cell? ⟨w.heap.size + 1, 6, none⟩ = some (.int .i64 0) := cell_of_row _ _ _ _ _ (0, 0) HB25.out.r3
                  have c3_7 : w25.cell? ⟨w.heap.size + 1, 7, none⟩ = some (.int .i64 0) := cell_of_row _ _ _ _ _ (0, 0) HB25.out.r3
                  have c3_8 : w25.cell? ⟨w.heap.size + 1, 8, none⟩ = some (.int .i64 0) := cell_of_row _ _ _ _ _ (0, 0) HB25.out.r3
                  go_wp2_with fail
                  go_roundw
                  case rel => exact ⟨j + 1, ⟨0, 0, 0⟩, 0, true, by omega, fun h => by omega, fun _ => ⟨rfl, rfl⟩, rfl, rfl, by first | rfl | go_num, HB25.out.less (by simp only [List.mem_cons, List.not_mem_nil, or_false]; rintro p (rfl | rfl | rfl) <;> simp)⟩
                  case measure => simp [intOf]; omega
                · have hE : ¬ (j : Int) + 1 = (N : Int) := by omega
                  have hEB : ((j : Int) + 1 == (N : Int)) = false := by simp [hE]
                  have FS := Lib.hid (fun wx (hb : Below w.heap.size w wx) => mostep_to n 2 j r3 r3 lv 0 false 0 2 (j + 1) r3 2 false wx (HT.out _ hb) (Mo.step_ride (w2 := 0) lv (by omega) (by omega) hf1 hf2 (.inr ⟨rfl, by omega⟩)))
                  have FL := Lib.hid (fun wx => moLate_any 0 0 0 0 st 0 0 0 0 2 (j + 1) r3 wx)
                  rw [show Mo.late st ⟨2, j + 1, r3⟩ = false from decide_eq_false (by simp only; omega)] at FL
                  have c0_0 : w21.cell? ⟨gb, 0, none⟩ = some (.int .i64 r3) := cell_of_row _ _ _ _ _ (0, 0) HB21.out.r0
                  have c0_1 : w21.cell? ⟨gb, 1, none⟩ = some (.bool lv) := cell_of_row _ _ _ _ _ (0, 0) HB21.out.r0
                  have c0_2 : w21.cell? ⟨gb, 2, none⟩ = some (.int .i64 0) := cell_of_row _ _ _ _ _ (0, 0) HB21.out.r0
                  have c0_3 : w21.cell? ⟨gb, 3, none⟩ = some (.bool false) := cell_of_row _ _ _ _ _ (0, 0) HB21.out.r0
                  have c1_0 : w21.cell? ⟨gs, 0, none⟩ = some (.int .i64 2) := cell_of_row _ _ _ _ _ (0, 0) HB21.out.r1
                  have c1_1 : w21.cell? ⟨gs, 1, none⟩ = some (.int .i64 (j : Int)) := cell_of_row _ _ _ _ _ (0, 0) HB21.out.r1
                  have c1_2 : w21.cell? ⟨gs, 2, none⟩ = some (.int .i64 r3) := cell_of_row _ _ _ _ _ (0, 0) HB21.out.r1
                  have c3_0 : w21.cell? ⟨w.heap.size + 1, 0, none⟩ = some (.int .i64 0) := cell_of_row _ _ _ _ _ (0, 0) HB21.out.r3
                  have c3_1 : w21.cell? ⟨w.heap.size + 1, 1, none⟩ = some (.int .i64 0) := cell_of_row _ _ _ _ _ (0, 0) HB21.out.r3
                  have c3_2 : w21.cell? ⟨w.heap.size + 1, 2, none⟩ = some (.int .i64 0) := cell_of_row _ _ _ _ _ (0, 0) HB21.out.r3
                  have c3_3 : w21.cell? ⟨w.heap.size + 1, 3, none⟩ = some (.int .i64 0) := cell_of_row _ _ _ _ _ (0, 0) HB21.out.r3
                  have c3_4 : w21.cell? ⟨w.heap.size + 1, 4, none⟩ = some (.int .i64 st) := cell_of_row _ _ _ _ _ (0, 0) HB21.out.r3
                  have c3_5 : w21.cell? ⟨w.heap.size + 1, 5, none⟩ = some (.int .i64 0) := cell_of_row _ _ _ _ _ (0, 0) HB21.out.r3
                  have c3_6 : w21.cell? ⟨w.heap.size + 1, 6, none⟩ = some (.int .i64 0) := cell_of_row _ _ _ _ _ (0, 0) HB21.out.r3
                  have c3_7 : w21.cell? ⟨w.heap.size + 1, 7, none⟩ = some (.int .i64 0) := cell_of_row _ _ _ _ _ (0, 0) HB21.out.r3
                  have c3_8 : w21.cell? ⟨w.heap.size + 1, 8, none⟩ = some (.int .i64 0) := cell_of_row _ _ _ _ _ (0, 0) HB21.out.r3
                  go_wp2_with fail
                  refine (FS.out _ HB21.out.below).mono ?_
                  rintro e w22 ⟨rfl, hb22⟩
                  have HB22 := Lib.hid (HB21.out.next hb22)
                  clear c0_0 c0_1 c0_2 c0_3 c1_0 c1_1 c1_2 c3_0 c3_1 c3_2 c3_3 c3_4 c3_5 c3_6 c3_7 c3_8 hb22 HB21
                  have c0_0 : w22.cell? ⟨gb, 0, none⟩ = some (.int .i64 r3) := cell_of_row _ _ _ _ _ (0, 0) HB22.out.r0
                  have c0_1 : w22.cell? ⟨gb, 1, none⟩ = some (.bool lv) := cell_of_row _ _ _ _ _ (0, 0) HB22.out.r0
                  have c0_2 : w22.cell? ⟨gb, 2, none⟩ = some (.int .i64 0) := cell_of_row _ _ _ _ _ (0, 0) HB22.out.r0
                  have c0_3 : w22.cell? ⟨gb, 3, none⟩ = some (.bool false) := cell_of_row _ _ _ _ _ (0, 0) HB22.out.r0
                  have c1_0 : w22.cell? ⟨gs, 0, none⟩ = some (.int .i64 2) := cell_of_row _ _ _ _ _ (0, 0) HB22.out.r1
                  have c1_1 : w22.cell? ⟨gs, 1, none⟩ = some (.int .i64 (j : Int)) := cell_of_row _ _ _ _ _ (0, 0) HB22.out.r1
                  have c1_2 : w22.cell? ⟨gs, 2, none⟩ = some (.int .i64 r3) := cell_of_row _ _ _ _ _ (0, 0) HB22.out.r1
                  have c3_0 : w22.cell? ⟨w.heap.size + 1, 0, none⟩ = some (.int .i64 0) := cell_of_row _ _ _ _ _ (0, 0) HB22.out.r3
                  have c3_1 : w22.cell? ⟨w.heap.size + 1, 1, none⟩ = some (.int .i64 0) := cell_of_row _ _ _ _ _ (0, 0) HB22.out.r3
                  have c3_2 : w22.cell? ⟨w.heap.size + 1, 2, none⟩ = some (.int .i64 0) := cell_of_row _ _ _ _ _ (0, 0) HB22.out.r3
                  have c3_3 : w22.cell? ⟨w.heap.size + 1, 3, none⟩ = some (.int .i64 0) := cell_of_row _ _ _ _ _ (0, 0) HB22.out.r3
                  have c3_4 : w22.cell? ⟨w.heap.size + 1, 4, none⟩ = some (.int .i64 st) := cell_of_row _ _ _ _ _ (0, 0) HB22.out.r3
                  have c3_5 : w22.cell? ⟨w.heap.size + 1, 5, none⟩ = some (.int .i64 0) := cell_of_row _ _ _ _ _ (0, 0) HB22.out.r3
                  have c3_6 : w22.cell? ⟨w.heap.size + 1, 6, none⟩ = some (.int .i64 0) := cell_of_row _ _ _ _ _ (0, 0) HB22.out.r3
                  have c3_7 : w22.cell? ⟨w.heap.size + 1, 7, none⟩ = some (.int .i64 0) := cell_of_row _ _ _ _ _ (0, 0) HB22.out.r3
                  have c3_8 : w22.cell? ⟨w.heap.size + 1, 8, none⟩ = some (.int .i64 0) := cell_of_row _ _ _ _ _ (0, 0) HB22.out.r3
                  go_wp2_with (with_reducible show wpList _ _ _ (Oper.mk _ (.store 23 _ _) _ _ _ _ :: _) _ _; refine Hid.out ?_)
                  refine Lib.hid ?_
                  refine wpList_put rfl 23 _ _ rfl (gs) #[.int .i64 2, .int .i64 ((j : Int) + 1), .int .i64 r3] _ 23 rfl rfl HB22.out.r1 (by kernel_rfl) rfl (by kernel_rfl) ?_
                  intro w23 hr23 hg23
                  have HB23 : Hid (Bx w [(gb, .cells #[.int .i64 r3, .bool lv, .int .i64 0, .bool false] 25 (0, 0)), (gs, .cells #[.int .i64 2, .int .i64 ((j : Int) + 1), .int .i64 r3] 23 (0, 0)), (w.heap.size, .cells #[.int .u8 x, .int .u8 y, .int .u8 z] 34 (0, 0)), (w.heap.size + 1, .cells #[.int .i64 0, .int .i64 0, .int .i64 0, .int .i64 0, .int .i64 st, .int .i64 0, .int .i64 0, .int .i64 0, .int .i64 0] 27 (0, 0))] w23) := Lib.hid (HB22.out.put (by omega) hg23.out hr23.out (by simp only [List.mem_cons, List.not_mem_nil, or_false]; rintro p (rfl | rfl | rfl | rfl) <;> simp <;> omega))
                  clear c0_0 c0_1 c0_2 c0_3 c1_0 c1_1 c1_2 c3_0 c3_1 c3_2 c3_3 c3_4 c3_5 c3_6 c3_7 c3_8 hr23 hg23 HB22
                  have c0_0 : w23.cell? ⟨gb, 0, none⟩ = some (.int .i64 r3) := cell_of_row _ _ _ _ _ (0, 0) HB23.out.r0
                  have c0_1 : w23.cell? ⟨gb, 1, none⟩ = some (.bool lv) := cell_of_row _ _ _ _ _ (0, 0) HB23.out.r0
                  have c0_2 : w23.cell? ⟨gb, 2, none⟩ = some (.int .i64 0) := cell_of_row _ _ _ _ _ (0, 0) HB23.out.r0
                  have c0_3 : w23.cell? ⟨gb, 3, none⟩ = some (.bool false) := cell_of_row _ _ _ _ _ (0, 0) HB23.out.r0
                  have c1_0 : w23.cell? ⟨gs, 0, none⟩ = some (.int .i64 2) := cell_of_row _ _ _ _ _ (0, 0) HB23.out.r1
                  have c1_1 : w23.cell? ⟨gs, 1, none⟩ = some (.int .i64 ((j : Int) + 1)) := cell_of_row _ _ _ _ _ (0, 0) HB23.out.r1
                  have c1_2 : w23.cell? ⟨gs, 2, none⟩ = some (.int .i64 r3) := cell_of_row _ _ _ _ _ (0, 0) HB23.out.r1
                  have c3_0 : w23.cell? ⟨w.heap.size + 1, 0, none⟩ = some (.int .i64 0) := cell_of_row _ _ _ _ _ (0, 0) HB23.out.r3
                  have c3_1 : w23.cell? ⟨w.heap.size + 1, 1, none⟩ = some (.int .i64 0) := cell_of_row _ _ _ _ _ (0, 0) HB23.out.r3
                  have c3_2 : w23.cell? ⟨w.heap.size + 1, 2, none⟩ = some (.int .i64 0) := cell_of_row _ _ _ _ _ (0, 0) HB23.out.r3
                  have c3_3 : w23.cell? ⟨w.heap.size + 1, 3, none⟩ = some (.int .i64 0) := cell_of_row _ _ _ _ _ (0, 0) HB23.out.r3
                  have c3_4 : w23.cell? ⟨w.heap.size + 1, 4, none⟩ = some (.int .i64 st) := cell_of_row _ _ _ _ _ (0, 0) HB23.out.r3
                  have c3_5 : w23.cell? ⟨w.heap.size + 1, 5, none⟩ = some (.int .i64 0) := cell_of_row _ _ _ _ _ (0, 0) HB23.out.r3
                  have c3_6 : w23.cell? ⟨w.heap.size + 1, 6, none⟩ = some (.int .i64 0) := cell_of_row _ _ _ _ _ (0, 0) HB23.out.r3
                  have c3_7 : w23.cell? ⟨w.heap.size + 1, 7, none⟩ = some (.int .i64 0) := cell_of_row _ _ _ _ _ (0, 0) HB23.out.r3
                  have c3_8 : w23.cell? ⟨w.heap.size + 1, 8, none⟩ = some (.int .i64 0) := cell_of_row _ _ _ _ _ (0, 0) HB23.out.r3
                  go_wp2_with fail
                  refine (FL.out _).mono ?_
                  rintro e w24 ⟨rfl, hb24⟩
                  have HB24 := Lib.hid (HB23.out.next hb24)
                  clear c0_0 c0_1 c0_2 c0_3 c1_0 c1_1 c1_2 c3_0 c3_1 c3_2 c3_3 c3_4 c3_5 c3_6 c3_7 c3_8 hb24 HB23
                  have c0_0 : w24.cell? ⟨gb, 0, none⟩ = some (.int .i64 r3) := cell_of_row _ _ _ _ _ (0, 0) HB24.out.r0
                  have c0_1 : w24.cell? ⟨gb, 1, none⟩ = some (.bool lv) := cell_of_row _ _ _ _ _ (0, 0) HB24.out.r0
                  have c0_2 : w24.cell? ⟨gb, 2, none⟩ = some (.int .i64 0) := cell_of_row _ _ _ _ _ (0, 0) HB24.out.r0
                  have c0_3 : w24.cell? ⟨gb, 3, none⟩ = some (.bool false) := cell_of_row _ _ _ _ _ (0, 0) HB24.out.r0
                  have c1_0 : w24.cell? ⟨gs, 0, none⟩ = some (.int .i64 2) := cell_of_row _ _ _ _ _ (0, 0) HB24.out.r1
                  have c1_1 : w24.cell? ⟨gs, 1, none⟩ = some (.int .i64 ((j : Int) + 1)) := cell_of_row _ _ _ _ _ (0, 0) HB24.out.r1
                  have c1_2 : w24.cell? ⟨gs, 2, none⟩ = some (.int .i64 r3) := cell_of_row _ _ _ _ _ (0, 0) HB24.out.r1
                  have c3_0 : w24.cell? ⟨w.heap.size + 1, 0, none⟩ = some (.int .i64 0) := cell_of_row _ _ _ _ _ (0, 0) HB24.out.r3
                  have c3_1 : w24.cell? ⟨w.heap.size + 1, 1, none⟩ = some (.int .i64 0) := cell_of_row _ _ _ _ _ (0, 0) HB24.out.r3
                  have c3_2 : w24.cell? ⟨w.heap.size + 1, 2, none⟩ = some (.int .i64 0) := cell_of_row _ _ _ _ _ (0, 0) HB24.out.r3
                  have c3_3 : w24.cell? ⟨w.heap.size + 1, 3, none⟩ = some (.int .i64 0) := cell_of_row _ _ _ _ _ (0, 0) HB24.out.r3
                  have c3_4 : w24.cell? ⟨w.heap.size + 1, 4, none⟩ = some (.int .i64 st) := cell_of_row _ _ _ _ _ (0, 0) HB24.out.r3
                  have c3_5 : w24.cell? ⟨w.heap.size + 1, 5, none⟩ = some (.int .i64 0) := cell_of_row _ _ _ _ _ (0, 0) HB24.out.r3
                  have c3_6 : w24.cell? ⟨w.heap.size + 1, 6, none⟩ = some (.int .i64 0) := cell_of_row _ _ _ _ _ (0, 0) HB24.out.r3
                  have c3_7 : w24.cell? ⟨w.heap.size + 1, 7, none⟩ = some (.int .i64 0) := cell_of_row _ _ _ _ _ (0, 0) HB24.out.r3
                  have c3_8 : w24.cell? ⟨w.heap.size + 1, 8, none⟩ = some (.int .i64 0) := cell_of_row _ _ _ _ _ (0, 0) HB24.out.r3
                  go_wp2_with fail
                  go_roundw
                  case rel => exact ⟨j + 1, ⟨2, j + 1, r3⟩, 2, false, by omega, fun _ => ⟨by simp, rfl⟩, fun h => by omega, rfl, rfl, by first | rfl | go_num, HB24.out.less (by simp only [List.mem_cons, List.not_mem_nil, or_false]; rintro p (rfl | rfl | rfl) <;> simp)⟩
                  case measure => simp [intOf]; omega
              · obtain rfl : j = N := by omega
                obtain ⟨rfl, rfl⟩ := hs2 rfl
                clear hs1 hs2
                simp only at HBJ
                have hjc : ¬ (j : Int) + 1 ≤ (j : Int) := by omega
                have hjB : decide ((j : Int) + 1 ≤ (j : Int)) = false := decide_eq_false hjc
                have hwi : IntKind.i64.wrap ((i : Int) + 1) = ((i + 1 : Nat) : Int) := by rw [IntKind.wrap_i64]; omega
                have c0_0 : wr.cell? ⟨gs, 0, none⟩ = some (.int .i64 0) := cell_of_row _ _ _ _ _ (0, 0) HBJ.out.r0
                have c0_1 : wr.cell? ⟨gs, 1, none⟩ = some (.int .i64 0) := cell_of_row _ _ _ _ _ (0, 0) HBJ.out.r0
                have c0_2 : wr.cell? ⟨gs, 2, none⟩ = some (.int .i64 0) := cell_of_row _ _ _ _ _ (0, 0) HBJ.out.r0
                go_wp2_with fail
                go_roundw
                case rel => exact ⟨r3 - 1, i + 1, by omega, by omega, by omega, by omega, rfl, rfl, HBJ.out.less (by simp only [List.mem_cons, List.not_mem_nil, or_false]; rintro p (rfl | rfl) <;> simp)⟩
                case measure => simp [intOf]; omega
      · obtain rfl : i = 60 := by omega
        have h6I : ¬ ((60 : Nat) : Int) < 60 := by decide
        go_wp2_with fail
        refine (FN.out _ HBR.out.below).mono ?_
        rintro e w3 ⟨rfl, hb3⟩
        have HB3 := Lib.hid (HBR.out.next hb3)
        clear hb3 HBR
        go_wp2_with fail
        go_ret
        exact ⟨rfl, HB3.out.below⟩
    · have hlI : ¬ (i : Int) < (l.length : Int) := by omega
      go_wp2_with fail
      refine (FN.out _ HBR.out.below).mono ?_
      rintro e w3 ⟨rfl, hb3⟩
      have HB3 := Lib.hid (HBR.out.next hb3)
      clear hb3 HBR
      go_wp2_with fail
      go_ret
      exact ⟨rfl, HB3.out.below⟩
set_option maxRecDepth 100000 in
theorem lawMotionTravels_lifted (os : Os) (started : os.Started) (H : Type) (enc : TypeId × Value → H) :
    ReturnsInHanded {} Tryd.checked os 4 .any (fun w args => (Rows.motionTravelsSpec.pre enc Tryd.prog Tryd.f4 [] false w args ∧ laidMetH Tryd.prog laidAll w) ∧ sizedMet enc Tryd.prog Tryd.f4 (OpenSpec.ofChange Rows.motionTravelsSpec) false w args) (Rows.motionTravelsSpec.post enc Tryd.prog Tryd.f4 false true false false) := by
  refine returnsInHanded_of_change_and (C := Tryd.checked) (X := fun w _ => laidMetH Tryd.prog laidAll w) (fun _ _ _ hh h => h.of_heap hh) own started (by kernel_rfl) Tryd.func4
    (ChangeSpec.witness_shaped (enc := enc) (C := Tryd.checked) (os := os) (X := fun w _ => laidMetH Tryd.prog laidAll w) false (World.doorLaid Tryd.prog 14 os) #[.agg #[.int .u8 0, .int .u8 0, .int .u8 0], .slice none 0 0] 8 rfl (World.shaped_of_RefB (by kernel_rfl) (by kernel_rfl)) (by kernel_rfl) (by kernel_rfl) (by kernel_rfl) (door_met os _)) ?_
  intro W base args ds gs before hval0 hW _ _ hL _
  have hval : ∀ (j : Nat) t v, Tryd.f4.params[j]? = some t → args[j]? = some v → Value.okWide Tryd.prog W .any base t v := hval0
  have hW' := hW
  obtain ⟨p, q, hA0, hV, rfl, hfz, hnd⟩ := hW
  have hA : DataW.TrodAll enc Tryd.prog W 0 (fun _ => true) true Tryd.f4.params.toList args.toList ds p := hA0
  rw [Tryd.params4] at hA hval
  obtain ⟨v0, vs0, d0, ds0, p0, q0, hargs, rfl, rfl, h0, r0⟩ := trodAll_cons hA
  obtain ⟨v1, vs1, d1, ds1, p1, q1, rfl, rfl, rfl, h1, r1⟩ := trodAll_cons r0
  obtain ⟨rfl, rfl, rfl⟩ := trodAll_nil r1
  obtain rfl : args = #[v0, v1] := by cases args; simp_all
  obtain ⟨rfl, rfl⟩ := trodVars_none hV
  have k0 := h0
  have lt0 : ∀ x ∈ p0, x.block < W.heap.size := by obtain ⟨m, hm⟩ := k0; exact DataW.trod_lt m _ _ _ hm
  obtain ⟨x0, y0, z0, rfl, g0, m0, n0⟩ := open_au8_3 (hval 0 34 v0 rfl rfl) h0
  have k1 := h1
  have lt1 : ∀ x ∈ p1, x.block < W.heap.size := by obtain ⟨m, hm⟩ := k1; exact DataW.trod_lt m _ _ _ hm
  obtain ⟨a1, l1, c1, rfl⟩ := okWide_slice Tryd.underlying35 (hval 1 35 v1 rfl rfl)
  obtain ⟨fuel1, hf1⟩ := h1
  obtain ⟨x1, g1, n1, m1⟩ := open_u8s hf1
  clear hA0 hval0
  refine (lawMotionTravels_walk x0 y0 z0 _ x1 W (tabs_of_laid hL) g0 m0 n0 g1 n1 m1).mono fun e W' ⟨he, bel⟩ => ?_
  subst he
  exact ⟨_, rfl, _, _, _, [], _, [], hW', trodAll_mk1 (shut_bool Tryd.underlying4 _), (trodAll_cons_mk (Below.trod laidOut (by kernel_rfl) (of_decide_eq_true (by kernel_rfl)) k0 bel lt0) (trodAll_cons_mk (Below.trod laidOut (by kernel_rfl) (of_decide_eq_true (by kernel_rfl)) k1 bel lt1) trodAll_mk0)), rfl, bel.frame _, fun h => by cases h⟩

theorem lawMotionTravels_over : Rows.motionTravelsRow.holds Tryd.pinned (OpenSpec.ofChange Rows.motionTravelsSpec) :=
  OpenClaim.holds_of_wide 4 Tryd.f4 rfl rfl rfl rfl rfl rfl rfl ⟨rfl, rfl, rfl, rfl, rfl⟩ rfl rfl rfl rfl rfl (by kernel_rfl) Tryd.func4 (by kernel_rfl)
    (of_decide_eq_true (by kernel_rfl)) (by unfold Func.isWrapper; first | (rw [if_pos (by decide +kernel)]; kernel_rfl) | (rw [if_neg (by decide +kernel)]; exact ⟨rfl, rfl⟩))
    (fun os started H enc _ => lawMotionTravels_lifted os started H enc)

theorem motionTravels_card : Rows.MotionTravelsCardSaid :=
  Claim7.holds_tied_plain_at .later [] _ _ _ _ lawMotionTravels_over (fun _ h => by cases h) (by kernel_rfl) (fun _ h => by cases h) motionTravels_row_tie rfl ⟨rfl, rfl⟩ (by kernel_rfl) rfl
    (fun f fn hf hfn => by
      obtain rfl : f = 4 := Option.some.inj ((show Tryd.prog.funcNamed "overlay/overlaylaw13.MotionTravels" = some 4 by kernel_rfl).symm.trans hf) |>.symm
      obtain rfl : fn = Tryd.f4 := (Option.some.inj (Tryd.func4.symm.trans hfn)).symm
      exact ⟨by kernel_rfl, fun j t ht => by
        rw [Tryd.params4] at ht
        have hm : t ∈ [34, 35] := by simpa using Array.mem_of_getElem? ht
        have hall : ([34, 35].all fun u => !Tryd.prog.wantsStandIn u) = true := by kernel_rfl
        exact (show Tryd.prog.wantsStandIn t = false by simpa using List.all_eq_true.1 hall t hm)⟩)
    (by kernel_rfl)
#print axioms motionTravels_card
end Go.Proofs.YtcbmpcnanknncaaDoor
