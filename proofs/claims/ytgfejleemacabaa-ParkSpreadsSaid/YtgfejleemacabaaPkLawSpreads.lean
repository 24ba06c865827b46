/- The law ParkSpreads: the proposals for any building; they are floors, ascend, and differ if there are enough floors. No condition. -/
import Derived.Test.YtgfejleemacabaaPkSane
import Derived.Test.YtgfejleemacabaaPkOpen
import Derived.Test.YtgfejleemacabaaBag
import Derived.Test.YtgfejleemacabaaGhostV
import Derived.Test.YtgfejleemacabaaLdGhost
namespace Go.Proofs.Ytgfejleemacabaa
open Go.RowKit Go.ChangeShapes Go.WideShapes Go.ChangeAt GhostV

theorem spread_facts (x : BldD) : ∃ S, spreadF x = S ∧ S.length ≤ 8 ∧ (∀ i (h : i < S.length), 0 ≤ S[i] ∧ S[i] < x.floors) ∧
    ∀ i (h : i + 1 < S.length), S[i] ≤ S[i + 1] ∧ ((x.cars.length : Int) ≤ x.floors → S[i] < S[i + 1]) := by
  refine ⟨_, rfl, ?_⟩
  by_cases hv : validE x = 0
  · obtain ⟨⟨h1, h2⟩, ⟨h3, h4⟩, -, -⟩ := fineP_of hv
    have hl := spreadF_len hv
    refine ⟨by omega, fun i h => ?_, fun i h => ?_⟩
    · rw [spreadF_at hv]
      exact ⟨share_low h1, share_high h1 (by omega)⟩
    · rw [spreadF_at hv, spreadF_at hv]
      exact ⟨share_up h1 (by omega), fun hle => share_apart hle (by omega)⟩
  · simp [spreadF_bad hv]

set_option maxRecDepth 4000 in
set_option maxHeartbeats 8000000 in
theorem lawParkSpreads_walk (x0 : Int) (rb : BldD) (rA : Option Addr) (rcap : Nat) (w : World) (h0 : (Lit.int .u8 x0).wf = true) (hrc : CarsAt w w.heap.size rA rb.cars) (hrl : rb.cars.length ≤ 9223372036854775807) :
    Calls Try.prog 5 #[.int .u8 x0, rb.agg rA rcap] w fun e w' => e = .returned (.bool true) ∧ Below w.heap.size w w' := by
  obtain ⟨n, rfl, hn⟩ := u8_nat h0
  have FSN := Lib.hid (fun wx => sane_any wx)
  by_cases hlen : 20 < rb.cars.length
  · obtain ⟨rf, rd, rr, rp, re1, re2, re3, rcs⟩ := rb
    simp only [BldD.agg] at hlen hrl ⊢
    clear hrc
    go_enter Try.func5, Try.ntmps5
    go_wp2_with fail
    refine (FSN.out _).mono ?_
    rintro e w2 ⟨rfl, hb2⟩
    go_wp2_with fail
    go_ret
    exact ⟨rfl, below_of_new (hb2.mono (by simp))⟩
  · have hB := fun wx => building_any n wx hn
    have hsl : (sampleD ((2 + n % 31 : Nat) : Int) (1 + n / 31 % 8)).cars = sampleCars ((2 + n % 31 : Nat) : Int) (1 + n / 31 % 8) := rfl
    rw [← hsl] at hB
    have hbl : (sampleD ((2 + n % 31 : Nat) : Int) (1 + n / 31 % 8)).cars.length ≤ 8 := by rw [hsl, sampleCars_length]; omega
    generalize sampleD ((2 + n % 31 : Nat) : Int) (1 + n / 31 % 8) = b at *
    clear hsl h0
    have FB := Lib.hid hB
    have FS := Lib.hid (fun X A cap wx (hl : X.cars.length ≤ 20) hc => spread_any X A cap wx (by omega) hc)
    have FR := Lib.hid (fun X A cap wx (hl : X.cars.length ≤ 20) hc => refSpread_any X A cap wx (by omega) hc)
    have HF := Lib.hid spread_facts
    have HRC := Lib.hid hrc
    clear hB hrc
    obtain ⟨f, d, r, p, e1, e2, e3, cs⟩ := b
    obtain ⟨rf, rd, rr, rp, re1, re2, re3, rcs⟩ := rb
    simp only [BldD.agg] at FB hlen hrl hbl HRC ⊢
    go_enter Try.func5, Try.ntmps5
    go_wp2_with fail
    refine (FB.out _).mono ?_
    rintro e w1 ⟨hb1, A, cap, rfl, hcars⟩
    have hrb := (BX.new (f := rf) (d := rd) (r := rr) (p := rp) (e1 := re1) (e2 := re2) (e3 := re3) (cap := rcap) HRC.out).below hb1
    have hbx := BX.new (f := f) (d := d) (r := r) (p := p) (e1 := e1) (e2 := e2) (e3 := e3) (cap := cap) hcars
    have hal := (Below.refl w1.heap.size w1).alloc (Nat.le_refl _) (.cells #[.int .i64 f, .int .i64 d, .int .i64 r, .int .i64 p, .float .f64 e1, .float .f64 e2, .float .f64 e3, .slice A cs.length cap] 25)
    have hrb2 := hrb.below hal
    have HBX := Lib.hid hbx
    have HRB := Lib.hid hrb2
    have HB1 := Lib.hid ((((Below.refl w.heap.size w).alloc (Nat.le_refl _) (.cells #[.int .i64 rf, .int .i64 rd, .int .i64 rr, .int .i64 rp, .float .f64 re1, .float .f64 re2, .float .f64 re3, .slice rA rcs.length rcap] 25)).trans (hb1.mono (by simp))).trans (hal.mono (by have := hb1.size; simp at this; omega)))
    obtain ⟨c0, c1, c2, c3, c4, c5, c6, c7⟩ := hrb2.cells
    clear hb1 hcars hrb hbx hal hrb2
    go_wp2_with fail
    obtain ⟨W, hW⟩ : ∃ W, W = (w1.alloc (.cells #[.int .i64 f, .int .i64 d, .int .i64 r, .int .i64 p, .float .f64 e1, .float .f64 e2, .float .f64 e3, .slice A cs.length cap] 25)).alloc (.cells #[.int .i64 f, .int .i64 d, .int .i64 r, .int .i64 p, .float .f64 e1, .float .f64 e2, .float .f64 e3, .slice A cs.length cap, .int .i64 rf, .int .i64 rd, .int .i64 rr, .int .i64 rp, .float .f64 re1, .float .f64 re2, .float .f64 re3, .slice rA rcs.length rcap] 25) := ⟨_, rfl⟩
    rw [← hW]
    have hrow : W.heap[w1.heap.size + 1]? = some (.cells #[.int .i64 f, .int .i64 d, .int .i64 r, .int .i64 p, .float .f64 e1, .float .f64 e2, .float .f64 e3, .slice A cs.length cap, .int .i64 rf, .int .i64 rd, .int .i64 rr, .int .i64 rp, .float .f64 re1, .float .f64 re2, .float .f64 re3, .slice rA rcs.length rcap] 25 (0, 0)) := by
      rw [hW]
      have := heap_alloc_new (w1.alloc (.cells #[.int .i64 f, .int .i64 d, .int .i64 r, .int .i64 p, .float .f64 e1, .float .f64 e2, .float .f64 e3, .slice A cs.length cap] 25)) (.cells #[.int .i64 f, .int .i64 d, .int .i64 r, .int .i64 p, .float .f64 e1, .float .f64 e2, .float .f64 e3, .slice A cs.length cap, .int .i64 rf, .int .i64 rd, .int .i64 rr, .int .i64 rp, .float .f64 re1, .float .f64 re2, .float .f64 re3, .slice rA rcs.length rcap] 25)
      simpa using this
    have hal2 := (Below.refl _ (w1.alloc (.cells #[.int .i64 f, .int .i64 d, .int .i64 r, .int .i64 p, .float .f64 e1, .float .f64 e2, .float .f64 e3, .slice A cs.length cap] 25))).alloc (Nat.le_refl _) (.cells #[.int .i64 f, .int .i64 d, .int .i64 r, .int .i64 p, .float .f64 e1, .float .f64 e2, .float .f64 e3, .slice A cs.length cap, .int .i64 rf, .int .i64 rd, .int .i64 rr, .int .i64 rp, .float .f64 re1, .float .f64 re2, .float .f64 re3, .slice rA rcs.length rcap] 25)
    rw [← hW] at hal2
    have hwz : W.heap.size = w1.heap.size + 2 := by rw [hW]; simp
    have HC1 := Lib.hid ((HBX.out.below hal2).cars)
    have HC2 := Lib.hid ((HRB.out.below hal2).cars)
    have HBW := Lib.hid (HB1.out.trans (hal2.mono (by have := HB1.out.size; simpa using this)))
    have HROW := Lib.hid hrow
    have hgz : w1.heap.size + 1 < W.heap.size := by omega
    have hgz0 : w.heap.size ≤ W.heap.size := HBW.out.size
    clear hrow hal2 hW HB1 HBX HRB c0 c1 c2 c3 c4 c5 c6 c7
    generalize decide ((20 : Int) < (rcs.length : Int)) = dq
    go_loopw [22] (fun i wr => ∃ k : Nat, k ≤ 2 ∧ i = .int .i64 k ∧ Below W.heap.size W wr) (fun i _ => 2 - (intOf i).toNat)
    case atStart => exact ⟨0, by omega, rfl, Below.refl _ _⟩
    case round =>
      obtain ⟨k, hk, rfl, hbw⟩ := hrel
      by_cases hlt : k < 2
      · have hX : ∃ (X : BldD) (XA : Option Addr) (xc : Nat), wr.cell? ⟨w1.heap.size + 1, k * 8, none⟩ = some (.int .i64 X.floors) ∧ wr.cell? ⟨w1.heap.size + 1, k * 8 + 1, none⟩ = some (.int .i64 X.debounce) ∧ wr.cell? ⟨w1.heap.size + 1, k * 8 + 2, none⟩ = some (.int .i64 X.room) ∧ wr.cell? ⟨w1.heap.size + 1, k * 8 + 3, none⟩ = some (.int .i64 X.park) ∧ wr.cell? ⟨w1.heap.size + 1, k * 8 + 4, none⟩ = some (.float .f64 X.empty) ∧ wr.cell? ⟨w1.heap.size + 1, k * 8 + 5, none⟩ = some (.float .f64 X.full) ∧ wr.cell? ⟨w1.heap.size + 1, k * 8 + 6, none⟩ = some (.float .f64 X.over) ∧ wr.cell? ⟨w1.heap.size + 1, k * 8 + 7, none⟩ = some (.slice XA X.cars.length xc) ∧ CarsAt wr wr.heap.size XA X.cars ∧ X.cars.length ≤ 20 := by
          have hr := (hbw.block (w1.heap.size + 1) hgz).trans HROW.out
          rcases (show k = 0 ∨ k = 1 by omega) with rfl | rfl
          · exact ⟨⟨f, d, r, p, e1, e2, e3, cs⟩, A, cap, (cell_of_row wr _ _ _ _ (0, 0) hr), (cell_of_row wr _ _ _ _ (0, 0) hr), (cell_of_row wr _ _ _ _ (0, 0) hr), (cell_of_row wr _ _ _ _ (0, 0) hr), (cell_of_row wr _ _ _ _ (0, 0) hr), (cell_of_row wr _ _ _ _ (0, 0) hr), (cell_of_row wr _ _ _ _ (0, 0) hr), (cell_of_row wr _ _ _ _ (0, 0) hr), (HC1.out.below hbw).more hbw.size, by simp only; omega⟩
          · exact ⟨⟨rf, rd, rr, rp, re1, re2, re3, rcs⟩, rA, rcap, (cell_of_row wr _ _ _ _ (0, 0) hr), (cell_of_row wr _ _ _ _ (0, 0) hr), (cell_of_row wr _ _ _ _ (0, 0) hr), (cell_of_row wr _ _ _ _ (0, 0) hr), (cell_of_row wr _ _ _ _ (0, 0) hr), (cell_of_row wr _ _ _ _ (0, 0) hr), (cell_of_row wr _ _ _ _ (0, 0) hr), (cell_of_row wr _ _ _ _ (0, 0) hr), (HC2.out.below hbw).more hbw.size, by simp only; omega⟩
        obtain ⟨X, XA, xc, z0, z1, z2, z3, z4, z5, z6, z7, hxc, hxl⟩ := hX
        have FSx := fun wx h => FS.out X XA xc wx hxl h
        have FRx := fun wx h => FR.out X XA xc wx hxl h
        obtain ⟨S, hS, hs8, hsf, hsa⟩ := HF.out X
        rw [hS] at FSx FRx
        clear hS
        obtain ⟨xf, xd, xr, xp, xe1, xe2, xe3, xcs⟩ := X
        simp only [BldD.agg] at FSx FRx
        dsimp only at z0 z1 z2 z3 z4 z5 z6 z7 hxc hxl hsf hsa FSx FRx
        have FSX := Lib.hid FSx
        have FRX := Lib.hid FRx
        have HSF := Lib.hid hsf
        have HSA := Lib.hid hsa
        have HXC := Lib.hid hxc
        have HBR := Lib.hid hbw
        clear FSx FRx hsf hsa hxc hbw
        go_wp2_with fail
        have hbx := BX.new (f := xf) (d := xd) (r := xr) (p := xp) (e1 := xe1) (e2 := xe2) (e3 := xe3) (cap := xc) HXC.out
        obtain ⟨W2, hW2⟩ : ∃ W2, W2 = wr.alloc (.cells #[.int .i64 xf, .int .i64 xd, .int .i64 xr, .int .i64 xp, .float .f64 xe1, .float .f64 xe2, .float .f64 xe3, .slice XA xcs.length xc] 25) := ⟨_, rfl⟩
        rw [← hW2] at hbx ⊢
        have HB2 := Lib.hid (show Below W.heap.size W W2 by rw [hW2]; exact HBR.out.alloc HBR.out.size _)
        have HBX := Lib.hid hbx
        have hwz2 : wr.heap.size < W2.heap.size := hbx.lt
        clear hbx hW2 hwz z0 z1 z2 z3 z4 z5 z6 z7 HBR HXC
        generalize decide ((k : Int) < 2) = dk
        refine GhostV.ghost (fun γ L wx => GV (W2) [(1, nums S), (3, nums S), (4, nums S), (5, nums S)] γ L wx) (by kernel_rfl) (by kernel_rfl) (fun γ => GV.start _ _ γ) ?_
        apply GhostV.walk_const (fun γ => by rfl)
        · intro γ L wx h1 h2 hx K hK
          obtain ⟨c0, c1, c2, c3, c4, c5, c6, c7⟩ := (HBX.out.below hx.below).cells
          have HK2 := Lib.hid hK
          have HX := Lib.hid hx
          have H2 := Lib.hid h2
          clear hK h1 h2 hx
          go_simp
          first
            | exact HK2.out _ (HX.out.next _ (by rfl) (Below.refl _ _))
        try simp only [Act.put, List.setIfInBounds_toArray, List.set_cons_succ, List.set_cons_zero]
        refine GhostV.walk_yes (fun b => b) (fun γ => by rfl) ?_ ?_
        · intro γ L wx h1 h2 hx K hK
          obtain ⟨c0, c1, c2, c3, c4, c5, c6, c7⟩ := (HBX.out.below hx.below).cells
          have HK2 := Lib.hid hK
          have HX := Lib.hid hx
          have H2 := Lib.hid h2
          clear hK h1 h2 hx
          go_simp
          (go_at_call 10; refine (FSX.out wx (HBX.out.below HX.out.below).cars).mono ?_; rintro e w' ⟨u, rfl, hu, hb⟩; exact HK2.out _ _ (HX.out.make (by simp only [List.mem_cons, List.not_mem_nil, or_false]; rintro d (rfl | rfl | rfl | rfl) h; (· exact hu); (· cases h); (· cases h); (· cases h)) hb))
        try simp only [Act.put, List.setIfInBounds_toArray, List.set_cons_succ, List.set_cons_zero]
        apply GhostV.walk_const (fun γ => by rfl)
        · intro γ L wx h1 h2 hx K hK
          obtain ⟨c0, c1, c2, c3, c4, c5, c6, c7⟩ := (HBX.out.below hx.below).cells
          have HK2 := Lib.hid hK
          have HX := Lib.hid hx
          have H2 := Lib.hid h2
          clear hK h1 h2 hx
          go_simp
          first
            | exact HK2.out _ (HX.out.next _ (by rfl) (Below.refl _ _))
        try simp only [Act.put, List.setIfInBounds_toArray, List.set_cons_succ, List.set_cons_zero]
        refine GhostV.walk_yes (fun b => b) (fun γ => by rfl) ?_ ?_
        · intro γ L wx h1 h2 hx K hK
          obtain ⟨c0, c1, c2, c3, c4, c5, c6, c7⟩ := (HBX.out.below hx.below).cells
          have HK2 := Lib.hid hK
          have HX := Lib.hid hx
          have H2 := Lib.hid h2
          clear hK h1 h2 hx
          go_simp
          (go_at_call 11; refine (FRX.out wx (HBX.out.below HX.out.below).cars).mono ?_; rintro e w' ⟨u, rfl, hu, hb⟩; exact HK2.out _ _ (HX.out.make (by simp only [List.mem_cons, List.not_mem_nil, or_false]; rintro d (rfl | rfl | rfl | rfl) h; (· cases h); (· exact hu); (· cases h); (· cases h)) hb))
        try simp only [Act.put, List.setIfInBounds_toArray, List.set_cons_succ, List.set_cons_zero]
        refine GhostV.walk_yes (fun b => b) (fun γ => by rfl) ?_ ?_
        · intro γ L wx h1 h2 hx K hK
          obtain ⟨c0, c1, c2, c3, c4, c5, c6, c7⟩ := (HBX.out.below hx.below).cells
          have HK2 := Lib.hid hK
          have HX := Lib.hid hx
          have H2 := Lib.hid h2
          clear hK h1 h2 hx
          go_simp
          (exact HK2.out _ _ (HX.out.make (by simp only [List.mem_cons, List.not_mem_nil, or_false]; rintro d (rfl | rfl | rfl | rfl) h; (· cases h); (· cases h); (· exact HX.out.row (1, nums S) (by simp) (H2.out 1 (by kernel_rfl))); (· cases h)) (Below.refl _ _)))
        try simp only [Act.put, List.setIfInBounds_toArray, List.set_cons_succ, List.set_cons_zero]
        refine GhostV.walk_yes (fun b => b) (fun γ => by rfl) ?_ ?_
        · intro γ L wx h1 h2 hx K hK
          obtain ⟨c0, c1, c2, c3, c4, c5, c6, c7⟩ := (HBX.out.below hx.below).cells
          have HK2 := Lib.hid hK
          have HX := Lib.hid hx
          have H2 := Lib.hid h2
          clear hK h1 h2 hx
          go_simp
          (exact HK2.out _ _ (HX.out.make (by simp only [List.mem_cons, List.not_mem_nil, or_false]; rintro d (rfl | rfl | rfl | rfl) h; (· cases h); (· cases h); (· cases h); (· exact HX.out.row (3, nums S) (by simp) (H2.out 3 (by kernel_rfl)))) (Below.refl _ _)))
        try simp only [Act.put, List.setIfInBounds_toArray, List.set_cons_succ, List.set_cons_zero]
        refine GhostV.walk_nil (fun γ L w3 hall hG => ?_)
        obtain ⟨A8, k8, h8, hv8⟩ := hG.row (4, nums S) (by simp) (hall 4 (by decide))
        obtain ⟨A9, k9, h9, hv9⟩ := hG.row (5, nums S) (by simp) (hall 5 (by decide))
        have h8' : γ (0 + 1 + 1 + 1 + 1) = .slice A8 S.length k8 := by rw [← nums_len]; exact h8
        have h9' : γ (0 + 1 + 1 + 1 + 1 + 1) = .slice A9 S.length k9 := by rw [← nums_len]; exact h9
        have HB3 := Lib.hid hG.below
        have HV8 := Lib.hid hv8
        have HV9 := Lib.hid hv9
        have HBX3 := Lib.hid (HBX.out.below hG.below)
        rw [h8', h9']
        generalize γ (0 + 1) = g1 at *
        generalize γ (0 + 1 + 1 + 1) = g3 at *
        clear h8 h9 h8' h9' hall hG hv8 hv9 HBX
        go_wp2_with fail
        go_loopw [10] (fun i wr => ∃ j : Nat, j ≤ S.length ∧ i = .int .i64 j ∧ Below w3.heap.size w3 wr) (fun i _ => S.length - (intOf i).toNat)
        case atStart => exact ⟨0, by omega, rfl, Below.refl _ _⟩
        case round =>
          obtain ⟨j, hj, rfl, hbr⟩ := hrel
          by_cases hjl : j < S.length
          · obtain ⟨b8, o8, rfl, hb8, y8⟩ := (HV8.out.below hbr).num hjl
            obtain ⟨b9, o9, rfl, hb9, y9⟩ := (HV9.out.below hbr).num hjl
            have HX8 := Lib.hid (fun wx (h : Below wr.heap.size wr wx) => (h.cell (p := ⟨b8, o8 + j, none⟩) hb8).trans y8)
            have HX9 := Lib.hid (fun wx (h : Below wr.heap.size wr wx) => (h.cell (p := ⟨b9, o9 + j, none⟩) hb9).trans y9)
            have HBR := Lib.hid (HBX3.out.below hbr)
            have HBJ := Lib.hid hbr
            obtain ⟨hx1, hx2⟩ := HSF.out j hjl
            by_cases hj0 : j = 0
            · subst hj0
              clear y8 y9 hbr
              generalize S[0] = x at *
              have d1 : decide (x < 0) = false := by simp; omega
              have d2 : decide (xf ≤ x) = false := by simp; omega
              go_wp2_with fail
              refine Bag.region (fun wx => Below wr.heap.size wr wx) (by kernel_rfl) (by kernel_rfl) (Below.refl _ _).drew ?_
              iterate 61 (first
                  | (apply Bag.walk_yes (by rfl)
                     (intro wx hx K hK
                      have c0 := (HBR.out.below hx).cells.1
                      have y8 : wx.cell? ⟨b8, o8, none⟩ = some (.int .i64 x) := HX8.out wx hx
                      have y9 : wx.cell? ⟨b9, o9, none⟩ = some (.int .i64 x) := HX9.out wx hx
                      first
                        | (go_simp
                           first
                            | (go_at_K; exact hK _ hx)))
                     rfl)
                  | (refine Bag.walk_no (by rfl) ?_; simp only [Act.put, List.setIfInBounds_toArray, List.set_cons_succ, List.set_cons_zero]))
              refine Bag.walk_nil (fun w5 hB5 => ?_)
              go_wp2_with fail
              go_roundw
              case rel => exact ⟨0 + 1, by omega, by go_num, HBJ.out.trans (hB5.mono HBJ.out.size)⟩
              case measure => simp [intOf]; omega
            · obtain ⟨m, hm⟩ : ∃ m, j = m + 1 := ⟨j - 1, by omega⟩
              have hml : m < S.length := by omega
              obtain ⟨b8', o8', he8, -, ym⟩ := (HV8.out.below hbr).num hml
              simp only [Option.some.injEq, Addr.mk.injEq, and_true] at he8
              obtain ⟨rfl, rfl⟩ := he8
              have HXM := Lib.hid (fun wx (h : Below wr.heap.size wr wx) => (h.cell (p := ⟨b8, o8 + m, none⟩) hb8).trans ym)
              have hss : S[m] ≤ S[j] ∧ ((xcs.length : Int) ≤ xf → S[m] < S[j]) := by subst hm; exact HSA.out m (by omega)
              have hjm : (j : Int) - 1 = (m : Int) := by omega
              have hjw : IntKind.i64.wrap ((j : Int) - 1) = (m : Int) := by rw [IntWalk.i64_in _ (by omega)]; exact hjm
              have hj1 : 0 < j := by omega
              have hgt : decide (0 < (j : Int)) = true := by simp; omega
              have hgt2 : decide (0 < j) = true := by simp; omega
              clear hjm hm y8 y9 ym hbr
              generalize S[m] = y at *
              generalize S[j] = x at *
              obtain ⟨ha1, ha2⟩ := hss
              have d1 : decide (x < 0) = false := by simp; omega
              have d2 : decide (xf ≤ x) = false := by simp; omega
              have d3 : decide (x < y) = false := by simp; omega
              by_cases hxy : y = x
              · subst hxy
                have d4 : decide ((xcs.length : Int) ≤ xf) = false := by
                  rw [decide_eq_false_iff_not]
                  exact fun h => absurd (ha2 h) (Int.lt_irrefl _)
                clear ha1 ha2
                go_wp2_with fail
                refine Bag.region (fun wx => Below wr.heap.size wr wx) (by kernel_rfl) (by kernel_rfl) (Below.refl _ _).drew ?_
                iterate 61 (first
                    | (apply Bag.walk_yes (by rfl)
                       (intro wx hx K hK
                        have c0 := (HBR.out.below hx).cells.1
                        have c7 := (HBR.out.below hx).cells.2.2.2.2.2.2.2
                        have y8 := HX8.out wx hx
                        have y9 := HX9.out wx hx
                        have ym := HXM.out wx hx
                        first
                          | (go_simp
                             first
                              | (go_at_K; exact hK _ hx)))
                       rfl)
                    | (refine Bag.walk_no (by rfl) ?_; simp only [Act.put, List.setIfInBounds_toArray, List.set_cons_succ, List.set_cons_zero]))
                refine Bag.walk_nil (fun w5 hB5 => ?_)
                go_wp2_with fail
                go_roundw
                case rel => exact ⟨j + 1, by omega, by go_num, HBJ.out.trans (hB5.mono HBJ.out.size)⟩
                case measure => simp [intOf]; omega
              · have d5 : (x == y) = false := by simp; omega
                clear ha1 ha2
                go_wp2_with fail
                refine Bag.region (fun wx => Below wr.heap.size wr wx) (by kernel_rfl) (by kernel_rfl) (Below.refl _ _).drew ?_
                iterate 61 (first
                    | (apply Bag.walk_yes (by rfl)
                       (intro wx hx K hK
                        have c0 := (HBR.out.below hx).cells.1
                        have c7 := (HBR.out.below hx).cells.2.2.2.2.2.2.2
                        have y8 := HX8.out wx hx
                        have y9 := HX9.out wx hx
                        have ym := HXM.out wx hx
                        first
                          | (go_simp
                             first
                              | (go_at_K; exact hK _ hx)))
                       rfl)
                    | (refine Bag.walk_no (by rfl) ?_; simp only [Act.put, List.setIfInBounds_toArray, List.set_cons_succ, List.set_cons_zero]))
                refine Bag.walk_nil (fun w5 hB5 => ?_)
                go_wp2_with fail
                go_roundw
                case rel => exact ⟨j + 1, by omega, by go_num, HBJ.out.trans (hB5.mono HBJ.out.size)⟩
                case measure => simp [intOf]; omega
          · obtain rfl : j = S.length := by omega
            go_wp2_with fail
            go_roundw
            case rel => exact ⟨k + 1, by omega, by go_num, HB2.out.trans ((HB3.out.trans (hbr.mono HB3.out.size)).mono HB2.out.size)⟩
            case measure => simp [intOf]; omega
      · obtain rfl : k = 2 := by omega
        have HBR := Lib.hid hbw
        clear hbw
        go_wp2_with fail
        refine (FSN.out _).mono ?_
        rintro e w5 ⟨rfl, hb5⟩
        go_wp2_with fail
        go_ret
        exact ⟨rfl, HBW.out.trans ((HBR.out.trans (hb5.mono HBR.out.size)).mono hgz0)⟩
set_option maxRecDepth 100000 in
theorem lawParkSpreads_lifted (os : Os) (started : os.Started) (H : Type) (enc : TypeId × Value → H) :
    ReturnsInHanded {} Try.checked os 5 .any (Rows.parkSpreadsSpec.pre6 enc Try.prog Try.f5 Rows.parkSpreadsRow.domain false) (Rows.parkSpreadsSpec.post enc Try.prog Try.f5 false true false false) := by
  refine returnsInHanded_of_change (C := Try.checked) own started (by kernel_rfl) Try.func5
    (ChangeSpec.witness6 (enc := enc) (C := Try.checked) false ⟨#[], #[.int .u8 0, .agg #[.int .i64 0, .int .i64 0, .int .i64 0, .int .i64 0, .float .f64 0, .float .f64 0, .float .f64 0, .slice none 0 0]], []⟩ 8 (by kernel_rfl) (by kernel_rfl) (by kernel_rfl) (by kernel_rfl)) ?_
  intro W base args ds gs before hval0 hW hcnd _
  have hval : ∀ (j : Nat) t v, Try.f5.params[j]? = some t → args[j]? = some v → Value.okWide Try.prog W .any base t v := hval0
  have hW' := hW
  obtain ⟨p, q, hA0, hV, rfl, hfz, hnd⟩ := hW
  have hA : DataW.TrodAll enc Try.prog W 0 (fun _ => true) true Try.f5.params.toList args.toList ds p := hA0
  rw [Try.params5] at hA hval
  obtain ⟨v0, vs0, d0, ds0, p0, q0, hargs, rfl, rfl, h0, r0⟩ := trodAll_cons hA
  obtain ⟨v1, vs1, d1, ds1, p1, q1, rfl, rfl, rfl, h1, r1⟩ := trodAll_cons r0
  obtain ⟨rfl, rfl, rfl⟩ := trodAll_nil r1
  obtain rfl : args = #[v0, v1] := by cases args; simp_all
  obtain ⟨rfl, rfl⟩ := trodVars_none hV
  obtain ⟨x0, rfl, rfl, rfl, g0⟩ := open_int Try.underlying5 (hval 0 5 v0 rfl rfl) h0
  have k1 := h1
  have lt1 : ∀ x ∈ p1, x.block < W.heap.size := by obtain ⟨m, hm⟩ := k1; exact DataW.trod_lt m _ _ _ hm
  obtain ⟨x1, y1, z1, rfl, g1, m1⟩ := open_building (hval 1 25 v1 rfl rfl) h1
  clear hA0 hval0
  refine (lawParkSpreads_walk x0 x1 y1 z1 W g0 g1 m1).mono fun e W' ⟨he, bel⟩ => ?_
  subst he
  exact ⟨_, rfl, _, _, _, [], _, [], hW', trodAll_mk1 (shut_bool Try.underlying4 _), (trodAll_cons_mk (shut_int Try.underlying5 g0) (trodAll_cons_mk (Below.trod laidOut (by kernel_rfl) (of_decide_eq_true (by kernel_rfl)) k1 bel lt1) trodAll_mk0)), rfl, bel.frame _, fun h => by cases h⟩

theorem lawParkSpreads_over : Rows.parkSpreadsRow.holds Try.pinned (OpenSpec.ofChange Rows.parkSpreadsSpec) :=
  OpenClaim.holds_of_wide 5 Try.f5 rfl rfl rfl rfl rfl rfl rfl ⟨rfl, rfl, rfl, rfl, rfl⟩ rfl rfl rfl rfl rfl (by kernel_rfl) Try.func5 (by kernel_rfl)
    (of_decide_eq_true (by kernel_rfl)) (by unfold Func.isWrapper; first | (rw [if_pos (by decide +kernel)]; kernel_rfl) | (rw [if_neg (by decide +kernel)]; exact ⟨rfl, rfl⟩))
    (fun os started H enc _ => lawParkSpreads_lifted os started H enc)

theorem parkSpreads_holds : Rows.ParkSpreadsSaid := lawParkSpreads_over
#print axioms parkSpreads_holds
end Go.Proofs.Ytgfejleemacabaa
