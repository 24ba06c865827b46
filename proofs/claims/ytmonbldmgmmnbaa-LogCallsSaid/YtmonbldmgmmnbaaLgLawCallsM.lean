/- LogCalls. No statement of the seat is proved here. -/
import Derived.Test.YtmonbldmgmmnbaaLMAll
namespace Go.Proofs.Ytmonbldmgmmnbaa
open Go.RowKit Lg Img

/-- Records lie not in a building's block: five ints in a row do not fit there. -/
theorem RAt.boxPut {w w' : World} {xA : Option Addr} {l : List Rc} {g : Nat} {f d r p : Int} {e1 e2 e3 : Nat} {A : Option Addr} {n cap : Nat} (h : RAt w xA l) (hr : w.heap[g]? = some (.cells #[.int .i64 f, .int .i64 d, .int .i64 r, .int .i64 p, .float .f64 e1, .float .f64 e2, .float .f64 e3, .slice A n cap] 26 (0, 0)))
    (hg : w.grownBy w' (some g)) : RAt w' xA l := by
  cases l with
  | nil => exact .inl rfl
  | cons x l =>
    obtain ⟨b, off, hA, hb, c0, c1, c2, c3, c4⟩ := h.at_ (k := 0) (by simp)
    have hne : b ≠ g := fun e => by
      subst e
      have no : ∀ k v, w.cell? ⟨b, k, none⟩ = some (.int .i64 v) → k ≤ 3 := fun k v hv => by
        rcases Nat.lt_or_ge k 8 with h8 | h8
        · have := cell_of_row w b k _ _ (0, 0) hr
          rw [hv] at this
          rcases (show k = 0 ∨ k = 1 ∨ k = 2 ∨ k = 3 ∨ k = 4 ∨ k = 5 ∨ k = 6 ∨ k = 7 by omega) with rfl | rfl | rfl | rfl | rfl | rfl | rfl | rfl <;> first | omega | (simp at this)
        · have := cell_of_row w b k _ _ (0, 0) hr
          rw [hv] at this
          rw [Array.getElem?_eq_none (by simpa using h8)] at this
          cases this
      have := no _ _ c4
      omega
    rcases h with h | ⟨b', off', hA', hrng⟩
    · cases h
    · rw [hA] at hA'
      injection hA' with hA'
      injection hA' with q1 q2
      subst q1
      subst q2
      refine .inr ⟨b, off, hA, fun j v hv => ?_⟩
      rw [← hrng j v hv]
      unfold World.cell?
      simp only [hg.block b hb (fun e => hne (Option.some.inj e))]
set_option maxRecDepth 100000 in
set_option maxHeartbeats 1600000 in
theorem logCalls_any (n : Nat) (ns : List Nat) (vl : Value) (w : World) (hn : n < 256) (hns : ∀ z ∈ ns, z < 256) (hnl : ns.length ≤ maxLen) (hv : VV w vl (u8s ns)) :
    Calls Try.prog 7 #[.int .u8 n, vl] w fun e w' => e = .returned (.bool true) ∧ Below w.heap.size w w' := by
  obtain ⟨F, hF⟩ : ∃ F, F = 2 + n % 7 := ⟨_, rfl⟩
  obtain ⟨C, hC⟩ : ∃ C, C = 1 + n / 7 % 3 := ⟨_, rfl⟩
  have hF1 : 2 ≤ F := by omega
  have hF2 : F ≤ 32 := by omega
  have hC1 : 1 ≤ C := by omega
  have hC2 : C ≤ 3 := by omega
  have FB := Lib.hid (fun wx => building10_any n 255 wx hn (by decide))
  rw [← hF, ← hC] at FB
  clear hF hC
  obtain ⟨X, hX⟩ : ∃ X, X = Rc.recL F C ns (min (ns.length / 2) 60) := ⟨_, rfl⟩
  have hXk : ∀ r ∈ X, Rc.okB (sampleD (F : Int) C) r = true := by rw [hX]; exact Rc.recL_ok hF1 hF2 hC1 (by omega) hns _
  have hXl : X.length ≤ 60 := by rw [hX, Rc.recL_len]; omega
  have hbl : (bldR (F : Int) C 255).cars.length = C := by simp [bldR, sampleD, sampleCars_length]
  have FR := Lib.hid (fun A cap wx => records_any (bldR (F : Int) C 255) A cap F C rfl hbl hF1 hF2 hC1 (by omega) ns hns hnl vl 60 (by decide) wx)
  rw [← hX] at FR
  have hb2 : bldR (F : Int) C (6 * X.length + 176 - 18 * C) = { bldR (F : Int) C 255 with room := 6 * (X.length : Int) + 200 } := by
    have : 18 * (C : Int) + 24 + ((6 * X.length + 176 - 18 * C : Nat) : Int) = 6 * (X.length : Int) + 200 := by omega
    unfold bldR
    rw [this]
  have hv2 : validE { bldR (F : Int) C 255 with room := 6 * (X.length : Int) + 200 } = 0 := hb2 ▸ bldR_valid F C _ (by omega) (by omega) hC1 (by omega) (by omega)
  have hk2 : ∀ r ∈ X, Rc.okB { bldR (F : Int) C 255 with room := 6 * (X.length : Int) + 200 } r = true := hb2 ▸ fun r hr => okB_bldR hF1 hF2 hC1 (by omega) (by omega) (hXk r hr)
  clear hX hXk hb2
  generalize bldR (F : Int) C 255 = b at *
  obtain ⟨f, d, r, p, e1, e2, e3, cs⟩ := b
  simp only [BldD.agg] at *
  have hn2 : cs.length ≤ 140737488355328 := by omega
  have henc : encL (⟨f, d, 6 * (X.length : Int) + 200, p, e1, e2, e3, cs⟩ : BldD) X = Rc.joinS X := encL_ok hk2
  have FY := Lib.hid (fun A cap vA vc wx (hc : CarsAt wx wx.heap.size A cs) (hx : RAt wx vA X) => refBytes_any (⟨f, d, 6 * (X.length : Int) + 200, p, e1, e2, e3, cs⟩ : BldD) A cap X vA vc wx hn2 hc (by omega) hx)
  rw [henc] at FY
  have hjl : (⟨⟨(Rc.joinS X).toArray⟩, ⟨#[]⟩, 0⟩ : St).cur.size ≤ 2000000 := by
    show (Rc.joinS X).toArray.size ≤ 2000000
    have : (Rc.joinS X).length = 6 * X.length := Rc.joinS_len X
    simp only [List.size_toArray]
    omega
  have FP := Lib.hid (fun A cap wx (hc : CarsAt wx wx.heap.size A cs) => replay_any (⟨f, d, 6 * (X.length : Int) + 200, p, e1, e2, e3, cs⟩ : BldD) A cap (⟨⟨(Rc.joinS X).toArray⟩, ⟨#[]⟩, 0⟩ : St) wx hv2 hc hjl)
  have hrp : Rpl (⟨f, d, 6 * (X.length : Int) + 200, p, e1, e2, e3, cs⟩ : BldD) (bl (⟨⟨(Rc.joinS X).toArray⟩, ⟨#[]⟩, 0⟩ : St).cur) (rep (⟨f, d, 6 * (X.length : Int) + 200, p, e1, e2, e3, cs⟩ : BldD) X) := by
    have := rpl_join hk2 (t := []) (by decide)
    rw [List.append_nil] at this
    exact this
  have HRP := Lib.hid (fun m (h : Rpl (⟨f, d, 6 * (X.length : Int) + 200, p, e1, e2, e3, cs⟩ : BldD) (bl (⟨⟨(Rc.joinS X).toArray⟩, ⟨#[]⟩, 0⟩ : St).cur) m) => rpl_one h hrp)
  have hgood := rep_good hv2 hk2
  have hcnt := count_of hgood.srt (good_cal hgood)
  have hle := Cs.count_le (Cs.of_ok (rep (⟨f, d, 6 * (X.length : Int) + 200, p, e1, e2, e3, cs⟩ : BldD) X).en)
  have HZ := Lib.hid (wantF_zero (⟨f, d, 6 * (X.length : Int) + 200, p, e1, e2, e3, cs⟩ : BldD) X)
  have HS := Lib.hid (fun k (hk : k < X.length) => wantF_succ hv2 hk2 hk)
  have FU := Lib.hid (fun k fl di wx => refUnion_any (wantF (⟨f, d, 6 * (X.length : Int) + 200, p, e1, e2, e3, cs⟩ : BldD) X k) (Cs.one fl di) wx (wantF_ok _ _ _) (Cs.one_ok _ _))
  have FM := Lib.hid (fun k fl di wx => refMinus_any (wantF (⟨f, d, 6 * (X.length : Int) + 200, p, e1, e2, e3, cs⟩ : BldD) X k) (Cs.one fl di) wx (wantF_ok _ _ _) (Cs.one_ok _ _))
  have FO := Lib.hid (fun fl di wx => refOne_any fl di wx)
  have FT := Lib.hid (fun A cap wx (h : EAt wx A (rep (⟨f, d, 6 * (X.length : Int) + 200, p, e1, e2, e3, cs⟩ : BldD) X).en) => refOf_any (rep (⟨f, d, 6 * (X.length : Int) + 200, p, e1, e2, e3, cs⟩ : BldD) X).en A cap wx h (by omega))
  have FC := Lib.hid (fun wx => refCount_any (wantF (⟨f, d, 6 * (X.length : Int) + 200, p, e1, e2, e3, cs⟩ : BldD) X X.length) wx (wantF_ok _ _ _))
  rw [show Cs.count (wantF (⟨f, d, 6 * (X.length : Int) + 200, p, e1, e2, e3, cs⟩ : BldD) X X.length) = (rep (⟨f, d, 6 * (X.length : Int) + 200, p, e1, e2, e3, cs⟩ : BldD) X).en.length by rw [wantF_end]; exact hcnt] at FC
  rw [← wantF_end] at FT
  have FS := Lib.hid (fun wx => sane10_any wx)
  have hen : (rep (⟨f, d, 6 * (X.length : Int) + 200, p, e1, e2, e3, cs⟩ : BldD) X).en.length ≤ 64 := by omega
  clear hle hcnt hgood hrp hk2 hv2 henc hjl
  generalize wantF (⟨f, d, 6 * (X.length : Int) + 200, p, e1, e2, e3, cs⟩ : BldD) X = WF at *
  generalize hRPL : Rpl (⟨f, d, 6 * (X.length : Int) + 200, p, e1, e2, e3, cs⟩ : BldD) (bl (⟨⟨(Rc.joinS X).toArray⟩, ⟨#[]⟩, 0⟩ : St).cur) = RPL at *
  clear hRPL
  generalize rep (⟨f, d, 6 * (X.length : Int) + 200, p, e1, e2, e3, cs⟩ : BldD) X = m at *
  generalize (⟨(Rc.joinS X).toArray⟩ : ByteArray) = S at *
  simp only [St.agg, Cs.agg] at *
  have HV := Lib.hid hv
  clear hv hns hnl hbl hn2 hC1 hC2 hF1 hF2
  go_enter Try.func7, Try.ntmps7
  go_wp2_with fail
  refine (FB.out _).mono ?_
  rintro e u0 ⟨hb0, A, cap, rfl, hcars⟩
  have HC := Lib.hid hcars
  have HBW := Lib.hid hb0
  clear hcars hb0
  have HB0 : Hid (Bx u0 [] u0) := Lib.hid ⟨Below.refl _ _, fun p hp => by simp at hp⟩
  have HCX := Lib.hid (fun wx (hb : Below u0.heap.size u0 wx) => show CarsAt wx wx.heap.size A cs from (HC.out.below hb).more hb.size)
  have HVX := Lib.hid (fun wx (hb : Below u0.heap.size u0 wx) => (HV.out.below HBW.out).below hb)
  clear HV HC
  go_wp2_with (with_reducible show wpList _ _ _ (Oper.mk _ (.store 26 _ _) _ _ _ _ :: _) _ _; refine Hid.out ?_)
  refine Lib.hid ?_
  refine wpList_put rfl 26 _ _ rfl u0.heap.size #[.int .i64 f, .int .i64 d, .int .i64 r, .int .i64 p, .float .f64 e1, .float .f64 e2, .float .f64 e3, .slice A cs.length cap] _ 26 rfl rfl (heap_alloc_new u0 _) (by kernel_rfl) rfl (by kernel_rfl) ?_
  intro w1 hr1 hg1
  have HB1 : Hid (Bx u0 [(u0.heap.size, .cells #[.int .i64 f, .int .i64 d, .int .i64 r, .int .i64 p, .float .f64 e1, .float .f64 e2, .float .f64 e3, .slice A cs.length cap] 26 (0, 0))] w1) := Lib.hid ((HB0.out.make (heap_alloc_new u0 (.cells #[.int .i64 0, .int .i64 0, .int .i64 0, .int .i64 0, .float .f64 0, .float .f64 0, .float .f64 0, .slice none 0 0] 26)) ((Below.refl u0.heap.size u0).alloc (Nat.le_refl _) _)).put HB0.out.below.size hg1.out hr1.out (by simp only [List.mem_cons, List.not_mem_nil, or_false]; rintro p rfl <;> simp <;> omega))
  clear hr1 hg1 HB0
  have c0_0 : w1.cell? ⟨u0.heap.size, 0, none⟩ = some (.int .i64 f) := cell_of_row _ _ _ _ _ (0, 0) HB1.out.r0
  have c0_1 : w1.cell? ⟨u0.heap.size, 1, none⟩ = some (.int .i64 d) := cell_of_row _ _ _ _ _ (0, 0) HB1.out.r0
  have c0_2 : w1.cell? ⟨u0.heap.size, 2, none⟩ = some (.int .i64 r) := cell_of_row _ _ _ _ _ (0, 0) HB1.out.r0
  have c0_3 : w1.cell? ⟨u0.heap.size, 3, none⟩ = some (.int .i64 p) := cell_of_row _ _ _ _ _ (0, 0) HB1.out.r0
  have c0_4 : w1.cell? ⟨u0.heap.size, 4, none⟩ = some (.float .f64 e1) := cell_of_row _ _ _ _ _ (0, 0) HB1.out.r0
  have c0_5 : w1.cell? ⟨u0.heap.size, 5, none⟩ = some (.float .f64 e2) := cell_of_row _ _ _ _ _ (0, 0) HB1.out.r0
  have c0_6 : w1.cell? ⟨u0.heap.size, 6, none⟩ = some (.float .f64 e3) := cell_of_row _ _ _ _ _ (0, 0) HB1.out.r0
  have c0_7 : w1.cell? ⟨u0.heap.size, 7, none⟩ = some (.slice A cs.length cap) := cell_of_row _ _ _ _ _ (0, 0) HB1.out.r0
  go_wp2_with fail
  refine (FR.out A cap _ (HVX.out _ HB1.out.below)).mono ?_
  rintro e w2 ⟨u, rfl, ⟨xA, xc, rfl, hx⟩, hb2⟩
  have HB2 := Lib.hid (HB1.out.next hb2)
  clear c0_0 c0_1 c0_2 c0_3 c0_4 c0_5 c0_6 c0_7 hb2 HB1
  have c0_0 : w2.cell? ⟨u0.heap.size, 0, none⟩ = some (.int .i64 f) := cell_of_row _ _ _ _ _ (0, 0) HB2.out.r0
  have c0_1 : w2.cell? ⟨u0.heap.size, 1, none⟩ = some (.int .i64 d) := cell_of_row _ _ _ _ _ (0, 0) HB2.out.r0
  have c0_2 : w2.cell? ⟨u0.heap.size, 2, none⟩ = some (.int .i64 r) := cell_of_row _ _ _ _ _ (0, 0) HB2.out.r0
  have c0_3 : w2.cell? ⟨u0.heap.size, 3, none⟩ = some (.int .i64 p) := cell_of_row _ _ _ _ _ (0, 0) HB2.out.r0
  have c0_4 : w2.cell? ⟨u0.heap.size, 4, none⟩ = some (.float .f64 e1) := cell_of_row _ _ _ _ _ (0, 0) HB2.out.r0
  have c0_5 : w2.cell? ⟨u0.heap.size, 5, none⟩ = some (.float .f64 e2) := cell_of_row _ _ _ _ _ (0, 0) HB2.out.r0
  have c0_6 : w2.cell? ⟨u0.heap.size, 6, none⟩ = some (.float .f64 e3) := cell_of_row _ _ _ _ _ (0, 0) HB2.out.r0
  have c0_7 : w2.cell? ⟨u0.heap.size, 7, none⟩ = some (.slice A cs.length cap) := cell_of_row _ _ _ _ _ (0, 0) HB2.out.r0
  have HX := Lib.hid hx
  clear hx
  go_wp2_with (with_reducible show wpList _ _ _ (Oper.mk _ (.store 3 _ _) _ _ _ _ :: _) _ _; refine Hid.out ?_)
  refine Lib.hid ?_
  refine wpList_putCell rfl 3 _ _ rfl (u0.heap.size) 2 (.int .i64 (6 * (X.length : Int) + 200)) _ _ 26 rfl rfl HB2.out.r0 (by kernel_rfl) (by simp) rfl rfl rfl ?_
  intro w3 hr3 hg3
  have HX2 := Lib.hid (HX.out.boxPut HB2.out.r0 hg3.out)
  clear HX
  have HB3 : Hid (Bx u0 [(u0.heap.size, .cells #[.int .i64 f, .int .i64 d, .int .i64 (6 * (X.length : Int) + 200), .int .i64 p, .float .f64 e1, .float .f64 e2, .float .f64 e3, .slice A cs.length cap] 26 (0, 0))] w3) := Lib.hid (HB2.out.put (by omega) hg3.out hr3.out (by simp only [List.mem_cons, List.not_mem_nil, or_false]; rintro p rfl <;> simp <;> omega))
  clear c0_0 c0_1 c0_2 c0_3 c0_4 c0_5 c0_6 c0_7 hr3 hg3 HB2
  have c0_0 : w3.cell? ⟨u0.heap.size, 0, none⟩ = some (.int .i64 f) := cell_of_row _ _ _ _ _ (0, 0) HB3.out.r0
  have c0_1 : w3.cell? ⟨u0.heap.size, 1, none⟩ = some (.int .i64 d) := cell_of_row _ _ _ _ _ (0, 0) HB3.out.r0
  have c0_2 : w3.cell? ⟨u0.heap.size, 2, none⟩ = some (.int .i64 (6 * (X.length : Int) + 200)) := cell_of_row _ _ _ _ _ (0, 0) HB3.out.r0
  have c0_3 : w3.cell? ⟨u0.heap.size, 3, none⟩ = some (.int .i64 p) := cell_of_row _ _ _ _ _ (0, 0) HB3.out.r0
  have c0_4 : w3.cell? ⟨u0.heap.size, 4, none⟩ = some (.float .f64 e1) := cell_of_row _ _ _ _ _ (0, 0) HB3.out.r0
  have c0_5 : w3.cell? ⟨u0.heap.size, 5, none⟩ = some (.float .f64 e2) := cell_of_row _ _ _ _ _ (0, 0) HB3.out.r0
  have c0_6 : w3.cell? ⟨u0.heap.size, 6, none⟩ = some (.float .f64 e3) := cell_of_row _ _ _ _ _ (0, 0) HB3.out.r0
  have c0_7 : w3.cell? ⟨u0.heap.size, 7, none⟩ = some (.slice A cs.length cap) := cell_of_row _ _ _ _ _ (0, 0) HB3.out.r0
  have HC3 := Lib.hid (HCX.out _ HB3.out.below)
  clear HCX HVX FB FR
  clear c0_0 c0_1 c0_2 c0_3 c0_4 c0_5 c0_6 c0_7
  have HBW3 := Lib.hid (HBW.out.trans (HB3.out.below.mono HBW.out.size))
  have HBR3 : Hid (Bx w3 [(u0.heap.size, .cells #[.int .i64 f, .int .i64 d, .int .i64 (6 * (X.length : Int) + 200), .int .i64 p, .float .f64 e1, .float .f64 e2, .float .f64 e3, .slice A cs.length cap] 26 (0, 0))] w3) := Lib.hid ⟨Below.refl _ _, HB3.out.rows⟩
  clear HBW HB3
  generalize u0.heap.size = g0 at *
  have HCY := Lib.hid (fun wx (hb : Below w3.heap.size w3 wx) => show CarsAt wx wx.heap.size A cs from (HC3.out.below hb).more hb.size)
  have HXY := Lib.hid (fun wx (hb : Below w3.heap.size w3 wx) => HX2.out.below hb)
  clear HC3 HX2
  have c0_0 : w3.cell? ⟨g0, 0, none⟩ = some (.int .i64 f) := cell_of_row _ _ _ _ _ (0, 0) HBR3.out.r0
  have c0_1 : w3.cell? ⟨g0, 1, none⟩ = some (.int .i64 d) := cell_of_row _ _ _ _ _ (0, 0) HBR3.out.r0
  have c0_2 : w3.cell? ⟨g0, 2, none⟩ = some (.int .i64 (6 * (X.length : Int) + 200)) := cell_of_row _ _ _ _ _ (0, 0) HBR3.out.r0
  have c0_3 : w3.cell? ⟨g0, 3, none⟩ = some (.int .i64 p) := cell_of_row _ _ _ _ _ (0, 0) HBR3.out.r0
  have c0_4 : w3.cell? ⟨g0, 4, none⟩ = some (.float .f64 e1) := cell_of_row _ _ _ _ _ (0, 0) HBR3.out.r0
  have c0_5 : w3.cell? ⟨g0, 5, none⟩ = some (.float .f64 e2) := cell_of_row _ _ _ _ _ (0, 0) HBR3.out.r0
  have c0_6 : w3.cell? ⟨g0, 6, none⟩ = some (.float .f64 e3) := cell_of_row _ _ _ _ _ (0, 0) HBR3.out.r0
  have c0_7 : w3.cell? ⟨g0, 7, none⟩ = some (.slice A cs.length cap) := cell_of_row _ _ _ _ _ (0, 0) HBR3.out.r0
  go_wp2_with fail
  refine (FY.out A cap xA xc _ (HCY.out _ HBR3.out.below) (HXY.out _ HBR3.out.below)).mono ?_
  rintro e w4 ⟨rfl, hb4⟩
  have HB4 := Lib.hid (HBR3.out.next hb4)
  clear c0_0 c0_1 c0_2 c0_3 c0_4 c0_5 c0_6 c0_7 hb4 HBR3
  have c0_0 : w4.cell? ⟨g0, 0, none⟩ = some (.int .i64 f) := cell_of_row _ _ _ _ _ (0, 0) HB4.out.r0
  have c0_1 : w4.cell? ⟨g0, 1, none⟩ = some (.int .i64 d) := cell_of_row _ _ _ _ _ (0, 0) HB4.out.r0
  have c0_2 : w4.cell? ⟨g0, 2, none⟩ = some (.int .i64 (6 * (X.length : Int) + 200)) := cell_of_row _ _ _ _ _ (0, 0) HB4.out.r0
  have c0_3 : w4.cell? ⟨g0, 3, none⟩ = some (.int .i64 p) := cell_of_row _ _ _ _ _ (0, 0) HB4.out.r0
  have c0_4 : w4.cell? ⟨g0, 4, none⟩ = some (.float .f64 e1) := cell_of_row _ _ _ _ _ (0, 0) HB4.out.r0
  have c0_5 : w4.cell? ⟨g0, 5, none⟩ = some (.float .f64 e2) := cell_of_row _ _ _ _ _ (0, 0) HB4.out.r0
  have c0_6 : w4.cell? ⟨g0, 6, none⟩ = some (.float .f64 e3) := cell_of_row _ _ _ _ _ (0, 0) HB4.out.r0
  have c0_7 : w4.cell? ⟨g0, 7, none⟩ = some (.slice A cs.length cap) := cell_of_row _ _ _ _ _ (0, 0) HB4.out.r0
  go_wp2_with (with_reducible show wpList _ _ _ (Oper.mk _ (.store 47 _ _) _ _ _ _ :: _) _ _; refine Hid.out ?_)
  refine Lib.hid ?_
  have l5_0 : g0 < w4.heap.size := (Array.getElem?_eq_some_iff.1 HB4.out.r0).1
  have lw5 : w3.heap.size ≤ w4.heap.size := HB4.out.below.size
  refine wpList_put rfl 47 _ _ rfl w4.heap.size #[.string S, .string ⟨#[]⟩, .int .i64 0] _ 47 rfl rfl (heap_alloc_new w4 _) (by kernel_rfl) rfl (by kernel_rfl) ?_
  intro w5 hr5 hg5
  have HB5 : Hid (Bx w3 [(w4.heap.size, .cells #[.string S, .string ⟨#[]⟩, .int .i64 0] 47 (0, 0)), (g0, .cells #[.int .i64 f, .int .i64 d, .int .i64 (6 * (X.length : Int) + 200), .int .i64 p, .float .f64 e1, .float .f64 e2, .float .f64 e3, .slice A cs.length cap] 26 (0, 0))] w5) := Lib.hid ((HB4.out.make (heap_alloc_new w4 (.cells #[.string ⟨#[]⟩, .string ⟨#[]⟩, .int .i64 0] 47)) ((Below.refl w4.heap.size w4).alloc (Nat.le_refl _) _)).put HB4.out.below.size hg5.out hr5.out (by simp only [List.mem_cons, List.not_mem_nil, or_false]; rintro p (rfl | rfl) <;> simp <;> omega))
  clear c0_0 c0_1 c0_2 c0_3 c0_4 c0_5 c0_6 c0_7 hr5 hg5 HB4
  generalize w4.heap.size = gs at *
  have c0_0 : w5.cell? ⟨gs, 0, none⟩ = some (.string S) := cell_of_row _ _ _ _ _ (0, 0) HB5.out.r0
  have c0_1 : w5.cell? ⟨gs, 1, none⟩ = some (.string ⟨#[]⟩) := cell_of_row _ _ _ _ _ (0, 0) HB5.out.r0
  have c0_2 : w5.cell? ⟨gs, 2, none⟩ = some (.int .i64 0) := cell_of_row _ _ _ _ _ (0, 0) HB5.out.r0
  have c1_0 : w5.cell? ⟨g0, 0, none⟩ = some (.int .i64 f) := cell_of_row _ _ _ _ _ (0, 0) HB5.out.r1
  have c1_1 : w5.cell? ⟨g0, 1, none⟩ = some (.int .i64 d) := cell_of_row _ _ _ _ _ (0, 0) HB5.out.r1
  have c1_2 : w5.cell? ⟨g0, 2, none⟩ = some (.int .i64 (6 * (X.length : Int) + 200)) := cell_of_row _ _ _ _ _ (0, 0) HB5.out.r1
  have c1_3 : w5.cell? ⟨g0, 3, none⟩ = some (.int .i64 p) := cell_of_row _ _ _ _ _ (0, 0) HB5.out.r1
  have c1_4 : w5.cell? ⟨g0, 4, none⟩ = some (.float .f64 e1) := cell_of_row _ _ _ _ _ (0, 0) HB5.out.r1
  have c1_5 : w5.cell? ⟨g0, 5, none⟩ = some (.float .f64 e2) := cell_of_row _ _ _ _ _ (0, 0) HB5.out.r1
  have c1_6 : w5.cell? ⟨g0, 6, none⟩ = some (.float .f64 e3) := cell_of_row _ _ _ _ _ (0, 0) HB5.out.r1
  have c1_7 : w5.cell? ⟨g0, 7, none⟩ = some (.slice A cs.length cap) := cell_of_row _ _ _ _ _ (0, 0) HB5.out.r1
  go_wp2_with fail
  refine (FP.out A cap _ (HCY.out _ HB5.out.below)).mono ?_
  rintro e w6 ⟨m2, pv, fv, lv, ev, rfl, hrp, hI, hb6⟩
  have HB6 := Lib.hid (HB5.out.next hb6)
  clear c0_0 c0_1 c0_2 c1_0 c1_1 c1_2 c1_3 c1_4 c1_5 c1_6 c1_7 hb6 HB5
  have c0_0 : w6.cell? ⟨gs, 0, none⟩ = some (.string S) := cell_of_row _ _ _ _ _ (0, 0) HB6.out.r0
  have c0_1 : w6.cell? ⟨gs, 1, none⟩ = some (.string ⟨#[]⟩) := cell_of_row _ _ _ _ _ (0, 0) HB6.out.r0
  have c0_2 : w6.cell? ⟨gs, 2, none⟩ = some (.int .i64 0) := cell_of_row _ _ _ _ _ (0, 0) HB6.out.r0
  have c1_0 : w6.cell? ⟨g0, 0, none⟩ = some (.int .i64 f) := cell_of_row _ _ _ _ _ (0, 0) HB6.out.r1
  have c1_1 : w6.cell? ⟨g0, 1, none⟩ = some (.int .i64 d) := cell_of_row _ _ _ _ _ (0, 0) HB6.out.r1
  have c1_2 : w6.cell? ⟨g0, 2, none⟩ = some (.int .i64 (6 * (X.length : Int) + 200)) := cell_of_row _ _ _ _ _ (0, 0) HB6.out.r1
  have c1_3 : w6.cell? ⟨g0, 3, none⟩ = some (.int .i64 p) := cell_of_row _ _ _ _ _ (0, 0) HB6.out.r1
  have c1_4 : w6.cell? ⟨g0, 4, none⟩ = some (.float .f64 e1) := cell_of_row _ _ _ _ _ (0, 0) HB6.out.r1
  have c1_5 : w6.cell? ⟨g0, 5, none⟩ = some (.float .f64 e2) := cell_of_row _ _ _ _ _ (0, 0) HB6.out.r1
  have c1_6 : w6.cell? ⟨g0, 6, none⟩ = some (.float .f64 e3) := cell_of_row _ _ _ _ _ (0, 0) HB6.out.r1
  have c1_7 : w6.cell? ⟨g0, 7, none⟩ = some (.slice A cs.length cap) := cell_of_row _ _ _ _ _ (0, 0) HB6.out.r1
  have hq := HRP.out _ hrp
  rw [hq] at hI
  clear hq hrp HRP FP FY
  clear m2
  obtain ⟨y1, k1, rfl⟩ := own_slice hI.p
  obtain ⟨y2, k2, rfl⟩ := own_slice hI.f
  obtain ⟨y3, k3, rfl⟩ := own_slice hI.l
  obtain ⟨y4, k4, rfl⟩ := own_slice hI.e
  have hE : EAt w6 y4 m.en := by obtain ⟨y5, k5, he, h⟩ := hI.view.e; injection he with q1; subst q1; exact h
  have HE := Lib.hid hE
  clear hE hI
  have HXZ := Lib.hid (fun wx (hb : Below w6.heap.size w6 wx) => (HXY.out _ HB6.out.below).below hb)
  have HEZ := Lib.hid (fun wx (hb : Below w6.heap.size w6 wx) => HE.out.below hb)
  clear HXY HE HCY
  have HBW6 := Lib.hid (HBW3.out.trans (HB6.out.below.mono HBW3.out.size))
  have HBR6 : Hid (Bx w6 [(gs, .cells #[.string S, .string ⟨#[]⟩, .int .i64 0] 47 (0, 0)), (g0, .cells #[.int .i64 f, .int .i64 d, .int .i64 (6 * (X.length : Int) + 200), .int .i64 p, .float .f64 e1, .float .f64 e2, .float .f64 e3, .slice A cs.length cap] 26 (0, 0))] w6) := Lib.hid ⟨Below.refl _ _, HB6.out.rows⟩
  clear HBW3 HB6
  have l6_0 : gs < w6.heap.size := (Array.getElem?_eq_some_iff.1 HBR6.out.r0).1
  have l6_1 : g0 < w6.heap.size := (Array.getElem?_eq_some_iff.1 HBR6.out.r1).1
  go_wp2_with (with_reducible show wpList _ _ _ (Oper.mk _ (.store 32 _ _) _ _ _ _ :: _) _ _; refine Hid.out ?_)
  refine Lib.hid ?_
  refine wpList_put rfl 32 _ _ rfl w6.heap.size #[.slice y1 m.ph.length k1, .slice y2 m.fl.length k2, .slice y3 m.lv.length k3, .slice y4 m.en.length k4] _ 32 rfl rfl (heap_alloc_new w6 _) (by kernel_rfl) rfl (by kernel_rfl) ?_
  intro w7 hr7 hg7
  have HB7 : Hid (Bx w6 [(w6.heap.size, .cells #[.slice y1 m.ph.length k1, .slice y2 m.fl.length k2, .slice y3 m.lv.length k3, .slice y4 m.en.length k4] 32 (0, 0)), (gs, .cells #[.string S, .string ⟨#[]⟩, .int .i64 0] 47 (0, 0)), (g0, .cells #[.int .i64 f, .int .i64 d, .int .i64 (6 * (X.length : Int) + 200), .int .i64 p, .float .f64 e1, .float .f64 e2, .float .f64 e3, .slice A cs.length cap] 26 (0, 0))] w7) := Lib.hid ((HBR6.out.make (heap_alloc_new w6 (.cells #[.slice none 0 0, .slice none 0 0, .slice none 0 0, .slice none 0 0] 32)) ((Below.refl w6.heap.size w6).alloc (Nat.le_refl _) _)).put HBR6.out.below.size hg7.out hr7.out (by simp only [List.mem_cons, List.not_mem_nil, or_false]; rintro p (rfl | rfl | rfl) <;> simp <;> omega))
  clear c0_0 c0_1 c0_2 c1_0 c1_1 c1_2 c1_3 c1_4 c1_5 c1_6 c1_7 hr7 hg7 HBR6
  have c0_0 : w7.cell? ⟨w6.heap.size, 0, none⟩ = some (.slice y1 m.ph.length k1) := cell_of_row _ _ _ _ _ (0, 0) HB7.out.r0
  have c0_1 : w7.cell? ⟨w6.heap.size, 1, none⟩ = some (.slice y2 m.fl.length k2) := cell_of_row _ _ _ _ _ (0, 0) HB7.out.r0
  have c0_2 : w7.cell? ⟨w6.heap.size, 2, none⟩ = some (.slice y3 m.lv.length k3) := cell_of_row _ _ _ _ _ (0, 0) HB7.out.r0
  have c0_3 : w7.cell? ⟨w6.heap.size, 3, none⟩ = some (.slice y4 m.en.length k4) := cell_of_row _ _ _ _ _ (0, 0) HB7.out.r0
  have c1_0 : w7.cell? ⟨gs, 0, none⟩ = some (.string S) := cell_of_row _ _ _ _ _ (0, 0) HB7.out.r1
  have c1_1 : w7.cell? ⟨gs, 1, none⟩ = some (.string ⟨#[]⟩) := cell_of_row _ _ _ _ _ (0, 0) HB7.out.r1
  have c1_2 : w7.cell? ⟨gs, 2, none⟩ = some (.int .i64 0) := cell_of_row _ _ _ _ _ (0, 0) HB7.out.r1
  have c2_0 : w7.cell? ⟨g0, 0, none⟩ = some (.int .i64 f) := cell_of_row _ _ _ _ _ (0, 0) HB7.out.r2
  have c2_1 : w7.cell? ⟨g0, 1, none⟩ = some (.int .i64 d) := cell_of_row _ _ _ _ _ (0, 0) HB7.out.r2
  have c2_2 : w7.cell? ⟨g0, 2, none⟩ = some (.int .i64 (6 * (X.length : Int) + 200)) := cell_of_row _ _ _ _ _ (0, 0) HB7.out.r2
  have c2_3 : w7.cell? ⟨g0, 3, none⟩ = some (.int .i64 p) := cell_of_row _ _ _ _ _ (0, 0) HB7.out.r2
  have c2_4 : w7.cell? ⟨g0, 4, none⟩ = some (.float .f64 e1) := cell_of_row _ _ _ _ _ (0, 0) HB7.out.r2
  have c2_5 : w7.cell? ⟨g0, 5, none⟩ = some (.float .f64 e2) := cell_of_row _ _ _ _ _ (0, 0) HB7.out.r2
  have c2_6 : w7.cell? ⟨g0, 6, none⟩ = some (.float .f64 e3) := cell_of_row _ _ _ _ _ (0, 0) HB7.out.r2
  have c2_7 : w7.cell? ⟨g0, 7, none⟩ = some (.slice A cs.length cap) := cell_of_row _ _ _ _ _ (0, 0) HB7.out.r2
  go_wp2_with fail
  clear c0_0 c0_1 c0_2 c0_3 c1_0 c1_1 c1_2 c2_0 c2_1 c2_2 c2_3 c2_4 c2_5 c2_6 c2_7
  have l8_0 : w6.heap.size < w7.heap.size := (Array.getElem?_eq_some_iff.1 HB7.out.r0).1
  have l8_1 : gs < w7.heap.size := (Array.getElem?_eq_some_iff.1 HB7.out.r1).1
  have l8_2 : g0 < w7.heap.size := (Array.getElem?_eq_some_iff.1 HB7.out.r2).1
  have lw8 : w6.heap.size ≤ w7.heap.size := HB7.out.below.size
  have HBA := Lib.hid (HB7.out.make (heap_alloc_new w7 (.cells #[.int .u32 0, .int .u32 0] 61)) ((Below.refl w7.heap.size w7).alloc (Nat.le_refl _) _))
  generalize w7.alloc (.cells #[.int .u32 0, .int .u32 0] 61) = wa at *
  generalize w7.heap.size = gw at *
  clear HB7
  go_loopw [10] (fun vi wr => ∃ k : Nat, k ≤ X.length ∧ vi = .int .i64 k ∧ Bx w6 [(gw, .cells #[.int .u32 (WF k).up, .int .u32 (WF k).dn] 61 (0, 0)), (w6.heap.size, .cells #[.slice y1 m.ph.length k1, .slice y2 m.fl.length k2, .slice y3 m.lv.length k3, .slice y4 m.en.length k4] 32 (0, 0)), (gs, .cells #[.string S, .string ⟨#[]⟩, .int .i64 0] 47 (0, 0)), (g0, .cells #[.int .i64 f, .int .i64 d, .int .i64 (6 * (X.length : Int) + 200), .int .i64 p, .float .f64 e1, .float .f64 e2, .float .f64 e3, .slice A cs.length cap] 26 (0, 0))] wr) (fun vi _ => X.length - (intOf vi).toNat)
  case atStart => exact ⟨0, Nat.zero_le _, rfl, by rw [HZ.out]; exact HBA.out⟩
  case round =>
    obtain ⟨k, hk, rfl, hbr⟩ := hrel
    have HBR := Lib.hid hbr
    clear hbr HBA
    by_cases hlt : k < X.length
    · obtain ⟨bb, off, rfl, hb, c0, c1, c2, c3, c4⟩ := (HXZ.out _ (Below.refl w6.heap.size w6)).at_ hlt
      have HS1 := Lib.hid (HS.out k hlt)
      generalize X[k] = x at *
      obtain ⟨x1, x2, x3, x4, x5⟩ := x
      simp only at HS1 c0 c1 c2 c3 c4
      have HK0 := Lib.hid (fun wx (h : Below w6.heap.size w6 wx) => (h.cell (p := ⟨bb, off + k * 5, none⟩) hb).trans c0)
      have HK1 := Lib.hid (fun wx (h : Below w6.heap.size w6 wx) => (h.cell (p := ⟨bb, off + k * 5 + 1, none⟩) hb).trans c1)
      have HK2' := Lib.hid (fun wx (h : Below w6.heap.size w6 wx) => (h.cell (p := ⟨bb, off + k * 5 + 2, none⟩) hb).trans c2)
      clear c0 c1 c2 c3 c4 hb
      have FO1 := Lib.hid (fun wx => FO.out x2 x3 wx)
      have FU1 := Lib.hid (fun wx => FU.out k x2 x3 wx)
      have FM1 := Lib.hid (fun wx => FM.out k x2 x3 wx)
      generalize Cs.one x2 x3 = cx at *
      generalize Cs.union (WF k) cx = un at *
      generalize Cs.minus (WF k) cx = mi at *
      generalize WF k = wk at *
      have hd : decide ((k : Int) < (X.length : Int)) = true := decide_eq_true (by omega)
      have hki : (k : Int) < (X.length : Int) := by omega
      clear FO FU FM FT FC
      go_wp2_with fail
      have q0 : gw < wr.heap.size := (Array.getElem?_eq_some_iff.1 HBR.out.r0).1
      have q1 : w6.heap.size < wr.heap.size := (Array.getElem?_eq_some_iff.1 HBR.out.r1).1
      have q2 : gs < wr.heap.size := (Array.getElem?_eq_some_iff.1 HBR.out.r2).1
      have q3 : g0 < wr.heap.size := (Array.getElem?_eq_some_iff.1 HBR.out.r3).1
      refine Ghost.ghost (fun γ L wx => Decls (wr).heap.size (wr) [(⟨11, 12, 61, #[.int .u32 0, .int .u32 0], #[.int .u32 cx.up, .int .u32 cx.dn]⟩ : Decl)] γ L wx) (by kernel_rfl) (by kernel_rfl) (fun γ => Decls.start _ γ (Below.refl _ _).drew (Nat.le_refl _)) ?_
      apply Ghost.walk_const (fun γ => by rfl)
      · intro γ L wx h1 h2 hx K hK
        have HXx := HBR.out.next hx.below
        have xr1 := HK1.out _ HXx.below
        have xr2 := HK2'.out _ HXx.below
        have HK2 := Lib.hid hK
        have HX := Lib.hid hx
        clear hK h1 h2 hx
        go_simp
        first
          | (go_at_call 24; (with_reducible refine (FO1.out _).mono ?_); rintro e x1 ⟨rfl, hb⟩; exact HK2.out _ (HX.out.quiet 0 (by rfl) hb))
          | exact HK2.out _ (HX.out.quiet 0 (by rfl) (Below.refl _ _))
      simp only [Act.put, List.setIfInBounds_toArray, List.set_cons_succ, List.set_cons_zero]
      apply Ghost.walk_const (fun γ => by rfl)
      · intro γ L wx h1 h2 hx K hK
        have HXx := HBR.out.next hx.below
        have xr1 := HK1.out _ HXx.below
        have xr2 := HK2'.out _ HXx.below
        have HK2 := Lib.hid hK
        have HX := Lib.hid hx
        clear hK h1 h2 hx
        go_simp
        first
          | (go_at_call 24; (with_reducible refine (FO1.out _).mono ?_); rintro e x1 ⟨rfl, hb⟩; exact HK2.out _ (HX.out.quiet 0 (by rfl) hb))
          | exact HK2.out _ (HX.out.quiet 0 (by rfl) (Below.refl _ _))
      simp only [Act.put, List.setIfInBounds_toArray, List.set_cons_succ, List.set_cons_zero]
      apply Ghost.walk_const (fun γ => by rfl)
      · intro γ L wx h1 h2 hx K hK
        have HXx := HBR.out.next hx.below
        have xr1 := HK1.out _ HXx.below
        have xr2 := HK2'.out _ HXx.below
        have HK2 := Lib.hid hK
        have HX := Lib.hid hx
        clear hK h1 h2 hx
        go_simp
        first
          | (go_at_call 24; (with_reducible refine (FO1.out _).mono ?_); rintro e x1 ⟨rfl, hb⟩; exact HK2.out _ (HX.out.quiet 0 (by rfl) hb))
          | exact HK2.out _ (HX.out.quiet 0 (by rfl) (Below.refl _ _))
      simp only [Act.put, List.setIfInBounds_toArray, List.set_cons_succ, List.set_cons_zero]
      apply Ghost.walk_const (fun γ => by rfl)
      · intro γ L wx h1 h2 hx K hK
        have HXx := HBR.out.next hx.below
        have xr1 := HK1.out _ HXx.below
        have xr2 := HK2'.out _ HXx.below
        have HK2 := Lib.hid hK
        have HX := Lib.hid hx
        clear hK h1 h2 hx
        go_simp
        first
          | (go_at_call 24; (with_reducible refine (FO1.out _).mono ?_); rintro e x1 ⟨rfl, hb⟩; exact HK2.out _ (HX.out.quiet 0 (by rfl) hb))
          | exact HK2.out _ (HX.out.quiet 0 (by rfl) (Below.refl _ _))
      simp only [Act.put, List.setIfInBounds_toArray, List.set_cons_succ, List.set_cons_zero]
      apply Ghost.walk_const (fun γ => by rfl)
      · intro γ L wx h1 h2 hx K hK
        have HXx := HBR.out.next hx.below
        have xr1 := HK1.out _ HXx.below
        have xr2 := HK2'.out _ HXx.below
        have HK2 := Lib.hid hK
        have HX := Lib.hid hx
        clear hK h1 h2 hx
        go_simp
        first
          | (go_at_call 24; (with_reducible refine (FO1.out _).mono ?_); rintro e x1 ⟨rfl, hb⟩; exact HK2.out _ (HX.out.quiet 0 (by rfl) hb))
          | exact HK2.out _ (HX.out.quiet 0 (by rfl) (Below.refl _ _))
      simp only [Act.put, List.setIfInBounds_toArray, List.set_cons_succ, List.set_cons_zero]
      apply Ghost.walk_const (fun γ => by rfl)
      · intro γ L wx h1 h2 hx K hK
        have HXx := HBR.out.next hx.below
        have xr1 := HK1.out _ HXx.below
        have xr2 := HK2'.out _ HXx.below
        have HK2 := Lib.hid hK
        have HX := Lib.hid hx
        clear hK h1 h2 hx
        go_simp
        first
          | (go_at_call 24; (with_reducible refine (FO1.out _).mono ?_); rintro e x1 ⟨rfl, hb⟩; exact HK2.out _ (HX.out.quiet 0 (by rfl) hb))
          | exact HK2.out _ (HX.out.quiet 0 (by rfl) (Below.refl _ _))
      simp only [Act.put, List.setIfInBounds_toArray, List.set_cons_succ, List.set_cons_zero]
      apply Ghost.walk_const (fun γ => by rfl)
      · intro γ L wx h1 h2 hx K hK
        have HXx := HBR.out.next hx.below
        have xr1 := HK1.out _ HXx.below
        have xr2 := HK2'.out _ HXx.below
        have HK2 := Lib.hid hK
        have HX := Lib.hid hx
        clear hK h1 h2 hx
        go_simp
        first
          | (go_at_call 24; (with_reducible refine (FO1.out _).mono ?_); rintro e x1 ⟨rfl, hb⟩; exact HK2.out _ (HX.out.quiet 0 (by rfl) hb))
          | exact HK2.out _ (HX.out.quiet 0 (by rfl) (Below.refl _ _))
      simp only [Act.put, List.setIfInBounds_toArray, List.set_cons_succ, List.set_cons_zero]
      apply Ghost.walk_const (fun γ => by rfl)
      · intro γ L wx h1 h2 hx K hK
        have HXx := HBR.out.next hx.below
        have xr1 := HK1.out _ HXx.below
        have xr2 := HK2'.out _ HXx.below
        have HK2 := Lib.hid hK
        have HX := Lib.hid hx
        clear hK h1 h2 hx
        go_simp
        first
          | (go_at_call 24; (with_reducible refine (FO1.out _).mono ?_); rintro e x1 ⟨rfl, hb⟩; exact HK2.out _ (HX.out.quiet 0 (by rfl) hb))
          | exact HK2.out _ (HX.out.quiet 0 (by rfl) (Below.refl _ _))
      simp only [Act.put, List.setIfInBounds_toArray, List.set_cons_succ, List.set_cons_zero]
      apply Ghost.walk_const (fun γ => by rfl)
      · intro γ L wx h1 h2 hx K hK
        have HXx := HBR.out.next hx.below
        have xr1 := HK1.out _ HXx.below
        have xr2 := HK2'.out _ HXx.below
        have HK2 := Lib.hid hK
        have HX := Lib.hid hx
        clear hK h1 h2 hx
        go_simp
        first
          | (go_at_call 24; (with_reducible refine (FO1.out _).mono ?_); rintro e x1 ⟨rfl, hb⟩; exact HK2.out _ (HX.out.quiet 0 (by rfl) hb))
          | exact HK2.out _ (HX.out.quiet 0 (by rfl) (Below.refl _ _))
      simp only [Act.put, List.setIfInBounds_toArray, List.set_cons_succ, List.set_cons_zero]
      apply Ghost.walk_const (fun γ => by rfl)
      · intro γ L wx h1 h2 hx K hK
        have HXx := HBR.out.next hx.below
        have xr1 := HK1.out _ HXx.below
        have xr2 := HK2'.out _ HXx.below
        have HK2 := Lib.hid hK
        have HX := Lib.hid hx
        clear hK h1 h2 hx
        go_simp
        first
          | (go_at_call 24; (with_reducible refine (FO1.out _).mono ?_); rintro e x1 ⟨rfl, hb⟩; exact HK2.out _ (HX.out.quiet 0 (by rfl) hb))
          | exact HK2.out _ (HX.out.quiet 0 (by rfl) (Below.refl _ _))
      simp only [Act.put, List.setIfInBounds_toArray, List.set_cons_succ, List.set_cons_zero]
      apply Ghost.walk_const (fun γ => by rfl)
      · intro γ L wx h1 h2 hx K hK
        have HXx := HBR.out.next hx.below
        have xr1 := HK1.out _ HXx.below
        have xr2 := HK2'.out _ HXx.below
        have HK2 := Lib.hid hK
        have HX := Lib.hid hx
        clear hK h1 h2 hx
        go_simp
        first
          | (go_at_call 24; (with_reducible refine (FO1.out _).mono ?_); rintro e x1 ⟨rfl, hb⟩; exact HK2.out _ (HX.out.quiet 0 (by rfl) hb))
          | exact HK2.out _ (HX.out.quiet 0 (by rfl) (Below.refl _ _))
      simp only [Act.put, List.setIfInBounds_toArray, List.set_cons_succ, List.set_cons_zero]
      refine Ghost.walk_yes (fun b => .pointer (some ⟨b, 0, none⟩)) (fun γ => by rfl) ?_ ?_
      · intro γ L wx h1 h2 hx K hK
        have HK2 := Lib.hid hK
        clear hK h2
        have hL : L (⟨11, 12, 61, #[.int .u32 0, .int .u32 0], #[.int .u32 cx.up, .int .u32 cx.dn]⟩ : Decl).al = false := h1
        clear h1
        go_simp
        exact HK2.out wx.heap.size _ (hx.alloc (⟨11, 12, 61, #[.int .u32 0, .int .u32 0], #[.int .u32 cx.up, .int .u32 cx.dn]⟩ : Decl) (decl_mem _) hL (by rfl) (decl_al _))
      simp only [Act.put, List.setIfInBounds_toArray, List.set_cons_succ, List.set_cons_zero]
      refine Ghost.walk_yes (fun _ => undef) (fun γ => by rfl) ?_ ?_
      · intro γ L wx h1 h2 hx K hK
        have hA : L (⟨11, 12, 61, #[.int .u32 0, .int .u32 0], #[.int .u32 cx.up, .int .u32 cx.dn]⟩ : Decl).al = true := h2 11 (by kernel_rfl)
        exact hx.wp_store (⟨11, 12, 61, #[.int .u32 0, .int .u32 0], #[.int .u32 cx.up, .int .u32 cx.dn]⟩ : Decl) (decl_mem _) h1 hA _ _ rfl rfl rfl (by kernel_rfl) rfl (by kernel_rfl) (hK 0 _ (hx.store (⟨11, 12, 61, #[.int .u32 0, .int .u32 0], #[.int .u32 cx.up, .int .u32 cx.dn]⟩ : Decl) (decl_mem _) hA (by rfl) (decl_st _) (decl_al _) 0))
      simp only [Act.put]
      refine Ghost.walk_nil (fun γ L w8 hall hD => ?_)
      obtain ⟨hd8, hr8, hb8⟩ := hD.done1 hall (by show 11 < 13; decide) (by show 12 < 13; decide)
      clear hall hD
      simp only [Nat.zero_add, Nat.reduceAdd] at hd8 hr8 ⊢
      generalize γ 11 = gc at *
      have HB8 := Lib.hid (HBR.out.make hr8 hb8)
      have l8_0 : gw < gc := by omega
      have l8_1 : w6.heap.size < gc := by omega
      have l8_2 : gs < gc := by omega
      have l8_3 : g0 < gc := by omega
      have lw8 : w6.heap.size ≤ gc := by have := HBR.out.below.size; omega
      clear hd8 hr8 hb8 HBR q0 q1 q2 q3
      have c0_0 : w8.cell? ⟨gc, 0, none⟩ = some (.int .u32 cx.up) := cell_of_row _ _ _ _ _ (0, 0) HB8.out.r0
      have c0_1 : w8.cell? ⟨gc, 1, none⟩ = some (.int .u32 cx.dn) := cell_of_row _ _ _ _ _ (0, 0) HB8.out.r0
      have c1_0 : w8.cell? ⟨gw, 0, none⟩ = some (.int .u32 wk.up) := cell_of_row _ _ _ _ _ (0, 0) HB8.out.r1
      have c1_1 : w8.cell? ⟨gw, 1, none⟩ = some (.int .u32 wk.dn) := cell_of_row _ _ _ _ _ (0, 0) HB8.out.r1
      have xk := HK0.out _ HB8.out.below
      by_cases h1 : x1 = 1
      · subst h1
        go_wp2_with fail
        refine (FU1.out _).mono ?_
        rintro e w9 ⟨rfl, hb9⟩
        have HB9 := Lib.hid (HB8.out.next hb9)
        clear c0_0 c0_1 c1_0 c1_1 hb9 HB8
        have c0_0 : w9.cell? ⟨gc, 0, none⟩ = some (.int .u32 cx.up) := cell_of_row _ _ _ _ _ (0, 0) HB9.out.r0
        have c0_1 : w9.cell? ⟨gc, 1, none⟩ = some (.int .u32 cx.dn) := cell_of_row _ _ _ _ _ (0, 0) HB9.out.r0
        have c1_0 : w9.cell? ⟨gw, 0, none⟩ = some (.int .u32 wk.up) := cell_of_row _ _ _ _ _ (0, 0) HB9.out.r1
        have c1_1 : w9.cell? ⟨gw, 1, none⟩ = some (.int .u32 wk.dn) := cell_of_row _ _ _ _ _ (0, 0) HB9.out.r1
        have xk2 := HK0.out _ HB9.out.below
        clear xk
        go_wp2_with (with_reducible show wpList _ _ _ (Oper.mk _ (.store 61 _ _) _ _ _ _ :: _) _ _; refine Hid.out ?_)
        refine Lib.hid ?_
        refine wpList_put rfl 61 _ _ rfl (gw) #[.int .u32 un.up, .int .u32 un.dn] _ 61 rfl rfl HB9.out.r1 (by kernel_rfl) rfl (by kernel_rfl) ?_
        intro w10 hr10 hg10
        have HB10 : Hid (Bx w6 [(gc, .cells #[.int .u32 cx.up, .int .u32 cx.dn] 61 (0, 0)), (gw, .cells #[.int .u32 un.up, .int .u32 un.dn] 61 (0, 0)), (w6.heap.size, .cells #[.slice y1 m.ph.length k1, .slice y2 m.fl.length k2, .slice y3 m.lv.length k3, .slice y4 m.en.length k4] 32 (0, 0)), (gs, .cells #[.string S, .string ⟨#[]⟩, .int .i64 0] 47 (0, 0)), (g0, .cells #[.int .i64 f, .int .i64 d, .int .i64 (6 * (X.length : Int) + 200), .int .i64 p, .float .f64 e1, .float .f64 e2, .float .f64 e3, .slice A cs.length cap] 26 (0, 0))] w10) := Lib.hid (HB9.out.put (by omega) hg10.out hr10.out (by simp only [List.mem_cons, List.not_mem_nil, or_false]; rintro p (rfl | rfl | rfl | rfl | rfl) <;> simp <;> omega))
        clear c0_0 c0_1 c1_0 c1_1 hr10 hg10 HB9
        have c0_0 : w10.cell? ⟨gc, 0, none⟩ = some (.int .u32 cx.up) := cell_of_row _ _ _ _ _ (0, 0) HB10.out.r0
        have c0_1 : w10.cell? ⟨gc, 1, none⟩ = some (.int .u32 cx.dn) := cell_of_row _ _ _ _ _ (0, 0) HB10.out.r0
        have c1_0 : w10.cell? ⟨gw, 0, none⟩ = some (.int .u32 un.up) := cell_of_row _ _ _ _ _ (0, 0) HB10.out.r1
        have c1_1 : w10.cell? ⟨gw, 1, none⟩ = some (.int .u32 un.dn) := cell_of_row _ _ _ _ _ (0, 0) HB10.out.r1
        have xk3 := HK0.out _ HB10.out.below
        clear xk2
        go_wp2_with fail
        go_roundw
        case rel => exact ⟨k + 1, by omega, by go_num, by rw [show WF (k + 1) = un by rw [HS1.out]; simp]; exact HB10.out.less (fun p hp => List.mem_cons_of_mem _ hp)⟩
        case measure => simp [intOf]; omega
      · by_cases h2 : x1 = 2
        · subst h2
          go_wp2_with fail
          refine (FM1.out _).mono ?_
          rintro e w9 ⟨rfl, hb9⟩
          have HB9 := Lib.hid (HB8.out.next hb9)
          clear c0_0 c0_1 c1_0 c1_1 hb9 HB8
          have c0_0 : w9.cell? ⟨gc, 0, none⟩ = some (.int .u32 cx.up) := cell_of_row _ _ _ _ _ (0, 0) HB9.out.r0
          have c0_1 : w9.cell? ⟨gc, 1, none⟩ = some (.int .u32 cx.dn) := cell_of_row _ _ _ _ _ (0, 0) HB9.out.r0
          have c1_0 : w9.cell? ⟨gw, 0, none⟩ = some (.int .u32 wk.up) := cell_of_row _ _ _ _ _ (0, 0) HB9.out.r1
          have c1_1 : w9.cell? ⟨gw, 1, none⟩ = some (.int .u32 wk.dn) := cell_of_row _ _ _ _ _ (0, 0) HB9.out.r1
          have xk2 := HK0.out _ HB9.out.below
          clear xk
          go_wp2_with (with_reducible show wpList _ _ _ (Oper.mk _ (.store 61 _ _) _ _ _ _ :: _) _ _; refine Hid.out ?_)
          refine Lib.hid ?_
          refine wpList_put rfl 61 _ _ rfl (gw) #[.int .u32 mi.up, .int .u32 mi.dn] _ 61 rfl rfl HB9.out.r1 (by kernel_rfl) rfl (by kernel_rfl) ?_
          intro w10 hr10 hg10
          have HB10 : Hid (Bx w6 [(gc, .cells #[.int .u32 cx.up, .int .u32 cx.dn] 61 (0, 0)), (gw, .cells #[.int .u32 mi.up, .int .u32 mi.dn] 61 (0, 0)), (w6.heap.size, .cells #[.slice y1 m.ph.length k1, .slice y2 m.fl.length k2, .slice y3 m.lv.length k3, .slice y4 m.en.length k4] 32 (0, 0)), (gs, .cells #[.string S, .string ⟨#[]⟩, .int .i64 0] 47 (0, 0)), (g0, .cells #[.int .i64 f, .int .i64 d, .int .i64 (6 * (X.length : Int) + 200), .int .i64 p, .float .f64 e1, .float .f64 e2, .float .f64 e3, .slice A cs.length cap] 26 (0, 0))] w10) := Lib.hid (HB9.out.put (by omega) hg10.out hr10.out (by simp only [List.mem_cons, List.not_mem_nil, or_false]; rintro p (rfl | rfl | rfl | rfl | rfl) <;> simp <;> omega))
          clear c0_0 c0_1 c1_0 c1_1 hr10 hg10 HB9
          have c0_0 : w10.cell? ⟨gc, 0, none⟩ = some (.int .u32 cx.up) := cell_of_row _ _ _ _ _ (0, 0) HB10.out.r0
          have c0_1 : w10.cell? ⟨gc, 1, none⟩ = some (.int .u32 cx.dn) := cell_of_row _ _ _ _ _ (0, 0) HB10.out.r0
          have c1_0 : w10.cell? ⟨gw, 0, none⟩ = some (.int .u32 mi.up) := cell_of_row _ _ _ _ _ (0, 0) HB10.out.r1
          have c1_1 : w10.cell? ⟨gw, 1, none⟩ = some (.int .u32 mi.dn) := cell_of_row _ _ _ _ _ (0, 0) HB10.out.r1
          go_wp2_with fail
          go_roundw
          case rel => exact ⟨k + 1, by omega, by go_num, by rw [show WF (k + 1) = mi by rw [HS1.out]; simp]; exact HB10.out.less (fun p hp => List.mem_cons_of_mem _ hp)⟩
          case measure => simp [intOf]; omega
        · have hn1 : (x1 == 1) = false := by simp [h1]
          have hn2 : (x1 == 2) = false := by simp [h2]
          go_wp2_with fail
          go_roundw
          case rel => exact ⟨k + 1, by omega, by go_num, by rw [show WF (k + 1) = wk by rw [HS1.out, if_neg h1, if_neg h2]]; exact HB8.out.less (fun p hp => List.mem_cons_of_mem _ hp)⟩
          case measure => simp [intOf]; omega
    · obtain rfl : k = X.length := by omega
      have hd : decide ((X.length : Int) < (X.length : Int)) = false := decide_eq_false (by omega)
      generalize WF X.length = wk at *
      have heq := fun wx => eqlCs wk.up wk.dn wk.up wk.dn wx
      simp only [beq_self_eq_true, Bool.and_self] at heq
      have hlen : ((m.en.length : Int) == (m.en.length : Int)) = true := by simp
      have FTX := Lib.hid (fun wx (h : Below w6.heap.size w6 wx) => FT.out y4 k4 wx (HEZ.out _ h))
      go_wp2_with fail
      refine Bag.region (fun wx => Below wr.heap.size wr wx) (by kernel_rfl) (by kernel_rfl) (Below.refl _ _).drew ?_
      iterate 17 (first
          | (apply Bag.walk_yes (by rfl)
             (intro wx hx K hK
              have HXx := HBR.out.next hx
              have z0_0 : wx.cell? ⟨gw, 0, none⟩ = some (.int .u32 wk.up) := cell_of_row _ _ _ _ _ (0, 0) HXx.r0
              have z0_1 : wx.cell? ⟨gw, 1, none⟩ = some (.int .u32 wk.dn) := cell_of_row _ _ _ _ _ (0, 0) HXx.r0
              have z1_0 : wx.cell? ⟨w6.heap.size, 0, none⟩ = some (.slice y1 m.ph.length k1) := cell_of_row _ _ _ _ _ (0, 0) HXx.r1
              have z1_1 : wx.cell? ⟨w6.heap.size, 1, none⟩ = some (.slice y2 m.fl.length k2) := cell_of_row _ _ _ _ _ (0, 0) HXx.r1
              have z1_2 : wx.cell? ⟨w6.heap.size, 2, none⟩ = some (.slice y3 m.lv.length k3) := cell_of_row _ _ _ _ _ (0, 0) HXx.r1
              have z1_3 : wx.cell? ⟨w6.heap.size, 3, none⟩ = some (.slice y4 m.en.length k4) := cell_of_row _ _ _ _ _ (0, 0) HXx.r1
              first
                | (go_simp
                   first
                    | (go_at_call 27; (with_reducible refine (FTX.out _ HXx.below).mono ?_); rintro e x1 ⟨rfl, hb⟩; exact hK _ (hx.trans (hb.mono hx.size)))
                    | (go_at_call 28; (with_reducible refine (FC.out _).mono ?_); rintro e x1 ⟨rfl, hb⟩; exact hK _ (hx.trans (hb.mono hx.size)))
                    | (go_at_call 14; (with_reducible refine (FS.out _).mono ?_); rintro e x1 ⟨rfl, hb⟩; exact hK _ (hx.trans (hb.mono hx.size)))
                    | (go_at_K; exact hK _ hx)))
             rfl)
          | (refine Bag.walk_no (by rfl) ?_; simp only [Act.put, List.setIfInBounds_toArray, List.set_cons_succ, List.set_cons_zero]))
      refine Bag.walk_nil (fun w8 hb8 => ?_)
      have HB8 := Lib.hid (HBR.out.next hb8)
      clear hb8 HBR
      go_wp2_with fail
      go_ret
      exact ⟨rfl, HBW6.out.trans (HB8.out.below.mono HBW6.out.size)⟩
end Go.Proofs.Ytmonbldmgmmnbaa
