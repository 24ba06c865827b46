/- The law FrameOne: a frame that is read is the frame of what was read. No condition. -/
import Derived.Test.YtefimobhjbeclaaCopyBytes
import Derived.ChangeSlices
namespace Go.Proofs.Ytefimobhjbeclaa
open Go.RowKit Frm Go.ChangeShapes Go.WideShapes Go.ChangeAt

set_option maxRecDepth 100000 in
set_option maxHeartbeats 4000000 in
theorem lawOne_walk (n : Nat) (v : Value) (ms : List UInt8) (w : World) (hn : n < 256) (hm : MBytes w v ms) :
    Calls Try.prog 6 #[.int .u8 n, v] w fun e w' => e = .returned (.bool true) ∧ Below w.heap.size w w' := by
  have hV := sample_valid ((2 + n % 31 : Nat) : Int) (1 + n / 31 % 8) (by omega) (by omega) (by omega) (by omega)
  have HM := Lib.hid (fun wx (h : Below w.heap.size w wx) => show MBytes wx v ms from hm.elim .inl (fun ⟨a, cap, h1, h2⟩ => .inr ⟨a, cap, h1, fun j hj => (h.cell (World.block_lt_of_cell? w _ (h2 j hj))).trans (h2 j hj)⟩))
  clear hm
  go_enter Try.func6, Try.ntmps6
  go_wp2_with fail
  refine (building_any n _ hn).mono ?_
  rintro e w1 ⟨hb1, A, cap, rfl, hcars⟩
  have hcl : (sampleD ((2 + n % 31 : Nat) : Int) (1 + n / 31 % 8)).cars = sampleCars ((2 + n % 31 : Nat) : Int) (1 + n / 31 % 8) := rfl
  rw [← hcl] at hcars
  generalize sampleD ((2 + n % 31 : Nat) : Int) (1 + n / 31 % 8) = x at *
  clear hcl
  have hF := fine_of hV
  have hC1 : 1 ≤ x.cars.length ∧ x.cars.length ≤ 8 := hF.cars
  have HC := Lib.hid hcars
  have HB1 := Lib.hid hb1
  have HV := Lib.hid hV
  obtain ⟨M, hM⟩ : ∃ M : Int, M = 14 + 19 * (x.cars.length : Int) := ⟨_, rfl⟩
  have hsi : sizeIn x = M := (if_pos hV).trans hM.symm
  have HSI := Lib.hid (fun wx (h : Below w1.heap.size w1 wx) => refSize_any x A cap wx (by omega) ((HC.out.below h).more h.size))
  rw [hsi] at HSI
  obtain ⟨N, hN⟩ : ∃ N : Nat, (N : Int) = M - 2 := ⟨(M - 2).toNat, by omega⟩
  have hsub : IntKind.i64.wrap (M - 2) = (N : Int) := by rw [← hN]; exact IntWalk.i64_in _ (by omega)
  have hN1 : 31 ≤ N ∧ N ≤ 1000 := by omega
  have hC8 : IntKind.u8.wrap (x.cars.length : Int) = (x.cars.length : Int) := by unfold IntKind.wrap; simp [IntKind.bits, IntKind.signed]; omega
  clear hcars hb1 hV hF hsi
  generalize sizeOut x = SO at HSI
  have HRD := Lib.hid (fun s wx (h : Below w1.heap.size w1 wx) (hs : s.size ≤ maxLen) => readInTop_any x A cap s wx (by omega) ((HC.out.below h).more h.size) hs)
  have HIN := Lib.hid (fun y A' cp wx (h : Below w1.heap.size w1 wx) (hn : y.cars.length ≤ 1000) (hy : saneIn y) (hv : CarsV wx A' y.cars) => in_any x A cap y A' cp wx (by omega) ((HC.out.below h).more h.size) hn hy hv)
  have HOP := Lib.hid (fun s (h1 : (s.size : Int) = M) (h2 : (bl s).take 2 = headL 165 x.cars.length) (h3 : openOk (bl s) = true) => show openOkIn x s from ⟨HV.out, h1.trans hM, h2, h3⟩)
  have HLE := Lib.hid (fun s => inOf_length x s)
  have H31 := Lib.hid (fun s code => ReadE_31 (x := x) (s := s) (code := code))
  have HRF := Lib.hid (fun s => read_frame (x := x) (s := s))
  obtain ⟨MK, hMK, hmk⟩ := make_bytes' N (by omega)
  have HMK := Lib.hid hMK
  clear hMK
  have HMD := Lib.hid hM
  have HND := Lib.hid hN
  clear hM hN
  obtain ⟨f, d, r, p, e1, e2, e3, cs⟩ := x
  simp only [BldD.agg] at *
  clear HV
  generalize (BldD.mk f d r p e1 e2 e3 cs) = x at HRD HIN HOP H31 HRF HLE
  go_wp2_with fail
  refine (HSI.out _ (by go_grown)).mono ?_
  rintro e w2 ⟨rfl, hb2⟩
  have hx2 : Below (w1.heap.size + 1) (w1.alloc (.cells #[.int .i64 f, .int .i64 d, .int .i64 r, .int .i64 p, .float .f64 e1, .float .f64 e2, .float .f64 e3, .slice A cs.length cap] 25)) w2 := hb2.mono (by simp)
  have HX2 := Lib.hid hx2
  have hz2 : w1.heap.size + 1 ≤ w2.heap.size := box_size hx2
  clear hb2 hx2
  have hm2 : MBytes w2 v ms := HM.out w2 (HB1.out.trans ((below_of_new HX2.out).mono HB1.out.size))
  obtain ⟨L, w3, k3, hcp, hL, hby, hb3, hz3⟩ := copy_bytes w2 N v ms 3 hm2
  rw [← HMK.out] at hcp
  have HBY := Lib.hid hby
  have HB3 := Lib.hid hb3
  have HL := Lib.hid hL
  clear hm2 hby hb3 hL
  go_wp2_with fail
  have hz21 : w1.heap.size < w2.heap.size := by omega
  have hx3 := HX2.out.trans (HB3.out.mono (box_size HX2.out))
  obtain ⟨-, -, -, -, -, -, -, -, b7⟩ := boxS hx3
  have HX3 := Lib.hid hx3
  clear hx3
  obtain ⟨c0, f0⟩ := HBY.out 0 (by rw [HL.out]; omega)
  obtain ⟨c1, f1⟩ := HBY.out 1 (by rw [HL.out]; omega)
  have q0 : 0 < N := by omega
  have q1 : 1 < N := by omega
  have hne : ¬ w1.heap.size = w2.heap.size := by omega
  have hne' : ¬ w2.heap.size = w1.heap.size := by omega
  have hg3 : w2.heap.size < w3.heap.size := by omega
  have hg1 : w1.heap.size < w3.heap.size := by omega
  go_region
  clear c0 c1 f0 f1 b7 hmk hcp hz3
  have hr3 : FlipRel w2 w2.heap.size L w3 := ⟨HBY.out, HB3.out, hg3⟩
  have hr4 : FlipRel w2 w2.heap.size ((L.set 0 165).set 1 (UInt8.ofNat cs.length)) ((w3.setCell ⟨w2.heap.size, 0, none⟩ (.int .u8 165)).setCell ⟨w2.heap.size, 1, none⟩ (.int .u8 cs.length)).drew := by
    have h1 := flipRel_set hr3 (j := 0) (by rw [HL.out]; exact q0) 165
    have h2 := flipRel_set h1 (j := 1) (by rw [List.length_set, HL.out]; exact q1) (UInt8.ofNat cs.length)
    have e : (UInt8.ofNat cs.length).toNat = cs.length := by simp; omega
    rw [e] at h2
    exact ⟨h2.1, h2.2.1.drew, h2.2.2⟩
  have hl4 : ((L.set 0 165).set 1 (UInt8.ofNat cs.length)).length = N := by rw [List.length_set, List.length_set, HL.out]
  have ht4 : (sealL ((L.set 0 165).set 1 (UInt8.ofNat cs.length))).take 2 = headL 165 cs.length := by
    have hL := HL.out
    match L, hL with
    | [], h => simp at h; omega
    | [a], h => simp at h; omega
    | a :: b :: r, _ => rfl
  clear hr3
  generalize (L.set 0 165).set 1 (UInt8.ofNat cs.length) = L4 at *
  generalize ((w3.setCell ⟨w2.heap.size, 0, none⟩ (.int .u8 165)).setCell ⟨w2.heap.size, 1, none⟩ (.int .u8 cs.length)).drew = w4 at *
  have HX4 := Lib.hid (HX2.out.trans (hr4.2.1.mono (box_size HX2.out)))
  have hconv := bytes_back (P := Try.prog) hr4.1 55 9 5 N N hl4.symm (by kernel_rfl) (by kernel_rfl) (by kernel_rfl)
  have hsz : (⟨(sealL L4).toArray⟩ : ByteArray).size = N + 2 := by
    show (sealL L4).toArray.size = _
    rw [List.size_toArray, sealL_length, hl4]
  have hopen := HOP.out ⟨(sealL L4).toArray⟩ (by rw [hsz]; have h := HND.out; push_cast; omega) ht4 (openOk_seal L4)
  have hsl : (⟨(sealL L4).toArray⟩ : ByteArray).size ≤ maxLen := by rw [hsz]; unfold maxLen; omega
  have HSE := Lib.hid (fun wx => refSeal_any ⟨L4.toArray⟩ wx (by show L4.toArray.size ≤ _; rw [List.size_toArray, hl4]; omega))
  rw [bytes_u] at HSE
  have HBL : Hid (bl ⟨(sealL L4).toArray⟩ = sealL L4) := bytes_u _
  generalize (⟨(sealL L4).toArray⟩ : ByteArray) = S at *
  have HOPEN := Lib.hid hopen
  have HSL := Lib.hid hsl
  clear hopen hsl hr4 ht4 hl4 hsz HBL
  go_wp2_with fail
  refine (HSE.out _).mono ?_
  rintro e w5 ⟨rfl, hb5⟩
  have hx5 := HX4.out.trans (hb5.mono (box_size HX4.out))
  clear hb5 hconv
  obtain ⟨-, b0, b1, b2, b3, b4, b5, b6, b7⟩ := boxS hx5
  have HX5 := Lib.hid hx5
  clear hx5
  go_wp2_with fail
  refine (HRD.out _ _ (below_of_new HX5.out) HSL.out).mono ?_
  clear b0 b1 b2 b3 b4 b5 b6 b7
  rintro e w6 ⟨hb6, ⟨ho6, hr6, gy, hcy, rfl⟩ | ⟨code, h6, hn6, rfl⟩⟩
  case inr =>
    obtain rfl := H31.out _ _ HOPEN.out h6
    have HX6 := Lib.hid (HX5.out.trans (hb6.mono (box_size HX5.out)))
    clear hb6 h6
    simp only [inAgg, zeroIn, List.length_nil]
    go_wp2_with (go_at_call 8; refine (frameSane_any _).mono ?_; rintro e w7 ⟨rfl, hb7⟩)
    go_ret
    have h67 := HX6.out.trans (((Below.refl w6.heap.size w6).alloc (Nat.le_refl _) (.cells #[.int .u32 ((0 : Nat) : Int), .int .u32 ((0 : Nat) : Int), .int .i64 0, .int .i64 0, .slice none 0 0] 33)).mono (box_size HX6.out))
    have h77 := h67.trans (hb7.mono (box_size h67))
    exact ⟨rfl, HB1.out.trans ((below_of_new h77).mono HB1.out.size)⟩
  obtain ⟨hok, htx, hsn⟩ := HRF.out S ho6 hr6
  have hle := HLE.out S
  generalize inOf x S = y at *
  have HOK := Lib.hid hok
  have HSN := Lib.hid hsn
  have HCY := Lib.hid hcy
  have HTX : Hid ((⟨(inText x y).toArray⟩ : ByteArray) = S) := by rw [htx]; exact bl_mk S
  have HLE' := Lib.hid hle
  have hx6 := HX5.out.trans (hb6.mono (box_size HX5.out))
  have hz6 : w1.heap.size < w6.heap.size := box_size hx6
  obtain ⟨-, g0, g1, g2, g3, g4, g5, g6, g7⟩ := boxS hx6
  have HX6 := Lib.hid hx6
  clear hok htx hsn hle ho6 hr6 hcy hb6 hx6
  have hpast : ∀ o j, (w6.alloc o).cell? ⟨w1.heap.size, j, none⟩ = w6.cell? ⟨w1.heap.size, j, none⟩ := fun o j => World.cell?_of_block (w := w6) (Below.heap_alloc w6 o w1.heap.size hz6)
  have p0 := fun o => (hpast o 0).trans g0
  have p1 := fun o => (hpast o 1).trans g1
  have p2 := fun o => (hpast o 2).trans g2
  have p3 := fun o => (hpast o 3).trans g3
  have p4 := fun o => (hpast o 4).trans g4
  have p5 := fun o => (hpast o 5).trans g5
  have p6 := fun o => (hpast o 6).trans g6
  have p7 := fun o => (hpast o 7).trans g7
  clear hpast g0 g1 g2 g3 g4 g5 g6 g7
  simp only [inAgg]
  go_wp2_with fail
  clear p0 p1 p2 p3 p4 p5 p6 p7
  have hb67 := (Below.refl w6.heap.size w6).alloc (Nat.le_refl _) (.cells #[.int .u32 y.pu, .int .u32 y.pd, .int .i64 y.kind, .int .i64 y.car, .slice (some ⟨gy, 0, none⟩) y.cars.length cs.length] 33)
  have HX7 := Lib.hid (HX6.out.trans (hb67.mono (box_size HX6.out)))
  have HI := HIN.out y (some ⟨gy, 0, none⟩) cs.length _ (below_of_new HX7.out) (by rw [HLE'.out]; omega) HSN.out (HCY.out.below hb67)
  rw [HTX.out] at HI
  refine HI.mono ?_
  clear HI hb67
  rintro e w8 ⟨hb8, ⟨-, rfl⟩ | ⟨h, rfl⟩⟩
  case inr => exact absurd HOK.out h
  have HX8 := Lib.hid (HX7.out.trans (hb8.mono (box_size HX7.out)))
  clear hb8 HX7 HCY HTX HLE' HSN HOK
  go_wp2_with (go_at_call 8; refine (frameSane_any _).mono ?_; rintro e w9 ⟨rfl, hb9⟩)
  go_ret
  have h99 := HX8.out.trans (hb9.mono (box_size HX8.out))
  exact ⟨rfl, HB1.out.trans ((below_of_new h99).mono HB1.out.size)⟩

theorem u8_nat {x : Int} (h : (Lit.int .u8 x).wf = true) : ∃ n : Nat, x = (n : Int) ∧ n < 256 := by
  simp [Lit.wf, IntKind.min, IntKind.max, IntKind.bits, IntKind.signed] at h
  exact ⟨x.toNat, by omega, by omega⟩

theorem open_mbytes {H : Type} {enc : TypeId × Value → H} {w : World} {base fuel : Nat} {spare : Nat → Bool} {held : Bool} {v : Value} {x : DataW H × List MemPlace}
    (h : DataW.trod enc Try.prog w base spare held fuel 55 [v] = some x) : ∃ ms, MBytes w v ms := by
  rcases open_ints Try.underlying55 Try.underlying5 (by kernel_rfl) h with ⟨hcs, _⟩ | ⟨a, len, cap, zs, hcs, _, hl, _, hz, _, hcell, hwf⟩
  · simp only [List.cons.injEq, and_true] at hcs
    exact ⟨[], .inl ⟨hcs, rfl⟩⟩
  · simp only [List.cons.injEq, and_true] at hcs
    subst hcs
    have hlz : len ≤ zs.length := by rw [hz]; split <;> omega
    have hlen : ((zs.take len).map fun z => UInt8.ofNat z.toNat).length = len := by rw [List.length_map, List.length_take]; omega
    refine ⟨(zs.take len).map fun z => UInt8.ofNat z.toNat, .inr ⟨a, cap, by rw [hlen], fun j hj => ?_⟩⟩
    rw [hlen] at hj
    have hjz : j < zs.length := by omega
    rw [hcell j hjz]
    have hgz : zs[j]? = some zs[j] := List.getElem?_eq_getElem hjz
    obtain ⟨n, hn, hn2⟩ := u8_nat (hwf zs[j] (List.getElem_mem hjz))
    have e1 : zs.getD j 0 = (n : Int) := by rw [List.getD_eq_getElem?_getD, hgz]; exact hn
    have e2 : ((zs.take len).map fun z => UInt8.ofNat z.toNat).getD j 0 = UInt8.ofNat n := by
      rw [List.getD_eq_getElem?_getD, List.getElem?_map, List.getElem?_take, if_pos hj, hgz, hn]
      rfl
    rw [e1, e2]
    have e3 : (UInt8.ofNat n).toNat = n := by simp; omega
    rw [e3]

set_option maxRecDepth 100000 in
theorem lawOne_lifted (os : Os) (started : os.Started) (H : Type) (enc : TypeId × Value → H) :
    ReturnsInHanded {} Try.checked os 6 .any (Rows.frameOneSpec.pre6 enc Try.prog Try.f6 Rows.frameOneRow.domain false) (Rows.frameOneSpec.post enc Try.prog Try.f6 false true false false) := by
  refine returnsInHanded_of_change (C := Try.checked) own started (by kernel_rfl) Try.func6
    (ChangeSpec.witness6 (enc := enc) (C := Try.checked) false ⟨#[], #[.int .u8 0, .slice none 0 0], []⟩ 8 (by kernel_rfl) (by kernel_rfl) (by kernel_rfl) (by kernel_rfl)) ?_
  intro W base args ds gs before hval0 hW hcnd _
  have hval : ∀ (j : Nat) t v, Try.f6.params[j]? = some t → args[j]? = some v → Value.okWide Try.prog W .any base t v := hval0
  have hW' := hW
  obtain ⟨p, q, hA0, hV, rfl, hfz, hnd⟩ := hW
  have hA : DataW.TrodAll enc Try.prog W 0 (fun _ => true) true Try.f6.params.toList args.toList ds p := hA0
  rw [Try.params6] at hA hval
  obtain ⟨v0, vs0, d0, ds0, p0, q0, hargs, rfl, rfl, h0, r0⟩ := trodAll_cons hA
  obtain ⟨v1, vs1, d1, ds1, p1, q1, rfl, rfl, rfl, h1, r1⟩ := trodAll_cons r0
  obtain ⟨rfl, rfl, rfl⟩ := trodAll_nil r1
  obtain rfl : args = #[v0, v1] := by cases args; simp_all
  obtain ⟨rfl, rfl⟩ := trodVars_none hV
  have k1 := h1
  have lt1 : ∀ x ∈ p1, x.block < W.heap.size := by obtain ⟨m, hm⟩ := k1; exact DataW.trod_lt m _ _ _ hm
  obtain ⟨x, rfl, rfl, rfl, g0⟩ := open_int Try.underlying5 (hval 0 5 v0 rfl rfl) h0
  obtain ⟨n, rfl, hn⟩ := u8_nat g0
  obtain ⟨a1, l1, c1, rfl⟩ := okWide_slice Try.underlying55 (hval 1 55 v1 rfl rfl)
  obtain ⟨fuel, hf1⟩ := h1
  obtain ⟨ms, hms⟩ := open_mbytes hf1
  clear hA0 hval0 hf1
  refine (lawOne_walk n _ ms W hn hms).mono fun e W' ⟨he, bel⟩ => ?_
  subst he
  exact ⟨_, rfl, _, _, _, [], _, [], hW', trodAll_mk1 (shut_bool Try.underlying4 _), (trodAll_cons_mk (shut_int Try.underlying5 g0) (trodAll_cons_mk (Below.trod laidOut (by kernel_rfl) (of_decide_eq_true (by kernel_rfl)) k1 bel lt1) trodAll_mk0)), rfl, bel.frame _, fun h => by cases h⟩

theorem lawOne_over : Rows.frameOneRow.holds Try.pinned (OpenSpec.ofChange Rows.frameOneSpec) :=
  OpenClaim.holds_of_wide 6 Try.f6 rfl rfl rfl rfl rfl rfl rfl ⟨rfl, rfl, rfl, rfl, rfl⟩ rfl rfl rfl rfl rfl (by kernel_rfl) Try.func6 (by kernel_rfl)
    (of_decide_eq_true (by kernel_rfl)) (by unfold Func.isWrapper; first | (rw [if_pos (by decide +kernel)]; kernel_rfl) | (rw [if_neg (by decide +kernel)]; exact ⟨rfl, rfl⟩))
    (fun os started H enc _ => lawOne_lifted os started H enc)

theorem frameOne_holds : Rows.FrameOneSaid := lawOne_over
#print axioms frameOne_holds
end Go.Proofs.Ytefimobhjbeclaa
