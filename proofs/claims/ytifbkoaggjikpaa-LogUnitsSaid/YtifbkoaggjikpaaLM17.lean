/- What the texts behind this one rest on: one text. No statement of the seat is proved here. -/
import Derived.Test.YtifbkoaggjikpaaLM16
import Derived.Test.YtifbkoaggjikpaaLM03
namespace Go.Proofs.Ytifbkoaggjikpaa
section
open Go.RowKit Ghost

theorem Lit.put5 {B b : Nat} {W1 wx : World} {a0 a1 a2 a3 a4 : Value} {t : TypeId} (h : Lit B W1 b (.cells #[a0, a1, a2, a3, a4] t (0, 0)) wx) (hb : B ≤ b) (v0 v1 v2 v3 v4 : Value) :
    Lit B W1 b (.cells #[v0, v1, v2, v3, v4] t (0, 0)) (((((wx.setCell ⟨b, 0, none⟩ v0).setCell ⟨b, 1, none⟩ v1).setCell ⟨b, 2, none⟩ v2).setCell ⟨b, 3, none⟩ v3).setCell ⟨b, 4, none⟩ v4) := by
  have g := ((((h.put hb 0 v0).put hb 1 v1).put hb 2 v2).put hb 3 v3).put hb 4 v4
  simp only [List.setIfInBounds_toArray, List.set_cons_succ, List.set_cons_zero] at g
  exact g
theorem resultsR {fn : Func} {p u : Tmp} (h : fn.results = #[.cell p 41, .tmp u]) (tmps : Array Value) (w1 : World) (b : Nat) (c0 c1 c2 c3 c4 m : Value)
    (hp : tmps.getD p undef = .pointer (some ⟨b, 0, none⟩)) (hu : tmps.getD u undef = m) (hr : w1.heap[b]? = some (.cells #[c0, c1, c2, c3, c4] 41 (0, 0))) :
    (results fn tmps).run Try.prog w1 = .ok (.tuple #[.agg #[c0, c1, c2, c3, c4], m]) w1 := by
  have hp' : tmps[p]?.getD undef = .pointer (some ⟨b, 0, none⟩) := by simpa using hp
  have hu' : tmps[u]?.getD undef = m := by simpa using hu
  have k0 : w1.cell? ⟨b, 0, none⟩ = some c0 := cell_of_row _ _ _ _ _ (0, 0) hr
  have k1 : w1.cell? ⟨b, 1, none⟩ = some c1 := cell_of_row _ _ _ _ _ (0, 0) hr
  have k2 : w1.cell? ⟨b, 2, none⟩ = some c2 := cell_of_row _ _ _ _ _ (0, 0) hr
  have k3 : w1.cell? ⟨b, 3, none⟩ = some c3 := cell_of_row _ _ _ _ _ (0, 0) hr
  have k4 : w1.cell? ⟨b, 4, none⟩ = some c4 := cell_of_row _ _ _ _ _ (0, 0) hr
  simp [results, h, hp', hu', go_sem, asAddr, k0, k1, k2, k3, k4]
theorem ret_dec {x y : Rc} {n m : Int} (h : x = y) (g : n = m) : Ending.returned (.tuple #[x.agg, .int .i64 n]) = .returned (.tuple #[y.agg, .int .i64 m]) := by rw [h, g]
theorem rowCells {wx : World} {g : Nat} {c0 c1 c2 c3 c4 : Value} {t : TypeId} (h : wx.heap[g]? = some (.cells #[c0, c1, c2, c3, c4] t (0, 0))) :
    (wx.cell? ⟨g, 0, none⟩ = some c0 ∧ wx.cell? ⟨g, 1, none⟩ = some c1 ∧ wx.cell? ⟨g, 2, none⟩ = some c2 ∧ wx.cell? ⟨g, 3, none⟩ = some c3 ∧ wx.cell? ⟨g, 4, none⟩ = some c4) ∧
      wx.frozen? ⟨g, 0, none⟩ = false ∧ wx.frozen? ⟨g, 1, none⟩ = false ∧ wx.frozen? ⟨g, 2, none⟩ = false ∧ wx.frozen? ⟨g, 3, none⟩ = false ∧ wx.frozen? ⟨g, 4, none⟩ = false :=
  ⟨⟨cell_of_row wx _ _ _ _ (0, 0) h, cell_of_row wx _ _ _ _ (0, 0) h, cell_of_row wx _ _ _ _ (0, 0) h, cell_of_row wx _ _ _ _ (0, 0) h, cell_of_row wx _ _ _ _ (0, 0) h⟩, frozen_of_row _ _ _ _ _ h, frozen_of_row _ _ _ _ _ h, frozen_of_row _ _ _ _ _ h, frozen_of_row _ _ _ _ _ h, frozen_of_row _ _ _ _ _ h⟩
/-- A string of six bytes, read byte by byte. -/
theorem ofL_ba (s : ByteArray) (h : s.size = 6) : (bl s).length = 6 ∧ ((bl s).getD 5 0).toNat = (s[5]'(by omega)).toNat ∧ bl (s.extract 0 5) = (bl s).take 5 ∧
    Rc.ofL (bl s) = ⟨(s[0]'(by omega)).toNat, (s[1]'(by omega)).toNat, (s[2]'(by omega)).toNat, ((s[3]'(by omega)).toNat : Int) - 2, (s[4]'(by omega)).toNat⟩ := by
  have hl : (bl s).length = 6 := by rw [bl_len]; exact h
  have hg : ∀ i (hi : i < s.size), (bl s).getD i 0 = s[i] := fun i hi => by
    have : i < (bl s).length := by rw [bl_len]; exact hi
    rw [List.getD_eq_getElem?_getD, List.getElem?_eq_getElem this]; rfl
  refine ⟨hl, by rw [hg 5 (by omega)], bl_take s 5, ?_⟩
  unfold Rc.ofL
  rw [hg 0 (by omega), hg 1 (by omega), hg 2 (by omega), hg 3 (by omega), hg 4 (by omega)]

set_option maxRecDepth 100000 in
set_option maxHeartbeats 4000000 in
theorem decode_any (b : BldD) (A : Option Addr) (cap : Nat) (s : ByteArray) (w : World) (hn : b.cars.length ≤ 140737488355328) (hc : CarsAt w w.heap.size A b.cars) (hs : s.size ≤ maxLen) :
    Calls Try.prog 76 #[b.agg A cap, .string s] w fun e w' => e = .returned (.tuple #[(Rc.decR b (bl s)).agg, .int .i64 (Rc.decE b (bl s))]) ∧ Below w.heap.size w w' := by
  have FV := Lib.hid (fun wx (h : Below w.heap.size w wx) => valid_any b A cap wx hn ((hc.below h).more h.size))
  have FR := Lib.hid (fun wx x (h : Below w.heap.size w wx) => valid9_any b A cap x wx hn ((hc.below h).more h.size))
  have HR0 := Lib.hid (fun h : ¬ Rc.decE b (bl s) = 0 => show Rc.decR b (bl s) = Rc.zero from if_neg h)
  clear hc
  by_cases hv : validE b = 0
  case neg =>
    have hE := Lib.hid (show Rc.decE b (bl s) = 1 by unfold Rc.decE; rw [if_pos hv])
    have hX := Lib.hid (show Rc.decR b (bl s) = Rc.zero ∧ Rc.decE b (bl s) = 1 from ⟨HR0.out (by rw [hE.out]; decide), hE.out⟩)
    clear HR0 hE
    have hne : (validE b != 0) = true := by simp [hv]
    generalize Rc.decE b (bl s) = E at *
    generalize Rc.decR b (bl s) = R at *
    obtain ⟨f, d, r, p, e1, e2, e3, cs⟩ := b
    generalize validE _ = V at *
    simp only [BldD.agg] at FV hn ⊢
    clear hv FR
    go_enter Try.func76, Try.ntmps76
    go_wp2_with fail
    refine (FV.out _ (by go_grown)).mono ?_
    rintro e w1 ⟨rfl, hb1⟩
    have hL := (Lit.two' w (.cells #[.int .i64 f, .int .i64 d, .int .i64 r, .int .i64 p, .float .f64 e1, .float .f64 e2, .float .f64 e3, .slice A cs.length cap] 26) (.cells #[.int .i64 0, .int .i64 0, .int .i64 0, .int .i64 0, .int .i64 0] 41)).next hb1
    have hsz := hL.size
    try simp at hsz
    obtain ⟨⟨z0, z1, z2, z3, z4⟩, f0, f1, f2, f3, f4⟩ := rowCells hL.row
    obtain ⟨c0, c1, c2, c3, c4, c5, c6, c7⟩ := boxRow ((hL.below.block w.heap.size (by omega)).trans (heap_alloc_new w _))
    have HL := Lib.hid hL
    have HE := Lib.hid (fun v0 v1 v2 v3 v4 => hL.put5 (Nat.le_refl _) v0 v1 v2 v3 v4)
    clear hL hb1
    go_wp2_with fail
    exact bodyPost_ret (resultsR Try.results76 _ _ _ _ _ _ _ _ _ rfl rfl (HE.out _ _ _ _ _).row) rfl ⟨ret_dec (x := Rc.zero) (n := 1) hX.out.1.symm hX.out.2.symm, below_of_new (HE.out _ _ _ _ _).below⟩
  rw [hv] at FV
  by_cases h6 : s.size = 6
  case neg =>
    have hE := Lib.hid (show Rc.decE b (bl s) = 4 by unfold Rc.decE; rw [if_neg (fun h => h hv), if_pos (by rw [bl_len]; exact h6)])
    have hX := Lib.hid (show Rc.decR b (bl s) = Rc.zero ∧ Rc.decE b (bl s) = 4 from ⟨HR0.out (by rw [hE.out]; decide), hE.out⟩)
    clear HR0 hE hv
    have hne : ((s.size : Int) != 6) = true := by simp; omega
    generalize Rc.decE b (bl s) = E at *
    generalize Rc.decR b (bl s) = R at *
    obtain ⟨f, d, r, p, e1, e2, e3, cs⟩ := b
    simp only [BldD.agg] at FV hn ⊢
    clear FR
    go_enter Try.func76, Try.ntmps76
    go_wp2_with fail
    refine (FV.out _ (by go_grown)).mono ?_
    rintro e w1 ⟨rfl, hb1⟩
    have hL := (Lit.two' w (.cells #[.int .i64 f, .int .i64 d, .int .i64 r, .int .i64 p, .float .f64 e1, .float .f64 e2, .float .f64 e3, .slice A cs.length cap] 26) (.cells #[.int .i64 0, .int .i64 0, .int .i64 0, .int .i64 0, .int .i64 0] 41)).next hb1
    have hsz := hL.size
    try simp at hsz
    obtain ⟨⟨z0, z1, z2, z3, z4⟩, f0, f1, f2, f3, f4⟩ := rowCells hL.row
    obtain ⟨c0, c1, c2, c3, c4, c5, c6, c7⟩ := boxRow ((hL.below.block w.heap.size (by omega)).trans (heap_alloc_new w _))
    have HL := Lib.hid hL
    have HE := Lib.hid (fun v0 v1 v2 v3 v4 => hL.put5 (Nat.le_refl _) v0 v1 v2 v3 v4)
    clear hL hb1
    go_wp2_with fail
    exact bodyPost_ret (resultsR Try.results76 _ _ _ _ _ _ _ _ _ rfl rfl (HE.out _ _ _ _ _).row) rfl ⟨ret_dec (x := Rc.zero) (n := 4) hX.out.1.symm hX.out.2.symm, below_of_new (HE.out _ _ _ _ _).below⟩
  have hne : ((s.size : Int) != 6) = false := by simp; omega
  obtain ⟨hl6, hg5, ht5, hof⟩ := ofL_ba s h6
  have FS := Lib.hid (fun wx => sum8_any (s.extract 0 5) wx (by simp; omega))
  simp only [ht5] at FS
  have hd : Rc.decE b (bl s) = if ¬ (s[5]'(by omega)).toNat = sum8 ((bl s).take 5) then 5 else if Rc.okB b (Rc.ofL (bl s)) then 0 else 9 := by
    unfold Rc.decE
    rw [if_neg (fun h => h hv), if_neg (fun h => h hl6), hg5]
  have hR1 := Lib.hid (fun h : Rc.decE b (bl s) = 0 => show Rc.decR b (bl s) = Rc.ofL (bl s) from if_pos h)
  have HD := Lib.hid hd
  have HOF := Lib.hid hof
  have i0 : 0 < s.size := by omega
  have i1 : 1 < s.size := by omega
  have i2 : 2 < s.size := by omega
  have i3 : 3 < s.size := by omega
  have i4 : 4 < s.size := by omega
  have i5 : 5 < s.size := by omega
  obtain ⟨SM, hSM⟩ : ∃ n, n = sum8 ((bl s).take 5) := ⟨_, rfl⟩
  rw [← hSM] at FS
  simp only [← hSM] at HD
  clear hl6 hg5 ht5 hof hd hv
  generalize Rc.ofL (bl s) = X at *
  generalize Rc.decE b (bl s) = E at *
  generalize Rc.decR b (bl s) = R at *
  clear hSM
  have h05 : (s[5]'i5).toNat < 256 := UInt8.toNat_lt _
  by_cases hsum : (s[5]'i5).toNat = SM
  case neg =>
    have hX := Lib.hid (show R = Rc.zero ∧ E = 5 from by have h5 : E = 5 := by { rw [HD.out, if_pos hsum] }; exact ⟨HR0.out (by rw [h5]; decide), h5⟩)
    have hcmp : (((s[5]'i5).toNat : Int) != SM) = true := by simp; omega
    clear HR0 HD hR1 HOF
    obtain ⟨f, d, r, p, e1, e2, e3, cs⟩ := b
    simp only [BldD.agg] at FV hn ⊢
    clear FR
    go_enter Try.func76, Try.ntmps76
    go_wp2_with fail
    refine (FV.out _ (by go_grown)).mono ?_
    rintro e w1 ⟨rfl, hb1⟩
    have hL := (Lit.two' w (.cells #[.int .i64 f, .int .i64 d, .int .i64 r, .int .i64 p, .float .f64 e1, .float .f64 e2, .float .f64 e3, .slice A cs.length cap] 26) (.cells #[.int .i64 0, .int .i64 0, .int .i64 0, .int .i64 0, .int .i64 0] 41)).next hb1
    have hsz := hL.size
    try simp at hsz
    obtain ⟨⟨z0, z1, z2, z3, z4⟩, f0, f1, f2, f3, f4⟩ := rowCells hL.row
    obtain ⟨c0, c1, c2, c3, c4, c5, c6, c7⟩ := boxRow ((hL.below.block w.heap.size (by omega)).trans (heap_alloc_new w _))
    have HL := Lib.hid hL
    have HE := Lib.hid (fun v0 v1 v2 v3 v4 => hL.put5 (Nat.le_refl _) v0 v1 v2 v3 v4)
    clear hL hb1
    go_wp2_with fail
    refine Bag.region (fun wx => Lit (w.heap.size + 1) (w.alloc (.cells #[.int .i64 f, .int .i64 d, .int .i64 r, .int .i64 p, .float .f64 e1, .float .f64 e2, .float .f64 e3, .slice A cs.length cap] 26)) (w.heap.size + 1) (.cells #[.int .i64 0, .int .i64 0, .int .i64 0, .int .i64 0, .int .i64 0] 41 (0, 0)) wx) (by kernel_rfl) (by kernel_rfl) (HL.out.next ((Below.refl _ _).drew)) ?_
    iterate 7 (first
        | (apply Bag.walk_yes (by rfl)
           (intro wx hx K hK
            first
              | (go_simp
                 first
                  | (go_at_call 100; refine (FS.out _).mono ?_; rintro e x1 ⟨rfl, rfl⟩; exact hK _ hx)
                  | (go_at_K; exact hK _ hx)))
           rfl)
        | (refine Bag.walk_no (by rfl) ?_; simp only [Act.put, List.setIfInBounds_toArray, List.set_cons_succ, List.set_cons_zero]))
    refine Bag.walk_nil (fun w2 hx => ?_)
    clear HL HE c0 c1 c2 c3 c4 c5 c6 c7 z0 z1 z2 z3 z4 f0 f1 f2 f3 f4
    have hsz2 := hx.size
    try simp at hsz2
    obtain ⟨⟨z0, z1, z2, z3, z4⟩, f0, f1, f2, f3, f4⟩ := rowCells hx.row
    obtain ⟨c0, c1, c2, c3, c4, c5, c6, c7⟩ := boxRow ((hx.below.block w.heap.size (by simp)).trans (heap_alloc_new w _))
    have HL := Lib.hid hx
    have HE := Lib.hid (fun v0 v1 v2 v3 v4 => hx.put5 (Nat.le_refl _) v0 v1 v2 v3 v4)
    clear hx
    go_wp2_with fail
    exact bodyPost_ret (resultsR Try.results76 _ _ _ _ _ _ _ _ _ rfl rfl (HE.out _ _ _ _ _).row) rfl ⟨ret_dec (x := Rc.zero) (n := 5) hX.out.1.symm hX.out.2.symm, below_of_new (HE.out _ _ _ _ _).below⟩
  have hcmp : (((s[5]'i5).toNat : Int) != SM) = false := by simp; omega
  have HD := Lib.hid (HD.out.trans (if_neg (fun h => h hsum)))
  clear hsum
  obtain ⟨f, d, r, p, e1, e2, e3, cs⟩ := b
  simp only [BldD.agg] at FV FR hn ⊢
  have FX := Lib.hid (fun wx (h : Below w.heap.size w wx) => FR.out wx X h)
  clear FR
  cases hok : Rc.okB _ X
  · have hX := Lib.hid (show R = Rc.zero ∧ E = 9 from by have h5 : E = 9 := by { rw [HD.out, hok]; rfl }; exact ⟨HR0.out (by rw [h5]; decide), h5⟩)
    rw [hok] at FX
    clear HR0 HD hR1 hok
    rw [HOF.out] at FX
    simp only [Rc.agg] at FX
    go_enter Try.func76, Try.ntmps76
    go_wp2_with fail
    refine (FV.out _ (by go_grown)).mono ?_
    rintro e w1 ⟨rfl, hb1⟩
    have hL := (Lit.two' w (.cells #[.int .i64 f, .int .i64 d, .int .i64 r, .int .i64 p, .float .f64 e1, .float .f64 e2, .float .f64 e3, .slice A cs.length cap] 26) (.cells #[.int .i64 0, .int .i64 0, .int .i64 0, .int .i64 0, .int .i64 0] 41)).next hb1
    have hsz := hL.size
    try simp at hsz
    obtain ⟨⟨z0, z1, z2, z3, z4⟩, f0, f1, f2, f3, f4⟩ := rowCells hL.row
    obtain ⟨c0, c1, c2, c3, c4, c5, c6, c7⟩ := boxRow ((hL.below.block w.heap.size (by omega)).trans (heap_alloc_new w _))
    have HL := Lib.hid hL
    have HE := Lib.hid (fun v0 v1 v2 v3 v4 => hL.put5 (Nat.le_refl _) v0 v1 v2 v3 v4)
    clear hL hb1
    go_wp2_with fail
    refine Bag.region (fun wx => Lit (w.heap.size + 1) (w.alloc (.cells #[.int .i64 f, .int .i64 d, .int .i64 r, .int .i64 p, .float .f64 e1, .float .f64 e2, .float .f64 e3, .slice A cs.length cap] 26)) (w.heap.size + 1) (.cells #[.int .i64 0, .int .i64 0, .int .i64 0, .int .i64 0, .int .i64 0] 41 (0, 0)) wx) (by kernel_rfl) (by kernel_rfl) (HL.out.next ((Below.refl _ _).drew)) ?_
    iterate 7 (first
        | (apply Bag.walk_yes (by rfl)
           (intro wx hx K hK
            first
              | (go_simp
                 first
                  | (go_at_call 100; refine (FS.out _).mono ?_; rintro e x1 ⟨rfl, rfl⟩; exact hK _ hx)
                  | (go_at_K; exact hK _ hx)))
           rfl)
        | (refine Bag.walk_no (by rfl) ?_; simp only [Act.put, List.setIfInBounds_toArray, List.set_cons_succ, List.set_cons_zero]))
    refine Bag.walk_nil (fun w2 hx => ?_)
    clear HL HE c0 c1 c2 c3 c4 c5 c6 c7 z0 z1 z2 z3 z4 f0 f1 f2 f3 f4
    have hsz2 := hx.size
    try simp at hsz2
    obtain ⟨⟨z0, z1, z2, z3, z4⟩, f0, f1, f2, f3, f4⟩ := rowCells hx.row
    obtain ⟨c0, c1, c2, c3, c4, c5, c6, c7⟩ := boxRow ((hx.below.block w.heap.size (by simp)).trans (heap_alloc_new w _))
    have HL := Lib.hid hx
    have HE := Lib.hid (fun v0 v1 v2 v3 v4 => hx.put5 (Nat.le_refl _) v0 v1 v2 v3 v4)
    clear hx
    go_wp2_with fail
    have b0 : (s[0]'i0).toNat < 256 := UInt8.toNat_lt _
    have b1 : (s[1]'i1).toNat < 256 := UInt8.toNat_lt _
    have b2 : (s[2]'i2).toNat < 256 := UInt8.toNat_lt _
    have b3 : (s[3]'i3).toNat < 256 := UInt8.toNat_lt _
    have b4 : (s[4]'i4).toNat < 256 := UInt8.toNat_lt _
    have v0 : IntKind.i64.wrap ((s[0]'i0).toNat : Int) = ((s[0]'i0).toNat : Int) := IntWalk.i64_in _ (by omega)
    have v1 : IntKind.i64.wrap ((s[1]'i1).toNat : Int) = ((s[1]'i1).toNat : Int) := IntWalk.i64_in _ (by omega)
    have v2 : IntKind.i64.wrap ((s[2]'i2).toNat : Int) = ((s[2]'i2).toNat : Int) := IntWalk.i64_in _ (by omega)
    have v3 : IntKind.i64.wrap ((s[3]'i3).toNat : Int) = ((s[3]'i3).toNat : Int) := IntWalk.i64_in _ (by omega)
    have v4 : IntKind.i64.wrap ((s[4]'i4).toNat : Int) = ((s[4]'i4).toNat : Int) := IntWalk.i64_in _ (by omega)
    have v5 : IntKind.i64.wrap (((s[3]'i3).toNat : Int) - 2) = ((s[3]'i3).toNat : Int) - 2 := IntWalk.i64_in _ (by omega)
    refine Ghost.ghost (fun γ L wx => Decls (w2).heap.size (w2) [(⟨17, 18, 41, #[.int .i64 0, .int .i64 0, .int .i64 0, .int .i64 0, .int .i64 0], #[.int .i64 ((s[0]'i0).toNat : Int), .int .i64 ((s[1]'i1).toNat : Int), .int .i64 ((s[2]'i2).toNat : Int), .int .i64 (((s[3]'i3).toNat : Int) - 2), .int .i64 ((s[4]'i4).toNat : Int)]⟩ : Decl)] γ L wx) (by kernel_rfl) (by kernel_rfl) (fun γ => Decls.start _ γ (Below.refl _ _).drew (Nat.le_refl _)) ?_
    apply Ghost.walk_const (fun γ => by rfl)
    · intro γ L wx h1 h2 hx K hK
      have HK2 := Lib.hid hK
      have HX := Lib.hid hx
      clear hK h1 h2 hx
      go_simp
      first
        | exact HK2.out _ (HX.out.quiet 0 (by rfl) (Below.refl _ _))
    simp only [Act.put, List.setIfInBounds_toArray, List.set_cons_succ, List.set_cons_zero]
    apply Ghost.walk_const (fun γ => by rfl)
    · intro γ L wx h1 h2 hx K hK
      have HK2 := Lib.hid hK
      have HX := Lib.hid hx
      clear hK h1 h2 hx
      go_simp
      first
        | exact HK2.out _ (HX.out.quiet 0 (by rfl) (Below.refl _ _))
    simp only [Act.put, List.setIfInBounds_toArray, List.set_cons_succ, List.set_cons_zero]
    apply Ghost.walk_const (fun γ => by rfl)
    · intro γ L wx h1 h2 hx K hK
      have HK2 := Lib.hid hK
      have HX := Lib.hid hx
      clear hK h1 h2 hx
      go_simp
      first
        | exact HK2.out _ (HX.out.quiet 0 (by rfl) (Below.refl _ _))
    simp only [Act.put, List.setIfInBounds_toArray, List.set_cons_succ, List.set_cons_zero]
    apply Ghost.walk_const (fun γ => by rfl)
    · intro γ L wx h1 h2 hx K hK
      have HK2 := Lib.hid hK
      have HX := Lib.hid hx
      clear hK h1 h2 hx
      go_simp
      first
        | exact HK2.out _ (HX.out.quiet 0 (by rfl) (Below.refl _ _))
    simp only [Act.put, List.setIfInBounds_toArray, List.set_cons_succ, List.set_cons_zero]
    apply Ghost.walk_const (fun γ => by rfl)
    · intro γ L wx h1 h2 hx K hK
      have HK2 := Lib.hid hK
      have HX := Lib.hid hx
      clear hK h1 h2 hx
      go_simp
      first
        | exact HK2.out _ (HX.out.quiet 0 (by rfl) (Below.refl _ _))
    simp only [Act.put, List.setIfInBounds_toArray, List.set_cons_succ, List.set_cons_zero]
    apply Ghost.walk_const (fun γ => by rfl)
    · intro γ L wx h1 h2 hx K hK
      have HK2 := Lib.hid hK
      have HX := Lib.hid hx
      clear hK h1 h2 hx
      go_simp
      first
        | exact HK2.out _ (HX.out.quiet 0 (by rfl) (Below.refl _ _))
    simp only [Act.put, List.setIfInBounds_toArray, List.set_cons_succ, List.set_cons_zero]
    apply Ghost.walk_const (fun γ => by rfl)
    · intro γ L wx h1 h2 hx K hK
      have HK2 := Lib.hid hK
      have HX := Lib.hid hx
      clear hK h1 h2 hx
      go_simp
      first
        | exact HK2.out _ (HX.out.quiet 0 (by rfl) (Below.refl _ _))
    simp only [Act.put, List.setIfInBounds_toArray, List.set_cons_succ, List.set_cons_zero]
    apply Ghost.walk_const (fun γ => by rfl)
    · intro γ L wx h1 h2 hx K hK
      have HK2 := Lib.hid hK
      have HX := Lib.hid hx
      clear hK h1 h2 hx
      go_simp
      first
        | exact HK2.out _ (HX.out.quiet 0 (by rfl) (Below.refl _ _))
    simp only [Act.put, List.setIfInBounds_toArray, List.set_cons_succ, List.set_cons_zero]
    apply Ghost.walk_const (fun γ => by rfl)
    · intro γ L wx h1 h2 hx K hK
      have HK2 := Lib.hid hK
      have HX := Lib.hid hx
      clear hK h1 h2 hx
      go_simp
      first
        | exact HK2.out _ (HX.out.quiet 0 (by rfl) (Below.refl _ _))
    simp only [Act.put, List.setIfInBounds_toArray, List.set_cons_succ, List.set_cons_zero]
    apply Ghost.walk_const (fun γ => by rfl)
    · intro γ L wx h1 h2 hx K hK
      have HK2 := Lib.hid hK
      have HX := Lib.hid hx
      clear hK h1 h2 hx
      go_simp
      first
        | exact HK2.out _ (HX.out.quiet 0 (by rfl) (Below.refl _ _))
    simp only [Act.put, List.setIfInBounds_toArray, List.set_cons_succ, List.set_cons_zero]
    apply Ghost.walk_const (fun γ => by rfl)
    · intro γ L wx h1 h2 hx K hK
      have HK2 := Lib.hid hK
      have HX := Lib.hid hx
      clear hK h1 h2 hx
      go_simp
      first
        | exact HK2.out _ (HX.out.quiet 0 (by rfl) (Below.refl _ _))
    simp only [Act.put, List.setIfInBounds_toArray, List.set_cons_succ, List.set_cons_zero]
    apply Ghost.walk_const (fun γ => by rfl)
    · intro γ L wx h1 h2 hx K hK
      have HK2 := Lib.hid hK
      have HX := Lib.hid hx
      clear hK h1 h2 hx
      go_simp
      first
        | exact HK2.out _ (HX.out.quiet 0 (by rfl) (Below.refl _ _))
    simp only [Act.put, List.setIfInBounds_toArray, List.set_cons_succ, List.set_cons_zero]
    apply Ghost.walk_const (fun γ => by rfl)
    · intro γ L wx h1 h2 hx K hK
      have HK2 := Lib.hid hK
      have HX := Lib.hid hx
      clear hK h1 h2 hx
      go_simp
      first
        | exact HK2.out _ (HX.out.quiet 0 (by rfl) (Below.refl _ _))
    simp only [Act.put, List.setIfInBounds_toArray, List.set_cons_succ, List.set_cons_zero]
    apply Ghost.walk_const (fun γ => by rfl)
    · intro γ L wx h1 h2 hx K hK
      have HK2 := Lib.hid hK
      have HX := Lib.hid hx
      clear hK h1 h2 hx
      go_simp
      first
        | exact HK2.out _ (HX.out.quiet 0 (by rfl) (Below.refl _ _))
    simp only [Act.put, List.setIfInBounds_toArray, List.set_cons_succ, List.set_cons_zero]
    apply Ghost.walk_const (fun γ => by rfl)
    · intro γ L wx h1 h2 hx K hK
      have HK2 := Lib.hid hK
      have HX := Lib.hid hx
      clear hK h1 h2 hx
      go_simp
      first
        | exact HK2.out _ (HX.out.quiet 0 (by rfl) (Below.refl _ _))
    simp only [Act.put, List.setIfInBounds_toArray, List.set_cons_succ, List.set_cons_zero]
    apply Ghost.walk_const (fun γ => by rfl)
    · intro γ L wx h1 h2 hx K hK
      have HK2 := Lib.hid hK
      have HX := Lib.hid hx
      clear hK h1 h2 hx
      go_simp
      first
        | exact HK2.out _ (HX.out.quiet 0 (by rfl) (Below.refl _ _))
    simp only [Act.put, List.setIfInBounds_toArray, List.set_cons_succ, List.set_cons_zero]
    apply Ghost.walk_const (fun γ => by rfl)
    · intro γ L wx h1 h2 hx K hK
      have HK2 := Lib.hid hK
      have HX := Lib.hid hx
      clear hK h1 h2 hx
      go_simp
      first
        | exact HK2.out _ (HX.out.quiet 0 (by rfl) (Below.refl _ _))
    simp only [Act.put, List.setIfInBounds_toArray, List.set_cons_succ, List.set_cons_zero]
    refine Ghost.walk_yes (fun b => .pointer (some ⟨b, 0, none⟩)) (fun γ => by rfl) ?_ ?_
    · intro γ L wx h1 h2 hx K hK
      have HK2 := Lib.hid hK
      clear hK h2
      have hL : L (⟨17, 18, 41, #[.int .i64 0, .int .i64 0, .int .i64 0, .int .i64 0, .int .i64 0], #[.int .i64 ((s[0]'i0).toNat : Int), .int .i64 ((s[1]'i1).toNat : Int), .int .i64 ((s[2]'i2).toNat : Int), .int .i64 (((s[3]'i3).toNat : Int) - 2), .int .i64 ((s[4]'i4).toNat : Int)]⟩ : Decl).al = false := h1
      clear h1
      go_simp
      exact HK2.out wx.heap.size _ (hx.alloc (⟨17, 18, 41, #[.int .i64 0, .int .i64 0, .int .i64 0, .int .i64 0, .int .i64 0], #[.int .i64 ((s[0]'i0).toNat : Int), .int .i64 ((s[1]'i1).toNat : Int), .int .i64 ((s[2]'i2).toNat : Int), .int .i64 (((s[3]'i3).toNat : Int) - 2), .int .i64 ((s[4]'i4).toNat : Int)]⟩ : Decl) (decl_mem _) hL (by rfl) (decl_al _))
    simp only [Act.put, List.setIfInBounds_toArray, List.set_cons_succ, List.set_cons_zero]
    refine Ghost.walk_yes (fun _ => undef) (fun γ => by rfl) ?_ ?_
    · intro γ L wx h1 h2 hx K hK
      have hA : L (⟨17, 18, 41, #[.int .i64 0, .int .i64 0, .int .i64 0, .int .i64 0, .int .i64 0], #[.int .i64 ((s[0]'i0).toNat : Int), .int .i64 ((s[1]'i1).toNat : Int), .int .i64 ((s[2]'i2).toNat : Int), .int .i64 (((s[3]'i3).toNat : Int) - 2), .int .i64 ((s[4]'i4).toNat : Int)]⟩ : Decl).al = true := h2 17 (by kernel_rfl)
      exact hx.wp_store (⟨17, 18, 41, #[.int .i64 0, .int .i64 0, .int .i64 0, .int .i64 0, .int .i64 0], #[.int .i64 ((s[0]'i0).toNat : Int), .int .i64 ((s[1]'i1).toNat : Int), .int .i64 ((s[2]'i2).toNat : Int), .int .i64 (((s[3]'i3).toNat : Int) - 2), .int .i64 ((s[4]'i4).toNat : Int)]⟩ : Decl) (decl_mem _) h1 hA _ _ rfl rfl rfl (by kernel_rfl) rfl (by kernel_rfl) (hK 0 _ (hx.store (⟨17, 18, 41, #[.int .i64 0, .int .i64 0, .int .i64 0, .int .i64 0, .int .i64 0], #[.int .i64 ((s[0]'i0).toNat : Int), .int .i64 ((s[1]'i1).toNat : Int), .int .i64 ((s[2]'i2).toNat : Int), .int .i64 (((s[3]'i3).toNat : Int) - 2), .int .i64 ((s[4]'i4).toNat : Int)]⟩ : Decl) (decl_mem _) hA (by rfl) (decl_st _) (decl_al _) 0))
    simp only [Act.put]
    refine Ghost.walk_nil (fun γ L w3 hall hD => ?_)
    obtain ⟨hg1, hg2, hb3⟩ := hD.done1 hall (by show 17 < 19; decide) (by show 18 < 19; decide)
    clear hall hD
    simp only [Nat.zero_add, Nat.reduceAdd] at hg1 hg2 ⊢
    generalize γ 17 = g at *
    clear v0 v1 v2 v3 v4 v5
    have hLx := HL.out.next hb3
    clear HL HE c0 c1 c2 c3 c4 c5 c6 c7 z0 z1 z2 z3 z4 f0 f1 f2 f3 f4
    have hsz3 := hLx.size
    try simp at hsz3
    obtain ⟨⟨z0, z1, z2, z3, z4⟩, f0, f1, f2, f3, f4⟩ := rowCells hLx.row
    obtain ⟨⟨g0, g1, g2, g3, g4⟩, -⟩ := rowCells hg2
    obtain ⟨c0, c1, c2, c3, c4, c5, c6, c7⟩ := boxRow ((hLx.below.block w.heap.size (by simp)).trans (heap_alloc_new w _))
    have HL := Lib.hid hLx
    clear hLx
    go_wp2_with fail
    refine (FX.out _ (below_of_new HL.out.below)).mono ?_
    rintro e w4 ⟨rfl, hb4⟩
    have hLx := HL.out.next hb4
    have hgl : g < w3.heap.size := (Array.getElem?_eq_some_iff.1 hg2).1
    have hg4 := (hb4.block g hgl).trans hg2
    clear HL c0 c1 c2 c3 c4 c5 c6 c7 z0 z1 z2 z3 z4 f0 f1 f2 f3 f4 g0 g1 g2 g3 g4
    obtain ⟨⟨z0, z1, z2, z3, z4⟩, f0, f1, f2, f3, f4⟩ := rowCells hLx.row
    obtain ⟨⟨g0, g1, g2, g3, g4⟩, -⟩ := rowCells hg4
    have HL := Lib.hid hLx
    have HE := Lib.hid (fun v0 v1 v2 v3 v4 => hLx.put5 (Nat.le_refl _) v0 v1 v2 v3 v4)
    clear hLx hb3 hb4 hg1 hg2 hg4
    go_wp2_with fail
    exact bodyPost_ret (resultsR Try.results76 _ _ _ _ _ _ _ _ _ rfl rfl (HE.out _ _ _ _ _).row) rfl ⟨ret_dec (x := Rc.zero) (n := 9) hX.out.1.symm hX.out.2.symm, below_of_new (HE.out _ _ _ _ _).below⟩
  · have hX := Lib.hid (show R = X ∧ E = 0 from by have h5 : E = 0 := by { rw [HD.out, hok]; rfl }; exact ⟨hR1.out h5, h5⟩)
    rw [hok] at FX
    clear HR0 HD hR1 hok
    rw [HOF.out] at FX
    simp only [Rc.agg] at FX
    go_enter Try.func76, Try.ntmps76
    go_wp2_with fail
    refine (FV.out _ (by go_grown)).mono ?_
    rintro e w1 ⟨rfl, hb1⟩
    have hL := (Lit.two' w (.cells #[.int .i64 f, .int .i64 d, .int .i64 r, .int .i64 p, .float .f64 e1, .float .f64 e2, .float .f64 e3, .slice A cs.length cap] 26) (.cells #[.int .i64 0, .int .i64 0, .int .i64 0, .int .i64 0, .int .i64 0] 41)).next hb1
    have hsz := hL.size
    try simp at hsz
    obtain ⟨⟨z0, z1, z2, z3, z4⟩, f0, f1, f2, f3, f4⟩ := rowCells hL.row
    obtain ⟨c0, c1, c2, c3, c4, c5, c6, c7⟩ := boxRow ((hL.below.block w.heap.size (by omega)).trans (heap_alloc_new w _))
    have HL := Lib.hid hL
    have HE := Lib.hid (fun v0 v1 v2 v3 v4 => hL.put5 (Nat.le_refl _) v0 v1 v2 v3 v4)
    clear hL hb1
    go_wp2_with fail
    refine Bag.region (fun wx => Lit (w.heap.size + 1) (w.alloc (.cells #[.int .i64 f, .int .i64 d, .int .i64 r, .int .i64 p, .float .f64 e1, .float .f64 e2, .float .f64 e3, .slice A cs.length cap] 26)) (w.heap.size + 1) (.cells #[.int .i64 0, .int .i64 0, .int .i64 0, .int .i64 0, .int .i64 0] 41 (0, 0)) wx) (by kernel_rfl) (by kernel_rfl) (HL.out.next ((Below.refl _ _).drew)) ?_
    iterate 7 (first
        | (apply Bag.walk_yes (by rfl)
           (intro wx hx K hK
            first
              | (go_simp
                 first
                  | (go_at_call 100; refine (FS.out _).mono ?_; rintro e x1 ⟨rfl, rfl⟩; exact hK _ hx)
                  | (go_at_K; exact hK _ hx)))
           rfl)
        | (refine Bag.walk_no (by rfl) ?_; simp only [Act.put, List.setIfInBounds_toArray, List.set_cons_succ, List.set_cons_zero]))
    refine Bag.walk_nil (fun w2 hx => ?_)
    clear HL HE c0 c1 c2 c3 c4 c5 c6 c7 z0 z1 z2 z3 z4 f0 f1 f2 f3 f4
    have hsz2 := hx.size
    try simp at hsz2
    obtain ⟨⟨z0, z1, z2, z3, z4⟩, f0, f1, f2, f3, f4⟩ := rowCells hx.row
    obtain ⟨c0, c1, c2, c3, c4, c5, c6, c7⟩ := boxRow ((hx.below.block w.heap.size (by simp)).trans (heap_alloc_new w _))
    have HL := Lib.hid hx
    have HE := Lib.hid (fun v0 v1 v2 v3 v4 => hx.put5 (Nat.le_refl _) v0 v1 v2 v3 v4)
    clear hx
    go_wp2_with fail
    have b0 : (s[0]'i0).toNat < 256 := UInt8.toNat_lt _
    have b1 : (s[1]'i1).toNat < 256 := UInt8.toNat_lt _
    have b2 : (s[2]'i2).toNat < 256 := UInt8.toNat_lt _
    have b3 : (s[3]'i3).toNat < 256 := UInt8.toNat_lt _
    have b4 : (s[4]'i4).toNat < 256 := UInt8.toNat_lt _
    have v0 : IntKind.i64.wrap ((s[0]'i0).toNat : Int) = ((s[0]'i0).toNat : Int) := IntWalk.i64_in _ (by omega)
    have v1 : IntKind.i64.wrap ((s[1]'i1).toNat : Int) = ((s[1]'i1).toNat : Int) := IntWalk.i64_in _ (by omega)
    have v2 : IntKind.i64.wrap ((s[2]'i2).toNat : Int) = ((s[2]'i2).toNat : Int) := IntWalk.i64_in _ (by omega)
    have v3 : IntKind.i64.wrap ((s[3]'i3).toNat : Int) = ((s[3]'i3).toNat : Int) := IntWalk.i64_in _ (by omega)
    have v4 : IntKind.i64.wrap ((s[4]'i4).toNat : Int) = ((s[4]'i4).toNat : Int) := IntWalk.i64_in _ (by omega)
    have v5 : IntKind.i64.wrap (((s[3]'i3).toNat : Int) - 2) = ((s[3]'i3).toNat : Int) - 2 := IntWalk.i64_in _ (by omega)
    refine Ghost.ghost (fun γ L wx => Decls (w2).heap.size (w2) [(⟨17, 18, 41, #[.int .i64 0, .int .i64 0, .int .i64 0, .int .i64 0, .int .i64 0], #[.int .i64 ((s[0]'i0).toNat : Int), .int .i64 ((s[1]'i1).toNat : Int), .int .i64 ((s[2]'i2).toNat : Int), .int .i64 (((s[3]'i3).toNat : Int) - 2), .int .i64 ((s[4]'i4).toNat : Int)]⟩ : Decl)] γ L wx) (by kernel_rfl) (by kernel_rfl) (fun γ => Decls.start _ γ (Below.refl _ _).drew (Nat.le_refl _)) ?_
    apply Ghost.walk_const (fun γ => by rfl)
    · intro γ L wx h1 h2 hx K hK
      have HK2 := Lib.hid hK
      have HX := Lib.hid hx
      clear hK h1 h2 hx
      go_simp
      first
        | exact HK2.out _ (HX.out.quiet 0 (by rfl) (Below.refl _ _))
    simp only [Act.put, List.setIfInBounds_toArray, List.set_cons_succ, List.set_cons_zero]
    apply Ghost.walk_const (fun γ => by rfl)
    · intro γ L wx h1 h2 hx K hK
      have HK2 := Lib.hid hK
      have HX := Lib.hid hx
      clear hK h1 h2 hx
      go_simp
      first
        | exact HK2.out _ (HX.out.quiet 0 (by rfl) (Below.refl _ _))
    simp only [Act.put, List.setIfInBounds_toArray, List.set_cons_succ, List.set_cons_zero]
    apply Ghost.walk_const (fun γ => by rfl)
    · intro γ L wx h1 h2 hx K hK
      have HK2 := Lib.hid hK
      have HX := Lib.hid hx
      clear hK h1 h2 hx
      go_simp
      first
        | exact HK2.out _ (HX.out.quiet 0 (by rfl) (Below.refl _ _))
    simp only [Act.put, List.setIfInBounds_toArray, List.set_cons_succ, List.set_cons_zero]
    apply Ghost.walk_const (fun γ => by rfl)
    · intro γ L wx h1 h2 hx K hK
      have HK2 := Lib.hid hK
      have HX := Lib.hid hx
      clear hK h1 h2 hx
      go_simp
      first
        | exact HK2.out _ (HX.out.quiet 0 (by rfl) (Below.refl _ _))
    simp only [Act.put, List.setIfInBounds_toArray, List.set_cons_succ, List.set_cons_zero]
    apply Ghost.walk_const (fun γ => by rfl)
    · intro γ L wx h1 h2 hx K hK
      have HK2 := Lib.hid hK
      have HX := Lib.hid hx
      clear hK h1 h2 hx
      go_simp
      first
        | exact HK2.out _ (HX.out.quiet 0 (by rfl) (Below.refl _ _))
    simp only [Act.put, List.setIfInBounds_toArray, List.set_cons_succ, List.set_cons_zero]
    apply Ghost.walk_const (fun γ => by rfl)
    · intro γ L wx h1 h2 hx K hK
      have HK2 := Lib.hid hK
      have HX := Lib.hid hx
      clear hK h1 h2 hx
      go_simp
      first
        | exact HK2.out _ (HX.out.quiet 0 (by rfl) (Below.refl _ _))
    simp only [Act.put, List.setIfInBounds_toArray, List.set_cons_succ, List.set_cons_zero]
    apply Ghost.walk_const (fun γ => by rfl)
    · intro γ L wx h1 h2 hx K hK
      have HK2 := Lib.hid hK
      have HX := Lib.hid hx
      clear hK h1 h2 hx
      go_simp
      first
        | exact HK2.out _ (HX.out.quiet 0 (by rfl) (Below.refl _ _))
    simp only [Act.put, List.setIfInBounds_toArray, List.set_cons_succ, List.set_cons_zero]
    apply Ghost.walk_const (fun γ => by rfl)
    · intro γ L wx h1 h2 hx K hK
      have HK2 := Lib.hid hK
      have HX := Lib.hid hx
      clear hK h1 h2 hx
      go_simp
      first
        | exact HK2.out _ (HX.out.quiet 0 (by rfl) (Below.refl _ _))
    simp only [Act.put, List.setIfInBounds_toArray, List.set_cons_succ, List.set_cons_zero]
    apply Ghost.walk_const (fun γ => by rfl)
    · intro γ L wx h1 h2 hx K hK
      have HK2 := Lib.hid hK
      have HX := Lib.hid hx
      clear hK h1 h2 hx
      go_simp
      first
        | exact HK2.out _ (HX.out.quiet 0 (by rfl) (Below.refl _ _))
    simp only [Act.put, List.setIfInBounds_toArray, List.set_cons_succ, List.set_cons_zero]
    apply Ghost.walk_const (fun γ => by rfl)
    · intro γ L wx h1 h2 hx K hK
      have HK2 := Lib.hid hK
      have HX := Lib.hid hx
      clear hK h1 h2 hx
      go_simp
      first
        | exact HK2.out _ (HX.out.quiet 0 (by rfl) (Below.refl _ _))
    simp only [Act.put, List.setIfInBounds_toArray, List.set_cons_succ, List.set_cons_zero]
    apply Ghost.walk_const (fun γ => by rfl)
    · intro γ L wx h1 h2 hx K hK
      have HK2 := Lib.hid hK
      have HX := Lib.hid hx
      clear hK h1 h2 hx
      go_simp
      first
        | exact HK2.out _ (HX.out.quiet 0 (by rfl) (Below.refl _ _))
    simp only [Act.put, List.setIfInBounds_toArray, List.set_cons_succ, List.set_cons_zero]
    apply Ghost.walk_const (fun γ => by rfl)
    · intro γ L wx h1 h2 hx K hK
      have HK2 := Lib.hid hK
      have HX := Lib.hid hx
      clear hK h1 h2 hx
      go_simp
      first
        | exact HK2.out _ (HX.out.quiet 0 (by rfl) (Below.refl _ _))
    simp only [Act.put, List.setIfInBounds_toArray, List.set_cons_succ, List.set_cons_zero]
    apply Ghost.walk_const (fun γ => by rfl)
    · intro γ L wx h1 h2 hx K hK
      have HK2 := Lib.hid hK
      have HX := Lib.hid hx
      clear hK h1 h2 hx
      go_simp
      first
        | exact HK2.out _ (HX.out.quiet 0 (by rfl) (Below.refl _ _))
    simp only [Act.put, List.setIfInBounds_toArray, List.set_cons_succ, List.set_cons_zero]
    apply Ghost.walk_const (fun γ => by rfl)
    · intro γ L wx h1 h2 hx K hK
      have HK2 := Lib.hid hK
      have HX := Lib.hid hx
      clear hK h1 h2 hx
      go_simp
      first
        | exact HK2.out _ (HX.out.quiet 0 (by rfl) (Below.refl _ _))
    simp only [Act.put, List.setIfInBounds_toArray, List.set_cons_succ, List.set_cons_zero]
    apply Ghost.walk_const (fun γ => by rfl)
    · intro γ L wx h1 h2 hx K hK
      have HK2 := Lib.hid hK
      have HX := Lib.hid hx
      clear hK h1 h2 hx
      go_simp
      first
        | exact HK2.out _ (HX.out.quiet 0 (by rfl) (Below.refl _ _))
    simp only [Act.put, List.setIfInBounds_toArray, List.set_cons_succ, List.set_cons_zero]
    apply Ghost.walk_const (fun γ => by rfl)
    · intro γ L wx h1 h2 hx K hK
      have HK2 := Lib.hid hK
      have HX := Lib.hid hx
      clear hK h1 h2 hx
      go_simp
      first
        | exact HK2.out _ (HX.out.quiet 0 (by rfl) (Below.refl _ _))
    simp only [Act.put, List.setIfInBounds_toArray, List.set_cons_succ, List.set_cons_zero]
    apply Ghost.walk_const (fun γ => by rfl)
    · intro γ L wx h1 h2 hx K hK
      have HK2 := Lib.hid hK
      have HX := Lib.hid hx
      clear hK h1 h2 hx
      go_simp
      first
        | exact HK2.out _ (HX.out.quiet 0 (by rfl) (Below.refl _ _))
    simp only [Act.put, List.setIfInBounds_toArray, List.set_cons_succ, List.set_cons_zero]
    refine Ghost.walk_yes (fun b => .pointer (some ⟨b, 0, none⟩)) (fun γ => by rfl) ?_ ?_
    · intro γ L wx h1 h2 hx K hK
      have HK2 := Lib.hid hK
      clear hK h2
      have hL : L (⟨17, 18, 41, #[.int .i64 0, .int .i64 0, .int .i64 0, .int .i64 0, .int .i64 0], #[.int .i64 ((s[0]'i0).toNat : Int), .int .i64 ((s[1]'i1).toNat : Int), .int .i64 ((s[2]'i2).toNat : Int), .int .i64 (((s[3]'i3).toNat : Int) - 2), .int .i64 ((s[4]'i4).toNat : Int)]⟩ : Decl).al = false := h1
      clear h1
      go_simp
      exact HK2.out wx.heap.size _ (hx.alloc (⟨17, 18, 41, #[.int .i64 0, .int .i64 0, .int .i64 0, .int .i64 0, .int .i64 0], #[.int .i64 ((s[0]'i0).toNat : Int), .int .i64 ((s[1]'i1).toNat : Int), .int .i64 ((s[2]'i2).toNat : Int), .int .i64 (((s[3]'i3).toNat : Int) - 2), .int .i64 ((s[4]'i4).toNat : Int)]⟩ : Decl) (decl_mem _) hL (by rfl) (decl_al _))
    simp only [Act.put, List.setIfInBounds_toArray, List.set_cons_succ, List.set_cons_zero]
    refine Ghost.walk_yes (fun _ => undef) (fun γ => by rfl) ?_ ?_
    · intro γ L wx h1 h2 hx K hK
      have hA : L (⟨17, 18, 41, #[.int .i64 0, .int .i64 0, .int .i64 0, .int .i64 0, .int .i64 0], #[.int .i64 ((s[0]'i0).toNat : Int), .int .i64 ((s[1]'i1).toNat : Int), .int .i64 ((s[2]'i2).toNat : Int), .int .i64 (((s[3]'i3).toNat : Int) - 2), .int .i64 ((s[4]'i4).toNat : Int)]⟩ : Decl).al = true := h2 17 (by kernel_rfl)
      exact hx.wp_store (⟨17, 18, 41, #[.int .i64 0, .int .i64 0, .int .i64 0, .int .i64 0, .int .i64 0], #[.int .i64 ((s[0]'i0).toNat : Int), .int .i64 ((s[1]'i1).toNat : Int), .int .i64 ((s[2]'i2).toNat : Int), .int .i64 (((s[3]'i3).toNat : Int) - 2), .int .i64 ((s[4]'i4).toNat : Int)]⟩ : Decl) (decl_mem _) h1 hA _ _ rfl rfl rfl (by kernel_rfl) rfl (by kernel_rfl) (hK 0 _ (hx.store (⟨17, 18, 41, #[.int .i64 0, .int .i64 0, .int .i64 0, .int .i64 0, .int .i64 0], #[.int .i64 ((s[0]'i0).toNat : Int), .int .i64 ((s[1]'i1).toNat : Int), .int .i64 ((s[2]'i2).toNat : Int), .int .i64 (((s[3]'i3).toNat : Int) - 2), .int .i64 ((s[4]'i4).toNat : Int)]⟩ : Decl) (decl_mem _) hA (by rfl) (decl_st _) (decl_al _) 0))
    simp only [Act.put]
    refine Ghost.walk_nil (fun γ L w3 hall hD => ?_)
    obtain ⟨hg1, hg2, hb3⟩ := hD.done1 hall (by show 17 < 19; decide) (by show 18 < 19; decide)
    clear hall hD
    simp only [Nat.zero_add, Nat.reduceAdd] at hg1 hg2 ⊢
    generalize γ 17 = g at *
    clear v0 v1 v2 v3 v4 v5
    have hLx := HL.out.next hb3
    clear HL HE c0 c1 c2 c3 c4 c5 c6 c7 z0 z1 z2 z3 z4 f0 f1 f2 f3 f4
    have hsz3 := hLx.size
    try simp at hsz3
    obtain ⟨⟨z0, z1, z2, z3, z4⟩, f0, f1, f2, f3, f4⟩ := rowCells hLx.row
    obtain ⟨⟨g0, g1, g2, g3, g4⟩, -⟩ := rowCells hg2
    obtain ⟨c0, c1, c2, c3, c4, c5, c6, c7⟩ := boxRow ((hLx.below.block w.heap.size (by simp)).trans (heap_alloc_new w _))
    have HL := Lib.hid hLx
    clear hLx
    go_wp2_with fail
    refine (FX.out _ (below_of_new HL.out.below)).mono ?_
    rintro e w4 ⟨rfl, hb4⟩
    have hLx := HL.out.next hb4
    have hgl : g < w3.heap.size := (Array.getElem?_eq_some_iff.1 hg2).1
    have hg4 := (hb4.block g hgl).trans hg2
    clear HL c0 c1 c2 c3 c4 c5 c6 c7 z0 z1 z2 z3 z4 f0 f1 f2 f3 f4 g0 g1 g2 g3 g4
    obtain ⟨⟨z0, z1, z2, z3, z4⟩, f0, f1, f2, f3, f4⟩ := rowCells hLx.row
    obtain ⟨⟨g0, g1, g2, g3, g4⟩, -⟩ := rowCells hg4
    have HL := Lib.hid hLx
    have HE := Lib.hid (fun v0 v1 v2 v3 v4 => hLx.put5 (Nat.le_refl _) v0 v1 v2 v3 v4)
    clear hLx hb3 hb4 hg1 hg2 hg4
    go_wp2_with fail
    exact bodyPost_ret (resultsR Try.results76 _ _ _ _ _ _ _ _ _ rfl rfl (HE.out _ _ _ _ _).row) rfl ⟨(ret_dec (hX.out.1.trans HOF.out) hX.out.2).symm, below_of_new (HE.out _ _ _ _ _).below⟩
end
end Go.Proofs.Ytifbkoaggjikpaa
