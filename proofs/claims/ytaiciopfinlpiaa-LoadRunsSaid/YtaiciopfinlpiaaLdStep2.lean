/- Step of load, and the reference's. No statement of the seat is proved here. -/
import Derived.Test.YtaiciopfinlpiaaLdStep
namespace Go.Proofs.Ytaiciopfinlpiaa
open Go.RowKit

theorem Lit.three (w : World) (o1 o2 o3 : Obj) : Lit (w.heap.size + 2) ((w.alloc o1).alloc o2) (w.heap.size + 2) o3 (((w.alloc o1).alloc o2).alloc o3) := by
  have h := Lit.one ((w.alloc o1).alloc o2) o3
  have e : ((w.alloc o1).alloc o2).heap.size = w.heap.size + 2 := by simp
  rw [e] at h
  exact h
theorem Lit.put1 {B b : Nat} {W1 wx : World} {cs : Array Value} {t : TypeId} (h : Lit B W1 b (.cells cs t (0, 0)) wx) (hb : B ≤ b) (hs : cs.size = 1) (v0 : Value) : Lit B W1 b (.cells #[v0] t (0, 0)) (wx.setCell ⟨b, 0, none⟩ v0) := by
  have := h.put hb 0 v0
  obtain ⟨l⟩ := cs
  match l, hs with
  | [c0], _ => exact this
theorem Lit.kept {B b : Nat} {W1 wx : World} {row : Obj} (h : Lit B W1 b row wx) : Below B W1 wx := h.below

/-- The cells of a building that lies whole in block g. -/
theorem boxRow {wx : World} {g : Nat} {f d r p : Int} {e1 e2 e3 : Nat} {A : Option Addr} {n cap : Nat} (h : wx.heap[g]? = some (.cells #[.int .i64 f, .int .i64 d, .int .i64 r, .int .i64 p, .float .f64 e1, .float .f64 e2, .float .f64 e3, .slice A n cap] 25 (0, 0))) :
    wx.cell? ⟨g, 0, none⟩ = some (.int .i64 f) ∧ wx.cell? ⟨g, 1, none⟩ = some (.int .i64 d) ∧ wx.cell? ⟨g, 2, none⟩ = some (.int .i64 r) ∧ wx.cell? ⟨g, 3, none⟩ = some (.int .i64 p) ∧ wx.cell? ⟨g, 4, none⟩ = some (.float .f64 e1) ∧ wx.cell? ⟨g, 5, none⟩ = some (.float .f64 e2) ∧ wx.cell? ⟨g, 6, none⟩ = some (.float .f64 e3) ∧ wx.cell? ⟨g, 7, none⟩ = some (.slice A n cap) :=
  ⟨cell_of_row wx _ _ _ _ (0, 0) h, cell_of_row wx _ _ _ _ (0, 0) h, cell_of_row wx _ _ _ _ (0, 0) h, cell_of_row wx _ _ _ _ (0, 0) h, cell_of_row wx _ _ _ _ (0, 0) h, cell_of_row wx _ _ _ _ (0, 0) h, cell_of_row wx _ _ _ _ (0, 0) h, cell_of_row wx _ _ _ _ (0, 0) h⟩
theorem below2 {w wx : World} {o1 o2 : Obj} (h : Below (w.heap.size + 2) ((w.alloc o1).alloc o2) wx) : Below w.heap.size w wx :=
  (((Below.refl w.heap.size w).alloc (Nat.le_refl _) o1).alloc (by simp) o2).trans (h.mono (by omega))
theorem rows2 {w wx : World} {c1 c2 : Array Value} {t1 t2 : TypeId} (h : Below (w.heap.size + 2) ((w.alloc (.cells c1 t1)).alloc (.cells c2 t2)) wx) : wx.heap[w.heap.size]? = some (.cells c1 t1 (0, 0)) ∧ wx.heap[w.heap.size + 1]? = some (.cells c2 t2 (0, 0)) := by
  constructor
  · rw [h.block _ (by omega), Below.heap_alloc _ _ _ (by simp)]
    exact heap_alloc_new _ _
  · rw [h.block _ (by omega)]
    have := heap_alloc_new (w.alloc (.cells c1 t1)) (.cells c2 t2)
    simpa using this

set_option maxHeartbeats 1000000 in
theorem step_any (b : BldD) (A : Option Addr) (cap x : Nat) (s : Int) (w : World) (hn : b.cars.length ≤ 140737488355328) (hc : CarsAt w w.heap.size A b.cars) :
    Calls Try.prog 13 #[b.agg A cap, .agg #[.int .i64 s], .float .f64 x] w fun e w' => e = .returned (.agg #[.int .i64 (stepF b s x)]) ∧ Below w.heap.size w w' := by
  have FC := Lib.hid (fun wx (h : Below w.heap.size w wx) => class_any b A cap x wx hn ((hc.below h).more h.size))
  have FT := Lib.hid (fun wx (hv : validE b = 0) => stays_any b A cap x s wx hv)
  have hr : stepF b s x = if ¬ classF b x = 0 ∧ classF b x < s ∧ stayB b s x = true then s else classF b x := rfl
  have hv : ¬ classF b x = 0 → validE b = 0 := fun h => (classF_num h).1
  clear hc
  obtain ⟨f, d, r, p, e1, e2, e3, cs⟩ := b
  generalize stepF _ s x = R at *
  generalize classF _ x = C at *
  generalize stayB _ s x = Y at *
  have HR := Lib.hid hr
  have HV := Lib.hid hv
  clear hr hv
  simp only [BldD.agg] at FC FT ⊢
  simp only at hn
  by_cases h0 : C = 0
  · subst h0
    go_enter Try.func13, Try.ntmps13
    go_wp2_with fail
    refine (FC.out _ (by go_grown)).mono ?_
    rintro e w1 ⟨rfl, hb⟩
    have hL := (Lit.three w (.cells #[.int .i64 f, .int .i64 d, .int .i64 r, .int .i64 p, .float .f64 e1, .float .f64 e2, .float .f64 e3, .slice A cs.length cap] 25) (.cells #[.int .i64 s] 34) (.cells #[.int .i64 0] 34)).next hb
    obtain ⟨hr0, hr1⟩ := rows2 hL.below
    obtain ⟨c0, c1, c2, c3, c4, c5, c6, c7⟩ := boxRow hr0
    have k0 : w1.cell? ⟨w.heap.size + 1, 0, none⟩ = some (.int .i64 s) := cell_of_row _ _ _ _ _ (0, 0) hr1
    have q0 : _ = false := hL.free 0
    have z0 := hL.cell 0
    simp only [List.getElem?_toArray, List.getElem?_cons_zero, show w.heap.size + 2 = w.heap.size + 1 + 1 from rfl] at q0 z0
    have hlt := hL.lt
    have HE := Lib.hid (fun v0 => hL.put1 (Nat.le_refl _) rfl v0)
    clear hL hb hr0 hr1
    go_wp2_with fail
    exact bodyPost_ret (results_cell_row Try.results13 _ _ _ _ _ (0, 0) _ rfl ((HE.out _).row) Try.underlying34 rfl (by kernel_rfl)) rfl (⟨by rw [HR.out]; rfl, below2 (HE.out _).below⟩)
  · by_cases h1 : C < s
    · cases Y
      · have hR2 : R = C := by rw [HR.out, if_neg (by simp)]
        subst hR2
        go_enter Try.func13, Try.ntmps13
        go_wp2_with fail
        refine (FC.out _ (by go_grown)).mono ?_
        rintro e w1 ⟨rfl, hb⟩
        have hL := (Lit.three w (.cells #[.int .i64 f, .int .i64 d, .int .i64 r, .int .i64 p, .float .f64 e1, .float .f64 e2, .float .f64 e3, .slice A cs.length cap] 25) (.cells #[.int .i64 s] 34) (.cells #[.int .i64 0] 34)).next hb
        obtain ⟨hr0, hr1⟩ := rows2 hL.below
        obtain ⟨c0, c1, c2, c3, c4, c5, c6, c7⟩ := boxRow hr0
        have k0 : w1.cell? ⟨w.heap.size + 1, 0, none⟩ = some (.int .i64 s) := cell_of_row _ _ _ _ _ (0, 0) hr1
        have q0 : _ = false := hL.free 0
        have z0 := hL.cell 0
        simp only [List.getElem?_toArray, List.getElem?_cons_zero, show w.heap.size + 2 = w.heap.size + 1 + 1 from rfl] at q0 z0
        have hlt := hL.lt
        have HL := Lib.hid hL
        clear hL hb hr0 hr1
        go_wp2_with fail
        clear c0 c1 c2 c3 c4 c5 c6 c7 k0 q0 hlt
        refine (FT.out _ (HV.out h0)).mono ?_
        rintro e w2 ⟨rfl, hb⟩
        have hL := HL.out.next hb
        obtain ⟨hr0, hr1⟩ := rows2 hL.below
        have k0 : w2.cell? ⟨w.heap.size + 1, 0, none⟩ = some (.int .i64 s) := cell_of_row _ _ _ _ _ (0, 0) hr1
        have q0 : _ = false := hL.free 0
        have z0 := hL.cell 0
        simp only [List.getElem?_toArray, List.getElem?_cons_zero, show w.heap.size + 2 = w.heap.size + 1 + 1 from rfl] at q0 z0
        have hlt := hL.lt
        have HE := Lib.hid (fun v0 => hL.put1 (Nat.le_refl _) rfl v0)
        clear hL hb hr0 hr1
        go_wp2_with fail
        exact bodyPost_ret (results_cell_row Try.results13 _ _ _ _ _ (0, 0) _ rfl ((HE.out _).row) Try.underlying34 rfl (by kernel_rfl)) rfl (⟨rfl, below2 (HE.out _).below⟩)
      · have hR2 : s = R := by rw [HR.out, if_pos ⟨h0, h1, rfl⟩]
        subst hR2
        go_enter Try.func13, Try.ntmps13
        go_wp2_with fail
        refine (FC.out _ (by go_grown)).mono ?_
        rintro e w1 ⟨rfl, hb⟩
        have hL := (Lit.three w (.cells #[.int .i64 f, .int .i64 d, .int .i64 r, .int .i64 p, .float .f64 e1, .float .f64 e2, .float .f64 e3, .slice A cs.length cap] 25) (.cells #[.int .i64 s] 34) (.cells #[.int .i64 0] 34)).next hb
        obtain ⟨hr0, hr1⟩ := rows2 hL.below
        obtain ⟨c0, c1, c2, c3, c4, c5, c6, c7⟩ := boxRow hr0
        have k0 : w1.cell? ⟨w.heap.size + 1, 0, none⟩ = some (.int .i64 s) := cell_of_row _ _ _ _ _ (0, 0) hr1
        have q0 : _ = false := hL.free 0
        have z0 := hL.cell 0
        simp only [List.getElem?_toArray, List.getElem?_cons_zero, show w.heap.size + 2 = w.heap.size + 1 + 1 from rfl] at q0 z0
        have hlt := hL.lt
        have HL := Lib.hid hL
        clear hL hb hr0 hr1
        go_wp2_with fail
        clear c0 c1 c2 c3 c4 c5 c6 c7 k0 q0 hlt
        refine (FT.out _ (HV.out h0)).mono ?_
        rintro e w2 ⟨rfl, hb⟩
        have hL := HL.out.next hb
        obtain ⟨hr0, hr1⟩ := rows2 hL.below
        have k0 : w2.cell? ⟨w.heap.size + 1, 0, none⟩ = some (.int .i64 s) := cell_of_row _ _ _ _ _ (0, 0) hr1
        have q0 : _ = false := hL.free 0
        have z0 := hL.cell 0
        simp only [List.getElem?_toArray, List.getElem?_cons_zero, show w.heap.size + 2 = w.heap.size + 1 + 1 from rfl] at q0 z0
        have hlt := hL.lt
        have HE := Lib.hid (fun v0 => hL.put1 (Nat.le_refl _) rfl v0)
        clear hL hb hr0 hr1
        go_wp2_with fail
        exact bodyPost_ret (results_cell_row Try.results13 _ _ _ _ _ (0, 0) _ rfl ((HE.out _).row) Try.underlying34 rfl (by kernel_rfl)) rfl (⟨rfl, below2 (HE.out _).below⟩)
    · have hR2 : R = C := by rw [HR.out, if_neg (fun h => h1 h.2.1)]
      subst hR2
      go_enter Try.func13, Try.ntmps13
      go_wp2_with fail
      refine (FC.out _ (by go_grown)).mono ?_
      rintro e w1 ⟨rfl, hb⟩
      have hL := (Lit.three w (.cells #[.int .i64 f, .int .i64 d, .int .i64 r, .int .i64 p, .float .f64 e1, .float .f64 e2, .float .f64 e3, .slice A cs.length cap] 25) (.cells #[.int .i64 s] 34) (.cells #[.int .i64 0] 34)).next hb
      obtain ⟨hr0, hr1⟩ := rows2 hL.below
      obtain ⟨c0, c1, c2, c3, c4, c5, c6, c7⟩ := boxRow hr0
      have k0 : w1.cell? ⟨w.heap.size + 1, 0, none⟩ = some (.int .i64 s) := cell_of_row _ _ _ _ _ (0, 0) hr1
      have q0 : _ = false := hL.free 0
      have z0 := hL.cell 0
      simp only [List.getElem?_toArray, List.getElem?_cons_zero, show w.heap.size + 2 = w.heap.size + 1 + 1 from rfl] at q0 z0
      have hlt := hL.lt
      have HE := Lib.hid (fun v0 => hL.put1 (Nat.le_refl _) rfl v0)
      clear hL hb hr0 hr1
      go_wp2_with fail
      exact bodyPost_ret (results_cell_row Try.results13 _ _ _ _ _ (0, 0) _ rfl ((HE.out _).row) Try.underlying34 rfl (by kernel_rfl)) rfl (⟨rfl, below2 (HE.out _).below⟩)

set_option maxHeartbeats 1000000 in
theorem refStep_any (b : BldD) (A : Option Addr) (cap x : Nat) (s : Int) (w : World) (hn : b.cars.length ≤ 140737488355328) (hc : CarsAt w w.heap.size A b.cars) :
    Calls Try.prog 14 #[b.agg A cap, .agg #[.int .i64 s], .float .f64 x] w fun e w' => e = .returned (.agg #[.int .i64 (stepF b s x)]) ∧ Below w.heap.size w w' := by
  have FC := Lib.hid (fun wx (h : Below w.heap.size w wx) => refClass_any b A cap x wx hn ((hc.below h).more h.size))
  have hr : stepF b s x = if ¬ classF b x = 0 ∧ classF b x < s ∧ stayB b s x = true then s else classF b x := rfl
  have hsub : ¬ classF b x = 0 → (∀ t wx, (binOp .sub t (.float .f64 b.full) (.float .f64 4589168020290535424)).run Try.prog wx = .ok (.float .f64 (lessB b.full)) wx) ∧ (∀ t wx, (binOp .sub t (.float .f64 b.over) (.float .f64 4589168020290535424)).run Try.prog wx = .ok (.float .f64 (lessB b.over)) wx) ∧ geB x (lessB b.full) = (!fltB x (lessB b.full)) ∧ geB x (lessB b.over) = (!fltB x (lessB b.over)) := by
    intro h
    obtain ⟨hv, hx⟩ := classF_num h
    obtain ⟨-, n1, n2⟩ := loads_num hv
    exact ⟨fun t wx => sub_run n1 t wx, fun t wx => sub_run n2 t wx, ge_not hx (less_ok n1).2, ge_not hx (less_ok n2).2⟩
  have hst : stayB b s x = if s = 3 then geB x (lessB b.full) else if s = 4 then geB x (lessB b.over) else false := rfl
  have hcr := classF_range b x
  clear hc
  obtain ⟨f, d, r, p, e1, e2, e3, cs⟩ := b
  generalize stepF _ s x = R at *
  generalize classF _ x = C at *
  generalize stayB _ s x = Y at *
  simp only at hsub hst
  generalize lessB e2 = s1 at *
  generalize lessB e3 = s2 at *
  generalize geB x s1 = g1 at *
  generalize geB x s2 = g2 at *
  unfold fltB at hsub
  have HR := Lib.hid hr
  clear hr
  simp only [BldD.agg] at FC ⊢
  simp only at hn
  by_cases h0 : C = 0
  · subst h0
    clear hsub hst hcr
    go_enter Try.func14, Try.ntmps14
    go_wp2_with fail
    refine (FC.out _ (by go_grown)).mono ?_
    rintro e w1 ⟨rfl, hb⟩
    have hL := (Lit.three w (.cells #[.int .i64 f, .int .i64 d, .int .i64 r, .int .i64 p, .float .f64 e1, .float .f64 e2, .float .f64 e3, .slice A cs.length cap] 25) (.cells #[.int .i64 s] 34) (.cells #[.int .i64 0] 34)).next hb
    obtain ⟨hr0, hr1⟩ := rows2 hL.below
    obtain ⟨c0, c1, c2, c3, c4, c5, c6, c7⟩ := boxRow hr0
    have k0 : w1.cell? ⟨w.heap.size + 1, 0, none⟩ = some (.int .i64 s) := cell_of_row _ _ _ _ _ (0, 0) hr1
    have q0 : _ = false := hL.free 0
    have z0 := hL.cell 0
    simp only [List.getElem?_toArray, List.getElem?_cons_zero, show w.heap.size + 2 = w.heap.size + 1 + 1 from rfl] at q0 z0
    have hlt := hL.lt
    have HE := Lib.hid (fun v0 => hL.put1 (Nat.le_refl _) rfl v0)
    clear hL hb hr0 hr1
    go_wp2_with fail
    exact bodyPost_ret (results_cell_row Try.results14 _ _ _ _ _ (0, 0) _ rfl ((HE.out _).row) Try.underlying34 rfl (by kernel_rfl)) rfl (⟨by rw [HR.out]; rfl, below2 (HE.out _).below⟩)
  · obtain ⟨o1, o2, hg1, hg2⟩ := hsub h0
    clear hsub
    obtain ⟨hc0, hc4⟩ := hcr
    by_cases h3 : s = 3
    · subst h3
      by_cases hl : C < 3
      · rcases Bool.eq_false_or_eq_true (FloatKind.f64.format.order x s1 == some .lt) with hq | hq
        · rw [hq] at hg1
          have hR2 : R = C := by rw [HR.out, hst]; rw [if_neg (by simp [hg1])]
          have HR2 := Lib.hid hR2
          clear hst hR2 hg1 hg2
          go_enter Try.func14, Try.ntmps14
          go_wp2_with fail
          refine (FC.out _ (by go_grown)).mono ?_
          rintro e w1 ⟨rfl, hb⟩
          have hL := (Lit.three w (.cells #[.int .i64 f, .int .i64 d, .int .i64 r, .int .i64 p, .float .f64 e1, .float .f64 e2, .float .f64 e3, .slice A cs.length cap] 25) (.cells #[.int .i64 3] 34) (.cells #[.int .i64 0] 34)).next hb
          obtain ⟨hr0, hr1⟩ := rows2 hL.below
          obtain ⟨c0, c1, c2, c3, c4, c5, c6, c7⟩ := boxRow hr0
          have k0 : w1.cell? ⟨w.heap.size + 1, 0, none⟩ = some (.int .i64 3) := cell_of_row _ _ _ _ _ (0, 0) hr1
          have q0 : _ = false := hL.free 0
          have z0 := hL.cell 0
          simp only [List.getElem?_toArray, List.getElem?_cons_zero, show w.heap.size + 2 = w.heap.size + 1 + 1 from rfl] at q0 z0
          have hlt := hL.lt
          have HE := Lib.hid (fun v0 => hL.put1 (Nat.le_refl _) rfl v0)
          clear hL hb hr0 hr1
          go_wp2_with fail
          exact bodyPost_ret (results_cell_row Try.results14 _ _ _ _ _ (0, 0) _ rfl ((HE.out _).row) Try.underlying34 rfl (by kernel_rfl)) rfl (⟨by rw [HR2.out], below2 (HE.out _).below⟩)
        · rw [hq] at hg1
          have hR2 : R = 3 := by rw [HR.out, hst]; rw [if_pos ⟨h0, hl, by simp [hg1]⟩]
          have HR2 := Lib.hid hR2
          clear hst hR2 hg1 hg2
          go_enter Try.func14, Try.ntmps14
          go_wp2_with fail
          refine (FC.out _ (by go_grown)).mono ?_
          rintro e w1 ⟨rfl, hb⟩
          have hL := (Lit.three w (.cells #[.int .i64 f, .int .i64 d, .int .i64 r, .int .i64 p, .float .f64 e1, .float .f64 e2, .float .f64 e3, .slice A cs.length cap] 25) (.cells #[.int .i64 3] 34) (.cells #[.int .i64 0] 34)).next hb
          obtain ⟨hr0, hr1⟩ := rows2 hL.below
          obtain ⟨c0, c1, c2, c3, c4, c5, c6, c7⟩ := boxRow hr0
          have k0 : w1.cell? ⟨w.heap.size + 1, 0, none⟩ = some (.int .i64 3) := cell_of_row _ _ _ _ _ (0, 0) hr1
          have q0 : _ = false := hL.free 0
          have z0 := hL.cell 0
          simp only [List.getElem?_toArray, List.getElem?_cons_zero, show w.heap.size + 2 = w.heap.size + 1 + 1 from rfl] at q0 z0
          have hlt := hL.lt
          have HE := Lib.hid (fun v0 => hL.put1 (Nat.le_refl _) rfl v0)
          clear hL hb hr0 hr1
          go_wp2_with fail
          exact bodyPost_ret (results_cell_row Try.results14 _ _ _ _ _ (0, 0) _ rfl ((HE.out _).row) Try.underlying34 rfl (by kernel_rfl)) rfl (⟨by rw [HR2.out], below2 (HE.out _).below⟩)
      · skip
        have hR2 : R = C := by rw [HR.out, hst]; rw [if_neg (fun h => hl h.2.1)]
        have HR2 := Lib.hid hR2
        clear hst hR2 hg1 hg2
        go_enter Try.func14, Try.ntmps14
        go_wp2_with fail
        refine (FC.out _ (by go_grown)).mono ?_
        rintro e w1 ⟨rfl, hb⟩
        have hL := (Lit.three w (.cells #[.int .i64 f, .int .i64 d, .int .i64 r, .int .i64 p, .float .f64 e1, .float .f64 e2, .float .f64 e3, .slice A cs.length cap] 25) (.cells #[.int .i64 3] 34) (.cells #[.int .i64 0] 34)).next hb
        obtain ⟨hr0, hr1⟩ := rows2 hL.below
        obtain ⟨c0, c1, c2, c3, c4, c5, c6, c7⟩ := boxRow hr0
        have k0 : w1.cell? ⟨w.heap.size + 1, 0, none⟩ = some (.int .i64 3) := cell_of_row _ _ _ _ _ (0, 0) hr1
        have q0 : _ = false := hL.free 0
        have z0 := hL.cell 0
        simp only [List.getElem?_toArray, List.getElem?_cons_zero, show w.heap.size + 2 = w.heap.size + 1 + 1 from rfl] at q0 z0
        have hlt := hL.lt
        have HE := Lib.hid (fun v0 => hL.put1 (Nat.le_refl _) rfl v0)
        clear hL hb hr0 hr1
        go_wp2_with fail
        exact bodyPost_ret (results_cell_row Try.results14 _ _ _ _ _ (0, 0) _ rfl ((HE.out _).row) Try.underlying34 rfl (by kernel_rfl)) rfl (⟨by rw [HR2.out], below2 (HE.out _).below⟩)
    · by_cases h4 : s = 4
      · subst h4
        by_cases hl : C < 4
        · rcases Bool.eq_false_or_eq_true (FloatKind.f64.format.order x s2 == some .lt) with hq | hq
          · rw [hq] at hg2
            have hR2 : R = C := by rw [HR.out, hst]; rw [if_neg (by simp [hg2])]
            have HR2 := Lib.hid hR2
            clear hst hR2 hg1 hg2
            go_enter Try.func14, Try.ntmps14
            go_wp2_with fail
            refine (FC.out _ (by go_grown)).mono ?_
            rintro e w1 ⟨rfl, hb⟩
            have hL := (Lit.three w (.cells #[.int .i64 f, .int .i64 d, .int .i64 r, .int .i64 p, .float .f64 e1, .float .f64 e2, .float .f64 e3, .slice A cs.length cap] 25) (.cells #[.int .i64 4] 34) (.cells #[.int .i64 0] 34)).next hb
            obtain ⟨hr0, hr1⟩ := rows2 hL.below
            obtain ⟨c0, c1, c2, c3, c4, c5, c6, c7⟩ := boxRow hr0
            have k0 : w1.cell? ⟨w.heap.size + 1, 0, none⟩ = some (.int .i64 4) := cell_of_row _ _ _ _ _ (0, 0) hr1
            have q0 : _ = false := hL.free 0
            have z0 := hL.cell 0
            simp only [List.getElem?_toArray, List.getElem?_cons_zero, show w.heap.size + 2 = w.heap.size + 1 + 1 from rfl] at q0 z0
            have hlt := hL.lt
            have HE := Lib.hid (fun v0 => hL.put1 (Nat.le_refl _) rfl v0)
            clear hL hb hr0 hr1
            go_wp2_with fail
            exact bodyPost_ret (results_cell_row Try.results14 _ _ _ _ _ (0, 0) _ rfl ((HE.out _).row) Try.underlying34 rfl (by kernel_rfl)) rfl (⟨by rw [HR2.out], below2 (HE.out _).below⟩)
          · rw [hq] at hg2
            have hR2 : R = 4 := by rw [HR.out, hst]; rw [if_pos ⟨h0, hl, by simp [hg2]⟩]
            have HR2 := Lib.hid hR2
            clear hst hR2 hg1 hg2
            go_enter Try.func14, Try.ntmps14
            go_wp2_with fail
            refine (FC.out _ (by go_grown)).mono ?_
            rintro e w1 ⟨rfl, hb⟩
            have hL := (Lit.three w (.cells #[.int .i64 f, .int .i64 d, .int .i64 r, .int .i64 p, .float .f64 e1, .float .f64 e2, .float .f64 e3, .slice A cs.length cap] 25) (.cells #[.int .i64 4] 34) (.cells #[.int .i64 0] 34)).next hb
            obtain ⟨hr0, hr1⟩ := rows2 hL.below
            obtain ⟨c0, c1, c2, c3, c4, c5, c6, c7⟩ := boxRow hr0
            have k0 : w1.cell? ⟨w.heap.size + 1, 0, none⟩ = some (.int .i64 4) := cell_of_row _ _ _ _ _ (0, 0) hr1
            have q0 : _ = false := hL.free 0
            have z0 := hL.cell 0
            simp only [List.getElem?_toArray, List.getElem?_cons_zero, show w.heap.size + 2 = w.heap.size + 1 + 1 from rfl] at q0 z0
            have hlt := hL.lt
            have HE := Lib.hid (fun v0 => hL.put1 (Nat.le_refl _) rfl v0)
            clear hL hb hr0 hr1
            go_wp2_with fail
            exact bodyPost_ret (results_cell_row Try.results14 _ _ _ _ _ (0, 0) _ rfl ((HE.out _).row) Try.underlying34 rfl (by kernel_rfl)) rfl (⟨by rw [HR2.out], below2 (HE.out _).below⟩)
        · skip
          have hR2 : R = C := by rw [HR.out, hst]; rw [if_neg (fun h => hl h.2.1)]
          have HR2 := Lib.hid hR2
          clear hst hR2 hg1 hg2
          go_enter Try.func14, Try.ntmps14
          go_wp2_with fail
          refine (FC.out _ (by go_grown)).mono ?_
          rintro e w1 ⟨rfl, hb⟩
          have hL := (Lit.three w (.cells #[.int .i64 f, .int .i64 d, .int .i64 r, .int .i64 p, .float .f64 e1, .float .f64 e2, .float .f64 e3, .slice A cs.length cap] 25) (.cells #[.int .i64 4] 34) (.cells #[.int .i64 0] 34)).next hb
          obtain ⟨hr0, hr1⟩ := rows2 hL.below
          obtain ⟨c0, c1, c2, c3, c4, c5, c6, c7⟩ := boxRow hr0
          have k0 : w1.cell? ⟨w.heap.size + 1, 0, none⟩ = some (.int .i64 4) := cell_of_row _ _ _ _ _ (0, 0) hr1
          have q0 : _ = false := hL.free 0
          have z0 := hL.cell 0
          simp only [List.getElem?_toArray, List.getElem?_cons_zero, show w.heap.size + 2 = w.heap.size + 1 + 1 from rfl] at q0 z0
          have hlt := hL.lt
          have HE := Lib.hid (fun v0 => hL.put1 (Nat.le_refl _) rfl v0)
          clear hL hb hr0 hr1
          go_wp2_with fail
          exact bodyPost_ret (results_cell_row Try.results14 _ _ _ _ _ (0, 0) _ rfl ((HE.out _).row) Try.underlying34 rfl (by kernel_rfl)) rfl (⟨by rw [HR2.out], below2 (HE.out _).below⟩)
      · skip
        have hR2 : R = C := by rw [HR.out, hst]; rw [if_neg (by simp [h3, h4])]
        have HR2 := Lib.hid hR2
        clear hst hR2 hg1 hg2
        go_enter Try.func14, Try.ntmps14
        go_wp2_with fail
        refine (FC.out _ (by go_grown)).mono ?_
        rintro e w1 ⟨rfl, hb⟩
        have hL := (Lit.three w (.cells #[.int .i64 f, .int .i64 d, .int .i64 r, .int .i64 p, .float .f64 e1, .float .f64 e2, .float .f64 e3, .slice A cs.length cap] 25) (.cells #[.int .i64 s] 34) (.cells #[.int .i64 0] 34)).next hb
        obtain ⟨hr0, hr1⟩ := rows2 hL.below
        obtain ⟨c0, c1, c2, c3, c4, c5, c6, c7⟩ := boxRow hr0
        have k0 : w1.cell? ⟨w.heap.size + 1, 0, none⟩ = some (.int .i64 s) := cell_of_row _ _ _ _ _ (0, 0) hr1
        have q0 : _ = false := hL.free 0
        have z0 := hL.cell 0
        simp only [List.getElem?_toArray, List.getElem?_cons_zero, show w.heap.size + 2 = w.heap.size + 1 + 1 from rfl] at q0 z0
        have hlt := hL.lt
        have HE := Lib.hid (fun v0 => hL.put1 (Nat.le_refl _) rfl v0)
        clear hL hb hr0 hr1
        go_wp2_with fail
        exact bodyPost_ret (results_cell_row Try.results14 _ _ _ _ _ (0, 0) _ rfl ((HE.out _).row) Try.underlying34 rfl (by kernel_rfl)) rfl (⟨by rw [HR2.out], below2 (HE.out _).below⟩)
end Go.Proofs.Ytaiciopfinlpiaa
