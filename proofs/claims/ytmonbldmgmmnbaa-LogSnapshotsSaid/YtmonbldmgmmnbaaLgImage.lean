/- A call's image laid into an elder box; the law's Image: an image made of records. No statement of the seat is proved here. -/
import Derived.Test.YtmonbldmgmmnbaaLgRefApp
import Derived.Test.YtmonbldmgmmnbaaGhostM
namespace Go.Proofs.Ytmonbldmgmmnbaa
open Go.RowKit GhostV Bag Lg Img

/-- Records lie not in an image's box. -/
theorem RAt.imPut {w w' : World} {xA : Option Addr} {l : List Rc} {g : Nat} {a1 a2 a3 a4 : Option Addr} {n1 n2 n3 n4 c1 c2 c3 c4 : Nat} (h : RAt w xA l) (hr : w.heap[g]? = some (.cells #[.slice a1 n1 c1, .slice a2 n2 c2, .slice a3 n3 c3, .slice a4 n4 c4] 32 (0, 0)))
    (hg : w.grownBy w' (some g)) : RAt w' xA l := by
  cases l with
  | nil => exact .inl rfl
  | cons x l =>
    obtain ⟨b, off, hA, hb, c0, -, -, -, -⟩ := h.at_ (k := 0) (by simp)
    have hne : b ≠ g := fun e => by
      subst e
      have := cell_of_row w b (off + 0 * 5) _ _ (0, 0) hr
      rw [c0] at this
      rcases (show off = 0 ∨ off = 1 ∨ off = 2 ∨ off = 3 ∨ 4 ≤ off by omega) with rfl | rfl | rfl | rfl | h4
      · simp at this
      · simp at this
      · simp at this
      · simp at this
      · rw [Array.getElem?_eq_none (by simp; omega)] at this
        cases this
    rcases h with h | ⟨b', off', hA', hrng⟩
    · cases h
    · rw [hA] at hA'
      injection hA' with hA'
      injection hA' with q1 q2
      subst q1
      subst q2
      refine .inr ⟨b, off, hA, fun j v hv => ?_⟩
      rw [← hrng j v hv]
      unfold World.cell?
      simp only [hg.block b hb (fun e => hne (Option.some.inj e))]
/-- A call hands back an image and an error; the image is taken out, and laid into an elder box. -/
structure Sa (W1 : World) (g : Nat) (m : Img) (er : Int) (p : Nat) (x y z : Value) (wx : World) : Prop where
  bl : p ≤ 3 → Below W1.heap.size W1 wx
  grown : W1.grownBy wx (some g)
  c : 1 ≤ p → ∃ pv fv lv ev, IOwn wx W1.heap.size pv fv lv ev m ∧ x = .tuple #[.agg #[pv, fv, lv, ev], .int .i64 er] ∧ (2 ≤ p → y = x) ∧ (3 ≤ p → z = .agg #[pv, fv, lv, ev]) ∧ (4 ≤ p → wx.heap[g]? = some (.cells #[pv, fv, lv, ev] 32 (0, 0)))
namespace Sa
variable {W1 wx w' : World} {g : Nat} {m : Img} {er : Int} {p : Nat} {x y z : Value}
theorem start {d : Nat} : Sa W1 g m er 0 x y z { W1 with drawn := d } := ⟨fun _ => ⟨rfl, rfl, rfl, Nat.le_refl _, fun _ _ => rfl⟩, ⟨rfl, rfl, rfl, Nat.le_refl _, fun _ _ _ => rfl⟩, fun h => absurd h (by decide)⟩
theorem below (h : Sa W1 g m er p x y z wx) (hb : Below wx.heap.size wx w') : Sa W1 g m er p x y z w' :=
  ⟨fun q => (h.bl q).trans (hb.mono (h.bl q).size), grown_trans h.grown (grown_below hb _), fun q => by
    obtain ⟨pv, fv, lv, ev, h1, h2, h3, h4, h5⟩ := h.c q
    exact ⟨pv, fv, lv, ev, h1.below hb, h2, h3, h4, fun q => (hb.block g (Array.getElem?_eq_some_iff.1 (h5 q)).1).trans (h5 q)⟩⟩
theorem step1 {pv fv lv ev : Value} (h : Sa W1 g m er 0 x y z wx) (hI : IOwn w' wx.heap.size pv fv lv ev m) (hb : Below wx.heap.size wx w') : Sa W1 g m er 1 (.tuple #[.agg #[pv, fv, lv, ev], .int .i64 er]) y z w' :=
  ⟨fun _ => (h.bl (by decide)).trans (hb.mono (h.bl (by decide)).size), grown_trans h.grown (grown_below hb _), fun _ => ⟨pv, fv, lv, ev, hI.mono h.grown.size, rfl, fun q => absurd q (by decide), fun q => absurd q (by decide), fun q => absurd q (by decide)⟩⟩
theorem step2 (h : Sa W1 g m er 1 x y z wx) : Sa W1 g m er 2 x x z wx :=
  ⟨fun _ => h.bl (by decide), h.grown, fun _ => by
    obtain ⟨pv, fv, lv, ev, h1, h2, -⟩ := h.c (by decide)
    exact ⟨pv, fv, lv, ev, h1, h2, fun _ => rfl, fun q => absurd q (by decide), fun q => absurd q (by decide)⟩⟩
theorem tup (h : Sa W1 g m er p x y z wx) (hp : 2 ≤ p) : ∃ pv fv lv ev, IOwn wx W1.heap.size pv fv lv ev m ∧ x = .tuple #[.agg #[pv, fv, lv, ev], .int .i64 er] ∧ y = .tuple #[.agg #[pv, fv, lv, ev], .int .i64 er] := by
  obtain ⟨pv, fv, lv, ev, h1, h2, h3, -⟩ := h.c (by omega)
  exact ⟨pv, fv, lv, ev, h1, h2, (h3 hp).trans h2⟩
theorem step3 {pv fv lv ev : Value} (h : Sa W1 g m er 2 x y z wx) (hI : IOwn wx W1.heap.size pv fv lv ev m) (hx : x = .tuple #[.agg #[pv, fv, lv, ev], .int .i64 er]) : Sa W1 g m er 3 x y (.agg #[pv, fv, lv, ev]) wx :=
  ⟨fun _ => h.bl (by decide), h.grown, fun _ => by
    obtain ⟨-, -, -, -, -, -, h3, -⟩ := h.c (by decide)
    exact ⟨pv, fv, lv, ev, hI, hx, fun _ => h3 (by decide), fun _ => rfl, fun q => absurd q (by decide)⟩⟩
theorem img (h : Sa W1 g m er 3 x y z wx) : ∃ pv fv lv ev, IOwn wx W1.heap.size pv fv lv ev m ∧ x = .tuple #[.agg #[pv, fv, lv, ev], .int .i64 er] ∧ y = x ∧ z = .agg #[pv, fv, lv, ev] := by
  obtain ⟨pv, fv, lv, ev, h1, h2, h3, h4, -⟩ := h.c (by decide)
  exact ⟨pv, fv, lv, ev, h1, h2, h3 (by decide), h4 (by decide)⟩
theorem step4 {pv fv lv ev : Value} (h : Sa W1 g m er 3 x y z wx) (hg : g < W1.heap.size) (hI : IOwn wx W1.heap.size pv fv lv ev m) (hx : x = .tuple #[.agg #[pv, fv, lv, ev], .int .i64 er]) (hy : y = x) (hz : z = .agg #[pv, fv, lv, ev]) (hr : w'.heap[g]? = some (.cells #[pv, fv, lv, ev] 32 (0, 0))) (hgr : wx.grownBy w' (some g)) : Sa W1 g m er 4 x y z w' :=
  ⟨fun q => absurd q (by decide), grown_trans h.grown hgr, fun _ => ⟨pv, fv, lv, ev, hI.grown hgr hg, hx, fun _ => hy, fun _ => hz, fun _ => hr⟩⟩
end Sa
/-- An image's box is written: rows of the call's own lie elsewhere. -/
theorem IOwn.imKept {w w' : World} {base g : Nat} {pv fv lv ev : Value} {m : Img} {c : Array Value} (h : IOwn w base pv fv lv ev m) (hr : w.heap[g]? = some (.cells c 32 (0, 0))) (hg : w.grownBy w' (some g)) : IOwn w' base pv fv lv ev m :=
  ⟨own_kept h.p hg (fun k hk => by obtain rfl : g = k := Option.some.inj hk; exact own_not h.p hr (by decide)), own_kept h.f hg (fun k hk => by obtain rfl : g = k := Option.some.inj hk; exact own_not h.f hr (by decide)), own_kept h.l hg (fun k hk => by obtain rfl : g = k := Option.some.inj hk; exact own_not h.l hr (by decide)), own_kept h.e hg (fun k hk => by obtain rfl : g = k := Option.some.inj hk; exact own_not h.e hr (by decide)), h.ne⟩
set_option maxRecDepth 100000 in
set_option maxHeartbeats 8000000 in
theorem image10_any (b : BldD) (A : Option Addr) (cap F C : Nat) (hf : b.floors = F) (hcl : b.cars.length = C) (hF1 : 2 ≤ F) (hF2 : F ≤ 32) (hC1 : 1 ≤ C) (hC2 : C ≤ 8) (hv : validE b = 0) (ns : List Nat) (hns : ∀ z ∈ ns, z < 256) (hnl : ns.length ≤ maxLen) (vl : Value) (w : World)
    (hc : CarsAt w w.heap.size A b.cars) (hV : VV w vl (u8s ns)) (hok : ∀ r ∈ Rc.recL F C ns (min (ns.length / 2) 60), Rc.okB b r = true) :
    Calls Try.prog 9 #[b.agg A cap, vl] w fun e w' => ∃ pv fv lv ev, e = .returned (.agg #[pv, fv, lv, ev]) ∧ IOwn w' w.heap.size pv fv lv ev (rep b (Rc.recL F C ns (min (ns.length / 2) 60))) ∧ Below w.heap.size w w' := by
  have FR := Lib.hid (fun wx (hb : Below w.heap.size w wx) => records_any b A cap F C hf hcl hF1 hF2 hC1 hC2 ns hns hnl vl 60 (by decide) wx (hV.below hb))
  have hXl : (Rc.recL F C ns (min (ns.length / 2) 60)).length ≤ 60 := by rw [Rc.recL_len]; omega
  generalize Rc.recL F C ns (min (ns.length / 2) 60) = X at *
  have FI := Lib.hid (fun wx (hb : Below w.heap.size w wx) => refInitGood_any b A cap wx ((hc.below hb).more hb.size) hv)
  have HGD := Lib.hid (fun k => rep_good (b := b) hv (x := X.take k) (fun r hr => hok r (List.mem_of_mem_take hr)))
  have HEN := Lib.hid (fun k => Nat.le_trans (rep_enl b (X.take k)) (by rw [List.length_take]; omega : (X.take k).length ≤ 1000000))
  have HZ := Lib.hid (show rep b (X.take 0) = Img.init b.cars.length from rfl)
  have HXE := Lib.hid (show rep b (X.take X.length) = rep b X by rw [List.take_length])
  have HNX := Lib.hid (fun k (hk : k < X.length) => rep_take b hk)
  have FA := Lib.hid (fun k (hk : k < X.length) pv fv lv ev wx (hb : Below w.heap.size w wx) (h : ImV wx pv fv lv ev (rep b (X.take k))) => refApplyGood_any b A cap pv fv lv ev (rep b (X.take k)) X[k] wx ((hc.below hb).more hb.size) h (HEN.out k) (HGD.out k) (hok _ (List.getElem_mem hk)))
  clear hok hc hV hns hnl hf hv HGD HEN
  generalize hM : (fun k => rep b (X.take k)) = M at *
  have hM' : ∀ k, rep b (X.take k) = M k := fun k => congrFun hM k
  simp only [hM'] at HZ HXE HNX FA
  clear hM hM'
  rw [← HXE.out]
  have HZ2 := Lib.hid HZ.out
  generalize Img.init b.cars.length = i0 at *
  clear hcl
  obtain ⟨bf, bd, br, bp, be1, be2, be3, cs⟩ := b
  simp only [BldD.agg] at *
  generalize cs.length = ncs at *
  have HB0 := Lib.hid (bxs2 w (.cells #[.int .i64 bf, .int .i64 bd, .int .i64 br, .int .i64 bp, .float .f64 be1, .float .f64 be2, .float .f64 be3, .slice A ncs cap] 26) (.cells #[.slice none 0 0, .slice none 0 0, .slice none 0 0, .slice none 0 0] 32))
  go_enter Try.func9, Try.ntmps9
  go_wp2_with fail
  refine (FI.out _ HB0.out.below).mono ?_
  rintro e w1 ⟨pv, fv, lv, ev, rfl, hI, hb1⟩
  have HB1 := Lib.hid (HB0.out.next hb1)
  clear hb1 HB0
  obtain ⟨B1, d1, rfl⟩ := own_slice hI.p
  obtain ⟨B2, d2, rfl⟩ := own_slice hI.f
  obtain ⟨B3, d3, rfl⟩ := own_slice hI.l
  obtain ⟨B4, d4, rfl⟩ := own_slice hI.e
  have HI1 := Lib.hid (hI.mono (show w.heap.size ≤ _ by simp; omega))
  clear hI
  go_wp2_with (with_reducible show wpList _ _ _ (Oper.mk _ (.store 32 _ _) _ _ _ _ :: _) _ _; refine Hid.out ?_)
  refine Lib.hid ?_
  refine wpList_put rfl 32 _ _ rfl w1.heap.size #[.slice B1 i0.ph.length d1, .slice B2 i0.fl.length d2, .slice B3 i0.lv.length d3, .slice B4 i0.en.length d4] _ 32 rfl rfl (heap_alloc_new w1 _) (by kernel_rfl) rfl (by kernel_rfl) ?_
  intro w2 hr2 hg2
  have hb12 : Below w1.heap.size w1 w2 := ((Below.refl w1.heap.size w1).alloc (Nat.le_refl _) _).grown hg2.out (by simp) (fun k hk => by injection hk with hk; omega)
  have hq0 : w.heap.size < w1.heap.size := (Array.getElem?_eq_some_iff.1 HB1.out.r0).1
  have hq1 : w.heap.size + 1 < w1.heap.size := (Array.getElem?_eq_some_iff.1 HB1.out.r1).1
  have HI2 := Lib.hid (HI1.out.below hb12)
  have HB2 := Lib.hid (HB1.out.make hr2.out hb12)
  have hgw : w1.heap.size < w2.heap.size := (Array.getElem?_eq_some_iff.1 hr2.out).1
  clear hb12 hr2 hg2 HI1 HB1
  generalize w1.heap.size = gm at *
  have c1_0 : w2.cell? ⟨w.heap.size, 0, none⟩ = some (.int .i64 bf) := cell_of_row _ _ _ _ _ (0, 0) HB2.out.r1
  have c1_1 : w2.cell? ⟨w.heap.size, 1, none⟩ = some (.int .i64 bd) := cell_of_row _ _ _ _ _ (0, 0) HB2.out.r1
  have c1_2 : w2.cell? ⟨w.heap.size, 2, none⟩ = some (.int .i64 br) := cell_of_row _ _ _ _ _ (0, 0) HB2.out.r1
  have c1_3 : w2.cell? ⟨w.heap.size, 3, none⟩ = some (.int .i64 bp) := cell_of_row _ _ _ _ _ (0, 0) HB2.out.r1
  have c1_4 : w2.cell? ⟨w.heap.size, 4, none⟩ = some (.float .f64 be1) := cell_of_row _ _ _ _ _ (0, 0) HB2.out.r1
  have c1_5 : w2.cell? ⟨w.heap.size, 5, none⟩ = some (.float .f64 be2) := cell_of_row _ _ _ _ _ (0, 0) HB2.out.r1
  have c1_6 : w2.cell? ⟨w.heap.size, 6, none⟩ = some (.float .f64 be3) := cell_of_row _ _ _ _ _ (0, 0) HB2.out.r1
  have c1_7 : w2.cell? ⟨w.heap.size, 7, none⟩ = some (.slice A ncs cap) := cell_of_row _ _ _ _ _ (0, 0) HB2.out.r1
  go_wp2_with fail
  refine (FR.out _ HB2.out.below).mono ?_
  rintro e w3 ⟨u, rfl, ⟨xA, xc, rfl, hx⟩, hb3⟩
  have HI3 := Lib.hid (HI2.out.below hb3)
  have HX := Lib.hid hx
  clear hx HI2
  have HB3 := Lib.hid (HB2.out.next hb3)
  clear c1_0 c1_1 c1_2 c1_3 c1_4 c1_5 c1_6 c1_7 hb3 HB2
  go_wp2_with fail
  clear FI FR
  go_loopw [7] (fun vi wr => ∃ (k : Nat) (pv fv lv ev : Value), k ≤ X.length ∧ vi = .int .i64 k ∧ IOwn wr w.heap.size pv fv lv ev (M k) ∧ RAt wr xA X ∧ Bx w [(gm, .cells #[pv, fv, lv, ev] 32 (0, 0)), (w.heap.size, .cells #[.int .i64 bf, .int .i64 bd, .int .i64 br, .int .i64 bp, .float .f64 be1, .float .f64 be2, .float .f64 be3, .slice A ncs cap] 26 (0, 0)), (w.heap.size + 1, .cells #[.slice none 0 0, .slice none 0 0, .slice none 0 0, .slice none 0 0] 32 (0, 0))] wr) (fun vi _ => X.length - (intOf vi).toNat)
  case atStart => exact ⟨0, _, _, _, _, Nat.zero_le _, rfl, by rw [HZ.out]; exact HI3.out, HX.out, HB3.out⟩
  case round =>
    obtain ⟨k, pv, fv, lv, ev, hk, rfl, hI, hx, hbr⟩ := hrel
    obtain ⟨C1, f1, rfl⟩ := own_slice hI.p
    obtain ⟨C2, f2, rfl⟩ := own_slice hI.f
    obtain ⟨C3, f3, rfl⟩ := own_slice hI.l
    obtain ⟨C4, f4, rfl⟩ := own_slice hI.e
    have HI := Lib.hid hI
    have HXR := Lib.hid hx
    have HBR := Lib.hid hbr
    clear hI hx hbr HI3 HX HB3
    have hgr : gm < wr.heap.size := (Array.getElem?_eq_some_iff.1 HBR.out.r0).1
    by_cases hlt : k < X.length
    · have hlI : (k : Int) < (X.length : Int) := by omega
      have hlB : decide ((k : Int) < (X.length : Int)) = true := decide_eq_true hlI
      obtain ⟨bb, off, rfl, hbb, c0, c1, c2, c3, c4⟩ := HXR.out.at_ hlt
      have FAX := Lib.hid (fun pv fv lv ev wx hb h => FA.out k hlt pv fv lv ev wx hb h)
      have HN1 := Lib.hid (HNX.out k hlt)
      generalize X[k] = x at *
      rw [← HN1.out] at FAX
      obtain ⟨x1, x2, x3, x4, x5⟩ := x
      simp only [Rc.agg] at FAX
      simp only at c0 c1 c2 c3 c4
      have HRC := Lib.hid (fun (wx : World) (h : Below wr.heap.size wr wx) => (⟨(h.cell (p := ⟨bb, _, none⟩) hbb).trans c0, (h.cell (p := ⟨bb, _, none⟩) hbb).trans c1, (h.cell (p := ⟨bb, _, none⟩) hbb).trans c2, (h.cell (p := ⟨bb, _, none⟩) hbb).trans c3, (h.cell (p := ⟨bb, _, none⟩) hbb).trans c4⟩ : wx.cell? ⟨bb, off + k * 5, none⟩ = some (.int .i64 x1) ∧ wx.cell? ⟨bb, off + k * 5 + 1, none⟩ = some (.int .i64 x2) ∧ wx.cell? ⟨bb, off + k * 5 + 2, none⟩ = some (.int .i64 x3) ∧ wx.cell? ⟨bb, off + k * 5 + 3, none⟩ = some (.int .i64 x4) ∧ wx.cell? ⟨bb, off + k * 5 + 4, none⟩ = some (.int .i64 x5)))
      clear c0 c1 c2 c3 c4
      go_wp2_with fail
      refine ghostM [6, 7, 8, 10] (fun p γ L wx => Sa wr gm (M (k + 1)) 0 p (γ 6) (γ 7) (γ 8) wx) (by kernel_rfl) (by kernel_rfl) (fun γ => Sa.start) ?_
      apply GM.walk_plain (by kernel_rfl) (by kernel_rfl) (fun γ => by rfl)
      · intro γ L p wx h1 h2 hup hlo hS K hK
        have hbl := hS.bl (hup 3 10 rfl (by kernel_rfl))
        have HXx := HBR.out.next hbl
        obtain ⟨b0, b1, b2, b3, b4, b5, b6, b7⟩ := boxRow HXx.r1
        obtain ⟨q0, q1, q2, q3⟩ := imRowCells HXx.r0
        obtain ⟨c0, c1, c2, c3, c4⟩ := HRC.out wx hbl
        clear hbl HXx
        have HK2 := Lib.hid hK
        have HS := Lib.hid hS
        clear hK h1 h2 hup hlo hS
        go_simp
        exact HK2.out _ HS.out
      try simp only [Act.put, List.setIfInBounds_toArray, List.set_cons_succ, List.set_cons_zero]
      apply GM.walk_plain (by kernel_rfl) (by kernel_rfl) (fun γ => by rfl)
      · intro γ L p wx h1 h2 hup hlo hS K hK
        have hbl := hS.bl (hup 3 10 rfl (by kernel_rfl))
        have HXx := HBR.out.next hbl
        obtain ⟨b0, b1, b2, b3, b4, b5, b6, b7⟩ := boxRow HXx.r1
        obtain ⟨q0, q1, q2, q3⟩ := imRowCells HXx.r0
        obtain ⟨c0, c1, c2, c3, c4⟩ := HRC.out wx hbl
        clear hbl HXx
        have HK2 := Lib.hid hK
        have HS := Lib.hid hS
        clear hK h1 h2 hup hlo hS
        go_simp
        exact HK2.out _ HS.out
      try simp only [Act.put, List.setIfInBounds_toArray, List.set_cons_succ, List.set_cons_zero]
      apply GM.walk_plain (by kernel_rfl) (by kernel_rfl) (fun γ => by rfl)
      · intro γ L p wx h1 h2 hup hlo hS K hK
        have hbl := hS.bl (hup 3 10 rfl (by kernel_rfl))
        have HXx := HBR.out.next hbl
        obtain ⟨b0, b1, b2, b3, b4, b5, b6, b7⟩ := boxRow HXx.r1
        obtain ⟨q0, q1, q2, q3⟩ := imRowCells HXx.r0
        obtain ⟨c0, c1, c2, c3, c4⟩ := HRC.out wx hbl
        clear hbl HXx
        have HK2 := Lib.hid hK
        have HS := Lib.hid hS
        clear hK h1 h2 hup hlo hS
        go_simp
        exact HK2.out _ HS.out
      try simp only [Act.put, List.setIfInBounds_toArray, List.set_cons_succ, List.set_cons_zero]
      apply GM.walk_plain (by kernel_rfl) (by kernel_rfl) (fun γ => by rfl)
      · intro γ L p wx h1 h2 hup hlo hS K hK
        have hbl := hS.bl (hup 3 10 rfl (by kernel_rfl))
        have HXx := HBR.out.next hbl
        obtain ⟨b0, b1, b2, b3, b4, b5, b6, b7⟩ := boxRow HXx.r1
        obtain ⟨q0, q1, q2, q3⟩ := imRowCells HXx.r0
        obtain ⟨c0, c1, c2, c3, c4⟩ := HRC.out wx hbl
        clear hbl HXx
        have HK2 := Lib.hid hK
        have HS := Lib.hid hS
        clear hK h1 h2 hup hlo hS
        go_simp
        exact HK2.out _ HS.out
      try simp only [Act.put, List.setIfInBounds_toArray, List.set_cons_succ, List.set_cons_zero]
      apply GM.walk_plain (by kernel_rfl) (by kernel_rfl) (fun γ => by rfl)
      · intro γ L p wx h1 h2 hup hlo hS K hK
        have hbl := hS.bl (hup 3 10 rfl (by kernel_rfl))
        have HXx := HBR.out.next hbl
        obtain ⟨b0, b1, b2, b3, b4, b5, b6, b7⟩ := boxRow HXx.r1
        obtain ⟨q0, q1, q2, q3⟩ := imRowCells HXx.r0
        obtain ⟨c0, c1, c2, c3, c4⟩ := HRC.out wx hbl
        clear hbl HXx
        have HK2 := Lib.hid hK
        have HS := Lib.hid hS
        clear hK h1 h2 hup hlo hS
        go_simp
        exact HK2.out _ HS.out
      try simp only [Act.put, List.setIfInBounds_toArray, List.set_cons_succ, List.set_cons_zero]
      apply GM.walk_plain (by kernel_rfl) (by kernel_rfl) (fun γ => by rfl)
      · intro γ L p wx h1 h2 hup hlo hS K hK
        have hbl := hS.bl (hup 3 10 rfl (by kernel_rfl))
        have HXx := HBR.out.next hbl
        obtain ⟨b0, b1, b2, b3, b4, b5, b6, b7⟩ := boxRow HXx.r1
        obtain ⟨q0, q1, q2, q3⟩ := imRowCells HXx.r0
        obtain ⟨c0, c1, c2, c3, c4⟩ := HRC.out wx hbl
        clear hbl HXx
        have HK2 := Lib.hid hK
        have HS := Lib.hid hS
        clear hK h1 h2 hup hlo hS
        go_simp
        exact HK2.out _ HS.out
      try simp only [Act.put, List.setIfInBounds_toArray, List.set_cons_succ, List.set_cons_zero]
      apply GM.walk_turn 0 rfl (by kernel_rfl) (by decide) (.inl rfl) (fun γ => by rfl)
      · intro γ L wx h1 h2 hS K hK
        have hbl := hS.bl (by decide)
        have HK2 := Lib.hid hK
        have HS := Lib.hid hS
        clear hK h1 h2 hS
        go_simp
        go_at_call 18
        refine (FAX.out _ _ _ _ wx (HBR.out.next hbl).below (HI.out.below hbl).view).mono ?_
        rintro e w' ⟨pv', fv', lv', ev', rfl, hI', hb'⟩
        exact HK2.out _ _ (HS.out.step1 hI' hb')
      try simp only [Act.put, List.setIfInBounds_toArray, List.set_cons_succ, List.set_cons_zero]
      apply GM.walk_turn 1 rfl (by kernel_rfl) (by decide) (.inr ⟨6, rfl, by kernel_rfl⟩) (fun γ => by rfl)
      · intro γ L wx h1 h2 hS K hK
        have HK2 := Lib.hid hK
        have HS := Lib.hid hS
        clear hK h1 h2 hS
        go_simp
        exact HK2.out (γ 6) _ HS.out.step2
      try simp only [Act.put, List.setIfInBounds_toArray, List.set_cons_succ, List.set_cons_zero]
      apply GM.walk_turn 2 rfl (by kernel_rfl) (by decide) (.inr ⟨7, rfl, by kernel_rfl⟩) (fun γ => by rfl)
      · intro γ L wx h1 h2 hS K hK
        obtain ⟨pv', fv', lv', ev', hI', hx', hy'⟩ := hS.tup (by decide)
        have HK2 := Lib.hid hK
        have HS := Lib.hid (hS.step3 hI' hx')
        rw [hy'] at HK2 ⊢
        clear hK h1 h2 hS hy' hx' hI'
        go_simp
        exact HK2.out (.agg #[pv', fv', lv', ev']) _ HS.out
      try simp only [Act.put, List.setIfInBounds_toArray, List.set_cons_succ, List.set_cons_zero]
      apply GM.walk_plain (by kernel_rfl) (by kernel_rfl) (fun γ => by rfl)
      · intro γ L p wx h1 h2 hup hlo hS K hK
        obtain ⟨pv', fv', lv', ev', -, -, hy'⟩ := hS.tup (by have := hlo 1 7 rfl (h2 7 (by kernel_rfl)); omega)
        have HK2 := Lib.hid hK
        have HS := Lib.hid hS
        clear hK h1 h2 hup hlo hS
        rw [hy'] at HK2 ⊢
        clear hy'
        go_simp
        exact HK2.out _ HS.out
      try simp only [Act.put, List.setIfInBounds_toArray, List.set_cons_succ, List.set_cons_zero]
      apply GM.walk_turn 3 rfl (by kernel_rfl) (by decide) (.inr ⟨8, rfl, by kernel_rfl⟩) (fun γ => by rfl)
      · intro γ L wx h1 h2 hS K hK
        obtain ⟨pv', fv', lv', ev', hI', hx', hy', hz'⟩ := hS.img
        have hr0 := ((hS.bl (by decide)).block gm (by omega)).trans HBR.out.r0
        exact wp_put 32 (.tmp 5) (.tmp 27) rfl gm #[pv', fv', lv', ev'] _ _ rfl hz' hr0 (by kernel_rfl) rfl (one4 hI') (fun w' hr hgr' => hK undef w' (hS.step4 hgr hI' hx' hy' hz' hr.out hgr'.out))
      try simp only [Act.put]
      refine GhostV.walk_nil (fun γ L w4 hall hx => ?_)
      have hSa : Sa wr gm (M (k + 1)) 0 4 (γ 6) (γ 7) (γ 8) w4 := hx.done (fun t ht => hall t (by simp only [List.mem_cons, List.not_mem_nil, or_false] at ht; rcases ht with rfl | rfl | rfl | rfl <;> decide))
      clear hx hall
      obtain ⟨pv', fv', lv', ev', hI', -, -, -, hrow⟩ := hSa.c (by decide)
      have hrow := hrow (by decide)
      have hx4 := HXR.out.imPut HBR.out.r0 hSa.grown
      have HB4 := Lib.hid (HBR.out.put (show w.heap.size ≤ gm by omega) hSa.grown hrow (L2 := [(gm, .cells #[pv', fv', lv', ev'] 32 (0, 0)), (w.heap.size, .cells #[.int .i64 bf, .int .i64 bd, .int .i64 br, .int .i64 bp, .float .f64 be1, .float .f64 be2, .float .f64 be3, .slice A ncs cap] 26 (0, 0)), (w.heap.size + 1, .cells #[.slice none 0 0, .slice none 0 0, .slice none 0 0, .slice none 0 0] 32 (0, 0))]) (by simp only [List.mem_cons, List.not_mem_nil, or_false]; rintro p (rfl | rfl | rfl) <;> simp <;> omega))
      have HF := Lib.hid (And.intro (hI'.mono (show w.heap.size ≤ wr.heap.size from HBR.out.below.size)) hx4)
      clear hSa hI' hrow hx4
      generalize γ 6 = v6 at *
      generalize γ 7 = v7 at *
      generalize γ 8 = v8 at *
      go_wp2_with fail
      go_roundw
      case rel => exact ⟨k + 1, pv', fv', lv', ev', by omega, by go_num, HF.out.1, HF.out.2, HB4.out⟩
      case measure => simp [intOf]; omega
    · obtain rfl : k = X.length := by omega
      have hlI : ¬ (X.length : Int) < (X.length : Int) := by omega
      have c0_0 : wr.cell? ⟨gm, 0, none⟩ = some (.slice C1 (M X.length).ph.length f1) := cell_of_row _ _ _ _ _ (0, 0) HBR.out.r0
      have c0_1 : wr.cell? ⟨gm, 1, none⟩ = some (.slice C2 (M X.length).fl.length f2) := cell_of_row _ _ _ _ _ (0, 0) HBR.out.r0
      have c0_2 : wr.cell? ⟨gm, 2, none⟩ = some (.slice C3 (M X.length).lv.length f3) := cell_of_row _ _ _ _ _ (0, 0) HBR.out.r0
      have c0_3 : wr.cell? ⟨gm, 3, none⟩ = some (.slice C4 (M X.length).en.length f4) := cell_of_row _ _ _ _ _ (0, 0) HBR.out.r0
      go_wp2_with (with_reducible show wpList _ _ _ (Oper.mk _ (.store 32 _ _) _ _ _ _ :: _) _ _; refine Hid.out ?_)
      refine Lib.hid ?_
      refine wpList_put rfl 32 _ _ rfl (w.heap.size + 1) #[.slice C1 (M X.length).ph.length f1, .slice C2 (M X.length).fl.length f2, .slice C3 (M X.length).lv.length f3, .slice C4 (M X.length).en.length f4] _ 32 rfl rfl HBR.out.r2 (by kernel_rfl) rfl (by kernel_rfl) ?_
      intro w10 hr10 hg10
      have HI9 := Lib.hid (HI.out.imKept HBR.out.r2 hg10.out)
      have HB10 : Hid (Bx w [(gm, .cells #[.slice C1 (M X.length).ph.length f1, .slice C2 (M X.length).fl.length f2, .slice C3 (M X.length).lv.length f3, .slice C4 (M X.length).en.length f4] 32 (0, 0)), (w.heap.size, .cells #[.int .i64 bf, .int .i64 bd, .int .i64 br, .int .i64 bp, .float .f64 be1, .float .f64 be2, .float .f64 be3, .slice A ncs cap] 26 (0, 0)), (w.heap.size + 1, .cells #[.slice C1 (M X.length).ph.length f1, .slice C2 (M X.length).fl.length f2, .slice C3 (M X.length).lv.length f3, .slice C4 (M X.length).en.length f4] 32 (0, 0))] w10) := Lib.hid (HBR.out.put (by omega) hg10.out hr10.out (by simp only [List.mem_cons, List.not_mem_nil, or_false]; rintro p (rfl | rfl | rfl) <;> simp <;> omega))
      clear c0_0 c0_1 c0_2 c0_3 hr10 hg10 HBR
      go_wp2_with fail
      exact bodyPost_ret (results_cell_row Try.results9 _ _ _ _ _ (0, 0) _ rfl (HB10.out.r2) Try.underlying32 rfl (by kernel_rfl)) rfl (⟨_, _, _, _, rfl, HI9.out, HB10.out.below⟩)
end Go.Proofs.Ytmonbldmgmmnbaa
