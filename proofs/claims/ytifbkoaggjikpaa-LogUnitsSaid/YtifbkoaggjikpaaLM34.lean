/- What the texts behind this one rest on: several texts in one. No statement of the seat is proved here. -/
import Derived.Test.YtifbkoaggjikpaaLM33
import Derived.BigQuiet
import Derived.ChangeKeysEq
import Derived.Test.YtifbkoaggjikpaaLM03
import Derived.Test.YtifbkoaggjikpaaLM08
import Derived.Test.YtifbkoaggjikpaaLM10
import Derived.Test.YtifbkoaggjikpaaLM21
namespace Go.Proofs.Ytifbkoaggjikpaa
section
open Go.RowKit Lg Img St GhostV

/-- What Recover hands back of a store, whose image is m. -/
def recG (b : BldD) (s : St) (m : Img) (bud : Int) : St × Img × Int × Int :=
  if (compactF b s m bud).2.2 = 0 then ((compactF b s m bud).1, m, (compactF b s m bud).2.1, 0) else ((compactF b s m bud).1, Img.zero, 0, (compactF b s m bud).2.2)
theorem rpl_small {b : BldD} {s : ByteArray} {m : Img} (hv : validE b = 0) (h : Rpl b (bl s) m) : Img.Good b m ∧ m.en.length * 6 ≤ s.size := by
  obtain ⟨k, hk, rfl⟩ := h
  have hx : ∀ r ∈ Rc.recsOf b (bl s) k, Rc.okB b r = true := fun r hr => by
    unfold Rc.recsOf at hr
    obtain ⟨i, hi, rfl⟩ := List.mem_map.1 hr
    have h0 := hk.1 i (List.mem_range.1 hi)
    unfold Rc.decR
    rw [if_pos h0]
    unfold Rc.decE at h0
    split at h0
    · omega
    split at h0
    · omega
    split at h0
    · omega
    split at h0
    · assumption
    · omega
  refine ⟨rep_good hv hx, ?_⟩
  have h1 := rep_enl b (Rc.recsOf b (bl s) k)
  rw [Rc.recsOf_len] at h1
  have h2 := Rc.runB_le hk.1
  have h3 : (bl s).length = s.size := by unfold bl; simp
  omega

set_option maxRecDepth 100000 in
set_option maxHeartbeats 32000000 in
theorem recoverGood_any (b : BldD) (A : Option Addr) (cap : Nat) (s : St) (bud : Int) (w : World) (hv : validE b = 0) (hc : CarsAt w w.heap.size A b.cars) (hbud : I64 bud) (hV : (St.isB b.room s && decide (0 ≤ bud)) = true) :
    Calls Try.prog 20 #[b.agg A cap, s.agg, .int .i64 bud] w fun e w' => ∃ m, Rpl b (bl s.cur) m ∧ AppEnd w (recG b s m bud) e w' := by
  have hC := (fine_of hv).cars
  have FW := Lib.hid (fun wx => canWork_any b A cap s bud wx)
  have hB : St.isB b.room s = true := by simp only [Bool.and_eq_true] at hV; exact hV.1
  rw [hV] at FW
  have h1 := cur_size hB
  have h0 := St.isB_of hB
  have h4 : s.cur.size ≤ 65536 := by unfold St.cur; split <;> omega
  have FR := Lib.hid (fun wx (hb : Below w.heap.size w wx) => replay_any b A cap s wx hv ((hc.below hb).more hb.size) (by omega))
  have FC := Lib.hid (fun m wx pv fv lv ev (hb : Below w.heap.size w wx) (hm : Rpl b (bl s.cur) m) (hi : ImV wx pv fv lv ev m) => by
    have h2 := rpl_small hv hm
    have h3 := h2.1.ph
    exact compact_any b A cap s pv fv lv ev m bud wx (by omega) ((hc.below hb).more hb.size) hi (by omega) (by omega) hbud)
  have HF := Lib.hid (fun m => (show recG b s m bud = (if (compactF b s m bud).2.2 = 0 then ((compactF b s m bud).1, m, (compactF b s m bud).2.1, 0) else ((compactF b s m bud).1, Img.zero, 0, (compactF b s m bud).2.2)) from rfl))
  generalize hRG : (fun m => recG b s m bud) = RGF at *
  have hRG' : ∀ m, recG b s m bud = RGF m := fun m => congrFun hRG m
  generalize hCF : (fun m => compactF b s m bud) = CF at *
  have hCF' : ∀ m, compactF b s m bud = CF m := fun m => congrFun hCF m
  simp only [hRG', hCF'] at *
  clear hRG hRG' hCF hCF' h1 h0 h4 hB hV hC hv hc hbud
  generalize Rpl b (bl s.cur) = RP at *
  obtain ⟨f, d, rr, p, e1, e2, e3, cs⟩ := b
  obtain ⟨s1, s2, s3⟩ := s
  simp only [BldD.agg, St.agg, ans] at *
  go_enter Try.func20, Try.ntmps20
  go_wp2_with fail
  refine (FW.out _).mono ?_
  rintro e w1 ⟨rfl, hb⟩
  rw [size4] at hb
  obtain ⟨r1, r2, -, -⟩ := boxes4 hb
  obtain ⟨k0, k1, k2, k3, k4, k5, k6, k7⟩ := boxRow r1
  obtain ⟨z0, z1, z2⟩ := stRow r2
  have HB1 := Lib.hid hb
  have hz1 : w.heap.size + 4 ≤ w1.heap.size := by have := hb.size; rw [size4] at this; exact this
  clear r1 r2 hb
  go_wp2_with fail
  refine (FR.out _ (below4 HB1.out)).mono ?_
  rintro e w2 ⟨m, pv, fv, lv, ev, rfl, hm, hown, hb⟩
  have hb2 := HB1.out.trans (hb.mono hz1)
  have HM := Lib.hid hm
  obtain ⟨D1, g1, e1'⟩ := own_slice hown.p
  obtain ⟨D2, g2, e2'⟩ := own_slice hown.f
  obtain ⟨D3, g3, e3'⟩ := own_slice hown.l
  obtain ⟨D4, g4, e4'⟩ := own_slice hown.e
  subst e1' e2' e3' e4'
  have HROW := Lib.hid (boxes4 hb2)
  have HB := Lib.hid (below4 hb2)
  have hz : w.heap.size + 4 ≤ w2.heap.size := by have := hb.size; omega
  have HOW := Lib.hid (hown.mono hz1)
  have rg := heap_alloc_new w2 (.cells #[.slice none 0 0, .slice none 0 0, .slice none 0 0, .slice none 0 0] 32)
  have HAL := Lib.hid (fun k (hk : k < w2.heap.size) => Below.heap_alloc w2 (.cells #[.slice none 0 0, .slice none 0 0, .slice none 0 0, .slice none 0 0] 32) k hk)
  have HBA := Lib.hid (HB.out.trans ((Below.refl w2.heap.size w2).alloc (Nat.le_refl _) (.cells #[.slice none 0 0, .slice none 0 0, .slice none 0 0, .slice none 0 0] 32) |>.mono (by omega)))
  clear hb hb2 hown hm k0 k1 k2 k3 k4 k5 k6 k7 z0 z1 z2 HB1 hz1
  generalize m.ph.length = l1 at *
  generalize m.fl.length = l2 at *
  generalize m.lv.length = l3 at *
  generalize m.en.length = l4 at *
  go_wp2_with (with_reducible show wpList _ _ _ (Oper.mk _ (.store 32 _ _) _ _ _ _ :: _) _ _; refine wpList_put rfl 32 _ _ rfl w2.heap.size #[.slice D1 l1 g1, .slice D2 l2 g2, .slice D3 l3 g3, .slice D4 l4 g4] _ 32 rfl rfl rg (by kernel_rfl) rfl (by kernel_rfl) ?_; intro w3 hr3 hg3; refine Hid.out ?_)
  obtain ⟨r1, r2, r3, r4⟩ := HROW.out
  have hbk := fun k (hk : k < w2.heap.size) => (hg3.out.block k (by simp; omega) (fun e => by have := Option.some.inj e; omega)).trans (HAL.out k hk)
  have R1 := Lib.hid ((hbk w.heap.size (by omega)).trans r1)
  have R2 := Lib.hid ((hbk (w.heap.size + 1) (by omega)).trans r2)
  have R3 := Lib.hid ((hbk (w.heap.size + 2) (by omega)).trans r3)
  have R4 := Lib.hid ((hbk (w.heap.size + 3) (by omega)).trans r4)
  have HO3 := Lib.hid (HOW.out.blocks (fun j _ hj => hbk j hj))
  have HB3 := Lib.hid (HBA.out.trans (below_grown hg3.out (by simp; omega) (fun k hk => by injection hk with hk; omega)))
  have hz3 : w2.heap.size < w3.heap.size := by have := hg3.out.size; simp at this; omega
  have RG := Lib.hid hr3.out
  clear hbk r1 r2 r3 r4 hr3 hg3 rg HAL HBA HOW HROW HB
  refine Lib.hid ?_
  generalize w2.heap.size = g at *
  obtain ⟨k0, k1, k2, k3, k4, k5, k6, k7⟩ := boxRow R1.out
  obtain ⟨z0, z1, z2⟩ := stRow R2.out
  obtain ⟨d0, d1, d2, d3⟩ := imRowCells RG.out
  have FC1 := Lib.hid (FC.out m w3 _ _ _ _ HB3.out HM.out HO3.out.view)
  have HF1 := Lib.hid (HF.out m)
  clear FC HF
  generalize CF m = C at *
  obtain ⟨⟨xa, xb, xs⟩, xn, xc⟩ := C
  simp only at FC1 HF1
  go_wp2_with fail
  refine FC1.out.mono ?_
  rintro e w5 ⟨rfl, hb5⟩
  have HB5 := Lib.hid hb5
  have hz5 : g < w5.heap.size := by have := hb5.size; omega
  have r2 := (hb5.block (w.heap.size + 1) (by omega)).trans R2.out
  clear hb5 k0 k1 k2 k3 k4 k5 k6 k7 z0 z1 z2 d0 d1 d2 d3
  go_wp2_with (with_reducible show wpList _ _ _ (Oper.mk _ (.store 47 _ _) _ _ _ _ :: _) _ _; refine wpList_put rfl 47 _ _ rfl (w.heap.size + 1) #[.string xa, .string xb, .int .i64 xs] _ 47 rfl rfl r2 (by kernel_rfl) rfl (by kernel_rfl) ?_; intro w6 hr6 hg6; refine Hid.out ?_)
  have hne := fun k (hk : k < w3.heap.size) (hn : k ≠ w.heap.size + 1) => (hg6.out.block k (Nat.lt_of_lt_of_le hk HB5.out.size) (fun e => hn (Option.some.inj e))).trans (HB5.out.block k hk)
  have P3 := Lib.hid ((hne (w.heap.size + 2) (by omega) (by omega)).trans R3.out)
  have P4 := Lib.hid ((hne (w.heap.size + 3) (by omega) (by omega)).trans R4.out)
  have PG := Lib.hid ((hne g (by omega) (by omega)).trans RG.out)
  have HO6 := Lib.hid (HO3.out.blocks (fun j hj hj2 => hne j hj2 (by omega)))
  have HB6 := Lib.hid ((HB3.out.trans (HB5.out.mono (by omega))).trans (below_grown hg6.out (by omega) (fun k hk => by injection hk with hk; omega)))
  have hz6 : g < w6.heap.size := by have := hg6.out.size; omega
  have RS := Lib.hid hr6.out
  clear r2 hne hr6 hg6 R1 R2 R3 R4 RG FC1
  by_cases hx0 : xc = 0
  case pos =>
    subst hx0
    have HRG : Hid (RGF m = (⟨xa, xb, xs⟩, m, xn, 0)) := Lib.hid (by rw [HF1.out]; simp)
    clear HF1
    refine Lib.hid ?_
    go_wp2_with fail
    refine GhostV.ghost (fun γ L wx => GD (w6) (w.heap.size + 2) #[.string ⟨#[]⟩, .string ⟨#[]⟩, .int .i64 0] #[.string xa, .string xb, .int .i64 xs] 47 (w.heap.size + 3) #[.slice none 0 0, .slice none 0 0, .slice none 0 0, .slice none 0 0] 32 1 3 4 (pdK w6.heap.size #[.slice D1 l1 g1, .slice D2 l2 g2, .slice D3 l3 g3, .slice D4 l4 g4] 4 rfl (by simp [Value.oneCell'])) γ L wx) (by kernel_rfl) (by kernel_rfl) (fun γ => GD.start γ (P3.out) (P4.out)) ?_
    apply GhostV.walk_const (fun γ => by rfl)
    · intro γ L wx h1 h2 hx K hK
      obtain ⟨z0, z1, z2⟩ := stRow ((hx.other (w.heap.size + 1) (by omega) (by omega) (by omega)).trans RS.out)
      obtain ⟨d0, d1, d2, d3⟩ := imRowCells ((hx.other g (by omega) (by omega) (by omega)).trans PG.out)
      have H1 := Lib.hid h1
      have H2 := Lib.hid h2
      have HK2 := Lib.hid hK
      have HX := Lib.hid hx
      clear hK h1 h2 hx
      go_simp
      first
        | exact HK2.out _ (HX.out.next _ (by decide) (by decide) (by decide) (Below.refl _ _))
    try simp only [Act.put, List.setIfInBounds_toArray, List.set_cons_succ, List.set_cons_zero]
    refine GhostV.walk_yes (fun b => b) (fun γ => by rfl) ?_ ?_
    · intro γ L wx h1 h2 hx K hK
      obtain ⟨z0, z1, z2⟩ := stRow ((hx.other (w.heap.size + 1) (by omega) (by omega) (by omega)).trans RS.out)
      obtain ⟨d0, d1, d2, d3⟩ := imRowCells ((hx.other g (by omega) (by omega) (by omega)).trans PG.out)
      have H1 := Lib.hid h1
      have H2 := Lib.hid h2
      have HK2 := Lib.hid hK
      have HX := Lib.hid hx
      clear hK h1 h2 hx
      go_simp
      (exact HK2.out (.agg #[.slice D1 l1 g1, .slice D2 l2 g2, .slice D3 l3 g3, .slice D4 l4 g4]) _ (HX.out.make #[.slice D1 l1 g1, .slice D2 l2 g2, .slice D3 l3 g3, .slice D4 l4 g4] (by decide) (by decide) rfl (Below.refl _ _)))
    try simp only [Act.put, List.setIfInBounds_toArray, List.set_cons_succ, List.set_cons_zero]
    apply GhostV.walk_const (fun γ => by rfl)
    · intro γ L wx h1 h2 hx K hK
      obtain ⟨z0, z1, z2⟩ := stRow ((hx.other (w.heap.size + 1) (by omega) (by omega) (by omega)).trans RS.out)
      obtain ⟨d0, d1, d2, d3⟩ := imRowCells ((hx.other g (by omega) (by omega) (by omega)).trans PG.out)
      have H1 := Lib.hid h1
      have H2 := Lib.hid h2
      have HK2 := Lib.hid hK
      have HX := Lib.hid hx
      clear hK h1 h2 hx
      go_simp
      first
        | exact HK2.out _ (HX.out.next _ (by decide) (by decide) (by decide) (Below.refl _ _))
    try simp only [Act.put, List.setIfInBounds_toArray, List.set_cons_succ, List.set_cons_zero]
    refine GhostV.walk_const (v := undef) (fun γ => by rfl) ?_ ?_
    · intro γ L wx h1 h2 hx K hK
      exact GD.store1 hx h1 (by omega) (by omega) (by decide) (by decide) 47 _ _ rfl rfl rfl (by kernel_rfl) rfl (by kernel_rfl) (fun w2 h => hK _ h)
    try simp only [Act.put]
    refine GhostV.walk_const (v := undef) (fun γ => by rfl) ?_ ?_
    · intro γ L wx h1 h2 hx K hK
      exact GD.store2 hx (h2 1 (by kernel_rfl)) (by omega) (by omega) (by decide) (by decide) 32 _ _ rfl rfl rfl (by kernel_rfl) (fun w2 h => hK _ h)
    try simp only [Act.put]
    apply GhostV.walk_const (fun γ => by rfl)
    · intro γ L wx h1 h2 hx K hK
      obtain ⟨z0, z1, z2⟩ := stRow ((hx.other (w.heap.size + 1) (by omega) (by omega) (by omega)).trans RS.out)
      obtain ⟨d0, d1, d2, d3⟩ := imRowCells ((hx.other g (by omega) (by omega) (by omega)).trans PG.out)
      have H1 := Lib.hid h1
      have H2 := Lib.hid h2
      have HK2 := Lib.hid hK
      have HX := Lib.hid hx
      clear hK h1 h2 hx
      go_simp
      first
        | exact HK2.out _ (HX.out.next _ (by decide) (by decide) (by decide) (Below.refl _ _))
    try simp only [Act.put, List.setIfInBounds_toArray, List.set_cons_succ, List.set_cons_zero]
    apply GhostV.walk_const (fun γ => by rfl)
    · intro γ L wx h1 h2 hx K hK
      obtain ⟨z0, z1, z2⟩ := stRow ((hx.other (w.heap.size + 1) (by omega) (by omega) (by omega)).trans RS.out)
      obtain ⟨d0, d1, d2, d3⟩ := imRowCells ((hx.other g (by omega) (by omega) (by omega)).trans PG.out)
      have H1 := Lib.hid h1
      have H2 := Lib.hid h2
      have HK2 := Lib.hid hK
      have HX := Lib.hid hx
      clear hK h1 h2 hx
      go_simp
      first
        | exact HK2.out _ (HX.out.next _ (by decide) (by decide) (by decide) (Below.refl _ _))
    try simp only [Act.put, List.setIfInBounds_toArray, List.set_cons_succ, List.set_cons_zero]
    refine GhostV.walk_nil (fun γ L w7 hall hx => ?_)
    obtain ⟨c, hc, -, hp⟩ := hx.row2
    obtain rfl := hp (hall 4 (by decide))
    have h1 := hx.row1
    rw [hall 3 (by decide), if_pos rfl] at h1
    have HO7 := Lib.hid (HO6.out.blocks (fun j hj hj2 => hx.other j hj2 (by omega) (by omega)))
    have HB7 := Lib.hid (HB6.out.trans (hx.below (B := w.heap.size) (by omega) (by omega) (by omega)))
    clear hx hall hp
    try go_wp2_with fail
    exact bodyPost_ret (resultsSI Try.results20 _ _ _ _ _ _ _ _ _ _ _ _ _ rfl rfl rfl rfl h1 hc) rfl ⟨m, HM.out, by rw [HRG.out]; exact ⟨_, _, _, _, rfl, HO7.out.mono (by omega), HB7.out⟩⟩
  case neg =>
    have HRG : Hid (RGF m = (⟨xa, xb, xs⟩, Img.zero, 0, xc)) := Lib.hid (by rw [HF1.out]; simp [hx0])
    have hn0 : (xc != 0) = true := by simp [hx0]
    have r3' := P3.out
    have r4' := P4.out
    have HBc := HB6
    have hzc : w.heap.size + 4 ≤ w6.heap.size := by omega
    obtain ⟨z0, z1, z2⟩ := stRow RS.out
    clear hx0 HF1
    refine Lib.hid ?_
    go_wp2_with (with_reducible show wpList _ _ _ (Oper.mk _ (.store 47 _ _) _ _ _ _ :: _) _ _; refine wpList_put rfl 47 _ _ rfl (w.heap.size + 2) #[.string xa, .string xb, .int .i64 xs] _ 47 rfl rfl r3' (by kernel_rfl) rfl (by kernel_rfl) ?_; intro wa hra hga; refine Hid.out ?_)
    have r4a := (hga.out.block (w.heap.size + 3) (by omega) (fun e => by have := Option.some.inj e; omega)).trans r4'
    have HBa := Lib.hid (HBc.out.trans (below_grown hga.out (by omega) (fun k hk => by injection hk with hk; omega)))
    have hza := hga.out.size
    clear r3' r4'
    refine Lib.hid ?_
    go_wp2_with (with_reducible show wpList _ _ _ (Oper.mk _ (.store 32 _ _) _ _ _ _ :: _) _ _; refine wpList_put rfl 32 _ _ rfl (w.heap.size + 3) #[.slice none 0 0, .slice none 0 0, .slice none 0 0, .slice none 0 0] _ 32 rfl rfl r4a (by kernel_rfl) rfl (by kernel_rfl) ?_; intro wb hrb hgb; refine Hid.out ?_)
    have rfin := (hgb.out.block (w.heap.size + 2) (by omega) (fun e => by have := Option.some.inj e; omega)).trans hra.out
    have HBb := Lib.hid (HBa.out.trans (below_grown hgb.out (by omega) (fun k hk => by injection hk with hk; omega)))
    refine Lib.hid ?_
    try go_wp2_with fail
    exact bodyPost_ret (resultsSI Try.results20 _ _ _ _ _ _ _ _ _ _ _ _ _ rfl rfl rfl rfl rfin hrb.out) rfl ⟨m, HM.out, by rw [HRG.out]; exact ⟨_, _, _, _, rfl, IOwn.zero _ _, HBb.out⟩⟩
end

section
open Go.RowKit Lg Img

theorem take_all_eq {α : Type} {l m : List α} (h : l.length = m.length) (e : l.take l.length = m.take l.length) : l = m := by
  rw [List.take_length, h, List.take_length] at e
  exact e
theorem take_succ_eq {α : Type} {l m : List α} {k : Nat} (h1 : k < l.length) (h2 : k < m.length) (e : l.take k = m.take k) (g : l[k] = m[k]) : l.take (k + 1) = m.take (k + 1) := by
  rw [← List.take_append_getElem h1, ← List.take_append_getElem h2, e, g]
instance enDec : DecidableEq En := fun a b => decidable_of_iff (a.f = b.f ∧ a.d = b.d ∧ a.car = b.car ∧ a.mv = b.mv ∧ a.md = b.md) (by
  obtain ⟨a1, a2, a3, a4, a5⟩ := a
  obtain ⟨b1, b2, b3, b4, b5⟩ := b
  simp)
theorem enPair (d : Nat) (x y : En) (w : World) : (Op.equalIn (d + 2) 71 (.agg #[.int .i64 x.f, .int .i64 x.d, .int .i64 x.car, .int .i64 x.mv, .bool x.md]) (.agg #[.int .i64 y.f, .int .i64 y.d, .int .i64 y.car, .int .i64 y.mv, .bool y.md])).run Try.prog w = .ok (decide (x = y)) w := by
  have hp : (x.f == y.f && (x.d == y.d && (x.car == y.car && (x.mv == y.mv && x.md == y.md)))) = decide (x = y) := by
    obtain ⟨a, b, c, d, e⟩ := x
    obtain ⟨a', b', c', d', e'⟩ := y
    rw [Bool.eq_iff_iff]
    simp
  rw [← hp]
  obtain ⟨x0, x1, x2, x3, x4⟩ := x
  obtain ⟨y0, y1, y2, y3, y4⟩ := y
  simp only
  rw [run_equalIn_struct w (d + 1) 71 _ _ fieldsEn stoodEn, listEn]
  have h0 := fun (xs : Array Value) off v => run_part_plain (P := Try.prog) w (e := 3) (off := off) (xs := xs) (v := v) (by kernel_rfl)
  have h1 := fun (xs : Array Value) off v => run_part_plain (P := Try.prog) w (e := 4) (off := off) (xs := xs) (v := v) (by kernel_rfl)
  have hi := fun k1 k2 => run_equalIn_int w d 3 .i64 .i64 k1 k2 Try.underlying3
  have hb := fun b1 b2 => run_equalIn_bool w d 4 b1 b2 Try.underlying4
  have p0 := fun a b c e f => h0 #[a, b, c, e, f] 0 a rfl
  have p1 := fun a b c e f => h0 #[a, b, c, e, f] 1 b rfl
  have p2 := fun a b c e f => h0 #[a, b, c, e, f] 2 c rfl
  have p3 := fun a b c e f => h0 #[a, b, c, e, f] 3 e rfl
  have p4 := fun a b c e f => h1 #[a, b, c, e, f] 4 f rfl
  simp [Op.eqFields, p0, p1, p2, p3, p4, hi, hb]
  by_cases g0 : x0 = y0 <;> by_cases g1 : x1 = y1 <;> by_cases g2 : x2 = y2 <;> by_cases g3 : x3 = y3 <;> cases x4 <;> cases y4 <;> simp [g0, g1, g2, g3]
theorem neqPair (x y : En) (w : World) : (binOp .neq 71 (.agg #[.int .i64 x.f, .int .i64 x.d, .int .i64 x.car, .int .i64 x.mv, .bool x.md]) (.agg #[.int .i64 y.f, .int .i64 y.d, .int .i64 y.car, .int .i64 y.mv, .bool y.md])).run Try.prog w = .ok (.bool (!decide (x = y))) w := by
  have h := enPair 9998 x y w
  rw [run_neq_struct, h]; rfl

set_option maxRecDepth 100000 in
set_option maxHeartbeats 4000000 in
theorem equalI_any (l m : List Int) (v1 v2 : Value) (w : World) (h1 : VV w v1 (nums l)) (h2 : VV w v2 (nums m)) (hl : l.length ≤ 1000000) (hm : m.length ≤ 1000000) :
    Calls Try.prog 67 #[v1, v2] w fun e w' => e = .returned (.bool (decide (l = m))) ∧ Below w.heap.size w w' := by
  obtain ⟨A1, c1, rfl, hA1⟩ := h1
  obtain ⟨A2, c2, rfl, hA2⟩ := h2
  rw [nums_len, nums_len]
  have H1 := Lib.hid hA1
  have H2 := Lib.hid hA2
  have HD := Lib.hid (fun h : ¬ l = m => (decide_eq_false h : decide (l = m) = false))
  have HT := Lib.hid (fun h : l = m => (decide_eq_true h : decide (l = m) = true))
  clear hA1 hA2
  generalize decide (l = m) = R at *
  by_cases hlm : l.length = m.length
  case neg =>
    have hne : ((l.length : Int) != (m.length : Int)) = true := by simp; omega
    have hR := HD.out (fun h => hlm (by rw [h]))
    go_enter Try.func67, Try.ntmps67
    go_wp2_with fail
    go_ret
    exact ⟨ret_bool hR.symm, Below.refl _ _⟩
  have hne : ((l.length : Int) != (m.length : Int)) = false := by simp; omega
  have HLM := Lib.hid hlm
  clear hlm
  go_enter Try.func67, Try.ntmps67
  go_wp2_with fail
  go_loopw [13] (fun v wr => ∃ k : Nat, k ≤ l.length ∧ v = .int .i64 k ∧ l.take k = m.take k ∧ Below w.heap.size w wr) (fun v _ => l.length - (intOf v).toNat)
  case atStart => exact ⟨0, Nat.zero_le _, rfl, rfl, Below.refl _ _⟩
  case round =>
    obtain ⟨k, hk, rfl, htk, hbw⟩ := hrel
    have HTK := Lib.hid htk
    clear htk
    by_cases hlt : k < l.length
    · have hlt2 : k < m.length := by have := HLM.out; omega
      obtain ⟨b, off, rfl, hb, r0⟩ := (H1.out.below hbw).num hlt
      obtain ⟨b', off', rfl, hb', q0⟩ := (H2.out.below hbw).num hlt2
      have HEQ := Lib.hid (fun g => take_succ_eq hlt hlt2 HTK.out g)
      have HNQ := Lib.hid (fun (h : l = m) => (by subst h; rfl : l[k] = m[k]))
      generalize l[k] = x at *
      generalize m[k] = y at *
      have HB := Lib.hid hbw
      clear hbw
      by_cases hxy : x = y
      · have hnx : (x != y) = false := by simp [hxy]
        have HXY := Lib.hid hxy
        clear hxy
        go_wp2_with fail
        go_quiet (fail)
        go_wp2_with fail
        go_roundw
        case rel => exact ⟨k + 1, by omega, by go_num, HEQ.out HXY.out, below_drewN HB.out _⟩
        case measure => simp [intOf]; omega
      · have hnx : (x != y) = true := by simp [hxy]
        have hR := HD.out (fun h => hxy (HNQ.out h))
        clear hxy
        go_wp2_with fail
        go_quiet (fail)
        go_wp2_with fail
        go_ret
        exact ⟨ret_bool hR.symm, below_drewN HB.out _⟩
    · obtain rfl : k = l.length := by omega
      have hR := HT.out (take_all_eq HLM.out HTK.out)
      go_wp2
      go_ret
      exact ⟨ret_bool hR.symm, hbw⟩

set_option maxRecDepth 100000 in
set_option maxHeartbeats 4000000 in
theorem equalB_any (l m : List Bool) (v1 v2 : Value) (w : World) (h1 : VV w v1 (bls l)) (h2 : VV w v2 (bls m)) (hl : l.length ≤ 1000000) (hm : m.length ≤ 1000000) :
    Calls Try.prog 68 #[v1, v2] w fun e w' => e = .returned (.bool (decide (l = m))) ∧ Below w.heap.size w w' := by
  obtain ⟨A1, c1, rfl, hA1⟩ := h1
  obtain ⟨A2, c2, rfl, hA2⟩ := h2
  rw [bls_len, bls_len]
  have H1 := Lib.hid hA1
  have H2 := Lib.hid hA2
  have HD := Lib.hid (fun h : ¬ l = m => (decide_eq_false h : decide (l = m) = false))
  have HT := Lib.hid (fun h : l = m => (decide_eq_true h : decide (l = m) = true))
  clear hA1 hA2
  generalize decide (l = m) = R at *
  by_cases hlm : l.length = m.length
  case neg =>
    have hne : ((l.length : Int) != (m.length : Int)) = true := by simp; omega
    have hR := HD.out (fun h => hlm (by rw [h]))
    go_enter Try.func68, Try.ntmps68
    go_wp2_with fail
    go_ret
    exact ⟨ret_bool hR.symm, Below.refl _ _⟩
  have hne : ((l.length : Int) != (m.length : Int)) = false := by simp; omega
  have HLM := Lib.hid hlm
  clear hlm
  go_enter Try.func68, Try.ntmps68
  go_wp2_with fail
  go_loopw [13] (fun v wr => ∃ k : Nat, k ≤ l.length ∧ v = .int .i64 k ∧ l.take k = m.take k ∧ Below w.heap.size w wr) (fun v _ => l.length - (intOf v).toNat)
  case atStart => exact ⟨0, Nat.zero_le _, rfl, rfl, Below.refl _ _⟩
  case round =>
    obtain ⟨k, hk, rfl, htk, hbw⟩ := hrel
    have HTK := Lib.hid htk
    clear htk
    by_cases hlt : k < l.length
    · have hlt2 : k < m.length := by have := HLM.out; omega
      obtain ⟨b, off, rfl, hb, r0⟩ := (H1.out.below hbw).bl hlt
      obtain ⟨b', off', rfl, hb', q0⟩ := (H2.out.below hbw).bl hlt2
      have HEQ := Lib.hid (fun g => take_succ_eq hlt hlt2 HTK.out g)
      have HNQ := Lib.hid (fun (h : l = m) => (by subst h; rfl : l[k] = m[k]))
      generalize l[k] = x at *
      generalize m[k] = y at *
      have HB := Lib.hid hbw
      clear hbw
      by_cases hxy : x = y
      · have hnx : (x != y) = false := by simp [hxy]
        have HXY := Lib.hid hxy
        clear hxy hnx; have hyx := HXY.out; subst hyx; cases x
        all_goals
          go_wp2_with fail
          go_quiet (fail)
          go_wp2_with fail
          go_roundw
          case rel => exact ⟨k + 1, by omega, by go_num, HEQ.out HXY.out, below_drewN HB.out _⟩
          case measure => simp [intOf]; omega
      · have hnx : (x != y) = true := by simp [hxy]
        have hR := HD.out (fun h => hxy (HNQ.out h))
        clear hnx HEQ HNQ
        cases x <;> cases y <;> first | exact absurd rfl hxy | clear hxy
        all_goals
          go_wp2_with fail
          go_quiet (fail)
          go_wp2_with fail
          go_ret
          exact ⟨ret_bool hR.symm, below_drewN HB.out _⟩
    · obtain rfl : k = l.length := by omega
      have hR := HT.out (take_all_eq HLM.out HTK.out)
      go_wp2
      go_ret
      exact ⟨ret_bool hR.symm, hbw⟩

set_option maxRecDepth 100000 in
set_option maxHeartbeats 4000000 in
theorem equalE_any (l m : List En) (v1 v2 : Value) (w : World) (h1 : EV w v1 l) (h2 : EV w v2 m) (hl : l.length ≤ 1000000) (hm : m.length ≤ 1000000) :
    Calls Try.prog 69 #[v1, v2] w fun e w' => e = .returned (.bool (decide (l = m))) ∧ Below w.heap.size w w' := by
  obtain ⟨A1, c1, rfl, hA1⟩ := h1
  obtain ⟨A2, c2, rfl, hA2⟩ := h2
  skip
  have H1 := Lib.hid hA1
  have H2 := Lib.hid hA2
  have HD := Lib.hid (fun h : ¬ l = m => (decide_eq_false h : decide (l = m) = false))
  have HT := Lib.hid (fun h : l = m => (decide_eq_true h : decide (l = m) = true))
  clear hA1 hA2
  generalize decide (l = m) = R at *
  by_cases hlm : l.length = m.length
  case neg =>
    have hne : ((l.length : Int) != (m.length : Int)) = true := by simp; omega
    have hR := HD.out (fun h => hlm (by rw [h]))
    go_enter Try.func69, Try.ntmps69
    go_wp2_with fail
    go_ret
    exact ⟨ret_bool hR.symm, Below.refl _ _⟩
  have hne : ((l.length : Int) != (m.length : Int)) = false := by simp; omega
  have HLM := Lib.hid hlm
  clear hlm
  go_enter Try.func69, Try.ntmps69
  go_wp2_with fail
  go_loopw [13] (fun v wr => ∃ k : Nat, k ≤ l.length ∧ v = .int .i64 k ∧ l.take k = m.take k ∧ Below w.heap.size w wr) (fun v _ => l.length - (intOf v).toNat)
  case atStart => exact ⟨0, Nat.zero_le _, rfl, rfl, Below.refl _ _⟩
  case round =>
    obtain ⟨k, hk, rfl, htk, hbw⟩ := hrel
    have HTK := Lib.hid htk
    clear htk
    by_cases hlt : k < l.length
    · have hlt2 : k < m.length := by have := HLM.out; omega
      obtain ⟨b, off, rfl, hb, r0, r1, r2, r3, r4⟩ := (H1.out.below hbw).at_ hlt
      obtain ⟨b', off', rfl, hb', q0, q1, q2, q3, q4⟩ := (H2.out.below hbw).at_ hlt2
      have HEQ := Lib.hid (fun g => take_succ_eq hlt hlt2 HTK.out g)
      have HNQ := Lib.hid (fun (h : l = m) => (by subst h; rfl : l[k] = m[k]))
      generalize l[k] = x at *
      generalize m[k] = y at *
      obtain ⟨x0, x1, x2, x3, x4⟩ := x
      obtain ⟨y0, y1, y2, y3, y4⟩ := y
      simp only at r0 r1 r2 r3 r4 q0 q1 q2 q3 q4
      have HB := Lib.hid hbw
      clear hbw
      by_cases hxy : (⟨x0, x1, x2, x3, x4⟩ : En) = (⟨y0, y1, y2, y3, y4⟩ : En)
      · have hnx := fun wx => (neqPair (⟨x0, x1, x2, x3, x4⟩ : En) (⟨y0, y1, y2, y3, y4⟩ : En) wx).trans (by rw [show decide ((⟨x0, x1, x2, x3, x4⟩ : En) = (⟨y0, y1, y2, y3, y4⟩ : En)) = !false by simp [hxy]]; rfl : _ = Result.ok (Value.bool false) wx)
        simp only at hnx
        have HXY := Lib.hid hxy
        clear hxy
        go_wp2_with fail
        go_quiet (fail)
        go_wp2_with fail
        go_roundw
        case rel => exact ⟨k + 1, by omega, by go_num, HEQ.out HXY.out, below_drewN HB.out _⟩
        case measure => simp [intOf]; omega
      · have hnx := fun wx => (neqPair (⟨x0, x1, x2, x3, x4⟩ : En) (⟨y0, y1, y2, y3, y4⟩ : En) wx).trans (by rw [show decide ((⟨x0, x1, x2, x3, x4⟩ : En) = (⟨y0, y1, y2, y3, y4⟩ : En)) = !true by simp [hxy]]; rfl : _ = Result.ok (Value.bool true) wx)
        simp only at hnx
        have hR := HD.out (fun h => hxy (HNQ.out h))
        clear hxy
        go_wp2_with fail
        go_quiet (fail)
        go_wp2_with fail
        go_ret
        exact ⟨ret_bool hR.symm, below_drewN HB.out _⟩
    · obtain rfl : k = l.length := by omega
      have hR := HT.out (take_all_eq HLM.out HTK.out)
      go_wp2
      go_ret
      exact ⟨ret_bool hR.symm, hbw⟩

theorem size2 (w : World) (A B : Obj) : ((w.alloc A).alloc B).heap.size = w.heap.size + 2 := by simp
theorem rows2' {w wx : World} {A B : Obj} (h : Below (w.heap.size + 2) ((w.alloc A).alloc B) wx) : wx.heap[w.heap.size]? = some A ∧ wx.heap[w.heap.size + 1]? = some B := boxes2 (by rw [size2]; exact h)
/-- Are two images equal? -/
def imEq (a b : Img) : Bool := decide (a.ph = b.ph) && (decide (a.fl = b.fl) && (decide (a.lv = b.lv) && decide (a.en = b.en)))
theorem imEq_iff (a b : Img) : imEq a b = true ↔ a = b := by
  obtain ⟨a1, a2, a3, a4⟩ := a
  obtain ⟨b1, b2, b3, b4⟩ := b
  unfold imEq
  simp

set_option maxRecDepth 100000 in
set_option maxHeartbeats 8000000 in
theorem logSame_any (a b : Img) (pv fv lv ev pv' fv' lv' ev' : Value) (w : World) (ha : ImV w pv fv lv ev a) (hb : ImV w pv' fv' lv' ev' b) (ha1 : a.ph.length ≤ 1000000) (ha2 : a.fl.length ≤ 1000000) (ha3 : a.lv.length ≤ 1000000) (ha4 : a.en.length ≤ 1000000)
    (hb1 : b.ph.length ≤ 1000000) (hb2 : b.fl.length ≤ 1000000) (hb3 : b.lv.length ≤ 1000000) (hb4 : b.en.length ≤ 1000000) :
    Calls Try.prog 39 #[.agg #[pv, fv, lv, ev], .agg #[pv', fv', lv', ev']] w fun e w' => e = .returned (.bool (imEq a b)) ∧ Below w.heap.size w w' := by
  have F0 := Lib.hid (fun wx (h : Below w.heap.size w wx) => equalI_any a.ph b.ph pv pv' wx (ha.p.below h) (hb.p.below h) ha1 hb1)
  have F1 := Lib.hid (fun wx (h : Below w.heap.size w wx) => equalB_any a.fl b.fl fv fv' wx (ha.f.below h) (hb.f.below h) ha2 hb2)
  have F2 := Lib.hid (fun wx (h : Below w.heap.size w wx) => equalB_any a.lv b.lv lv lv' wx (ha.l.below h) (hb.l.below h) ha3 hb3)
  have F3 := Lib.hid (fun wx (h : Below w.heap.size w wx) => equalE_any a.en b.en ev ev' wx (ha.e.below h) (hb.e.below h) ha4 hb4)
  unfold imEq
  obtain ⟨⟨A1, c1, rfl, -⟩, ⟨A2, c2, rfl, -⟩, ⟨A3, c3, rfl, -⟩, ⟨A4, c4, rfl, -⟩⟩ := ha
  obtain ⟨⟨B1, d1, rfl, -⟩, ⟨B2, d2, rfl, -⟩, ⟨B3, d3, rfl, -⟩, ⟨B4, d4, rfl, -⟩⟩ := hb
  generalize decide (a.ph = b.ph) = P0 at *
  generalize decide (a.fl = b.fl) = P1 at *
  generalize decide (a.lv = b.lv) = P2 at *
  generalize decide (a.en = b.en) = P3 at *
  clear ha1 ha2 ha3 ha4 hb1 hb2 hb3 hb4
  generalize (nums a.ph).length = n1 at *
  generalize (bls a.fl).length = n2 at *
  generalize (bls a.lv).length = n3 at *
  generalize a.en.length = n4 at *
  generalize (nums b.ph).length = m1 at *
  generalize (bls b.fl).length = m2 at *
  generalize (bls b.lv).length = m3 at *
  generalize b.en.length = m4 at *
  cases P0
  case false =>
    go_enter Try.func39, Try.ntmps39
    go_wp2_with fail
    refine (F0.out _ (by go_grown)).mono ?_
    rintro e w1 ⟨rfl, hb⟩
    rw [size2] at hb
    have HX1 := Lib.hid hb
    clear hb
    go_wp2_with fail
    go_ret
    exact ⟨rfl, below2 HX1.out⟩
  case true =>
    cases P1
    case false =>
      go_enter Try.func39, Try.ntmps39
      go_wp2_with fail
      refine (F0.out _ (by go_grown)).mono ?_
      rintro e w1 ⟨rfl, hb⟩
      rw [size2] at hb
      have HX1 := Lib.hid hb
      clear hb
      obtain ⟨q0, q1, q2, q3⟩ := imRowCells (rows2' HX1.out).1
      obtain ⟨k0, k1, k2, k3⟩ := imRowCells (rows2' HX1.out).2
      go_wp2_with fail
      refine (F1.out _ (below2 HX1.out)).mono ?_
      rintro e w2 ⟨rfl, hb⟩
      have HX2 := Lib.hid (HX1.out.trans (hb.mono (by have := HX1.out.size; rw [size2] at this; exact this)))
      clear hb q0 q1 q2 q3 k0 k1 k2 k3
      go_wp2_with fail
      go_ret
      exact ⟨rfl, below2 HX2.out⟩
    case true =>
      cases P2
      case false =>
        go_enter Try.func39, Try.ntmps39
        go_wp2_with fail
        refine (F0.out _ (by go_grown)).mono ?_
        rintro e w1 ⟨rfl, hb⟩
        rw [size2] at hb
        have HX1 := Lib.hid hb
        clear hb
        obtain ⟨q0, q1, q2, q3⟩ := imRowCells (rows2' HX1.out).1
        obtain ⟨k0, k1, k2, k3⟩ := imRowCells (rows2' HX1.out).2
        go_wp2_with fail
        refine (F1.out _ (below2 HX1.out)).mono ?_
        rintro e w2 ⟨rfl, hb⟩
        have HX2 := Lib.hid (HX1.out.trans (hb.mono (by have := HX1.out.size; rw [size2] at this; exact this)))
        clear hb q0 q1 q2 q3 k0 k1 k2 k3
        obtain ⟨q0, q1, q2, q3⟩ := imRowCells (rows2' HX2.out).1
        obtain ⟨k0, k1, k2, k3⟩ := imRowCells (rows2' HX2.out).2
        go_wp2_with fail
        refine (F2.out _ (below2 HX2.out)).mono ?_
        rintro e w3 ⟨rfl, hb⟩
        have HX3 := Lib.hid (HX2.out.trans (hb.mono (by have := HX2.out.size; rw [size2] at this; exact this)))
        clear hb q0 q1 q2 q3 k0 k1 k2 k3
        go_wp2_with fail
        go_ret
        exact ⟨rfl, below2 HX3.out⟩
      case true =>
        cases P3
        case false =>
          go_enter Try.func39, Try.ntmps39
          go_wp2_with fail
          refine (F0.out _ (by go_grown)).mono ?_
          rintro e w1 ⟨rfl, hb⟩
          rw [size2] at hb
          have HX1 := Lib.hid hb
          clear hb
          obtain ⟨q0, q1, q2, q3⟩ := imRowCells (rows2' HX1.out).1
          obtain ⟨k0, k1, k2, k3⟩ := imRowCells (rows2' HX1.out).2
          go_wp2_with fail
          refine (F1.out _ (below2 HX1.out)).mono ?_
          rintro e w2 ⟨rfl, hb⟩
          have HX2 := Lib.hid (HX1.out.trans (hb.mono (by have := HX1.out.size; rw [size2] at this; exact this)))
          clear hb q0 q1 q2 q3 k0 k1 k2 k3
          obtain ⟨q0, q1, q2, q3⟩ := imRowCells (rows2' HX2.out).1
          obtain ⟨k0, k1, k2, k3⟩ := imRowCells (rows2' HX2.out).2
          go_wp2_with fail
          refine (F2.out _ (below2 HX2.out)).mono ?_
          rintro e w3 ⟨rfl, hb⟩
          have HX3 := Lib.hid (HX2.out.trans (hb.mono (by have := HX2.out.size; rw [size2] at this; exact this)))
          clear hb q0 q1 q2 q3 k0 k1 k2 k3
          obtain ⟨q0, q1, q2, q3⟩ := imRowCells (rows2' HX3.out).1
          obtain ⟨k0, k1, k2, k3⟩ := imRowCells (rows2' HX3.out).2
          go_wp2_with fail
          refine (F3.out _ (below2 HX3.out)).mono ?_
          rintro e w4 ⟨rfl, hb⟩
          have HX4 := Lib.hid (HX3.out.trans (hb.mono (by have := HX3.out.size; rw [size2] at this; exact this)))
          clear hb q0 q1 q2 q3 k0 k1 k2 k3
          go_wp2_with fail
          go_ret
          exact ⟨rfl, below2 HX4.out⟩
        case true =>
          go_enter Try.func39, Try.ntmps39
          go_wp2_with fail
          refine (F0.out _ (by go_grown)).mono ?_
          rintro e w1 ⟨rfl, hb⟩
          rw [size2] at hb
          have HX1 := Lib.hid hb
          clear hb
          obtain ⟨q0, q1, q2, q3⟩ := imRowCells (rows2' HX1.out).1
          obtain ⟨k0, k1, k2, k3⟩ := imRowCells (rows2' HX1.out).2
          go_wp2_with fail
          refine (F1.out _ (below2 HX1.out)).mono ?_
          rintro e w2 ⟨rfl, hb⟩
          have HX2 := Lib.hid (HX1.out.trans (hb.mono (by have := HX1.out.size; rw [size2] at this; exact this)))
          clear hb q0 q1 q2 q3 k0 k1 k2 k3
          obtain ⟨q0, q1, q2, q3⟩ := imRowCells (rows2' HX2.out).1
          obtain ⟨k0, k1, k2, k3⟩ := imRowCells (rows2' HX2.out).2
          go_wp2_with fail
          refine (F2.out _ (below2 HX2.out)).mono ?_
          rintro e w3 ⟨rfl, hb⟩
          have HX3 := Lib.hid (HX2.out.trans (hb.mono (by have := HX2.out.size; rw [size2] at this; exact this)))
          clear hb q0 q1 q2 q3 k0 k1 k2 k3
          obtain ⟨q0, q1, q2, q3⟩ := imRowCells (rows2' HX3.out).1
          obtain ⟨k0, k1, k2, k3⟩ := imRowCells (rows2' HX3.out).2
          go_wp2_with fail
          refine (F3.out _ (below2 HX3.out)).mono ?_
          rintro e w4 ⟨rfl, hb⟩
          have HX4 := Lib.hid (HX3.out.trans (hb.mono (by have := HX3.out.size; rw [size2] at this; exact this)))
          clear hb q0 q1 q2 q3 k0 k1 k2 k3
          go_wp2_with fail
          go_ret
          exact ⟨rfl, below2 HX4.out⟩
end

section
open Go.RowKit Lg Img

set_option maxRecDepth 100000 in
set_option maxHeartbeats 16000000 in
theorem refSame10_any (a b : Img) (pv fv lv ev pv' fv' lv' ev' : Value) (w : World) (ha : ImV w pv fv lv ev a) (hb : ImV w pv' fv' lv' ev' b) (ha1 : a.ph.length ≤ 1000000) (ha2 : a.fl.length ≤ 1000000) (ha3 : a.lv.length ≤ 1000000) (ha4 : a.en.length ≤ 1000000)
    (hb1 : b.ph.length ≤ 1000000) (hb2 : b.fl.length ≤ 1000000) (hb3 : b.lv.length ≤ 1000000) (hb4 : b.en.length ≤ 1000000) :
    Calls Try.prog 13 #[.agg #[pv, fv, lv, ev], .agg #[pv', fv', lv', ev']] w fun e w' => e = .returned (.bool (imEq a b)) ∧ Below w.heap.size w w' := by
  obtain ⟨⟨A1, c1, rfl, g1⟩, ⟨A2, c2, rfl, g2⟩, ⟨A3, c3, rfl, g3⟩, ⟨A4, c4, rfl, g4⟩⟩ := ha
  obtain ⟨⟨B1, d1, rfl, f1⟩, ⟨B2, d2, rfl, f2⟩, ⟨B3, d3, rfl, f3⟩, ⟨B4, d4, rfl, f4⟩⟩ := hb
  rw [nums_len, nums_len, bls_len, bls_len, bls_len, bls_len]
  have G1 := Lib.hid g1
  have G2 := Lib.hid g2
  have G3 := Lib.hid g3
  have G4 := Lib.hid g4
  have K1 := Lib.hid f1
  have K2 := Lib.hid f2
  have K3 := Lib.hid f3
  have K4 := Lib.hid f4
  clear g1 g2 g3 g4 f1 f2 f3 f4
  have D1 := Lib.hid (fun (h : ¬ a.ph = b.ph) => (show imEq a b = false by unfold imEq; simp [h]))
  have D2 := Lib.hid (fun (h : ¬ a.fl = b.fl) => (show imEq a b = false by unfold imEq; simp [h]))
  have D3 := Lib.hid (fun (h : ¬ a.lv = b.lv) => (show imEq a b = false by unfold imEq; simp [h]))
  have D4 := Lib.hid (fun (h : ¬ a.en = b.en) => (show imEq a b = false by unfold imEq; simp [h]))
  have DT := Lib.hid (fun (h1 : a.ph = b.ph) (h2 : a.fl = b.fl) (h3 : a.lv = b.lv) (h4 : a.en = b.en) => (show imEq a b = true by unfold imEq; simp [h1, h2, h3, h4]))
  generalize imEq a b = R at *
  obtain ⟨ap, af, al, ae⟩ := a
  obtain ⟨bp, bf, bl', be⟩ := b
  simp only at *
  by_cases l1 : ap.length = bp.length
  case neg =>
    have n1 : ((ap.length : Int) != (bp.length : Int)) = true := by simp; omega
    have hR := D1.out (fun h => l1 (by rw [h]))
    go_enter Try.func13, Try.ntmps13
    go_wp2_with fail
    go_ret
    exact ⟨ret_bool hR.symm, by go_grown⟩
  have n1 : ((ap.length : Int) != (bp.length : Int)) = false := by simp; omega
  have L1 := Lib.hid l1
  clear l1
  by_cases l2 : af.length = bf.length
  case neg =>
    have n2 : ((af.length : Int) != (bf.length : Int)) = true := by simp; omega
    have hR := D2.out (fun h => l2 (by rw [h]))
    go_enter Try.func13, Try.ntmps13
    go_wp2_with fail
    go_ret
    exact ⟨ret_bool hR.symm, by go_grown⟩
  have n2 : ((af.length : Int) != (bf.length : Int)) = false := by simp; omega
  have L2 := Lib.hid l2
  clear l2
  by_cases l3 : al.length = bl'.length
  case neg =>
    have n3 : ((al.length : Int) != (bl'.length : Int)) = true := by simp; omega
    have hR := D3.out (fun h => l3 (by rw [h]))
    go_enter Try.func13, Try.ntmps13
    go_wp2_with fail
    go_ret
    exact ⟨ret_bool hR.symm, by go_grown⟩
  have n3 : ((al.length : Int) != (bl'.length : Int)) = false := by simp; omega
  have L3 := Lib.hid l3
  clear l3
  by_cases l4 : ae.length = be.length
  case neg =>
    have n4 : ((ae.length : Int) != (be.length : Int)) = true := by simp; omega
    have hR := D4.out (fun h => l4 (by rw [h]))
    go_enter Try.func13, Try.ntmps13
    go_wp2_with fail
    go_ret
    exact ⟨ret_bool hR.symm, by go_grown⟩
  have n4 : ((ae.length : Int) != (be.length : Int)) = false := by simp; omega
  have L4 := Lib.hid l4
  clear l4
  have HR := Lib.hid (fun wx (h : Below (w.heap.size + 2) ((w.alloc (.cells #[.slice A1 ap.length c1, .slice A2 af.length c2, .slice A3 al.length c3, .slice A4 ae.length c4] 32)).alloc (.cells #[.slice B1 bp.length d1, .slice B2 bf.length d2, .slice B3 bl'.length d3, .slice B4 be.length d4] 32)) wx) => And.intro (imRowCells (rows2' h).1) (And.intro (imRowCells (rows2' h).2) (below2 h)))
  have HS := Lib.hid (size2 w (.cells #[.slice A1 ap.length c1, .slice A2 af.length c2, .slice A3 al.length c3, .slice A4 ae.length c4] 32) (.cells #[.slice B1 bp.length d1, .slice B2 bf.length d2, .slice B3 bl'.length d3, .slice B4 be.length d4] 32))
  go_enter Try.func13, Try.ntmps13
  go_wp2_with fail
  generalize ((w.alloc (.cells #[.slice A1 ap.length c1, .slice A2 af.length c2, .slice A3 al.length c3, .slice A4 ae.length c4] 32)).alloc (.cells #[.slice B1 bp.length d1, .slice B2 bf.length d2, .slice B3 bl'.length d3, .slice B4 be.length d4] 32)) = W2 at *
  have HB0 := Lib.hid (Below.refl (w.heap.size + 2) W2)
  go_loopw [5] (fun v wr => ∃ k : Nat, k ≤ ap.length ∧ v = .int .i64 k ∧ ap.take k = bp.take k ∧ Below (w.heap.size + 2) W2 wr) (fun v _ => ap.length - (intOf v).toNat)
  case atStart => exact ⟨0, Nat.zero_le _, rfl, rfl, HB0.out⟩
  case round =>
    obtain ⟨k0, hk, rfl, htk, hbw⟩ := hrel
    have HTK := Lib.hid htk
    have HB := Lib.hid hbw
    obtain ⟨⟨q0, q1, q2, q3⟩, ⟨p0, p1, p2, p3⟩, hbn⟩ := HR.out wr hbw
    clear htk hbw
    by_cases hlt : k0 < ap.length
    case pos =>
      have hd : decide ((k0 : Int) < (ap.length : Int)) = true := decide_eq_true (by omega)
      have hlt2 : k0 < bp.length := by have := L1.out; omega
      obtain ⟨bb, off, rfl, hb, r0⟩ := (G1.out.below hbn).num hlt
      obtain ⟨bb', off', rfl, hb', s0⟩ := (K1.out.below hbn).num hlt2
      have HEQ := Lib.hid (fun g => take_succ_eq hlt hlt2 HTK.out g)
      have HNQ := Lib.hid (fun (h : ap = bp) => (by subst h; rfl : ap[k0] = bp[k0]))
      have HBN := Lib.hid hbn
      clear hbn
      generalize ap[k0] = x at *
      generalize bp[k0] = y at *
      by_cases hxy : x = y
      case pos =>
        have hnx : (x != y) = false := by simp [hxy]
        have HXY := Lib.hid hxy
        clear hxy
        go_wp2_with fail
        go_quiet (fail)
        go_wp2_with fail
        go_roundw
        case rel => exact ⟨k0 + 1, by omega, by go_num, HEQ.out HXY.out, below_drewN HB.out _⟩
        case measure => simp [intOf]; omega
      case neg =>
        have hnx : (x != y) = true := by simp [hxy]
        have hR := D1.out (fun h => hxy (HNQ.out h))
        clear hxy
        go_wp2_with fail
        go_quiet (fail)
        go_wp2_with fail
        go_ret
        exact ⟨ret_bool hR.symm, below_drewN HBN.out _⟩
    case neg =>
      obtain rfl : k0 = ap.length := by omega
      have hd : decide ((ap.length : Int) < (ap.length : Int)) = false := decide_eq_false (by omega)
      have E1 := Lib.hid (take_all_eq L1.out HTK.out)
      have HB1 := HB
      clear HB HTK hlt hk
      clear hbn
      go_wp2_with fail
      clear q0 q1 q2 q3 p0 p1 p2 p3 hd
      go_loopw [6] (fun v wr => ∃ k : Nat, k ≤ af.length ∧ v = .int .i64 k ∧ af.take k = bf.take k ∧ Below (w.heap.size + 2) W2 wr) (fun v _ => af.length - (intOf v).toNat)
      case atStart => exact ⟨0, Nat.zero_le _, rfl, rfl, HB1.out⟩
      case round =>
        obtain ⟨k1, hk, rfl, htk, hbw⟩ := hrel
        have HTK := Lib.hid htk
        have HB := Lib.hid hbw
        obtain ⟨⟨q0, q1, q2, q3⟩, ⟨p0, p1, p2, p3⟩, hbn⟩ := HR.out wr hbw
        clear htk hbw
        by_cases hlt : k1 < af.length
        case pos =>
          have hd : decide ((k1 : Int) < (af.length : Int)) = true := decide_eq_true (by omega)
          have hlt2 : k1 < bf.length := by have := L2.out; omega
          obtain ⟨bb, off, rfl, hb, r0⟩ := (G2.out.below hbn).bl hlt
          obtain ⟨bb', off', rfl, hb', s0⟩ := (K2.out.below hbn).bl hlt2
          have HEQ := Lib.hid (fun g => take_succ_eq hlt hlt2 HTK.out g)
          have HNQ := Lib.hid (fun (h : af = bf) => (by subst h; rfl : af[k1] = bf[k1]))
          have HBN := Lib.hid hbn
          clear hbn
          generalize af[k1] = x at *
          generalize bf[k1] = y at *
          by_cases hxy : x = y
          case pos =>
            have hnx : (x != y) = false := by simp [hxy]
            have HXY := Lib.hid hxy
            clear hxy hnx
            have hyx := HXY.out
            subst hyx
            cases x
            all_goals
              go_wp2_with fail
              go_quiet (fail)
              go_wp2_with fail
              go_roundw
              case rel => exact ⟨k1 + 1, by omega, by go_num, HEQ.out HXY.out, below_drewN HB.out _⟩
              case measure => simp [intOf]; omega
          case neg =>
            have hR := D2.out (fun h => hxy (HNQ.out h))
            clear HEQ HNQ
            cases x <;> cases y <;> first | exact absurd rfl hxy | clear hxy
            all_goals
              go_wp2_with fail
              go_quiet (fail)
              go_wp2_with fail
              go_ret
              exact ⟨ret_bool hR.symm, below_drewN HBN.out _⟩
        case neg =>
          obtain rfl : k1 = af.length := by omega
          have hd : decide ((af.length : Int) < (af.length : Int)) = false := decide_eq_false (by omega)
          have E2 := Lib.hid (take_all_eq L2.out HTK.out)
          have HB2 := HB
          clear HB HTK hlt hk
          clear hbn
          go_wp2_with fail
          clear q0 q1 q2 q3 p0 p1 p2 p3 hd
          go_loopw [7] (fun v wr => ∃ k : Nat, k ≤ al.length ∧ v = .int .i64 k ∧ al.take k = bl'.take k ∧ Below (w.heap.size + 2) W2 wr) (fun v _ => al.length - (intOf v).toNat)
          case atStart => exact ⟨0, Nat.zero_le _, rfl, rfl, HB2.out⟩
          case round =>
            obtain ⟨k2, hk, rfl, htk, hbw⟩ := hrel
            have HTK := Lib.hid htk
            have HB := Lib.hid hbw
            obtain ⟨⟨q0, q1, q2, q3⟩, ⟨p0, p1, p2, p3⟩, hbn⟩ := HR.out wr hbw
            clear htk hbw
            by_cases hlt : k2 < al.length
            case pos =>
              have hd : decide ((k2 : Int) < (al.length : Int)) = true := decide_eq_true (by omega)
              have hlt2 : k2 < bl'.length := by have := L3.out; omega
              obtain ⟨bb, off, rfl, hb, r0⟩ := (G3.out.below hbn).bl hlt
              obtain ⟨bb', off', rfl, hb', s0⟩ := (K3.out.below hbn).bl hlt2
              have HEQ := Lib.hid (fun g => take_succ_eq hlt hlt2 HTK.out g)
              have HNQ := Lib.hid (fun (h : al = bl') => (by subst h; rfl : al[k2] = bl'[k2]))
              have HBN := Lib.hid hbn
              clear hbn
              generalize al[k2] = x at *
              generalize bl'[k2] = y at *
              by_cases hxy : x = y
              case pos =>
                have hnx : (x != y) = false := by simp [hxy]
                have HXY := Lib.hid hxy
                clear hxy hnx
                have hyx := HXY.out
                subst hyx
                cases x
                all_goals
                  go_wp2_with fail
                  go_quiet (fail)
                  go_wp2_with fail
                  go_roundw
                  case rel => exact ⟨k2 + 1, by omega, by go_num, HEQ.out HXY.out, below_drewN HB.out _⟩
                  case measure => simp [intOf]; omega
              case neg =>
                have hR := D3.out (fun h => hxy (HNQ.out h))
                clear HEQ HNQ
                cases x <;> cases y <;> first | exact absurd rfl hxy | clear hxy
                all_goals
                  go_wp2_with fail
                  go_quiet (fail)
                  go_wp2_with fail
                  go_ret
                  exact ⟨ret_bool hR.symm, below_drewN HBN.out _⟩
            case neg =>
              obtain rfl : k2 = al.length := by omega
              have hd : decide ((al.length : Int) < (al.length : Int)) = false := decide_eq_false (by omega)
              have E3 := Lib.hid (take_all_eq L3.out HTK.out)
              have HB3 := HB
              clear HB HTK hlt hk
              clear hbn
              go_wp2_with fail
              clear q0 q1 q2 q3 p0 p1 p2 p3 hd
              go_loopw [8] (fun v wr => ∃ k : Nat, k ≤ ae.length ∧ v = .int .i64 k ∧ ae.take k = be.take k ∧ Below (w.heap.size + 2) W2 wr) (fun v _ => ae.length - (intOf v).toNat)
              case atStart => exact ⟨0, Nat.zero_le _, rfl, rfl, HB3.out⟩
              case round =>
                obtain ⟨k3, hk, rfl, htk, hbw⟩ := hrel
                have HTK := Lib.hid htk
                have HB := Lib.hid hbw
                obtain ⟨⟨q0, q1, q2, q3⟩, ⟨p0, p1, p2, p3⟩, hbn⟩ := HR.out wr hbw
                clear htk hbw
                by_cases hlt : k3 < ae.length
                case pos =>
                  have hd : decide ((k3 : Int) < (ae.length : Int)) = true := decide_eq_true (by omega)
                  have hlt2 : k3 < be.length := by have := L4.out; omega
                  obtain ⟨bb, off, rfl, hb, r0, r1, r2, r3, r4⟩ := (G4.out.below hbn).at_ hlt
                  obtain ⟨bb', off', rfl, hb', s0, s1, s2, s3, s4⟩ := (K4.out.below hbn).at_ hlt2
                  have HEQ := Lib.hid (fun g => take_succ_eq hlt hlt2 HTK.out g)
                  have HNQ := Lib.hid (fun (h : ae = be) => (by subst h; rfl : ae[k3] = be[k3]))
                  have HBN := Lib.hid hbn
                  clear hbn
                  generalize ae[k3] = x at *
                  generalize be[k3] = y at *
                  obtain ⟨x0, x1, x2, x3, x4⟩ := x
                  obtain ⟨y0, y1, y2, y3, y4⟩ := y
                  simp only at r0 r1 r2 r3 r4 s0 s1 s2 s3 s4
                  by_cases hxy : (⟨x0, x1, x2, x3, x4⟩ : En) = (⟨y0, y1, y2, y3, y4⟩ : En)
                  case pos =>
                    have hnx := fun wx => (neqPair (⟨x0, x1, x2, x3, x4⟩ : En) (⟨y0, y1, y2, y3, y4⟩ : En) wx).trans (by rw [show decide ((⟨x0, x1, x2, x3, x4⟩ : En) = (⟨y0, y1, y2, y3, y4⟩ : En)) = !false by simp [hxy]]; rfl : _ = Result.ok (Value.bool false) wx)
                    simp only at hnx
                    have HXY := Lib.hid hxy
                    clear hxy
                    go_wp2_with fail
                    go_quiet (fail)
                    go_wp2_with fail
                    go_roundw
                    case rel => exact ⟨k3 + 1, by omega, by go_num, HEQ.out HXY.out, below_drewN HB.out _⟩
                    case measure => simp [intOf]; omega
                  case neg =>
                    have hnx := fun wx => (neqPair (⟨x0, x1, x2, x3, x4⟩ : En) (⟨y0, y1, y2, y3, y4⟩ : En) wx).trans (by rw [show decide ((⟨x0, x1, x2, x3, x4⟩ : En) = (⟨y0, y1, y2, y3, y4⟩ : En)) = !true by simp [hxy]]; rfl : _ = Result.ok (Value.bool true) wx)
                    simp only at hnx
                    have hR := D4.out (fun h => hxy (HNQ.out h))
                    clear hxy
                    go_wp2_with fail
                    go_quiet (fail)
                    go_wp2_with fail
                    go_ret
                    exact ⟨ret_bool hR.symm, below_drewN HBN.out _⟩
                case neg =>
                  obtain rfl : k3 = ae.length := by omega
                  have hd : decide ((ae.length : Int) < (ae.length : Int)) = false := decide_eq_false (by omega)
                  have E4 := Lib.hid (take_all_eq L4.out HTK.out)
                  have HB4 := HB
                  clear HB HTK hlt hk
                  have HBN := Lib.hid hbn
                  have hR := DT.out E1.out E2.out E3.out E4.out
                  clear hbn
                  go_wp2_with fail
                  go_ret
                  exact ⟨ret_bool hR.symm, HBN.out⟩
end
end Go.Proofs.Ytifbkoaggjikpaa
