/- What the texts behind this one rest on: several texts in one. No statement of the seat is proved here. -/
import Derived.Test.YtmonbldmgmmnbaaLM12
import Derived.Test.YtmonbldmgmmnbaaLM05
import Derived.Test.YtmonbldmgmmnbaaLM01
import Derived.Test.YtmonbldmgmmnbaaLM02
namespace Go.Proofs.Ytmonbldmgmmnbaa
section
open Go.RowKit Lg GhostV

set_option maxRecDepth 100000 in
set_option maxHeartbeats 2000000 in
theorem refInitBad_any (b : BldD) (A : Option Addr) (cap : Nat) (w : World) (hn : b.cars.length ≤ 140737488355328) (hc : CarsAt w w.heap.size A b.cars) (hv : ¬ validE b = 0) :
    Calls Try.prog 30 #[b.agg A cap] w fun e w' => e = .returned (.agg #[.slice none 0 0, .slice none 0 0, .slice none 0 0, .slice none 0 0]) ∧ Below w.heap.size w w' := by
  have FV := Lib.hid (fun wx (h : Below w.heap.size w wx) => refValid_any b A cap wx hn ((hc.below h).more h.size))
  have hne : (validE b != 0) = true := by simp [hv]
  generalize validE b = V at *
  clear hv hc
  obtain ⟨f, d, r, p, e1, e2, e3, cs⟩ := b
  simp only [BldD.agg] at *
  go_enter Try.func30, Try.ntmps30
  go_wp2_with fail
  refine (FV.out _ (by go_grown)).mono ?_
  rintro e w1 ⟨rfl, hb⟩
  have hr2 := (boxes2 hb).2
  have HB := Lib.hid ((((Below.refl w.heap.size w).alloc (Nat.le_refl _) _).alloc (by simp) _).trans (hb.mono (by simp; omega)))
  clear hb
  go_wp2_with (with_reducible show wpList _ _ _ (Oper.mk _ (.store 32 _ _) _ _ _ _ :: _) _ _; refine wpList_put rfl 32 _ _ rfl (w.heap.size + 1) #[.slice none 0 0, .slice none 0 0, .slice none 0 0, .slice none 0 0] _ 32 rfl rfl hr2 (by kernel_rfl) rfl (by kernel_rfl) ?_; intro w2 hr hg)
  exact bodyPost_ret (results_cell_row Try.results30 _ _ _ _ _ (0, 0) _ rfl (hr.out) Try.underlying32 rfl (by kernel_rfl)) rfl (⟨rfl, HB.out.trans (below_grown hg.out (by have := HB.out.size; omega) (fun k hk => by injection hk with hk; omega))⟩)

set_option maxRecDepth 100000 in
set_option maxHeartbeats 2000000 in
theorem refInitGood_any (b : BldD) (A : Option Addr) (cap : Nat) (w : World) (hc : CarsAt w w.heap.size A b.cars) (hv : validE b = 0) :
    Calls Try.prog 30 #[b.agg A cap] w fun e w' => ∃ pv' fv' lv' ev', e = .returned (.agg #[pv', fv', lv', ev']) ∧ IOwn w' w.heap.size pv' fv' lv' ev' (Img.init b.cars.length) ∧ Below w.heap.size w w' := by
  have hC := (fine_of hv).cars
  have FV := Lib.hid (fun wx (h : Below w.heap.size w wx) => refValid_any b A cap wx (by omega) ((hc.below h).more h.size))
  rw [hv] at FV
  have HFIN := Lib.hid (fun (wx : World) (pv fv lv : Value) (h1 : wx.ownsRow w.heap.size 3 1 pv b.cars.length (nums (List.replicate b.cars.length 0))) (h2 : wx.ownsRow w.heap.size 4 1 fv b.cars.length (bls (List.replicate b.cars.length false))) (h3 : wx.ownsRow w.heap.size 4 1 lv b.cars.length (bls (List.replicate b.cars.length false))) (h4 : ∀ k, fv.ownBlock = some k → lv.ownBlock ≠ some k) =>
    (show IOwn wx w.heap.size pv fv lv (.slice none 0 0) (Img.init b.cars.length) from ⟨by rw [show (Img.init b.cars.length).ph.length = b.cars.length by simp [Img.init]]; exact h1, by rw [show (Img.init b.cars.length).fl.length = b.cars.length by simp [Img.init]]; exact h2, by rw [show (Img.init b.cars.length).lv.length = b.cars.length by simp [Img.init]]; exact h3, World.ownsRow_nil _ _ _ _, h4⟩))
  clear hv hc
  generalize Img.init b.cars.length = mI at *
  obtain ⟨f, d, r, p, e1, e2, e3, cs⟩ := b
  simp only [BldD.agg] at *
  generalize cs.length = n at *
  have hmb := make_bools n (by omega)
  have hmi := make_ints n (by omega)
  have HNB := Lib.hid (fun (wx : World) => World.ownsRow_lit (base := wx.heap.size) (e := 4) (size := 1) wx (bls (List.replicate n false)).toArray n (Nat.le_refl _) (by unfold maxLen; omega) (by simp [bls]))
  have HNI := Lib.hid (fun (wx : World) => World.ownsRow_lit (base := wx.heap.size) (e := 3) (size := 1) wx (nums (List.replicate n 0)).toArray n (Nat.le_refl _) (by unfold maxLen; omega) (by simp [nums]))
  obtain ⟨hC1, hC2⟩ := hC
  go_enter Try.func30, Try.ntmps30
  go_wp2_with fail
  refine (FV.out _ (by go_grown)).mono ?_
  rintro e w1 ⟨rfl, hb⟩
  obtain ⟨hr1, hr2⟩ := boxes2 hb
  obtain ⟨c0, c1, c2, c3, c4, c5, c6, c7⟩ := boxRow hr1
  have HR2 := Lib.hid hr2
  have HLT := Lib.hid (Array.getElem?_eq_some_iff.1 hr2).1
  have HB := Lib.hid ((((Below.refl w.heap.size w).alloc (Nat.le_refl _) _).alloc (by simp) _).trans (hb.mono (by simp; omega)))
  clear hb hr1 hr2
  go_wp2_with fail
  clear c0 c1 c2 c3 c4 c5 c6 c7
  refine GhostV.ghost (fun γ L wx => GI (w1) (w.heap.size + 1) 32 #[.slice none 0 0, .slice none 0 0, .slice none 0 0, .slice none 0 0] [(⟨1, 3, 1, n, nums (List.replicate n 0)⟩ : OwnD), (⟨3, 4, 1, n, bls (List.replicate n false)⟩ : OwnD), (⟨5, 4, 1, n, bls (List.replicate n false)⟩ : OwnD)] [1, 3, 5] [.slice none 0 0] 6 7 γ L wx) (by kernel_rfl) (by kernel_rfl) (fun γ => GI.start γ (HR2.out)) ?_
  apply GhostV.walk_const (fun γ => by rfl)
  · intro γ L wx h1 h2 hx K hK
    have hmb := hmb
    have HK2 := Lib.hid hK
    have HX := Lib.hid hx
    have H2 := Lib.hid h2
    clear hK h1 h2 hx
    go_simp
    first
      | exact HK2.out _ (HX.out.next _ (by rfl) (by decide) (by decide) (by decide) (Below.refl _ _))
  try simp only [Act.put, List.setIfInBounds_toArray, List.set_cons_succ, List.set_cons_zero]
  refine GhostV.walk_yes (fun b => b) (fun γ => by rfl) ?_ ?_
  · intro γ L wx h1 h2 hx K hK
    have hmb := hmb
    have H1 := Lib.hid h1
    have HK2 := Lib.hid hK
    have HX := Lib.hid hx
    have H2 := Lib.hid h2
    clear hK h1 h2 hx
    go_simp
    (exact HK2.out (.slice (some ⟨wx.heap.size, 0, none⟩) n n) _ (HX.out.make H1.out (by decide) (by decide) (by decide) (by simp only [List.mem_cons, List.not_mem_nil, or_false]; rintro d (rfl | rfl | rfl) h; (· exact HNI.out wx); (· cases h); (· cases h)) ((Below.refl _ _).alloc (Nat.le_refl _) _)))
  try simp only [Act.put, List.setIfInBounds_toArray, List.set_cons_succ, List.set_cons_zero]
  apply GhostV.walk_const (fun γ => by rfl)
  · intro γ L wx h1 h2 hx K hK
    have hmb := hmb
    have HK2 := Lib.hid hK
    have HX := Lib.hid hx
    have H2 := Lib.hid h2
    clear hK h1 h2 hx
    go_simp
    first
      | exact HK2.out _ (HX.out.next _ (by rfl) (by decide) (by decide) (by decide) (Below.refl _ _))
  try simp only [Act.put, List.setIfInBounds_toArray, List.set_cons_succ, List.set_cons_zero]
  refine GhostV.walk_yes (fun b => b) (fun γ => by rfl) ?_ ?_
  · intro γ L wx h1 h2 hx K hK
    have hmb := hmb
    have H1 := Lib.hid h1
    have HK2 := Lib.hid hK
    have HX := Lib.hid hx
    have H2 := Lib.hid h2
    clear hK h1 h2 hx
    go_simp
    (exact HK2.out (.slice (some ⟨wx.heap.size, 0, none⟩) n n) _ (HX.out.make H1.out (by decide) (by decide) (by decide) (by simp only [List.mem_cons, List.not_mem_nil, or_false]; rintro d (rfl | rfl | rfl) h; (· cases h); (· exact HNB.out wx); (· cases h)) ((Below.refl _ _).alloc (Nat.le_refl _) _)))
  try simp only [Act.put, List.setIfInBounds_toArray, List.set_cons_succ, List.set_cons_zero]
  apply GhostV.walk_const (fun γ => by rfl)
  · intro γ L wx h1 h2 hx K hK
    have hmb := hmb
    have HK2 := Lib.hid hK
    have HX := Lib.hid hx
    have H2 := Lib.hid h2
    clear hK h1 h2 hx
    go_simp
    first
      | exact HK2.out _ (HX.out.next _ (by rfl) (by decide) (by decide) (by decide) (Below.refl _ _))
  try simp only [Act.put, List.setIfInBounds_toArray, List.set_cons_succ, List.set_cons_zero]
  refine GhostV.walk_yes (fun b => b) (fun γ => by rfl) ?_ ?_
  · intro γ L wx h1 h2 hx K hK
    have hmb := hmb
    have H1 := Lib.hid h1
    have HK2 := Lib.hid hK
    have HX := Lib.hid hx
    have H2 := Lib.hid h2
    clear hK h1 h2 hx
    go_simp
    (exact HK2.out (.slice (some ⟨wx.heap.size, 0, none⟩) n n) _ (HX.out.make H1.out (by decide) (by decide) (by decide) (by simp only [List.mem_cons, List.not_mem_nil, or_false]; rintro d (rfl | rfl | rfl) h; (· cases h); (· cases h); (· exact HNB.out wx)) ((Below.refl _ _).alloc (Nat.le_refl _) _)))
  try simp only [Act.put, List.setIfInBounds_toArray, List.set_cons_succ, List.set_cons_zero]
  refine GhostV.walk_yes (fun b => b) (fun γ => by rfl) ?_ ?_
  · intro γ L wx h1 h2 hx K hK
    obtain ⟨A1, c1, e1⟩ := own_slice (hx.row (⟨1, 3, 1, n, nums (List.replicate n 0)⟩ : OwnD) (by simp) (h2 1 (by kernel_rfl)))
    obtain ⟨A3, c3, e3⟩ := own_slice (hx.row (⟨3, 4, 1, n, bls (List.replicate n false)⟩ : OwnD) (by simp) (h2 3 (by kernel_rfl)))
    obtain ⟨A5, c5, e5⟩ := own_slice (hx.row (⟨5, 4, 1, n, bls (List.replicate n false)⟩ : OwnD) (by simp) (h2 5 (by kernel_rfl)))
    have HALL : Hid (∀ i ∈ ([1, 3, 5] : List Nat), L i = true) := by
      refine Lib.hid ?_
      simp only [List.mem_cons, List.not_mem_nil, or_false]
      rintro i (rfl | rfl | rfl)
      · exact h2 1 (by kernel_rfl)
      · exact h2 3 (by kernel_rfl)
      · exact h2 5 (by kernel_rfl)
    have HST : Hid (L 7 = false) := by
      cases hs : L 7
      · exact rfl
      · have := hx.sb hs; rw [h1] at this; cases this
    have E1 := Lib.hid e1
    have E3 := Lib.hid e3
    have E5 := Lib.hid e5
    simp only [e1, e3, e5] at hK ⊢
    clear e1 e3 e5
    have HK2 := Lib.hid hK
    have HX := Lib.hid hx
    clear hK h1 h2 hx
    go_simp
    exact HK2.out (.agg #[.slice A1 (n) c1, .slice A3 (n) c3, .slice A5 (n) c5, .slice none 0 0]) _ (HX.out.build (by rfl) (by decide) (by decide) HST.out (by unfold rowOf; simp only [List.map_cons, List.map_nil, List.cons_append, List.nil_append, E1.out, E3.out, E5.out]) HALL.out)
  try simp only [Act.put, List.setIfInBounds_toArray, List.set_cons_succ, List.set_cons_zero]
  apply GhostV.walk_const (fun γ => by rfl)
  · intro γ L wx h1 h2 hx K hK
    have hL : L 6 = true := h2 6 (by kernel_rfl)
    obtain ⟨A1, c1, e1⟩ := own_slice (hx.row (⟨1, 3, 1, n, nums (List.replicate n 0)⟩ : OwnD) (by simp) ((hx.agg hL).2 1 (by decide)))
    obtain ⟨A3, c3, e3⟩ := own_slice (hx.row (⟨3, 4, 1, n, bls (List.replicate n false)⟩ : OwnD) (by simp) ((hx.agg hL).2 3 (by decide)))
    obtain ⟨A5, c5, e5⟩ := own_slice (hx.row (⟨5, 4, 1, n, bls (List.replicate n false)⟩ : OwnD) (by simp) ((hx.agg hL).2 5 (by decide)))
    have hR1 : rowOf γ [1, 3, 5] [.slice none 0 0] = #[.slice A1 (n) c1, .slice A3 (n) c3, .slice A5 (n) c5, .slice none 0 0] := by unfold rowOf; simp only [List.map_cons, List.map_nil, List.cons_append, List.nil_append, e1, e3, e5]
    exact hx.wp_store h1 hL 32 _ _ rfl rfl rfl (by rw [hR1]; kernel_rfl) (by rw [hR1]; rfl) (by rw [hR1]; kernel_rfl) (hK _ (hx.store _ (by rfl) (by decide) (by decide) (HLT.out) hL))
  try simp only [Act.put]
  refine GhostV.walk_nil (fun γ L w4 hall hx => ?_)
  have o2 := hx.row (⟨1, 3, 1, n, nums (List.replicate n 0)⟩ : OwnD) (by simp) (hall 1 (by decide))
  have o4 := hx.row (⟨3, 4, 1, n, bls (List.replicate n false)⟩ : OwnD) (by simp) (hall 3 (by decide))
  have o6 := hx.row (⟨5, 4, 1, n, bls (List.replicate n false)⟩ : OwnD) (by simp) (hall 5 (by decide))
  have hne := hx.ne (⟨3, 4, 1, n, bls (List.replicate n false)⟩ : OwnD) (by simp) (⟨5, 4, 1, n, bls (List.replicate n false)⟩ : OwnD) (by simp) (by show (3 : Nat) ≠ 5; decide) (hall 3 (by decide)) (hall 5 (by decide))
  have hbox := hx.done (hall 7 (by decide))
  have hbel := HB.out.trans (below_grown (B := w.heap.size) hx.grown (by have := HB.out.size; omega) (fun k hk => by injection hk with hk; omega))
  have hag := (hx.agg (hall 6 (by decide))).1
  unfold rowOf at hbox hag
  simp only [List.map_cons, List.map_nil, List.cons_append, List.nil_append] at hbox hag
  clear hx hall
  have HD4 := Lib.hid (HFIN.out w4 (γ 1) (γ 3) (γ 5) (own_base o2 HB.out.size) (own_base o4 HB.out.size) (own_base o6 HB.out.size) hne)
  obtain ⟨B2, b2, e2'⟩ := own_slice o2
  obtain ⟨B4, b4, e4'⟩ := own_slice o4
  obtain ⟨B6, b6, e6'⟩ := own_slice o6
  clear o2 o4 o6 hne
  simp only [Nat.zero_add, Nat.reduceAdd] at hbox hag ⊢
  rw [hag]
  rw [e2', e4', e6'] at hbox HD4 ⊢
  have HBX := Lib.hid hbox
  have HBL := Lib.hid hbel
  clear hag e2' e4' e6' hbox hbel
  go_wp2
  exact bodyPost_ret (results_cell_row Try.results30 _ _ _ _ _ (0, 0) _ rfl (HBX.out) Try.underlying32 rfl (by kernel_rfl)) rfl (⟨_, _, _, _, rfl, HD4.out, HBL.out⟩)
end

section
open Go.RowKit

theorem ret_cs {c d : Cs} (h : c = d) : Ending.returned c.agg = .returned d.agg := by rw [h]
theorem ret_u32 {a b : Int} (h : a = b) : Ending.returned (.int .u32 a) = .returned (.int .u32 b) := by rw [h]
/-- The result's block, laid last. -/
theorem last1 (w : World) (A : Obj) : (w.alloc A).heap[w.heap.size]? = some A := heap_alloc_new w A
theorem last2 (w : World) (A B : Obj) : ((w.alloc A).alloc B).heap[w.heap.size + 1]? = some B := by
  have := heap_alloc_new (w.alloc A) B
  simpa using this
theorem last3 (w : World) (A B C : Obj) : (((w.alloc A).alloc B).alloc C).heap[w.heap.size + 1 + 1]? = some C := by
  have := heap_alloc_new ((w.alloc A).alloc B) C
  simpa using this

set_option maxHeartbeats 1000000 in
theorem refUnion_any (a b : Cs) (w : World) (ha : a.ok) (hb : b.ok) :
    Calls Try.prog 25 #[a.agg, b.agg] w fun e w' => e = .returned (Cs.union a b).agg ∧ Below w.heap.size w w' := by
  have e1 := u32_or_nat a.up b.up ha.1 hb.1
  have e2 := u32_or_nat a.dn b.dn ha.2 hb.2
  have hR : (Cs.union a b).agg = .agg #[.int .u32 (Cs.union a b).up, .int .u32 (Cs.union a b).dn] := rfl
  unfold Cs.union at hR ⊢
  obtain ⟨a1, a2⟩ := a
  obtain ⟨b1, b2⟩ := b
  simp only [Cs.agg] at e1 e2 hR ⊢
  clear ha hb hR
  go_enter Try.func25, Try.ntmps25
  go_wp2
  exact bodyPost_ret (results_cell_row Try.results25 _ _ _ _ _ (0, 0) _ rfl (last3 _ _ _ _) Try.underlying61 rfl (by kernel_rfl)) rfl (⟨rfl, by go_grown⟩)

set_option maxHeartbeats 1000000 in
theorem both_any (a b : Cs) (w : World) (ha : a.ok) (hb : b.ok) :
    Calls Try.prog 106 #[a.agg, b.agg] w fun e w' => e = .returned (Cs.both a b).agg ∧ Below w.heap.size w w' := by
  have e1 := u32_and_nat a.up b.up ha.1 hb.1
  have e2 := u32_and_nat a.dn b.dn ha.2 hb.2
  have hR : (Cs.both a b).agg = .agg #[.int .u32 (Cs.both a b).up, .int .u32 (Cs.both a b).dn] := rfl
  unfold Cs.both at hR ⊢
  obtain ⟨a1, a2⟩ := a
  obtain ⟨b1, b2⟩ := b
  simp only [Cs.agg] at e1 e2 hR ⊢
  clear ha hb hR
  go_enter Try.func106, Try.ntmps106
  go_wp2
  exact bodyPost_ret (results_cell_row Try.results106 _ _ _ _ _ (0, 0) _ rfl (last3 _ _ _ _) Try.underlying61 rfl (by kernel_rfl)) rfl (⟨rfl, by go_grown⟩)

set_option maxHeartbeats 1000000 in
theorem refMinus_any (a b : Cs) (w : World) (ha : a.ok) (hb : b.ok) :
    Calls Try.prog 26 #[a.agg, b.agg] w fun e w' => e = .returned (Cs.minus a b).agg ∧ Below w.heap.size w w' := by
  have e1 := u32_andNot_nat a.up b.up ha.1 hb.1
  have e2 := u32_andNot_nat a.dn b.dn ha.2 hb.2
  have hR : (Cs.minus a b).agg = .agg #[.int .u32 (Cs.minus a b).up, .int .u32 (Cs.minus a b).dn] := rfl
  unfold Cs.minus at hR ⊢
  obtain ⟨a1, a2⟩ := a
  obtain ⟨b1, b2⟩ := b
  simp only [Cs.agg] at e1 e2 hR ⊢
  clear ha hb hR
  go_enter Try.func26, Try.ntmps26
  go_wp2
  exact bodyPost_ret (results_cell_row Try.results26 _ _ _ _ _ (0, 0) _ rfl (last3 _ _ _ _) Try.underlying61 rfl (by kernel_rfl)) rfl (⟨rfl, by go_grown⟩)

theorem two_mod {k : Nat} (h : k < 32) : (2 : Int) ^ k % 4294967296 = ((2 ^ k : Nat) : Int) := by
  have := Cs.pow_lt h
  have e : (2 : Int) ^ k = ((2 ^ k : Nat) : Int) := by rw [Int.natCast_pow]; rfl
  rw [e]
  generalize 2 ^ k = x at *
  omega
set_option maxHeartbeats 1000000 in
theorem at_any (f : Int) (w : World) :
    Calls Try.prog 113 #[.int .i64 f] w fun e w' => e = .returned (.int .u32 (Cs.bitAt f)) ∧ w = w' := by
  by_cases h0 : f < 0
  · have e : Cs.bitAt f = 0 := by unfold Cs.bitAt; rw [if_neg (by omega)]
    rw [e]
    go_enter Try.func113, Try.ntmps113
    go_wp2
    go_ret
    exact ⟨rfl, rfl⟩
  · by_cases h1 : f < 32
    · obtain ⟨k, rfl⟩ : ∃ k : Nat, f = (k : Int) := ⟨f.toNat, by omega⟩
      have hk : k < 32 := by omega
      rw [Cs.bitAt_nat hk]
      go_enter Try.func113, Try.ntmps113
      go_wp2
      go_ret
      exact ⟨ret_u32 (two_mod hk), rfl⟩
    · have e : Cs.bitAt f = 0 := by unfold Cs.bitAt; rw [if_neg (by omega)]
      rw [e]
      go_enter Try.func113, Try.ntmps113
      go_wp2
      go_ret
      exact ⟨rfl, rfl⟩
theorem low_wrap {k : Nat} (h : k ≤ 32) : ((2 : Int) ^ k - 1) % 4294967296 = ((2 ^ k - 1 : Nat) : Int) := by
  have e : (2 : Int) ^ k = ((2 ^ k : Nat) : Int) := by rw [Int.natCast_pow]; rfl
  have h1 : 1 ≤ 2 ^ k := Nat.one_le_two_pow
  have h2 : 2 ^ k ≤ 4294967296 := Nat.pow_le_pow_right (n := 2) (by decide) h
  rw [e]
  generalize 2 ^ k = x at *
  rcases Nat.lt_or_ge x 4294967296 with h3 | h3
  · omega
  · obtain rfl : x = 4294967296 := by omega
    rfl
set_option maxHeartbeats 1000000 in
theorem one_any (f d : Int) (w : World) :
    Calls Try.prog 107 #[.int .i64 f, .int .i64 d] w fun e w' => e = .returned (Cs.one f d).agg ∧ Below w.heap.size w w' := by
  have F := Lib.hid (fun w => at_any f w)
  by_cases h1 : d = 1
  · subst h1
    rw [show Cs.one f 1 = ⟨Cs.bitAt f, 0⟩ from rfl]
    generalize Cs.bitAt f = x at *
    simp only [Cs.agg]
    go_enter Try.func107, Try.ntmps107
    go_wp2_with fail
    refine (F.out _).mono ?_
    rintro e w1 ⟨rfl, rfl⟩
    go_wp2
    exact bodyPost_ret (results_cell_row Try.results107 _ _ _ _ _ (0, 0) _ rfl (last1 _ _) Try.underlying61 rfl (by kernel_rfl)) rfl (⟨rfl, by go_grown⟩)
  · by_cases h2 : d = 2
    · subst h2
      rw [show Cs.one f 2 = ⟨0, Cs.bitAt f⟩ from rfl]
      generalize Cs.bitAt f = x at *
      simp only [Cs.agg]
      go_enter Try.func107, Try.ntmps107
      go_wp2_with fail
      refine (F.out _).mono ?_
      rintro e w1 ⟨rfl, rfl⟩
      go_wp2
      exact bodyPost_ret (results_cell_row Try.results107 _ _ _ _ _ (0, 0) _ rfl (last1 _ _) Try.underlying61 rfl (by kernel_rfl)) rfl (⟨rfl, by go_grown⟩)
    · rw [show Cs.one f d = ⟨0, 0⟩ from by unfold Cs.one; rw [if_neg h1, if_neg h2]; rfl]
      have q1 : (d == 1) = false := beq_eq_false_iff_ne.2 h1
      have q2 : (d == 2) = false := beq_eq_false_iff_ne.2 h2
      simp only [Cs.agg]
      go_enter Try.func107, Try.ntmps107
      go_wp2
      exact bodyPost_ret (results_cell_row Try.results107 _ _ _ _ _ (0, 0) _ rfl (last1 _ _) Try.underlying61 rfl (by kernel_rfl)) rfl (⟨rfl, by go_grown⟩)
set_option maxHeartbeats 1000000 in
theorem refOne_any (f d : Int) (w : World) :
    Calls Try.prog 24 #[.int .i64 f, .int .i64 d] w fun e w' => e = .returned (Cs.one f d).agg ∧ Below w.heap.size w w' := by
  by_cases h0 : 0 ≤ f ∧ f < 32
  · obtain ⟨k, rfl⟩ : ∃ k : Nat, f = (k : Int) := ⟨f.toNat, by omega⟩
    have hk : k < 32 := by omega
    have HK := two_mod hk
    have g0 : (0 : Int) ≤ (k : Int) := by omega
    have g1 : (k : Int) < 32 := by omega
    by_cases h1 : d = 1
    · subst h1
      rw [show Cs.one k 1 = ⟨Cs.bitAt k, 0⟩ from rfl, Cs.bitAt_nat hk]
      simp only [Cs.agg]
      go_enter Try.func24, Try.ntmps24
      go_wp2
      exact bodyPost_ret (results_cell_row Try.results24 _ _ _ _ _ (0, 0) _ rfl (last1 _ _) Try.underlying61 rfl (by kernel_rfl)) rfl (⟨by first | rfl | (rw [HK]; rfl), by go_grown⟩)
    · by_cases h2 : d = 2
      · subst h2
        rw [show Cs.one k 2 = ⟨0, Cs.bitAt k⟩ from rfl, Cs.bitAt_nat hk]
        simp only [Cs.agg]
        go_enter Try.func24, Try.ntmps24
        go_wp2
        exact bodyPost_ret (results_cell_row Try.results24 _ _ _ _ _ (0, 0) _ rfl (last1 _ _) Try.underlying61 rfl (by kernel_rfl)) rfl (⟨by first | rfl | (rw [HK]; rfl), by go_grown⟩)
      · rw [show Cs.one k d = ⟨0, 0⟩ from by unfold Cs.one; rw [if_neg h1, if_neg h2]; rfl]
        have q1 : (d == 1) = false := beq_eq_false_iff_ne.2 h1
        have q2 : (d == 2) = false := beq_eq_false_iff_ne.2 h2
        simp only [Cs.agg]
        go_enter Try.func24, Try.ntmps24
        go_wp2
        exact bodyPost_ret (results_cell_row Try.results24 _ _ _ _ _ (0, 0) _ rfl (last1 _ _) Try.underlying61 rfl (by kernel_rfl)) rfl (⟨rfl, by go_grown⟩)
  · have e0 : Cs.one f d = ⟨0, 0⟩ := by
      unfold Cs.one Cs.bitAt
      rw [if_neg h0]
      split
      · rfl
      · split <;> rfl
    rw [e0]
    simp only [Cs.agg]
    by_cases hn : f < 0
    · go_enter Try.func24, Try.ntmps24
      go_wp2
      exact bodyPost_ret (results_cell_row Try.results24 _ _ _ _ _ (0, 0) _ rfl (last1 _ _) Try.underlying61 rfl (by kernel_rfl)) rfl (⟨rfl, by go_grown⟩)
    · have hb : 31 < f := by omega
      go_enter Try.func24, Try.ntmps24
      go_wp2
      exact bodyPost_ret (results_cell_row Try.results24 _ _ _ _ _ (0, 0) _ rfl (last1 _ _) Try.underlying61 rfl (by kernel_rfl)) rfl (⟨rfl, by go_grown⟩)
end
end Go.Proofs.Ytmonbldmgmmnbaa
