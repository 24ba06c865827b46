/- What the texts behind this one rest on: one text. No statement of the seat is proved here. -/
import Derived.Test.YtmonbldmgmmnbaaLM17
import Derived.Test.YtmonbldmgmmnbaaLM08
namespace Go.Proofs.Ytmonbldmgmmnbaa
section
open Go.RowKit Ghost

theorem bl_cut (s : ByteArray) (k : Nat) : bl (s.extract (6 * k) (6 * k + 6)) = Rc.cutL (bl s) k := by
  unfold bl Rc.cutL
  rw [ba_cut]
  congr 1
  omega
theorem cut_short (s : ByteArray) {k : Nat} (h : ¬ 6 * k + 6 ≤ s.size) (b : BldD) : ¬ Rc.decE b (Rc.cutL (bl s) k) = 0 := by
  intro e
  have := Rc.decE_len e
  unfold Rc.cutL at this
  rw [List.length_take, List.length_drop, bl_len] at this
  omega
/-- What a slice of one's own looks like. -/
def Shp (v : Value) (n : Nat) : Prop := (v = .slice none 0 0 ∧ n = 0) ∨ ∃ g cap, v = .slice (some ⟨g, 0, none⟩) n cap ∧ n ≤ cap
theorem Shp.of_own {w : World} {base n size : Nat} {e : TypeId} {v : Value} {l : List Value} (h : w.ownsRow base e size v n l) : Shp v n := by
  obtain ⟨-, h | ⟨g, cap, cur, hv, -, -, hc, -⟩⟩ := h
  · exact .inl h
  · exact .inr ⟨g, cap, hv, hc⟩
theorem Rc.agg_cells (r : Rc) : r.agg = .agg r.cells.toArray := rfl

set_option maxRecDepth 100000 in
set_option maxHeartbeats 4000000 in
theorem read_any (b : BldD) (A : Option Addr) (cap : Nat) (s : ByteArray) (w : World) (hn : b.cars.length ≤ 140737488355328) (hc : CarsAt w w.heap.size A b.cars) (hs : s.size ≤ 2000000) :
    Calls Try.prog 46 #[b.agg A cap, .string s] w fun e w' => ∃ v k, e = .returned (.tuple #[v, .int .i64 ((6 * k : Nat) : Int)]) ∧ Rc.isCnt b (bl s) k ∧ RV w' v (Rc.recsOf b (bl s) k) ∧ Shp v k ∧ Below w.heap.size w w' := by
  obtain ⟨i0, hi0, hz0, hz1, hz2⟩ := info_parts rcInfo
  have FD := Lib.hid (fun k wx (h : Below w.heap.size w wx) => by
    have := decode_any b A cap (s.extract (6 * k) (6 * k + 6)) wx hn ((hc.below h).more h.size) (by rw [ba_csize]; unfold maxLen; omega)
    rw [bl_cut] at this
    exact this)
  have HS := Lib.hid (fun k (h : ¬ 6 * k + 6 ≤ s.size) => cut_short s h b)
  have HN := Lib.hid (fun k => Rc.recsOf_succ b (bl s) k)
  have HL := Lib.hid (fun k => Rc.recsOf_len b (bl s) k)
  have H0 := Lib.hid (Rc.runB_zero b (bl s))
  have HR := Lib.hid (fun k (h : Rc.runB b (bl s) k) e => Rc.runB_succ h e)
  have hC : ∀ k, Rc.isCnt b (bl s) k ↔ Rc.runB b (bl s) k ∧ ¬ Rc.decE b (Rc.cutL (bl s) k) = 0 := fun k => Iff.rfl
  have HC := Lib.hid hC
  clear hC
  have HZ := Lib.hid (show Rc.recsOf b (bl s) 0 = [] from rfl)
  clear hc
  generalize Rc.isCnt b (bl s) = IC at *
  generalize Rc.runB b (bl s) = RB at *
  generalize Rc.recsOf b (bl s) = RO at *
  generalize hE : (fun k => Rc.decE b (Rc.cutL (bl s) k)) = E at *
  have hE' : ∀ k, Rc.decE b (Rc.cutL (bl s) k) = E k := fun k => congrFun hE k
  generalize hD : (fun k => Rc.decR b (Rc.cutL (bl s) k)) = D at *
  have hD' : ∀ k, Rc.decR b (Rc.cutL (bl s) k) = D k := fun k => congrFun hD k
  simp only [hE', hD'] at FD HS HN HR HC
  clear hE hE' hD hD'
  obtain ⟨f, d, r, p, e1, e2, e3, cs⟩ := b
  simp only [BldD.agg] at FD hn ⊢
  go_enter Try.func46, Try.ntmps46
  go_wp2_with fail
  have hst : Below (w.heap.size + 1) (w.alloc (.cells #[.int .i64 f, .int .i64 d, .int .i64 r, .int .i64 p, .float .f64 e1, .float .f64 e2, .float .f64 e3, .slice A cs.length cap] 26)) (w.alloc (.cells #[.int .i64 f, .int .i64 d, .int .i64 r, .int .i64 p, .float .f64 e1, .float .f64 e2, .float .f64 e3, .slice A cs.length cap] 26)) := Below.refl _ _
  have HST := Lib.hid hst
  clear hst
  go_loopw [6, 7] (fun v a wr => ∃ k : Nat, 6 * k ≤ s.size ∧ RB k ∧ a = .int .i64 ((6 * k : Nat) : Int) ∧ wr.ownsRow (w.heap.size + 1) 41 5 v k (flatR (RO k)) ∧ Below (w.heap.size + 1) (w.alloc (.cells #[.int .i64 f, .int .i64 d, .int .i64 r, .int .i64 p, .float .f64 e1, .float .f64 e2, .float .f64 e3, .slice A cs.length cap] 26)) wr) (fun _ a _ => s.size - (intOf a).toNat)
  case atStart => exact ⟨0, by omega, H0.out, rfl, by rw [HZ.out]; exact World.ownsRow_nil _ _ _ _, HST.out⟩
  case round =>
    obtain ⟨k, hk, hrb, rfl, hown, hbw⟩ := hrel
    have HRB := Lib.hid hrb
    clear hrb
    have hyes : decide (((s.size : Int) - ((6 * k : Nat) : Int)) ≥ 6) = decide (6 * k + 6 ≤ s.size) := by rw [decide_eq_decide]; omega
    by_cases hlt : 6 * k + 6 ≤ s.size
    · simp only [hlt, decide_true] at hyes
      have hsz := hbw.size
      simp at hsz
      obtain ⟨c0, c1, c2, c3, c4, c5, c6, c7⟩ := boxRow ((hbw.block w.heap.size (by omega)).trans (heap_alloc_new w _))
      have HB := Lib.hid hbw
      have HO := Lib.hid hown
      have FD1 := Lib.hid (fun wx (h : Below w.heap.size w wx) => FD.out k wx h)
      have HE1 := Lib.hid (HC.out k)
      have HN1 := Lib.hid (HN.out k)
      have HR1 := Lib.hid (HR.out k)
      clear hown hbw
      generalize hek : E k = ek at *
      generalize hdk : D k = dk at *
      obtain ⟨q0, q1, q2, q3, q4⟩ := dk
      simp only [Rc.agg] at FD1
      generalize ha : 6 * k = a at *
      have HA := Lib.hid ha
      clear ha hek hdk
      have hw6 : IntKind.i64.wrap ((a : Int) + 6) = (a : Int) + 6 := IntWalk.i64_in _ (by omega)
      have sl1 : ¬ (a : Int) < 0 := by omega
      have sl2 : ¬ (a : Int) + 6 < (a : Int) := by omega
      have sl3 : ¬ (s.size : Int) < (a : Int) + 6 := by omega
      have sl4 : (a : Int) + 6 ≤ (s.size : Int) := by omega
      have sl5 : (a : Int) ≤ (a : Int) + 6 := by omega
      have sl6 : ((a : Int) + 6).toNat = a + 6 := by omega
      have sl7 : (0 : Int) ≤ (a : Int) := by omega
      have sl8 : (0 : Int) ≤ (a : Int) + 6 := by omega
      go_wp2_with fail
      refine Ghost.ghost (fun γ L wx => Decls (wr).heap.size (wr) [(⟨10, 11, 41, #[.int .i64 0, .int .i64 0, .int .i64 0, .int .i64 0, .int .i64 0], #[.int .i64 q0, .int .i64 q1, .int .i64 q2, .int .i64 q3, .int .i64 q4]⟩ : Decl)] γ L wx) (by kernel_rfl) (by kernel_rfl) (fun γ => Decls.start _ γ (Below.refl _ _).drew (Nat.le_refl _)) ?_
      apply Ghost.walk_const (fun γ => by rfl)
      · intro γ L wx h1 h2 hx K hK
        obtain ⟨c0, c1, c2, c3, c4, c5, c6, c7⟩ := boxRow (((HB.out.trans (hx.below.mono hsz)).block w.heap.size (by simp)).trans (heap_alloc_new w _))
        have HK2 := Lib.hid hK
        have HX := Lib.hid hx
        clear hK h1 h2 hx
        go_simp
        first
          | (go_at_call 76; refine (FD1.out _ (below_of_new (HB.out.trans (HX.out.below.mono hsz)))).mono ?_; rintro e x1 ⟨rfl, hb⟩; exact HK2.out _ (HX.out.quiet 0 (by rfl) hb))
          | exact HK2.out _ (HX.out.quiet 0 (by rfl) (Below.refl _ _))
      simp only [Act.put, List.setIfInBounds_toArray, List.set_cons_succ, List.set_cons_zero]
      apply Ghost.walk_const (fun γ => by rfl)
      · intro γ L wx h1 h2 hx K hK
        obtain ⟨c0, c1, c2, c3, c4, c5, c6, c7⟩ := boxRow (((HB.out.trans (hx.below.mono hsz)).block w.heap.size (by simp)).trans (heap_alloc_new w _))
        have HK2 := Lib.hid hK
        have HX := Lib.hid hx
        clear hK h1 h2 hx
        go_simp
        first
          | (go_at_call 76; refine (FD1.out _ (below_of_new (HB.out.trans (HX.out.below.mono hsz)))).mono ?_; rintro e x1 ⟨rfl, hb⟩; exact HK2.out _ (HX.out.quiet 0 (by rfl) hb))
          | exact HK2.out _ (HX.out.quiet 0 (by rfl) (Below.refl _ _))
      simp only [Act.put, List.setIfInBounds_toArray, List.set_cons_succ, List.set_cons_zero]
      apply Ghost.walk_const (fun γ => by rfl)
      · intro γ L wx h1 h2 hx K hK
        obtain ⟨c0, c1, c2, c3, c4, c5, c6, c7⟩ := boxRow (((HB.out.trans (hx.below.mono hsz)).block w.heap.size (by simp)).trans (heap_alloc_new w _))
        have HK2 := Lib.hid hK
        have HX := Lib.hid hx
        clear hK h1 h2 hx
        go_simp
        first
          | (go_at_call 76; refine (FD1.out _ (below_of_new (HB.out.trans (HX.out.below.mono hsz)))).mono ?_; rintro e x1 ⟨rfl, hb⟩; exact HK2.out _ (HX.out.quiet 0 (by rfl) hb))
          | exact HK2.out _ (HX.out.quiet 0 (by rfl) (Below.refl _ _))
      simp only [Act.put, List.setIfInBounds_toArray, List.set_cons_succ, List.set_cons_zero]
      apply Ghost.walk_const (fun γ => by rfl)
      · intro γ L wx h1 h2 hx K hK
        obtain ⟨c0, c1, c2, c3, c4, c5, c6, c7⟩ := boxRow (((HB.out.trans (hx.below.mono hsz)).block w.heap.size (by simp)).trans (heap_alloc_new w _))
        have HK2 := Lib.hid hK
        have HX := Lib.hid hx
        clear hK h1 h2 hx
        go_simp
        first
          | (go_at_call 76; refine (FD1.out _ (below_of_new (HB.out.trans (HX.out.below.mono hsz)))).mono ?_; rintro e x1 ⟨rfl, hb⟩; exact HK2.out _ (HX.out.quiet 0 (by rfl) hb))
          | exact HK2.out _ (HX.out.quiet 0 (by rfl) (Below.refl _ _))
      simp only [Act.put, List.setIfInBounds_toArray, List.set_cons_succ, List.set_cons_zero]
      apply Ghost.walk_const (fun γ => by rfl)
      · intro γ L wx h1 h2 hx K hK
        obtain ⟨c0, c1, c2, c3, c4, c5, c6, c7⟩ := boxRow (((HB.out.trans (hx.below.mono hsz)).block w.heap.size (by simp)).trans (heap_alloc_new w _))
        have HK2 := Lib.hid hK
        have HX := Lib.hid hx
        clear hK h1 h2 hx
        go_simp
        first
          | (go_at_call 76; refine (FD1.out _ (below_of_new (HB.out.trans (HX.out.below.mono hsz)))).mono ?_; rintro e x1 ⟨rfl, hb⟩; exact HK2.out _ (HX.out.quiet 0 (by rfl) hb))
          | exact HK2.out _ (HX.out.quiet 0 (by rfl) (Below.refl _ _))
      simp only [Act.put, List.setIfInBounds_toArray, List.set_cons_succ, List.set_cons_zero]
      apply Ghost.walk_const (fun γ => by rfl)
      · intro γ L wx h1 h2 hx K hK
        obtain ⟨c0, c1, c2, c3, c4, c5, c6, c7⟩ := boxRow (((HB.out.trans (hx.below.mono hsz)).block w.heap.size (by simp)).trans (heap_alloc_new w _))
        have HK2 := Lib.hid hK
        have HX := Lib.hid hx
        clear hK h1 h2 hx
        go_simp
        first
          | (go_at_call 76; refine (FD1.out _ (below_of_new (HB.out.trans (HX.out.below.mono hsz)))).mono ?_; rintro e x1 ⟨rfl, hb⟩; exact HK2.out _ (HX.out.quiet 0 (by rfl) hb))
          | exact HK2.out _ (HX.out.quiet 0 (by rfl) (Below.refl _ _))
      simp only [Act.put, List.setIfInBounds_toArray, List.set_cons_succ, List.set_cons_zero]
      apply Ghost.walk_const (fun γ => by rfl)
      · intro γ L wx h1 h2 hx K hK
        obtain ⟨c0, c1, c2, c3, c4, c5, c6, c7⟩ := boxRow (((HB.out.trans (hx.below.mono hsz)).block w.heap.size (by simp)).trans (heap_alloc_new w _))
        have HK2 := Lib.hid hK
        have HX := Lib.hid hx
        clear hK h1 h2 hx
        go_simp
        first
          | (go_at_call 76; refine (FD1.out _ (below_of_new (HB.out.trans (HX.out.below.mono hsz)))).mono ?_; rintro e x1 ⟨rfl, hb⟩; exact HK2.out _ (HX.out.quiet 0 (by rfl) hb))
          | exact HK2.out _ (HX.out.quiet 0 (by rfl) (Below.refl _ _))
      simp only [Act.put, List.setIfInBounds_toArray, List.set_cons_succ, List.set_cons_zero]
      apply Ghost.walk_const (fun γ => by rfl)
      · intro γ L wx h1 h2 hx K hK
        obtain ⟨c0, c1, c2, c3, c4, c5, c6, c7⟩ := boxRow (((HB.out.trans (hx.below.mono hsz)).block w.heap.size (by simp)).trans (heap_alloc_new w _))
        have HK2 := Lib.hid hK
        have HX := Lib.hid hx
        clear hK h1 h2 hx
        go_simp
        first
          | (go_at_call 76; refine (FD1.out _ (below_of_new (HB.out.trans (HX.out.below.mono hsz)))).mono ?_; rintro e x1 ⟨rfl, hb⟩; exact HK2.out _ (HX.out.quiet 0 (by rfl) hb))
          | exact HK2.out _ (HX.out.quiet 0 (by rfl) (Below.refl _ _))
      simp only [Act.put, List.setIfInBounds_toArray, List.set_cons_succ, List.set_cons_zero]
      apply Ghost.walk_const (fun γ => by rfl)
      · intro γ L wx h1 h2 hx K hK
        obtain ⟨c0, c1, c2, c3, c4, c5, c6, c7⟩ := boxRow (((HB.out.trans (hx.below.mono hsz)).block w.heap.size (by simp)).trans (heap_alloc_new w _))
        have HK2 := Lib.hid hK
        have HX := Lib.hid hx
        clear hK h1 h2 hx
        go_simp
        first
          | (go_at_call 76; refine (FD1.out _ (below_of_new (HB.out.trans (HX.out.below.mono hsz)))).mono ?_; rintro e x1 ⟨rfl, hb⟩; exact HK2.out _ (HX.out.quiet 0 (by rfl) hb))
          | exact HK2.out _ (HX.out.quiet 0 (by rfl) (Below.refl _ _))
      simp only [Act.put, List.setIfInBounds_toArray, List.set_cons_succ, List.set_cons_zero]
      apply Ghost.walk_const (fun γ => by rfl)
      · intro γ L wx h1 h2 hx K hK
        obtain ⟨c0, c1, c2, c3, c4, c5, c6, c7⟩ := boxRow (((HB.out.trans (hx.below.mono hsz)).block w.heap.size (by simp)).trans (heap_alloc_new w _))
        have HK2 := Lib.hid hK
        have HX := Lib.hid hx
        clear hK h1 h2 hx
        go_simp
        first
          | (go_at_call 76; refine (FD1.out _ (below_of_new (HB.out.trans (HX.out.below.mono hsz)))).mono ?_; rintro e x1 ⟨rfl, hb⟩; exact HK2.out _ (HX.out.quiet 0 (by rfl) hb))
          | exact HK2.out _ (HX.out.quiet 0 (by rfl) (Below.refl _ _))
      simp only [Act.put, List.setIfInBounds_toArray, List.set_cons_succ, List.set_cons_zero]
      refine Ghost.walk_yes (fun b => .pointer (some ⟨b, 0, none⟩)) (fun γ => by rfl) ?_ ?_
      · intro γ L wx h1 h2 hx K hK
        have HK2 := Lib.hid hK
        clear hK h2
        have hL : L (⟨10, 11, 41, #[.int .i64 0, .int .i64 0, .int .i64 0, .int .i64 0, .int .i64 0], #[.int .i64 q0, .int .i64 q1, .int .i64 q2, .int .i64 q3, .int .i64 q4]⟩ : Decl).al = false := h1
        clear h1
        go_simp
        exact HK2.out wx.heap.size _ (hx.alloc (⟨10, 11, 41, #[.int .i64 0, .int .i64 0, .int .i64 0, .int .i64 0, .int .i64 0], #[.int .i64 q0, .int .i64 q1, .int .i64 q2, .int .i64 q3, .int .i64 q4]⟩ : Decl) (decl_mem _) hL (by rfl) (decl_al _))
      simp only [Act.put, List.setIfInBounds_toArray, List.set_cons_succ, List.set_cons_zero]
      refine Ghost.walk_yes (fun _ => undef) (fun γ => by rfl) ?_ ?_
      · intro γ L wx h1 h2 hx K hK
        have hA : L (⟨10, 11, 41, #[.int .i64 0, .int .i64 0, .int .i64 0, .int .i64 0, .int .i64 0], #[.int .i64 q0, .int .i64 q1, .int .i64 q2, .int .i64 q3, .int .i64 q4]⟩ : Decl).al = true := h2 10 (by kernel_rfl)
        exact hx.wp_store (⟨10, 11, 41, #[.int .i64 0, .int .i64 0, .int .i64 0, .int .i64 0, .int .i64 0], #[.int .i64 q0, .int .i64 q1, .int .i64 q2, .int .i64 q3, .int .i64 q4]⟩ : Decl) (decl_mem _) h1 hA _ _ rfl rfl rfl (by kernel_rfl) rfl (by kernel_rfl) (hK 0 _ (hx.store (⟨10, 11, 41, #[.int .i64 0, .int .i64 0, .int .i64 0, .int .i64 0, .int .i64 0], #[.int .i64 q0, .int .i64 q1, .int .i64 q2, .int .i64 q3, .int .i64 q4]⟩ : Decl) (decl_mem _) hA (by rfl) (decl_st _) (decl_al _) 0))
      simp only [Act.put]
      apply Ghost.walk_const (fun γ => by rfl)
      · intro γ L wx h1 h2 hx K hK
        obtain ⟨c0, c1, c2, c3, c4, c5, c6, c7⟩ := boxRow (((HB.out.trans (hx.below.mono hsz)).block w.heap.size (by simp)).trans (heap_alloc_new w _))
        have HK2 := Lib.hid hK
        have HX := Lib.hid hx
        clear hK h1 h2 hx
        go_simp
        first
          | (go_at_call 76; refine (FD1.out _ (below_of_new (HB.out.trans (HX.out.below.mono hsz)))).mono ?_; rintro e x1 ⟨rfl, hb⟩; exact HK2.out _ (HX.out.quiet 0 (by rfl) hb))
          | exact HK2.out _ (HX.out.quiet 0 (by rfl) (Below.refl _ _))
      simp only [Act.put, List.setIfInBounds_toArray, List.set_cons_succ, List.set_cons_zero]
      refine Ghost.walk_nil (fun γ L w4 hall hD => ?_)
      obtain ⟨hg1, hg2, hb4⟩ := hD.done1 hall (by show 10 < 13; decide) (by show 11 < 13; decide)
      clear hall hD
      simp only [Nat.zero_add, Nat.reduceAdd] at hg1 hg2 ⊢
      generalize γ 10 = g at *
      have hgl : g < w4.heap.size := (Array.getElem?_eq_some_iff.1 hg2).1
      have HB4 := Lib.hid (HB.out.trans (hb4.mono hsz))
      have HO4 := Lib.hid (own_of_blocks HO.out (fun j _ hj => hb4.block j hj))
      obtain ⟨z0, z1, z2, z3, z4⟩ := recRow hg2
      clear hb4 c0 c1 c2 c3 c4 c5 c6 c7
      by_cases hek : ek = 0
      · have hne : (ek != 0) = false := by simp [hek]
        have hm63 : k + 1 ≤ maxLen := by have := HA.out; unfold maxLen; omega
        have HEK := Lib.hid hek
        clear hek
        go_wp2_with (at_builtin; refine wpList_append_own _ rfl (.tmp 27) (.tmp 29) 34 rfl (w.heap.size + 1) 41 i0 _ 5 40 Try.underlying34 hi0 hz0 hz1 hz2 rfl (by decide) u6 k (flatR (RO k)) rfl (HO4.out.alloc _) ⟨w4.heap.size, 0, none⟩ 1 1 _ rfl ?hl (World.news_of_block (heap_alloc_new _ _)) ?h1 hm63 ?hby ?hbase ?hK)
        case h1 => exact ⟨rfl, rfl, rfl, rfl, rfl⟩
        case hby => have := HA.out; omega
        case hbase => simp; have := HB4.out.size; simp at this; omega
        intro v' w' hown' hgrow _
        have hbw' := (HB4.out.alloc (by have := HB4.out.size; simpa using this) _).grown hgrow (by have := HB4.out.size; simp at this ⊢; omega) (fun k hk => by have := HO4.out.lt k hk; omega)
        have hown2 : w'.ownsRow (w.heap.size + 1) 41 5 v' (k + 1) (flatR (RO (k + 1))) := by rw [HN1.out, flatR_snoc]; exact hown'
        have HF := Lib.hid (And.intro hown2 hbw')
        clear hbw' hown2 hown' hgrow
        go_wp2_with fail
        go_roundw
        case rel => exact ⟨k + 1, by have := HA.out; omega, HR1.out HRB.out HEK.out, by have := HA.out; subst this; simp; omega, HF.out.1, HF.out.2⟩
        case measure => simp [intOf]; omega
      · have hne : (ek != 0) = true := by simp [hek]
        have HX := Lib.hid (HE1.out.2 ⟨HRB.out, hek⟩)
        go_wp2_with fail
        go_ret2
        refine ⟨u6, k, by rw [HA.out]; rfl, HX.out, ?_, Shp.of_own HO4.out, below_of_new HB4.out⟩
        exact (RV.of_own (l := RO k) HO4.out).2
    · have hno : decide _ = false := hyes.trans (decide_eq_false hlt)
      have HX := Lib.hid (And.intro ((HC.out k).2 ⟨HRB.out, HS.out k hlt⟩) (And.intro hown hbw))
      clear hown hbw hyes
      go_wp2_with fail
      go_ret2
      exact ⟨_, k, rfl, HX.out.1, (RV.of_own (l := RO k) HX.out.2.1).2, Shp.of_own HX.out.2.1, below_of_new HX.out.2.2⟩
end
end Go.Proofs.Ytmonbldmgmmnbaa
