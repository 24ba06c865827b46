/- What the texts behind this one rest on: several texts in one. No statement of the seat is proved here. -/
import Derived.Test.YtifbkoaggjikpaaLM25
import Derived.Test.YtifbkoaggjikpaaLM18
import Derived.Test.YtifbkoaggjikpaaLM26
import Derived.Test.YtifbkoaggjikpaaLM08
import Derived.Test.YtifbkoaggjikpaaLM03
import Derived.Test.YtifbkoaggjikpaaLM11
import Derived.Test.YtifbkoaggjikpaaLM20
namespace Go.Proofs.Ytifbkoaggjikpaa
section
open Go.RowKit Lg Img Ghost

set_option maxRecDepth 100000 in
set_option maxHeartbeats 4000000 in
theorem readOwn_any (b : BldD) (A : Option Addr) (cap : Nat) (s : ByteArray) (w : World) (hn : b.cars.length ≤ 140737488355328) (hc : CarsAt w w.heap.size A b.cars) (hs : s.size ≤ 2000000) :
    Calls Try.prog 46 #[b.agg A cap, .string s] w fun e w' => ∃ v k, e = .returned (.tuple #[v, .int .i64 ((6 * k : Nat) : Int)]) ∧ Rc.isCnt b (bl s) k ∧ w'.ownsRow w.heap.size 41 5 v k (flatR (Rc.recsOf b (bl s) k)) ∧ Below w.heap.size w w' := by
  obtain ⟨i0, hi0, hz0, hz1, hz2⟩ := info_parts rcInfo
  have FD := Lib.hid (fun k wx (h : Below w.heap.size w wx) => by
    have := decode_any b A cap (s.extract (6 * k) (6 * k + 6)) wx hn ((hc.below h).more h.size) (by rw [ba_csize]; unfold maxLen; omega)
    rw [bl_cut] at this
    exact this)
  have HS := Lib.hid (fun k (h : ¬ 6 * k + 6 ≤ s.size) => cut_short s h b)
  have HN := Lib.hid (fun k => Rc.recsOf_succ b (bl s) k)
  have HL := Lib.hid (fun k => Rc.recsOf_len b (bl s) k)
  have H0 := Lib.hid (Rc.runB_zero b (bl s))
  have HR := Lib.hid (fun k (h : Rc.runB b (bl s) k) e => Rc.runB_succ h e)
  have hC : ∀ k, Rc.isCnt b (bl s) k ↔ Rc.runB b (bl s) k ∧ ¬ Rc.decE b (Rc.cutL (bl s) k) = 0 := fun k => Iff.rfl
  have HC := Lib.hid hC
  clear hC
  have HZ := Lib.hid (show Rc.recsOf b (bl s) 0 = [] from rfl)
  clear hc
  generalize Rc.isCnt b (bl s) = IC at *
  generalize Rc.runB b (bl s) = RB at *
  generalize Rc.recsOf b (bl s) = RO at *
  generalize hE : (fun k => Rc.decE b (Rc.cutL (bl s) k)) = E at *
  have hE' : ∀ k, Rc.decE b (Rc.cutL (bl s) k) = E k := fun k => congrFun hE k
  generalize hD : (fun k => Rc.decR b (Rc.cutL (bl s) k)) = D at *
  have hD' : ∀ k, Rc.decR b (Rc.cutL (bl s) k) = D k := fun k => congrFun hD k
  simp only [hE', hD'] at FD HS HN HR HC
  clear hE hE' hD hD'
  obtain ⟨f, d, r, p, e1, e2, e3, cs⟩ := b
  simp only [BldD.agg] at FD hn ⊢
  go_enter Try.func46, Try.ntmps46
  go_wp2_with fail
  have hst : Below (w.heap.size + 1) (w.alloc (.cells #[.int .i64 f, .int .i64 d, .int .i64 r, .int .i64 p, .float .f64 e1, .float .f64 e2, .float .f64 e3, .slice A cs.length cap] 26)) (w.alloc (.cells #[.int .i64 f, .int .i64 d, .int .i64 r, .int .i64 p, .float .f64 e1, .float .f64 e2, .float .f64 e3, .slice A cs.length cap] 26)) := Below.refl _ _
  have HST := Lib.hid hst
  clear hst
  go_loopw [6, 7] (fun v a wr => ∃ k : Nat, 6 * k ≤ s.size ∧ RB k ∧ a = .int .i64 ((6 * k : Nat) : Int) ∧ wr.ownsRow (w.heap.size + 1) 41 5 v k (flatR (RO k)) ∧ Below (w.heap.size + 1) (w.alloc (.cells #[.int .i64 f, .int .i64 d, .int .i64 r, .int .i64 p, .float .f64 e1, .float .f64 e2, .float .f64 e3, .slice A cs.length cap] 26)) wr) (fun _ a _ => s.size - (intOf a).toNat)
  case atStart => exact ⟨0, by omega, H0.out, rfl, by rw [HZ.out]; exact World.ownsRow_nil _ _ _ _, HST.out⟩
  case round =>
    obtain ⟨k, hk, hrb, rfl, hown, hbw⟩ := hrel
    have HRB := Lib.hid hrb
    clear hrb
    have hyes : decide (((s.size : Int) - ((6 * k : Nat) : Int)) ≥ 6) = decide (6 * k + 6 ≤ s.size) := by rw [decide_eq_decide]; omega
    by_cases hlt : 6 * k + 6 ≤ s.size
    · simp only [hlt, decide_true] at hyes
      have hsz := hbw.size
      simp at hsz
      obtain ⟨c0, c1, c2, c3, c4, c5, c6, c7⟩ := boxRow ((hbw.block w.heap.size (by omega)).trans (heap_alloc_new w _))
      have HB := Lib.hid hbw
      have HO := Lib.hid hown
      have FD1 := Lib.hid (fun wx (h : Below w.heap.size w wx) => FD.out k wx h)
      have HE1 := Lib.hid (HC.out k)
      have HN1 := Lib.hid (HN.out k)
      have HR1 := Lib.hid (HR.out k)
      clear hown hbw
      generalize hek : E k = ek at *
      generalize hdk : D k = dk at *
      obtain ⟨q0, q1, q2, q3, q4⟩ := dk
      simp only [Rc.agg] at FD1
      generalize ha : 6 * k = a at *
      have HA := Lib.hid ha
      clear ha hek hdk
      have hw6 : IntKind.i64.wrap ((a : Int) + 6) = (a : Int) + 6 := IntWalk.i64_in _ (by omega)
      have sl1 : ¬ (a : Int) < 0 := by omega
      have sl2 : ¬ (a : Int) + 6 < (a : Int) := by omega
      have sl3 : ¬ (s.size : Int) < (a : Int) + 6 := by omega
      have sl4 : (a : Int) + 6 ≤ (s.size : Int) := by omega
      have sl5 : (a : Int) ≤ (a : Int) + 6 := by omega
      have sl6 : ((a : Int) + 6).toNat = a + 6 := by omega
      have sl7 : (0 : Int) ≤ (a : Int) := by omega
      have sl8 : (0 : Int) ≤ (a : Int) + 6 := by omega
      go_wp2_with fail
      refine Ghost.ghost (fun γ L wx => Decls (wr).heap.size (wr) [(⟨10, 11, 41, #[.int .i64 0, .int .i64 0, .int .i64 0, .int .i64 0, .int .i64 0], #[.int .i64 q0, .int .i64 q1, .int .i64 q2, .int .i64 q3, .int .i64 q4]⟩ : Decl)] γ L wx) (by kernel_rfl) (by kernel_rfl) (fun γ => Decls.start _ γ (Below.refl _ _).drew (Nat.le_refl _)) ?_
      apply Ghost.walk_const (fun γ => by rfl)
      · intro γ L wx h1 h2 hx K hK
        obtain ⟨c0, c1, c2, c3, c4, c5, c6, c7⟩ := boxRow (((HB.out.trans (hx.below.mono hsz)).block w.heap.size (by simp)).trans (heap_alloc_new w _))
        have HK2 := Lib.hid hK
        have HX := Lib.hid hx
        clear hK h1 h2 hx
        go_simp
        first
          | (go_at_call 76; refine (FD1.out _ (below_of_new (HB.out.trans (HX.out.below.mono hsz)))).mono ?_; rintro e x1 ⟨rfl, hb⟩; exact HK2.out _ (HX.out.quiet 0 (by rfl) hb))
          | exact HK2.out _ (HX.out.quiet 0 (by rfl) (Below.refl _ _))
      simp only [Act.put, List.setIfInBounds_toArray, List.set_cons_succ, List.set_cons_zero]
      apply Ghost.walk_const (fun γ => by rfl)
      · intro γ L wx h1 h2 hx K hK
        obtain ⟨c0, c1, c2, c3, c4, c5, c6, c7⟩ := boxRow (((HB.out.trans (hx.below.mono hsz)).block w.heap.size (by simp)).trans (heap_alloc_new w _))
        have HK2 := Lib.hid hK
        have HX := Lib.hid hx
        clear hK h1 h2 hx
        go_simp
        first
          | (go_at_call 76; refine (FD1.out _ (below_of_new (HB.out.trans (HX.out.below.mono hsz)))).mono ?_; rintro e x1 ⟨rfl, hb⟩; exact HK2.out _ (HX.out.quiet 0 (by rfl) hb))
          | exact HK2.out _ (HX.out.quiet 0 (by rfl) (Below.refl _ _))
      simp only [Act.put, List.setIfInBounds_toArray, List.set_cons_succ, List.set_cons_zero]
      apply Ghost.walk_const (fun γ => by rfl)
      · intro γ L wx h1 h2 hx K hK
        obtain ⟨c0, c1, c2, c3, c4, c5, c6, c7⟩ := boxRow (((HB.out.trans (hx.below.mono hsz)).block w.heap.size (by simp)).trans (heap_alloc_new w _))
        have HK2 := Lib.hid hK
        have HX := Lib.hid hx
        clear hK h1 h2 hx
        go_simp
        first
          | (go_at_call 76; refine (FD1.out _ (below_of_new (HB.out.trans (HX.out.below.mono hsz)))).mono ?_; rintro e x1 ⟨rfl, hb⟩; exact HK2.out _ (HX.out.quiet 0 (by rfl) hb))
          | exact HK2.out _ (HX.out.quiet 0 (by rfl) (Below.refl _ _))
      simp only [Act.put, List.setIfInBounds_toArray, List.set_cons_succ, List.set_cons_zero]
      apply Ghost.walk_const (fun γ => by rfl)
      · intro γ L wx h1 h2 hx K hK
        obtain ⟨c0, c1, c2, c3, c4, c5, c6, c7⟩ := boxRow (((HB.out.trans (hx.below.mono hsz)).block w.heap.size (by simp)).trans (heap_alloc_new w _))
        have HK2 := Lib.hid hK
        have HX := Lib.hid hx
        clear hK h1 h2 hx
        go_simp
        first
          | (go_at_call 76; refine (FD1.out _ (below_of_new (HB.out.trans (HX.out.below.mono hsz)))).mono ?_; rintro e x1 ⟨rfl, hb⟩; exact HK2.out _ (HX.out.quiet 0 (by rfl) hb))
          | exact HK2.out _ (HX.out.quiet 0 (by rfl) (Below.refl _ _))
      simp only [Act.put, List.setIfInBounds_toArray, List.set_cons_succ, List.set_cons_zero]
      apply Ghost.walk_const (fun γ => by rfl)
      · intro γ L wx h1 h2 hx K hK
        obtain ⟨c0, c1, c2, c3, c4, c5, c6, c7⟩ := boxRow (((HB.out.trans (hx.below.mono hsz)).block w.heap.size (by simp)).trans (heap_alloc_new w _))
        have HK2 := Lib.hid hK
        have HX := Lib.hid hx
        clear hK h1 h2 hx
        go_simp
        first
          | (go_at_call 76; refine (FD1.out _ (below_of_new (HB.out.trans (HX.out.below.mono hsz)))).mono ?_; rintro e x1 ⟨rfl, hb⟩; exact HK2.out _ (HX.out.quiet 0 (by rfl) hb))
          | exact HK2.out _ (HX.out.quiet 0 (by rfl) (Below.refl _ _))
      simp only [Act.put, List.setIfInBounds_toArray, List.set_cons_succ, List.set_cons_zero]
      apply Ghost.walk_const (fun γ => by rfl)
      · intro γ L wx h1 h2 hx K hK
        obtain ⟨c0, c1, c2, c3, c4, c5, c6, c7⟩ := boxRow (((HB.out.trans (hx.below.mono hsz)).block w.heap.size (by simp)).trans (heap_alloc_new w _))
        have HK2 := Lib.hid hK
        have HX := Lib.hid hx
        clear hK h1 h2 hx
        go_simp
        first
          | (go_at_call 76; refine (FD1.out _ (below_of_new (HB.out.trans (HX.out.below.mono hsz)))).mono ?_; rintro e x1 ⟨rfl, hb⟩; exact HK2.out _ (HX.out.quiet 0 (by rfl) hb))
          | exact HK2.out _ (HX.out.quiet 0 (by rfl) (Below.refl _ _))
      simp only [Act.put, List.setIfInBounds_toArray, List.set_cons_succ, List.set_cons_zero]
      apply Ghost.walk_const (fun γ => by rfl)
      · intro γ L wx h1 h2 hx K hK
        obtain ⟨c0, c1, c2, c3, c4, c5, c6, c7⟩ := boxRow (((HB.out.trans (hx.below.mono hsz)).block w.heap.size (by simp)).trans (heap_alloc_new w _))
        have HK2 := Lib.hid hK
        have HX := Lib.hid hx
        clear hK h1 h2 hx
        go_simp
        first
          | (go_at_call 76; refine (FD1.out _ (below_of_new (HB.out.trans (HX.out.below.mono hsz)))).mono ?_; rintro e x1 ⟨rfl, hb⟩; exact HK2.out _ (HX.out.quiet 0 (by rfl) hb))
          | exact HK2.out _ (HX.out.quiet 0 (by rfl) (Below.refl _ _))
      simp only [Act.put, List.setIfInBounds_toArray, List.set_cons_succ, List.set_cons_zero]
      apply Ghost.walk_const (fun γ => by rfl)
      · intro γ L wx h1 h2 hx K hK
        obtain ⟨c0, c1, c2, c3, c4, c5, c6, c7⟩ := boxRow (((HB.out.trans (hx.below.mono hsz)).block w.heap.size (by simp)).trans (heap_alloc_new w _))
        have HK2 := Lib.hid hK
        have HX := Lib.hid hx
        clear hK h1 h2 hx
        go_simp
        first
          | (go_at_call 76; refine (FD1.out _ (below_of_new (HB.out.trans (HX.out.below.mono hsz)))).mono ?_; rintro e x1 ⟨rfl, hb⟩; exact HK2.out _ (HX.out.quiet 0 (by rfl) hb))
          | exact HK2.out _ (HX.out.quiet 0 (by rfl) (Below.refl _ _))
      simp only [Act.put, List.setIfInBounds_toArray, List.set_cons_succ, List.set_cons_zero]
      apply Ghost.walk_const (fun γ => by rfl)
      · intro γ L wx h1 h2 hx K hK
        obtain ⟨c0, c1, c2, c3, c4, c5, c6, c7⟩ := boxRow (((HB.out.trans (hx.below.mono hsz)).block w.heap.size (by simp)).trans (heap_alloc_new w _))
        have HK2 := Lib.hid hK
        have HX := Lib.hid hx
        clear hK h1 h2 hx
        go_simp
        first
          | (go_at_call 76; refine (FD1.out _ (below_of_new (HB.out.trans (HX.out.below.mono hsz)))).mono ?_; rintro e x1 ⟨rfl, hb⟩; exact HK2.out _ (HX.out.quiet 0 (by rfl) hb))
          | exact HK2.out _ (HX.out.quiet 0 (by rfl) (Below.refl _ _))
      simp only [Act.put, List.setIfInBounds_toArray, List.set_cons_succ, List.set_cons_zero]
      apply Ghost.walk_const (fun γ => by rfl)
      · intro γ L wx h1 h2 hx K hK
        obtain ⟨c0, c1, c2, c3, c4, c5, c6, c7⟩ := boxRow (((HB.out.trans (hx.below.mono hsz)).block w.heap.size (by simp)).trans (heap_alloc_new w _))
        have HK2 := Lib.hid hK
        have HX := Lib.hid hx
        clear hK h1 h2 hx
        go_simp
        first
          | (go_at_call 76; refine (FD1.out _ (below_of_new (HB.out.trans (HX.out.below.mono hsz)))).mono ?_; rintro e x1 ⟨rfl, hb⟩; exact HK2.out _ (HX.out.quiet 0 (by rfl) hb))
          | exact HK2.out _ (HX.out.quiet 0 (by rfl) (Below.refl _ _))
      simp only [Act.put, List.setIfInBounds_toArray, List.set_cons_succ, List.set_cons_zero]
      refine Ghost.walk_yes (fun b => .pointer (some ⟨b, 0, none⟩)) (fun γ => by rfl) ?_ ?_
      · intro γ L wx h1 h2 hx K hK
        have HK2 := Lib.hid hK
        clear hK h2
        have hL : L (⟨10, 11, 41, #[.int .i64 0, .int .i64 0, .int .i64 0, .int .i64 0, .int .i64 0], #[.int .i64 q0, .int .i64 q1, .int .i64 q2, .int .i64 q3, .int .i64 q4]⟩ : Decl).al = false := h1
        clear h1
        go_simp
        exact HK2.out wx.heap.size _ (hx.alloc (⟨10, 11, 41, #[.int .i64 0, .int .i64 0, .int .i64 0, .int .i64 0, .int .i64 0], #[.int .i64 q0, .int .i64 q1, .int .i64 q2, .int .i64 q3, .int .i64 q4]⟩ : Decl) (decl_mem _) hL (by rfl) (decl_al _))
      simp only [Act.put, List.setIfInBounds_toArray, List.set_cons_succ, List.set_cons_zero]
      refine Ghost.walk_yes (fun _ => undef) (fun γ => by rfl) ?_ ?_
      · intro γ L wx h1 h2 hx K hK
        have hA : L (⟨10, 11, 41, #[.int .i64 0, .int .i64 0, .int .i64 0, .int .i64 0, .int .i64 0], #[.int .i64 q0, .int .i64 q1, .int .i64 q2, .int .i64 q3, .int .i64 q4]⟩ : Decl).al = true := h2 10 (by kernel_rfl)
        exact hx.wp_store (⟨10, 11, 41, #[.int .i64 0, .int .i64 0, .int .i64 0, .int .i64 0, .int .i64 0], #[.int .i64 q0, .int .i64 q1, .int .i64 q2, .int .i64 q3, .int .i64 q4]⟩ : Decl) (decl_mem _) h1 hA _ _ rfl rfl rfl (by kernel_rfl) rfl (by kernel_rfl) (hK 0 _ (hx.store (⟨10, 11, 41, #[.int .i64 0, .int .i64 0, .int .i64 0, .int .i64 0, .int .i64 0], #[.int .i64 q0, .int .i64 q1, .int .i64 q2, .int .i64 q3, .int .i64 q4]⟩ : Decl) (decl_mem _) hA (by rfl) (decl_st _) (decl_al _) 0))
      simp only [Act.put]
      apply Ghost.walk_const (fun γ => by rfl)
      · intro γ L wx h1 h2 hx K hK
        obtain ⟨c0, c1, c2, c3, c4, c5, c6, c7⟩ := boxRow (((HB.out.trans (hx.below.mono hsz)).block w.heap.size (by simp)).trans (heap_alloc_new w _))
        have HK2 := Lib.hid hK
        have HX := Lib.hid hx
        clear hK h1 h2 hx
        go_simp
        first
          | (go_at_call 76; refine (FD1.out _ (below_of_new (HB.out.trans (HX.out.below.mono hsz)))).mono ?_; rintro e x1 ⟨rfl, hb⟩; exact HK2.out _ (HX.out.quiet 0 (by rfl) hb))
          | exact HK2.out _ (HX.out.quiet 0 (by rfl) (Below.refl _ _))
      simp only [Act.put, List.setIfInBounds_toArray, List.set_cons_succ, List.set_cons_zero]
      refine Ghost.walk_nil (fun γ L w4 hall hD => ?_)
      obtain ⟨hg1, hg2, hb4⟩ := hD.done1 hall (by show 10 < 13; decide) (by show 11 < 13; decide)
      clear hall hD
      simp only [Nat.zero_add, Nat.reduceAdd] at hg1 hg2 ⊢
      generalize γ 10 = g at *
      have hgl : g < w4.heap.size := (Array.getElem?_eq_some_iff.1 hg2).1
      have HB4 := Lib.hid (HB.out.trans (hb4.mono hsz))
      have HO4 := Lib.hid (own_of_blocks HO.out (fun j _ hj => hb4.block j hj))
      obtain ⟨z0, z1, z2, z3, z4⟩ := recRow hg2
      clear hb4 c0 c1 c2 c3 c4 c5 c6 c7
      by_cases hek : ek = 0
      · have hne : (ek != 0) = false := by simp [hek]
        have hm63 : k + 1 ≤ maxLen := by have := HA.out; unfold maxLen; omega
        have HEK := Lib.hid hek
        clear hek
        go_wp2_with (at_builtin; refine wpList_append_own _ rfl (.tmp 27) (.tmp 29) 34 rfl (w.heap.size + 1) 41 i0 _ 5 40 Try.underlying34 hi0 hz0 hz1 hz2 rfl (by decide) u6 k (flatR (RO k)) rfl (HO4.out.alloc _) ⟨w4.heap.size, 0, none⟩ 1 1 _ rfl ?hl (World.news_of_block (heap_alloc_new _ _)) ?h1 hm63 ?hby ?hbase ?hK)
        case h1 => exact ⟨rfl, rfl, rfl, rfl, rfl⟩
        case hby => have := HA.out; omega
        case hbase => simp; have := HB4.out.size; simp at this; omega
        intro v' w' hown' hgrow _
        have hbw' := (HB4.out.alloc (by have := HB4.out.size; simpa using this) _).grown hgrow (by have := HB4.out.size; simp at this ⊢; omega) (fun k hk => by have := HO4.out.lt k hk; omega)
        have hown2 : w'.ownsRow (w.heap.size + 1) 41 5 v' (k + 1) (flatR (RO (k + 1))) := by rw [HN1.out, flatR_snoc]; exact hown'
        have HF := Lib.hid (And.intro hown2 hbw')
        clear hbw' hown2 hown' hgrow
        go_wp2_with fail
        go_roundw
        case rel => exact ⟨k + 1, by have := HA.out; omega, HR1.out HRB.out HEK.out, by have := HA.out; subst this; simp; omega, HF.out.1, HF.out.2⟩
        case measure => simp [intOf]; omega
      · have hne : (ek != 0) = true := by simp [hek]
        have HX := Lib.hid (HE1.out.2 ⟨HRB.out, hek⟩)
        go_wp2_with fail
        go_ret2
        exact ⟨u6, k, by rw [HA.out]; rfl, HX.out, own_base HO4.out (by omega), below_of_new HB4.out⟩
    · have hno : decide _ = false := hyes.trans (decide_eq_false hlt)
      have HX := Lib.hid (And.intro ((HC.out k).2 ⟨HRB.out, HS.out k hlt⟩) (And.intro hown hbw))
      clear hown hbw hyes
      go_wp2_with fail
      go_ret2
      exact ⟨_, k, rfl, HX.out.1, own_base HX.out.2.1 (by omega), below_of_new HX.out.2.2⟩

theorem own_rec_at {w : World} {B : Nat} {v : Value} {l : List Rc} (h : w.ownsRow B 41 5 v l.length (flatR l)) {k : Nat} (hk : k < l.length) :
    ∃ g cap, v = .slice (some ⟨g, 0, none⟩) l.length cap ∧ g < w.heap.size ∧ w.cell? ⟨g, k * 5, none⟩ = some (.int .i64 (l[k]).kind) ∧ w.cell? ⟨g, k * 5 + 1, none⟩ = some (.int .i64 (l[k]).floor) ∧ w.cell? ⟨g, k * 5 + 2, none⟩ = some (.int .i64 (l[k]).dir) ∧ w.cell? ⟨g, k * 5 + 3, none⟩ = some (.int .i64 (l[k]).car) ∧ w.cell? ⟨g, k * 5 + 4, none⟩ = some (.int .i64 (l[k]).value) := by
  obtain ⟨g, cap, hv, _, hlt⟩ := h.form (by omega)
  subst hv
  have hc := fun j (hj : j < 5) v (e : (l[k]).cells[j]? = some v) => (h.cellAt (k * 5 + j) (by omega)).trans ((flatR_get l k hk j hj).trans e)
  exact ⟨g, cap, rfl, hlt, hc 0 (by omega) _ rfl, hc 1 (by omega) _ rfl, hc 2 (by omega) _ rfl, hc 3 (by omega) _ rfl, hc 4 (by omega) _ rfl⟩
theorem rep_take (b : BldD) {l : List Rc} {k : Nat} (h : k < l.length) : rep b (l.take (k + 1)) = applyM (rep b (l.take k)) l[k] := by
  rw [List.take_succ_eq_append_getElem h, rep_snoc]
theorem rep_enl (b : BldD) : ∀ x : List Rc, (rep b x).en.length ≤ x.length := by
  intro x
  unfold rep
  have : ∀ (x : List Rc) (m : Img), (x.foldl applyM m).en.length ≤ m.en.length + x.length := by
    intro x
    induction x with
    | nil => intro m; simp
    | cons r x ih =>
      intro m
      rw [List.foldl_cons, List.length_cons]
      refine Nat.le_trans (ih _) ?_
      have : (applyM m r).en.length ≤ m.en.length + 1 := by
        unfold applyM
        split
        · simp
        split
        · simp
        split
        · simp
        show (applyE m.en r).length ≤ _
        unfold applyE
        split
        · split
          · rw [ins_len']; omega
          · omega
        · split
          · rw [List.length_eraseIdx]; split <;> omega
          split
          · rw [List.length_modify]; omega
          split
          · rw [List.length_modify]; omega
          · omega
      omega
  have := this x (init b.cars.length)
  simpa [init] using this

theorem below3 {w wx : World} {A B C : Obj} (h : Below (w.heap.size + 3) (((w.alloc A).alloc B).alloc C) wx) : Below w.heap.size w wx :=
  ((((Below.refl w.heap.size w).alloc (Nat.le_refl _) A).alloc (by simp) B).alloc (by simp; omega) C).trans (h.mono (by omega))
theorem boxes3 {w wx : World} {A B C : Obj} (h : Below (w.heap.size + 3) (((w.alloc A).alloc B).alloc C) wx) : wx.heap[w.heap.size]? = some A ∧ wx.heap[w.heap.size + 1]? = some B ∧ wx.heap[w.heap.size + 2]? = some C := by
  have e1 := heap_alloc_new w A
  have e2 : ((w.alloc A).alloc B).heap[w.heap.size + 1]? = some B := by
    have := heap_alloc_new (w.alloc A) B
    simpa using this
  have e3 : (((w.alloc A).alloc B).alloc C).heap[w.heap.size + 2]? = some C := by
    have := heap_alloc_new ((w.alloc A).alloc B) C
    simpa using this
  have a2 := fun o k (hk : k < w.heap.size + 1) => Below.heap_alloc (w.alloc A) o k (by simpa using hk)
  have a3 := fun o k (hk : k < w.heap.size + 2) => Below.heap_alloc ((w.alloc A).alloc B) o k (by simpa using hk)
  exact ⟨(h.block _ (by omega)).trans ((a3 _ _ (by omega)).trans ((a2 _ _ (by omega)).trans e1)), (h.block _ (by omega)).trans ((a3 _ _ (by omega)).trans e2), (h.block _ (by omega)).trans e3⟩
theorem size3 (w : World) (A B C : Obj) : (((w.alloc A).alloc B).alloc C).heap.size = w.heap.size + 3 := by simp
/-- What Read hands back: a tuple; its list. -/
def pdA (IC : Nat → Prop) (RO : Nat → List Rc) : Pd := ⟨fun w v => ∃ u k, v = .tuple #[u, .int .i64 ((6 * k : Nat) : Int)] ∧ IC k ∧ w.ownsRow 0 41 5 u k (flatR (RO k)), fun _ _ _ ⟨u, k, h1, h2, h3⟩ hb => ⟨u, k, h1, h2, own_of_blocks h3 fun j _ hj => hb.block j hj⟩⟩
def pdB (IC : Nat → Prop) (RO : Nat → List Rc) : Pd := ⟨fun w v => ∃ k, IC k ∧ w.ownsRow 0 41 5 v k (flatR (RO k)), fun _ _ _ ⟨k, h2, h3⟩ hb => ⟨k, h2, own_of_blocks h3 fun j _ hj => hb.block j hj⟩⟩
def pdT : Pd := ⟨fun _ _ => True, fun _ _ _ _ _ => trivial⟩
/-- What the loop of Replay keeps. -/
structure LoopR (base g : Nat) (w4 : World) (m : Img) (vl : Value) (x : List Rc) (wr : World) : Prop where
  im : ∃ pv fv lv ev, wr.heap[g]? = some (.cells #[pv, fv, lv, ev] 32 (0, 0)) ∧ IOwn wr base pv fv lv ev m
  recs : wr.ownsRow 0 41 5 vl x.length (flatR x)
  bx : BXc base g w4 wr

set_option maxRecDepth 100000 in
set_option maxHeartbeats 8000000 in
theorem replay_any (b : BldD) (A : Option Addr) (cap : Nat) (s : St) (w : World) (hv : validE b = 0) (hc : CarsAt w w.heap.size A b.cars) (hs : s.cur.size ≤ 2000000) :
    Calls Try.prog 19 #[b.agg A cap, s.agg] w fun e w' => ∃ m pv fv lv ev, e = .returned (.agg #[pv, fv, lv, ev]) ∧ Rpl b (bl s.cur) m ∧ IOwn w' w.heap.size pv fv lv ev m ∧ Below w.heap.size w w' := by
  have hC := (fine_of hv).cars
  have FI := Lib.hid (fun wx (hb : Below w.heap.size w wx) => initGood_any b A cap wx ((hc.below hb).more hb.size) hv)
  have FR := Lib.hid (fun wx (hb : Below w.heap.size w wx) => readOwn_any b A cap s.cur wx (by omega) ((hc.below hb).more hb.size) hs)
  have FS := Lib.hid (fun wx => current_any s wx)
  have hrl : ∀ k, Rc.isCnt b (bl s.cur) k → (Rc.recsOf b (bl s.cur) k).length = k ∧ k ≤ 1000000 ∧ ∀ r ∈ Rc.recsOf b (bl s.cur) k, Rc.okB b r = true := fun k hk => by
    refine ⟨Rc.recsOf_len _ _ _, ?_, fun r hr => ?_⟩
    · have := Rc.runB_le hk.1
      have h2 : (bl s.cur).length = s.cur.size := by unfold bl; simp
      omega
    · unfold Rc.recsOf at hr
      obtain ⟨i, hi, rfl⟩ := List.mem_map.1 hr
      have h0 := hk.1 i (List.mem_range.1 hi)
      unfold Rc.decR
      rw [if_pos h0]
      unfold Rc.decE at h0
      split at h0
      · omega
      split at h0
      · omega
      split at h0
      · omega
      split at h0
      · assumption
      · omega
  have HRL := Lib.hid hrl
  have HRP := Lib.hid (fun k (hk : Rc.isCnt b (bl s.cur) k) => (show Rpl b (bl s.cur) (rep b (Rc.recsOf b (bl s.cur) k)) from ⟨k, hk, rfl⟩))
  have HGO := Lib.hid (fun x (hx : ∀ r ∈ x, Rc.okB b r = true) => rep_good hv hx)
  have HRE := Lib.hid (fun x => rep_enl b x)
  have HRT := Lib.hid (fun (l : List Rc) k (h : k < l.length) => rep_take b h)
  have HR0 := Lib.hid (show rep b [] = init b.cars.length from rfl)
  rw [← HR0.out] at FI
  have FH := Lib.hid (fun base g pv' fv' lv' ev' (m : Img) r wx hrow (ho : IOwn wx base pv' fv' lv' ev' m) hbase (hg : Img.Good b m) (hr : Rc.okB b r = true) he => change_any base g pv' fv' lv' ev' b m r wx hrow ho hbase hg hr he)
  clear hc hC hrl HR0 hv hs
  generalize rep b = RP at *
  generalize Rpl b (bl s.cur) = RPL at *
  generalize Rc.isCnt b (bl s.cur) = IC at *
  generalize Rc.recsOf b (bl s.cur) = RO at *
  generalize Img.Good b = GD at *
  generalize Rc.okB b = OK at *
  generalize s.cur = S at *
  obtain ⟨f, d, rr, p, e1, e2, e3, cs⟩ := b
  obtain ⟨s1, s2, s3⟩ := s
  simp only [BldD.agg, St.agg, Rc.agg] at *
  go_enter Try.func19, Try.ntmps19
  go_wp2_with fail
  refine (FI.out _ (by go_grown)).mono ?_
  rintro e w1 ⟨pv, fv, lv, ev, rfl, hown, hb⟩
  rw [size3] at hown hb
  obtain ⟨B1, c1, e1'⟩ := own_slice hown.p
  obtain ⟨B2, c2, e2'⟩ := own_slice hown.f
  obtain ⟨B3, c3, e3'⟩ := own_slice hown.l
  obtain ⟨B4, c4, e4'⟩ := own_slice hown.e
  subst e1' e2' e3' e4'
  have HBX := Lib.hid hb
  have HOW := Lib.hid hown
  have hz := hb.size
  simp at hz
  generalize (RP []).ph.length = n1 at *
  generalize (RP []).fl.length = n2 at *
  generalize (RP []).lv.length = n3 at *
  generalize (RP []).en.length = n4 at *
  obtain ⟨r1, r2, r3⟩ := boxes3 hb
  have HR1 := Lib.hid r1
  have HR2 := Lib.hid r2
  clear hb hown r1 r2 r3
  go_wp2_with fail
  have HG2 := Lib.hid (heap_alloc_new w1 (.cells #[.slice B1 n1 c1, .slice B2 n2 c2, .slice B3 n3 c3, .slice B4 n4 c4] 32))
  have HB2 := Lib.hid (HBX.out.alloc (by omega) (.cells #[.slice B1 n1 c1, .slice B2 n2 c2, .slice B3 n3 c3, .slice B4 n4 c4] 32))
  have HO2 := Lib.hid (HOW.out.below ((Below.refl w1.heap.size w1).alloc (Nat.le_refl _) (.cells #[.slice B1 n1 c1, .slice B2 n2 c2, .slice B3 n3 c3, .slice B4 n4 c4] 32)))
  clear HOW HBX
  generalize hW2 : w1.alloc (.cells #[.slice B1 n1 c1, .slice B2 n2 c2, .slice B3 n3 c3, .slice B4 n4 c4] 32) = W2 at *
  have hz2 : W2.heap.size = w1.heap.size + 1 := by rw [← hW2]; simp
  generalize w1.heap.size = g at *
  have HZ2 := Lib.hid hz2
  clear hW2 hz2
  refine GhostV.ghost (fun γ L wx => GP (W2) [(3, pdA IC RO), (4, pdA IC RO), (5, pdB IC RO), (6, pdT), (7, pdB IC RO), (8, pdT)] γ L wx) (by kernel_rfl) (by kernel_rfl) (fun γ => GP.start _ _ γ) ?_
  apply GhostV.walk_const (fun γ => by rfl)
  · intro γ L wx h1 h2 hx K hK
    have hbb := HB2.out.trans (hx.below.mono (by have := HZ2.out; omega))
    obtain ⟨r1, r2, -⟩ := boxes3 hbb
    obtain ⟨k0, k1, k2, k3, k4, k5, k6, k7⟩ := boxRow r1
    have y0 := cell_of_row _ _ 0 _ _ (0, 0) r2
    have y1 := cell_of_row _ _ 1 _ _ (0, 0) r2
    have y2 := cell_of_row _ _ 2 _ _ (0, 0) r2
    have HBB := Lib.hid (below3 hbb)
    clear hbb r1 r2
    have HK2 := Lib.hid hK
    have HX := Lib.hid hx
    have H2 := Lib.hid h2
    clear hK h1 h2 hx
    go_simp
    first
      | (go_at_call 47; (with_reducible refine (FS.out _).mono ?_); rintro e w' ⟨rfl, hb⟩; exact HK2.out _ (HX.out.next _ (by rfl) hb))
      | exact HK2.out _ (HX.out.next _ (by rfl) (Below.refl _ _))
  try simp only [Act.put, List.setIfInBounds_toArray, List.set_cons_succ, List.set_cons_zero]
  apply GhostV.walk_const (fun γ => by rfl)
  · intro γ L wx h1 h2 hx K hK
    have hbb := HB2.out.trans (hx.below.mono (by have := HZ2.out; omega))
    obtain ⟨r1, r2, -⟩ := boxes3 hbb
    obtain ⟨k0, k1, k2, k3, k4, k5, k6, k7⟩ := boxRow r1
    have y0 := cell_of_row _ _ 0 _ _ (0, 0) r2
    have y1 := cell_of_row _ _ 1 _ _ (0, 0) r2
    have y2 := cell_of_row _ _ 2 _ _ (0, 0) r2
    have HBB := Lib.hid (below3 hbb)
    clear hbb r1 r2
    have HK2 := Lib.hid hK
    have HX := Lib.hid hx
    have H2 := Lib.hid h2
    clear hK h1 h2 hx
    go_simp
    first
      | (go_at_call 47; (with_reducible refine (FS.out _).mono ?_); rintro e w' ⟨rfl, hb⟩; exact HK2.out _ (HX.out.next _ (by rfl) hb))
      | exact HK2.out _ (HX.out.next _ (by rfl) (Below.refl _ _))
  try simp only [Act.put, List.setIfInBounds_toArray, List.set_cons_succ, List.set_cons_zero]
  apply GhostV.walk_const (fun γ => by rfl)
  · intro γ L wx h1 h2 hx K hK
    have hbb := HB2.out.trans (hx.below.mono (by have := HZ2.out; omega))
    obtain ⟨r1, r2, -⟩ := boxes3 hbb
    obtain ⟨k0, k1, k2, k3, k4, k5, k6, k7⟩ := boxRow r1
    have y0 := cell_of_row _ _ 0 _ _ (0, 0) r2
    have y1 := cell_of_row _ _ 1 _ _ (0, 0) r2
    have y2 := cell_of_row _ _ 2 _ _ (0, 0) r2
    have HBB := Lib.hid (below3 hbb)
    clear hbb r1 r2
    have HK2 := Lib.hid hK
    have HX := Lib.hid hx
    have H2 := Lib.hid h2
    clear hK h1 h2 hx
    go_simp
    first
      | (go_at_call 47; (with_reducible refine (FS.out _).mono ?_); rintro e w' ⟨rfl, hb⟩; exact HK2.out _ (HX.out.next _ (by rfl) hb))
      | exact HK2.out _ (HX.out.next _ (by rfl) (Below.refl _ _))
  try simp only [Act.put, List.setIfInBounds_toArray, List.set_cons_succ, List.set_cons_zero]
  refine GhostV.walk_yes (fun b => b) (fun γ => by rfl) ?_ ?_
  · intro γ L wx h1 h2 hx K hK
    have hbb := HB2.out.trans (hx.below.mono (by have := HZ2.out; omega))
    obtain ⟨r1, r2, -⟩ := boxes3 hbb
    obtain ⟨k0, k1, k2, k3, k4, k5, k6, k7⟩ := boxRow r1
    have y0 := cell_of_row _ _ 0 _ _ (0, 0) r2
    have y1 := cell_of_row _ _ 1 _ _ (0, 0) r2
    have y2 := cell_of_row _ _ 2 _ _ (0, 0) r2
    have HBB := Lib.hid (below3 hbb)
    clear hbb r1 r2
    have HK2 := Lib.hid hK
    have HX := Lib.hid hx
    have H2 := Lib.hid h2
    clear hK h1 h2 hx
    go_simp
    (go_at_call 46; refine (FR.out _ HBB.out).mono ?_; rintro e w' ⟨u, k, rfl, hk, hv, hb⟩; exact HK2.out _ _ (HX.out.make (by simp only [List.mem_cons, List.not_mem_nil, or_false]; rintro d (rfl | rfl | rfl | rfl | rfl | rfl) h; (· exact ⟨u, k, rfl, hk, own_base hv (Nat.zero_le _)⟩); (· cases h); (· cases h); (· cases h); (· cases h); (· cases h)) hb))
  try simp only [Act.put, List.setIfInBounds_toArray, List.set_cons_succ, List.set_cons_zero]
  refine GhostV.walk_yes (fun b => b) (fun γ => by rfl) ?_ ?_
  · intro γ L wx h1 h2 hx K hK
    have hbb := HB2.out.trans (hx.below.mono (by have := HZ2.out; omega))
    obtain ⟨r1, r2, -⟩ := boxes3 hbb
    obtain ⟨k0, k1, k2, k3, k4, k5, k6, k7⟩ := boxRow r1
    have y0 := cell_of_row _ _ 0 _ _ (0, 0) r2
    have y1 := cell_of_row _ _ 1 _ _ (0, 0) r2
    have y2 := cell_of_row _ _ 2 _ _ (0, 0) r2
    have HBB := Lib.hid (below3 hbb)
    clear hbb r1 r2
    have HK2 := Lib.hid hK
    have HX := Lib.hid hx
    have H2 := Lib.hid h2
    clear hK h1 h2 hx
    go_simp
    (exact HK2.out (γ 3) _ (HX.out.make (by simp only [List.mem_cons, List.not_mem_nil, or_false]; rintro d (rfl | rfl | rfl | rfl | rfl | rfl) h; (· cases h); (· exact HX.out.row (3, pdA IC RO) (by simp) (H2.out 3 (by kernel_rfl))); (· cases h); (· cases h); (· cases h); (· cases h)) (Below.refl _ _)))
  try simp only [Act.put, List.setIfInBounds_toArray, List.set_cons_succ, List.set_cons_zero]
  refine GhostV.walk_yes (fun b => b) (fun γ => by rfl) ?_ ?_
  · intro γ L wx h1 h2 hx K hK
    have hbb := HB2.out.trans (hx.below.mono (by have := HZ2.out; omega))
    obtain ⟨r1, r2, -⟩ := boxes3 hbb
    obtain ⟨k0, k1, k2, k3, k4, k5, k6, k7⟩ := boxRow r1
    have y0 := cell_of_row _ _ 0 _ _ (0, 0) r2
    have y1 := cell_of_row _ _ 1 _ _ (0, 0) r2
    have y2 := cell_of_row _ _ 2 _ _ (0, 0) r2
    have HBB := Lib.hid (below3 hbb)
    clear hbb r1 r2
    have HK2 := Lib.hid hK
    have HX := Lib.hid hx
    have H2 := Lib.hid h2
    clear hK h1 h2 hx
    go_simp
    (obtain ⟨u, k, e, hk, hv⟩ := HX.out.row (4, pdA IC RO) (by simp) (H2.out 4 (by kernel_rfl)); simp only at e; rw [e] at HK2 ⊢; clear e; go_simp; exact HK2.out u _ (HX.out.make (by simp only [List.mem_cons, List.not_mem_nil, or_false]; rintro d (rfl | rfl | rfl | rfl | rfl | rfl) h; (· cases h); (· cases h); (· exact ⟨k, hk, hv⟩); (· cases h); (· cases h); (· cases h)) (Below.refl _ _)))
  try simp only [Act.put, List.setIfInBounds_toArray, List.set_cons_succ, List.set_cons_zero]
  refine GhostV.walk_yes (fun b => b) (fun γ => by rfl) ?_ ?_
  · intro γ L wx h1 h2 hx K hK
    have hbb := HB2.out.trans (hx.below.mono (by have := HZ2.out; omega))
    obtain ⟨r1, r2, -⟩ := boxes3 hbb
    obtain ⟨k0, k1, k2, k3, k4, k5, k6, k7⟩ := boxRow r1
    have y0 := cell_of_row _ _ 0 _ _ (0, 0) r2
    have y1 := cell_of_row _ _ 1 _ _ (0, 0) r2
    have y2 := cell_of_row _ _ 2 _ _ (0, 0) r2
    have HBB := Lib.hid (below3 hbb)
    clear hbb r1 r2
    have HK2 := Lib.hid hK
    have HX := Lib.hid hx
    have H2 := Lib.hid h2
    clear hK h1 h2 hx
    go_simp
    (obtain ⟨u, k, e, hk, hv⟩ := HX.out.row (4, pdA IC RO) (by simp) (H2.out 4 (by kernel_rfl)); simp only at e; rw [e] at HK2 ⊢; clear e; go_simp; exact HK2.out (.int .i64 ((6 * k : Nat) : Int)) _ (HX.out.make (by simp only [List.mem_cons, List.not_mem_nil, or_false]; rintro d (rfl | rfl | rfl | rfl | rfl | rfl) h; (· cases h); (· cases h); (· cases h); (· exact trivial); (· cases h); (· cases h)) (Below.refl _ _)))
  try simp only [Act.put, List.setIfInBounds_toArray, List.set_cons_succ, List.set_cons_zero]
  refine GhostV.walk_yes (fun b => b) (fun γ => by rfl) ?_ ?_
  · intro γ L wx h1 h2 hx K hK
    have hbb := HB2.out.trans (hx.below.mono (by have := HZ2.out; omega))
    obtain ⟨r1, r2, -⟩ := boxes3 hbb
    obtain ⟨k0, k1, k2, k3, k4, k5, k6, k7⟩ := boxRow r1
    have y0 := cell_of_row _ _ 0 _ _ (0, 0) r2
    have y1 := cell_of_row _ _ 1 _ _ (0, 0) r2
    have y2 := cell_of_row _ _ 2 _ _ (0, 0) r2
    have HBB := Lib.hid (below3 hbb)
    clear hbb r1 r2
    have HK2 := Lib.hid hK
    have HX := Lib.hid hx
    have H2 := Lib.hid h2
    clear hK h1 h2 hx
    go_simp
    (exact HK2.out (γ 5) _ (HX.out.make (by simp only [List.mem_cons, List.not_mem_nil, or_false]; rintro d (rfl | rfl | rfl | rfl | rfl | rfl) h; (· cases h); (· cases h); (· cases h); (· cases h); (· exact HX.out.row (5, pdB IC RO) (by simp) (H2.out 5 (by kernel_rfl))); (· cases h)) (Below.refl _ _)))
  try simp only [Act.put, List.setIfInBounds_toArray, List.set_cons_succ, List.set_cons_zero]
  refine GhostV.walk_yes (fun b => b) (fun γ => by rfl) ?_ ?_
  · intro γ L wx h1 h2 hx K hK
    have hbb := HB2.out.trans (hx.below.mono (by have := HZ2.out; omega))
    obtain ⟨r1, r2, -⟩ := boxes3 hbb
    obtain ⟨k0, k1, k2, k3, k4, k5, k6, k7⟩ := boxRow r1
    have y0 := cell_of_row _ _ 0 _ _ (0, 0) r2
    have y1 := cell_of_row _ _ 1 _ _ (0, 0) r2
    have y2 := cell_of_row _ _ 2 _ _ (0, 0) r2
    have HBB := Lib.hid (below3 hbb)
    clear hbb r1 r2
    have HK2 := Lib.hid hK
    have HX := Lib.hid hx
    have H2 := Lib.hid h2
    clear hK h1 h2 hx
    go_simp
    (exact HK2.out (γ 6) _ (HX.out.make (by simp only [List.mem_cons, List.not_mem_nil, or_false]; rintro d (rfl | rfl | rfl | rfl | rfl | rfl) h; (· cases h); (· cases h); (· cases h); (· cases h); (· cases h); (· exact trivial)) (Below.refl _ _)))
  try simp only [Act.put, List.setIfInBounds_toArray, List.set_cons_succ, List.set_cons_zero]
  refine GhostV.walk_nil (fun γ L w4 hall hx => ?_)
  obtain ⟨k, hk, hown⟩ := hx.row (7, pdB IC RO) (by simp) (hall 7 (by decide))
  have hb4 := hx.below
  clear hx hall
  simp only [Nat.zero_add, Nat.reduceAdd] at hown ⊢
  generalize γ 7 = vl at *
  obtain ⟨hkl, hk6, hxok⟩ := HRL.out k hk
  have HOK := Lib.hid hxok
  have HFI := Lib.hid (HRP.out k hk)
  clear hxok hk
  generalize RO k = x at *
  subst hkl
  obtain ⟨vA, vc, hvl⟩ := own_slice hown
  subst hvl
  have hbb := HB2.out.trans (hb4.mono (by have := HZ2.out; omega))
  have HBB := Lib.hid hbb
  have HLR : Hid (LoopR (w.heap.size + 3) g w4 (RP (x.take 0)) (.slice vA x.length vc) x w4) := Lib.hid ⟨⟨_, _, _, _, (hb4.block g (by have := HZ2.out; omega)).trans HG2.out, HO2.out.below hb4⟩, hown, BXc.of (Below.refl _ _)⟩
  have hz4 := hb4.size
  have hg4 : g < w4.heap.size := by have := HZ2.out; omega
  have hgw : w.heap.size + 3 ≤ g := by omega
  clear hbb hb4 hown HO2 HG2 HB2 hz4 HZ2
  go_wp2_with fail
  go_loopw [21] (fun v wr => ∃ j : Nat, j ≤ x.length ∧ v = .int .i64 (j : Int) ∧ LoopR (w.heap.size + 3) g w4 (RP (x.take j)) (.slice vA x.length vc) x wr) (fun v _ => x.length - (intOf v).toNat)
  case atStart => exact ⟨0, by omega, rfl, HLR.out⟩
  case round =>
    obtain ⟨j, hj, rfl, hlr⟩ := hrel
    obtain ⟨⟨pv, fv, lv, ev, hrow, hio⟩, hrec, hbx⟩ := hlr
    have hzr := hbx.size
    have HRW := Lib.hid hrow
    have HIO := Lib.hid hio
    have HRC := Lib.hid hrec
    have HBXX := Lib.hid hbx
    clear hrow hio hrec hbx
    by_cases hlt : j < x.length
    case pos =>
      obtain ⟨gl, cl, hvl, hgl, r0, r1, r2, r3, r4⟩ := own_rec_at HRC.out hlt
      have HT := Lib.hid (HRT.out x j hlt)
      have HOKJ := Lib.hid (HOK.out x[j] (List.getElem_mem hlt))
      have HGJ := Lib.hid (HGO.out (x.take j) (fun r hr => HOK.out r (List.mem_of_mem_take hr)))
      have HEJ : Hid ((RP (x.take j)).en.length ≤ 1000000) := Lib.hid (Nat.le_trans (HRE.out (x.take j)) (by rw [List.length_take]; omega))
      generalize x[j] = y at *
      obtain ⟨y1, y2, y3, y4, y5⟩ := y
      obtain ⟨rfl, rfl⟩ : vA = some ⟨gl, 0, none⟩ ∧ vc = cl := by injection hvl with a1 _ a3; exact ⟨a1, a3⟩
      simp only at r0 r1 r2 r3 r4
      clear hvl
      have hal := (Below.refl wr.heap.size wr).alloc (Nat.le_refl _) (.cells #[.int .i64 y1, .int .i64 y2, .int .i64 y3, .int .i64 y4, .int .i64 y5] 41)
      have HAL := Lib.hid hal
      have FHJ := Lib.hid (FH.out (w.heap.size + 3) g pv fv lv ev (RP (x.take j)) ⟨y1, y2, y3, y4, y5⟩ (wr.alloc (.cells #[.int .i64 y1, .int .i64 y2, .int .i64 y3, .int .i64 y4, .int .i64 y5] 41)) ((hal.block g (by omega)).trans HRW.out) (HIO.out.below hal) (by simp; omega) HGJ.out HOKJ.out HEJ.out)
      clear hal
      go_wp2_with fail
      refine FHJ.out.mono ?_
      rintro e w5 ⟨rfl, pv2, fv2, lv2, ev2, hrow5, hown5, hbx5, hkr5⟩
      have HNX : Hid (LoopR (w.heap.size + 3) g w4 (RP (x.take (j + 1))) (.slice (some ⟨gl, 0, none⟩) x.length vc) x w5) := Lib.hid ⟨⟨pv2, fv2, lv2, ev2, hrow5, by rw [HT.out]; exact hown5⟩, own_rec (own_of_blocks HRC.out fun i _ hi => HAL.out.block i hi) hkr5, (HBXX.out.trans (BXc.of (HAL.out.mono (by omega)))).trans hbx5⟩
      clear hrow5 hown5 hbx5 hkr5 r0 r1 r2 r3 r4
      go_wp2_with fail
      go_roundw
      case rel => exact ⟨j + 1, by omega, by go_num, HNX.out⟩
      case measure => simp [intOf]; omega
    case neg =>
      have hjx : x.take j = x := List.take_of_length_le (by omega)
      rw [hjx] at HIO
      clear hjx
      obtain ⟨D1, g1, e1'⟩ := own_slice HIO.out.p
      obtain ⟨D2, g2, e2'⟩ := own_slice HIO.out.f
      obtain ⟨D3, g3, e3'⟩ := own_slice HIO.out.l
      obtain ⟨D4, g4, e4'⟩ := own_slice HIO.out.e
      subst e1' e2' e3' e4'
      have r4 := (HBXX.out.block (w.heap.size + 2) (by omega) (by omega)).trans (boxes3 HBB.out).2.2
      obtain ⟨q0, q1, q2, q3⟩ := imRowCells HRW.out
      have HB5 := Lib.hid ((below3 HBB.out).trans (HBXX.out.below (by omega) (by omega)))
      have hsz : w.heap.size + 3 ≤ w4.heap.size := by omega
      go_wp2_with (with_reducible show wpList _ _ _ (Oper.mk _ (.store 32 _ _) _ _ _ _ :: _) _ _; refine wpList_put rfl 32 _ _ rfl (w.heap.size + 2) #[.slice D1 _ g1, .slice D2 _ g2, .slice D3 _ g3, .slice D4 _ g4] _ 32 rfl rfl r4 (by kernel_rfl) rfl (by kernel_rfl) ?_; intro w6 hr6 hg6)
      exact bodyPost_ret (results_cell_row Try.results19 _ _ _ _ _ (0, 0) _ rfl (hr6.out) Try.underlying32 rfl (by kernel_rfl)) rfl (⟨_, _, _, _, _, rfl, HFI.out, (HIO.out.grown hg6.out (by omega)).mono (by omega), HB5.out.trans (below_grown hg6.out (by omega) (fun k hk => by injection hk with hk; omega))⟩)
end

section
open Go.RowKit Lg Img

theorem BIs.below {B b : Nat} {bs : List Value} {w w' : World} (h : BIs B b bs w) (hb : Below w.heap.size w w') : BIs B b bs w' := by
  have h1 : ∀ p, BAt B b p bs w → BAt B b p bs w' := fun p hp => by
    have hlt := Lib.BuilderAt.lt hp
    obtain ⟨hB, v, hk, hown, hne⟩ := hp
    exact ⟨hB, v, (hb.block b hlt).trans hk, own_of_blocks hown fun j _ hj => hb.block j hj, hne⟩
  exact h.imp (h1 _) (h1 _)
/-- The text of records, as bytes: what Encode gives for each, one behind another. -/
def encL (b : BldD) (l : List Rc) : List UInt8 := l.flatMap fun r => (Rc.encS b r).data.toList
theorem encL_succ (b : BldD) {l : List Rc} {k : Nat} (h : k < l.length) : Lib.byteCells (encL b (l.take (k + 1))) = Lib.byteCells (encL b (l.take k)) ++ Lib.strCells (Rc.encS b l[k]) := by
  unfold encL
  rw [List.take_succ_eq_append_getElem h, List.flatMap_append, Lib.strCells_eq]
  unfold Lib.byteCells
  rw [List.map_append, List.flatMap_cons, List.flatMap_nil, List.append_nil]
theorem encS_size (b : BldD) (r : Rc) : (Rc.encS b r).size ≤ 6 := by
  unfold Rc.encS
  split
  · exact Nat.le_of_eq rfl
  · exact Nat.zero_le _
theorem encL_len (b : BldD) : ∀ l : List Rc, (encL b l).length ≤ 6 * l.length
  | [] => Nat.le_refl _
  | r :: l => by
    have h1 := encL_len b l
    have h2 : (Rc.encS b r).data.toList.length ≤ 6 := by have := encS_size b r; rw [Array.length_toList]; exact this
    have h3 : encL b (r :: l) = (Rc.encS b r).data.toList ++ encL b l := rfl
    rw [h3, List.length_append, List.length_cons]
    omega
theorem encL_ok {b : BldD} : ∀ {l : List Rc}, (∀ r ∈ l, Rc.okB b r = true) → encL b l = Rc.joinS l
  | [], _ => rfl
  | r :: l, h => by
    have h1 : encL b l = Rc.joinS l := encL_ok fun x hx => h x (List.mem_cons_of_mem _ hx)
    have h3 : encL b (r :: l) = (Rc.encS b r).data.toList ++ encL b l := rfl
    rw [h3, h1, Rc.joinS_cons]
    unfold Rc.encS
    rw [if_pos (h r (List.mem_cons_self ..))]
set_option maxRecDepth 100000 in
set_option maxHeartbeats 4000000 in
theorem bytes_any (b : BldD) (A : Option Addr) (cap : Nat) (l : List Rc) (vA : Option Addr) (vc : Nat) (w : World) (hn : b.cars.length ≤ 140737488355328) (hc : CarsAt w w.heap.size A b.cars) (hl : l.length ≤ 10000000) (hv : RAt w vA l) :
    Calls Try.prog 72 #[b.agg A cap, .slice vA l.length vc] w fun e w' => e = .returned (.string ⟨(encL b l).toArray⟩) ∧ Below w.heap.size w w' := by
  have FE := Lib.hid (fun r wx (h : Below w.heap.size w wx) => encode_any b A cap r wx hn ((hc.below h).more h.size))
  have HS := Lib.hid (fun k (h : k < l.length) => encL_succ b h)
  have HZ := Lib.hid (show Lib.byteCells (encL b (l.take 0)) = [] from rfl)
  have HE := Lib.hid (show encL b (l.take l.length) = encL b l by rw [List.take_length])
  have HL := Lib.hid (fun k => by
    have := encL_len b (l.take k)
    rw [List.length_take] at this
    exact (show (encL b (l.take k)).length ≤ 60000000 by omega))
  have HM := Lib.hid (fun r => encS_size b r)
  have HV := Lib.hid hv
  clear hc hv
  generalize Rc.encS b = ES at *
  generalize Rc.encE b = EE at *
  generalize encL b = EL at *
  obtain ⟨f, d, rr, p, e1, e2, e3, cs⟩ := b
  simp only [BldD.agg] at *
  go_enter Try.func72, Try.ntmps72
  go_wp2_with fail
  generalize hW1 : w.alloc (.cells #[.int .i64 f, .int .i64 d, .int .i64 rr, .int .i64 p, .float .f64 e1, .float .f64 e2, .float .f64 e3, .slice A cs.length cap] 26) = W1 at *
  have hz1 : W1.heap.size = w.heap.size + 1 := by rw [← hW1]; simp
  have r1 : W1.heap[w.heap.size]? = some (.cells #[.int .i64 f, .int .i64 d, .int .i64 rr, .int .i64 p, .float .f64 e1, .float .f64 e2, .float .f64 e3, .slice A cs.length cap] 26 (0, 0)) := by rw [← hW1]; exact heap_alloc_new _ _
  have HW1 := Lib.hid (show Below w.heap.size w W1 by rw [← hW1]; exact (Below.refl _ _).alloc (Nat.le_refl _) _)
  have HR1 := Lib.hid r1
  have HB0 : Hid (BIs (w.heap.size + 1) (w.heap.size + 1) (Lib.byteCells (EL (l.take 0))) (W1.alloc (.cells #[.pointer none, .slice none 0 0] 137))) := Lib.hid (.inl ⟨Nat.le_refl _, _, by rw [← hz1]; exact heap_alloc_new _ _, by rw [HZ.out]; exact World.ownsRow_nil _ _ _ _, by simp [Value.ownBlock]⟩)
  have HBB : Hid (Below (w.heap.size + 1) W1 (W1.alloc (.cells #[.pointer none, .slice none 0 0] 137))) := Lib.hid ((Below.refl _ _).alloc (by omega) _)
  clear hW1 r1
  have HZ1 := Lib.hid hz1
  go_loopw [12] (fun v wr => ∃ k : Nat, k ≤ l.length ∧ v = .int .i64 k ∧ BIs (w.heap.size + 1) (w.heap.size + 1) (Lib.byteCells (EL (l.take k))) wr ∧ Below (w.heap.size + 1) W1 wr) (fun v _ => l.length - (intOf v).toNat)
  case atStart => exact ⟨0, Nat.zero_le _, rfl, HB0.out, HBB.out⟩
  case round =>
    obtain ⟨k, hk, rfl, hbi, hbw⟩ := hrel
    have hzr := hbw.size
    have HBI := Lib.hid hbi
    have HBW := Lib.hid hbw
    have HBQ := Lib.hid (HW1.out.trans (hbw.mono (by omega)))
    by_cases hlt : k < l.length
    case pos =>
      obtain ⟨bb, off, rfl, hb, c0, c1, c2, c3, c4⟩ := (HV.out.below HBQ.out).at_ hlt
      obtain ⟨k0, k1, k2, k3, k4, k5, k6, k7⟩ := boxRow ((hbw.block w.heap.size (by omega)).trans HR1.out)
      have F1 := Lib.hid (fun wx h => FE.out l[k] wx h)
      have HS1 := Lib.hid (HS.out k hlt)
      have HM1 := Lib.hid (HM.out l[k])
      have hd : decide ((k : Int) < (l.length : Int)) = true := decide_eq_true (by omega)
      have hlt1 : w.heap.size < wr.heap.size := by omega
      clear hbi hbw
      generalize l[k] = x at *
      obtain ⟨x1, x2, x3, x4, x5⟩ := x
      simp only [Rc.agg] at F1 c0 c1 c2 c3 c4
      have HAL := Lib.hid ((Below.refl wr.heap.size wr).alloc (Nat.le_refl _) (.cells #[.int .i64 x1, .int .i64 x2, .int .i64 x3, .int .i64 x4, .int .i64 x5] 41))
      go_wp2_with fail
      refine (F1.out _ (HBQ.out.trans (HAL.out.mono (by omega)))).mono ?_
      rintro e w2 ⟨rfl, hb2⟩
      have HB2 := Lib.hid ((HAL.out.trans (hb2.mono (by simp))))
      clear hb2
      have hw2 := HB2.out.size
      generalize ES ⟨x1, x2, x3, x4, x5⟩ = s at *
      generalize EE ⟨x1, x2, x3, x4, x5⟩ = en at *
      have F2 := Lib.hid (wstr_any (w.heap.size + 1) (w.heap.size + 1) _ s w2 (HBI.out.below HB2.out) (by rw [Lib.byteCells_length]; have := HL.out k; have := HM1.out; omega) (by omega))
      rw [← HS1.out] at F2
      clear k0 k1 k2 k3 k4 k5 k6 k7 c0 c1 c2 c3 c4
      go_wp2_with fail
      refine F2.out.mono ?_
      rintro e w3 ⟨rfl, hbt, hb3⟩
      have HN := Lib.hid (And.intro hbt ((HBW.out.trans (HB2.out.mono (by omega))).trans hb3))
      clear hbt hb3
      go_wp2_with fail
      go_roundw
      case rel => exact ⟨k + 1, by omega, by go_num, .inr HN.out.1, HN.out.2⟩
      case measure => simp [intOf]; omega
    case neg =>
      obtain rfl : k = l.length := by omega
      have hd : decide ((l.length : Int) < (l.length : Int)) = false := decide_eq_false (by omega)
      rw [HE.out] at HBI
      clear hbi hbw
      go_wp2_with fail
      refine (text_any (w.heap.size + 1) (w.heap.size + 1) _ wr HBI.out (by omega)).mono ?_
      rintro e w3 ⟨rfl, hb3⟩
      have HF := Lib.hid (HBQ.out.trans (hb3.mono (by omega)))
      clear hb3
      go_wp2_with fail
      go_ret
      exact ⟨rfl, HF.out⟩
end

section
open Go.RowKit Lg Img

end
end Go.Proofs.Ytifbkoaggjikpaa
