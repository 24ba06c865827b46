/- The statement StoreSplits. -/
import Derived.Test.YtanodbpeeahmaaaStOpen
import Derived.Test.YtanodbpeeahmaaaDecl1
import Derived.Test.YtanodbpeeahmaaaPut
namespace Go.Proofs.Ytanodbpeeahmaaa
open Go.RowKit Go.ChangeShapes Go.WideShapes Go.Deep St

theorem cells2 {wx : World} {g : Nat} {T : TypeId} {x y : Value} (h : wx.heap[g]? = some (.cells #[x, y] T (0, 0))) : wx.cell? ⟨g, 0, none⟩ = some x ∧ wx.cell? ⟨g, 1, none⟩ = some y :=
  ⟨cell_of_row wx _ _ _ _ (0, 0) h, cell_of_row wx _ _ _ _ (0, 0) h⟩
theorem isB_mid {s : St} (h1 : s.a.size ≤ 3000) (h2 : s.b.size ≤ 3000) (hx : s.sel = 0 ∨ s.sel = 1) : isB 9000 s = true := by
  unfold isB
  simp
  omega
theorem write_mid {a b d : ByteArray} {z : Int} (h1 : a.size ≤ 3000) (h2 : b.size ≤ 3000) (hz : 0 ≤ z) (hd : d.size ≤ 500) :
    writeF 9000 ⟨a, b, 0⟩ 1 d z = if z < d.size then (⟨a, b ++ d.extract 0 z.toNat, 0⟩, 0, 8) else (⟨a, b ++ d, 0⟩, z - d.size, 0) := by
  have hc : chk 9000 ⟨a, b, 0⟩ 1 z = 0 := by
    unfold chk
    rw [isB_mid h1 h2 (.inl rfl), if_neg (by decide), if_neg (by omega)]
  unfold writeF
  have : (((⟨a, b, 0⟩ : St).get 1).size : Int) ≤ 3000 := by simp only [St.get]; simp; omega
  rw [if_pos hc, if_neg (by omega)]
  rfl
set_option maxRecDepth 100000 in
set_option maxHeartbeats 40000000 in
theorem lawStoreSplits_walk (s : St) (d : ByteArray) (x y : Nat) (w : World) (_ : s.a.size ≤ maxLen) (_ : s.b.size ≤ maxLen) (_ : I64 s.sel) (_ : d.size ≤ maxLen) (_ : x < 65536) (_ : y < 65536) :
    Calls Try.prog 4 #[s.agg, .string d, .agg #[.int .u16 x, .int .u16 y]] w fun e w' => e = .returned (.bool true) ∧ Below w.heap.size w w' := by
  have FS := Lib.hid (fun w => short_any s w)
  have FN := Lib.hid (fun w => sane_any w)
  obtain ⟨a, b, sel⟩ := s
  simp only [St.agg] at FS ⊢
  by_cases hs : shortB ⟨a, b, sel⟩ = true ∧ d.size ≤ 500
  · obtain ⟨hs, hd5⟩ := hs
    rw [hs] at FS
    have hs2 : a.size ≤ 2000 ∧ b.size ≤ 2000 := by simpa [shortB] using hs
    clear hs
    have hd5' : decide (500 < (d.size : Int)) = false := by simp; omega
    obtain ⟨k, hk, hkd⟩ : ∃ k : Nat, (x : Int) % ((d.size : Int) + 1) = (k : Int) ∧ k ≤ d.size := by
      have h0 := Int.emod_nonneg (x : Int) (show (d.size : Int) + 1 ≠ 0 by omega)
      have h1 := Int.emod_lt_of_pos (x : Int) (show (0 : Int) < d.size + 1 by omega)
      exact ⟨((x : Int) % ((d.size : Int) + 1)).toNat, by omega, by omega⟩
    obtain ⟨u, hu, hud⟩ : ∃ u : Nat, (y : Int) % ((d.size : Int) + 3) = (u : Int) ∧ u ≤ d.size + 2 := by
      have h0 := Int.emod_nonneg (y : Int) (show (d.size : Int) + 3 ≠ 0 by omega)
      have h1 := Int.emod_lt_of_pos (y : Int) (show (0 : Int) < d.size + 3 by omega)
      exact ⟨((y : Int) % ((d.size : Int) + 3)).toNat, by omega, by omega⟩
    have hui : I64 (u : Int) := by constructor <;> omega
    have t1 : (x : Int).tmod ((d.size : Int) + 1) = k := by rw [Int.tmod_eq_emod_of_nonneg (by omega)]; exact hk
    have t2 : (y : Int).tmod ((d.size : Int) + 3) = u := by rw [Int.tmod_eq_emod_of_nonneg (by omega)]; exact hu
    have hl1 : (d.extract 0 k).size = k := ba_take_len d hkd
    have FA := Lib.hid (fun w => write_any 9000 ⟨a, b, 0⟩ 1 d u w (by omega) hui)
    have FB := Lib.hid (fun w => write_any 9000 ⟨a, b, 0⟩ 1 (d.extract 0 k) u w (by omega) hui)
    rw [write_mid (by omega) (by omega) (by omega) (by omega)] at FA FB
    rw [hl1] at FB
    clear hl1 hui
    by_cases c1 : u < k
    · rw [if_pos (by omega)] at FA FB
      rw [show (u : Int).toNat = u from rfl] at FA FB
      rw [ba_cut_cut d 0 k u (by omega), Nat.zero_add] at FB
      simp only [ans, St.agg] at FA FB
      have hmin : min (u : Int) (d.size : Int) = u := by omega
      have hge1 : decide ((d.size : Int) ≤ (u : Int)) = false := by simp; omega
      have hge2 : decide (d.size ≤ u) = false := by simp; omega
      have hbs : ¬ 9223372036854775807 < b.size + (d.extract 0 u).size := by rw [ba_csize]; omega
      have hbs1 : ¬ 9223372036854775807 < b.size + u := by omega
      have hbs2 : ¬ 9223372036854775807 < b.size + min u d.size := by omega
      have hbs3 : min u d.size = u := by omega
      have hbs4 : (d.extract 0 u).size = u := ba_take_len d (by omega)
      go_enter Try.func4, Try.ntmps4
      go_wp2_with fail
      refine (FS.out _).mono ?_
      rintro e w1 ⟨rfl, hb⟩
      obtain ⟨hb, r0, r1, hlt⟩ := laid2 hb
      have HB := Lib.hid hb
      clear hb
      have f : ∀ i, w1.frozen? ⟨w.heap.size, i, none⟩ = false := fun i => frozen_of_row _ _ _ _ _ r0
      obtain ⟨c0, c1, c2⟩ := cells3 r0
      obtain ⟨d0, d1⟩ := cells2 r1
      go_wp2_with fail
      go_region
      clear c0 c1 c2 d0 d1
      have k2 := laidSet (i := 2) (v := .int .i64 0) r0 (Below.refl _ _)
      have HB2 := Lib.hid (HB.out.setCell (p := ⟨w.heap.size, 2, none⟩) (Nat.le_refl _) (.int .i64 0))
      generalize World.setCell w1 _ _ = w2 at *
      obtain ⟨-, r0', ho, hle⟩ := k2
      clear ho f r0 r1
      replace r0' : w2.heap[w.heap.size]? = some (.cells #[.string a, .string b, .int .i64 0] 24 (0, 0)) := r0'
      obtain ⟨c0, c1, c2⟩ := cells3 r0'
      have hlt := Nat.lt_of_lt_of_le hlt hle
      clear hle
      go_wp2_with fail
      refine (FA.out _).mono ?_
      rintro e w3 ⟨rfl, hb⟩
      have hsz : w2.heap.size ≤ w3.heap.size := hb.size
      have r03 := Lib.hid ((hb.block w.heap.size (by show _ < w2.heap.size; omega)).trans r0')
      have HB3 := Lib.hid (HB2.out.drew.trans (hb.mono (B' := w.heap.size) (show w.heap.size ≤ w2.heap.size by omega)))
      clear hb c0 c1 c2 r0'
      have hlt3 : w.heap.size < w3.heap.size := by omega
      have hne3 : ¬ w.heap.size = w3.heap.size := by omega
      have k1 : (0 : Int) ≤ (k : Int) := by omega
      have k2 : (k : Int) ≤ (d.size : Int) := by omega
      have k3 : (k : Int).toNat = k := rfl
      go_wp2_with fail
      refine Ghost.ghost (fun γ L wx => Decls ((w3.alloc (.cells #[.string a, .string (b ++ d.extract 0 u), .int .i64 0] 24))).heap.size ((w3.alloc (.cells #[.string a, .string (b ++ d.extract 0 u), .int .i64 0] 24))) [(⟨10, 11, 24, #[.string ⟨#[]⟩, .string ⟨#[]⟩, .int .i64 0], #[.string a, .string (b ++ d.extract 0 u), .int .i64 0]⟩ : Decl)] γ L wx) (by kernel_rfl) (by kernel_rfl) (fun γ => Decls.start _ γ (Below.refl _ _).drew (Nat.le_refl _)) ?_
      apply Ghost.walk_const (fun γ => by rfl)
      · intro γ L wx h1 h2 hx K hK
        obtain ⟨hbx, r3x, hlx⟩ := laid1 hx.below
        obtain ⟨c0, c1, c2⟩ := cells3 ((hbx.block w.heap.size hlt3).trans r03.out)
        have HK2 := Lib.hid hK
        have HX := Lib.hid hx
        clear hK h1 h2 hx
        go_simp
        first
          | (go_at_call 9; refine (FB.out _).mono ?_; rintro e x1 ⟨rfl, hb⟩; exact HK2.out _ (HX.out.quiet 0 (by rfl) hb))
          | exact HK2.out _ (HX.out.quiet 0 (by rfl) (Below.refl _ _))
      simp only [Act.put, List.setIfInBounds_toArray, List.set_cons_succ, List.set_cons_zero]
      apply Ghost.walk_const (fun γ => by rfl)
      · intro γ L wx h1 h2 hx K hK
        obtain ⟨hbx, r3x, hlx⟩ := laid1 hx.below
        obtain ⟨c0, c1, c2⟩ := cells3 ((hbx.block w.heap.size hlt3).trans r03.out)
        have HK2 := Lib.hid hK
        have HX := Lib.hid hx
        clear hK h1 h2 hx
        go_simp
        first
          | (go_at_call 9; refine (FB.out _).mono ?_; rintro e x1 ⟨rfl, hb⟩; exact HK2.out _ (HX.out.quiet 0 (by rfl) hb))
          | exact HK2.out _ (HX.out.quiet 0 (by rfl) (Below.refl _ _))
      simp only [Act.put, List.setIfInBounds_toArray, List.set_cons_succ, List.set_cons_zero]
      apply Ghost.walk_const (fun γ => by rfl)
      · intro γ L wx h1 h2 hx K hK
        obtain ⟨hbx, r3x, hlx⟩ := laid1 hx.below
        obtain ⟨c0, c1, c2⟩ := cells3 ((hbx.block w.heap.size hlt3).trans r03.out)
        have HK2 := Lib.hid hK
        have HX := Lib.hid hx
        clear hK h1 h2 hx
        go_simp
        first
          | (go_at_call 9; refine (FB.out _).mono ?_; rintro e x1 ⟨rfl, hb⟩; exact HK2.out _ (HX.out.quiet 0 (by rfl) hb))
          | exact HK2.out _ (HX.out.quiet 0 (by rfl) (Below.refl _ _))
      simp only [Act.put, List.setIfInBounds_toArray, List.set_cons_succ, List.set_cons_zero]
      apply Ghost.walk_const (fun γ => by rfl)
      · intro γ L wx h1 h2 hx K hK
        obtain ⟨hbx, r3x, hlx⟩ := laid1 hx.below
        obtain ⟨c0, c1, c2⟩ := cells3 ((hbx.block w.heap.size hlt3).trans r03.out)
        have HK2 := Lib.hid hK
        have HX := Lib.hid hx
        clear hK h1 h2 hx
        go_simp
        first
          | (go_at_call 9; refine (FB.out _).mono ?_; rintro e x1 ⟨rfl, hb⟩; exact HK2.out _ (HX.out.quiet 0 (by rfl) hb))
          | exact HK2.out _ (HX.out.quiet 0 (by rfl) (Below.refl _ _))
      simp only [Act.put, List.setIfInBounds_toArray, List.set_cons_succ, List.set_cons_zero]
      apply Ghost.walk_const (fun γ => by rfl)
      · intro γ L wx h1 h2 hx K hK
        obtain ⟨hbx, r3x, hlx⟩ := laid1 hx.below
        obtain ⟨c0, c1, c2⟩ := cells3 ((hbx.block w.heap.size hlt3).trans r03.out)
        have HK2 := Lib.hid hK
        have HX := Lib.hid hx
        clear hK h1 h2 hx
        go_simp
        first
          | (go_at_call 9; refine (FB.out _).mono ?_; rintro e x1 ⟨rfl, hb⟩; exact HK2.out _ (HX.out.quiet 0 (by rfl) hb))
          | exact HK2.out _ (HX.out.quiet 0 (by rfl) (Below.refl _ _))
      simp only [Act.put, List.setIfInBounds_toArray, List.set_cons_succ, List.set_cons_zero]
      apply Ghost.walk_const (fun γ => by rfl)
      · intro γ L wx h1 h2 hx K hK
        obtain ⟨hbx, r3x, hlx⟩ := laid1 hx.below
        obtain ⟨c0, c1, c2⟩ := cells3 ((hbx.block w.heap.size hlt3).trans r03.out)
        have HK2 := Lib.hid hK
        have HX := Lib.hid hx
        clear hK h1 h2 hx
        go_simp
        first
          | (go_at_call 9; refine (FB.out _).mono ?_; rintro e x1 ⟨rfl, hb⟩; exact HK2.out _ (HX.out.quiet 0 (by rfl) hb))
          | exact HK2.out _ (HX.out.quiet 0 (by rfl) (Below.refl _ _))
      simp only [Act.put, List.setIfInBounds_toArray, List.set_cons_succ, List.set_cons_zero]
      apply Ghost.walk_const (fun γ => by rfl)
      · intro γ L wx h1 h2 hx K hK
        obtain ⟨hbx, r3x, hlx⟩ := laid1 hx.below
        obtain ⟨c0, c1, c2⟩ := cells3 ((hbx.block w.heap.size hlt3).trans r03.out)
        have HK2 := Lib.hid hK
        have HX := Lib.hid hx
        clear hK h1 h2 hx
        go_simp
        first
          | (go_at_call 9; refine (FB.out _).mono ?_; rintro e x1 ⟨rfl, hb⟩; exact HK2.out _ (HX.out.quiet 0 (by rfl) hb))
          | exact HK2.out _ (HX.out.quiet 0 (by rfl) (Below.refl _ _))
      simp only [Act.put, List.setIfInBounds_toArray, List.set_cons_succ, List.set_cons_zero]
      apply Ghost.walk_const (fun γ => by rfl)
      · intro γ L wx h1 h2 hx K hK
        obtain ⟨hbx, r3x, hlx⟩ := laid1 hx.below
        obtain ⟨c0, c1, c2⟩ := cells3 ((hbx.block w.heap.size hlt3).trans r03.out)
        have HK2 := Lib.hid hK
        have HX := Lib.hid hx
        clear hK h1 h2 hx
        go_simp
        first
          | (go_at_call 9; refine (FB.out _).mono ?_; rintro e x1 ⟨rfl, hb⟩; exact HK2.out _ (HX.out.quiet 0 (by rfl) hb))
          | exact HK2.out _ (HX.out.quiet 0 (by rfl) (Below.refl _ _))
      simp only [Act.put, List.setIfInBounds_toArray, List.set_cons_succ, List.set_cons_zero]
      apply Ghost.walk_const (fun γ => by rfl)
      · intro γ L wx h1 h2 hx K hK
        obtain ⟨hbx, r3x, hlx⟩ := laid1 hx.below
        obtain ⟨c0, c1, c2⟩ := cells3 ((hbx.block w.heap.size hlt3).trans r03.out)
        have HK2 := Lib.hid hK
        have HX := Lib.hid hx
        clear hK h1 h2 hx
        go_simp
        first
          | (go_at_call 9; refine (FB.out _).mono ?_; rintro e x1 ⟨rfl, hb⟩; exact HK2.out _ (HX.out.quiet 0 (by rfl) hb))
          | exact HK2.out _ (HX.out.quiet 0 (by rfl) (Below.refl _ _))
      simp only [Act.put, List.setIfInBounds_toArray, List.set_cons_succ, List.set_cons_zero]
      apply Ghost.walk_const (fun γ => by rfl)
      · intro γ L wx h1 h2 hx K hK
        obtain ⟨hbx, r3x, hlx⟩ := laid1 hx.below
        obtain ⟨c0, c1, c2⟩ := cells3 ((hbx.block w.heap.size hlt3).trans r03.out)
        have HK2 := Lib.hid hK
        have HX := Lib.hid hx
        clear hK h1 h2 hx
        go_simp
        first
          | (go_at_call 9; refine (FB.out _).mono ?_; rintro e x1 ⟨rfl, hb⟩; exact HK2.out _ (HX.out.quiet 0 (by rfl) hb))
          | exact HK2.out _ (HX.out.quiet 0 (by rfl) (Below.refl _ _))
      simp only [Act.put, List.setIfInBounds_toArray, List.set_cons_succ, List.set_cons_zero]
      refine Ghost.walk_yes (fun b => .pointer (some ⟨b, 0, none⟩)) (fun γ => by rfl) ?_ ?_
      · intro γ L wx h1 h2 hx K hK
        have HK2 := Lib.hid hK
        clear hK h2
        have hL : L (⟨10, 11, 24, #[.string ⟨#[]⟩, .string ⟨#[]⟩, .int .i64 0], #[.string a, .string (b ++ d.extract 0 u), .int .i64 0]⟩ : Decl).al = false := h1
        clear h1
        go_simp
        exact HK2.out wx.heap.size _ (hx.alloc (⟨10, 11, 24, #[.string ⟨#[]⟩, .string ⟨#[]⟩, .int .i64 0], #[.string a, .string (b ++ d.extract 0 u), .int .i64 0]⟩ : Decl) (decl_mem _) hL (by rfl) (decl_al _))
      simp only [Act.put, List.setIfInBounds_toArray, List.set_cons_succ, List.set_cons_zero]
      refine Ghost.walk_yes (fun _ => undef) (fun γ => by rfl) ?_ ?_
      · intro γ L wx h1 h2 hx K hK
        have hA : L (⟨10, 11, 24, #[.string ⟨#[]⟩, .string ⟨#[]⟩, .int .i64 0], #[.string a, .string (b ++ d.extract 0 u), .int .i64 0]⟩ : Decl).al = true := h2 10 (by kernel_rfl)
        exact hx.wp_store (⟨10, 11, 24, #[.string ⟨#[]⟩, .string ⟨#[]⟩, .int .i64 0], #[.string a, .string (b ++ d.extract 0 u), .int .i64 0]⟩ : Decl) (decl_mem _) h1 hA _ _ rfl rfl rfl (by kernel_rfl) rfl (by kernel_rfl) (hK 0 _ (hx.store (⟨10, 11, 24, #[.string ⟨#[]⟩, .string ⟨#[]⟩, .int .i64 0], #[.string a, .string (b ++ d.extract 0 u), .int .i64 0]⟩ : Decl) (decl_mem _) hA (by rfl) (decl_st _) (decl_al _) 0))
      simp only [Act.put]
      apply Ghost.walk_const (fun γ => by rfl)
      · intro γ L wx h1 h2 hx K hK
        obtain ⟨hbx, r3x, hlx⟩ := laid1 hx.below
        obtain ⟨c0, c1, c2⟩ := cells3 ((hbx.block w.heap.size hlt3).trans r03.out)
        have HK2 := Lib.hid hK
        have HX := Lib.hid hx
        clear hK h1 h2 hx
        go_simp
        first
          | (go_at_call 9; refine (FB.out _).mono ?_; rintro e x1 ⟨rfl, hb⟩; exact HK2.out _ (HX.out.quiet 0 (by rfl) hb))
          | exact HK2.out _ (HX.out.quiet 0 (by rfl) (Below.refl _ _))
      simp only [Act.put, List.setIfInBounds_toArray, List.set_cons_succ, List.set_cons_zero]
      apply Ghost.walk_const (fun γ => by rfl)
      · intro γ L wx h1 h2 hx K hK
        obtain ⟨hbx, r3x, hlx⟩ := laid1 hx.below
        obtain ⟨c0, c1, c2⟩ := cells3 ((hbx.block w.heap.size hlt3).trans r03.out)
        have HK2 := Lib.hid hK
        have HX := Lib.hid hx
        clear hK h1 h2 hx
        go_simp
        first
          | (go_at_call 9; refine (FB.out _).mono ?_; rintro e x1 ⟨rfl, hb⟩; exact HK2.out _ (HX.out.quiet 0 (by rfl) hb))
          | exact HK2.out _ (HX.out.quiet 0 (by rfl) (Below.refl _ _))
      simp only [Act.put, List.setIfInBounds_toArray, List.set_cons_succ, List.set_cons_zero]
      refine Ghost.walk_nil (fun γ L w4 hall hD => ?_)
      obtain ⟨hg1, hg2, hb4⟩ := hD.done1 hall (by show 10 < 14; decide) (by show 11 < 14; decide)
      clear hall hD
      simp only [Nat.zero_add, Nat.reduceAdd] at hg1 hg2 ⊢
      generalize γ 10 = g at *
      have hg3 : w3.heap.size + 1 ≤ g := by simpa using hg1
      have hgl : g < w4.heap.size := (Array.getElem?_eq_some_iff.1 hg2).1
      obtain ⟨hb, r3, hlt4⟩ := laid1 hb4
      have r04 := (hb.block w.heap.size hlt3).trans r03.out
      have HB4 := Lib.hid (HB3.out.trans (hb.mono (by omega)))
      obtain ⟨c0, c1, c2⟩ := cells3 r04
      obtain ⟨a0, a1, a2⟩ := cells3 r3
      obtain ⟨b0, b1, b2⟩ := cells3 hg2
      clear hb hb4 hg1
      have hne4 : ¬ w.heap.size = g := by omega
      have hne5 : ¬ w3.heap.size = g := by omega
      go_wp2_with fail
      have EQ := eqlSt a (b ++ d.extract 0 u) 0
      have u1 : (0 : Int) ≤ (u : Int) := by omega
      have u3 : (u : Int).toNat = u := rfl
      have u2 : (u : Int) ≤ d.size := by omega
      have HC := Lib.hid (fun (wx : World) (h : Below w4.heap.size w4 wx) => And.intro ((h.cell (p := ⟨w.heap.size, 0, none⟩) (by show w.heap.size < _; omega)).trans c0) (And.intro ((h.cell (p := ⟨w.heap.size, 1, none⟩) (by show w.heap.size < _; omega)).trans c1) (And.intro ((h.cell (p := ⟨w3.heap.size, 0, none⟩) (by show w3.heap.size < _; omega)).trans a0) (And.intro ((h.cell (p := ⟨w3.heap.size, 1, none⟩) (by show w3.heap.size < _; omega)).trans a1) (And.intro ((h.cell (p := ⟨w3.heap.size, 2, none⟩) (by show w3.heap.size < _; omega)).trans a2) (And.intro ((h.cell (p := ⟨g, 0, none⟩) (by show g < _; omega)).trans b0) (And.intro ((h.cell (p := ⟨g, 1, none⟩) (by show g < _; omega)).trans b1) ((h.cell (p := ⟨g, 2, none⟩) (by show g < _; omega)).trans b2))))))))
      clear c0 c1 c2 a0 a1 a2 b0 b1 b2
      refine Bag.region (fun wx => Below w4.heap.size w4 wx) (by kernel_rfl) (by kernel_rfl) (Below.refl _ _).drew ?_
      iterate 55 (first
          | (apply Bag.walk_yes (by rfl)
             (intro wx hx K hK
              obtain ⟨c0, c1, a0, a1, a2, b0, b1, b2⟩ := HC.out wx hx
              first
                | (go_simp
                   first
                    | (go_at_call 8; refine (FN.out _).mono ?_; rintro e w' ⟨rfl, hb⟩; exact hK _ (hx.trans (hb.mono hx.size)))
                    | (go_at_K; exact hK _ hx)))
             rfl)
          | (refine Bag.walk_no (by rfl) ?_; simp only [Act.put, List.setIfInBounds_toArray, List.set_cons_succ, List.set_cons_zero]))
      refine Bag.walk_nil (fun w6 hB6 => ?_)
      go_wp2_with fail
      go_ret
      exact ⟨rfl, HB4.out.trans (hB6.mono (by omega))⟩
    · by_cases c9 : u < d.size
      · rw [if_neg (by omega)] at FB
        have FB2 := Lib.hid (fun w => write_any 9000 ⟨a, b ++ d.extract 0 k, 0⟩ 1 (d.extract k d.size) ((u : Int) - k) w (by rw [ba_csize]; omega) (by constructor <;> omega))
        rw [write_mid (by omega) (by rw [ba_size, ba_csize]; omega) (by omega) (by rw [ba_csize]; omega)] at FB2
        have hl2 : (d.extract k d.size).size = d.size - k := by rw [ba_csize]; omega
        rw [hl2] at FB2
        rw [if_pos (by omega)] at FA FB2
        rw [show (u : Int).toNat = u from rfl] at FA
        rw [show ((u : Int) - k).toNat = u - k by omega, ba_cut_cut d k d.size (u - k) (by omega), show k + (u - k) = u by omega, ba_split b d (by omega)] at FB2
        clear hl2
        simp only [ans, St.agg] at FA FB FB2
        have hmin : min (u : Int) (d.size : Int) = u := by omega
        have hge1 : decide ((d.size : Int) ≤ (u : Int)) = false := by simp; omega
        have hge2 : decide (d.size ≤ u) = false := by simp; omega
        have hbs : ¬ 9223372036854775807 < b.size + (d.extract 0 u).size := by rw [ba_csize]; omega
        have hbs1 : ¬ 9223372036854775807 < b.size + u := by omega
        have hbs2 : ¬ 9223372036854775807 < b.size + min u d.size := by omega
        have hbs3 : min u d.size = u := by omega
        have hbs4 : (d.extract 0 u).size = u := ba_take_len d (by omega)
        go_enter Try.func4, Try.ntmps4
        go_wp2_with fail
        refine (FS.out _).mono ?_
        rintro e w1 ⟨rfl, hb⟩
        obtain ⟨hb, r0, r1, hlt⟩ := laid2 hb
        have HB := Lib.hid hb
        clear hb
        have f : ∀ i, w1.frozen? ⟨w.heap.size, i, none⟩ = false := fun i => frozen_of_row _ _ _ _ _ r0
        obtain ⟨c0, c1, c2⟩ := cells3 r0
        obtain ⟨d0, d1⟩ := cells2 r1
        go_wp2_with fail
        go_region
        clear c0 c1 c2 d0 d1
        have k2 := laidSet (i := 2) (v := .int .i64 0) r0 (Below.refl _ _)
        have HB2 := Lib.hid (HB.out.setCell (p := ⟨w.heap.size, 2, none⟩) (Nat.le_refl _) (.int .i64 0))
        generalize World.setCell w1 _ _ = w2 at *
        obtain ⟨-, r0', ho, hle⟩ := k2
        clear ho f r0 r1
        replace r0' : w2.heap[w.heap.size]? = some (.cells #[.string a, .string b, .int .i64 0] 24 (0, 0)) := r0'
        obtain ⟨c0, c1, c2⟩ := cells3 r0'
        have hlt := Nat.lt_of_lt_of_le hlt hle
        clear hle
        go_wp2_with fail
        refine (FA.out _).mono ?_
        rintro e w3 ⟨rfl, hb⟩
        have hsz : w2.heap.size ≤ w3.heap.size := hb.size
        have r03 := Lib.hid ((hb.block w.heap.size (by show _ < w2.heap.size; omega)).trans r0')
        have HB3 := Lib.hid (HB2.out.drew.trans (hb.mono (B' := w.heap.size) (show w.heap.size ≤ w2.heap.size by omega)))
        clear hb c0 c1 c2 r0'
        have hlt3 : w.heap.size < w3.heap.size := by omega
        have hne3 : ¬ w.heap.size = w3.heap.size := by omega
        have k1 : (0 : Int) ≤ (k : Int) := by omega
        have k2 : (k : Int) ≤ (d.size : Int) := by omega
        have k3 : (k : Int).toNat = k := rfl
        go_wp2_with fail
        refine Ghost.ghost (fun γ L wx => Decls ((w3.alloc (.cells #[.string a, .string (b ++ d.extract 0 u), .int .i64 0] 24))).heap.size ((w3.alloc (.cells #[.string a, .string (b ++ d.extract 0 u), .int .i64 0] 24))) [(⟨10, 11, 24, #[.string ⟨#[]⟩, .string ⟨#[]⟩, .int .i64 0], #[.string a, .string (b ++ d.extract 0 k), .int .i64 0]⟩ : Decl)] γ L wx) (by kernel_rfl) (by kernel_rfl) (fun γ => Decls.start _ γ (Below.refl _ _).drew (Nat.le_refl _)) ?_
        apply Ghost.walk_const (fun γ => by rfl)
        · intro γ L wx h1 h2 hx K hK
          obtain ⟨hbx, r3x, hlx⟩ := laid1 hx.below
          obtain ⟨c0, c1, c2⟩ := cells3 ((hbx.block w.heap.size hlt3).trans r03.out)
          have HK2 := Lib.hid hK
          have HX := Lib.hid hx
          clear hK h1 h2 hx
          go_simp
          first
            | (go_at_call 9; refine (FB.out _).mono ?_; rintro e x1 ⟨rfl, hb⟩; exact HK2.out _ (HX.out.quiet 0 (by rfl) hb))
            | exact HK2.out _ (HX.out.quiet 0 (by rfl) (Below.refl _ _))
        simp only [Act.put, List.setIfInBounds_toArray, List.set_cons_succ, List.set_cons_zero]
        apply Ghost.walk_const (fun γ => by rfl)
        · intro γ L wx h1 h2 hx K hK
          obtain ⟨hbx, r3x, hlx⟩ := laid1 hx.below
          obtain ⟨c0, c1, c2⟩ := cells3 ((hbx.block w.heap.size hlt3).trans r03.out)
          have HK2 := Lib.hid hK
          have HX := Lib.hid hx
          clear hK h1 h2 hx
          go_simp
          first
            | (go_at_call 9; refine (FB.out _).mono ?_; rintro e x1 ⟨rfl, hb⟩; exact HK2.out _ (HX.out.quiet 0 (by rfl) hb))
            | exact HK2.out _ (HX.out.quiet 0 (by rfl) (Below.refl _ _))
        simp only [Act.put, List.setIfInBounds_toArray, List.set_cons_succ, List.set_cons_zero]
        apply Ghost.walk_const (fun γ => by rfl)
        · intro γ L wx h1 h2 hx K hK
          obtain ⟨hbx, r3x, hlx⟩ := laid1 hx.below
          obtain ⟨c0, c1, c2⟩ := cells3 ((hbx.block w.heap.size hlt3).trans r03.out)
          have HK2 := Lib.hid hK
          have HX := Lib.hid hx
          clear hK h1 h2 hx
          go_simp
          first
            | (go_at_call 9; refine (FB.out _).mono ?_; rintro e x1 ⟨rfl, hb⟩; exact HK2.out _ (HX.out.quiet 0 (by rfl) hb))
            | exact HK2.out _ (HX.out.quiet 0 (by rfl) (Below.refl _ _))
        simp only [Act.put, List.setIfInBounds_toArray, List.set_cons_succ, List.set_cons_zero]
        apply Ghost.walk_const (fun γ => by rfl)
        · intro γ L wx h1 h2 hx K hK
          obtain ⟨hbx, r3x, hlx⟩ := laid1 hx.below
          obtain ⟨c0, c1, c2⟩ := cells3 ((hbx.block w.heap.size hlt3).trans r03.out)
          have HK2 := Lib.hid hK
          have HX := Lib.hid hx
          clear hK h1 h2 hx
          go_simp
          first
            | (go_at_call 9; refine (FB.out _).mono ?_; rintro e x1 ⟨rfl, hb⟩; exact HK2.out _ (HX.out.quiet 0 (by rfl) hb))
            | exact HK2.out _ (HX.out.quiet 0 (by rfl) (Below.refl _ _))
        simp only [Act.put, List.setIfInBounds_toArray, List.set_cons_succ, List.set_cons_zero]
        apply Ghost.walk_const (fun γ => by rfl)
        · intro γ L wx h1 h2 hx K hK
          obtain ⟨hbx, r3x, hlx⟩ := laid1 hx.below
          obtain ⟨c0, c1, c2⟩ := cells3 ((hbx.block w.heap.size hlt3).trans r03.out)
          have HK2 := Lib.hid hK
          have HX := Lib.hid hx
          clear hK h1 h2 hx
          go_simp
          first
            | (go_at_call 9; refine (FB.out _).mono ?_; rintro e x1 ⟨rfl, hb⟩; exact HK2.out _ (HX.out.quiet 0 (by rfl) hb))
            | exact HK2.out _ (HX.out.quiet 0 (by rfl) (Below.refl _ _))
        simp only [Act.put, List.setIfInBounds_toArray, List.set_cons_succ, List.set_cons_zero]
        apply Ghost.walk_const (fun γ => by rfl)
        · intro γ L wx h1 h2 hx K hK
          obtain ⟨hbx, r3x, hlx⟩ := laid1 hx.below
          obtain ⟨c0, c1, c2⟩ := cells3 ((hbx.block w.heap.size hlt3).trans r03.out)
          have HK2 := Lib.hid hK
          have HX := Lib.hid hx
          clear hK h1 h2 hx
          go_simp
          first
            | (go_at_call 9; refine (FB.out _).mono ?_; rintro e x1 ⟨rfl, hb⟩; exact HK2.out _ (HX.out.quiet 0 (by rfl) hb))
            | exact HK2.out _ (HX.out.quiet 0 (by rfl) (Below.refl _ _))
        simp only [Act.put, List.setIfInBounds_toArray, List.set_cons_succ, List.set_cons_zero]
        apply Ghost.walk_const (fun γ => by rfl)
        · intro γ L wx h1 h2 hx K hK
          obtain ⟨hbx, r3x, hlx⟩ := laid1 hx.below
          obtain ⟨c0, c1, c2⟩ := cells3 ((hbx.block w.heap.size hlt3).trans r03.out)
          have HK2 := Lib.hid hK
          have HX := Lib.hid hx
          clear hK h1 h2 hx
          go_simp
          first
            | (go_at_call 9; refine (FB.out _).mono ?_; rintro e x1 ⟨rfl, hb⟩; exact HK2.out _ (HX.out.quiet 0 (by rfl) hb))
            | exact HK2.out _ (HX.out.quiet 0 (by rfl) (Below.refl _ _))
        simp only [Act.put, List.setIfInBounds_toArray, List.set_cons_succ, List.set_cons_zero]
        apply Ghost.walk_const (fun γ => by rfl)
        · intro γ L wx h1 h2 hx K hK
          obtain ⟨hbx, r3x, hlx⟩ := laid1 hx.below
          obtain ⟨c0, c1, c2⟩ := cells3 ((hbx.block w.heap.size hlt3).trans r03.out)
          have HK2 := Lib.hid hK
          have HX := Lib.hid hx
          clear hK h1 h2 hx
          go_simp
          first
            | (go_at_call 9; refine (FB.out _).mono ?_; rintro e x1 ⟨rfl, hb⟩; exact HK2.out _ (HX.out.quiet 0 (by rfl) hb))
            | exact HK2.out _ (HX.out.quiet 0 (by rfl) (Below.refl _ _))
        simp only [Act.put, List.setIfInBounds_toArray, List.set_cons_succ, List.set_cons_zero]
        apply Ghost.walk_const (fun γ => by rfl)
        · intro γ L wx h1 h2 hx K hK
          obtain ⟨hbx, r3x, hlx⟩ := laid1 hx.below
          obtain ⟨c0, c1, c2⟩ := cells3 ((hbx.block w.heap.size hlt3).trans r03.out)
          have HK2 := Lib.hid hK
          have HX := Lib.hid hx
          clear hK h1 h2 hx
          go_simp
          first
            | (go_at_call 9; refine (FB.out _).mono ?_; rintro e x1 ⟨rfl, hb⟩; exact HK2.out _ (HX.out.quiet 0 (by rfl) hb))
            | exact HK2.out _ (HX.out.quiet 0 (by rfl) (Below.refl _ _))
        simp only [Act.put, List.setIfInBounds_toArray, List.set_cons_succ, List.set_cons_zero]
        apply Ghost.walk_const (fun γ => by rfl)
        · intro γ L wx h1 h2 hx K hK
          obtain ⟨hbx, r3x, hlx⟩ := laid1 hx.below
          obtain ⟨c0, c1, c2⟩ := cells3 ((hbx.block w.heap.size hlt3).trans r03.out)
          have HK2 := Lib.hid hK
          have HX := Lib.hid hx
          clear hK h1 h2 hx
          go_simp
          first
            | (go_at_call 9; refine (FB.out _).mono ?_; rintro e x1 ⟨rfl, hb⟩; exact HK2.out _ (HX.out.quiet 0 (by rfl) hb))
            | exact HK2.out _ (HX.out.quiet 0 (by rfl) (Below.refl _ _))
        simp only [Act.put, List.setIfInBounds_toArray, List.set_cons_succ, List.set_cons_zero]
        refine Ghost.walk_yes (fun b => .pointer (some ⟨b, 0, none⟩)) (fun γ => by rfl) ?_ ?_
        · intro γ L wx h1 h2 hx K hK
          have HK2 := Lib.hid hK
          clear hK h2
          have hL : L (⟨10, 11, 24, #[.string ⟨#[]⟩, .string ⟨#[]⟩, .int .i64 0], #[.string a, .string (b ++ d.extract 0 k), .int .i64 0]⟩ : Decl).al = false := h1
          clear h1
          go_simp
          exact HK2.out wx.heap.size _ (hx.alloc (⟨10, 11, 24, #[.string ⟨#[]⟩, .string ⟨#[]⟩, .int .i64 0], #[.string a, .string (b ++ d.extract 0 k), .int .i64 0]⟩ : Decl) (decl_mem _) hL (by rfl) (decl_al _))
        simp only [Act.put, List.setIfInBounds_toArray, List.set_cons_succ, List.set_cons_zero]
        refine Ghost.walk_yes (fun _ => undef) (fun γ => by rfl) ?_ ?_
        · intro γ L wx h1 h2 hx K hK
          have hA : L (⟨10, 11, 24, #[.string ⟨#[]⟩, .string ⟨#[]⟩, .int .i64 0], #[.string a, .string (b ++ d.extract 0 k), .int .i64 0]⟩ : Decl).al = true := h2 10 (by kernel_rfl)
          exact hx.wp_store (⟨10, 11, 24, #[.string ⟨#[]⟩, .string ⟨#[]⟩, .int .i64 0], #[.string a, .string (b ++ d.extract 0 k), .int .i64 0]⟩ : Decl) (decl_mem _) h1 hA _ _ rfl rfl rfl (by kernel_rfl) rfl (by kernel_rfl) (hK 0 _ (hx.store (⟨10, 11, 24, #[.string ⟨#[]⟩, .string ⟨#[]⟩, .int .i64 0], #[.string a, .string (b ++ d.extract 0 k), .int .i64 0]⟩ : Decl) (decl_mem _) hA (by rfl) (decl_st _) (decl_al _) 0))
        simp only [Act.put]
        apply Ghost.walk_const (fun γ => by rfl)
        · intro γ L wx h1 h2 hx K hK
          obtain ⟨hbx, r3x, hlx⟩ := laid1 hx.below
          obtain ⟨c0, c1, c2⟩ := cells3 ((hbx.block w.heap.size hlt3).trans r03.out)
          have HK2 := Lib.hid hK
          have HX := Lib.hid hx
          clear hK h1 h2 hx
          go_simp
          first
            | (go_at_call 9; refine (FB.out _).mono ?_; rintro e x1 ⟨rfl, hb⟩; exact HK2.out _ (HX.out.quiet 0 (by rfl) hb))
            | exact HK2.out _ (HX.out.quiet 0 (by rfl) (Below.refl _ _))
        simp only [Act.put, List.setIfInBounds_toArray, List.set_cons_succ, List.set_cons_zero]
        apply Ghost.walk_const (fun γ => by rfl)
        · intro γ L wx h1 h2 hx K hK
          obtain ⟨hbx, r3x, hlx⟩ := laid1 hx.below
          obtain ⟨c0, c1, c2⟩ := cells3 ((hbx.block w.heap.size hlt3).trans r03.out)
          have HK2 := Lib.hid hK
          have HX := Lib.hid hx
          clear hK h1 h2 hx
          go_simp
          first
            | (go_at_call 9; refine (FB.out _).mono ?_; rintro e x1 ⟨rfl, hb⟩; exact HK2.out _ (HX.out.quiet 0 (by rfl) hb))
            | exact HK2.out _ (HX.out.quiet 0 (by rfl) (Below.refl _ _))
        simp only [Act.put, List.setIfInBounds_toArray, List.set_cons_succ, List.set_cons_zero]
        refine Ghost.walk_nil (fun γ L w4 hall hD => ?_)
        obtain ⟨hg1, hg2, hb4⟩ := hD.done1 hall (by show 10 < 14; decide) (by show 11 < 14; decide)
        clear hall hD
        simp only [Nat.zero_add, Nat.reduceAdd] at hg1 hg2 ⊢
        generalize γ 10 = g at *
        have hg3 : w3.heap.size + 1 ≤ g := by simpa using hg1
        have hgl : g < w4.heap.size := (Array.getElem?_eq_some_iff.1 hg2).1
        obtain ⟨hb, r3, hlt4⟩ := laid1 hb4
        have r04 := (hb.block w.heap.size hlt3).trans r03.out
        have HB4 := Lib.hid (HB3.out.trans (hb.mono (by omega)))
        obtain ⟨c0, c1, c2⟩ := cells3 r04
        obtain ⟨a0, a1, a2⟩ := cells3 r3
        obtain ⟨b0, b1, b2⟩ := cells3 hg2
        clear hb hb4 hg1
        have hne4 : ¬ w.heap.size = g := by omega
        have hne5 : ¬ w3.heap.size = g := by omega
        go_wp2_with fail
        clear c0 c1 c2 a0 a1 a2 b0 b1 b2
        refine Chain.chain (fun p wx => Put (w4) (g) (.cells (if p = 0 then #[.string a, .string (b ++ d.extract 0 k), .int .i64 0] else #[.string a, .string (b ++ d.extract 0 u), .int .i64 0]) 24 (0, 0)) wx) (fun _ _ => False) [10] (by kernel_rfl) (by kernel_rfl) (fun _ _ _ _ h => h.elim) ((Put.start hg2).drew) ?_
        (first
            | (apply Chain.walk_quiet (by rfl) (by decide)
               (intro p wx hp hwn hx K hK
                obtain rfl : p = 0 := (by rcases Nat.lt_or_ge p 1 with h | h; exact Nat.lt_one_iff.1 h; obtain rfl : p = 1 := Nat.le_antisymm hp h; exact absurd ((Eq.symm (show _ = false by kernel_rfl)).trans hwn) Bool.false_ne_true)
                obtain ⟨b0, b1, b2⟩ := cells3 hx.row
                first
                  | (go_simp
                     first
                      | (go_at_call 9; refine (FB2.out _).mono ?_; rintro e x1 ⟨rfl, hb⟩; exact hK _ (hx.next hb))
                      | (go_at_K; exact hK _ hx)))
               exact ⟨_, rfl⟩)
            | (refine Chain.walk_no (by rfl) (by decide) ?_; simp only [Act.put, List.setIfInBounds_toArray, List.set_cons_succ, List.set_cons_zero]))
        (first
            | (apply Chain.walk_quiet (by rfl) (by decide)
               (intro p wx hp hwn hx K hK
                first
                  | (go_simp
                     first
                      | (go_at_call 9; refine (FB2.out _).mono ?_; rintro e x1 ⟨rfl, hb⟩; exact hK _ (hx.next hb))
                      | (go_at_K; exact hK _ hx)))
               exact ⟨_, rfl⟩)
            | (refine Chain.walk_no (by rfl) (by decide) ?_; simp only [Act.put, List.setIfInBounds_toArray, List.set_cons_succ, List.set_cons_zero]))
        (first
            | (apply Chain.walk_quiet (by rfl) (by decide)
               (intro p wx hp hwn hx K hK
                first
                  | (go_simp
                     first
                      | (go_at_call 9; refine (FB2.out _).mono ?_; rintro e x1 ⟨rfl, hb⟩; exact hK _ (hx.next hb))
                      | (go_at_K; exact hK _ hx)))
               exact ⟨_, rfl⟩)
            | (refine Chain.walk_no (by rfl) (by decide) ?_; simp only [Act.put, List.setIfInBounds_toArray, List.set_cons_succ, List.set_cons_zero]))
        (first
            | (apply Chain.walk_quiet (by rfl) (by decide)
               (intro p wx hp hwn hx K hK
                first
                  | (go_simp
                     first
                      | (go_at_call 9; refine (FB2.out _).mono ?_; rintro e x1 ⟨rfl, hb⟩; exact hK _ (hx.next hb))
                      | (go_at_K; exact hK _ hx)))
               exact ⟨_, rfl⟩)
            | (refine Chain.walk_no (by rfl) (by decide) ?_; simp only [Act.put, List.setIfInBounds_toArray, List.set_cons_succ, List.set_cons_zero]))
        (first
            | (apply Chain.walk_quiet (by rfl) (by decide)
               (intro p wx hp hwn hx K hK
                first
                  | (go_simp
                     first
                      | (go_at_call 9; refine (FB2.out _).mono ?_; rintro e x1 ⟨rfl, hb⟩; exact hK _ (hx.next hb))
                      | (go_at_K; exact hK _ hx)))
               exact ⟨_, rfl⟩)
            | (refine Chain.walk_no (by rfl) (by decide) ?_; simp only [Act.put, List.setIfInBounds_toArray, List.set_cons_succ, List.set_cons_zero]))
        (first
            | (apply Chain.walk_quiet (by rfl) (by decide)
               (intro p wx hp hwn hx K hK
                first
                  | (go_simp
                     first
                      | (go_at_call 9; refine (FB2.out _).mono ?_; rintro e x1 ⟨rfl, hb⟩; exact hK _ (hx.next hb))
                      | (go_at_K; exact hK _ hx)))
               exact ⟨_, rfl⟩)
            | (refine Chain.walk_no (by rfl) (by decide) ?_; simp only [Act.put, List.setIfInBounds_toArray, List.set_cons_succ, List.set_cons_zero]))
        (first
            | (apply Chain.walk_quiet (by rfl) (by decide)
               (intro p wx hp hwn hx K hK
                first
                  | (go_simp
                     first
                      | (go_at_call 9; refine (FB2.out _).mono ?_; rintro e x1 ⟨rfl, hb⟩; exact hK _ (hx.next hb))
                      | (go_at_K; exact hK _ hx)))
               exact ⟨_, rfl⟩)
            | (refine Chain.walk_no (by rfl) (by decide) ?_; simp only [Act.put, List.setIfInBounds_toArray, List.set_cons_succ, List.set_cons_zero]))
        (first
            | (apply Chain.walk_quiet (by rfl) (by decide)
               (intro p wx hp hwn hx K hK
                first
                  | (go_simp
                     first
                      | (go_at_call 9; refine (FB2.out _).mono ?_; rintro e x1 ⟨rfl, hb⟩; exact hK _ (hx.next hb))
                      | (go_at_K; exact hK _ hx)))
               exact ⟨_, rfl⟩)
            | (refine Chain.walk_no (by rfl) (by decide) ?_; simp only [Act.put, List.setIfInBounds_toArray, List.set_cons_succ, List.set_cons_zero]))
        (first
            | (apply Chain.walk_quiet (by rfl) (by decide)
               (intro p wx hp hwn hx K hK
                first
                  | (go_simp
                     first
                      | (go_at_call 9; refine (FB2.out _).mono ?_; rintro e x1 ⟨rfl, hb⟩; exact hK _ (hx.next hb))
                      | (go_at_K; exact hK _ hx)))
               exact ⟨_, rfl⟩)
            | (refine Chain.walk_no (by rfl) (by decide) ?_; simp only [Act.put, List.setIfInBounds_toArray, List.set_cons_succ, List.set_cons_zero]))
        (first
            | (apply Chain.walk_quiet (by rfl) (by decide)
               (intro p wx hp hwn hx K hK
                first
                  | (go_simp
                     first
                      | (go_at_call 9; refine (FB2.out _).mono ?_; rintro e x1 ⟨rfl, hb⟩; exact hK _ (hx.next hb))
                      | (go_at_K; exact hK _ hx)))
               exact ⟨_, rfl⟩)
            | (refine Chain.walk_no (by rfl) (by decide) ?_; simp only [Act.put, List.setIfInBounds_toArray, List.set_cons_succ, List.set_cons_zero]))
        apply Chain.walk_turn 0 (by rfl) (by rfl)
        · intro wx hx K hK
          exact Put.store 24 _ _ rfl rfl rfl hx (by kernel_rfl) rfl (by kernel_rfl) (fun w2 h => hK w2 h)
        · exact ⟨undef, rfl⟩
        iterate 2 (
               apply Chain.walk_quiet (by rfl) (by decide)
               (intro p wx hp hwn hx K hK
                go_simp
                (go_at_K; exact hK _ hx))
               exact ⟨_, rfl⟩)
        refine Chain.walk_nil (fun w5 hP5 => ?_)
        replace hP5 : Put (w4) (g) (.cells #[.string a, .string (b ++ d.extract 0 u), .int .i64 0] 24 (0, 0)) w5 := hP5
        try simp only [Act.put, List.setIfInBounds_toArray, List.set_cons_succ, List.set_cons_zero]
        have hbw5 := hP5.below (B := g) (Nat.le_refl _) (Nat.le_of_lt hgl)
        obtain ⟨c0, c1, c2⟩ := cells3 ((hP5.other w.heap.size (by omega) hne4).trans r04)
        obtain ⟨a0, a1, a2⟩ := cells3 ((hP5.other w3.heap.size hlt4 hne5).trans r3)
        obtain ⟨b0, b1, b2⟩ := cells3 hP5.row
        have HB5 := Lib.hid (HB4.out.trans (hbw5.mono (by omega)))
        have hs5 := hP5.size
        go_wp2_with fail
        have EQ := eqlSt a (b ++ d.extract 0 u) 0
        have u1 : (0 : Int) ≤ (u : Int) := by omega
        have u3 : (u : Int).toNat = u := rfl
        have u2 : (u : Int) ≤ d.size := by omega
        have HC := Lib.hid (fun (wx : World) (h : Below w5.heap.size w5 wx) => And.intro ((h.cell (p := ⟨w.heap.size, 0, none⟩) (by show w.heap.size < _; omega)).trans c0) (And.intro ((h.cell (p := ⟨w.heap.size, 1, none⟩) (by show w.heap.size < _; omega)).trans c1) (And.intro ((h.cell (p := ⟨w3.heap.size, 0, none⟩) (by show w3.heap.size < _; omega)).trans a0) (And.intro ((h.cell (p := ⟨w3.heap.size, 1, none⟩) (by show w3.heap.size < _; omega)).trans a1) (And.intro ((h.cell (p := ⟨w3.heap.size, 2, none⟩) (by show w3.heap.size < _; omega)).trans a2) (And.intro ((h.cell (p := ⟨g, 0, none⟩) (by show g < _; omega)).trans b0) (And.intro ((h.cell (p := ⟨g, 1, none⟩) (by show g < _; omega)).trans b1) ((h.cell (p := ⟨g, 2, none⟩) (by show g < _; omega)).trans b2))))))))
        clear c0 c1 c2 a0 a1 a2 b0 b1 b2
        refine Bag.region (fun wx => Below w5.heap.size w5 wx) (by kernel_rfl) (by kernel_rfl) (Below.refl _ _).drew ?_
        iterate 55 (first
            | (apply Bag.walk_yes (by rfl)
               (intro wx hx K hK
                obtain ⟨c0, c1, a0, a1, a2, b0, b1, b2⟩ := HC.out wx hx
                first
                  | (go_simp
                     first
                      | (go_at_call 8; refine (FN.out _).mono ?_; rintro e w' ⟨rfl, hb⟩; exact hK _ (hx.trans (hb.mono hx.size)))
                      | (go_at_K; exact hK _ hx)))
               rfl)
            | (refine Bag.walk_no (by rfl) ?_; simp only [Act.put, List.setIfInBounds_toArray, List.set_cons_succ, List.set_cons_zero]))
        refine Bag.walk_nil (fun w6 hB6 => ?_)
        go_wp2_with fail
        go_ret
        exact ⟨rfl, HB5.out.trans (hB6.mono (by omega))⟩
      · by_cases c8 : u = d.size
        · subst c8
          rw [if_neg (by omega)] at FB
          have FB2 := Lib.hid (fun w => write_any 9000 ⟨a, b ++ d.extract 0 k, 0⟩ 1 (d.extract k d.size) ((d.size : Int) - k) w (by rw [ba_csize]; omega) (by constructor <;> omega))
          rw [write_mid (by omega) (by rw [ba_size, ba_csize]; omega) (by omega) (by rw [ba_csize]; omega)] at FB2
          have hl2 : (d.extract k d.size).size = d.size - k := by rw [ba_csize]; omega
          rw [hl2] at FB2
          rw [if_neg (by omega), Int.sub_self] at FA
          rw [if_neg (by omega)] at FB2
          rw [ba_split b d (by omega), ba_all, show (d.size : Int) - k - ((d.size - k : Nat) : Int) = 0 by omega] at FB2
          clear hl2
          simp only [ans, St.agg] at FA FB FB2
          have hall : d.extract 0 d.size = d := ba_all d
          have hmin : min (d.size : Int) (d.size : Int) = d.size := by omega
          have hge1 : decide ((d.size : Int) ≤ (d.size : Int)) = true := decide_eq_true (by omega)
          have hge2 : decide (d.size ≤ d.size) = true := decide_eq_true (by omega)
          have hbs : ¬ 9223372036854775807 < b.size + d.size := by omega
          go_enter Try.func4, Try.ntmps4
          go_wp2_with fail
          refine (FS.out _).mono ?_
          rintro e w1 ⟨rfl, hb⟩
          obtain ⟨hb, r0, r1, hlt⟩ := laid2 hb
          have HB := Lib.hid hb
          clear hb
          have f : ∀ i, w1.frozen? ⟨w.heap.size, i, none⟩ = false := fun i => frozen_of_row _ _ _ _ _ r0
          obtain ⟨c0, c1, c2⟩ := cells3 r0
          obtain ⟨d0, d1⟩ := cells2 r1
          go_wp2_with fail
          go_region
          clear c0 c1 c2 d0 d1
          have k2 := laidSet (i := 2) (v := .int .i64 0) r0 (Below.refl _ _)
          have HB2 := Lib.hid (HB.out.setCell (p := ⟨w.heap.size, 2, none⟩) (Nat.le_refl _) (.int .i64 0))
          generalize World.setCell w1 _ _ = w2 at *
          obtain ⟨-, r0', ho, hle⟩ := k2
          clear ho f r0 r1
          replace r0' : w2.heap[w.heap.size]? = some (.cells #[.string a, .string b, .int .i64 0] 24 (0, 0)) := r0'
          obtain ⟨c0, c1, c2⟩ := cells3 r0'
          have hlt := Nat.lt_of_lt_of_le hlt hle
          clear hle
          go_wp2_with fail
          refine (FA.out _).mono ?_
          rintro e w3 ⟨rfl, hb⟩
          have hsz : w2.heap.size ≤ w3.heap.size := hb.size
          have r03 := Lib.hid ((hb.block w.heap.size (by show _ < w2.heap.size; omega)).trans r0')
          have HB3 := Lib.hid (HB2.out.drew.trans (hb.mono (B' := w.heap.size) (show w.heap.size ≤ w2.heap.size by omega)))
          clear hb c0 c1 c2 r0'
          have hlt3 : w.heap.size < w3.heap.size := by omega
          have hne3 : ¬ w.heap.size = w3.heap.size := by omega
          have k1 : (0 : Int) ≤ (k : Int) := by omega
          have k2 : (k : Int) ≤ (d.size : Int) := by omega
          have k3 : (k : Int).toNat = k := rfl
          go_wp2_with fail
          refine Ghost.ghost (fun γ L wx => Decls ((w3.alloc (.cells #[.string a, .string (b ++ d), .int .i64 0] 24))).heap.size ((w3.alloc (.cells #[.string a, .string (b ++ d), .int .i64 0] 24))) [(⟨10, 11, 24, #[.string ⟨#[]⟩, .string ⟨#[]⟩, .int .i64 0], #[.string a, .string (b ++ d.extract 0 k), .int .i64 0]⟩ : Decl)] γ L wx) (by kernel_rfl) (by kernel_rfl) (fun γ => Decls.start _ γ (Below.refl _ _).drew (Nat.le_refl _)) ?_
          apply Ghost.walk_const (fun γ => by rfl)
          · intro γ L wx h1 h2 hx K hK
            obtain ⟨hbx, r3x, hlx⟩ := laid1 hx.below
            obtain ⟨c0, c1, c2⟩ := cells3 ((hbx.block w.heap.size hlt3).trans r03.out)
            have HK2 := Lib.hid hK
            have HX := Lib.hid hx
            clear hK h1 h2 hx
            go_simp
            first
              | (go_at_call 9; refine (FB.out _).mono ?_; rintro e x1 ⟨rfl, hb⟩; exact HK2.out _ (HX.out.quiet 0 (by rfl) hb))
              | exact HK2.out _ (HX.out.quiet 0 (by rfl) (Below.refl _ _))
          simp only [Act.put, List.setIfInBounds_toArray, List.set_cons_succ, List.set_cons_zero]
          apply Ghost.walk_const (fun γ => by rfl)
          · intro γ L wx h1 h2 hx K hK
            obtain ⟨hbx, r3x, hlx⟩ := laid1 hx.below
            obtain ⟨c0, c1, c2⟩ := cells3 ((hbx.block w.heap.size hlt3).trans r03.out)
            have HK2 := Lib.hid hK
            have HX := Lib.hid hx
            clear hK h1 h2 hx
            go_simp
            first
              | (go_at_call 9; refine (FB.out _).mono ?_; rintro e x1 ⟨rfl, hb⟩; exact HK2.out _ (HX.out.quiet 0 (by rfl) hb))
              | exact HK2.out _ (HX.out.quiet 0 (by rfl) (Below.refl _ _))
          simp only [Act.put, List.setIfInBounds_toArray, List.set_cons_succ, List.set_cons_zero]
          apply Ghost.walk_const (fun γ => by rfl)
          · intro γ L wx h1 h2 hx K hK
            obtain ⟨hbx, r3x, hlx⟩ := laid1 hx.below
            obtain ⟨c0, c1, c2⟩ := cells3 ((hbx.block w.heap.size hlt3).trans r03.out)
            have HK2 := Lib.hid hK
            have HX := Lib.hid hx
            clear hK h1 h2 hx
            go_simp
            first
              | (go_at_call 9; refine (FB.out _).mono ?_; rintro e x1 ⟨rfl, hb⟩; exact HK2.out _ (HX.out.quiet 0 (by rfl) hb))
              | exact HK2.out _ (HX.out.quiet 0 (by rfl) (Below.refl _ _))
          simp only [Act.put, List.setIfInBounds_toArray, List.set_cons_succ, List.set_cons_zero]
          apply Ghost.walk_const (fun γ => by rfl)
          · intro γ L wx h1 h2 hx K hK
            obtain ⟨hbx, r3x, hlx⟩ := laid1 hx.below
            obtain ⟨c0, c1, c2⟩ := cells3 ((hbx.block w.heap.size hlt3).trans r03.out)
            have HK2 := Lib.hid hK
            have HX := Lib.hid hx
            clear hK h1 h2 hx
            go_simp
            first
              | (go_at_call 9; refine (FB.out _).mono ?_; rintro e x1 ⟨rfl, hb⟩; exact HK2.out _ (HX.out.quiet 0 (by rfl) hb))
              | exact HK2.out _ (HX.out.quiet 0 (by rfl) (Below.refl _ _))
          simp only [Act.put, List.setIfInBounds_toArray, List.set_cons_succ, List.set_cons_zero]
          apply Ghost.walk_const (fun γ => by rfl)
          · intro γ L wx h1 h2 hx K hK
            obtain ⟨hbx, r3x, hlx⟩ := laid1 hx.below
            obtain ⟨c0, c1, c2⟩ := cells3 ((hbx.block w.heap.size hlt3).trans r03.out)
            have HK2 := Lib.hid hK
            have HX := Lib.hid hx
            clear hK h1 h2 hx
            go_simp
            first
              | (go_at_call 9; refine (FB.out _).mono ?_; rintro e x1 ⟨rfl, hb⟩; exact HK2.out _ (HX.out.quiet 0 (by rfl) hb))
              | exact HK2.out _ (HX.out.quiet 0 (by rfl) (Below.refl _ _))
          simp only [Act.put, List.setIfInBounds_toArray, List.set_cons_succ, List.set_cons_zero]
          apply Ghost.walk_const (fun γ => by rfl)
          · intro γ L wx h1 h2 hx K hK
            obtain ⟨hbx, r3x, hlx⟩ := laid1 hx.below
            obtain ⟨c0, c1, c2⟩ := cells3 ((hbx.block w.heap.size hlt3).trans r03.out)
            have HK2 := Lib.hid hK
            have HX := Lib.hid hx
            clear hK h1 h2 hx
            go_simp
            first
              | (go_at_call 9; refine (FB.out _).mono ?_; rintro e x1 ⟨rfl, hb⟩; exact HK2.out _ (HX.out.quiet 0 (by rfl) hb))
              | exact HK2.out _ (HX.out.quiet 0 (by rfl) (Below.refl _ _))
          simp only [Act.put, List.setIfInBounds_toArray, List.set_cons_succ, List.set_cons_zero]
          apply Ghost.walk_const (fun γ => by rfl)
          · intro γ L wx h1 h2 hx K hK
            obtain ⟨hbx, r3x, hlx⟩ := laid1 hx.below
            obtain ⟨c0, c1, c2⟩ := cells3 ((hbx.block w.heap.size hlt3).trans r03.out)
            have HK2 := Lib.hid hK
            have HX := Lib.hid hx
            clear hK h1 h2 hx
            go_simp
            first
              | (go_at_call 9; refine (FB.out _).mono ?_; rintro e x1 ⟨rfl, hb⟩; exact HK2.out _ (HX.out.quiet 0 (by rfl) hb))
              | exact HK2.out _ (HX.out.quiet 0 (by rfl) (Below.refl _ _))
          simp only [Act.put, List.setIfInBounds_toArray, List.set_cons_succ, List.set_cons_zero]
          apply Ghost.walk_const (fun γ => by rfl)
          · intro γ L wx h1 h2 hx K hK
            obtain ⟨hbx, r3x, hlx⟩ := laid1 hx.below
            obtain ⟨c0, c1, c2⟩ := cells3 ((hbx.block w.heap.size hlt3).trans r03.out)
            have HK2 := Lib.hid hK
            have HX := Lib.hid hx
            clear hK h1 h2 hx
            go_simp
            first
              | (go_at_call 9; refine (FB.out _).mono ?_; rintro e x1 ⟨rfl, hb⟩; exact HK2.out _ (HX.out.quiet 0 (by rfl) hb))
              | exact HK2.out _ (HX.out.quiet 0 (by rfl) (Below.refl _ _))
          simp only [Act.put, List.setIfInBounds_toArray, List.set_cons_succ, List.set_cons_zero]
          apply Ghost.walk_const (fun γ => by rfl)
          · intro γ L wx h1 h2 hx K hK
            obtain ⟨hbx, r3x, hlx⟩ := laid1 hx.below
            obtain ⟨c0, c1, c2⟩ := cells3 ((hbx.block w.heap.size hlt3).trans r03.out)
            have HK2 := Lib.hid hK
            have HX := Lib.hid hx
            clear hK h1 h2 hx
            go_simp
            first
              | (go_at_call 9; refine (FB.out _).mono ?_; rintro e x1 ⟨rfl, hb⟩; exact HK2.out _ (HX.out.quiet 0 (by rfl) hb))
              | exact HK2.out _ (HX.out.quiet 0 (by rfl) (Below.refl _ _))
          simp only [Act.put, List.setIfInBounds_toArray, List.set_cons_succ, List.set_cons_zero]
          apply Ghost.walk_const (fun γ => by rfl)
          · intro γ L wx h1 h2 hx K hK
            obtain ⟨hbx, r3x, hlx⟩ := laid1 hx.below
            obtain ⟨c0, c1, c2⟩ := cells3 ((hbx.block w.heap.size hlt3).trans r03.out)
            have HK2 := Lib.hid hK
            have HX := Lib.hid hx
            clear hK h1 h2 hx
            go_simp
            first
              | (go_at_call 9; refine (FB.out _).mono ?_; rintro e x1 ⟨rfl, hb⟩; exact HK2.out _ (HX.out.quiet 0 (by rfl) hb))
              | exact HK2.out _ (HX.out.quiet 0 (by rfl) (Below.refl _ _))
          simp only [Act.put, List.setIfInBounds_toArray, List.set_cons_succ, List.set_cons_zero]
          refine Ghost.walk_yes (fun b => .pointer (some ⟨b, 0, none⟩)) (fun γ => by rfl) ?_ ?_
          · intro γ L wx h1 h2 hx K hK
            have HK2 := Lib.hid hK
            clear hK h2
            have hL : L (⟨10, 11, 24, #[.string ⟨#[]⟩, .string ⟨#[]⟩, .int .i64 0], #[.string a, .string (b ++ d.extract 0 k), .int .i64 0]⟩ : Decl).al = false := h1
            clear h1
            go_simp
            exact HK2.out wx.heap.size _ (hx.alloc (⟨10, 11, 24, #[.string ⟨#[]⟩, .string ⟨#[]⟩, .int .i64 0], #[.string a, .string (b ++ d.extract 0 k), .int .i64 0]⟩ : Decl) (decl_mem _) hL (by rfl) (decl_al _))
          simp only [Act.put, List.setIfInBounds_toArray, List.set_cons_succ, List.set_cons_zero]
          refine Ghost.walk_yes (fun _ => undef) (fun γ => by rfl) ?_ ?_
          · intro γ L wx h1 h2 hx K hK
            have hA : L (⟨10, 11, 24, #[.string ⟨#[]⟩, .string ⟨#[]⟩, .int .i64 0], #[.string a, .string (b ++ d.extract 0 k), .int .i64 0]⟩ : Decl).al = true := h2 10 (by kernel_rfl)
            exact hx.wp_store (⟨10, 11, 24, #[.string ⟨#[]⟩, .string ⟨#[]⟩, .int .i64 0], #[.string a, .string (b ++ d.extract 0 k), .int .i64 0]⟩ : Decl) (decl_mem _) h1 hA _ _ rfl rfl rfl (by kernel_rfl) rfl (by kernel_rfl) (hK 0 _ (hx.store (⟨10, 11, 24, #[.string ⟨#[]⟩, .string ⟨#[]⟩, .int .i64 0], #[.string a, .string (b ++ d.extract 0 k), .int .i64 0]⟩ : Decl) (decl_mem _) hA (by rfl) (decl_st _) (decl_al _) 0))
          simp only [Act.put]
          apply Ghost.walk_const (fun γ => by rfl)
          · intro γ L wx h1 h2 hx K hK
            obtain ⟨hbx, r3x, hlx⟩ := laid1 hx.below
            obtain ⟨c0, c1, c2⟩ := cells3 ((hbx.block w.heap.size hlt3).trans r03.out)
            have HK2 := Lib.hid hK
            have HX := Lib.hid hx
            clear hK h1 h2 hx
            go_simp
            first
              | (go_at_call 9; refine (FB.out _).mono ?_; rintro e x1 ⟨rfl, hb⟩; exact HK2.out _ (HX.out.quiet 0 (by rfl) hb))
              | exact HK2.out _ (HX.out.quiet 0 (by rfl) (Below.refl _ _))
          simp only [Act.put, List.setIfInBounds_toArray, List.set_cons_succ, List.set_cons_zero]
          apply Ghost.walk_const (fun γ => by rfl)
          · intro γ L wx h1 h2 hx K hK
            obtain ⟨hbx, r3x, hlx⟩ := laid1 hx.below
            obtain ⟨c0, c1, c2⟩ := cells3 ((hbx.block w.heap.size hlt3).trans r03.out)
            have HK2 := Lib.hid hK
            have HX := Lib.hid hx
            clear hK h1 h2 hx
            go_simp
            first
              | (go_at_call 9; refine (FB.out _).mono ?_; rintro e x1 ⟨rfl, hb⟩; exact HK2.out _ (HX.out.quiet 0 (by rfl) hb))
              | exact HK2.out _ (HX.out.quiet 0 (by rfl) (Below.refl _ _))
          simp only [Act.put, List.setIfInBounds_toArray, List.set_cons_succ, List.set_cons_zero]
          refine Ghost.walk_nil (fun γ L w4 hall hD => ?_)
          obtain ⟨hg1, hg2, hb4⟩ := hD.done1 hall (by show 10 < 14; decide) (by show 11 < 14; decide)
          clear hall hD
          simp only [Nat.zero_add, Nat.reduceAdd] at hg1 hg2 ⊢
          generalize γ 10 = g at *
          have hg3 : w3.heap.size + 1 ≤ g := by simpa using hg1
          have hgl : g < w4.heap.size := (Array.getElem?_eq_some_iff.1 hg2).1
          obtain ⟨hb, r3, hlt4⟩ := laid1 hb4
          have r04 := (hb.block w.heap.size hlt3).trans r03.out
          have HB4 := Lib.hid (HB3.out.trans (hb.mono (by omega)))
          obtain ⟨c0, c1, c2⟩ := cells3 r04
          obtain ⟨a0, a1, a2⟩ := cells3 r3
          obtain ⟨b0, b1, b2⟩ := cells3 hg2
          clear hb hb4 hg1
          have hne4 : ¬ w.heap.size = g := by omega
          have hne5 : ¬ w3.heap.size = g := by omega
          go_wp2_with fail
          clear c0 c1 c2 a0 a1 a2 b0 b1 b2
          refine Chain.chain (fun p wx => Put (w4) (g) (.cells (if p = 0 then #[.string a, .string (b ++ d.extract 0 k), .int .i64 0] else #[.string a, .string (b ++ d), .int .i64 0]) 24 (0, 0)) wx) (fun _ _ => False) [10] (by kernel_rfl) (by kernel_rfl) (fun _ _ _ _ h => h.elim) ((Put.start hg2).drew) ?_
          (first
              | (apply Chain.walk_quiet (by rfl) (by decide)
                 (intro p wx hp hwn hx K hK
                  obtain rfl : p = 0 := (by rcases Nat.lt_or_ge p 1 with h | h; exact Nat.lt_one_iff.1 h; obtain rfl : p = 1 := Nat.le_antisymm hp h; exact absurd ((Eq.symm (show _ = false by kernel_rfl)).trans hwn) Bool.false_ne_true)
                  obtain ⟨b0, b1, b2⟩ := cells3 hx.row
                  first
                    | (go_simp
                       first
                        | (go_at_call 9; refine (FB2.out _).mono ?_; rintro e x1 ⟨rfl, hb⟩; exact hK _ (hx.next hb))
                        | (go_at_K; exact hK _ hx)))
                 exact ⟨_, rfl⟩)
              | (refine Chain.walk_no (by rfl) (by decide) ?_; simp only [Act.put, List.setIfInBounds_toArray, List.set_cons_succ, List.set_cons_zero]))
          (first
              | (apply Chain.walk_quiet (by rfl) (by decide)
                 (intro p wx hp hwn hx K hK
                  first
                    | (go_simp
                       first
                        | (go_at_call 9; refine (FB2.out _).mono ?_; rintro e x1 ⟨rfl, hb⟩; exact hK _ (hx.next hb))
                        | (go_at_K; exact hK _ hx)))
                 exact ⟨_, rfl⟩)
              | (refine Chain.walk_no (by rfl) (by decide) ?_; simp only [Act.put, List.setIfInBounds_toArray, List.set_cons_succ, List.set_cons_zero]))
          (first
              | (apply Chain.walk_quiet (by rfl) (by decide)
                 (intro p wx hp hwn hx K hK
                  first
                    | (go_simp
                       first
                        | (go_at_call 9; refine (FB2.out _).mono ?_; rintro e x1 ⟨rfl, hb⟩; exact hK _ (hx.next hb))
                        | (go_at_K; exact hK _ hx)))
                 exact ⟨_, rfl⟩)
              | (refine Chain.walk_no (by rfl) (by decide) ?_; simp only [Act.put, List.setIfInBounds_toArray, List.set_cons_succ, List.set_cons_zero]))
          (first
              | (apply Chain.walk_quiet (by rfl) (by decide)
                 (intro p wx hp hwn hx K hK
                  first
                    | (go_simp
                       first
                        | (go_at_call 9; refine (FB2.out _).mono ?_; rintro e x1 ⟨rfl, hb⟩; exact hK _ (hx.next hb))
                        | (go_at_K; exact hK _ hx)))
                 exact ⟨_, rfl⟩)
              | (refine Chain.walk_no (by rfl) (by decide) ?_; simp only [Act.put, List.setIfInBounds_toArray, List.set_cons_succ, List.set_cons_zero]))
          (first
              | (apply Chain.walk_quiet (by rfl) (by decide)
                 (intro p wx hp hwn hx K hK
                  first
                    | (go_simp
                       first
                        | (go_at_call 9; refine (FB2.out _).mono ?_; rintro e x1 ⟨rfl, hb⟩; exact hK _ (hx.next hb))
                        | (go_at_K; exact hK _ hx)))
                 exact ⟨_, rfl⟩)
              | (refine Chain.walk_no (by rfl) (by decide) ?_; simp only [Act.put, List.setIfInBounds_toArray, List.set_cons_succ, List.set_cons_zero]))
          (first
              | (apply Chain.walk_quiet (by rfl) (by decide)
                 (intro p wx hp hwn hx K hK
                  first
                    | (go_simp
                       first
                        | (go_at_call 9; refine (FB2.out _).mono ?_; rintro e x1 ⟨rfl, hb⟩; exact hK _ (hx.next hb))
                        | (go_at_K; exact hK _ hx)))
                 exact ⟨_, rfl⟩)
              | (refine Chain.walk_no (by rfl) (by decide) ?_; simp only [Act.put, List.setIfInBounds_toArray, List.set_cons_succ, List.set_cons_zero]))
          (first
              | (apply Chain.walk_quiet (by rfl) (by decide)
                 (intro p wx hp hwn hx K hK
                  first
                    | (go_simp
                       first
                        | (go_at_call 9; refine (FB2.out _).mono ?_; rintro e x1 ⟨rfl, hb⟩; exact hK _ (hx.next hb))
                        | (go_at_K; exact hK _ hx)))
                 exact ⟨_, rfl⟩)
              | (refine Chain.walk_no (by rfl) (by decide) ?_; simp only [Act.put, List.setIfInBounds_toArray, List.set_cons_succ, List.set_cons_zero]))
          (first
              | (apply Chain.walk_quiet (by rfl) (by decide)
                 (intro p wx hp hwn hx K hK
                  first
                    | (go_simp
                       first
                        | (go_at_call 9; refine (FB2.out _).mono ?_; rintro e x1 ⟨rfl, hb⟩; exact hK _ (hx.next hb))
                        | (go_at_K; exact hK _ hx)))
                 exact ⟨_, rfl⟩)
              | (refine Chain.walk_no (by rfl) (by decide) ?_; simp only [Act.put, List.setIfInBounds_toArray, List.set_cons_succ, List.set_cons_zero]))
          (first
              | (apply Chain.walk_quiet (by rfl) (by decide)
                 (intro p wx hp hwn hx K hK
                  first
                    | (go_simp
                       first
                        | (go_at_call 9; refine (FB2.out _).mono ?_; rintro e x1 ⟨rfl, hb⟩; exact hK _ (hx.next hb))
                        | (go_at_K; exact hK _ hx)))
                 exact ⟨_, rfl⟩)
              | (refine Chain.walk_no (by rfl) (by decide) ?_; simp only [Act.put, List.setIfInBounds_toArray, List.set_cons_succ, List.set_cons_zero]))
          (first
              | (apply Chain.walk_quiet (by rfl) (by decide)
                 (intro p wx hp hwn hx K hK
                  first
                    | (go_simp
                       first
                        | (go_at_call 9; refine (FB2.out _).mono ?_; rintro e x1 ⟨rfl, hb⟩; exact hK _ (hx.next hb))
                        | (go_at_K; exact hK _ hx)))
                 exact ⟨_, rfl⟩)
              | (refine Chain.walk_no (by rfl) (by decide) ?_; simp only [Act.put, List.setIfInBounds_toArray, List.set_cons_succ, List.set_cons_zero]))
          apply Chain.walk_turn 0 (by rfl) (by rfl)
          · intro wx hx K hK
            exact Put.store 24 _ _ rfl rfl rfl hx (by kernel_rfl) rfl (by kernel_rfl) (fun w2 h => hK w2 h)
          · exact ⟨undef, rfl⟩
          iterate 2 (
                 apply Chain.walk_quiet (by rfl) (by decide)
                 (intro p wx hp hwn hx K hK
                  go_simp
                  (go_at_K; exact hK _ hx))
                 exact ⟨_, rfl⟩)
          refine Chain.walk_nil (fun w5 hP5 => ?_)
          replace hP5 : Put (w4) (g) (.cells #[.string a, .string (b ++ d), .int .i64 0] 24 (0, 0)) w5 := hP5
          try simp only [Act.put, List.setIfInBounds_toArray, List.set_cons_succ, List.set_cons_zero]
          have hbw5 := hP5.below (B := g) (Nat.le_refl _) (Nat.le_of_lt hgl)
          obtain ⟨c0, c1, c2⟩ := cells3 ((hP5.other w.heap.size (by omega) hne4).trans r04)
          obtain ⟨a0, a1, a2⟩ := cells3 ((hP5.other w3.heap.size hlt4 hne5).trans r3)
          obtain ⟨b0, b1, b2⟩ := cells3 hP5.row
          have HB5 := Lib.hid (HB4.out.trans (hbw5.mono (by omega)))
          have hs5 := hP5.size
          go_wp2_with fail
          have EQ := eqlSt a (b ++ d) 0
          have u1 : (0 : Int) ≤ (d.size : Int) := by omega
          have u3 : (d.size : Int).toNat = d.size := rfl
          have u2 : (d.size : Int) ≤ d.size := by omega
          have HC := Lib.hid (fun (wx : World) (h : Below w5.heap.size w5 wx) => And.intro ((h.cell (p := ⟨w.heap.size, 0, none⟩) (by show w.heap.size < _; omega)).trans c0) (And.intro ((h.cell (p := ⟨w.heap.size, 1, none⟩) (by show w.heap.size < _; omega)).trans c1) (And.intro ((h.cell (p := ⟨w3.heap.size, 0, none⟩) (by show w3.heap.size < _; omega)).trans a0) (And.intro ((h.cell (p := ⟨w3.heap.size, 1, none⟩) (by show w3.heap.size < _; omega)).trans a1) (And.intro ((h.cell (p := ⟨w3.heap.size, 2, none⟩) (by show w3.heap.size < _; omega)).trans a2) (And.intro ((h.cell (p := ⟨g, 0, none⟩) (by show g < _; omega)).trans b0) (And.intro ((h.cell (p := ⟨g, 1, none⟩) (by show g < _; omega)).trans b1) ((h.cell (p := ⟨g, 2, none⟩) (by show g < _; omega)).trans b2))))))))
          clear c0 c1 c2 a0 a1 a2 b0 b1 b2
          refine Bag.region (fun wx => Below w5.heap.size w5 wx) (by kernel_rfl) (by kernel_rfl) (Below.refl _ _).drew ?_
          iterate 55 (first
              | (apply Bag.walk_yes (by rfl)
                 (intro wx hx K hK
                  obtain ⟨c0, c1, a0, a1, a2, b0, b1, b2⟩ := HC.out wx hx
                  first
                    | (go_simp
                       first
                        | (go_at_call 8; refine (FN.out _).mono ?_; rintro e w' ⟨rfl, hb⟩; exact hK _ (hx.trans (hb.mono hx.size)))
                        | (go_at_K; exact hK _ hx)))
                 rfl)
              | (refine Bag.walk_no (by rfl) ?_; simp only [Act.put, List.setIfInBounds_toArray, List.set_cons_succ, List.set_cons_zero]))
          refine Bag.walk_nil (fun w6 hB6 => ?_)
          go_wp2_with fail
          go_ret
          exact ⟨rfl, HB5.out.trans (hB6.mono (by omega))⟩
        · have hlt8 : d.size < u := by omega
          have hw8 : IntKind.i64.wrap ((u : Int) - (d.size : Int)) = (u : Int) - d.size := by rw [IntKind.wrap_i64]; omega
          rw [if_neg (by omega)] at FB
          have FB2 := Lib.hid (fun w => write_any 9000 ⟨a, b ++ d.extract 0 k, 0⟩ 1 (d.extract k d.size) ((u : Int) - k) w (by rw [ba_csize]; omega) (by constructor <;> omega))
          rw [write_mid (by omega) (by rw [ba_size, ba_csize]; omega) (by omega) (by rw [ba_csize]; omega)] at FB2
          have hl2 : (d.extract k d.size).size = d.size - k := by rw [ba_csize]; omega
          rw [hl2] at FB2
          rw [if_neg (by omega)] at FA FB2
          rw [ba_split b d (by omega), ba_all, show (u : Int) - k - ((d.size - k : Nat) : Int) = u - d.size by omega] at FB2
          clear hl2
          simp only [ans, St.agg] at FA FB FB2
          have hall : d.extract 0 d.size = d := ba_all d
          have hmin : min (u : Int) (d.size : Int) = d.size := by omega
          have hge1 : decide ((d.size : Int) ≤ (u : Int)) = true := decide_eq_true (by omega)
          have hge2 : decide (d.size ≤ u) = true := decide_eq_true (by omega)
          have hbs : ¬ 9223372036854775807 < b.size + d.size := by omega
          go_enter Try.func4, Try.ntmps4
          go_wp2_with fail
          refine (FS.out _).mono ?_
          rintro e w1 ⟨rfl, hb⟩
          obtain ⟨hb, r0, r1, hlt⟩ := laid2 hb
          have HB := Lib.hid hb
          clear hb
          have f : ∀ i, w1.frozen? ⟨w.heap.size, i, none⟩ = false := fun i => frozen_of_row _ _ _ _ _ r0
          obtain ⟨c0, c1, c2⟩ := cells3 r0
          obtain ⟨d0, d1⟩ := cells2 r1
          go_wp2_with fail
          go_region
          clear c0 c1 c2 d0 d1
          have k2 := laidSet (i := 2) (v := .int .i64 0) r0 (Below.refl _ _)
          have HB2 := Lib.hid (HB.out.setCell (p := ⟨w.heap.size, 2, none⟩) (Nat.le_refl _) (.int .i64 0))
          generalize World.setCell w1 _ _ = w2 at *
          obtain ⟨-, r0', ho, hle⟩ := k2
          clear ho f r0 r1
          replace r0' : w2.heap[w.heap.size]? = some (.cells #[.string a, .string b, .int .i64 0] 24 (0, 0)) := r0'
          obtain ⟨c0, c1, c2⟩ := cells3 r0'
          have hlt := Nat.lt_of_lt_of_le hlt hle
          clear hle
          go_wp2_with fail
          refine (FA.out _).mono ?_
          rintro e w3 ⟨rfl, hb⟩
          have hsz : w2.heap.size ≤ w3.heap.size := hb.size
          have r03 := Lib.hid ((hb.block w.heap.size (by show _ < w2.heap.size; omega)).trans r0')
          have HB3 := Lib.hid (HB2.out.drew.trans (hb.mono (B' := w.heap.size) (show w.heap.size ≤ w2.heap.size by omega)))
          clear hb c0 c1 c2 r0'
          have hlt3 : w.heap.size < w3.heap.size := by omega
          have hne3 : ¬ w.heap.size = w3.heap.size := by omega
          have k1 : (0 : Int) ≤ (k : Int) := by omega
          have k2 : (k : Int) ≤ (d.size : Int) := by omega
          have k3 : (k : Int).toNat = k := rfl
          go_wp2_with fail
          refine Ghost.ghost (fun γ L wx => Decls ((w3.alloc (.cells #[.string a, .string (b ++ d), .int .i64 0] 24))).heap.size ((w3.alloc (.cells #[.string a, .string (b ++ d), .int .i64 0] 24))) [(⟨10, 11, 24, #[.string ⟨#[]⟩, .string ⟨#[]⟩, .int .i64 0], #[.string a, .string (b ++ d.extract 0 k), .int .i64 0]⟩ : Decl)] γ L wx) (by kernel_rfl) (by kernel_rfl) (fun γ => Decls.start _ γ (Below.refl _ _).drew (Nat.le_refl _)) ?_
          apply Ghost.walk_const (fun γ => by rfl)
          · intro γ L wx h1 h2 hx K hK
            obtain ⟨hbx, r3x, hlx⟩ := laid1 hx.below
            obtain ⟨c0, c1, c2⟩ := cells3 ((hbx.block w.heap.size hlt3).trans r03.out)
            have HK2 := Lib.hid hK
            have HX := Lib.hid hx
            clear hK h1 h2 hx
            go_simp
            first
              | (go_at_call 9; refine (FB.out _).mono ?_; rintro e x1 ⟨rfl, hb⟩; exact HK2.out _ (HX.out.quiet 0 (by rfl) hb))
              | exact HK2.out _ (HX.out.quiet 0 (by rfl) (Below.refl _ _))
          simp only [Act.put, List.setIfInBounds_toArray, List.set_cons_succ, List.set_cons_zero]
          apply Ghost.walk_const (fun γ => by rfl)
          · intro γ L wx h1 h2 hx K hK
            obtain ⟨hbx, r3x, hlx⟩ := laid1 hx.below
            obtain ⟨c0, c1, c2⟩ := cells3 ((hbx.block w.heap.size hlt3).trans r03.out)
            have HK2 := Lib.hid hK
            have HX := Lib.hid hx
            clear hK h1 h2 hx
            go_simp
            first
              | (go_at_call 9; refine (FB.out _).mono ?_; rintro e x1 ⟨rfl, hb⟩; exact HK2.out _ (HX.out.quiet 0 (by rfl) hb))
              | exact HK2.out _ (HX.out.quiet 0 (by rfl) (Below.refl _ _))
          simp only [Act.put, List.setIfInBounds_toArray, List.set_cons_succ, List.set_cons_zero]
          apply Ghost.walk_const (fun γ => by rfl)
          · intro γ L wx h1 h2 hx K hK
            obtain ⟨hbx, r3x, hlx⟩ := laid1 hx.below
            obtain ⟨c0, c1, c2⟩ := cells3 ((hbx.block w.heap.size hlt3).trans r03.out)
            have HK2 := Lib.hid hK
            have HX := Lib.hid hx
            clear hK h1 h2 hx
            go_simp
            first
              | (go_at_call 9; refine (FB.out _).mono ?_; rintro e x1 ⟨rfl, hb⟩; exact HK2.out _ (HX.out.quiet 0 (by rfl) hb))
              | exact HK2.out _ (HX.out.quiet 0 (by rfl) (Below.refl _ _))
          simp only [Act.put, List.setIfInBounds_toArray, List.set_cons_succ, List.set_cons_zero]
          apply Ghost.walk_const (fun γ => by rfl)
          · intro γ L wx h1 h2 hx K hK
            obtain ⟨hbx, r3x, hlx⟩ := laid1 hx.below
            obtain ⟨c0, c1, c2⟩ := cells3 ((hbx.block w.heap.size hlt3).trans r03.out)
            have HK2 := Lib.hid hK
            have HX := Lib.hid hx
            clear hK h1 h2 hx
            go_simp
            first
              | (go_at_call 9; refine (FB.out _).mono ?_; rintro e x1 ⟨rfl, hb⟩; exact HK2.out _ (HX.out.quiet 0 (by rfl) hb))
              | exact HK2.out _ (HX.out.quiet 0 (by rfl) (Below.refl _ _))
          simp only [Act.put, List.setIfInBounds_toArray, List.set_cons_succ, List.set_cons_zero]
          apply Ghost.walk_const (fun γ => by rfl)
          · intro γ L wx h1 h2 hx K hK
            obtain ⟨hbx, r3x, hlx⟩ := laid1 hx.below
            obtain ⟨c0, c1, c2⟩ := cells3 ((hbx.block w.heap.size hlt3).trans r03.out)
            have HK2 := Lib.hid hK
            have HX := Lib.hid hx
            clear hK h1 h2 hx
            go_simp
            first
              | (go_at_call 9; refine (FB.out _).mono ?_; rintro e x1 ⟨rfl, hb⟩; exact HK2.out _ (HX.out.quiet 0 (by rfl) hb))
              | exact HK2.out _ (HX.out.quiet 0 (by rfl) (Below.refl _ _))
          simp only [Act.put, List.setIfInBounds_toArray, List.set_cons_succ, List.set_cons_zero]
          apply Ghost.walk_const (fun γ => by rfl)
          · intro γ L wx h1 h2 hx K hK
            obtain ⟨hbx, r3x, hlx⟩ := laid1 hx.below
            obtain ⟨c0, c1, c2⟩ := cells3 ((hbx.block w.heap.size hlt3).trans r03.out)
            have HK2 := Lib.hid hK
            have HX := Lib.hid hx
            clear hK h1 h2 hx
            go_simp
            first
              | (go_at_call 9; refine (FB.out _).mono ?_; rintro e x1 ⟨rfl, hb⟩; exact HK2.out _ (HX.out.quiet 0 (by rfl) hb))
              | exact HK2.out _ (HX.out.quiet 0 (by rfl) (Below.refl _ _))
          simp only [Act.put, List.setIfInBounds_toArray, List.set_cons_succ, List.set_cons_zero]
          apply Ghost.walk_const (fun γ => by rfl)
          · intro γ L wx h1 h2 hx K hK
            obtain ⟨hbx, r3x, hlx⟩ := laid1 hx.below
            obtain ⟨c0, c1, c2⟩ := cells3 ((hbx.block w.heap.size hlt3).trans r03.out)
            have HK2 := Lib.hid hK
            have HX := Lib.hid hx
            clear hK h1 h2 hx
            go_simp
            first
              | (go_at_call 9; refine (FB.out _).mono ?_; rintro e x1 ⟨rfl, hb⟩; exact HK2.out _ (HX.out.quiet 0 (by rfl) hb))
              | exact HK2.out _ (HX.out.quiet 0 (by rfl) (Below.refl _ _))
          simp only [Act.put, List.setIfInBounds_toArray, List.set_cons_succ, List.set_cons_zero]
          apply Ghost.walk_const (fun γ => by rfl)
          · intro γ L wx h1 h2 hx K hK
            obtain ⟨hbx, r3x, hlx⟩ := laid1 hx.below
            obtain ⟨c0, c1, c2⟩ := cells3 ((hbx.block w.heap.size hlt3).trans r03.out)
            have HK2 := Lib.hid hK
            have HX := Lib.hid hx
            clear hK h1 h2 hx
            go_simp
            first
              | (go_at_call 9; refine (FB.out _).mono ?_; rintro e x1 ⟨rfl, hb⟩; exact HK2.out _ (HX.out.quiet 0 (by rfl) hb))
              | exact HK2.out _ (HX.out.quiet 0 (by rfl) (Below.refl _ _))
          simp only [Act.put, List.setIfInBounds_toArray, List.set_cons_succ, List.set_cons_zero]
          apply Ghost.walk_const (fun γ => by rfl)
          · intro γ L wx h1 h2 hx K hK
            obtain ⟨hbx, r3x, hlx⟩ := laid1 hx.below
            obtain ⟨c0, c1, c2⟩ := cells3 ((hbx.block w.heap.size hlt3).trans r03.out)
            have HK2 := Lib.hid hK
            have HX := Lib.hid hx
            clear hK h1 h2 hx
            go_simp
            first
              | (go_at_call 9; refine (FB.out _).mono ?_; rintro e x1 ⟨rfl, hb⟩; exact HK2.out _ (HX.out.quiet 0 (by rfl) hb))
              | exact HK2.out _ (HX.out.quiet 0 (by rfl) (Below.refl _ _))
          simp only [Act.put, List.setIfInBounds_toArray, List.set_cons_succ, List.set_cons_zero]
          apply Ghost.walk_const (fun γ => by rfl)
          · intro γ L wx h1 h2 hx K hK
            obtain ⟨hbx, r3x, hlx⟩ := laid1 hx.below
            obtain ⟨c0, c1, c2⟩ := cells3 ((hbx.block w.heap.size hlt3).trans r03.out)
            have HK2 := Lib.hid hK
            have HX := Lib.hid hx
            clear hK h1 h2 hx
            go_simp
            first
              | (go_at_call 9; refine (FB.out _).mono ?_; rintro e x1 ⟨rfl, hb⟩; exact HK2.out _ (HX.out.quiet 0 (by rfl) hb))
              | exact HK2.out _ (HX.out.quiet 0 (by rfl) (Below.refl _ _))
          simp only [Act.put, List.setIfInBounds_toArray, List.set_cons_succ, List.set_cons_zero]
          refine Ghost.walk_yes (fun b => .pointer (some ⟨b, 0, none⟩)) (fun γ => by rfl) ?_ ?_
          · intro γ L wx h1 h2 hx K hK
            have HK2 := Lib.hid hK
            clear hK h2
            have hL : L (⟨10, 11, 24, #[.string ⟨#[]⟩, .string ⟨#[]⟩, .int .i64 0], #[.string a, .string (b ++ d.extract 0 k), .int .i64 0]⟩ : Decl).al = false := h1
            clear h1
            go_simp
            exact HK2.out wx.heap.size _ (hx.alloc (⟨10, 11, 24, #[.string ⟨#[]⟩, .string ⟨#[]⟩, .int .i64 0], #[.string a, .string (b ++ d.extract 0 k), .int .i64 0]⟩ : Decl) (decl_mem _) hL (by rfl) (decl_al _))
          simp only [Act.put, List.setIfInBounds_toArray, List.set_cons_succ, List.set_cons_zero]
          refine Ghost.walk_yes (fun _ => undef) (fun γ => by rfl) ?_ ?_
          · intro γ L wx h1 h2 hx K hK
            have hA : L (⟨10, 11, 24, #[.string ⟨#[]⟩, .string ⟨#[]⟩, .int .i64 0], #[.string a, .string (b ++ d.extract 0 k), .int .i64 0]⟩ : Decl).al = true := h2 10 (by kernel_rfl)
            exact hx.wp_store (⟨10, 11, 24, #[.string ⟨#[]⟩, .string ⟨#[]⟩, .int .i64 0], #[.string a, .string (b ++ d.extract 0 k), .int .i64 0]⟩ : Decl) (decl_mem _) h1 hA _ _ rfl rfl rfl (by kernel_rfl) rfl (by kernel_rfl) (hK 0 _ (hx.store (⟨10, 11, 24, #[.string ⟨#[]⟩, .string ⟨#[]⟩, .int .i64 0], #[.string a, .string (b ++ d.extract 0 k), .int .i64 0]⟩ : Decl) (decl_mem _) hA (by rfl) (decl_st _) (decl_al _) 0))
          simp only [Act.put]
          apply Ghost.walk_const (fun γ => by rfl)
          · intro γ L wx h1 h2 hx K hK
            obtain ⟨hbx, r3x, hlx⟩ := laid1 hx.below
            obtain ⟨c0, c1, c2⟩ := cells3 ((hbx.block w.heap.size hlt3).trans r03.out)
            have HK2 := Lib.hid hK
            have HX := Lib.hid hx
            clear hK h1 h2 hx
            go_simp
            first
              | (go_at_call 9; refine (FB.out _).mono ?_; rintro e x1 ⟨rfl, hb⟩; exact HK2.out _ (HX.out.quiet 0 (by rfl) hb))
              | exact HK2.out _ (HX.out.quiet 0 (by rfl) (Below.refl _ _))
          simp only [Act.put, List.setIfInBounds_toArray, List.set_cons_succ, List.set_cons_zero]
          apply Ghost.walk_const (fun γ => by rfl)
          · intro γ L wx h1 h2 hx K hK
            obtain ⟨hbx, r3x, hlx⟩ := laid1 hx.below
            obtain ⟨c0, c1, c2⟩ := cells3 ((hbx.block w.heap.size hlt3).trans r03.out)
            have HK2 := Lib.hid hK
            have HX := Lib.hid hx
            clear hK h1 h2 hx
            go_simp
            first
              | (go_at_call 9; refine (FB.out _).mono ?_; rintro e x1 ⟨rfl, hb⟩; exact HK2.out _ (HX.out.quiet 0 (by rfl) hb))
              | exact HK2.out _ (HX.out.quiet 0 (by rfl) (Below.refl _ _))
          simp only [Act.put, List.setIfInBounds_toArray, List.set_cons_succ, List.set_cons_zero]
          refine Ghost.walk_nil (fun γ L w4 hall hD => ?_)
          obtain ⟨hg1, hg2, hb4⟩ := hD.done1 hall (by show 10 < 14; decide) (by show 11 < 14; decide)
          clear hall hD
          simp only [Nat.zero_add, Nat.reduceAdd] at hg1 hg2 ⊢
          generalize γ 10 = g at *
          have hg3 : w3.heap.size + 1 ≤ g := by simpa using hg1
          have hgl : g < w4.heap.size := (Array.getElem?_eq_some_iff.1 hg2).1
          obtain ⟨hb, r3, hlt4⟩ := laid1 hb4
          have r04 := (hb.block w.heap.size hlt3).trans r03.out
          have HB4 := Lib.hid (HB3.out.trans (hb.mono (by omega)))
          obtain ⟨c0, c1, c2⟩ := cells3 r04
          obtain ⟨a0, a1, a2⟩ := cells3 r3
          obtain ⟨b0, b1, b2⟩ := cells3 hg2
          clear hb hb4 hg1
          have hne4 : ¬ w.heap.size = g := by omega
          have hne5 : ¬ w3.heap.size = g := by omega
          go_wp2_with fail
          clear c0 c1 c2 a0 a1 a2 b0 b1 b2
          refine Chain.chain (fun p wx => Put (w4) (g) (.cells (if p = 0 then #[.string a, .string (b ++ d.extract 0 k), .int .i64 0] else #[.string a, .string (b ++ d), .int .i64 0]) 24 (0, 0)) wx) (fun _ _ => False) [10] (by kernel_rfl) (by kernel_rfl) (fun _ _ _ _ h => h.elim) ((Put.start hg2).drew) ?_
          (first
              | (apply Chain.walk_quiet (by rfl) (by decide)
                 (intro p wx hp hwn hx K hK
                  obtain rfl : p = 0 := (by rcases Nat.lt_or_ge p 1 with h | h; exact Nat.lt_one_iff.1 h; obtain rfl : p = 1 := Nat.le_antisymm hp h; exact absurd ((Eq.symm (show _ = false by kernel_rfl)).trans hwn) Bool.false_ne_true)
                  obtain ⟨b0, b1, b2⟩ := cells3 hx.row
                  first
                    | (go_simp
                       first
                        | (go_at_call 9; refine (FB2.out _).mono ?_; rintro e x1 ⟨rfl, hb⟩; exact hK _ (hx.next hb))
                        | (go_at_K; exact hK _ hx)))
                 exact ⟨_, rfl⟩)
              | (refine Chain.walk_no (by rfl) (by decide) ?_; simp only [Act.put, List.setIfInBounds_toArray, List.set_cons_succ, List.set_cons_zero]))
          (first
              | (apply Chain.walk_quiet (by rfl) (by decide)
                 (intro p wx hp hwn hx K hK
                  first
                    | (go_simp
                       first
                        | (go_at_call 9; refine (FB2.out _).mono ?_; rintro e x1 ⟨rfl, hb⟩; exact hK _ (hx.next hb))
                        | (go_at_K; exact hK _ hx)))
                 exact ⟨_, rfl⟩)
              | (refine Chain.walk_no (by rfl) (by decide) ?_; simp only [Act.put, List.setIfInBounds_toArray, List.set_cons_succ, List.set_cons_zero]))
          (first
              | (apply Chain.walk_quiet (by rfl) (by decide)
                 (intro p wx hp hwn hx K hK
                  first
                    | (go_simp
                       first
                        | (go_at_call 9; refine (FB2.out _).mono ?_; rintro e x1 ⟨rfl, hb⟩; exact hK _ (hx.next hb))
                        | (go_at_K; exact hK _ hx)))
                 exact ⟨_, rfl⟩)
              | (refine Chain.walk_no (by rfl) (by decide) ?_; simp only [Act.put, List.setIfInBounds_toArray, List.set_cons_succ, List.set_cons_zero]))
          (first
              | (apply Chain.walk_quiet (by rfl) (by decide)
                 (intro p wx hp hwn hx K hK
                  first
                    | (go_simp
                       first
                        | (go_at_call 9; refine (FB2.out _).mono ?_; rintro e x1 ⟨rfl, hb⟩; exact hK _ (hx.next hb))
                        | (go_at_K; exact hK _ hx)))
                 exact ⟨_, rfl⟩)
              | (refine Chain.walk_no (by rfl) (by decide) ?_; simp only [Act.put, List.setIfInBounds_toArray, List.set_cons_succ, List.set_cons_zero]))
          (first
              | (apply Chain.walk_quiet (by rfl) (by decide)
                 (intro p wx hp hwn hx K hK
                  first
                    | (go_simp
                       first
                        | (go_at_call 9; refine (FB2.out _).mono ?_; rintro e x1 ⟨rfl, hb⟩; exact hK _ (hx.next hb))
                        | (go_at_K; exact hK _ hx)))
                 exact ⟨_, rfl⟩)
              | (refine Chain.walk_no (by rfl) (by decide) ?_; simp only [Act.put, List.setIfInBounds_toArray, List.set_cons_succ, List.set_cons_zero]))
          (first
              | (apply Chain.walk_quiet (by rfl) (by decide)
                 (intro p wx hp hwn hx K hK
                  first
                    | (go_simp
                       first
                        | (go_at_call 9; refine (FB2.out _).mono ?_; rintro e x1 ⟨rfl, hb⟩; exact hK _ (hx.next hb))
                        | (go_at_K; exact hK _ hx)))
                 exact ⟨_, rfl⟩)
              | (refine Chain.walk_no (by rfl) (by decide) ?_; simp only [Act.put, List.setIfInBounds_toArray, List.set_cons_succ, List.set_cons_zero]))
          (first
              | (apply Chain.walk_quiet (by rfl) (by decide)
                 (intro p wx hp hwn hx K hK
                  first
                    | (go_simp
                       first
                        | (go_at_call 9; refine (FB2.out _).mono ?_; rintro e x1 ⟨rfl, hb⟩; exact hK _ (hx.next hb))
                        | (go_at_K; exact hK _ hx)))
                 exact ⟨_, rfl⟩)
              | (refine Chain.walk_no (by rfl) (by decide) ?_; simp only [Act.put, List.setIfInBounds_toArray, List.set_cons_succ, List.set_cons_zero]))
          (first
              | (apply Chain.walk_quiet (by rfl) (by decide)
                 (intro p wx hp hwn hx K hK
                  first
                    | (go_simp
                       first
                        | (go_at_call 9; refine (FB2.out _).mono ?_; rintro e x1 ⟨rfl, hb⟩; exact hK _ (hx.next hb))
                        | (go_at_K; exact hK _ hx)))
                 exact ⟨_, rfl⟩)
              | (refine Chain.walk_no (by rfl) (by decide) ?_; simp only [Act.put, List.setIfInBounds_toArray, List.set_cons_succ, List.set_cons_zero]))
          (first
              | (apply Chain.walk_quiet (by rfl) (by decide)
                 (intro p wx hp hwn hx K hK
                  first
                    | (go_simp
                       first
                        | (go_at_call 9; refine (FB2.out _).mono ?_; rintro e x1 ⟨rfl, hb⟩; exact hK _ (hx.next hb))
                        | (go_at_K; exact hK _ hx)))
                 exact ⟨_, rfl⟩)
              | (refine Chain.walk_no (by rfl) (by decide) ?_; simp only [Act.put, List.setIfInBounds_toArray, List.set_cons_succ, List.set_cons_zero]))
          (first
              | (apply Chain.walk_quiet (by rfl) (by decide)
                 (intro p wx hp hwn hx K hK
                  first
                    | (go_simp
                       first
                        | (go_at_call 9; refine (FB2.out _).mono ?_; rintro e x1 ⟨rfl, hb⟩; exact hK _ (hx.next hb))
                        | (go_at_K; exact hK _ hx)))
                 exact ⟨_, rfl⟩)
              | (refine Chain.walk_no (by rfl) (by decide) ?_; simp only [Act.put, List.setIfInBounds_toArray, List.set_cons_succ, List.set_cons_zero]))
          apply Chain.walk_turn 0 (by rfl) (by rfl)
          · intro wx hx K hK
            exact Put.store 24 _ _ rfl rfl rfl hx (by kernel_rfl) rfl (by kernel_rfl) (fun w2 h => hK w2 h)
          · exact ⟨undef, rfl⟩
          iterate 2 (
                 apply Chain.walk_quiet (by rfl) (by decide)
                 (intro p wx hp hwn hx K hK
                  go_simp
                  (go_at_K; exact hK _ hx))
                 exact ⟨_, rfl⟩)
          refine Chain.walk_nil (fun w5 hP5 => ?_)
          replace hP5 : Put (w4) (g) (.cells #[.string a, .string (b ++ d), .int .i64 0] 24 (0, 0)) w5 := hP5
          try simp only [Act.put, List.setIfInBounds_toArray, List.set_cons_succ, List.set_cons_zero]
          have hbw5 := hP5.below (B := g) (Nat.le_refl _) (Nat.le_of_lt hgl)
          obtain ⟨c0, c1, c2⟩ := cells3 ((hP5.other w.heap.size (by omega) hne4).trans r04)
          obtain ⟨a0, a1, a2⟩ := cells3 ((hP5.other w3.heap.size hlt4 hne5).trans r3)
          obtain ⟨b0, b1, b2⟩ := cells3 hP5.row
          have HB5 := Lib.hid (HB4.out.trans (hbw5.mono (by omega)))
          have hs5 := hP5.size
          go_wp2_with fail
          have EQ := eqlSt a (b ++ d) 0
          have u1 : (0 : Int) ≤ (u : Int) := by omega
          have u3 : (u : Int).toNat = u := rfl
          have u2 : (d.size : Int) ≤ d.size := by omega
          have HC := Lib.hid (fun (wx : World) (h : Below w5.heap.size w5 wx) => And.intro ((h.cell (p := ⟨w.heap.size, 0, none⟩) (by show w.heap.size < _; omega)).trans c0) (And.intro ((h.cell (p := ⟨w.heap.size, 1, none⟩) (by show w.heap.size < _; omega)).trans c1) (And.intro ((h.cell (p := ⟨w3.heap.size, 0, none⟩) (by show w3.heap.size < _; omega)).trans a0) (And.intro ((h.cell (p := ⟨w3.heap.size, 1, none⟩) (by show w3.heap.size < _; omega)).trans a1) (And.intro ((h.cell (p := ⟨w3.heap.size, 2, none⟩) (by show w3.heap.size < _; omega)).trans a2) (And.intro ((h.cell (p := ⟨g, 0, none⟩) (by show g < _; omega)).trans b0) (And.intro ((h.cell (p := ⟨g, 1, none⟩) (by show g < _; omega)).trans b1) ((h.cell (p := ⟨g, 2, none⟩) (by show g < _; omega)).trans b2))))))))
          clear c0 c1 c2 a0 a1 a2 b0 b1 b2
          refine Bag.region (fun wx => Below w5.heap.size w5 wx) (by kernel_rfl) (by kernel_rfl) (Below.refl _ _).drew ?_
          iterate 55 (first
              | (apply Bag.walk_yes (by rfl)
                 (intro wx hx K hK
                  obtain ⟨c0, c1, a0, a1, a2, b0, b1, b2⟩ := HC.out wx hx
                  first
                    | (go_simp
                       first
                        | (go_at_call 8; refine (FN.out _).mono ?_; rintro e w' ⟨rfl, hb⟩; exact hK _ (hx.trans (hb.mono hx.size)))
                        | (go_at_K; exact hK _ hx)))
                 rfl)
              | (refine Bag.walk_no (by rfl) ?_; simp only [Act.put, List.setIfInBounds_toArray, List.set_cons_succ, List.set_cons_zero]))
          refine Bag.walk_nil (fun w6 hB6 => ?_)
          go_wp2_with fail
          go_ret
          exact ⟨rfl, HB5.out.trans (hB6.mono (by omega))⟩
  · rcases Bool.eq_false_or_eq_true (shortB ⟨a, b, sel⟩) with hS | hS
    · have hd5' : decide (500 < (d.size : Int)) = true := by
        have : ¬ d.size ≤ 500 := fun h => hs ⟨hS, h⟩
        simp; omega
      rw [hS] at FS
      clear hs hS
      go_enter Try.func4, Try.ntmps4
      go_wp2_with fail
      refine (FS.out _).mono ?_
      rintro e w1 ⟨rfl, hb⟩
      obtain ⟨hb, r0, r1, hlt⟩ := laid2 hb
      have HB := Lib.hid hb
      clear hb
      go_wp2_with fail
      refine (FN.out _).mono ?_
      rintro e w2 ⟨rfl, hb⟩
      have HB2 := Lib.hid (HB.out.trans (hb.mono (by omega)))
      go_wp2_with fail
      go_ret
      exact ⟨rfl, HB2.out⟩
    · rw [hS] at FS
      clear hs hS
      go_enter Try.func4, Try.ntmps4
      go_wp2_with fail
      refine (FS.out _).mono ?_
      rintro e w1 ⟨rfl, hb⟩
      obtain ⟨hb, r0, r1, hlt⟩ := laid2 hb
      have HB := Lib.hid hb
      clear hb
      go_wp2_with fail
      refine (FN.out _).mono ?_
      rintro e w2 ⟨rfl, hb⟩
      have HB2 := Lib.hid (HB.out.trans (hb.mono (by omega)))
      go_wp2_with fail
      go_ret
      exact ⟨rfl, HB2.out⟩
set_option maxRecDepth 100000 in
theorem lawStoreSplits_lifted (os : Os) (started : os.Started) (H : Type) (enc : TypeId × Value → H) :
    ReturnsInHanded {} Try.checked os 4 .any (Rows.storeSplitsSpec.pre6 enc Try.prog Try.f4 Rows.storeSplitsRow.domain false) (Rows.storeSplitsSpec.post enc Try.prog Try.f4 false true false false) := by
  refine returnsInHanded_of_change (C := Try.checked) own started (by kernel_rfl) Try.func4
    (ChangeSpec.witness6 (enc := enc) (C := Try.checked) false ⟨#[], #[.agg #[.string ⟨#[]⟩, .string ⟨#[]⟩, .int .i64 0], .string ⟨#[]⟩, .agg #[.int .u16 0, .int .u16 0]], []⟩ 8 (by kernel_rfl) (by kernel_rfl) (by kernel_rfl) (by kernel_rfl)) ?_
  intro W base args ds gs before hval0 hW hcnd _
  have hval : ∀ (j : Nat) t v, Try.f4.params[j]? = some t → args[j]? = some v → Value.okWide Try.prog W .any base t v := hval0
  have hW' := hW
  obtain ⟨p, q, hA0, hV, rfl, hfz, hnd⟩ := hW
  have hA : DataW.TrodAll enc Try.prog W 0 (fun _ => true) true Try.f4.params.toList args.toList ds p := hA0
  rw [Try.params4] at hA hval
  obtain ⟨v0, vs0, d0, ds0, p0, q0, hargs, rfl, rfl, h0, r0⟩ := trodAll_cons hA
  obtain ⟨v1, vs1, d1, ds1, p1, q1, rfl, rfl, rfl, h1, r1⟩ := trodAll_cons r0
  obtain ⟨v2, vs2, d2, ds2, p2, q2, rfl, rfl, rfl, h2, r2⟩ := trodAll_cons r1
  obtain ⟨rfl, rfl, rfl⟩ := trodAll_nil r2
  obtain rfl : args = #[v0, v1, v2] := by cases args; simp_all
  obtain ⟨rfl, rfl⟩ := trodVars_none hV
  have k0 := h0
  have lt0 : ∀ x ∈ p0, x.block < W.heap.size := by obtain ⟨m, hm⟩ := k0; exact DataW.trod_lt m _ _ _ hm
  obtain ⟨x0, rfl, g0, m0, n0⟩ := open_st (hval 0 24 v0 rfl rfl) h0
  obtain ⟨x1, rfl, rfl, rfl, g1⟩ := ChangeMaps.open_string Try.underlying9 (hval 1 9 v1 rfl rfl) h1
  have k2 := h2
  have lt2 : ∀ x ∈ p2, x.block < W.heap.size := by obtain ⟨m, hm⟩ := k2; exact DataW.trod_lt m _ _ _ hm
  obtain ⟨x2, y2, rfl, g2, m2⟩ := open_au16_2 (hval 2 39 v2 rfl rfl) h2
  clear hA0 hval0
  refine (lawStoreSplits_walk x0 x1 x2 y2 W g0 m0 n0 g1 g2 m2).mono fun e W' ⟨he, bel⟩ => ?_
  subst he
  exact ⟨_, rfl, _, _, _, [], _, [], hW', trodAll_mk1 (shut_bool Try.underlying4 _), (trodAll_cons_mk (Below.trod laidOut (by kernel_rfl) (of_decide_eq_true (by kernel_rfl)) k0 bel lt0) (trodAll_cons_mk (ChangeMaps.shut_string Try.underlying9 g1) (trodAll_cons_mk (Below.trod laidOut (by kernel_rfl) (of_decide_eq_true (by kernel_rfl)) k2 bel lt2) trodAll_mk0))), rfl, bel.frame _, fun h => by cases h⟩

theorem lawStoreSplits_over : Rows.storeSplitsRow.holds Try.pinned (OpenSpec.ofChange Rows.storeSplitsSpec) :=
  OpenClaim.holds_of_wide 4 Try.f4 rfl rfl rfl rfl rfl rfl rfl ⟨rfl, rfl, rfl, rfl, rfl⟩ rfl rfl rfl rfl rfl (by kernel_rfl) Try.func4 (by kernel_rfl)
    (of_decide_eq_true (by kernel_rfl)) (by unfold Func.isWrapper; first | (rw [if_pos (by decide +kernel)]; kernel_rfl) | (rw [if_neg (by decide +kernel)]; exact ⟨rfl, rfl⟩))
    (fun os started H enc _ => lawStoreSplits_lifted os started H enc)

theorem storeSplits_holds : Rows.StoreSplitsSaid := lawStoreSplits_over
#print axioms storeSplits_holds
end Go.Proofs.Ytanodbpeeahmaaa
