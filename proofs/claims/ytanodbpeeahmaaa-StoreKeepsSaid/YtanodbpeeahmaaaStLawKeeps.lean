/- The statement StoreKeeps. -/
import Derived.Test.YtanodbpeeahmaaaStOpen
namespace Go.Proofs.Ytanodbpeeahmaaa
open Go.RowKit Go.ChangeShapes Go.WideShapes Go.Deep St

theorem isB_small {s : St} (h1 : s.a.size ≤ 2000) (h2 : s.b.size ≤ 2000) (hx : s.sel = 0 ∨ s.sel = 1) : isB 9000 s = true := by
  unfold isB
  simp
  omega
theorem chk_small {s : St} {h z : Int} (h1 : s.a.size ≤ 2000) (h2 : s.b.size ≤ 2000) (hx : s.sel = 0 ∨ s.sel = 1) (hh : h = 0 ∨ h = 1) (hz : 0 ≤ z) : chk 9000 s h z = 0 := by
  unfold chk
  rw [isB_small h1 h2 hx, if_neg (by decide), if_neg (by omega)]
theorem write_small {s : St} {h z : Int} {d : ByteArray} (h1 : s.a.size ≤ 2000) (h2 : s.b.size ≤ 2000) (hx : s.sel = 0 ∨ s.sel = 1) (hh : h = 0 ∨ h = 1) (hz : 0 ≤ z) (hd : d.size ≤ 500) :
    writeF 9000 s h d z = if z < d.size then (s.put h (s.get h ++ d.extract 0 z.toNat), 0, 8) else (s.put h (s.get h ++ d), z - d.size, 0) := by
  unfold writeF
  have : ((s.get h).size : Int) ≤ 2000 := by unfold St.get; split <;> omega
  rw [if_pos (chk_small h1 h2 hx hh hz), if_neg (by omega)]
theorem write_keeps {s : St} {h z : Int} {d : ByteArray} (h1 : s.a.size ≤ 2000) (h2 : s.b.size ≤ 2000) (hx : s.sel = 0 ∨ s.sel = 1) (hh : h = 0 ∨ h = 1) (hz : 0 ≤ z) (hd : d.size ≤ 500) :
    ∃ q n e, writeF 9000 s h d z = (s.put h q, n, e) ∧ (e = 0 ∨ e = 8) := by
  rw [write_small h1 h2 hx hh hz hd]
  split
  · exact ⟨_, _, _, rfl, .inr rfl⟩
  · exact ⟨_, _, _, rfl, .inl rfl⟩
theorem erase_keeps {s : St} {h z : Int} (h1 : s.a.size ≤ 2000) (h2 : s.b.size ≤ 2000) (hx : s.sel = 0 ∨ s.sel = 1) (hh : h = 0 ∨ h = 1) (hz : 0 ≤ z) :
    eraseF 9000 s h z = if z = 0 then (s, 0, 8) else (s.put h ⟨#[]⟩, z - 1, 0) := by
  unfold eraseF
  rw [if_pos (chk_small h1 h2 hx hh hz)]
theorem choose_keeps {s : St} {h z : Int} (h1 : s.a.size ≤ 2000) (h2 : s.b.size ≤ 2000) (hx : s.sel = 0 ∨ s.sel = 1) (hh : h = 0 ∨ h = 1) (hz : 0 ≤ z) :
    chooseF 9000 s h z = if z = 0 then (s, 0, 8) else (⟨s.a, s.b, h⟩, z - 1, 0) := by
  unfold chooseF
  rw [if_pos (chk_small h1 h2 hx hh hz)]
set_option maxRecDepth 100000 in
set_option maxHeartbeats 40000000 in
theorem lawStoreKeeps_walk (s : St) (d : ByteArray) (x y z : Nat) (w : World) (_ : s.a.size ≤ maxLen) (_ : s.b.size ≤ maxLen) (_ : I64 s.sel) (_ : d.size ≤ maxLen) (_ : x < 256) (_ : y < 256) (hz : z < 256) :
    Calls Try.prog 5 #[s.agg, .string d, .agg #[.int .u8 x, .int .u8 y, .int .u8 z]] w fun e w' => e = .returned (.bool true) ∧ Below w.heap.size w w' := by
  have FS := Lib.hid (fun w => short_any s w)
  have FN := Lib.hid (fun w => sane_any w)
  obtain ⟨a, b, sel⟩ := s
  simp only [St.agg] at FS ⊢
  by_cases hs : shortB ⟨a, b, sel⟩ = true ∧ d.size ≤ 500
  · obtain ⟨hs, hd5⟩ := hs
    rw [hs] at FS
    have hs2 : a.size ≤ 2000 ∧ b.size ≤ 2000 := by simpa [shortB] using hs
    obtain ⟨sx, hsx, hsel⟩ : ∃ h : Int, (x : Int) % 2 = h ∧ (h = 0 ∨ h = 1) := ⟨_, rfl, by omega⟩
    have hzi : I64 (z : Int) := by constructor <;> omega
    have hd5' : decide (500 < (d.size : Int)) = false := by simp; omega
    obtain ⟨h, hh, hh2⟩ : ∃ h : Int, (y : Int) % 2 = h ∧ (h = 0 ∨ h = 1) := ⟨_, rfl, by omega⟩
    have FW := Lib.hid (fun w => write_any 9000 ⟨a, b, sx⟩ h d z w (by omega) hzi)
    have FE := Lib.hid (fun w => erase_any 9000 ⟨a, b, sx⟩ h z w hzi)
    have FC := Lib.hid (fun w => choose_any 9000 ⟨a, b, sx⟩ h z w hzi)
    obtain ⟨q, n, e, hW, he⟩ := write_keeps (s := ⟨a, b, sx⟩) (h := h) (z := z) (d := d) hs2.1 hs2.2 hsel hh2 (by omega) hd5
    have FU := Lib.hid (fun w => current_any ⟨a, b, h⟩ w)
    rw [hW] at FW
    rw [erase_keeps hs2.1 hs2.2 hsel hh2 (by omega)] at FE
    rw [choose_keeps hs2.1 hs2.2 hsel hh2 (by omega)] at FC
    clear hW hs hzi hd5 hs2
    clear hsel
    rcases he with rfl | rfl <;> rcases hh2 with rfl | rfl <;> by_cases hz0 : (z : Int) = 0
    · rw [if_pos hz0] at FE FC
      have hzp : ¬ 0 < z := by omega
      clear hz0
      simp [ans, St.agg, St.put, St.cur] at FW FE FC FU
      go_enter Try.func5, Try.ntmps5
      go_wp2_with fail
      refine (FS.out _).mono ?_
      rintro e w1 ⟨rfl, hb⟩
      obtain ⟨hb, r0, r1, hlt⟩ := laid2 hb
      have HB := Lib.hid hb
      clear hb
      have f : ∀ i, w1.frozen? ⟨w.heap.size, i, none⟩ = false := fun i => frozen_of_row _ _ _ _ _ r0
      obtain ⟨c0, c1, c2⟩ := cells3 r0
      obtain ⟨d0, d1, d2⟩ := cells3 r1
      go_wp2_with fail
      clear c0 c1 c2
      have k2 := laidSet (i := 2) (v := .int .i64 sx) r0 (Below.refl _ _)
      have HB2 := Lib.hid (HB.out.setCell (p := ⟨w.heap.size, 2, none⟩) (Nat.le_refl _) (.int .i64 sx))
      generalize World.setCell w1 _ _ = w2 at *
      obtain ⟨-, r0', ho, hle⟩ := k2
      replace r1 := (ho _ hlt (by omega)).trans r1
      clear ho f d0 d1 d2 r0
      obtain ⟨c0, c1, c2⟩ := cells3 (show w2.heap[w.heap.size]? = some (.cells #[.string a, .string b, .int .i64 sx] 24 (0, 0)) from r0')
      obtain ⟨d0, d1, d2⟩ := cells3 r1
      have hlt := Nat.lt_of_lt_of_le hlt hle
      clear hle
      go_region
      go_wp2_with fail
      refine (FW.out _).mono ?_
      rintro e w3 ⟨rfl, hb⟩
      replace r0' := (hb.block w.heap.size (by show _ < w2.heap.size; omega)).trans r0'
      have hsz : w2.heap.size ≤ w3.heap.size := hb.size
      have HB3 := Lib.hid (HB2.out.drew.trans (hb.mono (B' := w.heap.size) (show w.heap.size ≤ w2.heap.size by omega)))
      clear hb c0 c1 c2 d0 d1 d2 r1
      obtain ⟨c0, c1, c2⟩ := cells3 (show w3.heap[w.heap.size]? = some (.cells #[.string a, .string b, .int .i64 sx] 24 (0, 0)) from r0')
      have hlt3 : w.heap.size < w3.heap.size := by omega
      have hne3 : ¬ w.heap.size = w3.heap.size := by omega
      go_wp2_with fail
      refine (FE.out _).mono ?_
      rintro e w4 ⟨rfl, hb⟩
      obtain ⟨hb, r3, hlt4⟩ := laid1 hb
      replace r0' := (hb.block w.heap.size hlt3).trans r0'
      have HB4 := Lib.hid (HB3.out.trans (hb.mono (by omega)))
      clear hb c0 c1 c2
      obtain ⟨c0, c1, c2⟩ := cells3 (show w4.heap[w.heap.size]? = some (.cells #[.string a, .string b, .int .i64 sx] 24 (0, 0)) from r0')
      have hne4 : ¬ w.heap.size = w4.heap.size := by omega
      have hne5 : ¬ w3.heap.size = w4.heap.size := by omega
      have hlt5 : w.heap.size < w4.heap.size := by omega
      go_wp2_with fail
      refine (FC.out _).mono ?_
      rintro e w5 ⟨rfl, hb⟩
      obtain ⟨hb, r4, hlt6⟩ := laid1 hb
      replace r0' := (hb.block w.heap.size (by omega)).trans r0'
      replace r3 := (hb.block _ hlt4).trans r3
      have HB5 := Lib.hid (HB4.out.trans (hb.mono (by omega)))
      clear hb c0 c1 c2
      obtain ⟨c0, c1, c2⟩ := cells3 (show w5.heap[w.heap.size]? = some (.cells #[.string a, .string b, .int .i64 sx] 24 (0, 0)) from r0')
      obtain ⟨a0, a1, a2⟩ := cells3 r3
      obtain ⟨b0, b1, b2⟩ := cells3 r4
      have hne6 : ¬ w.heap.size = w5.heap.size := by omega
      have hne7 : ¬ w3.heap.size = w5.heap.size := by omega
      have hne8 : ¬ w4.heap.size = w5.heap.size := by omega
      have hlt7 : w.heap.size < w5.heap.size := by omega
      have hlt8 : w3.heap.size < w5.heap.size := by omega
      go_wp2_with fail
      have NH := neqHalves a b
      go_region
      go_wp2_with fail
      clear c0 c1 c2 a0 a1 a2 b0 b1 b2 hne3 hne4 hne5 hne6 hne7 hne8 NH
      refine Bag.region (fun wx => Below (w5.alloc (.cells #[.string a, .string b, .int .i64 sx] 24)).heap.size (w5.alloc (.cells #[.string a, .string b, .int .i64 sx] 24)) wx) (by kernel_rfl) (by kernel_rfl) (Below.refl _ _).drew.drew ?_
      iterate 22 (first
          | (apply Bag.walk_yes (by rfl)
             (intro wx hx K hK
              obtain ⟨hbx, r5, hlx⟩ := laid1 hx
              obtain ⟨c0, c1, c2⟩ := cells3 (show wx.heap[w.heap.size]? = some (.cells #[.string a, .string b, .int .i64 sx] 24 (0, 0)) from (hbx.block _ hlt7).trans r0')
              obtain ⟨a0, a1, a2⟩ := cells3 ((hbx.block _ hlt6).trans r4)
              obtain ⟨b0, b1, b2⟩ := cells3 r5
              first
                | (go_simp
                   first
                    | (go_at_call 15; refine (FU.out _).mono ?_; rintro e w' ⟨rfl, hb⟩; exact hK _ (hx.trans (hb.mono hx.size)))
                    | (go_at_call 8; refine (FN.out _).mono ?_; rintro e w' ⟨rfl, hb⟩; exact hK _ (hx.trans (hb.mono hx.size)))
                    | (go_at_K; exact hK _ hx)))
             rfl)
          | (refine Bag.walk_no (by rfl) ?_; simp only [Act.put, List.setIfInBounds_toArray, List.set_cons_succ, List.set_cons_zero]))
      refine Bag.walk_nil (fun w6 hB6 => ?_)
      go_wp2_with fail
      go_ret
      exact ⟨rfl, HB5.out.trans ((laid1 hB6).1.mono (by omega))⟩
    · rw [if_neg hz0] at FE FC
      have hzp : 0 < z := by omega
      clear hz0
      simp [ans, St.agg, St.put, St.cur] at FW FE FC FU
      go_enter Try.func5, Try.ntmps5
      go_wp2_with fail
      refine (FS.out _).mono ?_
      rintro e w1 ⟨rfl, hb⟩
      obtain ⟨hb, r0, r1, hlt⟩ := laid2 hb
      have HB := Lib.hid hb
      clear hb
      have f : ∀ i, w1.frozen? ⟨w.heap.size, i, none⟩ = false := fun i => frozen_of_row _ _ _ _ _ r0
      obtain ⟨c0, c1, c2⟩ := cells3 r0
      obtain ⟨d0, d1, d2⟩ := cells3 r1
      go_wp2_with fail
      clear c0 c1 c2
      have k2 := laidSet (i := 2) (v := .int .i64 sx) r0 (Below.refl _ _)
      have HB2 := Lib.hid (HB.out.setCell (p := ⟨w.heap.size, 2, none⟩) (Nat.le_refl _) (.int .i64 sx))
      generalize World.setCell w1 _ _ = w2 at *
      obtain ⟨-, r0', ho, hle⟩ := k2
      replace r1 := (ho _ hlt (by omega)).trans r1
      clear ho f d0 d1 d2 r0
      obtain ⟨c0, c1, c2⟩ := cells3 (show w2.heap[w.heap.size]? = some (.cells #[.string a, .string b, .int .i64 sx] 24 (0, 0)) from r0')
      obtain ⟨d0, d1, d2⟩ := cells3 r1
      have hlt := Nat.lt_of_lt_of_le hlt hle
      clear hle
      go_region
      go_wp2_with fail
      refine (FW.out _).mono ?_
      rintro e w3 ⟨rfl, hb⟩
      replace r0' := (hb.block w.heap.size (by show _ < w2.heap.size; omega)).trans r0'
      have hsz : w2.heap.size ≤ w3.heap.size := hb.size
      have HB3 := Lib.hid (HB2.out.drew.trans (hb.mono (B' := w.heap.size) (show w.heap.size ≤ w2.heap.size by omega)))
      clear hb c0 c1 c2 d0 d1 d2 r1
      obtain ⟨c0, c1, c2⟩ := cells3 (show w3.heap[w.heap.size]? = some (.cells #[.string a, .string b, .int .i64 sx] 24 (0, 0)) from r0')
      have hlt3 : w.heap.size < w3.heap.size := by omega
      have hne3 : ¬ w.heap.size = w3.heap.size := by omega
      go_wp2_with fail
      refine (FE.out _).mono ?_
      rintro e w4 ⟨rfl, hb⟩
      obtain ⟨hb, r3, hlt4⟩ := laid1 hb
      replace r0' := (hb.block w.heap.size hlt3).trans r0'
      have HB4 := Lib.hid (HB3.out.trans (hb.mono (by omega)))
      clear hb c0 c1 c2
      obtain ⟨c0, c1, c2⟩ := cells3 (show w4.heap[w.heap.size]? = some (.cells #[.string a, .string b, .int .i64 sx] 24 (0, 0)) from r0')
      have hne4 : ¬ w.heap.size = w4.heap.size := by omega
      have hne5 : ¬ w3.heap.size = w4.heap.size := by omega
      have hlt5 : w.heap.size < w4.heap.size := by omega
      go_wp2_with fail
      refine (FC.out _).mono ?_
      rintro e w5 ⟨rfl, hb⟩
      obtain ⟨hb, r4, hlt6⟩ := laid1 hb
      replace r0' := (hb.block w.heap.size (by omega)).trans r0'
      replace r3 := (hb.block _ hlt4).trans r3
      have HB5 := Lib.hid (HB4.out.trans (hb.mono (by omega)))
      clear hb c0 c1 c2
      obtain ⟨c0, c1, c2⟩ := cells3 (show w5.heap[w.heap.size]? = some (.cells #[.string a, .string b, .int .i64 sx] 24 (0, 0)) from r0')
      obtain ⟨a0, a1, a2⟩ := cells3 r3
      obtain ⟨b0, b1, b2⟩ := cells3 r4
      have hne6 : ¬ w.heap.size = w5.heap.size := by omega
      have hne7 : ¬ w3.heap.size = w5.heap.size := by omega
      have hne8 : ¬ w4.heap.size = w5.heap.size := by omega
      have hlt7 : w.heap.size < w5.heap.size := by omega
      have hlt8 : w3.heap.size < w5.heap.size := by omega
      go_wp2_with fail
      have NH := neqHalves a b
      go_region
      go_wp2_with fail
      clear c0 c1 c2 a0 a1 a2 b0 b1 b2 hne3 hne4 hne5 hne6 hne7 hne8 NH
      refine Bag.region (fun wx => Below (w5.alloc (.cells #[.string a, .string b, .int .i64 0] 24)).heap.size (w5.alloc (.cells #[.string a, .string b, .int .i64 0] 24)) wx) (by kernel_rfl) (by kernel_rfl) (Below.refl _ _).drew.drew ?_
      iterate 22 (first
          | (apply Bag.walk_yes (by rfl)
             (intro wx hx K hK
              obtain ⟨hbx, r5, hlx⟩ := laid1 hx
              obtain ⟨c0, c1, c2⟩ := cells3 (show wx.heap[w.heap.size]? = some (.cells #[.string a, .string b, .int .i64 sx] 24 (0, 0)) from (hbx.block _ hlt7).trans r0')
              obtain ⟨a0, a1, a2⟩ := cells3 ((hbx.block _ hlt6).trans r4)
              obtain ⟨b0, b1, b2⟩ := cells3 r5
              first
                | (go_simp
                   first
                    | (go_at_call 15; refine (FU.out _).mono ?_; rintro e w' ⟨rfl, hb⟩; exact hK _ (hx.trans (hb.mono hx.size)))
                    | (go_at_call 8; refine (FN.out _).mono ?_; rintro e w' ⟨rfl, hb⟩; exact hK _ (hx.trans (hb.mono hx.size)))
                    | (go_at_K; exact hK _ hx)))
             rfl)
          | (refine Bag.walk_no (by rfl) ?_; simp only [Act.put, List.setIfInBounds_toArray, List.set_cons_succ, List.set_cons_zero]))
      refine Bag.walk_nil (fun w6 hB6 => ?_)
      go_wp2_with fail
      go_ret
      exact ⟨rfl, HB5.out.trans ((laid1 hB6).1.mono (by omega))⟩
    · rw [if_pos hz0] at FE FC
      have hzp : ¬ 0 < z := by omega
      clear hz0
      simp [ans, St.agg, St.put, St.cur] at FW FE FC FU
      go_enter Try.func5, Try.ntmps5
      go_wp2_with fail
      refine (FS.out _).mono ?_
      rintro e w1 ⟨rfl, hb⟩
      obtain ⟨hb, r0, r1, hlt⟩ := laid2 hb
      have HB := Lib.hid hb
      clear hb
      have f : ∀ i, w1.frozen? ⟨w.heap.size, i, none⟩ = false := fun i => frozen_of_row _ _ _ _ _ r0
      obtain ⟨c0, c1, c2⟩ := cells3 r0
      obtain ⟨d0, d1, d2⟩ := cells3 r1
      go_wp2_with fail
      clear c0 c1 c2
      have k2 := laidSet (i := 2) (v := .int .i64 sx) r0 (Below.refl _ _)
      have HB2 := Lib.hid (HB.out.setCell (p := ⟨w.heap.size, 2, none⟩) (Nat.le_refl _) (.int .i64 sx))
      generalize World.setCell w1 _ _ = w2 at *
      obtain ⟨-, r0', ho, hle⟩ := k2
      replace r1 := (ho _ hlt (by omega)).trans r1
      clear ho f d0 d1 d2 r0
      obtain ⟨c0, c1, c2⟩ := cells3 (show w2.heap[w.heap.size]? = some (.cells #[.string a, .string b, .int .i64 sx] 24 (0, 0)) from r0')
      obtain ⟨d0, d1, d2⟩ := cells3 r1
      have hlt := Nat.lt_of_lt_of_le hlt hle
      clear hle
      go_region
      go_wp2_with fail
      refine (FW.out _).mono ?_
      rintro e w3 ⟨rfl, hb⟩
      replace r0' := (hb.block w.heap.size (by show _ < w2.heap.size; omega)).trans r0'
      have hsz : w2.heap.size ≤ w3.heap.size := hb.size
      have HB3 := Lib.hid (HB2.out.drew.trans (hb.mono (B' := w.heap.size) (show w.heap.size ≤ w2.heap.size by omega)))
      clear hb c0 c1 c2 d0 d1 d2 r1
      obtain ⟨c0, c1, c2⟩ := cells3 (show w3.heap[w.heap.size]? = some (.cells #[.string a, .string b, .int .i64 sx] 24 (0, 0)) from r0')
      have hlt3 : w.heap.size < w3.heap.size := by omega
      have hne3 : ¬ w.heap.size = w3.heap.size := by omega
      go_wp2_with fail
      refine (FE.out _).mono ?_
      rintro e w4 ⟨rfl, hb⟩
      obtain ⟨hb, r3, hlt4⟩ := laid1 hb
      replace r0' := (hb.block w.heap.size hlt3).trans r0'
      have HB4 := Lib.hid (HB3.out.trans (hb.mono (by omega)))
      clear hb c0 c1 c2
      obtain ⟨c0, c1, c2⟩ := cells3 (show w4.heap[w.heap.size]? = some (.cells #[.string a, .string b, .int .i64 sx] 24 (0, 0)) from r0')
      have hne4 : ¬ w.heap.size = w4.heap.size := by omega
      have hne5 : ¬ w3.heap.size = w4.heap.size := by omega
      have hlt5 : w.heap.size < w4.heap.size := by omega
      go_wp2_with fail
      refine (FC.out _).mono ?_
      rintro e w5 ⟨rfl, hb⟩
      obtain ⟨hb, r4, hlt6⟩ := laid1 hb
      replace r0' := (hb.block w.heap.size (by omega)).trans r0'
      replace r3 := (hb.block _ hlt4).trans r3
      have HB5 := Lib.hid (HB4.out.trans (hb.mono (by omega)))
      clear hb c0 c1 c2
      obtain ⟨c0, c1, c2⟩ := cells3 (show w5.heap[w.heap.size]? = some (.cells #[.string a, .string b, .int .i64 sx] 24 (0, 0)) from r0')
      obtain ⟨a0, a1, a2⟩ := cells3 r3
      obtain ⟨b0, b1, b2⟩ := cells3 r4
      have hne6 : ¬ w.heap.size = w5.heap.size := by omega
      have hne7 : ¬ w3.heap.size = w5.heap.size := by omega
      have hne8 : ¬ w4.heap.size = w5.heap.size := by omega
      have hlt7 : w.heap.size < w5.heap.size := by omega
      have hlt8 : w3.heap.size < w5.heap.size := by omega
      go_wp2_with fail
      have NH := neqHalves a b
      go_region
      go_wp2_with fail
      clear c0 c1 c2 a0 a1 a2 b0 b1 b2 hne3 hne4 hne5 hne6 hne7 hne8 NH
      refine Bag.region (fun wx => Below (w5.alloc (.cells #[.string a, .string b, .int .i64 sx] 24)).heap.size (w5.alloc (.cells #[.string a, .string b, .int .i64 sx] 24)) wx) (by kernel_rfl) (by kernel_rfl) (Below.refl _ _).drew.drew ?_
      iterate 22 (first
          | (apply Bag.walk_yes (by rfl)
             (intro wx hx K hK
              obtain ⟨hbx, r5, hlx⟩ := laid1 hx
              obtain ⟨c0, c1, c2⟩ := cells3 (show wx.heap[w.heap.size]? = some (.cells #[.string a, .string b, .int .i64 sx] 24 (0, 0)) from (hbx.block _ hlt7).trans r0')
              obtain ⟨a0, a1, a2⟩ := cells3 ((hbx.block _ hlt6).trans r4)
              obtain ⟨b0, b1, b2⟩ := cells3 r5
              first
                | (go_simp
                   first
                    | (go_at_call 15; refine (FU.out _).mono ?_; rintro e w' ⟨rfl, hb⟩; exact hK _ (hx.trans (hb.mono hx.size)))
                    | (go_at_call 8; refine (FN.out _).mono ?_; rintro e w' ⟨rfl, hb⟩; exact hK _ (hx.trans (hb.mono hx.size)))
                    | (go_at_K; exact hK _ hx)))
             rfl)
          | (refine Bag.walk_no (by rfl) ?_; simp only [Act.put, List.setIfInBounds_toArray, List.set_cons_succ, List.set_cons_zero]))
      refine Bag.walk_nil (fun w6 hB6 => ?_)
      go_wp2_with fail
      go_ret
      exact ⟨rfl, HB5.out.trans ((laid1 hB6).1.mono (by omega))⟩
    · rw [if_neg hz0] at FE FC
      have hzp : 0 < z := by omega
      clear hz0
      simp [ans, St.agg, St.put, St.cur] at FW FE FC FU
      go_enter Try.func5, Try.ntmps5
      go_wp2_with fail
      refine (FS.out _).mono ?_
      rintro e w1 ⟨rfl, hb⟩
      obtain ⟨hb, r0, r1, hlt⟩ := laid2 hb
      have HB := Lib.hid hb
      clear hb
      have f : ∀ i, w1.frozen? ⟨w.heap.size, i, none⟩ = false := fun i => frozen_of_row _ _ _ _ _ r0
      obtain ⟨c0, c1, c2⟩ := cells3 r0
      obtain ⟨d0, d1, d2⟩ := cells3 r1
      go_wp2_with fail
      clear c0 c1 c2
      have k2 := laidSet (i := 2) (v := .int .i64 sx) r0 (Below.refl _ _)
      have HB2 := Lib.hid (HB.out.setCell (p := ⟨w.heap.size, 2, none⟩) (Nat.le_refl _) (.int .i64 sx))
      generalize World.setCell w1 _ _ = w2 at *
      obtain ⟨-, r0', ho, hle⟩ := k2
      replace r1 := (ho _ hlt (by omega)).trans r1
      clear ho f d0 d1 d2 r0
      obtain ⟨c0, c1, c2⟩ := cells3 (show w2.heap[w.heap.size]? = some (.cells #[.string a, .string b, .int .i64 sx] 24 (0, 0)) from r0')
      obtain ⟨d0, d1, d2⟩ := cells3 r1
      have hlt := Nat.lt_of_lt_of_le hlt hle
      clear hle
      go_region
      go_wp2_with fail
      refine (FW.out _).mono ?_
      rintro e w3 ⟨rfl, hb⟩
      replace r0' := (hb.block w.heap.size (by show _ < w2.heap.size; omega)).trans r0'
      have hsz : w2.heap.size ≤ w3.heap.size := hb.size
      have HB3 := Lib.hid (HB2.out.drew.trans (hb.mono (B' := w.heap.size) (show w.heap.size ≤ w2.heap.size by omega)))
      clear hb c0 c1 c2 d0 d1 d2 r1
      obtain ⟨c0, c1, c2⟩ := cells3 (show w3.heap[w.heap.size]? = some (.cells #[.string a, .string b, .int .i64 sx] 24 (0, 0)) from r0')
      have hlt3 : w.heap.size < w3.heap.size := by omega
      have hne3 : ¬ w.heap.size = w3.heap.size := by omega
      go_wp2_with fail
      refine (FE.out _).mono ?_
      rintro e w4 ⟨rfl, hb⟩
      obtain ⟨hb, r3, hlt4⟩ := laid1 hb
      replace r0' := (hb.block w.heap.size hlt3).trans r0'
      have HB4 := Lib.hid (HB3.out.trans (hb.mono (by omega)))
      clear hb c0 c1 c2
      obtain ⟨c0, c1, c2⟩ := cells3 (show w4.heap[w.heap.size]? = some (.cells #[.string a, .string b, .int .i64 sx] 24 (0, 0)) from r0')
      have hne4 : ¬ w.heap.size = w4.heap.size := by omega
      have hne5 : ¬ w3.heap.size = w4.heap.size := by omega
      have hlt5 : w.heap.size < w4.heap.size := by omega
      go_wp2_with fail
      refine (FC.out _).mono ?_
      rintro e w5 ⟨rfl, hb⟩
      obtain ⟨hb, r4, hlt6⟩ := laid1 hb
      replace r0' := (hb.block w.heap.size (by omega)).trans r0'
      replace r3 := (hb.block _ hlt4).trans r3
      have HB5 := Lib.hid (HB4.out.trans (hb.mono (by omega)))
      clear hb c0 c1 c2
      obtain ⟨c0, c1, c2⟩ := cells3 (show w5.heap[w.heap.size]? = some (.cells #[.string a, .string b, .int .i64 sx] 24 (0, 0)) from r0')
      obtain ⟨a0, a1, a2⟩ := cells3 r3
      obtain ⟨b0, b1, b2⟩ := cells3 r4
      have hne6 : ¬ w.heap.size = w5.heap.size := by omega
      have hne7 : ¬ w3.heap.size = w5.heap.size := by omega
      have hne8 : ¬ w4.heap.size = w5.heap.size := by omega
      have hlt7 : w.heap.size < w5.heap.size := by omega
      have hlt8 : w3.heap.size < w5.heap.size := by omega
      go_wp2_with fail
      have NH := neqHalves a b
      go_region
      go_wp2_with fail
      clear c0 c1 c2 a0 a1 a2 b0 b1 b2 hne3 hne4 hne5 hne6 hne7 hne8 NH
      refine Bag.region (fun wx => Below (w5.alloc (.cells #[.string a, .string b, .int .i64 1] 24)).heap.size (w5.alloc (.cells #[.string a, .string b, .int .i64 1] 24)) wx) (by kernel_rfl) (by kernel_rfl) (Below.refl _ _).drew.drew ?_
      iterate 22 (first
          | (apply Bag.walk_yes (by rfl)
             (intro wx hx K hK
              obtain ⟨hbx, r5, hlx⟩ := laid1 hx
              obtain ⟨c0, c1, c2⟩ := cells3 (show wx.heap[w.heap.size]? = some (.cells #[.string a, .string b, .int .i64 sx] 24 (0, 0)) from (hbx.block _ hlt7).trans r0')
              obtain ⟨a0, a1, a2⟩ := cells3 ((hbx.block _ hlt6).trans r4)
              obtain ⟨b0, b1, b2⟩ := cells3 r5
              first
                | (go_simp
                   first
                    | (go_at_call 15; refine (FU.out _).mono ?_; rintro e w' ⟨rfl, hb⟩; exact hK _ (hx.trans (hb.mono hx.size)))
                    | (go_at_call 8; refine (FN.out _).mono ?_; rintro e w' ⟨rfl, hb⟩; exact hK _ (hx.trans (hb.mono hx.size)))
                    | (go_at_K; exact hK _ hx)))
             rfl)
          | (refine Bag.walk_no (by rfl) ?_; simp only [Act.put, List.setIfInBounds_toArray, List.set_cons_succ, List.set_cons_zero]))
      refine Bag.walk_nil (fun w6 hB6 => ?_)
      go_wp2_with fail
      go_ret
      exact ⟨rfl, HB5.out.trans ((laid1 hB6).1.mono (by omega))⟩
    · rw [if_pos hz0] at FE FC
      have hzp : ¬ 0 < z := by omega
      clear hz0
      simp [ans, St.agg, St.put, St.cur] at FW FE FC FU
      go_enter Try.func5, Try.ntmps5
      go_wp2_with fail
      refine (FS.out _).mono ?_
      rintro e w1 ⟨rfl, hb⟩
      obtain ⟨hb, r0, r1, hlt⟩ := laid2 hb
      have HB := Lib.hid hb
      clear hb
      have f : ∀ i, w1.frozen? ⟨w.heap.size, i, none⟩ = false := fun i => frozen_of_row _ _ _ _ _ r0
      obtain ⟨c0, c1, c2⟩ := cells3 r0
      obtain ⟨d0, d1, d2⟩ := cells3 r1
      go_wp2_with fail
      clear c0 c1 c2
      have k2 := laidSet (i := 2) (v := .int .i64 sx) r0 (Below.refl _ _)
      have HB2 := Lib.hid (HB.out.setCell (p := ⟨w.heap.size, 2, none⟩) (Nat.le_refl _) (.int .i64 sx))
      generalize World.setCell w1 _ _ = w2 at *
      obtain ⟨-, r0', ho, hle⟩ := k2
      replace r1 := (ho _ hlt (by omega)).trans r1
      clear ho f d0 d1 d2 r0
      obtain ⟨c0, c1, c2⟩ := cells3 (show w2.heap[w.heap.size]? = some (.cells #[.string a, .string b, .int .i64 sx] 24 (0, 0)) from r0')
      obtain ⟨d0, d1, d2⟩ := cells3 r1
      have hlt := Nat.lt_of_lt_of_le hlt hle
      clear hle
      go_region
      go_wp2_with fail
      refine (FW.out _).mono ?_
      rintro e w3 ⟨rfl, hb⟩
      replace r0' := (hb.block w.heap.size (by show _ < w2.heap.size; omega)).trans r0'
      have hsz : w2.heap.size ≤ w3.heap.size := hb.size
      have HB3 := Lib.hid (HB2.out.drew.trans (hb.mono (B' := w.heap.size) (show w.heap.size ≤ w2.heap.size by omega)))
      clear hb c0 c1 c2 d0 d1 d2 r1
      obtain ⟨c0, c1, c2⟩ := cells3 (show w3.heap[w.heap.size]? = some (.cells #[.string a, .string b, .int .i64 sx] 24 (0, 0)) from r0')
      have hlt3 : w.heap.size < w3.heap.size := by omega
      have hne3 : ¬ w.heap.size = w3.heap.size := by omega
      go_wp2_with fail
      refine (FE.out _).mono ?_
      rintro e w4 ⟨rfl, hb⟩
      obtain ⟨hb, r3, hlt4⟩ := laid1 hb
      replace r0' := (hb.block w.heap.size hlt3).trans r0'
      have HB4 := Lib.hid (HB3.out.trans (hb.mono (by omega)))
      clear hb c0 c1 c2
      obtain ⟨c0, c1, c2⟩ := cells3 (show w4.heap[w.heap.size]? = some (.cells #[.string a, .string b, .int .i64 sx] 24 (0, 0)) from r0')
      have hne4 : ¬ w.heap.size = w4.heap.size := by omega
      have hne5 : ¬ w3.heap.size = w4.heap.size := by omega
      have hlt5 : w.heap.size < w4.heap.size := by omega
      go_wp2_with fail
      refine (FC.out _).mono ?_
      rintro e w5 ⟨rfl, hb⟩
      obtain ⟨hb, r4, hlt6⟩ := laid1 hb
      replace r0' := (hb.block w.heap.size (by omega)).trans r0'
      replace r3 := (hb.block _ hlt4).trans r3
      have HB5 := Lib.hid (HB4.out.trans (hb.mono (by omega)))
      clear hb c0 c1 c2
      obtain ⟨c0, c1, c2⟩ := cells3 (show w5.heap[w.heap.size]? = some (.cells #[.string a, .string b, .int .i64 sx] 24 (0, 0)) from r0')
      obtain ⟨a0, a1, a2⟩ := cells3 r3
      obtain ⟨b0, b1, b2⟩ := cells3 r4
      have hne6 : ¬ w.heap.size = w5.heap.size := by omega
      have hne7 : ¬ w3.heap.size = w5.heap.size := by omega
      have hne8 : ¬ w4.heap.size = w5.heap.size := by omega
      have hlt7 : w.heap.size < w5.heap.size := by omega
      have hlt8 : w3.heap.size < w5.heap.size := by omega
      go_wp2_with fail
      have NH := neqHalves a b
      go_region
      go_wp2_with fail
      clear c0 c1 c2 a0 a1 a2 b0 b1 b2 hne3 hne4 hne5 hne6 hne7 hne8 NH
      refine Bag.region (fun wx => Below (w5.alloc (.cells #[.string a, .string b, .int .i64 sx] 24)).heap.size (w5.alloc (.cells #[.string a, .string b, .int .i64 sx] 24)) wx) (by kernel_rfl) (by kernel_rfl) (Below.refl _ _).drew.drew ?_
      iterate 22 (first
          | (apply Bag.walk_yes (by rfl)
             (intro wx hx K hK
              obtain ⟨hbx, r5, hlx⟩ := laid1 hx
              obtain ⟨c0, c1, c2⟩ := cells3 (show wx.heap[w.heap.size]? = some (.cells #[.string a, .string b, .int .i64 sx] 24 (0, 0)) from (hbx.block _ hlt7).trans r0')
              obtain ⟨a0, a1, a2⟩ := cells3 ((hbx.block _ hlt6).trans r4)
              obtain ⟨b0, b1, b2⟩ := cells3 r5
              first
                | (go_simp
                   first
                    | (go_at_call 15; refine (FU.out _).mono ?_; rintro e w' ⟨rfl, hb⟩; exact hK _ (hx.trans (hb.mono hx.size)))
                    | (go_at_call 8; refine (FN.out _).mono ?_; rintro e w' ⟨rfl, hb⟩; exact hK _ (hx.trans (hb.mono hx.size)))
                    | (go_at_K; exact hK _ hx)))
             rfl)
          | (refine Bag.walk_no (by rfl) ?_; simp only [Act.put, List.setIfInBounds_toArray, List.set_cons_succ, List.set_cons_zero]))
      refine Bag.walk_nil (fun w6 hB6 => ?_)
      go_wp2_with fail
      go_ret
      exact ⟨rfl, HB5.out.trans ((laid1 hB6).1.mono (by omega))⟩
    · rw [if_neg hz0] at FE FC
      have hzp : 0 < z := by omega
      clear hz0
      simp [ans, St.agg, St.put, St.cur] at FW FE FC FU
      go_enter Try.func5, Try.ntmps5
      go_wp2_with fail
      refine (FS.out _).mono ?_
      rintro e w1 ⟨rfl, hb⟩
      obtain ⟨hb, r0, r1, hlt⟩ := laid2 hb
      have HB := Lib.hid hb
      clear hb
      have f : ∀ i, w1.frozen? ⟨w.heap.size, i, none⟩ = false := fun i => frozen_of_row _ _ _ _ _ r0
      obtain ⟨c0, c1, c2⟩ := cells3 r0
      obtain ⟨d0, d1, d2⟩ := cells3 r1
      go_wp2_with fail
      clear c0 c1 c2
      have k2 := laidSet (i := 2) (v := .int .i64 sx) r0 (Below.refl _ _)
      have HB2 := Lib.hid (HB.out.setCell (p := ⟨w.heap.size, 2, none⟩) (Nat.le_refl _) (.int .i64 sx))
      generalize World.setCell w1 _ _ = w2 at *
      obtain ⟨-, r0', ho, hle⟩ := k2
      replace r1 := (ho _ hlt (by omega)).trans r1
      clear ho f d0 d1 d2 r0
      obtain ⟨c0, c1, c2⟩ := cells3 (show w2.heap[w.heap.size]? = some (.cells #[.string a, .string b, .int .i64 sx] 24 (0, 0)) from r0')
      obtain ⟨d0, d1, d2⟩ := cells3 r1
      have hlt := Nat.lt_of_lt_of_le hlt hle
      clear hle
      go_region
      go_wp2_with fail
      refine (FW.out _).mono ?_
      rintro e w3 ⟨rfl, hb⟩
      replace r0' := (hb.block w.heap.size (by show _ < w2.heap.size; omega)).trans r0'
      have hsz : w2.heap.size ≤ w3.heap.size := hb.size
      have HB3 := Lib.hid (HB2.out.drew.trans (hb.mono (B' := w.heap.size) (show w.heap.size ≤ w2.heap.size by omega)))
      clear hb c0 c1 c2 d0 d1 d2 r1
      obtain ⟨c0, c1, c2⟩ := cells3 (show w3.heap[w.heap.size]? = some (.cells #[.string a, .string b, .int .i64 sx] 24 (0, 0)) from r0')
      have hlt3 : w.heap.size < w3.heap.size := by omega
      have hne3 : ¬ w.heap.size = w3.heap.size := by omega
      go_wp2_with fail
      refine (FE.out _).mono ?_
      rintro e w4 ⟨rfl, hb⟩
      obtain ⟨hb, r3, hlt4⟩ := laid1 hb
      replace r0' := (hb.block w.heap.size hlt3).trans r0'
      have HB4 := Lib.hid (HB3.out.trans (hb.mono (by omega)))
      clear hb c0 c1 c2
      obtain ⟨c0, c1, c2⟩ := cells3 (show w4.heap[w.heap.size]? = some (.cells #[.string a, .string b, .int .i64 sx] 24 (0, 0)) from r0')
      have hne4 : ¬ w.heap.size = w4.heap.size := by omega
      have hne5 : ¬ w3.heap.size = w4.heap.size := by omega
      have hlt5 : w.heap.size < w4.heap.size := by omega
      go_wp2_with fail
      refine (FC.out _).mono ?_
      rintro e w5 ⟨rfl, hb⟩
      obtain ⟨hb, r4, hlt6⟩ := laid1 hb
      replace r0' := (hb.block w.heap.size (by omega)).trans r0'
      replace r3 := (hb.block _ hlt4).trans r3
      have HB5 := Lib.hid (HB4.out.trans (hb.mono (by omega)))
      clear hb c0 c1 c2
      obtain ⟨c0, c1, c2⟩ := cells3 (show w5.heap[w.heap.size]? = some (.cells #[.string a, .string b, .int .i64 sx] 24 (0, 0)) from r0')
      obtain ⟨a0, a1, a2⟩ := cells3 r3
      obtain ⟨b0, b1, b2⟩ := cells3 r4
      have hne6 : ¬ w.heap.size = w5.heap.size := by omega
      have hne7 : ¬ w3.heap.size = w5.heap.size := by omega
      have hne8 : ¬ w4.heap.size = w5.heap.size := by omega
      have hlt7 : w.heap.size < w5.heap.size := by omega
      have hlt8 : w3.heap.size < w5.heap.size := by omega
      go_wp2_with fail
      have NH := neqHalves a b
      go_region
      go_wp2_with fail
      clear c0 c1 c2 a0 a1 a2 b0 b1 b2 hne3 hne4 hne5 hne6 hne7 hne8 NH
      refine Bag.region (fun wx => Below (w5.alloc (.cells #[.string a, .string b, .int .i64 0] 24)).heap.size (w5.alloc (.cells #[.string a, .string b, .int .i64 0] 24)) wx) (by kernel_rfl) (by kernel_rfl) (Below.refl _ _).drew.drew ?_
      iterate 22 (first
          | (apply Bag.walk_yes (by rfl)
             (intro wx hx K hK
              obtain ⟨hbx, r5, hlx⟩ := laid1 hx
              obtain ⟨c0, c1, c2⟩ := cells3 (show wx.heap[w.heap.size]? = some (.cells #[.string a, .string b, .int .i64 sx] 24 (0, 0)) from (hbx.block _ hlt7).trans r0')
              obtain ⟨a0, a1, a2⟩ := cells3 ((hbx.block _ hlt6).trans r4)
              obtain ⟨b0, b1, b2⟩ := cells3 r5
              first
                | (go_simp
                   first
                    | (go_at_call 15; refine (FU.out _).mono ?_; rintro e w' ⟨rfl, hb⟩; exact hK _ (hx.trans (hb.mono hx.size)))
                    | (go_at_call 8; refine (FN.out _).mono ?_; rintro e w' ⟨rfl, hb⟩; exact hK _ (hx.trans (hb.mono hx.size)))
                    | (go_at_K; exact hK _ hx)))
             rfl)
          | (refine Bag.walk_no (by rfl) ?_; simp only [Act.put, List.setIfInBounds_toArray, List.set_cons_succ, List.set_cons_zero]))
      refine Bag.walk_nil (fun w6 hB6 => ?_)
      go_wp2_with fail
      go_ret
      exact ⟨rfl, HB5.out.trans ((laid1 hB6).1.mono (by omega))⟩
    · rw [if_pos hz0] at FE FC
      have hzp : ¬ 0 < z := by omega
      clear hz0
      simp [ans, St.agg, St.put, St.cur] at FW FE FC FU
      go_enter Try.func5, Try.ntmps5
      go_wp2_with fail
      refine (FS.out _).mono ?_
      rintro e w1 ⟨rfl, hb⟩
      obtain ⟨hb, r0, r1, hlt⟩ := laid2 hb
      have HB := Lib.hid hb
      clear hb
      have f : ∀ i, w1.frozen? ⟨w.heap.size, i, none⟩ = false := fun i => frozen_of_row _ _ _ _ _ r0
      obtain ⟨c0, c1, c2⟩ := cells3 r0
      obtain ⟨d0, d1, d2⟩ := cells3 r1
      go_wp2_with fail
      clear c0 c1 c2
      have k2 := laidSet (i := 2) (v := .int .i64 sx) r0 (Below.refl _ _)
      have HB2 := Lib.hid (HB.out.setCell (p := ⟨w.heap.size, 2, none⟩) (Nat.le_refl _) (.int .i64 sx))
      generalize World.setCell w1 _ _ = w2 at *
      obtain ⟨-, r0', ho, hle⟩ := k2
      replace r1 := (ho _ hlt (by omega)).trans r1
      clear ho f d0 d1 d2 r0
      obtain ⟨c0, c1, c2⟩ := cells3 (show w2.heap[w.heap.size]? = some (.cells #[.string a, .string b, .int .i64 sx] 24 (0, 0)) from r0')
      obtain ⟨d0, d1, d2⟩ := cells3 r1
      have hlt := Nat.lt_of_lt_of_le hlt hle
      clear hle
      go_region
      go_wp2_with fail
      refine (FW.out _).mono ?_
      rintro e w3 ⟨rfl, hb⟩
      replace r0' := (hb.block w.heap.size (by show _ < w2.heap.size; omega)).trans r0'
      have hsz : w2.heap.size ≤ w3.heap.size := hb.size
      have HB3 := Lib.hid (HB2.out.drew.trans (hb.mono (B' := w.heap.size) (show w.heap.size ≤ w2.heap.size by omega)))
      clear hb c0 c1 c2 d0 d1 d2 r1
      obtain ⟨c0, c1, c2⟩ := cells3 (show w3.heap[w.heap.size]? = some (.cells #[.string a, .string b, .int .i64 sx] 24 (0, 0)) from r0')
      have hlt3 : w.heap.size < w3.heap.size := by omega
      have hne3 : ¬ w.heap.size = w3.heap.size := by omega
      go_wp2_with fail
      refine (FE.out _).mono ?_
      rintro e w4 ⟨rfl, hb⟩
      obtain ⟨hb, r3, hlt4⟩ := laid1 hb
      replace r0' := (hb.block w.heap.size hlt3).trans r0'
      have HB4 := Lib.hid (HB3.out.trans (hb.mono (by omega)))
      clear hb c0 c1 c2
      obtain ⟨c0, c1, c2⟩ := cells3 (show w4.heap[w.heap.size]? = some (.cells #[.string a, .string b, .int .i64 sx] 24 (0, 0)) from r0')
      have hne4 : ¬ w.heap.size = w4.heap.size := by omega
      have hne5 : ¬ w3.heap.size = w4.heap.size := by omega
      have hlt5 : w.heap.size < w4.heap.size := by omega
      go_wp2_with fail
      refine (FC.out _).mono ?_
      rintro e w5 ⟨rfl, hb⟩
      obtain ⟨hb, r4, hlt6⟩ := laid1 hb
      replace r0' := (hb.block w.heap.size (by omega)).trans r0'
      replace r3 := (hb.block _ hlt4).trans r3
      have HB5 := Lib.hid (HB4.out.trans (hb.mono (by omega)))
      clear hb c0 c1 c2
      obtain ⟨c0, c1, c2⟩ := cells3 (show w5.heap[w.heap.size]? = some (.cells #[.string a, .string b, .int .i64 sx] 24 (0, 0)) from r0')
      obtain ⟨a0, a1, a2⟩ := cells3 r3
      obtain ⟨b0, b1, b2⟩ := cells3 r4
      have hne6 : ¬ w.heap.size = w5.heap.size := by omega
      have hne7 : ¬ w3.heap.size = w5.heap.size := by omega
      have hne8 : ¬ w4.heap.size = w5.heap.size := by omega
      have hlt7 : w.heap.size < w5.heap.size := by omega
      have hlt8 : w3.heap.size < w5.heap.size := by omega
      go_wp2_with fail
      have NH := neqHalves a b
      go_region
      go_wp2_with fail
      clear c0 c1 c2 a0 a1 a2 b0 b1 b2 hne3 hne4 hne5 hne6 hne7 hne8 NH
      refine Bag.region (fun wx => Below (w5.alloc (.cells #[.string a, .string b, .int .i64 sx] 24)).heap.size (w5.alloc (.cells #[.string a, .string b, .int .i64 sx] 24)) wx) (by kernel_rfl) (by kernel_rfl) (Below.refl _ _).drew.drew ?_
      iterate 22 (first
          | (apply Bag.walk_yes (by rfl)
             (intro wx hx K hK
              obtain ⟨hbx, r5, hlx⟩ := laid1 hx
              obtain ⟨c0, c1, c2⟩ := cells3 (show wx.heap[w.heap.size]? = some (.cells #[.string a, .string b, .int .i64 sx] 24 (0, 0)) from (hbx.block _ hlt7).trans r0')
              obtain ⟨a0, a1, a2⟩ := cells3 ((hbx.block _ hlt6).trans r4)
              obtain ⟨b0, b1, b2⟩ := cells3 r5
              first
                | (go_simp
                   first
                    | (go_at_call 15; refine (FU.out _).mono ?_; rintro e w' ⟨rfl, hb⟩; exact hK _ (hx.trans (hb.mono hx.size)))
                    | (go_at_call 8; refine (FN.out _).mono ?_; rintro e w' ⟨rfl, hb⟩; exact hK _ (hx.trans (hb.mono hx.size)))
                    | (go_at_K; exact hK _ hx)))
             rfl)
          | (refine Bag.walk_no (by rfl) ?_; simp only [Act.put, List.setIfInBounds_toArray, List.set_cons_succ, List.set_cons_zero]))
      refine Bag.walk_nil (fun w6 hB6 => ?_)
      go_wp2_with fail
      go_ret
      exact ⟨rfl, HB5.out.trans ((laid1 hB6).1.mono (by omega))⟩
    · rw [if_neg hz0] at FE FC
      have hzp : 0 < z := by omega
      clear hz0
      simp [ans, St.agg, St.put, St.cur] at FW FE FC FU
      go_enter Try.func5, Try.ntmps5
      go_wp2_with fail
      refine (FS.out _).mono ?_
      rintro e w1 ⟨rfl, hb⟩
      obtain ⟨hb, r0, r1, hlt⟩ := laid2 hb
      have HB := Lib.hid hb
      clear hb
      have f : ∀ i, w1.frozen? ⟨w.heap.size, i, none⟩ = false := fun i => frozen_of_row _ _ _ _ _ r0
      obtain ⟨c0, c1, c2⟩ := cells3 r0
      obtain ⟨d0, d1, d2⟩ := cells3 r1
      go_wp2_with fail
      clear c0 c1 c2
      have k2 := laidSet (i := 2) (v := .int .i64 sx) r0 (Below.refl _ _)
      have HB2 := Lib.hid (HB.out.setCell (p := ⟨w.heap.size, 2, none⟩) (Nat.le_refl _) (.int .i64 sx))
      generalize World.setCell w1 _ _ = w2 at *
      obtain ⟨-, r0', ho, hle⟩ := k2
      replace r1 := (ho _ hlt (by omega)).trans r1
      clear ho f d0 d1 d2 r0
      obtain ⟨c0, c1, c2⟩ := cells3 (show w2.heap[w.heap.size]? = some (.cells #[.string a, .string b, .int .i64 sx] 24 (0, 0)) from r0')
      obtain ⟨d0, d1, d2⟩ := cells3 r1
      have hlt := Nat.lt_of_lt_of_le hlt hle
      clear hle
      go_region
      go_wp2_with fail
      refine (FW.out _).mono ?_
      rintro e w3 ⟨rfl, hb⟩
      replace r0' := (hb.block w.heap.size (by show _ < w2.heap.size; omega)).trans r0'
      have hsz : w2.heap.size ≤ w3.heap.size := hb.size
      have HB3 := Lib.hid (HB2.out.drew.trans (hb.mono (B' := w.heap.size) (show w.heap.size ≤ w2.heap.size by omega)))
      clear hb c0 c1 c2 d0 d1 d2 r1
      obtain ⟨c0, c1, c2⟩ := cells3 (show w3.heap[w.heap.size]? = some (.cells #[.string a, .string b, .int .i64 sx] 24 (0, 0)) from r0')
      have hlt3 : w.heap.size < w3.heap.size := by omega
      have hne3 : ¬ w.heap.size = w3.heap.size := by omega
      go_wp2_with fail
      refine (FE.out _).mono ?_
      rintro e w4 ⟨rfl, hb⟩
      obtain ⟨hb, r3, hlt4⟩ := laid1 hb
      replace r0' := (hb.block w.heap.size hlt3).trans r0'
      have HB4 := Lib.hid (HB3.out.trans (hb.mono (by omega)))
      clear hb c0 c1 c2
      obtain ⟨c0, c1, c2⟩ := cells3 (show w4.heap[w.heap.size]? = some (.cells #[.string a, .string b, .int .i64 sx] 24 (0, 0)) from r0')
      have hne4 : ¬ w.heap.size = w4.heap.size := by omega
      have hne5 : ¬ w3.heap.size = w4.heap.size := by omega
      have hlt5 : w.heap.size < w4.heap.size := by omega
      go_wp2_with fail
      refine (FC.out _).mono ?_
      rintro e w5 ⟨rfl, hb⟩
      obtain ⟨hb, r4, hlt6⟩ := laid1 hb
      replace r0' := (hb.block w.heap.size (by omega)).trans r0'
      replace r3 := (hb.block _ hlt4).trans r3
      have HB5 := Lib.hid (HB4.out.trans (hb.mono (by omega)))
      clear hb c0 c1 c2
      obtain ⟨c0, c1, c2⟩ := cells3 (show w5.heap[w.heap.size]? = some (.cells #[.string a, .string b, .int .i64 sx] 24 (0, 0)) from r0')
      obtain ⟨a0, a1, a2⟩ := cells3 r3
      obtain ⟨b0, b1, b2⟩ := cells3 r4
      have hne6 : ¬ w.heap.size = w5.heap.size := by omega
      have hne7 : ¬ w3.heap.size = w5.heap.size := by omega
      have hne8 : ¬ w4.heap.size = w5.heap.size := by omega
      have hlt7 : w.heap.size < w5.heap.size := by omega
      have hlt8 : w3.heap.size < w5.heap.size := by omega
      go_wp2_with fail
      have NH := neqHalves a b
      go_region
      go_wp2_with fail
      clear c0 c1 c2 a0 a1 a2 b0 b1 b2 hne3 hne4 hne5 hne6 hne7 hne8 NH
      refine Bag.region (fun wx => Below (w5.alloc (.cells #[.string a, .string b, .int .i64 1] 24)).heap.size (w5.alloc (.cells #[.string a, .string b, .int .i64 1] 24)) wx) (by kernel_rfl) (by kernel_rfl) (Below.refl _ _).drew.drew ?_
      iterate 22 (first
          | (apply Bag.walk_yes (by rfl)
             (intro wx hx K hK
              obtain ⟨hbx, r5, hlx⟩ := laid1 hx
              obtain ⟨c0, c1, c2⟩ := cells3 (show wx.heap[w.heap.size]? = some (.cells #[.string a, .string b, .int .i64 sx] 24 (0, 0)) from (hbx.block _ hlt7).trans r0')
              obtain ⟨a0, a1, a2⟩ := cells3 ((hbx.block _ hlt6).trans r4)
              obtain ⟨b0, b1, b2⟩ := cells3 r5
              first
                | (go_simp
                   first
                    | (go_at_call 15; refine (FU.out _).mono ?_; rintro e w' ⟨rfl, hb⟩; exact hK _ (hx.trans (hb.mono hx.size)))
                    | (go_at_call 8; refine (FN.out _).mono ?_; rintro e w' ⟨rfl, hb⟩; exact hK _ (hx.trans (hb.mono hx.size)))
                    | (go_at_K; exact hK _ hx)))
             rfl)
          | (refine Bag.walk_no (by rfl) ?_; simp only [Act.put, List.setIfInBounds_toArray, List.set_cons_succ, List.set_cons_zero]))
      refine Bag.walk_nil (fun w6 hB6 => ?_)
      go_wp2_with fail
      go_ret
      exact ⟨rfl, HB5.out.trans ((laid1 hB6).1.mono (by omega))⟩
  · rcases Bool.eq_false_or_eq_true (shortB ⟨a, b, sel⟩) with hS | hS
    · have hd5' : decide (500 < (d.size : Int)) = true := by
        have : ¬ d.size ≤ 500 := fun h => hs ⟨hS, h⟩
        simp; omega
      rw [hS] at FS
      clear hs hS
      go_enter Try.func5, Try.ntmps5
      go_wp2_with fail
      refine (FS.out _).mono ?_
      rintro e w1 ⟨rfl, hb⟩
      obtain ⟨hb, r0, r1, hlt⟩ := laid2 hb
      have HB := Lib.hid hb
      clear hb
      go_wp2_with fail
      refine (FN.out _).mono ?_
      rintro e w2 ⟨rfl, hb⟩
      have HB2 := Lib.hid (HB.out.trans (hb.mono (by omega)))
      go_wp2_with fail
      go_ret
      exact ⟨rfl, HB2.out⟩
    · rw [hS] at FS
      clear hs hS
      go_enter Try.func5, Try.ntmps5
      go_wp2_with fail
      refine (FS.out _).mono ?_
      rintro e w1 ⟨rfl, hb⟩
      obtain ⟨hb, r0, r1, hlt⟩ := laid2 hb
      have HB := Lib.hid hb
      clear hb
      go_wp2_with fail
      refine (FN.out _).mono ?_
      rintro e w2 ⟨rfl, hb⟩
      have HB2 := Lib.hid (HB.out.trans (hb.mono (by omega)))
      go_wp2_with fail
      go_ret
      exact ⟨rfl, HB2.out⟩
set_option maxRecDepth 100000 in
theorem lawStoreKeeps_lifted (os : Os) (started : os.Started) (H : Type) (enc : TypeId × Value → H) :
    ReturnsInHanded {} Try.checked os 5 .any (Rows.storeKeepsSpec.pre6 enc Try.prog Try.f5 Rows.storeKeepsRow.domain false) (Rows.storeKeepsSpec.post enc Try.prog Try.f5 false true false false) := by
  refine returnsInHanded_of_change (C := Try.checked) own started (by kernel_rfl) Try.func5
    (ChangeSpec.witness6 (enc := enc) (C := Try.checked) false ⟨#[], #[.agg #[.string ⟨#[]⟩, .string ⟨#[]⟩, .int .i64 0], .string ⟨#[]⟩, .agg #[.int .u8 0, .int .u8 0, .int .u8 0]], []⟩ 8 (by kernel_rfl) (by kernel_rfl) (by kernel_rfl) (by kernel_rfl)) ?_
  intro W base args ds gs before hval0 hW hcnd _
  have hval : ∀ (j : Nat) t v, Try.f5.params[j]? = some t → args[j]? = some v → Value.okWide Try.prog W .any base t v := hval0
  have hW' := hW
  obtain ⟨p, q, hA0, hV, rfl, hfz, hnd⟩ := hW
  have hA : DataW.TrodAll enc Try.prog W 0 (fun _ => true) true Try.f5.params.toList args.toList ds p := hA0
  rw [Try.params5] at hA hval
  obtain ⟨v0, vs0, d0, ds0, p0, q0, hargs, rfl, rfl, h0, r0⟩ := trodAll_cons hA
  obtain ⟨v1, vs1, d1, ds1, p1, q1, rfl, rfl, rfl, h1, r1⟩ := trodAll_cons r0
  obtain ⟨v2, vs2, d2, ds2, p2, q2, rfl, rfl, rfl, h2, r2⟩ := trodAll_cons r1
  obtain ⟨rfl, rfl, rfl⟩ := trodAll_nil r2
  obtain rfl : args = #[v0, v1, v2] := by cases args; simp_all
  obtain ⟨rfl, rfl⟩ := trodVars_none hV
  have k0 := h0
  have lt0 : ∀ x ∈ p0, x.block < W.heap.size := by obtain ⟨m, hm⟩ := k0; exact DataW.trod_lt m _ _ _ hm
  obtain ⟨x0, rfl, g0, m0, n0⟩ := open_st (hval 0 24 v0 rfl rfl) h0
  obtain ⟨x1, rfl, rfl, rfl, g1⟩ := ChangeMaps.open_string Try.underlying9 (hval 1 9 v1 rfl rfl) h1
  have k2 := h2
  have lt2 : ∀ x ∈ p2, x.block < W.heap.size := by obtain ⟨m, hm⟩ := k2; exact DataW.trod_lt m _ _ _ hm
  obtain ⟨x2, y2, z2, rfl, g2, m2, n2⟩ := open_au8_3 (hval 2 41 v2 rfl rfl) h2
  clear hA0 hval0
  refine (lawStoreKeeps_walk x0 x1 x2 y2 z2 W g0 m0 n0 g1 g2 m2 n2).mono fun e W' ⟨he, bel⟩ => ?_
  subst he
  exact ⟨_, rfl, _, _, _, [], _, [], hW', trodAll_mk1 (shut_bool Try.underlying4 _), (trodAll_cons_mk (Below.trod laidOut (by kernel_rfl) (of_decide_eq_true (by kernel_rfl)) k0 bel lt0) (trodAll_cons_mk (ChangeMaps.shut_string Try.underlying9 g1) (trodAll_cons_mk (Below.trod laidOut (by kernel_rfl) (of_decide_eq_true (by kernel_rfl)) k2 bel lt2) trodAll_mk0))), rfl, bel.frame _, fun h => by cases h⟩

theorem lawStoreKeeps_over : Rows.storeKeepsRow.holds Try.pinned (OpenSpec.ofChange Rows.storeKeepsSpec) :=
  OpenClaim.holds_of_wide 5 Try.f5 rfl rfl rfl rfl rfl rfl rfl ⟨rfl, rfl, rfl, rfl, rfl⟩ rfl rfl rfl rfl rfl (by kernel_rfl) Try.func5 (by kernel_rfl)
    (of_decide_eq_true (by kernel_rfl)) (by unfold Func.isWrapper; first | (rw [if_pos (by decide +kernel)]; kernel_rfl) | (rw [if_neg (by decide +kernel)]; exact ⟨rfl, rfl⟩))
    (fun os started H enc _ => lawStoreKeeps_lifted os started H enc)

theorem storeKeeps_holds : Rows.StoreKeepsSaid := lawStoreKeeps_over
#print axioms storeKeeps_holds

end Go.Proofs.Ytanodbpeeahmaaa
