/- The statement StoreRuns. -/
import Derived.Test.YtanodbpeeahmaaaStOpen
import Derived.Deep.CutRange
import Derived.Deep.CutBlock
namespace Go.Proofs.Ytanodbpeeahmaaa
open Go.RowKit Go.ChangeShapes Go.WideShapes Go.Deep St

/-- What the loop knows: both stores, side by side. -/
structure RunM (w : World) (s t : St) (wx : World) : Prop where
  below : Below w.heap.size w wx
  rs : wx.heap[w.heap.size]? = some (.cells #[.string s.a, .string s.b, .int .i64 s.sel] 24 (0, 0))
  rt : wx.heap[w.heap.size + 1]? = some (.cells #[.string t.a, .string t.b, .int .i64 t.sel] 24 (0, 0))
theorem RunM.sz {w wx : World} {s t : St} (h : RunM w s t wx) : w.heap.size + 1 < wx.heap.size := (Array.getElem?_eq_some_iff.1 h.rt).1
theorem RunM.next {w wx w2 : World} {s t : St} (h : RunM w s t wx) (hb : Below wx.heap.size wx w2) : RunM w s t w2 := by
  have hz := h.sz
  exact ⟨h.below.trans (hb.mono (by omega)), (hb.block _ (by omega)).trans h.rs, (hb.block _ (by omega)).trans h.rt⟩
theorem RunM.drew {w wx : World} {s t : St} (h : RunM w s t wx) : RunM w s t wx.drew := ⟨h.below.drew, h.rs, h.rt⟩
/-- Bounds of a store. -/
structure SB (s : St) (n : Nat) : Prop where
  a : s.a.size ≤ n
  b : s.b.size ≤ n
  sel : s.sel = 0 ∨ s.sel = 1
theorem SB.mono {s : St} {n m : Nat} (h : SB s n) (hm : n ≤ m) : SB s m := ⟨Nat.le_trans h.a hm, Nat.le_trans h.b hm, h.sel⟩
theorem SB.isB {s : St} {n : Nat} (h : SB s n) (hn : n ≤ 600) : isB 700 s = true := by
  obtain ⟨h1, h2, h3⟩ := h
  unfold St.isB
  simp
  omega
theorem SB.chk {s : St} {n : Nat} (h : SB s n) (hn : n ≤ 600) {x z : Int} (hx : x = 0 ∨ x = 1) (hz : 0 ≤ z) : chk 700 s x z = 0 := by
  unfold St.chk
  rw [h.isB hn, if_neg (by decide), if_neg (by omega)]
theorem SB.get {s : St} {n : Nat} (h : SB s n) (x : Int) : (s.get x).size ≤ n := by
  unfold St.get
  split
  · exact h.b
  · exact h.a
theorem SB.put {s : St} {n m : Nat} (h : SB s n) (x : Int) {z : ByteArray} (hz : z.size ≤ m) (hm : n ≤ m) : SB (s.put x z) m := by
  unfold St.put
  split
  · exact ⟨Nat.le_trans h.a hm, hz, h.sel⟩
  · exact ⟨hz, Nat.le_trans h.b hm, h.sel⟩
theorem SB.write {s : St} {n : Nat} (h : SB s n) (hn : n ≤ 600) {x : Int} (hx : x = 0 ∨ x = 1) (u : Nat) {d : ByteArray} (hd : d.size ≤ 30) :
    writeF 700 s x d u = if (u : Int) < d.size then (s.put x (s.get x ++ d.extract 0 u), 0, 8) else (s.put x (s.get x ++ d), (u : Int) - d.size, 0) := by
  have hg := h.get x
  unfold writeF
  rw [if_pos (h.chk hn hx (by omega)), if_neg (by omega)]
  rfl
theorem SB.erase {s : St} {n : Nat} (h : SB s n) (hn : n ≤ 600) {x : Int} (hx : x = 0 ∨ x = 1) (u : Nat) :
    eraseF 700 s x u = if (u : Int) = 0 then (s, 0, 8) else (s.put x ⟨#[]⟩, (u : Int) - 1, 0) := by
  unfold eraseF
  rw [if_pos (h.chk hn hx (by omega))]
theorem SB.choose {s : St} {n : Nat} (h : SB s n) (hn : n ≤ 600) {x : Int} (hx : x = 0 ∨ x = 1) (u : Nat) :
    chooseF 700 s x u = if (u : Int) = 0 then (s, 0, 8) else (⟨s.a, s.b, x⟩, (u : Int) - 1, 0) := by
  unfold chooseF
  rw [if_pos (h.chk hn hx (by omega))]

theorem row_set {wx : World} {g i : Nat} {T : TypeId} {cs : Array Value} {v : Value} (r : wx.heap[g]? = some (.cells cs T (0, 0))) : (wx.setCell ⟨g, i, none⟩ v).heap[g]? = some (.cells (cs.setIfInBounds i v) T (0, 0)) := by
  simp [World.setCell, Array.getElem?_modify, r]
theorem RunM.setS {w wx : World} {s t : St} (h : RunM w s t wx) (a b : ByteArray) (x : Int) : RunM w ⟨a, b, x⟩ t (((wx.setCell ⟨w.heap.size, 0, none⟩ (.string a)).setCell ⟨w.heap.size, 1, none⟩ (.string b)).setCell ⟨w.heap.size, 2, none⟩ (.int .i64 x)) := by
  have hne : w.heap.size + 1 ≠ w.heap.size := by omega
  refine ⟨((h.below.setCell (p := ⟨w.heap.size, 0, none⟩) (Nat.le_refl _) _).setCell (p := ⟨w.heap.size, 1, none⟩) (Nat.le_refl _) _).setCell (p := ⟨w.heap.size, 2, none⟩) (Nat.le_refl _) _, row_set (row_set (row_set h.rs)), ?_⟩
  exact ((Below.heap_setCell _ ⟨w.heap.size, 2, none⟩ _ _ hne).trans ((Below.heap_setCell _ ⟨w.heap.size, 1, none⟩ _ _ hne).trans (Below.heap_setCell _ ⟨w.heap.size, 0, none⟩ _ _ hne))).trans h.rt
theorem RunM.setT {w wx : World} {s t : St} (h : RunM w s t wx) (i : Nat) (v : Value) (t' : St) (e : (#[.string t.a, .string t.b, .int .i64 t.sel] : Array Value).setIfInBounds i v = #[.string t'.a, .string t'.b, .int .i64 t'.sel]) : RunM w s t' (wx.setCell ⟨w.heap.size + 1, i, none⟩ v) := by
  have hne : w.heap.size ≠ w.heap.size + 1 := by omega
  exact ⟨h.below.setCell (p := ⟨w.heap.size + 1, i, none⟩) (Nat.le_succ _) _, (Below.heap_setCell _ ⟨w.heap.size + 1, i, none⟩ _ _ hne).trans h.rs, e ▸ row_set h.rt⟩
theorem SB.erase0 {a b : ByteArray} {z : Int} {n m : Nat} (h : SB ⟨a, b, z⟩ n) (hm : n ≤ m) : SB ⟨⟨#[]⟩, b, z⟩ m := ⟨Nat.zero_le _, Nat.le_trans h.b hm, h.sel⟩
theorem SB.erase1 {a b : ByteArray} {z : Int} {n m : Nat} (h : SB ⟨a, b, z⟩ n) (hm : n ≤ m) : SB ⟨a, ⟨#[]⟩, z⟩ m := ⟨Nat.le_trans h.a hm, Nat.zero_le _, h.sel⟩
/-- What the switch leaves. -/
def Left (S' : St) (i : Nat) (v9 v10 v14 : Value) : Prop :=
  (∃ u' : Nat, v9 = .int .i64 u' ∧ v10 = .int .i64 u' ∧ v14 = .int .i64 0 ∧ u' ≤ 255 ∧ SB S' (30 * (i + 1))) ∨ (∃ n : Int, v9 = .int .i64 0 ∧ v10 = .int .i64 n ∧ v14 = .int .i64 8 ∧ n < 0 ∧ -300 ≤ n)
/-- A write, in one form. -/
theorem SB.write' {s : St} {n : Nat} (h : SB s n) (hn : n ≤ 600) {x : Int} (hx : x = 0 ∨ x = 1) (u : Nat) {d : ByteArray} (hd : d.size ≤ 30) :
    ∃ L E, writeF 700 s x d u = (s.put x (s.get x ++ d.extract 0 (min d.size u)), L, E) ∧ ((d.size ≤ u ∧ L = (u : Int) - d.size ∧ E = 0) ∨ (u < d.size ∧ L = 0 ∧ E = 8)) := by
  rw [h.write hn hx u hd]
  by_cases hu : u < d.size
  · rw [if_pos (by omega), Nat.min_eq_right (Nat.le_of_lt hu)]
    exact ⟨_, _, rfl, .inr ⟨hu, rfl, rfl⟩⟩
  · rw [if_neg (by omega), Nat.min_eq_left (by omega), ba_all]
    exact ⟨_, _, rfl, .inl ⟨by omega, rfl, rfl⟩⟩

set_option maxRecDepth 100000 in
set_option maxHeartbeats 40000000 in
theorem lawStoreRuns_walk (v0 : Value) (l : List ByteArray) (v1 : Value) (x : List Nat) (bud : Int) (w : World) (g0 : VV w v0 (strs l)) (_ : ∀ s ∈ l, s.size ≤ maxLen) (m0 : l.length ≤ maxLen) (g1 : VV w v1 (u8s x)) (n1 : ∀ s ∈ x, s < 256) (m1 : x.length ≤ maxLen) (hbd : (Lit.int .u8 bud).wf = true) :
    Calls Try.prog 6 #[v0, v1, .int .u8 bud] w fun e w' => e = .returned (.bool true) ∧ Below w.heap.size w w' := by
  have FN := Lib.hid (fun w => sane_any w)
  obtain ⟨B, rfl, hB⟩ := u8_nat hbd
  obtain ⟨A, ca, rfl, hA⟩ := g0
  obtain ⟨A', cx, rfl, hA'⟩ := g1
  rw [strs_len]
  rw [u8s_len]
  have HA := Lib.hid hA
  have HX := Lib.hid hA'
  have HN1 := Lib.hid n1
  clear hA hA' n1 hbd
  unfold maxLen at m0 m1
  go_enter Try.func6, Try.ntmps6
  go_wp2_with fail
  go_loopw [9, 10, 11] (fun v9 v10 v11 wr => ∃ (i u : Nat) (S : St), i ≤ 20 ∧ i ≤ l.length ∧ i ≤ x.length ∧ v9 = .int .i64 u ∧ v10 = .int .i64 u ∧ v11 = .int .i64 i ∧ u ≤ 255 ∧ SB S (30 * i) ∧ RunM w S S wr) (fun _ _ v11 _ => 20 - (intOf v11).toNat)
  case atStart =>
    have hl := laid2 (w := w) (A := .cells #[.string ⟨#[]⟩, .string ⟨#[]⟩, .int .i64 0] 24) (B := .cells #[.string ⟨#[]⟩, .string ⟨#[]⟩, .int .i64 0] 24) (Below.refl _ _)
    exact ⟨0, B, zero, by omega, by omega, by omega, rfl, rfl, rfl, by omega, ⟨by decide, by decide, .inl rfl⟩, ⟨hl.1, hl.2.1, hl.2.2.1⟩⟩
  case round =>
    obtain ⟨i, u, S, hi20, hil, hix, rfl, rfl, rfl, hu, hS, hm⟩ := hrel
    have hz := hm.sz
    by_cases hlt : i < l.length ∧ i < x.length ∧ i < 20
    · obtain ⟨h1, h2, h3⟩ := hlt
      have t1 : decide ((i : Int) < (l.length : Int)) = true := decide_eq_true (by omega)
      have t1' : decide (i < l.length) = true := decide_eq_true h1
      have t2 : decide ((i : Int) < (x.length : Int)) = true := decide_eq_true (by omega)
      have t2' : decide (i < x.length) = true := decide_eq_true h2
      have t3 : decide ((i : Int) < 20) = true := decide_eq_true (by omega)
      have t3' : decide (i < 20) = true := decide_eq_true h3
      obtain ⟨b1, o1, rfl, hb1, hc1⟩ := HA.out.at_ (k := i) (by rw [strs_len]; exact h1)
      obtain ⟨b2, o2, rfl, hb2, hc2⟩ := HX.out.at_ (k := i) (by rw [u8s_len]; exact h2)
      have c1 : wr.cell? ⟨b1, o1 + i, none⟩ = some (.string l[i]) := (hm.below.cell (p := ⟨b1, o1 + i, none⟩) hb1).trans (hc1.trans (by simp [strs]))
      have c2 : wr.cell? ⟨b2, o2 + i, none⟩ = some (.int .u8 (x[i] : Nat)) := (hm.below.cell (p := ⟨b2, o2 + i, none⟩) hb2).trans (hc2.trans (by simp [u8s]))
      have hxi : x[i] < 256 := HN1.out _ (List.getElem_mem h2)
      have HM := Lib.hid hm
      have HS := Lib.hid hS
      clear hm hS hc1 hc2
      generalize l[i] = li at *
      generalize x[i] = xi at *
      obtain ⟨h, hh, hh2⟩ : ∃ h : Int, (xi : Int) % 2 = h ∧ (h = 0 ∨ h = 1) := ⟨_, rfl, by omega⟩
      go_upto_region 7 with fail
      go_cut [13] from 22 to 148 (fun v13 wx => ∃ D : ByteArray, v13 = .string D ∧ D.size ≤ 30 ∧ RunM w S S wx ∧ wx.cell? ⟨b2, o2 + i, none⟩ = some (.int .u8 xi))
      case first =>
        by_cases hq : 30 < li.size
        · have hq1 : (30 : Int) < li.size := by omega
          have hq2 : (30 : Int) ≤ li.size := by omega
          have hq3 : min (li.size : Int) 30 = 30 := by omega
          go_region
          all_goals
            go_wp2_with fail
            go_meet
            exact ⟨_, rfl, by rw [ba_csize]; omega, HM.out.drew, c2⟩
        · have hq1 : ¬ (30 : Int) < li.size := by omega
          have hall : li.extract 0 li.size = li := ba_all li
          have hq2 : (0 : Int) ≤ li.size := by omega
          have hq3 : min (li.size : Int) 30 = li.size := by omega
          go_region
          all_goals
            go_wp2_with fail
            go_meet
            exact ⟨_, rfl, by omega, HM.out.drew, c2⟩
      case rest =>
        obtain ⟨D, rfl, hD, hm, c2⟩ := hcut
        have hz := hm.sz
        have HM := Lib.hid hm
        clear hm c1 HA HX
        obtain ⟨a0, a1, a2⟩ := cells3 HM.out.rs
        obtain ⟨e0, e1, e2⟩ := cells3 HM.out.rt
        obtain ⟨Sa, Sb, Ss⟩ := S
        obtain ⟨c, hc, hc4⟩ : ∃ c : Int, (xi : Int) / 2 % 4 = c ∧ (c = 0 ∨ c = 1 ∨ (c ≠ 0 ∧ c ≠ 1)) := ⟨_, rfl, by omega⟩
        go_upto_block 2 with fail
        go_cut [9, 10, 14, 15] from 22 to 148 (fun v9 v10 v14 _ wx => ∃ S' : St, RunM w S' S' wx ∧ Left S' i v9 v10 v14)
        case first =>
          rcases hc4 with rfl | rfl | ⟨hc0, hc1⟩
          · have FE := Lib.hid (fun w => erase_any 700 ⟨Sa, Sb, Ss⟩ h u w (by constructor <;> omega))
            rw [HS.out.erase (by omega) hh2 u] at FE
            rcases hh2 with rfl | rfl
            · by_cases hu0 : u = 0
              · subst hu0
                rw [show ((0 : Nat) : Int) = 0 from rfl, if_pos rfl] at FE
                simp only [ans, St.agg] at FE
                go_wp2_with fail
                refine (FE.out _).mono ?_
                rintro e v1 ⟨rfl, hb⟩
                have hm1 := HM.out.next hb
                have H1 := Lib.hid hm1
                clear hb a0 a1 a2 e0 e1 e2
                obtain ⟨a0, a1, a2⟩ := cells3 hm1.rs
                obtain ⟨e0, e1, e2⟩ := cells3 hm1.rt
                have fs : ∀ i, v1.frozen? ⟨w.heap.size, i, none⟩ = false := fun i => frozen_of_row _ _ _ _ _ hm1.rs
                have ft : ∀ i, v1.frozen? ⟨w.heap.size + 1, i, none⟩ = false := fun i => frozen_of_row _ _ _ _ _ hm1.rt
                clear hm1
                go_wp2_with fail
                go_meet
                exact ⟨⟨Sa, Sb, Ss⟩, H1.out.setS Sa Sb Ss, .inr ⟨-1, rfl, rfl, rfl, by omega, by omega⟩⟩
              · obtain ⟨u', rfl⟩ : ∃ u', u = u' + 1 := ⟨u - 1, by omega⟩
                rw [if_neg (by omega), show ((u' + 1 : Nat) : Int) - 1 = u' by omega] at FE
                simp only [ans, St.agg, St.put] at FE
                simp at FE
                have hup : (0 : Int) < ((u' + 1 : Nat) : Int) := by omega
                have hup1 : IntKind.i64.wrap (((u' + 1 : Nat) : Int) - 1) = u' := by rw [IntKind.wrap_i64]; omega
                go_wp2_with fail
                refine (FE.out _).mono ?_
                rintro e v1 ⟨rfl, hb⟩
                have hm1 := HM.out.next hb
                have H1 := Lib.hid hm1
                clear hb a0 a1 a2 e0 e1 e2
                obtain ⟨a0, a1, a2⟩ := cells3 hm1.rs
                obtain ⟨e0, e1, e2⟩ := cells3 hm1.rt
                have fs : ∀ i, v1.frozen? ⟨w.heap.size, i, none⟩ = false := fun i => frozen_of_row _ _ _ _ _ hm1.rs
                have ft : ∀ i, v1.frozen? ⟨w.heap.size + 1, i, none⟩ = false := fun i => frozen_of_row _ _ _ _ _ hm1.rt
                clear hm1
                go_wp2_with fail
                go_meet
                exact ⟨⟨⟨#[]⟩, Sb, Ss⟩, (H1.out.setS ⟨#[]⟩ Sb Ss).setT 0 (.string ⟨#[]⟩) ⟨⟨#[]⟩, Sb, Ss⟩ rfl, .inl ⟨u', rfl, by simp, rfl, by omega, HS.out.erase0 (by omega)⟩⟩
            · by_cases hu0 : u = 0
              · subst hu0
                rw [show ((0 : Nat) : Int) = 0 from rfl, if_pos rfl] at FE
                simp only [ans, St.agg] at FE
                go_wp2_with fail
                refine (FE.out _).mono ?_
                rintro e v1 ⟨rfl, hb⟩
                have hm1 := HM.out.next hb
                have H1 := Lib.hid hm1
                clear hb a0 a1 a2 e0 e1 e2
                obtain ⟨a0, a1, a2⟩ := cells3 hm1.rs
                obtain ⟨e0, e1, e2⟩ := cells3 hm1.rt
                have fs : ∀ i, v1.frozen? ⟨w.heap.size, i, none⟩ = false := fun i => frozen_of_row _ _ _ _ _ hm1.rs
                have ft : ∀ i, v1.frozen? ⟨w.heap.size + 1, i, none⟩ = false := fun i => frozen_of_row _ _ _ _ _ hm1.rt
                clear hm1
                go_wp2_with fail
                go_meet
                exact ⟨⟨Sa, Sb, Ss⟩, H1.out.setS Sa Sb Ss, .inr ⟨-1, rfl, rfl, rfl, by omega, by omega⟩⟩
              · obtain ⟨u', rfl⟩ : ∃ u', u = u' + 1 := ⟨u - 1, by omega⟩
                rw [if_neg (by omega), show ((u' + 1 : Nat) : Int) - 1 = u' by omega] at FE
                simp only [ans, St.agg, St.put] at FE
                simp at FE
                have hup : (0 : Int) < ((u' + 1 : Nat) : Int) := by omega
                have hup1 : IntKind.i64.wrap (((u' + 1 : Nat) : Int) - 1) = u' := by rw [IntKind.wrap_i64]; omega
                go_wp2_with fail
                refine (FE.out _).mono ?_
                rintro e v1 ⟨rfl, hb⟩
                have hm1 := HM.out.next hb
                have H1 := Lib.hid hm1
                clear hb a0 a1 a2 e0 e1 e2
                obtain ⟨a0, a1, a2⟩ := cells3 hm1.rs
                obtain ⟨e0, e1, e2⟩ := cells3 hm1.rt
                have fs : ∀ i, v1.frozen? ⟨w.heap.size, i, none⟩ = false := fun i => frozen_of_row _ _ _ _ _ hm1.rs
                have ft : ∀ i, v1.frozen? ⟨w.heap.size + 1, i, none⟩ = false := fun i => frozen_of_row _ _ _ _ _ hm1.rt
                clear hm1
                go_wp2_with fail
                go_meet
                exact ⟨⟨Sa, ⟨#[]⟩, Ss⟩, (H1.out.setS Sa ⟨#[]⟩ Ss).setT 1 (.string ⟨#[]⟩) ⟨Sa, ⟨#[]⟩, Ss⟩ rfl, .inl ⟨u', rfl, by simp, rfl, by omega, HS.out.erase1 (by omega)⟩⟩
          · have FE := Lib.hid (fun w => choose_any 700 ⟨Sa, Sb, Ss⟩ h u w (by constructor <;> omega))
            rw [HS.out.choose (by omega) hh2 u] at FE
            rcases hh2 with rfl | rfl
            · by_cases hu0 : u = 0
              · subst hu0
                rw [show ((0 : Nat) : Int) = 0 from rfl, if_pos rfl] at FE
                simp only [ans, St.agg] at FE
                go_wp2_with fail
                refine (FE.out _).mono ?_
                rintro e v1 ⟨rfl, hb⟩
                have hm1 := HM.out.next hb
                have H1 := Lib.hid hm1
                clear hb a0 a1 a2 e0 e1 e2
                obtain ⟨a0, a1, a2⟩ := cells3 hm1.rs
                obtain ⟨e0, e1, e2⟩ := cells3 hm1.rt
                have fs : ∀ i, v1.frozen? ⟨w.heap.size, i, none⟩ = false := fun i => frozen_of_row _ _ _ _ _ hm1.rs
                have ft : ∀ i, v1.frozen? ⟨w.heap.size + 1, i, none⟩ = false := fun i => frozen_of_row _ _ _ _ _ hm1.rt
                clear hm1
                go_wp2_with fail
                go_meet
                exact ⟨⟨Sa, Sb, Ss⟩, H1.out.setS Sa Sb Ss, .inr ⟨-1, rfl, rfl, rfl, by omega, by omega⟩⟩
              · obtain ⟨u', rfl⟩ : ∃ u', u = u' + 1 := ⟨u - 1, by omega⟩
                rw [if_neg (by omega), show ((u' + 1 : Nat) : Int) - 1 = u' by omega] at FE
                simp only [ans, St.agg] at FE
                skip
                have hup : (0 : Int) < ((u' + 1 : Nat) : Int) := by omega
                have hup1 : IntKind.i64.wrap (((u' + 1 : Nat) : Int) - 1) = u' := by rw [IntKind.wrap_i64]; omega
                go_wp2_with fail
                refine (FE.out _).mono ?_
                rintro e v1 ⟨rfl, hb⟩
                have hm1 := HM.out.next hb
                have H1 := Lib.hid hm1
                clear hb a0 a1 a2 e0 e1 e2
                obtain ⟨a0, a1, a2⟩ := cells3 hm1.rs
                obtain ⟨e0, e1, e2⟩ := cells3 hm1.rt
                have fs : ∀ i, v1.frozen? ⟨w.heap.size, i, none⟩ = false := fun i => frozen_of_row _ _ _ _ _ hm1.rs
                have ft : ∀ i, v1.frozen? ⟨w.heap.size + 1, i, none⟩ = false := fun i => frozen_of_row _ _ _ _ _ hm1.rt
                clear hm1
                go_wp2_with fail
                go_meet
                exact ⟨⟨Sa, Sb, 0⟩, (H1.out.setS Sa Sb 0).setT 2 (.int .i64 0) ⟨Sa, Sb, 0⟩ rfl, .inl ⟨u', rfl, by simp, rfl, by omega, ⟨Nat.le_trans HS.out.a (by omega), Nat.le_trans HS.out.b (by omega), .inl rfl⟩⟩⟩
            · by_cases hu0 : u = 0
              · subst hu0
                rw [show ((0 : Nat) : Int) = 0 from rfl, if_pos rfl] at FE
                simp only [ans, St.agg] at FE
                go_wp2_with fail
                refine (FE.out _).mono ?_
                rintro e v1 ⟨rfl, hb⟩
                have hm1 := HM.out.next hb
                have H1 := Lib.hid hm1
                clear hb a0 a1 a2 e0 e1 e2
                obtain ⟨a0, a1, a2⟩ := cells3 hm1.rs
                obtain ⟨e0, e1, e2⟩ := cells3 hm1.rt
                have fs : ∀ i, v1.frozen? ⟨w.heap.size, i, none⟩ = false := fun i => frozen_of_row _ _ _ _ _ hm1.rs
                have ft : ∀ i, v1.frozen? ⟨w.heap.size + 1, i, none⟩ = false := fun i => frozen_of_row _ _ _ _ _ hm1.rt
                clear hm1
                go_wp2_with fail
                go_meet
                exact ⟨⟨Sa, Sb, Ss⟩, H1.out.setS Sa Sb Ss, .inr ⟨-1, rfl, rfl, rfl, by omega, by omega⟩⟩
              · obtain ⟨u', rfl⟩ : ∃ u', u = u' + 1 := ⟨u - 1, by omega⟩
                rw [if_neg (by omega), show ((u' + 1 : Nat) : Int) - 1 = u' by omega] at FE
                simp only [ans, St.agg] at FE
                skip
                have hup : (0 : Int) < ((u' + 1 : Nat) : Int) := by omega
                have hup1 : IntKind.i64.wrap (((u' + 1 : Nat) : Int) - 1) = u' := by rw [IntKind.wrap_i64]; omega
                go_wp2_with fail
                refine (FE.out _).mono ?_
                rintro e v1 ⟨rfl, hb⟩
                have hm1 := HM.out.next hb
                have H1 := Lib.hid hm1
                clear hb a0 a1 a2 e0 e1 e2
                obtain ⟨a0, a1, a2⟩ := cells3 hm1.rs
                obtain ⟨e0, e1, e2⟩ := cells3 hm1.rt
                have fs : ∀ i, v1.frozen? ⟨w.heap.size, i, none⟩ = false := fun i => frozen_of_row _ _ _ _ _ hm1.rs
                have ft : ∀ i, v1.frozen? ⟨w.heap.size + 1, i, none⟩ = false := fun i => frozen_of_row _ _ _ _ _ hm1.rt
                clear hm1
                go_wp2_with fail
                go_meet
                exact ⟨⟨Sa, Sb, 1⟩, (H1.out.setS Sa Sb 1).setT 2 (.int .i64 1) ⟨Sa, Sb, 1⟩ rfl, .inl ⟨u', rfl, by simp, rfl, by omega, ⟨Nat.le_trans HS.out.a (by omega), Nat.le_trans HS.out.b (by omega), .inr rfl⟩⟩⟩
          · have hc0' : (c == 0) = false := by simpa using hc0
            have hc1' : (c == 1) = false := by simpa using hc1
            obtain ⟨L, E, hW, hLE⟩ := HS.out.write' (x := h) (by omega) hh2 u hD
            have FW := Lib.hid (fun w => write_any 700 ⟨Sa, Sb, Ss⟩ h D u w (by omega) (by constructor <;> omega))
            rw [hW] at FW
            clear hW
            have HLE := Lib.hid hLE
            clear hLE
            rcases hh2 with rfl | rfl
            · simp [ans, St.agg, St.put, St.get] at FW
              obtain ⟨q, hq⟩ : ∃ q, q = Sa ++ D.extract 0 (min D.size u) := ⟨_, rfl⟩
              rw [← hq] at FW
              have HQ := Lib.hid hq
              clear hq
              go_wp2_with fail
              refine (FW.out _).mono ?_
              rintro e v1 ⟨rfl, hb⟩
              have hm1 := HM.out.next hb
              have H1 := Lib.hid hm1
              clear hb a0 a1 a2 e0 e1 e2
              obtain ⟨a0, a1, a2⟩ := cells3 hm1.rs
              obtain ⟨e0, e1, e2⟩ := cells3 hm1.rt
              have fs : ∀ i, v1.frozen? ⟨w.heap.size, i, none⟩ = false := fun i => frozen_of_row _ _ _ _ _ hm1.rs
              have ft : ∀ i, v1.frozen? ⟨w.heap.size + 1, i, none⟩ = false := fun i => frozen_of_row _ _ _ _ _ hm1.rt
              clear hm1
              go_wp2_with fail
              have H2 := Lib.hid (H1.out.setS q Sb Ss)
              clear a0 a1 a2 e0 e1 e2 fs ft
              go_loopw [10, 15] (fun v10 v15 wr2 => ∃ k : Nat, k ≤ D.size ∧ v15 = .int .i64 k ∧ v10 = .int .i64 ((u : Int) - k) ∧ RunM w ⟨q, Sb, Ss⟩ ⟨(Sa ++ D.extract 0 (min k u)), Sb, Ss⟩ wr2) (fun _ v15 _ => D.size - (intOf v15).toNat)
              case atStart => exact ⟨0, by omega, rfl, by simp, by rw [Nat.zero_min, ba_none]; exact H2.out⟩
              case round =>
                obtain ⟨k, hk, rfl, rfl, hm2⟩ := hrel
                by_cases hkD : k < D.size
                · by_cases hku : k < u
                  · have hz1 : 0 < (u : Int) - k := by omega
                    obtain ⟨y, hy⟩ : ∃ y, y = Sa ++ D.extract 0 (min k u) := ⟨_, rfl⟩
                    have hys : ¬ 9223372036854775807 < y.size + (D.extract k (k + 1)).size := by
                      have := HS.out.a
                      simp only at this
                      rw [hy, ba_size, ba_csize, ba_csize]; omega
                    rw [← hy] at hm2
                    have HY := Lib.hid hy
                    clear hy
                    have H3 := Lib.hid hm2
                    obtain ⟨a0, a1, a2⟩ := cells3 hm2.rs
                    obtain ⟨e0, e1, e2⟩ := cells3 hm2.rt
                    have fs : ∀ i, wr.frozen? ⟨w.heap.size, i, none⟩ = false := fun i => frozen_of_row _ _ _ _ _ hm2.rs
                    have ft : ∀ i, wr.frozen? ⟨w.heap.size + 1, i, none⟩ = false := fun i => frozen_of_row _ _ _ _ _ hm2.rt
                    clear hm2
                    have p1 : (0 : Int) ≤ k := by omega
                    have p2 : (k : Int) ≤ (k : Int) + 1 := by omega
                    have p3 : (k : Int) + 1 ≤ D.size := by omega
                    have p4 : ((k : Int) + 1).toNat = k + 1 := by omega
                    have p5 : IntKind.i64.wrap ((k : Int) + 1) = (k : Int) + 1 := by rw [IntKind.wrap_i64]; omega
                    go_wp2_with fail
                    go_region
                    go_wp2_with fail
                    go_roundw
                    case rel =>
                      refine ⟨k + 1, by omega, by go_num, by go_num, ?_⟩
                      have hyy : Sa ++ D.extract 0 (min (k + 1) u) = y ++ D.extract k (k + 1) := by
                        rw [HY.out, Nat.min_eq_left (by omega : k + 1 ≤ u), Nat.min_eq_left (by omega : k ≤ u), ba_step]
                      rw [hyy]
                      exact (H3.out.setT 0 (.string (y ++ D.extract k (k + 1))) ⟨(y ++ D.extract k (k + 1)), Sb, Ss⟩ rfl).drew
                    case measure => simp [intOf]; omega
                  · have hz1 : ¬ 0 < (u : Int) - k := by omega
                    have H3 := Lib.hid hm2
                    clear hm2
                    go_wp2_with fail
                    go_roundw
                    case rel =>
                      refine ⟨k + 1, by omega, by go_num, by go_num, ?_⟩
                      have hyy : min (k + 1) u = min k u := by omega
                      rw [hyy]
                      exact H3.out
                    case measure => simp [intOf]; omega
                · obtain rfl : k = D.size := by omega
                  rw [← HQ.out] at hm2
                  have H3 := Lib.hid hm2
                  clear hm2
                  go_wp2_with fail
                  go_meet
                  refine ⟨⟨q, Sb, Ss⟩, H3.out, ?_⟩
                  rcases HLE.out with ⟨h1, rfl, rfl⟩ | ⟨h1, rfl, rfl⟩
                  · refine .inl ⟨u - D.size, congrArg (Value.int .i64) (by omega), congrArg (Value.int .i64) (by omega), rfl, by omega, ?_⟩
                    have hsb := HS.out.put 0 (z := q) (m := 30 * (i + 1)) (by
                      have := HS.out.a
                      simp only at this
                      rw [HQ.out, ba_size, ba_csize]; omega) (by omega)
                    exact hsb
                  · exact .inr ⟨(u : Int) - D.size, rfl, rfl, rfl, by omega, by omega⟩
            · simp [ans, St.agg, St.put, St.get] at FW
              obtain ⟨q, hq⟩ : ∃ q, q = Sb ++ D.extract 0 (min D.size u) := ⟨_, rfl⟩
              rw [← hq] at FW
              have HQ := Lib.hid hq
              clear hq
              go_wp2_with fail
              refine (FW.out _).mono ?_
              rintro e v1 ⟨rfl, hb⟩
              have hm1 := HM.out.next hb
              have H1 := Lib.hid hm1
              clear hb a0 a1 a2 e0 e1 e2
              obtain ⟨a0, a1, a2⟩ := cells3 hm1.rs
              obtain ⟨e0, e1, e2⟩ := cells3 hm1.rt
              have fs : ∀ i, v1.frozen? ⟨w.heap.size, i, none⟩ = false := fun i => frozen_of_row _ _ _ _ _ hm1.rs
              have ft : ∀ i, v1.frozen? ⟨w.heap.size + 1, i, none⟩ = false := fun i => frozen_of_row _ _ _ _ _ hm1.rt
              clear hm1
              go_wp2_with fail
              have H2 := Lib.hid (H1.out.setS Sa q Ss)
              clear a0 a1 a2 e0 e1 e2 fs ft
              go_loopw [10, 15] (fun v10 v15 wr2 => ∃ k : Nat, k ≤ D.size ∧ v15 = .int .i64 k ∧ v10 = .int .i64 ((u : Int) - k) ∧ RunM w ⟨Sa, q, Ss⟩ ⟨Sa, (Sb ++ D.extract 0 (min k u)), Ss⟩ wr2) (fun _ v15 _ => D.size - (intOf v15).toNat)
              case atStart => exact ⟨0, by omega, rfl, by simp, by rw [Nat.zero_min, ba_none]; exact H2.out⟩
              case round =>
                obtain ⟨k, hk, rfl, rfl, hm2⟩ := hrel
                by_cases hkD : k < D.size
                · by_cases hku : k < u
                  · have hz1 : 0 < (u : Int) - k := by omega
                    obtain ⟨y, hy⟩ : ∃ y, y = Sb ++ D.extract 0 (min k u) := ⟨_, rfl⟩
                    have hys : ¬ 9223372036854775807 < y.size + (D.extract k (k + 1)).size := by
                      have := HS.out.b
                      simp only at this
                      rw [hy, ba_size, ba_csize, ba_csize]; omega
                    rw [← hy] at hm2
                    have HY := Lib.hid hy
                    clear hy
                    have H3 := Lib.hid hm2
                    obtain ⟨a0, a1, a2⟩ := cells3 hm2.rs
                    obtain ⟨e0, e1, e2⟩ := cells3 hm2.rt
                    have fs : ∀ i, wr.frozen? ⟨w.heap.size, i, none⟩ = false := fun i => frozen_of_row _ _ _ _ _ hm2.rs
                    have ft : ∀ i, wr.frozen? ⟨w.heap.size + 1, i, none⟩ = false := fun i => frozen_of_row _ _ _ _ _ hm2.rt
                    clear hm2
                    have p1 : (0 : Int) ≤ k := by omega
                    have p2 : (k : Int) ≤ (k : Int) + 1 := by omega
                    have p3 : (k : Int) + 1 ≤ D.size := by omega
                    have p4 : ((k : Int) + 1).toNat = k + 1 := by omega
                    have p5 : IntKind.i64.wrap ((k : Int) + 1) = (k : Int) + 1 := by rw [IntKind.wrap_i64]; omega
                    go_wp2_with fail
                    go_region
                    go_wp2_with fail
                    go_roundw
                    case rel =>
                      refine ⟨k + 1, by omega, by go_num, by go_num, ?_⟩
                      have hyy : Sb ++ D.extract 0 (min (k + 1) u) = y ++ D.extract k (k + 1) := by
                        rw [HY.out, Nat.min_eq_left (by omega : k + 1 ≤ u), Nat.min_eq_left (by omega : k ≤ u), ba_step]
                      rw [hyy]
                      exact (H3.out.setT 1 (.string (y ++ D.extract k (k + 1))) ⟨Sa, (y ++ D.extract k (k + 1)), Ss⟩ rfl).drew
                    case measure => simp [intOf]; omega
                  · have hz1 : ¬ 0 < (u : Int) - k := by omega
                    have H3 := Lib.hid hm2
                    clear hm2
                    go_wp2_with fail
                    go_roundw
                    case rel =>
                      refine ⟨k + 1, by omega, by go_num, by go_num, ?_⟩
                      have hyy : min (k + 1) u = min k u := by omega
                      rw [hyy]
                      exact H3.out
                    case measure => simp [intOf]; omega
                · obtain rfl : k = D.size := by omega
                  rw [← HQ.out] at hm2
                  have H3 := Lib.hid hm2
                  clear hm2
                  go_wp2_with fail
                  go_meet
                  refine ⟨⟨Sa, q, Ss⟩, H3.out, ?_⟩
                  rcases HLE.out with ⟨h1, rfl, rfl⟩ | ⟨h1, rfl, rfl⟩
                  · refine .inl ⟨u - D.size, congrArg (Value.int .i64) (by omega), congrArg (Value.int .i64) (by omega), rfl, by omega, ?_⟩
                    have hsb := HS.out.put 1 (z := q) (m := 30 * (i + 1)) (by
                      have := HS.out.b
                      simp only at this
                      rw [HQ.out, ba_size, ba_csize]; omega) (by omega)
                    exact hsb
                  · exact .inr ⟨(u : Int) - D.size, rfl, rfl, rfl, by omega, by omega⟩
        case rest =>
          obtain ⟨⟨ta, tb, ts⟩, hm, hL⟩ := hcut
          clear a0 a1 a2 e0 e1 e2 c2 HM hz
          have HM := Lib.hid hm
          obtain ⟨a0, a1, a2⟩ := cells3 hm.rs
          obtain ⟨e0, e1, e2⟩ := cells3 hm.rt
          have hz := hm.sz
          clear hm
          have NQ := neqSt ta tb ts
          rcases hL with ⟨u', rfl, rfl, rfl, hu', hsb⟩ | ⟨n, rfl, rfl, rfl, hn0, hn1⟩
          · have HSB := Lib.hid hsb
            clear hsb
            have m1 : max 0 (u' : Int) = u' := by omega
            have m2 : (0 : Int) ≤ u' := by omega
            go_wp2_with fail
            all_goals
              go_roundw
              case rel => exact ⟨i + 1, u', ⟨ta, tb, ts⟩, by omega, by omega, by omega, by first | rfl | go_num, by first | rfl | go_num, by go_num, hu', HSB.out, HM.out⟩
              case measure => simp [intOf]; omega
          · have m1 : max 0 n = 0 := by omega
            have m2 : ¬ 0 ≤ n := by omega
            have m3 : ¬ 0 < n := by omega
            go_wp2_with fail
            all_goals
              refine (FN.out _).mono ?_
              rintro e w9 ⟨rfl, hb⟩
              have HB9 := Lib.hid (HM.out.below.trans (hb.mono (by omega)))
              clear hb
              go_wp2_with fail
              go_ret
              exact ⟨rfl, HB9.out⟩
    · have HM := Lib.hid hm
      clear hm HA HX hS
      rcases (show ¬ i < l.length ∨ (i < l.length ∧ ¬ i < x.length) ∨ (i < l.length ∧ i < x.length ∧ ¬ i < 20) by omega) with n1 | ⟨n1, n2⟩ | ⟨n1, n2, n3⟩
      · have t1 : decide ((i : Int) < (l.length : Int)) = false := decide_eq_false (by omega)
        have t1' : decide (i < l.length) = false := decide_eq_false n1
        clear hlt
        go_wp2_with fail
        refine (FN.out _).mono ?_
        rintro e w9 ⟨rfl, hb⟩
        have HB9 := Lib.hid (HM.out.below.trans (hb.mono (by omega)))
        clear hb
        go_wp2_with fail
        go_ret
        exact ⟨rfl, HB9.out⟩
      · have t1 : decide ((i : Int) < (l.length : Int)) = true := decide_eq_true (by omega)
        have t1' : decide (i < l.length) = true := decide_eq_true n1
        have t2 : decide ((i : Int) < (x.length : Int)) = false := decide_eq_false (by omega)
        have t2' : decide (i < x.length) = false := decide_eq_false n2
        clear hlt
        go_wp2_with fail
        refine (FN.out _).mono ?_
        rintro e w9 ⟨rfl, hb⟩
        have HB9 := Lib.hid (HM.out.below.trans (hb.mono (by omega)))
        clear hb
        go_wp2_with fail
        go_ret
        exact ⟨rfl, HB9.out⟩
      · have t1 : decide ((i : Int) < (l.length : Int)) = true := decide_eq_true (by omega)
        have t1' : decide (i < l.length) = true := decide_eq_true n1
        have t2 : decide ((i : Int) < (x.length : Int)) = true := decide_eq_true (by omega)
        have t2' : decide (i < x.length) = true := decide_eq_true n2
        have t3 : decide ((i : Int) < 20) = false := decide_eq_false (by omega)
        have t3' : decide (i < 20) = false := decide_eq_false n3
        clear hlt
        go_wp2_with fail
        refine (FN.out _).mono ?_
        rintro e w9 ⟨rfl, hb⟩
        have HB9 := Lib.hid (HM.out.below.trans (hb.mono (by omega)))
        clear hb
        go_wp2_with fail
        go_ret
        exact ⟨rfl, HB9.out⟩
set_option maxRecDepth 100000 in
theorem lawStoreRuns_lifted (os : Os) (started : os.Started) (H : Type) (enc : TypeId × Value → H) :
    ReturnsInHanded {} Try.checked os 6 .any (Rows.storeRunsSpec.pre6 enc Try.prog Try.f6 Rows.storeRunsRow.domain false) (Rows.storeRunsSpec.post enc Try.prog Try.f6 false true false false) := by
  refine returnsInHanded_of_change (C := Try.checked) own started (by kernel_rfl) Try.func6
    (ChangeSpec.witness6 (enc := enc) (C := Try.checked) false ⟨#[], #[.slice none 0 0, .slice none 0 0, .int .u8 0], []⟩ 8 (by kernel_rfl) (by kernel_rfl) (by kernel_rfl) (by kernel_rfl)) ?_
  intro W base args ds gs before hval0 hW hcnd _
  have hval : ∀ (j : Nat) t v, Try.f6.params[j]? = some t → args[j]? = some v → Value.okWide Try.prog W .any base t v := hval0
  have hW' := hW
  obtain ⟨p, q, hA0, hV, rfl, hfz, hnd⟩ := hW
  have hA : DataW.TrodAll enc Try.prog W 0 (fun _ => true) true Try.f6.params.toList args.toList ds p := hA0
  rw [Try.params6] at hA hval
  obtain ⟨v0, vs0, d0, ds0, p0, q0, hargs, rfl, rfl, h0, r0⟩ := trodAll_cons hA
  obtain ⟨v1, vs1, d1, ds1, p1, q1, rfl, rfl, rfl, h1, r1⟩ := trodAll_cons r0
  obtain ⟨v2, vs2, d2, ds2, p2, q2, rfl, rfl, rfl, h2, r2⟩ := trodAll_cons r1
  obtain ⟨rfl, rfl, rfl⟩ := trodAll_nil r2
  obtain rfl : args = #[v0, v1, v2] := by cases args; simp_all
  obtain ⟨rfl, rfl⟩ := trodVars_none hV
  have k0 := h0
  have lt0 : ∀ x ∈ p0, x.block < W.heap.size := by obtain ⟨m, hm⟩ := k0; exact DataW.trod_lt m _ _ _ hm
  obtain ⟨a0, l0, c0, rfl⟩ := okWide_slice Try.underlying43 (hval 0 43 v0 rfl rfl)
  obtain ⟨fuel0, hf0⟩ := h0
  obtain ⟨x0, g0, n0, m0⟩ := open_strs hf0
  have k1 := h1
  have lt1 : ∀ x ∈ p1, x.block < W.heap.size := by obtain ⟨m, hm⟩ := k1; exact DataW.trod_lt m _ _ _ hm
  obtain ⟨a1, l1, c1, rfl⟩ := okWide_slice Try.underlying44 (hval 1 44 v1 rfl rfl)
  obtain ⟨fuel1, hf1⟩ := h1
  obtain ⟨x1, g1, n1, m1⟩ := open_u8s hf1
  obtain ⟨x2, rfl, rfl, rfl, g2⟩ := open_int Try.underlying5 (hval 2 5 v2 rfl rfl) h2
  clear hA0 hval0
  refine (lawStoreRuns_walk _ x0 _ x1 x2 W g0 n0 m0 g1 n1 m1 g2).mono fun e W' ⟨he, bel⟩ => ?_
  subst he
  exact ⟨_, rfl, _, _, _, [], _, [], hW', trodAll_mk1 (shut_bool Try.underlying4 _), (trodAll_cons_mk (Below.trod laidOut (by kernel_rfl) (of_decide_eq_true (by kernel_rfl)) k0 bel lt0) (trodAll_cons_mk (Below.trod laidOut (by kernel_rfl) (of_decide_eq_true (by kernel_rfl)) k1 bel lt1) (trodAll_cons_mk (shut_int Try.underlying5 g2) trodAll_mk0))), rfl, bel.frame _, fun h => by cases h⟩

theorem lawStoreRuns_over : Rows.storeRunsRow.holds Try.pinned (OpenSpec.ofChange Rows.storeRunsSpec) :=
  OpenClaim.holds_of_wide 6 Try.f6 rfl rfl rfl rfl rfl rfl rfl ⟨rfl, rfl, rfl, rfl, rfl⟩ rfl rfl rfl rfl rfl (by kernel_rfl) Try.func6 (by kernel_rfl)
    (of_decide_eq_true (by kernel_rfl)) (by unfold Func.isWrapper; first | (rw [if_pos (by decide +kernel)]; kernel_rfl) | (rw [if_neg (by decide +kernel)]; exact ⟨rfl, rfl⟩))
    (fun os started H enc _ => lawStoreRuns_lifted os started H enc)

theorem storeRuns_holds : Rows.StoreRunsSaid := lawStoreRuns_over
#print axioms storeRuns_holds
end Go.Proofs.Ytanodbpeeahmaaa
