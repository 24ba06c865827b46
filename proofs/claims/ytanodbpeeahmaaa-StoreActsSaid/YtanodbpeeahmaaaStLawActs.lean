/- The statement StoreActs. -/
import Derived.Test.YtanodbpeeahmaaaStOpen
import Derived.Deep.CutRange
namespace Go.Proofs.Ytanodbpeeahmaaa
open Go.RowKit Go.ChangeShapes Go.WideShapes Go.Deep St

/-- What the loop's round knows of memory. -/
structure ActM (w : World) (s t : St) (p q : Pl) (g8 g9 : Nat) (wx : World) : Prop where
  below : Below w.heap.size w wx
  r0 : wx.heap[w.heap.size]? = some (.cells #[.string s.a, .string s.b, .int .i64 s.sel] 24 (0, 0))
  r1 : wx.heap[w.heap.size + 1]? = some (.cells #[.int .i64 p.room, .int .i64 p.half, .int .i64 p.bud] 26 (0, 0))
  r8 : wx.heap[g8]? = some (.cells #[.string t.a, .string t.b, .int .i64 t.sel] 24 (0, 0))
  r9 : wx.heap[g9]? = some (.cells #[.int .i64 q.room, .int .i64 q.half, .int .i64 q.bud] 26 (0, 0))
  ne : g8 ≠ g9
  l8 : w.heap.size + 2 ≤ g8
  l9 : w.heap.size + 2 ≤ g9
structure ActB (w : World) (s : St) (p : Pl) (wx : World) : Prop where
  below : Below w.heap.size w wx
  r0 : wx.heap[w.heap.size]? = some (.cells #[.string s.a, .string s.b, .int .i64 s.sel] 24 (0, 0))
  r1 : wx.heap[w.heap.size + 1]? = some (.cells #[.int .i64 p.room, .int .i64 p.half, .int .i64 p.bud] 26 (0, 0))
  sz : w.heap.size + 2 ≤ wx.heap.size
theorem ActB.next {w wx w2 : World} {s : St} {p : Pl} (h : ActB w s p wx) (hb : Below wx.heap.size wx w2) : ActB w s p w2 :=
  ⟨h.below.trans (hb.mono (Nat.le_trans (Nat.le_add_right _ _) h.sz)), (hb.block _ (by have := h.sz; omega)).trans h.r0, (hb.block _ (by have := h.sz; omega)).trans h.r1, Nat.le_trans h.sz hb.size⟩
theorem row_set {wx : World} {g i : Nat} {T : TypeId} {cs : Array Value} {v : Value} (r : wx.heap[g]? = some (.cells cs T (0, 0))) : (wx.setCell ⟨g, i, none⟩ v).heap[g]? = some (.cells (cs.setIfInBounds i v) T (0, 0)) := by
  simp [World.setCell, Array.getElem?_modify, r]
theorem ActM.turn {w wx : World} {s t : St} {p q : Pl} {g8 g9 : Nat} (h : ActM w s t p q g8 g9 wx) (sl hf bd : Int) :
    ActM w s ⟨t.a, t.b, sl⟩ p ⟨q.room, hf, bd⟩ g8 g9 (((wx.setCell ⟨g8, 2, none⟩ (.int .i64 sl)).setCell ⟨g9, 1, none⟩ (.int .i64 hf)).setCell ⟨g9, 2, none⟩ (.int .i64 bd)).drew := by
  have l8 := h.l8
  have l9 := h.l9
  have hne := h.ne
  have ho : ∀ k, k ≠ g8 → k ≠ g9 → (((wx.setCell ⟨g8, 2, none⟩ (.int .i64 sl)).setCell ⟨g9, 1, none⟩ (.int .i64 hf)).setCell ⟨g9, 2, none⟩ (.int .i64 bd)).heap[k]? = wx.heap[k]? := fun k h8 h9 =>
    ((Below.heap_setCell _ ⟨g9, 2, none⟩ _ k h9).trans (Below.heap_setCell _ ⟨g9, 1, none⟩ _ k h9)).trans (Below.heap_setCell _ ⟨g8, 2, none⟩ _ k h8)
  refine ⟨(((h.below.setCell (p := ⟨g8, 2, none⟩) (by show _ ≤ g8; omega) _).setCell (p := ⟨g9, 1, none⟩) (by show _ ≤ g9; omega) _).setCell (p := ⟨g9, 2, none⟩) (by show _ ≤ g9; omega) _).drew, (ho _ (by omega) (by omega)).trans h.r0, (ho _ (by omega) (by omega)).trans h.r1, ?_, ?_, hne, l8, l9⟩
  · exact ((Below.heap_setCell _ ⟨g9, 2, none⟩ _ g8 hne).trans (Below.heap_setCell _ ⟨g9, 1, none⟩ _ g8 hne)).trans (row_set h.r8)
  · exact row_set (row_set ((Below.heap_setCell _ ⟨g8, 2, none⟩ _ g9 hne.symm).trans h.r9))
theorem ActM.roomed {w wx : World} {s t : St} {p q : Pl} {g8 g9 : Nat} (h : ActM w s t p q g8 g9 wx) (rm : Int) (o : Obj) :
    ActM w s t p ⟨rm, q.half, q.bud⟩ g8 g9 ((wx.setCell ⟨g9, 0, none⟩ (.int .i64 rm)).alloc o).drew := by
  have l8 := h.l8
  have l9 := h.l9
  have hne := h.ne
  have hl : ∀ k r, wx.heap[k]? = some r → k < wx.heap.size := fun k r e => (Array.getElem?_eq_some_iff.1 e).1
  have hz : (wx.setCell ⟨g9, 0, none⟩ (.int .i64 rm)).heap.size = wx.heap.size := Go.Deep.nblk_setCell _ _ _
  have ho : ∀ k r, k ≠ g9 → wx.heap[k]? = some r → ((wx.setCell ⟨g9, 0, none⟩ (.int .i64 rm)).alloc o).heap[k]? = some r := fun k r h9 e =>
    (Below.heap_alloc _ o k (by rw [hz]; exact hl k r e)).trans ((Below.heap_setCell _ ⟨g9, 0, none⟩ _ k h9).trans e)
  have hw : w.heap.size ≤ wx.heap.size := Nat.le_of_lt (hl _ _ h.r0)
  refine ⟨((h.below.setCell (p := ⟨g9, 0, none⟩) (by show _ ≤ g9; omega) _).alloc (by rw [hz]; exact hw) o).drew, ho _ _ (by omega) h.r0, ho _ _ (by omega) h.r1, ho _ _ hne h.r8, ?_, hne, l8, l9⟩
  exact (Below.heap_alloc _ o g9 (by rw [hz]; exact hl _ _ h.r9)).trans (row_set h.r9)
theorem room_idx (room : Int) (n : Nat) : ∃ (m : Nat) (v : Int), (IntKind.u64.wrap room).tmod 4 = (m : Int) ∧ (0 : Int) ≤ m ∧ (m : Int) < 4 ∧ wrap64 (m : Int) = m ∧ IntKind.i64.wrap (m : Int) = m ∧ (m : Int).toNat = m ∧ m < 4 ∧ ([.int .i64 0, .int .i64 1, .int .i64 n, .int .i64 5000] : List Value)[m]? = some (.int .i64 v) ∧
    ∀ h, ([.int .i64 0, .int .i64 1, .int .i64 n, .int .i64 5000] : List Value)[m]'h = .int .i64 v := by
  have h0 : 0 ≤ IntKind.u64.wrap room := by rw [IntKind.wrap_u64]; omega
  rw [Int.tmod_eq_emod_of_nonneg h0]
  have h1 : IntKind.u64.wrap room % 4 < 4 := Int.emod_lt_of_pos _ (by decide)
  have h2 : 0 ≤ IntKind.u64.wrap room % 4 := Int.emod_nonneg _ (by decide)
  generalize IntKind.u64.wrap room % 4 = z at *
  obtain ⟨m, rfl⟩ : ∃ m : Nat, z = (m : Int) := ⟨z.toNat, by omega⟩
  have hm : m < 4 := by omega
  have hv : ∃ v : Int, ∀ h, ([.int .i64 0, .int .i64 1, .int .i64 n, .int .i64 5000] : List Value)[m]'h = .int .i64 v := by
    rcases (show m = 0 ∨ m = 1 ∨ m = 2 ∨ m = 3 by omega) with rfl | rfl | rfl | rfl
    · exact ⟨0, fun _ => rfl⟩
    · exact ⟨1, fun _ => rfl⟩
    · exact ⟨n, fun _ => rfl⟩
    · exact ⟨5000, fun _ => rfl⟩
  obtain ⟨v, hv⟩ := hv
  exact ⟨m, v, rfl, h2, h1, by unfold wrap64; omega, by rw [IntKind.wrap_i64]; omega, rfl, hm, (List.getElem?_eq_getElem hm).trans (congrArg some (hv hm)), hv⟩
theorem wrap_i64_in (x : Int) : I64 (IntKind.i64.wrap x) := by
  rw [IntKind.wrap_i64]
  constructor <;> omega
theorem ActM.of12 {w wr : World} {s : St} {p : Pl} (h : ActB w s p wr) : ActM w s s p p wr.heap.size (wr.heap.size + 1) ((wr.alloc (.cells #[.string s.a, .string s.b, .int .i64 s.sel] 24)).alloc (.cells #[.int .i64 p.room, .int .i64 p.half, .int .i64 p.bud] 26)).drew := by
  have hz := h.sz
  obtain ⟨hb, ra, rb, -⟩ := laid2 (w := wr) (A := .cells #[.string s.a, .string s.b, .int .i64 s.sel] 24) (B := .cells #[.int .i64 p.room, .int .i64 p.half, .int .i64 p.bud] 26) (Below.refl _ _)
  have h2 := h.next hb
  exact ⟨h2.below.drew, h2.r0, h2.r1, ra, rb, by omega, hz, by omega⟩
theorem ActM.of21 {w wr : World} {s : St} {p : Pl} (h : ActB w s p wr) : ActM w s s p p (wr.heap.size + 1) wr.heap.size ((wr.alloc (.cells #[.int .i64 p.room, .int .i64 p.half, .int .i64 p.bud] 26)).alloc (.cells #[.string s.a, .string s.b, .int .i64 s.sel] 24)).drew := by
  have hz := h.sz
  obtain ⟨hb, ra, rb, -⟩ := laid2 (w := wr) (B := .cells #[.string s.a, .string s.b, .int .i64 s.sel] 24) (A := .cells #[.int .i64 p.room, .int .i64 p.half, .int .i64 p.bud] 26) (Below.refl _ _)
  have h2 := h.next hb
  exact ⟨h2.below.drew, h2.r0, h2.r1, rb, ra, by omega, by omega, hz⟩

set_option maxRecDepth 100000 in
set_option maxHeartbeats 40000000 in
theorem lawStoreActs_walk (s : St) (d : ByteArray) (p : Pl) (w : World) (_ : s.a.size ≤ maxLen) (_ : s.b.size ≤ maxLen) (_ : I64 s.sel) (_ : d.size ≤ maxLen) (hroom : I64 p.room) (_ : I64 p.half) (hbud : I64 p.bud) :
    Calls Try.prog 3 #[s.agg, .string d, p.agg] w fun e w' => e = .returned (.bool true) ∧ Below w.heap.size w w' := by
  have FS := Lib.hid (fun w => short_any s w)
  have FN := Lib.hid (fun w => sane_any w)
  obtain ⟨a, b, sel⟩ := s
  obtain ⟨room, half, bud⟩ := p
  simp only [St.agg, Pl.agg] at FS hroom hbud ⊢
  by_cases hs : shortB ⟨a, b, sel⟩ = true ∧ d.size ≤ 2000
  · obtain ⟨hs, hd5⟩ := hs
    rw [hs] at FS
    have hs2 : a.size ≤ 2000 ∧ b.size ≤ 2000 := by simpa [shortB] using hs
    clear hs
    have hd5' : decide (2000 < (d.size : Int)) = false := by simp; omega
    have HR := Lib.hid hroom
    have HU := Lib.hid hbud
    clear hroom hbud
    obtain ⟨m, v, hI⟩ := room_idx room d.size
    have HI := Lib.hid hI
    clear hI
    go_enter Try.func3, Try.ntmps3
    go_wp2_with fail
    refine (FS.out _).mono ?_
    rintro e w1 ⟨rfl, hb⟩
    obtain ⟨hb, r0, r1, hlt⟩ := laid2 hb
    have HM : ActB w ⟨a, b, sel⟩ ⟨room, half, bud⟩ w1 := ⟨hb, r0, r1, hlt⟩
    have HM := Lib.hid HM
    clear hb r0 r1 hlt
    go_wp2_with fail
    go_loopw [7] (fun v7 wr => ∃ k : Nat, k ≤ 4 ∧ v7 = .int .i64 k ∧ ActB w ⟨a, b, sel⟩ ⟨room, half, bud⟩ wr) (fun v7 _ => 4 - (intOf v7).toNat)
    case atStart => exact ⟨0, by omega, rfl, HM.out⟩
    case round =>
      clear HM
      obtain ⟨k, hk, rfl, hm⟩ := hrel
      by_cases hlt : k < 4
      · obtain ⟨c0, c1, c2⟩ := cells3 hm.r0
        obtain ⟨d0, d1, d2⟩ := cells3 hm.r1
        have hz := hm.sz
        have HM := Lib.hid hm
        clear hm
        have hk4 : decide ((k : Int) < 4) = true := decide_eq_true (by omega)
        have hk4' : decide (k < 4) = true := decide_eq_true hlt
        go_upto_region 6 with fail
        go_cut [8, 9] from 41 to 216 (fun v8 v9 wx => ∃ g8 g9, v8 = .pointer (some ⟨g8, 0, none⟩) ∧ v9 = .pointer (some ⟨g9, 0, none⟩) ∧ ActM w ⟨a, b, sel⟩ ⟨a, b, sel⟩ ⟨room, half, bud⟩ ⟨room, half, bud⟩ g8 g9 wx)
        case first =>
          have hb0 : w.heap.size < wr.heap.size := by omega
          have hb1 : w.heap.size + 1 < wr.heap.size := by omega
          have hn0 : ¬ w.heap.size = wr.heap.size := by omega
          have hn1 : ¬ w.heap.size + 1 = wr.heap.size := by omega
          go_region
          · go_wp2_with fail
            go_meet
            exact ⟨_, _, rfl, rfl, ActM.of12 HM.out⟩
          · go_wp2_with fail
            go_meet
            exact ⟨_, _, rfl, rfl, ActM.of21 HM.out⟩
        case rest =>
          obtain ⟨g8, g9, rfl, rfl, hm⟩ := hcut
          clear c0 c1 c2 d0 d1 d2 HM hz
          have HM := Lib.hid hm
          clear hm
          go_upto_if 44 with fail
          go_cut [] from 41 to 216 (fun wx => ∃ sl rm hf bd, I64 bd ∧ ActM w ⟨a, b, sel⟩ ⟨a, b, sl⟩ ⟨room, half, bud⟩ ⟨rm, hf, bd⟩ g8 g9 wx)
          case first =>
            obtain ⟨c0, c1, c2⟩ := cells3 HM.out.r0
            obtain ⟨d0, d1, d2⟩ := cells3 HM.out.r1
            by_cases hk0 : k = 0
            · subst hk0
              go_wp2_with fail
              go_meet
              exact ⟨_, _, _, _, HU.out, HM.out⟩
            · have hk1 : (0 : Int) < k := by omega
              obtain ⟨e0, e1, e2⟩ := cells3 HM.out.r8
              obtain ⟨f0, f1, f2⟩ := cells3 HM.out.r9
              have fr8 : ∀ i, wc.frozen? ⟨g8, i, none⟩ = false := fun i => frozen_of_row _ _ _ _ _ HM.out.r8
              have fr9 : ∀ i, wc.frozen? ⟨g9, i, none⟩ = false := fun i => frozen_of_row _ _ _ _ _ HM.out.r9
              have n1 : ¬ g8 = g9 := HM.out.ne
              have n2 : ¬ g9 = g8 := fun h => HM.out.ne h.symm
              have n3 : ¬ w.heap.size = g8 := by have := HM.out.l8; omega
              have n4 : ¬ w.heap.size = g9 := by have := HM.out.l9; omega
              have n5 : ¬ w.heap.size + 1 = g8 := by have := HM.out.l8; omega
              have n6 : ¬ w.heap.size + 1 = g9 := by have := HM.out.l9; omega
              have n7 : ¬ (d.size : Int) + 3 = 0 := by omega
              go_wp2_with fail
              go_region
              have HT := Lib.hid (HM.out.turn ((k : Int) % 2) ((k : Int) / 2) (wrap64 ((IntKind.u64.wrap bud).tmod ((d.size : Int) + 3))))
              clear c0 c1 c2 d0 d1 d2 e0 e1 e2 f0 f1 f2 fr8 fr9 HM n1 n2 n3 n4 n5 n6
              have hbd : I64 (wrap64 ((IntKind.u64.wrap bud).tmod ((d.size : Int) + 3))) := by unfold wrap64; constructor <;> omega
              generalize wrap64 ((IntKind.u64.wrap bud).tmod ((d.size : Int) + 3)) = bd at *
              generalize World.drew _ = wd at *
              have HD := Lib.hid hbd
              clear hbd
              obtain ⟨c0, c1, c2⟩ := cells3 HT.out.r0
              obtain ⟨d0, d1, d2⟩ := cells3 HT.out.r1
              obtain ⟨f0, f1, f2⟩ := cells3 HT.out.r9
              have fr9 : ∀ i, wd.frozen? ⟨g9, i, none⟩ = false := fun i => frozen_of_row _ _ _ _ _ HT.out.r9
              have hz9 : g9 < wd.heap.size := (Array.getElem?_eq_some_iff.1 HT.out.r9).1
              have hz0 : w.heap.size < wd.heap.size := (Array.getElem?_eq_some_iff.1 HT.out.r0).1
              have hz1 : w.heap.size + 1 < wd.heap.size := (Array.getElem?_eq_some_iff.1 HT.out.r1).1
              have n9 : ¬ g9 = wd.heap.size := by omega
              have n0 : ¬ w.heap.size = wd.heap.size := by omega
              have n10 : ¬ w.heap.size + 1 = wd.heap.size := by omega
              obtain ⟨hm, hm0, hm1, hmw, hmi, hmn, hm4, hv2, hv⟩ := HI.out
              go_wp2_with fail
              go_region
              all_goals
                go_wp2_with fail
                all_goals
                  go_meet
                  exact ⟨_, _, _, _, HD.out, HT.out.roomed _ _⟩
          case rest =>
            obtain ⟨sl, rm, hf, bd, hbd, hm⟩ := hcut
            clear HM HI HU HR
            have F1 := Lib.hid (fun w => write_any rm ⟨a, b, sl⟩ hf d bd w (by omega) hbd)
            have F2 := Lib.hid (fun w => refWrite_any rm ⟨a, b, sl⟩ hf d bd w (by omega) hbd)
            have F3 := Lib.hid (fun w => erase_any rm ⟨a, b, sl⟩ hf bd w hbd)
            have F4 := Lib.hid (fun w => refErase_any rm ⟨a, b, sl⟩ hf bd w hbd)
            have F5 := Lib.hid (fun w => choose_any rm ⟨a, b, sl⟩ hf bd w hbd)
            have F6 := Lib.hid (fun w => refChoose_any rm ⟨a, b, sl⟩ hf bd w hbd)
            have F7 := Lib.hid (fun w => current_any ⟨a, b, sl⟩ w)
            have F8 := Lib.hid (fun w => refCurrent_any ⟨a, b, sl⟩ w)
            have F9 := Lib.hid (fun w => isStore_any rm ⟨a, b, sl⟩ w)
            have F10 := Lib.hid (fun w => refIsStore_any rm ⟨a, b, sl⟩ w)
            generalize writeF rm ⟨a, b, sl⟩ hf d bd = R1 at *
            generalize eraseF rm ⟨a, b, sl⟩ hf bd = R2 at *
            generalize chooseF rm ⟨a, b, sl⟩ hf bd = R3 at *
            generalize St.cur ⟨a, b, sl⟩ = cu at *
            generalize isB rm ⟨a, b, sl⟩ = ib at *
            obtain ⟨⟨x1, x2, x3⟩, x4, x5⟩ := R1
            obtain ⟨⟨y1, y2, y3⟩, y4, y5⟩ := R2
            obtain ⟨⟨z1, z2, z3⟩, z4, z5⟩ := R3
            simp only [ans, St.agg] at F1 F2 F3 F4 F5 F6 F7 F8 F9 F10
            clear hbd
            have hs8 : g8 < wc.heap.size := (Array.getElem?_eq_some_iff.1 hm.r8).1
            have hs9 : g9 < wc.heap.size := (Array.getElem?_eq_some_iff.1 hm.r9).1
            have hs0 : w.heap.size + 1 < wc.heap.size := (Array.getElem?_eq_some_iff.1 hm.r1).1
            have HAB := Lib.hid (show ActB w ⟨a, b, sel⟩ ⟨room, half, bud⟩ wc from ⟨hm.below, hm.r0, hm.r1, hs0⟩)
            have ra0 := hm.r8
            have rb0 := hm.r9
            clear hm
            obtain ⟨c0, c1, c2⟩ := cells3 ra0
            obtain ⟨f0, f1, f2⟩ := cells3 rb0
            go_wp2_with fail
            refine (F1.out _).mono ?_
            rintro e v1 ⟨rfl, hb⟩
            have q8 : g8 < v1.heap.size := Nat.lt_of_lt_of_le hs8 hb.size
            have q9 : g9 < v1.heap.size := Nat.lt_of_lt_of_le hs9 hb.size
            have ra1 := Lib.hid ((hb.block g8 hs8).trans ra0)
            have rb1 := Lib.hid ((hb.block g9 hs9).trans rb0)
            have HB1 := Lib.hid hb
            clear hb ra0 rb0 c0 c1 c2 f0 f1 f2
            have n8 : ¬ g8 = v1.heap.size := by omega
            have n9 : ¬ g9 = v1.heap.size := by omega
            have hsv1 : wc.heap.size ≤ v1.heap.size := HB1.out.size
            obtain ⟨c0, c1, c2⟩ := cells3 ra1.out
            obtain ⟨f0, f1, f2⟩ := cells3 rb1.out
            go_wp2_with fail
            refine (F2.out _).mono ?_
            rintro e v2 ⟨rfl, hb⟩
            obtain ⟨hb, r1, l2⟩ := laid1 hb
            have R1_2 := Lib.hid r1
            have HB2 := Lib.hid (HB1.out.trans (hb.mono (by omega)))
            have ra2 := Lib.hid ((hb.block g8 q8).trans ra1.out)
            have rb2 := Lib.hid ((hb.block g9 q9).trans rb1.out)
            clear hb r1 c0 c1 c2 f0 f1 f2 q8 q9 n8 n9
            have q8 : g8 < v2.heap.size := (Array.getElem?_eq_some_iff.1 ra2.out).1
            have q9 : g9 < v2.heap.size := (Array.getElem?_eq_some_iff.1 rb2.out).1
            clear ra1 rb1
            have n8 : ¬ g8 = v2.heap.size := by omega
            have n9 : ¬ g9 = v2.heap.size := by omega
            have hsv2 : wc.heap.size ≤ v2.heap.size := HB2.out.size
            obtain ⟨c0, c1, c2⟩ := cells3 ra2.out
            obtain ⟨f0, f1, f2⟩ := cells3 rb2.out
            go_wp2_with fail
            refine (F3.out _).mono ?_
            rintro e v3 ⟨rfl, hb⟩
            obtain ⟨hb, r2, l3⟩ := laid1 hb
            have R2_3 := Lib.hid r2
            have HB3 := Lib.hid (HB2.out.trans (hb.mono (by omega)))
            have ra3 := Lib.hid ((hb.block g8 q8).trans ra2.out)
            have rb3 := Lib.hid ((hb.block g9 q9).trans rb2.out)
            have R1_3 := Lib.hid ((hb.block v1.heap.size (by omega)).trans R1_2.out)
            clear hb r2 c0 c1 c2 f0 f1 f2 q8 q9 n8 n9
            clear R1_2
            have q8 : g8 < v3.heap.size := (Array.getElem?_eq_some_iff.1 ra3.out).1
            have q9 : g9 < v3.heap.size := (Array.getElem?_eq_some_iff.1 rb3.out).1
            clear ra2 rb2
            have n8 : ¬ g8 = v3.heap.size := by omega
            have n9 : ¬ g9 = v3.heap.size := by omega
            have hsv3 : wc.heap.size ≤ v3.heap.size := HB3.out.size
            obtain ⟨c0, c1, c2⟩ := cells3 ra3.out
            obtain ⟨f0, f1, f2⟩ := cells3 rb3.out
            go_wp2_with fail
            refine (F4.out _).mono ?_
            rintro e v4 ⟨rfl, hb⟩
            obtain ⟨hb, r3, l4⟩ := laid1 hb
            have R3_4 := Lib.hid r3
            have HB4 := Lib.hid (HB3.out.trans (hb.mono (by omega)))
            have ra4 := Lib.hid ((hb.block g8 q8).trans ra3.out)
            have rb4 := Lib.hid ((hb.block g9 q9).trans rb3.out)
            have R1_4 := Lib.hid ((hb.block v1.heap.size (by omega)).trans R1_3.out)
            have R2_4 := Lib.hid ((hb.block v2.heap.size (by omega)).trans R2_3.out)
            clear hb r3 c0 c1 c2 f0 f1 f2 q8 q9 n8 n9
            clear R1_3
            clear R2_3
            have q8 : g8 < v4.heap.size := (Array.getElem?_eq_some_iff.1 ra4.out).1
            have q9 : g9 < v4.heap.size := (Array.getElem?_eq_some_iff.1 rb4.out).1
            clear ra3 rb3
            have n8 : ¬ g8 = v4.heap.size := by omega
            have n9 : ¬ g9 = v4.heap.size := by omega
            have hsv4 : wc.heap.size ≤ v4.heap.size := HB4.out.size
            obtain ⟨c0, c1, c2⟩ := cells3 ra4.out
            obtain ⟨f0, f1, f2⟩ := cells3 rb4.out
            go_wp2_with fail
            refine (F5.out _).mono ?_
            rintro e v5 ⟨rfl, hb⟩
            obtain ⟨hb, r4, l5⟩ := laid1 hb
            have R4_5 := Lib.hid r4
            have HB5 := Lib.hid (HB4.out.trans (hb.mono (by omega)))
            have ra5 := Lib.hid ((hb.block g8 q8).trans ra4.out)
            have rb5 := Lib.hid ((hb.block g9 q9).trans rb4.out)
            have R1_5 := Lib.hid ((hb.block v1.heap.size (by omega)).trans R1_4.out)
            have R2_5 := Lib.hid ((hb.block v2.heap.size (by omega)).trans R2_4.out)
            have R3_5 := Lib.hid ((hb.block v3.heap.size (by omega)).trans R3_4.out)
            clear hb r4 c0 c1 c2 f0 f1 f2 q8 q9 n8 n9
            clear R1_4
            clear R2_4
            clear R3_4
            have q8 : g8 < v5.heap.size := (Array.getElem?_eq_some_iff.1 ra5.out).1
            have q9 : g9 < v5.heap.size := (Array.getElem?_eq_some_iff.1 rb5.out).1
            clear ra4 rb4
            have n8 : ¬ g8 = v5.heap.size := by omega
            have n9 : ¬ g9 = v5.heap.size := by omega
            have hsv5 : wc.heap.size ≤ v5.heap.size := HB5.out.size
            obtain ⟨c0, c1, c2⟩ := cells3 ra5.out
            obtain ⟨f0, f1, f2⟩ := cells3 rb5.out
            go_wp2_with fail
            refine (F6.out _).mono ?_
            rintro e v6 ⟨rfl, hb⟩
            obtain ⟨hb, r5, l6⟩ := laid1 hb
            have R5_6 := Lib.hid r5
            have HB6 := Lib.hid (HB5.out.trans (hb.mono (by omega)))
            have ra6 := Lib.hid ((hb.block g8 q8).trans ra5.out)
            have rb6 := Lib.hid ((hb.block g9 q9).trans rb5.out)
            have R1_6 := Lib.hid ((hb.block v1.heap.size (by omega)).trans R1_5.out)
            have R2_6 := Lib.hid ((hb.block v2.heap.size (by omega)).trans R2_5.out)
            have R3_6 := Lib.hid ((hb.block v3.heap.size (by omega)).trans R3_5.out)
            have R4_6 := Lib.hid ((hb.block v4.heap.size (by omega)).trans R4_5.out)
            clear hb r5 c0 c1 c2 f0 f1 f2 q8 q9 n8 n9
            clear R1_5
            clear R2_5
            clear R3_5
            clear R4_5
            have q8 : g8 < v6.heap.size := (Array.getElem?_eq_some_iff.1 ra6.out).1
            have q9 : g9 < v6.heap.size := (Array.getElem?_eq_some_iff.1 rb6.out).1
            clear ra5 rb5
            have n8 : ¬ g8 = v6.heap.size := by omega
            have n9 : ¬ g9 = v6.heap.size := by omega
            have hsv6 : wc.heap.size ≤ v6.heap.size := HB6.out.size
            obtain ⟨c0, c1, c2⟩ := cells3 ra6.out
            obtain ⟨f0, f1, f2⟩ := cells3 rb6.out
            go_wp2_with fail
            clear c0 c1 c2 f0 f1 f2 n8 n9
            have N1 := neqSt x1 x2 x3
            have N2 := neqSt y1 y2 y3
            have N3 := neqSt z1 z2 z3
            refine Bag.region (fun wx => Below (v6.alloc (.cells #[.string z1, .string z2, .int .i64 z3] 24)).heap.size (v6.alloc (.cells #[.string z1, .string z2, .int .i64 z3] 24)) wx) (by kernel_rfl) (by kernel_rfl) (Below.refl _ _).drew ?_
            iterate 61 (first
                | (apply Bag.walk_yes (by rfl)
                   (intro wx hx K hK
                    obtain ⟨hbx, r6, l7⟩ := laid1 hx
                    obtain ⟨c0, c1, c2⟩ := cells3 ((hbx.block g8 q8).trans ra6.out)
                    obtain ⟨f0, f1, f2⟩ := cells3 ((hbx.block g9 q9).trans rb6.out)
                    obtain ⟨a10, a11, a12⟩ := cells3 ((hbx.block v1.heap.size (by omega)).trans R1_6.out)
                    obtain ⟨a20, a21, a22⟩ := cells3 ((hbx.block v2.heap.size (by omega)).trans R2_6.out)
                    obtain ⟨a30, a31, a32⟩ := cells3 ((hbx.block v3.heap.size (by omega)).trans R3_6.out)
                    obtain ⟨a40, a41, a42⟩ := cells3 ((hbx.block v4.heap.size (by omega)).trans R4_6.out)
                    obtain ⟨a50, a51, a52⟩ := cells3 ((hbx.block v5.heap.size (by omega)).trans R5_6.out)
                    obtain ⟨a60, a61, a62⟩ := cells3 r6
                    clear hbx r6 l7
                    first
                      | (go_simp
                         first
                          | (go_at_call 15; refine (F7.out _).mono ?_; rintro e w' ⟨rfl, hb⟩; exact hK _ (hx.trans (hb.mono hx.size)))
                          | (go_at_call 16; refine (F8.out _).mono ?_; rintro e w' ⟨rfl, hb⟩; exact hK _ (hx.trans (hb.mono hx.size)))
                          | (go_at_call 17; refine (F9.out _).mono ?_; rintro e w' ⟨rfl, hb⟩; exact hK _ (hx.trans (hb.mono hx.size)))
                          | (go_at_call 18; refine (F10.out _).mono ?_; rintro e w' ⟨rfl, hb⟩; exact hK _ (hx.trans (hb.mono hx.size)))
                          | (go_at_K; exact hK _ hx)))
                   rfl)
                | (refine Bag.walk_no (by rfl) ?_; simp only [Act.put, List.setIfInBounds_toArray, List.set_cons_succ, List.set_cons_zero]))
            refine Bag.walk_nil (fun w9 hB9 => ?_)
            have HB9 := Lib.hid (HB6.out.trans ((laid1 hB9).1.mono HB6.out.size))
            go_wp2_with fail
            go_roundw
            case rel => exact ⟨k + 1, by omega, by go_num, HAB.out.next HB9.out⟩
            case measure => simp [intOf]; omega
      · obtain rfl : k = 4 := by omega
        have hz := hm.sz
        have HM := Lib.hid hm
        clear hm
        go_wp2_with fail
        refine (FN.out _).mono ?_
        rintro e w2 ⟨rfl, hb⟩
        have HB := Lib.hid (HM.out.below.trans (hb.mono (by omega)))
        clear hb
        go_wp2_with fail
        go_ret
        exact ⟨rfl, HB.out⟩
  · rcases Bool.eq_false_or_eq_true (shortB ⟨a, b, sel⟩) with hS | hS
    · have hd5' : decide (2000 < (d.size : Int)) = true := by
        have : ¬ d.size ≤ 2000 := fun h => hs ⟨hS, h⟩
        simp; omega
      rw [hS] at FS
      clear hs hS
      go_enter Try.func3, Try.ntmps3
      go_wp2_with fail
      refine (FS.out _).mono ?_
      rintro e w1 ⟨rfl, hb⟩
      obtain ⟨hb, r0, r1, hlt⟩ := laid2 hb
      have HB := Lib.hid hb
      clear hb
      go_wp2_with fail
      refine (FN.out _).mono ?_
      rintro e w2 ⟨rfl, hb⟩
      have HB2 := Lib.hid (HB.out.trans (hb.mono (by omega)))
      go_wp2_with fail
      go_ret
      exact ⟨rfl, HB2.out⟩
    · rw [hS] at FS
      clear hs hS
      go_enter Try.func3, Try.ntmps3
      go_wp2_with fail
      refine (FS.out _).mono ?_
      rintro e w1 ⟨rfl, hb⟩
      obtain ⟨hb, r0, r1, hlt⟩ := laid2 hb
      have HB := Lib.hid hb
      clear hb
      go_wp2_with fail
      refine (FN.out _).mono ?_
      rintro e w2 ⟨rfl, hb⟩
      have HB2 := Lib.hid (HB.out.trans (hb.mono (by omega)))
      go_wp2_with fail
      go_ret
      exact ⟨rfl, HB2.out⟩
set_option maxRecDepth 100000 in
theorem lawStoreActs_lifted (os : Os) (started : os.Started) (H : Type) (enc : TypeId × Value → H) :
    ReturnsInHanded {} Try.checked os 3 .any (Rows.storeActsSpec.pre6 enc Try.prog Try.f3 Rows.storeActsRow.domain false) (Rows.storeActsSpec.post enc Try.prog Try.f3 false true false false) := by
  refine returnsInHanded_of_change (C := Try.checked) own started (by kernel_rfl) Try.func3
    (ChangeSpec.witness6 (enc := enc) (C := Try.checked) false ⟨#[], #[.agg #[.string ⟨#[]⟩, .string ⟨#[]⟩, .int .i64 0], .string ⟨#[]⟩, .agg #[.int .i64 0, .int .i64 0, .int .i64 0]], []⟩ 8 (by kernel_rfl) (by kernel_rfl) (by kernel_rfl) (by kernel_rfl)) ?_
  intro W base args ds gs before hval0 hW hcnd _
  have hval : ∀ (j : Nat) t v, Try.f3.params[j]? = some t → args[j]? = some v → Value.okWide Try.prog W .any base t v := hval0
  have hW' := hW
  obtain ⟨p, q, hA0, hV, rfl, hfz, hnd⟩ := hW
  have hA : DataW.TrodAll enc Try.prog W 0 (fun _ => true) true Try.f3.params.toList args.toList ds p := hA0
  rw [Try.params3] at hA hval
  obtain ⟨v0, vs0, d0, ds0, p0, q0, hargs, rfl, rfl, h0, r0⟩ := trodAll_cons hA
  obtain ⟨v1, vs1, d1, ds1, p1, q1, rfl, rfl, rfl, h1, r1⟩ := trodAll_cons r0
  obtain ⟨v2, vs2, d2, ds2, p2, q2, rfl, rfl, rfl, h2, r2⟩ := trodAll_cons r1
  obtain ⟨rfl, rfl, rfl⟩ := trodAll_nil r2
  obtain rfl : args = #[v0, v1, v2] := by cases args; simp_all
  obtain ⟨rfl, rfl⟩ := trodVars_none hV
  have k0 := h0
  have lt0 : ∀ x ∈ p0, x.block < W.heap.size := by obtain ⟨m, hm⟩ := k0; exact DataW.trod_lt m _ _ _ hm
  obtain ⟨x0, rfl, g0, m0, n0⟩ := open_st (hval 0 24 v0 rfl rfl) h0
  obtain ⟨x1, rfl, rfl, rfl, g1⟩ := ChangeMaps.open_string Try.underlying9 (hval 1 9 v1 rfl rfl) h1
  have k2 := h2
  have lt2 : ∀ x ∈ p2, x.block < W.heap.size := by obtain ⟨m, hm⟩ := k2; exact DataW.trod_lt m _ _ _ hm
  obtain ⟨x2, rfl, g2, m2, n2⟩ := open_pl (hval 2 26 v2 rfl rfl) h2
  clear hA0 hval0
  refine (lawStoreActs_walk x0 x1 x2 W g0 m0 n0 g1 g2 m2 n2).mono fun e W' ⟨he, bel⟩ => ?_
  subst he
  exact ⟨_, rfl, _, _, _, [], _, [], hW', trodAll_mk1 (shut_bool Try.underlying4 _), (trodAll_cons_mk (Below.trod laidOut (by kernel_rfl) (of_decide_eq_true (by kernel_rfl)) k0 bel lt0) (trodAll_cons_mk (ChangeMaps.shut_string Try.underlying9 g1) (trodAll_cons_mk (Below.trod laidOut (by kernel_rfl) (of_decide_eq_true (by kernel_rfl)) k2 bel lt2) trodAll_mk0))), rfl, bel.frame _, fun h => by cases h⟩

theorem lawStoreActs_over : Rows.storeActsRow.holds Try.pinned (OpenSpec.ofChange Rows.storeActsSpec) :=
  OpenClaim.holds_of_wide 3 Try.f3 rfl rfl rfl rfl rfl rfl rfl ⟨rfl, rfl, rfl, rfl, rfl⟩ rfl rfl rfl rfl rfl (by kernel_rfl) Try.func3 (by kernel_rfl)
    (of_decide_eq_true (by kernel_rfl)) (by unfold Func.isWrapper; first | (rw [if_pos (by decide +kernel)]; kernel_rfl) | (rw [if_neg (by decide +kernel)]; exact ⟨rfl, rfl⟩))
    (fun os started H enc _ => lawStoreActs_lifted os started H enc)

theorem storeActs_holds : Rows.StoreActsSaid := lawStoreActs_over
#print axioms storeActs_holds
end Go.Proofs.Ytanodbpeeahmaaa
