/- What the texts behind this one rest on: several texts in one. No statement of the seat is proved here. -/
import Derived.Test.YtmonbldmgmmnbaaLM13
import Derived.Test.YtmonbldmgmmnbaaLM03
import Derived.Test.YtmonbldmgmmnbaaLM02
import Derived.RangeFuncNested
import Derived.RangeFuncBound
import Derived.RangeFuncCalls
import Derived.RangeFuncLeaves
import Derived.RangeFuncBox
import Derived.Shelf.Abstract
import Derived.Shelf.RegionOpen
import Derived.WalkKit
import Derived.OwnWalkIn
import Derived.TacticsInMore
import Derived.LoopNIn
import Derived.LoopIn
import Derived.Maps.AppendAt
namespace Go.Proofs.Ytmonbldmgmmnbaa
section
open Go.RowKit

set_option maxRecDepth 100000

theorem Lit.drew {B b : Nat} {W1 wx : World} {row : Obj} (h : Lit B W1 b row wx) {n : Nat} : Lit B W1 b row { wx with drawn := n } := ⟨⟨h.below.os, h.below.tape, h.below.output, h.below.size, h.below.block⟩, h.size, h.row⟩
theorem lit_box {w wx : World} {A Z : Obj} {b : Nat} {row : Obj} (h : Lit (w.heap.size + 2) ((w.alloc A).alloc Z) b row wx) : Below (w.heap.size + 1) (w.alloc A) wx :=
  ((Below.refl (w.heap.size + 1) (w.alloc A)).alloc (by simp) Z).trans (h.below.mono (by omega))
theorem size1 {w wx : World} {o : Obj} (h : Below (w.heap.size + 1) (w.alloc o) wx) : w.heap.size + 1 ≤ wx.heap.size := by
  have := h.size
  simpa using this
theorem boxCs {w wx : World} {c : Cs} (h : Below (w.heap.size + 1) (w.alloc (.cells #[.int .u32 c.up, .int .u32 c.dn] 61)) wx) :
    wx.cell? ⟨w.heap.size, 0, none⟩ = some (.int .u32 c.up) ∧ wx.cell? ⟨w.heap.size, 1, none⟩ = some (.int .u32 c.dn) := ⟨cell_new_below h 0, cell_new_below h 1⟩
set_option maxHeartbeats 1000000 in
theorem has_any (c : Cs) (f d : Int) (w : World) (hc : c.ok) :
    Calls Try.prog 85 #[c.agg, .int .i64 f, .int .i64 d] w fun e w' => e = .returned (.bool (Cs.has c f d)) ∧ Below w.heap.size w w' := by
  have F := Lib.hid (fun w => one_any f d w)
  have G := Lib.hid (fun w => both_any c (Cs.one f d) w hc (Cs.one_ok f d))
  have HBX := Lib.hid (fun (wx : World) (h : Below (w.heap.size + 1) (w.alloc (.cells #[.int .u32 c.up, .int .u32 c.dn] 61)) wx) => boxCs h)
  have HH : Cs.has c f d = !(Cs.eqB (Cs.both c (Cs.one f d)) Cs.empty) := rfl
  rw [HH]
  clear HH
  generalize Cs.both c (Cs.one f d) = B at *
  generalize Cs.one f d = O at *
  obtain ⟨c1, c2⟩ := c
  obtain ⟨b1, b2⟩ := B
  obtain ⟨o1, o2⟩ := O
  simp only [Cs.agg, Cs.eqB, Cs.empty] at *
  clear hc
  have hne := fun wx => neqCs (b1 : Int) (b2 : Int) 0 0 wx
  have hq : (!((b1 : Int) == 0 && (b2 : Int) == 0)) = !(b1 == 0 && b2 == 0) := by cases b1 <;> cases b2 <;> rfl
  rw [hq] at hne
  clear hq
  generalize (!(b1 == 0 && b2 == 0)) = r at *
  go_enter Try.func85, Try.ntmps85
  go_wp2_with fail
  refine Bag.region (fun wx => Below (w.heap.size + 1) (w.alloc (.cells #[.int .u32 c1, .int .u32 c2] 61)) wx) (by kernel_rfl) (by kernel_rfl) (Below.refl _ _).drew ?_
  iterate 8 (first
      | (apply Bag.walk_yes (by rfl)
         (intro wx hx K hK
          obtain ⟨k0, k1⟩ := HBX.out _ hx
          first
            | (go_simp
               first
                | (go_at_call 107; refine (F.out _).mono ?_; rintro e x1 ⟨rfl, hb⟩; exact hK _ (hx.trans (hb.mono (size1 hx))))
                | (go_at_call 106; refine (G.out _).mono ?_; rintro e x1 ⟨rfl, hb⟩; exact hK _ (hx.trans (hb.mono (size1 hx))))
                | (go_at_K; exact hK _ hx)))
         rfl)
      | (refine Bag.walk_no (by rfl) ?_; simp only [Act.put, List.setIfInBounds_toArray, List.set_cons_succ, List.set_cons_zero]))
  refine Bag.walk_nil (fun w1 hB => ?_)
  go_wp2
  go_ret
  exact ⟨rfl, below_of_new hB⟩

theorem bit_test {x k : Nat} (hx : x < 4294967296) : (bits .and .u32 ((x : Int) / 2 ^ k) 1 == 1) = x.testBit k := by
  have e : (x : Int) / 2 ^ k = ((x / 2 ^ k : Nat) : Int) := by rw [Int.natCast_ediv, Int.natCast_pow]; rfl
  have hl : x / 2 ^ k < 4294967296 := Nat.lt_of_le_of_lt (Nat.div_le_self _ _) hx
  have h1 := u32_and_nat (x / 2 ^ k) 1 hl (by decide)
  rw [e]
  rw [Nat.and_one_is_mod] at h1
  rw [show ((1 : Nat) : Int) = 1 from rfl] at h1
  rw [h1, Nat.testBit_eq_decide_div_mod_eq]
  by_cases h : x / 2 ^ k % 2 = 1
  · rw [h]; rfl
  · rw [decide_eq_false h]
    exact beq_eq_false_iff_ne.2 (by omega)
set_option maxHeartbeats 1000000 in
theorem refHas_any (c : Cs) (f d : Int) (w : World) (hc : c.ok) :
    Calls Try.prog 80 #[c.agg, .int .i64 f, .int .i64 d] w fun e w' => e = .returned (.bool (Cs.has c f d)) ∧ Below w.heap.size w w' := by
  by_cases h0 : 0 ≤ f ∧ f < 32
  · obtain ⟨k, rfl⟩ : ∃ k : Nat, f = (k : Int) := ⟨f.toNat, by omega⟩
    have hk : k < 32 := by omega
    have g0 : (0 : Int) ≤ (k : Int) := by omega
    have g1 : (k : Int) < 32 := by omega
    by_cases h1 : d = 1
    · subst h1
      rw [Cs.has_up hc hk]
      have HB := bit_test (k := k) hc.1
      obtain ⟨c1, c2⟩ := c
      simp only [Cs.agg]
      simp only at HB
      clear hc h0
      cases hb : c1.testBit k
      all_goals
        rw [hb] at HB
        go_enter Try.func80, Try.ntmps80
        go_wp2
        go_ret
        exact ⟨rfl, by go_grown⟩
    · by_cases h2 : d = 2
      · subst h2
        rw [Cs.has_dn hc hk]
        have HB := bit_test (k := k) hc.2
        obtain ⟨c1, c2⟩ := c
        simp only [Cs.agg]
        simp only at HB
        clear hc h0
        cases hb : c2.testBit k
        all_goals
          rw [hb] at HB
          go_enter Try.func80, Try.ntmps80
          go_wp2
          go_ret
          exact ⟨rfl, by go_grown⟩
      · rw [Cs.has_dir c _ h1 h2]
        have q1 : (d == 1) = false := beq_eq_false_iff_ne.2 h1
        have q2 : (d == 2) = false := beq_eq_false_iff_ne.2 h2
        obtain ⟨c1, c2⟩ := c
        simp only [Cs.agg]
        clear hc h0
        go_enter Try.func80, Try.ntmps80
        go_wp2
        go_ret
        exact ⟨rfl, by go_grown⟩
  · rw [Cs.has_floor c h0]
    obtain ⟨c1, c2⟩ := c
    simp only [Cs.agg]
    by_cases hn : f < 0
    · go_enter Try.func80, Try.ntmps80
      go_wp2
      go_ret
      exact ⟨rfl, by go_grown⟩
    · have hb : 31 < f := by omega
      go_enter Try.func80, Try.ntmps80
      go_wp2
      go_ret
      exact ⟨rfl, by go_grown⟩

end

section
open Go.RowKit

set_option maxHeartbeats 4000000 in
theorem refList_any (c : Cs) (w : World) (hc : c.ok) :
    Calls Try.prog 51 #[c.agg] w fun e w' => ∃ v, e = .returned v ∧ EV w' v (Cs.ents c) ∧ Below w.heap.size w w' := by
  obtain ⟨i0, hi0, hz0, hz1, hz2⟩ := info_parts enInfo
  have F := Lib.hid (fun (k d : Nat) w => refHas_any c k d w hc)
  have HBX := Lib.hid (fun (wx : World) (h : Below (w.heap.size + 1) (w.alloc (.cells #[.int .u32 c.up, .int .u32 c.dn] 61)) wx) => boxCs h)
  have HY := Lib.hid (fun k d hk h1 h2 hh => Cs.partE_yes (c := c) (k := k) (d := d) hc hk h1 h2 hh)
  have HNO := Lib.hid (fun k d hk h1 h2 hh => Cs.partE_no (c := c) (k := k) (d := d) hc hk h1 h2 hh)
  have HX := Lib.hid (And.intro (Cs.partE_next c) (And.intro (Cs.partE_end c) (Cs.partE_zero c)))
  have HLE := Lib.hid (fun k d hk => Cs.partE_le c (k := k) (d := d) hk)
  generalize Cs.ents c = E at *
  generalize Cs.partE c = pt at *
  obtain ⟨hs, hhs⟩ : ∃ hs : Nat → Nat → Bool, ∀ k d : Nat, Cs.has c k d = hs k d := ⟨_, fun _ _ => rfl⟩
  have HHS := Lib.hid hhs
  simp only [hhs] at F HY HNO
  clear hhs HHS
  obtain ⟨c1, c2⟩ := c
  simp only [Cs.agg] at *
  clear hc
  go_enter Try.func51, Try.ntmps51
  go_wp2_with fail
  have hW0 : Below (w.heap.size + 1) (w.alloc (.cells #[.int .u32 c1, .int .u32 c2] 61)) (w.alloc (.cells #[.int .u32 c1, .int .u32 c2] 61)) := Below.refl _ _
  have HW0 := Lib.hid hW0
  clear hW0
  go_loopw [3, 4, 5] (fun v f d wr => ∃ k : Nat, k ≤ 32 ∧ f = .int .i64 k ∧ wr.ownsRow (w.heap.size + 1) 71 5 v (pt k 1).length (flatE (pt k 1)) ∧ Below (w.heap.size + 1) (w.alloc (.cells #[.int .u32 c1, .int .u32 c2] 61)) wr) (fun _ f _ _ => 32 - (intOf f).toNat)
  case atStart => exact ⟨0, by omega, rfl, by rw [HX.out.2.2]; exact World.ownsRow_nil _ _ _ _, HW0.out⟩
  case round =>
    obtain ⟨k, hk, rfl, hown, hbw⟩ := hrel
    by_cases hlt : k < 32
    · have HW := Lib.hid (And.intro hown hbw)
      clear hown hbw
      have hd : decide ((k : Int) < 32) = true := decide_eq_true (by omega)
      go_wp2_with fail
      go_loopw [3, 5] (fun v d wr => ∃ m : Nat, 1 ≤ m ∧ m ≤ 3 ∧ d = .int .i64 m ∧ wr.ownsRow (w.heap.size + 1) 71 5 v (pt k m).length (flatE (pt k m)) ∧ Below (w.heap.size + 1) (w.alloc (.cells #[.int .u32 c1, .int .u32 c2] 61)) wr) (fun _ d _ => 3 - (intOf d).toNat)
      case atStart => exact ⟨1, by omega, by omega, rfl, HW.out.1, HW.out.2⟩
      case round =>
        obtain ⟨m, hm1, hm3, rfl, hown, hbw⟩ := hrel
        have HW2 := Lib.hid (And.intro hown hbw)
        obtain ⟨k0, k1⟩ := HBX.out _ hbw
        have hsz := size1 hbw
        clear hown hbw
        by_cases hm : m < 3
        · have hle := HLE.out k m hlt
          have hd2 : decide ((m : Int) ≤ 2) = true := decide_eq_true (by omega)
          cases hh : hs k m
          · have hno := Lib.hid (HNO.out k m hlt hm1 (by omega) hh)
            have F1 := Lib.hid (fun w => F.out k m w)
            rw [hh] at F1
            clear hh
            go_wp2_with fail
            refine (F1.out _).mono ?_
            rintro e w2 ⟨rfl, hb⟩
            have HB := Lib.hid hb
            clear hb k0 k1
            go_wp2_with fail
            go_roundw
            case rel => exact ⟨m + 1, by omega, by omega, by go_num, by rw [hno.out]; exact own_of_blocks HW2.out.1 (fun j _ hj => HB.out.block j hj), HW2.out.2.trans (HB.out.mono hsz)⟩
            case measure => simp [intOf]; omega
          · have hyes := Lib.hid (HY.out k m hlt hm1 (by omega) hh)
            have F1 := Lib.hid (fun w => F.out k m w)
            rw [hh] at F1
            clear hh
            go_wp2_with fail
            refine (F1.out _).mono ?_
            rintro e w2 ⟨rfl, hb⟩
            have HO := Lib.hid (own_of_blocks HW2.out.1 (fun j _ hj => hb.block j hj))
            have HB := Lib.hid (HW2.out.2.trans (hb.mono hsz))
            have hsz2 := size1 HB.out
            clear hb k0 k1
            have hm63 : (pt k m).length + 1 ≤ maxLen := by unfold maxLen; omega
            go_wp2_with (at_builtin; refine wpList_append_own _ rfl (.tmp 18) (.tmp 22) 30 rfl (w.heap.size + 1) 71 i0 _ 5 40 Try.underlying30 hi0 hz0 hz1 hz2 rfl (by decide) u3 (pt k m).length (flatE (pt k m)) rfl (HO.out.alloc _) ⟨w2.heap.size, 0, none⟩ 1 1 _ rfl ?hl (World.news_of_block (heap_alloc_new _ _)) ?h1 hm63 ?hby ?hbase ?hK)
            case h1 => exact ⟨rfl, rfl, rfl, rfl, rfl⟩
            case hby => omega
            case hbase => simp; omega
            intro v' w' hown' hgrow _
            have hbw' := (HB.out.alloc (by omega) _).grown hgrow (by simp; omega) (fun k hk => by have := HO.out.lt k hk; omega)
            have hown2 : w'.ownsRow (w.heap.size + 1) 71 5 v' (pt k (m + 1)).length (flatE (pt k (m + 1))) := by rw [hyes.out, flatE_append, List.length_append]; exact hown'
            have HF := Lib.hid (And.intro hown2 hbw')
            clear hbw' hown2 hown' hgrow
            go_wp2_with fail
            go_roundw
            case rel => exact ⟨m + 1, by omega, by omega, by go_num, HF.out.1, HF.out.2⟩
            case measure => simp [intOf]; omega
        · obtain rfl : m = 3 := by omega
          clear k0 k1
          go_wp2_with fail
          go_roundw
          case rel => exact ⟨k + 1, by omega, by go_num, by rw [HX.out.1]; exact HW2.out.1, HW2.out.2⟩
          case measure => simp [intOf]; omega
    · obtain rfl : k = 32 := by omega
      have HW := Lib.hid (And.intro hown hbw)
      clear hown hbw
      go_wp2_with fail
      go_ret
      exact ⟨_, rfl, (EV.of_own (HX.out.2.1 ▸ HW.out.1)).2, below_of_new HW.out.2⟩
set_option maxHeartbeats 1000000 in
theorem refCount_any (c : Cs) (w : World) (hc : c.ok) :
    Calls Try.prog 28 #[c.agg] w fun e w' => e = .returned (.int .i64 (Cs.count c)) ∧ Below w.heap.size w w' := by
  have F := Lib.hid (fun w => refList_any c w hc)
  have hl := Cs.ents_len hc
  rw [← hl]
  obtain ⟨c1, c2⟩ := c
  simp only [Cs.agg] at *
  generalize Cs.ents _ = E at *
  clear hc hl
  go_enter Try.func28, Try.ntmps28
  go_wp2_with fail
  refine (F.out _).mono ?_
  rintro e w1 ⟨v, rfl, ⟨A, cap, rfl, -⟩, hb⟩
  have HB := Lib.hid hb
  clear hb
  go_wp2_with fail
  go_ret
  exact ⟨rfl, below_of_new (HB.out.mono (by simp))⟩
end

section
open Go.RowKit Go.Shelf

attribute [local go_sem] Oper.semAt_some

theorem Below.grows {W W' : World} (h : Below W.heap.size W W') : W.grownBy W' none := ⟨h.os, h.tape, h.output, h.size, fun k hk _ => h.block k hk⟩

/-- Block b lies as it lay, and nothing has gone. -/
structure KeepB (b : Nat) (W W' : World) : Prop where
  size : W.heap.size ≤ W'.heap.size
  block : W'.heap[b]? = W.heap[b]?
theorem KeepB.refl (b : Nat) (W : World) : KeepB b W W := ⟨Nat.le_refl _, rfl⟩
theorem KeepB.trans {b : Nat} {A B C : World} (h : KeepB b A B) (k : KeepB b B C) : KeepB b A C := ⟨Nat.le_trans h.size k.size, k.block.trans h.block⟩
theorem KeepB.of {b : Nat} {W W' : World} (h : Below W.heap.size W W') (hb : b < W.heap.size) : KeepB b W W' := ⟨h.size, h.block b hb⟩
theorem KeepB.cell {b i : Nat} {W W' : World} (h : KeepB b W W') : W'.cell? ⟨b, i, none⟩ = W.cell? ⟨b, i, none⟩ := World.cell?_of_block (a := ⟨b, i, none⟩) h.block
theorem keepB_b {b : Nat} {w : World} (hb : b < w.heap.size) (W : World) (l : Nat) (o o' : Obj) (hl : w.heap.size ≤ l) (h : W.heap[l]? = some o) (_ : o.isCells = false) (_ : o.isWalk = false) : KeepB b W (W.putObj l o') := by
  have hg := grownBy_putObj' W l o'
  have hlt := (Array.getElem?_eq_some_iff.1 h).1
  exact ⟨hg.size, hg.block b (by omega) (fun e => by injection e with e; omega)⟩

abbrev encP (x : Nat × Nat) : Array Value := #[.int .i64 x.1, .int .i64 x.2]

end

section
open Go.RowKit

end

section
open Go.RowKit Go.Shelf

attribute [local go_sem] Oper.semAt_some

theorem ownFrom_keepB {β : Type} {b B : Nat} {W0 : World} (hb : b < W0.heap.size) (hB : b < B) : OwnFrom B (fun (_ : β) W => KeepB b W0 W) :=
  fun _ W W' row hs hg hr => hs.trans ⟨hg.size, hg.block b (Nat.lt_of_lt_of_le hb hs.size) (fun e => by have := (hr b e.symm).1; omega)⟩
theorem not_row {W : World} {b base size k : Nat} {t e : TypeId} {cs : Array Value} {fr : Nat × Nat} {v : Value} {xs : List Value} (h : W.heap[b]? = some (.cells cs t fr)) (hte : t ≠ e) (hr : W.ownsRow base e size v k xs) : some b ≠ v.ownBlock := by
  rcases hr.2 with ⟨rfl, _⟩ | ⟨g, cap, cur, rfl, _, hgb, _⟩
  · simp [Value.ownBlock]
  · intro e'
    obtain rfl : b = g := by simpa [Value.ownBlock] using e'
    have := h.symm.trans hgb
    simp at this
    exact hte this.2.1
theorem en_one (x : Nat × Nat) : ∀ u ∈ (Cs.en x).cells, u.oneCell' = true := by
  intro u hu
  simp only [En.cells, List.mem_cons, List.not_mem_nil, or_false] at hu
  rcases hu with rfl | rfl | rfl | rfl | rfl <;> rfl

end

section
open Go.RowKit

set_option maxRecDepth 100000

theorem ofT_zero (l : List En) : Cs.of (l.take 0) = ⟨0, 0⟩ := rfl
theorem ofT_end (l : List En) : Cs.of (l.take l.length) = Cs.of l := by rw [List.take_length]
theorem ofT_succ (l : List En) {k : Nat} (h : k < l.length) : Cs.of (l.take (k + 1)) = Cs.union (Cs.of (l.take k)) (Cs.one (l[k]).f (l[k]).d) := by rw [← List.take_append_getElem h, Cs.of_snoc]

set_option maxHeartbeats 4000000 in
theorem refOf_any (l : List En) (A : Option Addr) (cap : Nat) (w : World) (hA : EAt w A l) (hl : l.length ≤ 1000000) :
    Calls Try.prog 27 #[.slice A l.length cap] w fun e w' => e = .returned (Cs.of l).agg ∧ Below w.heap.size w w' := by
  have HA := Lib.hid hA
  have hE := ofT_end l
  have hZ := ofT_zero l
  have hS := fun k (h : k < l.length) => ofT_succ l h
  have FU := Lib.hid (fun k f d w => refUnion_any (Cs.of (l.take k)) (Cs.one f d) w (Cs.of_ok _) (Cs.one_ok _ _))
  have FO := Lib.hid (fun f d w => refOne_any f d w)
  generalize hO : (fun k => Cs.of (l.take k)) = O at *
  have hO' : ∀ k, Cs.of (l.take k) = O k := fun k => congrFun hO k
  simp only [hO'] at hE hZ hS FU
  have HE := Lib.hid (And.intro hE (And.intro hZ hS))
  clear hE hZ hS hO hO' hA
  generalize Cs.of l = R at *
  simp only [Cs.agg] at *
  go_enter Try.func27, Try.ntmps27
  go_wp2_with fail
  have hW0 : ((w.alloc (.cells #[.int .u32 0, .int .u32 0] 61)).alloc (.cells #[.int .u32 0, .int .u32 0] 61)).heap[w.heap.size + 1]? = some (.cells #[.int .u32 (O 0).up, .int .u32 (O 0).dn] 61 (0, 0)) := by rw [HE.out.2.1]; exact last2 w _ _
  have HW0 := Lib.hid hW0
  clear hW0
  go_loopw [4] (fun v wr => ∃ k : Nat, k ≤ l.length ∧ v = .int .i64 k ∧ Lit (w.heap.size + 1) (w.alloc (.cells #[.int .u32 0, .int .u32 0] 61)) (w.heap.size + 1) (.cells #[.int .u32 (O k).up, .int .u32 (O k).dn] 61 (0, 0)) wr) (fun v _ => l.length - (intOf v).toNat)
  case atStart => exact ⟨0, Nat.zero_le _, rfl, ⟨(Below.refl _ _).alloc (by simp) _, by simp, HW0.out⟩⟩
  case round =>
    obtain ⟨k, hk, rfl, hL⟩ := hrel
    have hlt1 := hL.lt
    have HL := Lib.hid hL
    clear hL
    by_cases hlt : k < l.length
    · have hbw : Below w.heap.size w wr := below_of_new HL.out.below
      obtain ⟨b, off, rfl, hb, r0, r1, r2, r3, r4⟩ := (HA.out.below hbw).at_ hlt
      have hb0 : b < w.heap.size := by
        rcases HA.out with h | ⟨b2, off2, e, hr⟩
        · rw [h] at hlt; exact absurd hlt (Nat.not_lt_zero _)
        · obtain ⟨rfl, rfl, -⟩ : b = b2 ∧ off = off2 ∧ True := by injection e with e; injection e with e1 e2 e3; exact ⟨e1, e2, trivial⟩
          exact World.block_lt_of_cell? w _ (hr (k * 5 + 0) _ (flatE_get l k hlt 0 (by omega)))
      have hS := HE.out.2.2 k hlt
      have F1 := Lib.hid (fun w => FO.out (l[k]).f (l[k]).d w)
      have F2 := Lib.hid (fun w => FU.out k (l[k]).f (l[k]).d w)
      rw [← hS] at F2
      clear hS hbw
      generalize l[k] = x at *
      obtain ⟨xf, xd, xc, xm, xb⟩ := x
      generalize Cs.one xf xd = B1 at *
      obtain ⟨b1, b2⟩ := B1
      generalize hS1 : O (k + 1) = S1 at *
      have HS1 := Lib.hid hS1
      generalize hS0 : O k = S0 at *
      clear hS1 hS0
      obtain ⟨n1, n2⟩ := S1
      obtain ⟨s1, s2⟩ := S0
      simp only at HL F1 F2 r0 r1 r2 r3 r4
      have hd : decide ((k : Int) < (l.length : Int)) = true := decide_eq_true (by omega)
      go_wp2_with fail
      refine Chain.chain (fun p wx => Put (wr) (w.heap.size + 1) (.cells (if p = 0 then #[.int .u32 s1, .int .u32 s2] else #[.int .u32 n1, .int .u32 n2]) 61 (0, 0)) wx) (fun _ _ => False) [13] (by kernel_rfl) (by kernel_rfl) (fun _ _ _ _ h => h.elim) ((Put.start HL.out.row).drew) ?_
      iterate 13 (first
          | (apply Chain.walk_quiet (by rfl) (by decide)
             (intro p wx hp hwn hx K hK
              obtain rfl : p = 0 := (by rcases Nat.lt_or_ge p 1 with h | h; exact Nat.lt_one_iff.1 h; obtain rfl : p = 1 := Nat.le_antisymm hp h; exact absurd ((Eq.symm (show _ = false by kernel_rfl)).trans hwn) Bool.false_ne_true)
              have z0 := hx.cell 0
              have z1 := hx.cell 1
              simp only [if_true, List.getElem?_toArray, List.getElem?_cons_zero, List.getElem?_cons_succ] at z0 z1
              have y0 := (hx.cellOf (k := b) (i := off + k * 5) hb (by omega)).trans r0
              have y1 := (hx.cellOf (k := b) (i := off + k * 5 + 1) hb (by omega)).trans r1
              first
                | (go_simp
                   first
                    | (go_at_call 24; with_reducible refine (F1.out _).mono ?_; rintro e x1 ⟨rfl, hb'⟩; exact hK _ (hx.next hb'))
                    | (go_at_call 25; with_reducible refine (F2.out _).mono ?_; rintro e x1 ⟨rfl, hb'⟩; exact hK _ (hx.next hb'))
                    | (go_at_K; exact hK _ hx)))
             exact ⟨_, rfl⟩)
          | (refine Chain.walk_no (by rfl) (by decide) ?_; simp only [Act.put, List.setIfInBounds_toArray, List.set_cons_succ, List.set_cons_zero]))
      apply Chain.walk_turn 0 (by rfl) (by rfl)
      · intro wx hx K hK
        exact Put.store 61 _ _ rfl rfl rfl hx (by kernel_rfl) rfl (by kernel_rfl) (fun w2 h => hK w2 h)
      · exact ⟨undef, rfl⟩
      refine Chain.walk_nil (fun w9 hB => ?_)
      replace hB : Put (wr) (w.heap.size + 1) (.cells #[.int .u32 n1, .int .u32 n2] 61 (0, 0)) w9 := hB
      simp only [Act.put]
      have hL9 : Lit (w.heap.size + 1) (w.alloc (.cells #[.int .u32 0, .int .u32 0] 61)) (w.heap.size + 1) (.cells #[.int .u32 n1, .int .u32 n2] 61 (0, 0)) w9 :=
        ⟨HL.out.below.trans (hB.below (Nat.le_refl _) (by omega)), Nat.le_trans HL.out.size (Nat.le_trans (Nat.le_refl _) hB.size), hB.row⟩
      have HL9 := Lib.hid hL9
      clear hL9 hB
      go_wp2_with fail
      go_roundw
      case rel => exact ⟨k + 1, by omega, by go_num, by rw [HS1.out]; exact HL9.out⟩
      case measure => simp [intOf]; omega
    · obtain rfl : k = l.length := by omega
      rw [HE.out.1] at HL
      obtain ⟨r1, r2⟩ := R
      have hr1 : wr.heap[w.heap.size]? = some (.cells #[.int .u32 0, .int .u32 0] 61 (0, 0)) := (HL.out.below.block _ (by omega)).trans (last1 w _)
      have z0 := HL.out.cell 0
      have z1 := HL.out.cell 1
      simp only [List.getElem?_toArray, List.getElem?_cons_zero, List.getElem?_cons_succ] at z0 z1
      have hL1 : Lit w.heap.size w w.heap.size (.cells #[.int .u32 0, .int .u32 0] 61 (0, 0)) wr := ⟨below_of_new HL.out.below, by omega, hr1⟩
      have y0 := hL1.cell 0
      have y1 := hL1.cell 1
      simp only [List.getElem?_toArray, List.getElem?_cons_zero, List.getElem?_cons_succ] at y0 y1
      have q0 := hL1.free 0
      have q1 := hL1.free 1
      have HL1 := Lib.hid hL1
      clear hL1 hr1
      go_wp2
      have hE9 := HL1.out.put2 (Nat.le_refl _) rfl (.int .u32 r1) (.int .u32 r2)
      exact bodyPost_ret (results_cell_row Try.results27 _ _ _ _ _ (0, 0) _ rfl (hE9.row) Try.underlying61 rfl (by kernel_rfl)) rfl (⟨rfl, hE9.below⟩)
end
end Go.Proofs.Ytmonbldmgmmnbaa
