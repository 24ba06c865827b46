/- The reference's entered: another entry, in its place. No statement of the seat is proved here. -/
import Derived.Test.YtifbkoaggjikpaaLgRefIs
namespace Go.Proofs.Ytifbkoaggjikpaa
open Go.RowKit Lg Img

namespace Lg
def stE (e : En) (s : List En × Bool) (x : En) : List En × Bool := if s.2 = false ∧ lessE e x = true then ((s.1 ++ [e]) ++ [x], true) else (s.1 ++ [x], s.2)
def outE (e : En) (l : List En) : List En × Bool := l.foldl (stE e) ([], false)
theorem stE_true (e : En) : ∀ l o : List En, l.foldl (stE e) (o, true) = (o ++ l, true)
  | [], o => by simp
  | a :: r, o => by
    rw [List.foldl_cons, show stE e (o, true) a = (o ++ [a], true) from if_neg (by simp), stE_true e r]
    simp
theorem stE_ins (e : En) : ∀ l o : List En, (if (l.foldl (stE e) (o, false)).2 = true then (l.foldl (stE e) (o, false)).1 else (l.foldl (stE e) (o, false)).1 ++ [e]) = o ++ ins e l
  | [], o => by simp [ins]
  | a :: r, o => by
    rw [List.foldl_cons]
    unfold ins
    by_cases h : lessE e a = true
    · rw [show stE e (o, false) a = ((o ++ [e]) ++ [a], true) from if_pos ⟨rfl, h⟩, stE_true, if_pos h]
      simp
    · rw [show stE e (o, false) a = (o ++ [a], false) from if_neg (fun hh => h hh.2), if_neg h, stE_ins e r]
      simp
theorem outE_yes {e : En} {l : List En} (h : (outE e l).2 = true) : (outE e l).1 = ins e l := by
  have := stE_ins e l []
  rw [List.nil_append] at this
  rw [← this]
  exact (if_pos h).symm
theorem outE_no {e : En} {l : List En} (h : (outE e l).2 = false) : (outE e l).1 ++ [e] = ins e l := by
  have := stE_ins e l []
  rw [List.nil_append] at this
  rw [← this]
  exact (if_neg (by unfold outE at h; rw [h]; decide)).symm
theorem outE_succ (e : En) {l : List En} {k : Nat} (h : k < l.length) : outE e (l.take (k + 1)) = stE e (outE e (l.take k)) l[k] := by
  unfold outE
  rw [List.take_succ_eq_append_getElem h, List.foldl_append]
  rfl
theorem outE_len (e : En) (l : List En) : (outE e l).1.length ≤ l.length + 1 := by
  cases h : (outE e l).2
  · have := congrArg List.length (outE_no h)
    rw [ins_len', List.length_append] at this
    simp at this
    omega
  · rw [outE_yes h, ins_len']
    exact Nat.le_refl _
end Lg
set_option maxRecDepth 100000 in
set_option maxHeartbeats 4000000 in
theorem refEntered_any (e : En) (l : List En) (A : Option Addr) (c : Nat) (w : World) (hA : EAt w A l) (hl : l.length ≤ 1000000) :
    Calls Try.prog 45 #[.slice A l.length c, e.agg] w fun r w' => ∃ v', r = .returned v' ∧ w'.ownsRow w.heap.size 71 5 v' (l.length + 1) (flatE (ins e l)) ∧ Below w.heap.size w w' := by
  obtain ⟨i0, hi0, hz0, hz1, hz2⟩ := info_parts enInfo
  have HA := Lib.hid hA
  have FL := Lib.hid (fun x wx => refLess_any e x wx)
  have HZ := Lib.hid (show outE e (l.take 0) = ([], false) from rfl)
  have HN := Lib.hid (fun k (hk : k < l.length) => outE_succ e hk)
  have HLT := Lib.hid (fun k => Nat.le_trans (outE_len e (l.take k)) (by rw [List.length_take]; omega : (l.take k).length + 1 ≤ k + 1))
  have HL2 := Lib.hid (ins_len' e l)
  have HY := Lib.hid (fun (h : (outE e (l.take l.length)).2 = true) => (by rw [List.take_length] at h ⊢; exact outE_yes h : (outE e (l.take l.length)).1 = ins e l))
  have HNO := Lib.hid (fun (h : (outE e (l.take l.length)).2 = false) => (by rw [List.take_length] at h ⊢; exact outE_no h : (outE e (l.take l.length)).1 ++ [e] = ins e l))
  clear hA
  generalize ins e l = insl at *
  generalize hOE : (fun k => outE e (l.take k)) = OE at *
  have hOE' : ∀ k, outE e (l.take k) = OE k := fun k => congrFun hOE k
  simp only [hOE'] at HZ HN HLT HY HNO
  clear hOE hOE'
  have HEC := Lib.hid (show e.cells = [.int .i64 e.f, .int .i64 e.d, .int .i64 e.car, .int .i64 e.mv, .bool e.md] from rfl)
  obtain ⟨e1, e2, e3, e4, e5⟩ := e
  simp only [En.agg] at *
  have HE0 := Lib.hid (heap_alloc_new w (.cells #[.int .i64 e1, .int .i64 e2, .int .i64 e3, .int .i64 e4, .bool e5] 71))
  have HST := Lib.hid (show Below (w.heap.size + 1) (w.alloc (.cells #[.int .i64 e1, .int .i64 e2, .int .i64 e3, .int .i64 e4, .bool e5] 71)) (w.alloc (.cells #[.int .i64 e1, .int .i64 e2, .int .i64 e3, .int .i64 e4, .bool e5] 71)) from Below.refl _ _)
  go_enter Try.func45, Try.ntmps45
  go_wp2_with fail
  go_loopw [5, 6, 7] (fun vo vd vi wr => ∃ k : Nat, k ≤ l.length ∧ vi = .int .i64 k ∧ vd = .bool (OE k).2 ∧ wr.ownsRow (w.heap.size + 1) 71 5 vo (OE k).1.length (flatE (OE k).1) ∧ Below (w.heap.size + 1) (w.alloc (.cells #[.int .i64 e1, .int .i64 e2, .int .i64 e3, .int .i64 e4, .bool e5] 71)) wr) (fun _ _ vi _ => l.length - (intOf vi).toNat)
  case atStart => exact ⟨0, Nat.zero_le _, rfl, by rw [HZ.out], by rw [HZ.out]; exact World.ownsRow_nil _ _ _ _, HST.out⟩
  case round =>
    obtain ⟨k, hk, rfl, rfl, hown, hbw⟩ := hrel
    have HO := Lib.hid hown
    have HB := Lib.hid hbw
    have hz := hbw.size
    simp at hz
    have hrow := (hbw.block w.heap.size (by simp)).trans HE0.out
    obtain ⟨q0, q1, q2, q3, q4⟩ := enRowCells hrow
    have HRW := Lib.hid hrow
    have HLE := Lib.hid (show (OE k).1.length ≤ k + 1 ∧ k ≤ l.length ∧ l.length ≤ 1000000 from ⟨HLT.out k, hk, hl⟩)
    clear hown hbw hrow
    by_cases hlt : k < l.length
    case pos =>
      have hlI : (k : Int) < (l.length : Int) := by omega
      obtain ⟨bb, off, rfl, -, -⟩ := HA.out.at_ hlt
      have HF := Lib.hid (fun wx (hb : Below w.heap.size w wx) => five_below hb (HA.out.five hlt))
      have HN1 := Lib.hid (HN.out k hlt)
      generalize l[k] = x at *
      obtain ⟨x1, x2, x3, x4, x5⟩ := x
      simp only at HF
      have FLX := Lib.hid (fun wx => FL.out ⟨x1, x2, x3, x4, x5⟩ wx)
      unfold stE at HN1
      generalize lessE ⟨e1, e2, e3, e4, e5⟩ ⟨x1, x2, x3, x4, x5⟩ = q at *
      simp only at FLX
      obtain ⟨O, hO⟩ : ∃ O, OE k = O := ⟨_, rfl⟩
      rw [hO] at HO HN1 HLE ⊢
      clear hO
      obtain ⟨O1, dn⟩ := O
      simp only at HO HN1 HLE ⊢
      obtain ⟨t0, t1, t2, t3, t4⟩ := HF.out wr (below_of_new HB.out)
      cases dn
      case false =>
        cases q
        case true =>
          go_wp2_with fail
          refine Bag.region (fun wx => Below wr.heap.size wr wx) (by kernel_rfl) (by kernel_rfl) (Below.refl _ _).drew ?_
          iterate 10 (first
              | (apply Bag.walk_yes (by rfl)
                 (intro wx hx K hK
                  have hxx : Below (w.heap.size + 1) (w.alloc (.cells #[.int .i64 e1, .int .i64 e2, .int .i64 e3, .int .i64 e4, .bool e5] 71)) wx := HB.out.trans (hx.mono hz)
                  obtain ⟨q0, q1, q2, q3, q4⟩ := enRowCells ((hxx.block w.heap.size (by simp)).trans HE0.out)
                  obtain ⟨t0, t1, t2, t3, t4⟩ := HF.out wx (below_of_new hxx)
                  first
                    | (go_simp
                       first
                        | (go_at_call 74; (with_reducible refine (FLX.out _).mono ?_); rintro e x1 ⟨rfl, hb⟩; exact hK _ (hx.trans (hb.mono hx.size)))
                        | (go_at_K; exact hK _ hx)))
                 rfl)
              | (refine Bag.walk_no (by rfl) ?_; simp only [Act.put, List.setIfInBounds_toArray, List.set_cons_succ, List.set_cons_zero]))
          refine Bag.walk_nil (fun w4 hb4 => ?_)
          have HB4 := Lib.hid (HB.out.trans (hb4.mono hz))
          have HO4 := Lib.hid (own_of_blocks HO.out (fun j _ hj => hb4.block j hj))
          clear hb4 q0 q1 q2 q3 q4 t0 t1 t2 t3 t4
          obtain ⟨q0, q1, q2, q3, q4⟩ := enRowCells ((HB4.out.block w.heap.size (by simp)).trans HE0.out)
          obtain ⟨t0, t1, t2, t3, t4⟩ := HF.out w4 (below_of_new HB4.out)
          clear HO HB
          go_wp2_with (at_builtin; refine wpList_append_own _ rfl (.tmp 24) (.tmp 26) 30 rfl (w.heap.size + 1) 71 i0 _ 5 40 Try.underlying30 hi0 hz0 hz1 hz2 rfl (by decide) u5 O1.length (flatE O1) rfl (HO4.out.alloc _) ⟨w4.heap.size, 0, none⟩ 1 1 [.int .i64 e1, .int .i64 e2, .int .i64 e3, .int .i64 e4, .bool e5] rfl (by rfl) (World.news_of_block (heap_alloc_new _ _)) ?h15_1 ?hm5_1 ?hby5_1 ?hbase5_1 ?hK5_1)
          case h15_1 => first | exact ⟨rfl, rfl, rfl, rfl, rfl⟩ | (intro u hu; simp only [List.mem_cons, List.not_mem_nil, or_false] at hu; rcases hu with rfl | rfl | rfl | rfl | rfl <;> rfl)
          case hm5_1 => have := HLE.out; unfold maxLen; omega
          case hby5_1 => have := HLE.out; omega
          case hbase5_1 => have := HB4.out.size; simp at this; first | omega | (simp; omega)
          intro v5 y5 hown5 hgrow5 _
          have hb5 := (HB4.out.alloc (by have := HB4.out.size; simpa using this) _).grown hgrow5 (by have := HB4.out.size; simp at this ⊢; omega) (fun k hk => by have := HO4.out.lt k hk; omega)
          have HO5 := Lib.hid (show y5.ownsRow (w.heap.size + 1) 71 5 v5 (O1.length + 1) (flatE (O1 ++ [⟨e1, e2, e3, e4, e5⟩])) from by rw [flatE_snoc]; exact hown5)
          have HB5 := Lib.hid hb5
          clear hb5 hown5 hgrow5
          clear HO4 q0 q1 q2 q3 q4 t0 t1 t2 t3 t4
          obtain ⟨t0, t1, t2, t3, t4⟩ := HF.out y5 (below_of_new HB5.out)
          go_wp2_with (at_builtin; refine wpList_append_own _ rfl (.tmp 28) (.tmp 33) 30 rfl (w.heap.size + 1) 71 i0 _ 5 40 Try.underlying30 hi0 hz0 hz1 hz2 rfl (by decide) v5 (O1.length + 1) (flatE (O1 ++ [⟨e1, e2, e3, e4, e5⟩])) rfl (HO5.out.alloc _) ⟨y5.heap.size, 0, none⟩ 1 1 [.int .i64 x1, .int .i64 x2, .int .i64 x3, .int .i64 x4, .bool x5] rfl (by rfl) (World.news_of_block (heap_alloc_new _ _)) ?h16_2 ?hm6_2 ?hby6_2 ?hbase6_2 ?hK6_2)
          case h16_2 => first | exact ⟨rfl, rfl, rfl, rfl, rfl⟩ | (intro u hu; simp only [List.mem_cons, List.not_mem_nil, or_false] at hu; rcases hu with rfl | rfl | rfl | rfl | rfl <;> rfl)
          case hm6_2 => have := HLE.out; unfold maxLen; omega
          case hby6_2 => have := HLE.out; omega
          case hbase6_2 => have := HB5.out.size; simp at this; first | omega | (simp; omega)
          intro v6 y6 hown6 hgrow6 _
          have hb6 := (HB5.out.alloc (by have := HB5.out.size; simpa using this) _).grown hgrow6 (by have := HB5.out.size; simp at this ⊢; omega) (fun k hk => by have := HO5.out.lt k hk; omega)
          have HO6 := Lib.hid (show y6.ownsRow (w.heap.size + 1) 71 5 v6 ((O1.length + 1) + 1) (flatE ((O1 ++ [⟨e1, e2, e3, e4, e5⟩]) ++ [⟨x1, x2, x3, x4, x5⟩])) from by rw [flatE_snoc]; exact hown6)
          have HB6 := Lib.hid hb6
          clear hb6 hown6 hgrow6
          have hnew : OE (k + 1) = (((O1 ++ [⟨e1, e2, e3, e4, e5⟩]) ++ [⟨x1, x2, x3, x4, x5⟩]), true) := by rw [HN1.out]; simp
          have HNW := Lib.hid hnew
          clear hnew
          go_wp2_with fail
          go_roundw
          case rel => exact ⟨k + 1, by omega, by go_num, by rw [HNW.out], by rw [HNW.out]; simp only [List.length_append, List.length_cons, List.length_nil, Nat.zero_add]; exact HO6.out, HB6.out⟩
          case measure => simp [intOf]; omega
        case false =>
          go_wp2_with fail
          refine Bag.region (fun wx => Below wr.heap.size wr wx) (by kernel_rfl) (by kernel_rfl) (Below.refl _ _).drew ?_
          iterate 10 (first
              | (apply Bag.walk_yes (by rfl)
                 (intro wx hx K hK
                  have hxx : Below (w.heap.size + 1) (w.alloc (.cells #[.int .i64 e1, .int .i64 e2, .int .i64 e3, .int .i64 e4, .bool e5] 71)) wx := HB.out.trans (hx.mono hz)
                  obtain ⟨q0, q1, q2, q3, q4⟩ := enRowCells ((hxx.block w.heap.size (by simp)).trans HE0.out)
                  obtain ⟨t0, t1, t2, t3, t4⟩ := HF.out wx (below_of_new hxx)
                  first
                    | (go_simp
                       first
                        | (go_at_call 74; (with_reducible refine (FLX.out _).mono ?_); rintro e x1 ⟨rfl, hb⟩; exact hK _ (hx.trans (hb.mono hx.size)))
                        | (go_at_K; exact hK _ hx)))
                 rfl)
              | (refine Bag.walk_no (by rfl) ?_; simp only [Act.put, List.setIfInBounds_toArray, List.set_cons_succ, List.set_cons_zero]))
          refine Bag.walk_nil (fun w4 hb4 => ?_)
          have HB4 := Lib.hid (HB.out.trans (hb4.mono hz))
          have HO4 := Lib.hid (own_of_blocks HO.out (fun j _ hj => hb4.block j hj))
          clear hb4 q0 q1 q2 q3 q4 t0 t1 t2 t3 t4
          obtain ⟨q0, q1, q2, q3, q4⟩ := enRowCells ((HB4.out.block w.heap.size (by simp)).trans HE0.out)
          obtain ⟨t0, t1, t2, t3, t4⟩ := HF.out w4 (below_of_new HB4.out)
          clear HO HB
          go_wp2_with (at_builtin; refine wpList_append_own _ rfl (.tmp 28) (.tmp 33) 30 rfl (w.heap.size + 1) 71 i0 _ 5 40 Try.underlying30 hi0 hz0 hz1 hz2 rfl (by decide) u5 O1.length (flatE O1) rfl (HO4.out.alloc _) ⟨w4.heap.size, 0, none⟩ 1 1 [.int .i64 x1, .int .i64 x2, .int .i64 x3, .int .i64 x4, .bool x5] rfl (by rfl) (World.news_of_block (heap_alloc_new _ _)) ?h15_3 ?hm5_3 ?hby5_3 ?hbase5_3 ?hK5_3)
          case h15_3 => first | exact ⟨rfl, rfl, rfl, rfl, rfl⟩ | (intro u hu; simp only [List.mem_cons, List.not_mem_nil, or_false] at hu; rcases hu with rfl | rfl | rfl | rfl | rfl <;> rfl)
          case hm5_3 => have := HLE.out; unfold maxLen; omega
          case hby5_3 => have := HLE.out; omega
          case hbase5_3 => have := HB4.out.size; simp at this; first | omega | (simp; omega)
          intro v5 y5 hown5 hgrow5 _
          have hb5 := (HB4.out.alloc (by have := HB4.out.size; simpa using this) _).grown hgrow5 (by have := HB4.out.size; simp at this ⊢; omega) (fun k hk => by have := HO4.out.lt k hk; omega)
          have HO5 := Lib.hid (show y5.ownsRow (w.heap.size + 1) 71 5 v5 (O1.length + 1) (flatE (O1 ++ [⟨x1, x2, x3, x4, x5⟩])) from by rw [flatE_snoc]; exact hown5)
          have HB5 := Lib.hid hb5
          clear hb5 hown5 hgrow5
          have hnew : OE (k + 1) = ((O1 ++ [⟨x1, x2, x3, x4, x5⟩]), false) := by rw [HN1.out]; simp
          have HNW := Lib.hid hnew
          clear hnew
          go_wp2_with fail
          go_roundw
          case rel => exact ⟨k + 1, by omega, by go_num, by rw [HNW.out], by rw [HNW.out]; simp only [List.length_append, List.length_cons, List.length_nil, Nat.zero_add]; exact HO5.out, HB5.out⟩
          case measure => simp [intOf]; omega
      case true =>
        go_wp2_with fail
        refine Bag.region (fun wx => Below wr.heap.size wr wx) (by kernel_rfl) (by kernel_rfl) (Below.refl _ _).drew ?_
        iterate 10 (first
            | (apply Bag.walk_yes (by rfl)
               (intro wx hx K hK
                have hxx : Below (w.heap.size + 1) (w.alloc (.cells #[.int .i64 e1, .int .i64 e2, .int .i64 e3, .int .i64 e4, .bool e5] 71)) wx := HB.out.trans (hx.mono hz)
                obtain ⟨q0, q1, q2, q3, q4⟩ := enRowCells ((hxx.block w.heap.size (by simp)).trans HE0.out)
                obtain ⟨t0, t1, t2, t3, t4⟩ := HF.out wx (below_of_new hxx)
                first
                  | (go_simp
                     first
                      | (go_at_call 74; (with_reducible refine (FLX.out _).mono ?_); rintro e x1 ⟨rfl, hb⟩; exact hK _ (hx.trans (hb.mono hx.size)))
                      | (go_at_K; exact hK _ hx)))
               rfl)
            | (refine Bag.walk_no (by rfl) ?_; simp only [Act.put, List.setIfInBounds_toArray, List.set_cons_succ, List.set_cons_zero]))
        refine Bag.walk_nil (fun w4 hb4 => ?_)
        have HB4 := Lib.hid (HB.out.trans (hb4.mono hz))
        have HO4 := Lib.hid (own_of_blocks HO.out (fun j _ hj => hb4.block j hj))
        clear hb4 q0 q1 q2 q3 q4 t0 t1 t2 t3 t4
        obtain ⟨q0, q1, q2, q3, q4⟩ := enRowCells ((HB4.out.block w.heap.size (by simp)).trans HE0.out)
        obtain ⟨t0, t1, t2, t3, t4⟩ := HF.out w4 (below_of_new HB4.out)
        clear HO HB
        go_wp2_with (at_builtin; refine wpList_append_own _ rfl (.tmp 28) (.tmp 33) 30 rfl (w.heap.size + 1) 71 i0 _ 5 40 Try.underlying30 hi0 hz0 hz1 hz2 rfl (by decide) u5 O1.length (flatE O1) rfl (HO4.out.alloc _) ⟨w4.heap.size, 0, none⟩ 1 1 [.int .i64 x1, .int .i64 x2, .int .i64 x3, .int .i64 x4, .bool x5] rfl (by rfl) (World.news_of_block (heap_alloc_new _ _)) ?h15_4 ?hm5_4 ?hby5_4 ?hbase5_4 ?hK5_4)
        case h15_4 => first | exact ⟨rfl, rfl, rfl, rfl, rfl⟩ | (intro u hu; simp only [List.mem_cons, List.not_mem_nil, or_false] at hu; rcases hu with rfl | rfl | rfl | rfl | rfl <;> rfl)
        case hm5_4 => have := HLE.out; unfold maxLen; omega
        case hby5_4 => have := HLE.out; omega
        case hbase5_4 => have := HB4.out.size; simp at this; first | omega | (simp; omega)
        intro v5 y5 hown5 hgrow5 _
        have hb5 := (HB4.out.alloc (by have := HB4.out.size; simpa using this) _).grown hgrow5 (by have := HB4.out.size; simp at this ⊢; omega) (fun k hk => by have := HO4.out.lt k hk; omega)
        have HO5 := Lib.hid (show y5.ownsRow (w.heap.size + 1) 71 5 v5 (O1.length + 1) (flatE (O1 ++ [⟨x1, x2, x3, x4, x5⟩])) from by rw [flatE_snoc]; exact hown5)
        have HB5 := Lib.hid hb5
        clear hb5 hown5 hgrow5
        have hnew : OE (k + 1) = ((O1 ++ [⟨x1, x2, x3, x4, x5⟩]), true) := by rw [HN1.out]; simp
        have HNW := Lib.hid hnew
        clear hnew
        go_wp2_with fail
        go_roundw
        case rel => exact ⟨k + 1, by omega, by go_num, by rw [HNW.out], by rw [HNW.out]; simp only [List.length_append, List.length_cons, List.length_nil, Nat.zero_add]; exact HO5.out, HB5.out⟩
        case measure => simp [intOf]; omega
    case neg =>
      obtain rfl : k = l.length := by omega
      have hlI : ¬ (l.length : Int) < (l.length : Int) := by omega
      obtain ⟨O, hO⟩ : ∃ O, OE l.length = O := ⟨_, rfl⟩
      rw [hO] at HO HLE HY HNO ⊢
      clear hO
      obtain ⟨O1, dn⟩ := O
      simp only at HO HLE HY HNO ⊢
      cases dn
      case true =>
        have HX := Lib.hid (HY.out rfl)
        go_wp2_with fail
        go_ret
        exact ⟨_, rfl, by have := own_base HO.out (Nat.le_succ _); rw [HX.out, HL2.out] at this; exact this, below_of_new HB.out⟩
      case false =>
        have HX := Lib.hid (HNO.out rfl)
        go_wp2_with (at_builtin; refine wpList_append_own _ rfl (.tmp 37) (.tmp 39) 30 rfl (w.heap.size + 1) 71 i0 _ 5 40 Try.underlying30 hi0 hz0 hz1 hz2 rfl (by decide) u5 O1.length (flatE O1) rfl (HO.out.alloc _) ⟨wr.heap.size, 0, none⟩ 1 1 [.int .i64 e1, .int .i64 e2, .int .i64 e3, .int .i64 e4, .bool e5] rfl (by rfl) (World.news_of_block (heap_alloc_new _ _)) ?h15_5 ?hm5_5 ?hby5_5 ?hbase5_5 ?hK5_5)
        case h15_5 => first | exact ⟨rfl, rfl, rfl, rfl, rfl⟩ | (intro u hu; simp only [List.mem_cons, List.not_mem_nil, or_false] at hu; rcases hu with rfl | rfl | rfl | rfl | rfl <;> rfl)
        case hm5_5 => have := HLE.out; unfold maxLen; omega
        case hby5_5 => have := HLE.out; omega
        case hbase5_5 => have := HB.out.size; simp at this; first | omega | (simp; omega)
        intro v5 y5 hown5 hgrow5 _
        have hb5 := (HB.out.alloc (by have := HB.out.size; simpa using this) _).grown hgrow5 (by have := HB.out.size; simp at this ⊢; omega) (fun k hk => by have := HO.out.lt k hk; omega)
        have HO5 := Lib.hid (show y5.ownsRow (w.heap.size + 1) 71 5 v5 (O1.length + 1) (flatE (O1 ++ [⟨e1, e2, e3, e4, e5⟩])) from by rw [flatE_snoc]; exact hown5)
        have HB5 := Lib.hid hb5
        clear hb5 hown5 hgrow5
        go_wp2_with fail
        go_ret
        exact ⟨_, rfl, by have := own_base HO5.out (Nat.le_succ _); rw [HX.out] at this; have e := congrArg List.length HX.out; rw [HL2.out, List.length_append] at e; simp at e; rw [e] at this; exact this, below_of_new HB5.out⟩
end Go.Proofs.Ytifbkoaggjikpaa
