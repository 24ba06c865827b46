/- The reference's Run of load, runs that are too long, and Same. No statement of the seat is proved here. -/
import Derived.Test.YtaiciopfinlpiaaLdRun
import Derived.Test.YtaiciopfinlpiaaChain
import Derived.Test.YtaiciopfinlpiaaBag
namespace Go.Proofs.Ytaiciopfinlpiaa
open Go.RowKit

theorem own_of_blocks {w w' : World} {base n size : Nat} {e : TypeId} {v : Value} {xs : List Value} (h : w.ownsRow base e size v n xs) (hb : ∀ j, base ≤ j → j < w.heap.size → w'.heap[j]? = w.heap[j]?) : w'.ownsRow base e size v n xs := by
  obtain ⟨hl, h | ⟨g, cap, cur, hv, hbg, hg, hc⟩⟩ := h
  · exact ⟨hl, .inl h⟩
  · have hlt : g < w.heap.size := by
      rcases Nat.lt_or_ge g w.heap.size with h | h
      · exact h
      · rw [Array.getElem?_eq_none h] at hg; cases hg
    exact ⟨hl, .inr ⟨g, cap, cur, hv, hbg, (hb g hbg hlt).trans hg, hc⟩⟩

theorem own_base {w : World} {base base' n size : Nat} {e : TypeId} {v : Value} {xs : List Value} (h : w.ownsRow base e size v n xs) (hb : base' ≤ base) : w.ownsRow base' e size v n xs := by
  obtain ⟨hl, h | ⟨g, cap, cur, hv, hbg, hc⟩⟩ := h
  · exact ⟨hl, .inl h⟩
  · exact ⟨hl, .inr ⟨g, cap, cur, hv, by omega, hc⟩⟩
theorem run_long (b : BldD) (A L : Option Addr) (cap n lcap : Nat) (s : Int) (w : World) (hl : 5000 < n) (hn : n ≤ 100000) :
    Calls Try.prog 15 #[b.agg A cap, .agg #[.int .i64 s], .slice L n lcap] w fun e w' => e = .returned (.slice none 0 0) ∧ Below w.heap.size w w' := by
  obtain ⟨f, d, r, p, e1, e2, e3, cs⟩ := b
  simp only [BldD.agg]
  go_enter Try.func15, Try.ntmps15
  go_wp2_with fail
  go_ret
  exact ⟨rfl, by go_grown⟩

set_option maxHeartbeats 4000000 in
theorem refRun_any (b : BldD) (A : Option Addr) (cap : Nat) (s : Int) (l : List Nat) (L : Option Addr) (lcap : Nat) (w : World) (hn : b.cars.length ≤ 140737488355328) (hc : CarsAt w w.heap.size A b.cars) (hl : l.length ≤ 5000) (hL : VAt w L (flts l)) :
    Calls Try.prog 17 #[b.agg A cap, .agg #[.int .i64 s], .slice L l.length lcap] w fun e w' => ∃ v, e = .returned v ∧ w'.ownsRow w.heap.size 3 1 v l.length (nums (outsF b s l)) ∧ Below w.heap.size w w' := by
  obtain ⟨i0, hi0, hz0, hz1, hz2⟩ := info_parts intInfo
  have FS := Lib.hid (fun wx s x (h : Below w.heap.size w wx) => refStep_any b A cap x s wx hn ((hc.below h).more h.size))
  have HL := Lib.hid hL
  have e2 := fun k (h : k < l.length) => outsF_snoc b s l h
  have e4 := fun k (h : k < l.length) => runF_take b s l h
  have ez : runF b s (l.take 0) = s := rfl
  have e5 : outsF b s (l.take l.length) = outsF b s l := by rw [List.take_length]
  have e6 : outsF b s (l.take 0) = [] := rfl
  have HE := Lib.hid (And.intro e2 (And.intro e4 (And.intro ez (And.intro e5 e6))))
  clear hc hL e2 e4 ez e5 e6
  generalize hO : outsF b s l = O at *
  generalize hOK : (fun k => outsF b s (l.take k)) = OK at *
  generalize hRF : (fun k => runF b s (l.take k)) = RF at *
  have HEq := Lib.hid (And.intro hO (And.intro hOK hRF))
  clear hO hOK hRF
  replace HE : Hid ((∀ k, k < l.length → OK (k + 1) = OK k ++ [RF (k + 1)]) ∧ (∀ k (h : k < l.length), RF (k + 1) = stepF b (RF k) l[k]) ∧ RF 0 = s ∧ OK l.length = O ∧ OK 0 = []) := by
    obtain ⟨-, rfl, rfl⟩ := HEq.out
    exact HE
  clear HEq
  obtain ⟨f, d, r, p, e1, e2, e3, cs⟩ := b
  simp only [BldD.agg] at FS ⊢
  go_enter Try.func17, Try.ntmps17
  go_wp2_with fail
  obtain ⟨W, hW⟩ : ∃ W, W = (w.alloc (.cells #[.int .i64 f, .int .i64 d, .int .i64 r, .int .i64 p, .float .f64 e1, .float .f64 e2, .float .f64 e3, .slice A cs.length cap] 25)).alloc (.cells #[.int .i64 s] 34) := ⟨_, rfl⟩
  have h0 : W.heap[w.heap.size]? = some (.cells #[.int .i64 f, .int .i64 d, .int .i64 r, .int .i64 p, .float .f64 e1, .float .f64 e2, .float .f64 e3, .slice A cs.length cap] 25 (0, 0)) ∧ W.heap[w.heap.size + 1]? = some (.cells #[.int .i64 (RF 0)] 34 (0, 0)) ∧ Below w.heap.size w W := by
    rw [hW, HE.out.2.2.1]
    refine ⟨?_, ?_, by go_grown⟩
    · rw [Below.heap_alloc _ _ _ (by simp)]
      exact heap_alloc_new _ _
    · have := heap_alloc_new (w.alloc (.cells #[.int .i64 f, .int .i64 d, .int .i64 r, .int .i64 p, .float .f64 e1, .float .f64 e2, .float .f64 e3, .slice A cs.length cap] 25)) (.cells #[.int .i64 s] 34)
      simpa using this
  have H0 := Lib.hid h0
  clear h0
  go_loopw [7, 8] (fun v i wr => ∃ k : Nat, k ≤ l.length ∧ i = .int .i64 k ∧ wr.ownsRow (w.heap.size + 2) 3 1 v k (nums (OK k)) ∧ wr.heap[w.heap.size]? = some (.cells #[.int .i64 f, .int .i64 d, .int .i64 r, .int .i64 p, .float .f64 e1, .float .f64 e2, .float .f64 e3, .slice A cs.length cap] 25 (0, 0)) ∧ wr.heap[w.heap.size + 1]? = some (.cells #[.int .i64 (RF k)] 34 (0, 0)) ∧ Below w.heap.size w wr) (fun _ i _ => l.length - (intOf i).toNat)
  case atStart => exact ⟨0, Nat.zero_le _, rfl, by rw [HE.out.2.2.2.2]; exact World.ownsRow_nil _ _ _ _, hW ▸ H0.out⟩
  case round =>
    obtain ⟨k, hk, rfl, hown, h0, h1, hbw⟩ := hrel
    have hsr : w.heap.size + 1 < wr.heap.size := by
      rcases Nat.lt_or_ge (w.heap.size + 1) wr.heap.size with h | h
      · exact h
      · rw [Array.getElem?_eq_none h] at h1; cases h1
    by_cases hlt : k < l.length
    · obtain ⟨g, off, rfl, hg, hx⟩ := (HL.out.below hbw).flt hlt
      have F1 := Lib.hid (fun wx => FS.out wx (RF k) l[k])
      rw [← HE.out.2.1 k hlt] at F1
      generalize l[k] = x at *
      have HX := Lib.hid (fun wx (h : Below wr.heap.size wr wx) => ((World.cell?_of_block (a := ⟨g, off + k, none⟩) (h.block g hg)).trans hx))
      have HW := Lib.hid (And.intro h0 (And.intro h1 (And.intro hown hbw)))
      clear h0 h1 hown hbw hx
      go_wp2_with fail
      refine Chain.chain (fun p wx => if p = 0 then Below wr.heap.size wr wx else (wx.heap[w.heap.size + 1]? = some (.cells #[.int .i64 (RF (k + 1))] 34 (0, 0)) ∧ (∀ j, j < wr.heap.size → j ≠ w.heap.size + 1 → wx.heap[j]? = wr.heap[j]?) ∧ Below w.heap.size w wx ∧ wr.heap.size ≤ wx.heap.size)) (fun _ _ => False) [7] (by kernel_rfl) (by kernel_rfl) (fun e a' w' hdf he => he.elim) (Below.refl _ _).drew ?_
      iterate 7
        (apply Chain.walk_quiet (by rfl) (by decide)
         (intro p wx hp hwn hx K hK
          first
            | (with_reducible show Oper.wp _ (Oper.mk _ (.load 25 _) _ _ _ _) _ _ _ _
               rcases (show p = 0 ∨ p = 1 from by have h : p ≤ 1 := hp; omega) with rfl | rfl
               case inr => exact absurd ((Eq.symm (show _ = false by kernel_rfl)).trans hwn) Bool.false_ne_true
               have hx' : Below wr.heap.size wr wx := hx
               obtain ⟨c0, c1, c2, c3, c4, c5, c6, c7⟩ := boxRow ((hx'.block _ (by omega)).trans HW.out.1)
               have HXX := Lib.hid hx
               clear hx hx'
               go_simp
               go_at_K
               exact hK _ HXX.out)
            | (with_reducible show Oper.wp _ (Oper.mk _ (.load 34 _) _ _ _ _) _ _ _ _
               rcases (show p = 0 ∨ p = 1 from by have h : p ≤ 1 := hp; omega) with rfl | rfl
               case inr => exact absurd ((Eq.symm (show _ = false by kernel_rfl)).trans hwn) Bool.false_ne_true
               have hx' : Below wr.heap.size wr wx := hx
               have k0 : wx.cell? ⟨w.heap.size + 1, 0, none⟩ = some (.int .i64 (RF k)) := cell_of_row _ _ _ _ _ (0, 0) ((hx'.block _ (by omega)).trans HW.out.2.1)
               have HXX := Lib.hid hx
               clear hx hx'
               go_simp
               go_at_K
               exact hK _ HXX.out)
            | (with_reducible show Oper.wp _ (Oper.mk _ (.load 22 _) _ _ _ _) _ _ _ _
               rcases (show p = 0 ∨ p = 1 from by have h : p ≤ 1 := hp; omega) with rfl | rfl
               case inr => exact absurd ((Eq.symm (show _ = false by kernel_rfl)).trans hwn) Bool.false_ne_true
               have hx' : Below wr.heap.size wr wx := hx
               have k0 := HX.out wx hx'
               have HXX := Lib.hid hx
               clear hx hx'
               go_simp
               go_at_K
               exact hK _ HXX.out)
            | (with_reducible show Oper.wp _ (Oper.mk _ (.call _) _ _ _ _) _ _ _ _
               rcases (show p = 0 ∨ p = 1 from by have h : p ≤ 1 := hp; omega) with rfl | rfl
               case inr => exact absurd ((Eq.symm (show _ = false by kernel_rfl)).trans hwn) Bool.false_ne_true
               have hx' : Below wr.heap.size wr wx := hx
               have HXX := Lib.hid hx'
               clear hx hx'
               go_simp
               go_at_call 14
               refine (F1.out _ (HW.out.2.2.2.trans (HXX.out.mono HW.out.2.2.2.size))).mono ?_
               rintro e x1 ⟨rfl, hb⟩
               exact hK _ (HXX.out.trans (hb.mono HXX.out.size)))
            | (go_simp; go_at_K; exact hK _ hx))
         exact ⟨_, rfl⟩)
      apply Chain.walk_turn 0 (by rfl) (by rfl)
      · intro wx hx K hK
        have hx' : Below wr.heap.size wr wx := hx
        have hrw := (hx'.block _ (by omega)).trans HW.out.2.1
        have k0 : wx.cell? ⟨w.heap.size + 1, 0, none⟩ = some (.int .i64 (RF k)) := cell_of_row _ _ _ _ _ (0, 0) hrw
        have q0 : wx.frozen? ⟨w.heap.size + 1, 0, none⟩ = false := frozen_of_row _ _ _ _ _ hrw
        have HXX := Lib.hid hx'
        have HRW := Lib.hid hrw
        clear hx hx' hrw
        go_simp
        go_at_K
        exact hK _ ⟨row_set HRW.out 0 _, fun j hj hne => (Below.heap_setCell _ _ _ _ hne).trans (HXX.out.block j hj), (HW.out.2.2.2.trans (HXX.out.mono (by omega))).setCell (by show w.heap.size ≤ w.heap.size + 1; omega) _, by simp [World.setCell]; exact HXX.out.size⟩
      · exact ⟨undef, rfl⟩
      refine Chain.walk_nil (fun x2 hx => ?_)
      replace hx : (x2.heap[w.heap.size + 1]? = some (.cells #[.int .i64 (RF (k + 1))] 34 (0, 0)) ∧ (∀ j, j < wr.heap.size → j ≠ w.heap.size + 1 → x2.heap[j]? = wr.heap[j]?) ∧ Below w.heap.size w x2 ∧ wr.heap.size ≤ x2.heap.size) := hx
      try simp only [Act.put]
      obtain ⟨p0, pj, p3, p4⟩ := hx
      have p1 := (pj w.heap.size (by omega) (by omega)).trans HW.out.1
      have p2 := own_of_blocks (w' := x2) HW.out.2.2.1 (fun j hj hlt => pj j hlt (by omega))
      have c0 : x2.cell? ⟨w.heap.size + 1, 0, none⟩ = some (.int .i64 (RF (k + 1))) := cell_of_row _ _ _ _ _ (0, 0) p0
      have HO := Lib.hid p2
      have HP := Lib.hid (And.intro p1 (And.intro p0 p3))
      have hm63 : k + 1 ≤ maxLen := by unfold maxLen; omega
      clear p0 pj p1 p2 p3 HX F1
      have hos := Lib.hid (HE.out.1 k hlt)
      go_wp2_with (at_builtin; refine wpList_append_own _ rfl (.tmp 25) (.tmp 28) 37 rfl (w.heap.size + 2) 3 i0 _ 1 8 Try.underlying37 hi0 hz0 hz1 hz2 rfl (by decide) u7 k (nums (OK k)) rfl (HO.out.alloc _) ⟨x2.heap.size, 0, none⟩ 1 1 _ rfl ?hl (World.news_of_block (heap_alloc_new _ _)) ?h1 hm63 ?hby ?hbase ?hK)
      case h1 => exact rfl
      case hby => omega
      case hbase => simp; omega
      intro v' w' hown' hgrow _
      have hj : ∀ j, j < w.heap.size + 2 → w'.heap[j]? = x2.heap[j]? := fun j hj => (hgrow.block j (by simp; omega) (fun e => by have := HO.out.lt j e.symm; omega)).trans (Below.heap_alloc _ _ _ (by omega))
      have hbw' := (HP.out.2.2.alloc (by omega) _).grown hgrow (by simp; omega) (fun k hk => by have := HO.out.lt k hk; omega)
      have hown2 : w'.ownsRow (w.heap.size + 2) 3 1 v' (k + 1) (nums (OK (k + 1))) := by rw [hos.out, nums_app]; exact hown'
      have HF := Lib.hid (And.intro hown2 (And.intro ((hj _ (by omega)).trans HP.out.1) (And.intro ((hj _ (by omega)).trans HP.out.2.1) hbw')))
      clear hj hbw' hown2 hown' hgrow c0
      go_wp2_with fail
      go_roundw
      case rel => exact ⟨k + 1, by omega, by go_num, HF.out⟩
      case measure => simp [intOf]; omega
    · obtain rfl : k = l.length := by omega
      have HR := Lib.hid (And.intro hown hbw)
      clear h0 h1 hown hbw
      go_wp2_with fail
      go_ret
      exact ⟨u7, rfl, HE.out.2.2.2.1 ▸ own_base HR.out.1 (by omega), HR.out.2⟩
end Go.Proofs.Ytaiciopfinlpiaa
