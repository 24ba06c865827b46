/- The stops that are marked. No statement of the seat is proved here. -/
import Derived.Test.YtnjcegkefjdgdaaDoorCvCount
import Derived.Test.YtnjcegkefjdgdaaDoorG7
namespace Go.Proofs.YtnjcegkefjdgdaaDoor
open Go.RowKit
set_option maxRecDepth 4000
set_option linter.unusedSimpArgs false

/-- What one round of the loop over the directions leaves. -/
def mkStep (o f : Nat) (s : Stp) (m : Cs) (d : Nat) : Cs := if o.testBit d = true then Cs.union m (Cs.both s.h (Cs.one (f : Int) (d : Int))) else m
def mkHall (o f : Nat) (s : Stp) : Nat → Cs
  | 0 => Cs.empty
  | k + 1 => mkStep o f s (mkHall o f s k) (k + 1)
theorem mkStep_ok {o f : Nat} {s : Stp} {m : Cs} (hs : s.ok) (hm : m.ok) (d : Nat) : (mkStep o f s m d).ok := by
  unfold mkStep
  split
  · exact Cs.union_ok hm (Cs.both_ok hs.2)
  · exact hm
theorem mkHall_ok {o f : Nat} {s : Stp} (hs : s.ok) : ∀ k, (mkHall o f s k).ok
  | 0 => Cs.empty_ok
  | k + 1 => mkStep_ok hs (mkHall_ok hs k) _
theorem mkHall_two {o f : Nat} {s : Stp} (hf : f < 32) : mkHall o f s 2 = (Cv.mk o f s).h := by
  have hb : Cs.bitAt (f : Int) = 2 ^ f := by unfold Cs.bitAt; rw [if_pos (by omega)]; rfl
  obtain ⟨s1, s2, s3⟩ := s
  have o1 : Cs.one (f : Int) ((1 : Nat) : Int) = ⟨2 ^ f, 0⟩ := by unfold Cs.one; rw [hb]; rfl
  have o2 : Cs.one (f : Int) ((2 : Nat) : Int) = ⟨0, 2 ^ f⟩ := by unfold Cs.one; rw [hb]; rfl
  show mkStep o f _ (mkStep o f _ Cs.empty 1) 2 = _
  unfold mkStep Cv.mk
  rw [o1, o2]
  cases o.testBit 1 <;> cases o.testBit 2 <;> simp [Cs.union, Cs.both, Cs.empty]
theorem bit_int {o : Nat} (ho : o ≤ 7) {d : Nat} (hd : d ≤ 2) : bits .and .i64 ((o : Int) / 2 ^ min d 64) 1 = if o.testBit d = true then 1 else 0 := by
  rw [show min d 64 = d by omega]
  have := (by decide +kernel : ∀ (o : Fin 8) (d : Fin 3), bits .and .i64 ((o.val : Int) / 2 ^ d.val) 1 = if o.val.testBit d.val = true then 1 else 0) ⟨o, by omega⟩ ⟨d, by omega⟩
  exact this
theorem boxes3c {w wx : World} {A B C R : Obj} (h : Put (((w.alloc A).alloc B).alloc C) (w.heap.size + 2) R wx) : wx.heap[w.heap.size]? = some A ∧ wx.heap[w.heap.size + 1]? = some B := by
  have a1 := heap_alloc_new w A
  have a2 := heap_alloc_new (w.alloc A) B
  have hs : (w.alloc A).heap.size = w.heap.size + 1 := by simp
  rw [hs] at a2
  have b1 := (Below.heap_alloc (w.alloc A) B w.heap.size (by simp)).trans a1
  have b2 := (Below.heap_alloc ((w.alloc A).alloc B) C w.heap.size (by simp; omega)).trans b1
  have c2 := (Below.heap_alloc ((w.alloc A).alloc B) C (w.heap.size + 1) (by simp)).trans a2
  exact ⟨(h.other _ (by simp <;> omega) (by omega)).trans b2, (h.other _ (by simp) (by omega)).trans c2⟩
theorem new3 (w : World) (A B C : Obj) : (((w.alloc A).alloc B).alloc C).heap[w.heap.size + 2]? = some C := by
  have := heap_alloc_new ((w.alloc A).alloc B) C
  simpa using this
theorem below3c {w wx : World} {A B C R : Obj} (h : Put (((w.alloc A).alloc B).alloc C) (w.heap.size + 2) R wx) : Below (w.heap.size + 1) (w.alloc A) wx :=
  (((Below.refl (w.heap.size + 1) (w.alloc A)).alloc (by simp) B).alloc (by simp <;> omega) C).trans (h.below (by omega) (by simp))
set_option maxHeartbeats 4000000 in
theorem marked_any (o f : Nat) (s : Stp) (w : World) (ho : o ≤ 7) (hf : f < 32) (hs : s.ok) :
    Calls Tryd.prog 76 #[.int .i64 (o : Int), .int .i64 (f : Int), s.agg] w fun e w' => e = .returned (Cv.mk o f s).agg ∧ Below w.heap.size w w' := by
  have FO := Lib.hid (fun (d : Nat) wx => one_any (f : Int) (d : Int) wx)
  have FB := Lib.hid (fun (d : Nat) wx => both_any s.h (Cs.one (f : Int) (d : Int)) wx hs.2 (Cs.one_ok _ _))
  have FU := Lib.hid (fun (m : Cs) (hm : m.ok) (d : Nat) wx => union_any m (Cs.both s.h (Cs.one (f : Int) (d : Int))) wx hm (Cs.both_ok hs.2))
  have HH := Lib.hid (fun k => mkHall_ok (o := o) (f := f) hs k)
  have HN : Hid (∀ k, mkHall o f s (k + 1) = if o.testBit (k + 1) = true then Cs.union (mkHall o f s k) (Cs.both s.h (Cs.one (f : Int) ((k + 1 : Nat) : Int))) else mkHall o f s k) := Lib.hid (fun k => rfl)
  have H0 := Lib.hid (show mkHall o f s 0 = ⟨0, 0⟩ from rfl)
  have hcar : (Cv.mk o f s).car = if o = 0 then 0 else s.car &&& 2 ^ f := rfl
  have hR : (Cv.mk o f s).agg = .agg #[.int .u32 (Cv.mk o f s).car, .int .u32 (mkHall o f s 2).up, .int .u32 (mkHall o f s 2).dn] := by rw [mkHall_two hf]; rfl
  rw [hR, hcar]
  have HB := Lib.hid (fun d (hd : d ≤ 2) => bit_int ho hd)
  have hand := u32_and_nat s.car (2 ^ f) hs.1 (Cs.pow_lt hf)
  have hpow := two_mod hf
  clear hR hcar
  generalize mkHall o f s = MH at *
  obtain ⟨s1, s2, s3⟩ := s
  have hs2 : IntKind.u32.wrap (2 ^ f) = ((2 ^ f : Nat) : Int) := by rw [IntKind.wrap_u32]; exact hpow
  have hfn : decide ((f : Int) < 0) = false := decide_eq_false (by omega)
  clear hpow hs
  simp only [Stp.agg, Cs.agg] at *
  generalize ((2 ^ f : Nat) : Int) = pf at *
  generalize s1 &&& 2 ^ f = rc at *
  by_cases h0 : o = 0
  · have hne : ((o : Int) != 0) = false := by rw [int_ne0]; simp [h0]
    rw [if_pos h0]
    have HL : Hid (Put (((w.alloc (.cells #[.int .u32 s1, .int .u32 s2, .int .u32 s3] 105)).alloc (.cells #[.int .u32 0, .int .u32 0, .int .u32 0] 105)).alloc (.cells #[.int .u32 0, .int .u32 0, .int .u32 0] 105)) (w.heap.size + 2) (.cells #[.int .u32 ((0 : Nat) : Int), .int .u32 (MH 0).up, .int .u32 (MH 0).dn] 105 (0, 0)) (((w.alloc (.cells #[.int .u32 s1, .int .u32 s2, .int .u32 s3] 105)).alloc (.cells #[.int .u32 0, .int .u32 0, .int .u32 0] 105)).alloc (.cells #[.int .u32 0, .int .u32 0, .int .u32 0] 105))) := Lib.hid (by rw [H0.out]; exact Put.start (new3 w _ _ _))
    clear h0 H0
    go_enter Tryd.func76, Tryd.ntmps76
    go_wp2_with fail
    go_loopw [8] (fun v wr => ∃ k d : Nat, k ≤ 2 ∧ d = k + 1 ∧ v = .int .i64 (d : Int) ∧ Put (((w.alloc (.cells #[.int .u32 s1, .int .u32 s2, .int .u32 s3] 105)).alloc (.cells #[.int .u32 0, .int .u32 0, .int .u32 0] 105)).alloc (.cells #[.int .u32 0, .int .u32 0, .int .u32 0] 105)) (w.heap.size + 2) (.cells #[.int .u32 ((0 : Nat) : Int), .int .u32 (MH k).up, .int .u32 (MH k).dn] 105 (0, 0)) wr) (fun v _ => 3 - (intOf v).toNat)
    case atStart => exact ⟨0, 1, by omega, rfl, rfl, HL.out⟩
    case round =>
      obtain ⟨k, d, hk, hkd, rfl, hP⟩ := hrel
      have HKD := Lib.hid hkd
      clear hkd
      have HP := Lib.hid hP
      clear hP
      by_cases hlt : k < 2
      · have hd : decide ((d : Int) ≤ 2) = true := decide_eq_true (by have := HKD.out; omega)
        have hbit := HB.out d (by have := HKD.out; omega)
        have hnx := HN.out k
        rw [← HKD.out] at hnx
        have hok := HH.out k
        have F1 := Lib.hid (fun wx => FO.out d wx)
        have F2 := Lib.hid (fun wx => FB.out d wx)
        have F3 := Lib.hid (fun wx => FU.out (MH k) hok d wx)
        have hw1 : IntKind.i64.wrap ((d : Int) + 1) = (d : Int) + 1 := by rw [IntKind.wrap_i64]; have := HKD.out; omega
        have hkn : decide ((d : Int) < 0) = false := decide_eq_false (by omega)
        have HK := Lib.hid (show k + 1 ≤ 2 by omega)
        have HD := Lib.hid (show (d : Int) + 1 = ((d + 1 : Nat) : Int) by omega)
        generalize hMk : MH k = mk0 at *
        generalize hMn : MH d = mk1 at *
        obtain ⟨m1, m2⟩ := mk0
        obtain ⟨n1, n2⟩ := mk1
        generalize Cs.one (f : Int) (d : Int) = on at *
        obtain ⟨on1, on2⟩ := on
        generalize Cs.both ⟨s2, s3⟩ ⟨on1, on2⟩ = bo at *
        obtain ⟨bo1, bo2⟩ := bo
        try simp only at F1 F2 F3
        cases hob : o.testBit d
        · rw [hob, if_neg (by decide)] at hbit hnx
          go_wp2
          go_roundw
          case rel => exact ⟨k + 1, d + 1, HK.out, by rw [HKD.out], by rw [HD.out], by rw [← HKD.out, hMn, hnx]; exact HP.out⟩
          case measure => have := HKD.out; simp [intOf]; omega
        · rw [hob, if_pos rfl] at hbit hnx
          rw [← hnx] at F3
          clear hnx hMk hok
          go_wp2_with fail
          refine Chain.chain (fun p wx => Put (((w.alloc (.cells #[.int .u32 s1, .int .u32 s2, .int .u32 s3] 105)).alloc (.cells #[.int .u32 0, .int .u32 0, .int .u32 0] 105)).alloc (.cells #[.int .u32 0, .int .u32 0, .int .u32 0] 105)) (w.heap.size + 2) (.cells (if p = 0 then #[.int .u32 ((0 : Nat) : Int), .int .u32 m1, .int .u32 m2] else #[.int .u32 ((0 : Nat) : Int), .int .u32 n1, .int .u32 n2]) 105 (0, 0)) wx) (fun _ _ => False) [10] (by kernel_rfl) (by kernel_rfl) (fun _ _ _ _ h => h.elim) (HP.out.drew) ?_
          iterate 10 (first
              | (apply Chain.walk_quiet (by rfl) (by decide)
                 (intro p wx hp hwn hx K hK
                  obtain rfl : p = 0 := (by rcases Nat.lt_or_ge p 1 with h | h; exact Nat.lt_one_iff.1 h; obtain rfl : p = 1 := Nat.le_antisymm hp h; exact absurd ((Eq.symm (show _ = false by kernel_rfl)).trans hwn) Bool.false_ne_true)
                  obtain ⟨k0, k1, k2⟩ := stRow (boxes3c hx).1
                  have z1 := hx.cell 1
                  have z2 := hx.cell 2
                  simp only [if_true, List.getElem?_toArray, List.getElem?_cons_zero, List.getElem?_cons_succ] at z1 z2
                  first
                    | (go_simp
                       first
                        | (go_at_call 88; with_reducible refine (F1.out _).mono ?_; rintro e x1 ⟨rfl, hb⟩; exact hK _ (hx.next hb))
                        | (go_at_call 86; with_reducible refine (F2.out _).mono ?_; rintro e x1 ⟨rfl, hb⟩; exact hK _ (hx.next hb))
                        | (go_at_call 87; with_reducible refine (F3.out _).mono ?_; rintro e x1 ⟨rfl, hb⟩; exact hK _ (hx.next hb))
                        | (go_at_K; exact hK _ hx)))
                 exact ⟨_, rfl⟩)
              | (refine Chain.walk_no (by rfl) (by decide) ?_; simp only [Act.put, List.setIfInBounds_toArray, List.set_cons_succ, List.set_cons_zero]))
          apply Chain.walk_turn 0 (by rfl) (by rfl)
          · intro wx hx K hK
            exact Put.storeMid 42 _ _ 1 rfl rfl rfl hx (by kernel_rfl) (by simp) (by kernel_rfl) rfl (fun w2 h => hK w2 h)
          · exact ⟨undef, rfl⟩
          refine Chain.walk_nil (fun w5 hb5 => ?_)
          replace hb5 : Put (((w.alloc (.cells #[.int .u32 s1, .int .u32 s2, .int .u32 s3] 105)).alloc (.cells #[.int .u32 0, .int .u32 0, .int .u32 0] 105)).alloc (.cells #[.int .u32 0, .int .u32 0, .int .u32 0] 105)) (w.heap.size + 2) (.cells #[.int .u32 ((0 : Nat) : Int), .int .u32 n1, .int .u32 n2] 105 (0, 0)) w5 := hb5
          try simp only [Act.put]
          have HP5 := Lib.hid hb5
          clear hb5
          go_wp2
          go_roundw
          case rel => exact ⟨k + 1, d + 1, HK.out, by rw [HKD.out], by rw [HD.out], by rw [← HKD.out, hMn]; exact HP5.out⟩
          case measure => have := HKD.out; simp [intOf]; omega
      · have hk2 : k = 2 := by omega
        subst hk2
        have hd3 := HKD.out
        subst hd3
        have hd : decide (((2 + 1 : Nat) : Int) ≤ 2) = false := rfl
        generalize hM2 : MH 2 = mk2 at *
        obtain ⟨m1, m2⟩ := mk2
        have hp := HP.out
        obtain ⟨r1, r2⟩ := boxes3c hp
        obtain ⟨k0, k1, k2⟩ := stRow hp.row
        go_wp2_with (with_reducible show wpList _ _ _ (Oper.mk _ (.store 105 _ _) _ _ _ _ :: _) _ _; refine wpList_put rfl 105 _ _ rfl (w.heap.size + 1) #[.int .u32 ((0 : Nat) : Int), .int .u32 m1, .int .u32 m2] _ 105 rfl rfl r2 (by kernel_rfl) rfl (by kernel_rfl) ?_; intro w9 hr9 hg9; refine Hid.out ?_)
        have hfin := (below3c hp).trans ((Below.refl (w.heap.size + 1) wr).grown hg9.out (by have := hp.size; simp at this; omega) (fun k hk => Nat.le_of_eq (Option.some.inj hk)))
        refine Lib.hid ?_
        go_wp2_with fail
        exact bodyPost_ret (results_cell_row Tryd.results76 _ _ _ _ _ (0, 0) _ rfl (hr9.out) Tryd.underlying105 rfl (by kernel_rfl)) rfl (⟨by rw [hM2], below_of_new hfin⟩)
  · have hne : ((o : Int) != 0) = true := by rw [int_ne0]; simp [h0]
    rw [if_neg h0]
    go_enter Tryd.func76, Tryd.ntmps76
    go_wp2_with fail
    refine Chain.chain (fun p wx => Put (((w.alloc (.cells #[.int .u32 s1, .int .u32 s2, .int .u32 s3] 105)).alloc (.cells #[.int .u32 0, .int .u32 0, .int .u32 0] 105)).alloc (.cells #[.int .u32 0, .int .u32 0, .int .u32 0] 105)) (w.heap.size + 2) (.cells (if p = 0 then #[.int .u32 0, .int .u32 0, .int .u32 0] else #[.int .u32 rc, .int .u32 0, .int .u32 0]) 105 (0, 0)) wx) (fun _ _ => False) [6] (by kernel_rfl) (by kernel_rfl) (fun _ _ _ _ h => h.elim) ((Put.start (new3 w _ _ _)).drew) ?_
    iterate 6 (first
        | (apply Chain.walk_quiet (by rfl) (by decide)
           (intro p wx hp hwn hx K hK
            obtain ⟨k0, k1, k2⟩ := stRow (boxes3c hx).1
            first
              | (go_simp
                 first
                  | (go_at_K; exact hK _ hx)))
           exact ⟨_, rfl⟩)
        | (refine Chain.walk_no (by rfl) (by decide) ?_; simp only [Act.put, List.setIfInBounds_toArray, List.set_cons_succ, List.set_cons_zero]))
    apply Chain.walk_turn 0 (by rfl) (by rfl)
    · intro wx hx K hK
      have hx1 : Put (((w.alloc (.cells #[.int .u32 s1, .int .u32 s2, .int .u32 s3] 105)).alloc (.cells #[.int .u32 0, .int .u32 0, .int .u32 0] 105)).alloc (.cells #[.int .u32 0, .int .u32 0, .int .u32 0] 105)) (w.heap.size + 2) (.cells #[.int .u32 0, .int .u32 0, .int .u32 0] 105 (0, 0)) wx := hx
      have z1 := hx1.cell 0
      have z2 := hx1.free 0
      simp only [List.getElem?_toArray, List.getElem?_cons_zero, List.getElem?_cons_succ] at z1
      go_simp
      go_at_K
      exact hK _ (hx1.put1 0 _)
    · exact ⟨undef, rfl⟩
    refine Chain.walk_nil (fun w4 hb4 => ?_)
    replace hb4 : Put (((w.alloc (.cells #[.int .u32 s1, .int .u32 s2, .int .u32 s3] 105)).alloc (.cells #[.int .u32 0, .int .u32 0, .int .u32 0] 105)).alloc (.cells #[.int .u32 0, .int .u32 0, .int .u32 0] 105)) (w.heap.size + 2) (.cells #[.int .u32 rc, .int .u32 0, .int .u32 0] 105 (0, 0)) w4 := hb4
    try simp only [Act.put]
    have HL : Hid (Put (((w.alloc (.cells #[.int .u32 s1, .int .u32 s2, .int .u32 s3] 105)).alloc (.cells #[.int .u32 0, .int .u32 0, .int .u32 0] 105)).alloc (.cells #[.int .u32 0, .int .u32 0, .int .u32 0] 105)) (w.heap.size + 2) (.cells #[.int .u32 rc, .int .u32 (MH 0).up, .int .u32 (MH 0).dn] 105 (0, 0)) w4) := Lib.hid (by rw [H0.out]; exact hb4)
    clear h0 H0 hb4
    go_wp2_with fail
    go_loopw [8] (fun v wr => ∃ k d : Nat, k ≤ 2 ∧ d = k + 1 ∧ v = .int .i64 (d : Int) ∧ Put (((w.alloc (.cells #[.int .u32 s1, .int .u32 s2, .int .u32 s3] 105)).alloc (.cells #[.int .u32 0, .int .u32 0, .int .u32 0] 105)).alloc (.cells #[.int .u32 0, .int .u32 0, .int .u32 0] 105)) (w.heap.size + 2) (.cells #[.int .u32 rc, .int .u32 (MH k).up, .int .u32 (MH k).dn] 105 (0, 0)) wr) (fun v _ => 3 - (intOf v).toNat)
    case atStart => exact ⟨0, 1, by omega, rfl, rfl, HL.out⟩
    case round =>
      obtain ⟨k, d, hk, hkd, rfl, hP⟩ := hrel
      have HKD := Lib.hid hkd
      clear hkd
      have HP := Lib.hid hP
      clear hP
      by_cases hlt : k < 2
      · have hd : decide ((d : Int) ≤ 2) = true := decide_eq_true (by have := HKD.out; omega)
        have hbit := HB.out d (by have := HKD.out; omega)
        have hnx := HN.out k
        rw [← HKD.out] at hnx
        have hok := HH.out k
        have F1 := Lib.hid (fun wx => FO.out d wx)
        have F2 := Lib.hid (fun wx => FB.out d wx)
        have F3 := Lib.hid (fun wx => FU.out (MH k) hok d wx)
        have hw1 : IntKind.i64.wrap ((d : Int) + 1) = (d : Int) + 1 := by rw [IntKind.wrap_i64]; have := HKD.out; omega
        have hkn : decide ((d : Int) < 0) = false := decide_eq_false (by omega)
        have HK := Lib.hid (show k + 1 ≤ 2 by omega)
        have HD := Lib.hid (show (d : Int) + 1 = ((d + 1 : Nat) : Int) by omega)
        generalize hMk : MH k = mk0 at *
        generalize hMn : MH d = mk1 at *
        obtain ⟨m1, m2⟩ := mk0
        obtain ⟨n1, n2⟩ := mk1
        generalize Cs.one (f : Int) (d : Int) = on at *
        obtain ⟨on1, on2⟩ := on
        generalize Cs.both ⟨s2, s3⟩ ⟨on1, on2⟩ = bo at *
        obtain ⟨bo1, bo2⟩ := bo
        simp only [Cs.agg] at F1 F2 F3
        cases hob : o.testBit d
        · rw [hob, if_neg (by decide)] at hbit hnx
          go_wp2
          go_roundw
          case rel => exact ⟨k + 1, d + 1, HK.out, by rw [HKD.out], by rw [HD.out], by rw [← HKD.out, hMn, hnx]; exact HP.out⟩
          case measure => have := HKD.out; simp [intOf]; omega
        · rw [hob, if_pos rfl] at hbit hnx
          rw [← hnx] at F3
          clear hnx hMk hok
          go_wp2_with fail
          refine Chain.chain (fun p wx => Put (((w.alloc (.cells #[.int .u32 s1, .int .u32 s2, .int .u32 s3] 105)).alloc (.cells #[.int .u32 0, .int .u32 0, .int .u32 0] 105)).alloc (.cells #[.int .u32 0, .int .u32 0, .int .u32 0] 105)) (w.heap.size + 2) (.cells (if p = 0 then #[.int .u32 rc, .int .u32 m1, .int .u32 m2] else #[.int .u32 rc, .int .u32 n1, .int .u32 n2]) 105 (0, 0)) wx) (fun _ _ => False) [10] (by kernel_rfl) (by kernel_rfl) (fun _ _ _ _ h => h.elim) (HP.out.drew) ?_
          iterate 10 (first
              | (apply Chain.walk_quiet (by rfl) (by decide)
                 (intro p wx hp hwn hx K hK
                  obtain rfl : p = 0 := (by rcases Nat.lt_or_ge p 1 with h | h; exact Nat.lt_one_iff.1 h; obtain rfl : p = 1 := Nat.le_antisymm hp h; exact absurd ((Eq.symm (show _ = false by kernel_rfl)).trans hwn) Bool.false_ne_true)
                  obtain ⟨k0, k1, k2⟩ := stRow (boxes3c hx).1
                  have z1 := hx.cell 1
                  have z2 := hx.cell 2
                  simp only [if_true, List.getElem?_toArray, List.getElem?_cons_zero, List.getElem?_cons_succ] at z1 z2
                  first
                    | (go_simp
                       first
                        | (go_at_call 88; with_reducible refine (F1.out _).mono ?_; rintro e x1 ⟨rfl, hb⟩; exact hK _ (hx.next hb))
                        | (go_at_call 86; with_reducible refine (F2.out _).mono ?_; rintro e x1 ⟨rfl, hb⟩; exact hK _ (hx.next hb))
                        | (go_at_call 87; with_reducible refine (F3.out _).mono ?_; rintro e x1 ⟨rfl, hb⟩; exact hK _ (hx.next hb))
                        | (go_at_K; exact hK _ hx)))
                 exact ⟨_, rfl⟩)
              | (refine Chain.walk_no (by rfl) (by decide) ?_; simp only [Act.put, List.setIfInBounds_toArray, List.set_cons_succ, List.set_cons_zero]))
          apply Chain.walk_turn 0 (by rfl) (by rfl)
          · intro wx hx K hK
            exact Put.storeMid 42 _ _ 1 rfl rfl rfl hx (by kernel_rfl) (by simp) (by kernel_rfl) rfl (fun w2 h => hK w2 h)
          · exact ⟨undef, rfl⟩
          refine Chain.walk_nil (fun w5 hb5 => ?_)
          replace hb5 : Put (((w.alloc (.cells #[.int .u32 s1, .int .u32 s2, .int .u32 s3] 105)).alloc (.cells #[.int .u32 0, .int .u32 0, .int .u32 0] 105)).alloc (.cells #[.int .u32 0, .int .u32 0, .int .u32 0] 105)) (w.heap.size + 2) (.cells #[.int .u32 rc, .int .u32 n1, .int .u32 n2] 105 (0, 0)) w5 := hb5
          try simp only [Act.put]
          have HP5 := Lib.hid hb5
          clear hb5
          go_wp2
          go_roundw
          case rel => exact ⟨k + 1, d + 1, HK.out, by rw [HKD.out], by rw [HD.out], by rw [← HKD.out, hMn]; exact HP5.out⟩
          case measure => have := HKD.out; simp [intOf]; omega
      · have hk2 : k = 2 := by omega
        subst hk2
        have hd3 := HKD.out
        subst hd3
        have hd : decide (((2 + 1 : Nat) : Int) ≤ 2) = false := rfl
        generalize hM2 : MH 2 = mk2 at *
        obtain ⟨m1, m2⟩ := mk2
        have hp := HP.out
        obtain ⟨r1, r2⟩ := boxes3c hp
        obtain ⟨k0, k1, k2⟩ := stRow hp.row
        go_wp2_with (with_reducible show wpList _ _ _ (Oper.mk _ (.store 105 _ _) _ _ _ _ :: _) _ _; refine wpList_put rfl 105 _ _ rfl (w.heap.size + 1) #[.int .u32 rc, .int .u32 m1, .int .u32 m2] _ 105 rfl rfl r2 (by kernel_rfl) rfl (by kernel_rfl) ?_; intro w9 hr9 hg9; refine Hid.out ?_)
        have hfin := (below3c hp).trans ((Below.refl (w.heap.size + 1) wr).grown hg9.out (by have := hp.size; simp at this; omega) (fun k hk => Nat.le_of_eq (Option.some.inj hk)))
        refine Lib.hid ?_
        go_wp2_with fail
        exact bodyPost_ret (results_cell_row Tryd.results76 _ _ _ _ _ (0, 0) _ rfl (hr9.out) Tryd.underlying105 rfl (by kernel_rfl)) rfl (⟨by rw [hM2], below_of_new hfin⟩)
end Go.Proofs.YtnjcegkefjdgdaaDoor
