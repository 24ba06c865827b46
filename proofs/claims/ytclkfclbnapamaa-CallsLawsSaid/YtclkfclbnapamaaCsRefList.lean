/- List, Count and Same of the reference. No statement of the seat is proved here. -/
import Derived.Test.YtclkfclbnapamaaCsRow
import Derived.Test.YtclkfclbnapamaaCsHas
namespace Go.Proofs.Ytclkfclbnapamaa
open Go.RowKit

set_option maxHeartbeats 1000000 in
theorem same_any (l : List En) (v1 v2 : Value) (w : World) (h1 : EV w v1 l) (h2 : EV w v2 l) (hl : l.length ≤ 1000000) :
    Calls Try.prog 22 #[v1, v2] w fun e w' => e = .returned (.bool true) ∧ Below w.heap.size w w' := by
  obtain ⟨A1, c1, rfl, hA1⟩ := h1
  obtain ⟨A2, c2, rfl, hA2⟩ := h2
  have H1 := Lib.hid hA1
  have H2 := Lib.hid hA2
  clear hA1 hA2
  go_enter Try.func22, Try.ntmps22
  go_wp2_with fail
  go_loopw [5] (fun v wr => ∃ k : Nat, k ≤ l.length ∧ v = .int .i64 k ∧ Below w.heap.size w wr) (fun v _ => l.length - (intOf v).toNat)
  case atStart => exact ⟨0, Nat.zero_le _, rfl, Below.refl _ _⟩
  case round =>
    obtain ⟨k, hk, rfl, hbw⟩ := hrel
    by_cases hlt : k < l.length
    · obtain ⟨b, off, rfl, hb, r0, r1, r2, r3, r4⟩ := (H1.out.below hbw).at_ hlt
      obtain ⟨b', off', rfl, hb', q0, q1, q2, q3, q4⟩ := (H2.out.below hbw).at_ hlt
      generalize l[k] = rk at *
      obtain ⟨rf, rd, rc, rm, ro⟩ := rk
      simp only at r0 r1 r2 r3 r4 q0 q1 q2 q3 q4
      have HB := Lib.hid hbw
      clear hbw
      go_wp2_with fail
      go_quiet (fail)
      go_wp2_with fail
      go_roundw
      case rel => exact ⟨k + 1, by omega, by go_num, below_drewN HB.out _⟩
      case measure => simp [intOf]; omega
    · obtain rfl : k = l.length := by omega
      go_wp2
      go_ret
      exact ⟨rfl, hbw⟩

set_option maxHeartbeats 4000000 in
theorem refList_any (c : Cs) (w : World) (hc : c.ok) :
    Calls Try.prog 24 #[c.agg] w fun e w' => ∃ v, e = .returned v ∧ EV w' v (Cs.ents c) ∧ Below w.heap.size w w' := by
  obtain ⟨i0, hi0, hz0, hz1, hz2⟩ := info_parts enInfo
  have F := Lib.hid (fun (k d : Nat) w => refHas_any c k d w hc)
  have HBX := Lib.hid (fun (wx : World) (h : Below (w.heap.size + 1) (w.alloc (.cells #[.int .u32 c.up, .int .u32 c.dn] 24)) wx) => boxCs h)
  have HY := Lib.hid (fun k d hk h1 h2 hh => Cs.partE_yes (c := c) (k := k) (d := d) hc hk h1 h2 hh)
  have HNO := Lib.hid (fun k d hk h1 h2 hh => Cs.partE_no (c := c) (k := k) (d := d) hc hk h1 h2 hh)
  have HX := Lib.hid (And.intro (Cs.partE_next c) (And.intro (Cs.partE_end c) (Cs.partE_zero c)))
  have HLE := Lib.hid (fun k d hk => Cs.partE_le c (k := k) (d := d) hk)
  generalize Cs.ents c = E at *
  generalize Cs.partE c = pt at *
  obtain ⟨hs, hhs⟩ : ∃ hs : Nat → Nat → Bool, ∀ k d : Nat, Cs.has c k d = hs k d := ⟨_, fun _ _ => rfl⟩
  have HHS := Lib.hid hhs
  simp only [hhs] at F HY HNO
  clear hhs HHS
  obtain ⟨c1, c2⟩ := c
  simp only [Cs.agg] at *
  clear hc
  go_enter Try.func24, Try.ntmps24
  go_wp2_with fail
  have hW0 : Below (w.heap.size + 1) (w.alloc (.cells #[.int .u32 c1, .int .u32 c2] 24)) (w.alloc (.cells #[.int .u32 c1, .int .u32 c2] 24)) := Below.refl _ _
  have HW0 := Lib.hid hW0
  clear hW0
  go_loopw [3, 4, 5] (fun v f d wr => ∃ k : Nat, k ≤ 32 ∧ f = .int .i64 k ∧ wr.ownsRow (w.heap.size + 1) 38 5 v (pt k 1).length (flatE (pt k 1)) ∧ Below (w.heap.size + 1) (w.alloc (.cells #[.int .u32 c1, .int .u32 c2] 24)) wr) (fun _ f _ _ => 32 - (intOf f).toNat)
  case atStart => exact ⟨0, by omega, rfl, by rw [HX.out.2.2]; exact World.ownsRow_nil _ _ _ _, HW0.out⟩
  case round =>
    obtain ⟨k, hk, rfl, hown, hbw⟩ := hrel
    by_cases hlt : k < 32
    · have HW := Lib.hid (And.intro hown hbw)
      clear hown hbw
      have hd : decide ((k : Int) < 32) = true := decide_eq_true (by omega)
      go_wp2_with fail
      go_loopw [3, 5] (fun v d wr => ∃ m : Nat, 1 ≤ m ∧ m ≤ 3 ∧ d = .int .i64 m ∧ wr.ownsRow (w.heap.size + 1) 38 5 v (pt k m).length (flatE (pt k m)) ∧ Below (w.heap.size + 1) (w.alloc (.cells #[.int .u32 c1, .int .u32 c2] 24)) wr) (fun _ d _ => 3 - (intOf d).toNat)
      case atStart => exact ⟨1, by omega, by omega, rfl, HW.out.1, HW.out.2⟩
      case round =>
        obtain ⟨m, hm1, hm3, rfl, hown, hbw⟩ := hrel
        have HW2 := Lib.hid (And.intro hown hbw)
        obtain ⟨k0, k1⟩ := HBX.out _ hbw
        have hsz := size1 hbw
        clear hown hbw
        by_cases hm : m < 3
        · have hle := HLE.out k m hlt
          have hd2 : decide ((m : Int) ≤ 2) = true := decide_eq_true (by omega)
          cases hh : hs k m
          · have hno := Lib.hid (HNO.out k m hlt hm1 (by omega) hh)
            have F1 := Lib.hid (fun w => F.out k m w)
            rw [hh] at F1
            clear hh
            go_wp2_with fail
            refine (F1.out _).mono ?_
            rintro e w2 ⟨rfl, hb⟩
            have HB := Lib.hid hb
            clear hb k0 k1
            go_wp2_with fail
            go_roundw
            case rel => exact ⟨m + 1, by omega, by omega, by go_num, by rw [hno.out]; exact own_of_blocks HW2.out.1 (fun j _ hj => HB.out.block j hj), HW2.out.2.trans (HB.out.mono hsz)⟩
            case measure => simp [intOf]; omega
          · have hyes := Lib.hid (HY.out k m hlt hm1 (by omega) hh)
            have F1 := Lib.hid (fun w => F.out k m w)
            rw [hh] at F1
            clear hh
            go_wp2_with fail
            refine (F1.out _).mono ?_
            rintro e w2 ⟨rfl, hb⟩
            have HO := Lib.hid (own_of_blocks HW2.out.1 (fun j _ hj => hb.block j hj))
            have HB := Lib.hid (HW2.out.2.trans (hb.mono hsz))
            have hsz2 := size1 HB.out
            clear hb k0 k1
            have hm63 : (pt k m).length + 1 ≤ maxLen := by unfold maxLen; omega
            go_wp2_with (at_builtin; refine wpList_append_own _ rfl (.tmp 18) (.tmp 22) 31 rfl (w.heap.size + 1) 38 i0 _ 5 40 Try.underlying31 hi0 hz0 hz1 hz2 rfl (by decide) u3 (pt k m).length (flatE (pt k m)) rfl (HO.out.alloc _) ⟨w2.heap.size, 0, none⟩ 1 1 _ rfl ?hl (World.news_of_block (heap_alloc_new _ _)) ?h1 hm63 ?hby ?hbase ?hK)
            case h1 => exact ⟨rfl, rfl, rfl, rfl, rfl⟩
            case hby => omega
            case hbase => simp; omega
            intro v' w' hown' hgrow _
            have hbw' := (HB.out.alloc (by omega) _).grown hgrow (by simp; omega) (fun k hk => by have := HO.out.lt k hk; omega)
            have hown2 : w'.ownsRow (w.heap.size + 1) 38 5 v' (pt k (m + 1)).length (flatE (pt k (m + 1))) := by rw [hyes.out, flatE_append, List.length_append]; exact hown'
            have HF := Lib.hid (And.intro hown2 hbw')
            clear hbw' hown2 hown' hgrow
            go_wp2_with fail
            go_roundw
            case rel => exact ⟨m + 1, by omega, by omega, by go_num, HF.out.1, HF.out.2⟩
            case measure => simp [intOf]; omega
        · obtain rfl : m = 3 := by omega
          clear k0 k1
          go_wp2_with fail
          go_roundw
          case rel => exact ⟨k + 1, by omega, by go_num, by rw [HX.out.1]; exact HW2.out.1, HW2.out.2⟩
          case measure => simp [intOf]; omega
    · obtain rfl : k = 32 := by omega
      have HW := Lib.hid (And.intro hown hbw)
      clear hown hbw
      go_wp2_with fail
      go_ret
      exact ⟨_, rfl, (EV.of_own (HX.out.2.1 ▸ HW.out.1)).2, below_of_new HW.out.2⟩
set_option maxHeartbeats 1000000 in
theorem refCount_any (c : Cs) (w : World) (hc : c.ok) :
    Calls Try.prog 26 #[c.agg] w fun e w' => e = .returned (.int .i64 (Cs.count c)) ∧ Below w.heap.size w w' := by
  have F := Lib.hid (fun w => refList_any c w hc)
  have hl := Cs.ents_len hc
  rw [← hl]
  obtain ⟨c1, c2⟩ := c
  simp only [Cs.agg] at *
  generalize Cs.ents _ = E at *
  clear hc hl
  go_enter Try.func26, Try.ntmps26
  go_wp2_with fail
  refine (F.out _).mono ?_
  rintro e w1 ⟨v, rfl, ⟨A, cap, rfl, -⟩, hb⟩
  have HB := Lib.hid hb
  clear hb
  go_wp2_with fail
  go_ret
  exact ⟨rfl, below_of_new (HB.out.mono (by simp))⟩
end Go.Proofs.Ytclkfclbnapamaa
