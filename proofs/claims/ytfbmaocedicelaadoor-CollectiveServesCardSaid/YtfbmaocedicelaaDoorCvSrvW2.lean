/- A car that is played with a hall call down: the walk. No statement of the seat is proved here. -/
import Derived.Test.YtfbmaocedicelaaDoorCvPlay
namespace Go.Proofs.YtfbmaocedicelaaDoor
open Go.RowKit Ghost Go.ChangeShapes Go.WideShapes Go.ChangeAt Go.Deep

set_option maxRecDepth 100000 in
set_option maxHeartbeats 16000000 in
theorem lawServes2_nat (p1 p2 p3 : Int) (x y z : Nat) (v : Value) (l : List Stp) (w : World) (hx : x < 256) (hy : y < 256) (hz : z < 256) (hz2 : z % 2 = 1) (hv : SV w v l) (hl : ∀ c ∈ l, c.ok) (hln : l.length ≤ maxLen) (hT : Tabs w) :
    Calls Tryd.prog 6 #[.agg #[.int .i64 p1, .int .i64 p2, .int .i64 p3], .agg #[.int .u8 x, .int .u8 y, .int .u8 z], v] w fun e w' => e = .returned (.bool true) ∧ Below w.heap.size w w' := by
  have FS := Lib.hid (fun wx (hb : Below w.heap.size w wx) => sane11_any wx (hT.below hb))
  obtain ⟨F, hFe⟩ : ∃ F : Nat, F = 2 + x % 9 := ⟨_, rfl⟩
  have hF2 : 2 ≤ F := by omega
  have hF10 : F ≤ 10 := by omega
  have hF32 : F ≤ 32 := by omega
  have eF : (2 : Int) + (x : Int) % 9 = (F : Int) := by omega
  obtain ⟨g, hge⟩ : ∃ g : Nat, g = y % (F - 1) + 1 := ⟨_, rfl⟩
  have hgm : y % (F - 1) < F - 1 := Nat.mod_lt _ (by omega)
  have hgF : g < F := by omega
  have hgg : 0 < g := by omega
  have hg32 : g < 32 := by omega
  have eg0 : (y : Int) % ((F : Int) - 1) = ((y % (F - 1) : Nat) : Int) := by rw [Int.natCast_emod]; congr 1; omega
  have eg : (y : Int) % ((F : Int) - 1) + 1 = (g : Int) := by rw [eg0]; omega
  have ez : ((z : Int) % 2 == 1) = true := by rw [beq_iff_eq]; omega
  obtain ⟨f0, hf0, ef⟩ := uint_mod p3 F (by omega) (by omega)
  obtain ⟨d0, hd0, ed⟩ := uint_mod p1 3 (by omega) (by omega)
  obtain ⟨o0, ho0, eo⟩ := uint_mod p2 8 (by omega) (by omega)
  have ed' : wrap64 ((IntKind.u64.wrap p1).tmod 3) = (d0 : Int) := ed
  have eo' : wrap64 ((IntKind.u64.wrap p2).tmod 8) = (o0 : Int) := eo
  obtain ⟨A, cap, rfl, hA⟩ := hv
  have HV := Lib.hid hA
  have HL := Lib.hid hl
  have hx9 : (x : Int) % 9 < 9 := by omega
  have hx0 : 0 ≤ (x : Int) % 9 := by omega
  have hFI := Lib.hid hFe
  clear hA hl ed eo hFe hge hgm eg0 hz2
  go_enter Tryd.func6, Tryd.ntmps6
  go_wp2_with fail
  simp only [eF, eg, ef, ed', eo']
  clear eF eg ef ed' eo' hx hy hz ez
  have hst := play_start (w := w) (A := .cells #[.int .i64 p1, .int .i64 p2, .int .i64 p3] 25) (B := .cells #[.int .u8 x, .int .u8 y, .int .u8 z] 43) (C := .cells #[.int .i64 (d0 : Int), .int .i64 (o0 : Int)] 23) (D := .cells #[.int .u32 0, .int .u32 0, .int .u32 0] 30)
  have HST := Lib.hid hst
  clear hst
  go_loopw [10, 12, 13, 14, 15, 17] (fun vf vl vt vm vo vi wr => ∃ (f d o last turns moves opens i : Nat) (s : Stp), vf = .int .i64 (f : Int) ∧ vl = .int .i64 (last : Int) ∧ vt = .int .i64 (turns : Int) ∧ vm = .int .i64 (moves : Int) ∧ vo = .int .i64 (opens : Int) ∧ vi = .int .i64 (i : Int) ∧ Cv.Inv2 F g f d o last turns moves opens i ∧ s.ok ∧ Bx w [(w.heap.size + 3, .cells #[.int .u32 s.car, .int .u32 s.h.up, .int .u32 s.h.dn] 30 (0, 0)), (w.heap.size + 2, .cells #[.int .i64 (d : Int), .int .i64 (o : Int)] 23 (0, 0))] wr) (fun _ _ _ _ _ vi _ => 400 - (intOf vi).toNat)
  case atStart =>
    refine ⟨f0, d0, o0, 0, 0, 0, 0, 0, ⟨0, ⟨0, 0⟩⟩, rfl, rfl, rfl, rfl, rfl, rfl, ?_, ⟨by decide, by decide, by decide⟩, HST.out⟩
    exact ⟨hf0, by omega, by omega, by omega, fun _ => ⟨rfl, rfl⟩, fun _ _ => ⟨rfl, Nat.zero_le _⟩, fun h => absurd rfl h, fun h => absurd rfl h, fun h => absurd rfl h, fun h => absurd rfl h, Nat.zero_le _, Nat.zero_le _⟩
  case round =>
    obtain ⟨f, d, o, last, turns, moves, opens, i, s, rfl, rfl, rfl, rfl, rfl, rfl, hInv, hs, hbx⟩ := hrel
    have HB := Lib.hid hbx
    clear hbx HST
    have hall0 := hInv.all
    have hi4 := hInv.ii
    have hff := hInv.ff
    have hi : decide ((i : Int) < 400) = true := decide_eq_true (by omega)
    have hi400 : i ≤ 200 := by omega
    obtain ⟨s0, s1, s2⟩ := s
    go_upto_if 63 with fail
    go_cut [] from 56 to 186 (fun wx => ∃ qg c1 c2 : Nat, Stp.ok ⟨qg, ⟨c1, c2⟩⟩ ∧ Bx w [(w.heap.size + 3, .cells #[.int .u32 qg, .int .u32 c1, .int .u32 c2] 30 (0, 0)), (w.heap.size + 2, .cells #[.int .i64 (d : Int), .int .i64 (o : Int)] 23 (0, 0))] wx)
    case first =>
      by_cases hil : i < l.length
      · have hlt : decide ((i : Int) < (l.length : Int)) = true := decide_eq_true (by omega)
        obtain ⟨bb, off, rfl, hbb, k0, k1, k2⟩ := HV.out.at_ hil
        have hlo := HL.out _ (List.getElem_mem hil)
        generalize l[i] = li at *
        obtain ⟨l0, l1, l2⟩ := li
        have FU := Lib.hid (fun wx => refUnion_any ⟨s1, s2⟩ ⟨l1, l2⟩ wx hs.2 hlo.2)
        have ho1 := u32_or_nat s0 l0 hs.1 hlo.1
        have hq : Stp.ok ⟨s0 ||| l0, Cs.union ⟨s1, s2⟩ ⟨l1, l2⟩⟩ := ⟨Cs.or_lt hs.1 hlo.1, Cs.union_ok hs.2 hlo.2⟩
        generalize Cs.union ⟨s1, s2⟩ ⟨l1, l2⟩ = qh at *
        obtain ⟨c1, c2⟩ := qh
        generalize s0 ||| l0 = qg at *
        simp only [Cs.agg] at FU k0 k1 k2 ho1
        have hn1 : ¬ (i : Int) < 0 := by omega
        have hn2 : (i : Int) < (l.length : Int) := by omega
        have HK := Lib.hid (And.intro k0 (And.intro k1 k2))
        clear k0 k1 k2
        have hB3 : bb < w.heap.size + 3 := by omega
        have HR := Lib.hid (Put.start HB.out.r0)
        have hbw : bb < wr.heap.size := by have := HB.out.below.size; omega
        have HKW := Lib.hid (fun (wx : World) (h : ∀ j, wx.cell? ⟨bb, j, none⟩ = wr.cell? ⟨bb, j, none⟩) => show wx.cell? ⟨bb, off + i * 3, none⟩ = some (.int .u32 (l0 : Int)) ∧ wx.cell? ⟨bb, off + i * 3 + 1, none⟩ = some (.int .u32 (l1 : Int)) ∧ wx.cell? ⟨bb, off + i * 3 + 2, none⟩ = some (.int .u32 (l2 : Int)) from ⟨(h _).trans ((HB.out.below.cell (p := ⟨bb, off + i * 3, none⟩) hbb).trans HK.out.1), (h _).trans ((HB.out.below.cell (p := ⟨bb, off + i * 3 + 1, none⟩) hbb).trans HK.out.2.1), (h _).trans ((HB.out.below.cell (p := ⟨bb, off + i * 3 + 2, none⟩) hbb).trans HK.out.2.2)⟩)
        go_wp2_with fail
        refine Chain.chain (fun p wx => Put (wr) (w.heap.size + 3) (.cells (if p = 0 then #[.int .u32 s0, .int .u32 s1, .int .u32 s2] else if p = 1 then #[.int .u32 qg, .int .u32 s1, .int .u32 s2] else #[.int .u32 qg, .int .u32 c1, .int .u32 c2]) 30 (0, 0)) wx) (fun _ _ => False) [17, 19] (by kernel_rfl) (by kernel_rfl) (fun _ _ _ _ h => h.elim) (HR.out.drew) ?_
        apply Chain.walk_quiet (by rfl) (by decide)
        · intro p wx hp hwn hx K hK
          obtain ⟨k0, k1, k2⟩ := HKW.out wx (fun j => hx.cellOf hbw (by omega))
          go_simp
          first
            | (go_at_call 13; refine (FU.out _).mono ?_; rintro e x1 ⟨rfl, hb⟩; exact hK _ (hx.next hb))
            | (go_at_K; exact hK _ hx)
        · exact ⟨_, rfl⟩
        apply Chain.walk_quiet (by rfl) (by decide)
        · intro p wx hp hwn hx K hK
          obtain ⟨k0, k1, k2⟩ := HKW.out wx (fun j => hx.cellOf hbw (by omega))
          obtain rfl : p = 0 := (by rcases Nat.lt_or_ge p 1 with h | h; exact Nat.lt_one_iff.1 h; rcases (show p = 1 ∨ p = 2 by simp at hp; omega) with rfl | rfl <;> exact absurd ((Eq.symm (show _ = false by kernel_rfl)).trans hwn) Bool.false_ne_true)
          have z0 := hx.cell 0
          simp only [if_true, List.getElem?_toArray, List.getElem?_cons_zero, List.getElem?_cons_succ] at z0
          go_simp
          first
            | (go_at_call 13; refine (FU.out _).mono ?_; rintro e x1 ⟨rfl, hb⟩; exact hK _ (hx.next hb))
            | (go_at_K; exact hK _ hx)
        · exact ⟨_, rfl⟩
        apply Chain.walk_quiet (by rfl) (by decide)
        · intro p wx hp hwn hx K hK
          obtain ⟨k0, k1, k2⟩ := HKW.out wx (fun j => hx.cellOf hbw (by omega))
          go_simp
          first
            | (go_at_call 13; refine (FU.out _).mono ?_; rintro e x1 ⟨rfl, hb⟩; exact hK _ (hx.next hb))
            | (go_at_K; exact hK _ hx)
        · exact ⟨_, rfl⟩
        apply Chain.walk_quiet (by rfl) (by decide)
        · intro p wx hp hwn hx K hK
          obtain ⟨k0, k1, k2⟩ := HKW.out wx (fun j => hx.cellOf hbw (by omega))
          go_simp
          first
            | (go_at_call 13; refine (FU.out _).mono ?_; rintro e x1 ⟨rfl, hb⟩; exact hK _ (hx.next hb))
            | (go_at_K; exact hK _ hx)
        · exact ⟨_, rfl⟩
        apply Chain.walk_quiet (by rfl) (by decide)
        · intro p wx hp hwn hx K hK
          obtain ⟨k0, k1, k2⟩ := HKW.out wx (fun j => hx.cellOf hbw (by omega))
          go_simp
          first
            | (go_at_call 13; refine (FU.out _).mono ?_; rintro e x1 ⟨rfl, hb⟩; exact hK _ (hx.next hb))
            | (go_at_K; exact hK _ hx)
        · exact ⟨_, rfl⟩
        apply Chain.walk_quiet (by rfl) (by decide)
        · intro p wx hp hwn hx K hK
          obtain ⟨k0, k1, k2⟩ := HKW.out wx (fun j => hx.cellOf hbw (by omega))
          go_simp
          first
            | (go_at_call 13; refine (FU.out _).mono ?_; rintro e x1 ⟨rfl, hb⟩; exact hK _ (hx.next hb))
            | (go_at_K; exact hK _ hx)
        · exact ⟨_, rfl⟩
        apply Chain.walk_quiet (by rfl) (by decide)
        · intro p wx hp hwn hx K hK
          obtain ⟨k0, k1, k2⟩ := HKW.out wx (fun j => hx.cellOf hbw (by omega))
          go_simp
          first
            | (go_at_call 13; refine (FU.out _).mono ?_; rintro e x1 ⟨rfl, hb⟩; exact hK _ (hx.next hb))
            | (go_at_K; exact hK _ hx)
        · exact ⟨_, rfl⟩
        apply Chain.walk_quiet (by rfl) (by decide)
        · intro p wx hp hwn hx K hK
          obtain ⟨k0, k1, k2⟩ := HKW.out wx (fun j => hx.cellOf hbw (by omega))
          go_simp
          first
            | (go_at_call 13; refine (FU.out _).mono ?_; rintro e x1 ⟨rfl, hb⟩; exact hK _ (hx.next hb))
            | (go_at_K; exact hK _ hx)
        · exact ⟨_, rfl⟩
        apply Chain.walk_quiet (by rfl) (by decide)
        · intro p wx hp hwn hx K hK
          obtain ⟨k0, k1, k2⟩ := HKW.out wx (fun j => hx.cellOf hbw (by omega))
          go_simp
          first
            | (go_at_call 13; refine (FU.out _).mono ?_; rintro e x1 ⟨rfl, hb⟩; exact hK _ (hx.next hb))
            | (go_at_K; exact hK _ hx)
        · exact ⟨_, rfl⟩
        apply Chain.walk_quiet (by rfl) (by decide)
        · intro p wx hp hwn hx K hK
          obtain ⟨k0, k1, k2⟩ := HKW.out wx (fun j => hx.cellOf hbw (by omega))
          obtain rfl : p = 0 := (by rcases Nat.lt_or_ge p 1 with h | h; exact Nat.lt_one_iff.1 h; rcases (show p = 1 ∨ p = 2 by simp at hp; omega) with rfl | rfl <;> exact absurd ((Eq.symm (show _ = false by kernel_rfl)).trans hwn) Bool.false_ne_true)
          have z1 := hx.cell 1
          have z2 := hx.cell 2
          simp only [if_true, List.getElem?_toArray, List.getElem?_cons_zero, List.getElem?_cons_succ] at z1 z2
          go_simp
          first
            | (go_at_call 13; refine (FU.out _).mono ?_; rintro e x1 ⟨rfl, hb⟩; exact hK _ (hx.next hb))
            | (go_at_K; exact hK _ hx)
        · exact ⟨_, rfl⟩
        apply Chain.walk_quiet (by rfl) (by decide)
        · intro p wx hp hwn hx K hK
          obtain ⟨k0, k1, k2⟩ := HKW.out wx (fun j => hx.cellOf hbw (by omega))
          go_simp
          first
            | (go_at_call 13; refine (FU.out _).mono ?_; rintro e x1 ⟨rfl, hb⟩; exact hK _ (hx.next hb))
            | (go_at_K; exact hK _ hx)
        · exact ⟨_, rfl⟩
        apply Chain.walk_quiet (by rfl) (by decide)
        · intro p wx hp hwn hx K hK
          obtain ⟨k0, k1, k2⟩ := HKW.out wx (fun j => hx.cellOf hbw (by omega))
          go_simp
          first
            | (go_at_call 13; refine (FU.out _).mono ?_; rintro e x1 ⟨rfl, hb⟩; exact hK _ (hx.next hb))
            | (go_at_K; exact hK _ hx)
        · exact ⟨_, rfl⟩
        apply Chain.walk_quiet (by rfl) (by decide)
        · intro p wx hp hwn hx K hK
          obtain ⟨k0, k1, k2⟩ := HKW.out wx (fun j => hx.cellOf hbw (by omega))
          go_simp
          first
            | (go_at_call 13; refine (FU.out _).mono ?_; rintro e x1 ⟨rfl, hb⟩; exact hK _ (hx.next hb))
            | (go_at_K; exact hK _ hx)
        · exact ⟨_, rfl⟩
        apply Chain.walk_quiet (by rfl) (by decide)
        · intro p wx hp hwn hx K hK
          obtain ⟨k0, k1, k2⟩ := HKW.out wx (fun j => hx.cellOf hbw (by omega))
          go_simp
          first
            | (go_at_call 13; refine (FU.out _).mono ?_; rintro e x1 ⟨rfl, hb⟩; exact hK _ (hx.next hb))
            | (go_at_K; exact hK _ hx)
        · exact ⟨_, rfl⟩
        apply Chain.walk_quiet (by rfl) (by decide)
        · intro p wx hp hwn hx K hK
          obtain ⟨k0, k1, k2⟩ := HKW.out wx (fun j => hx.cellOf hbw (by omega))
          go_simp
          first
            | (go_at_call 13; refine (FU.out _).mono ?_; rintro e x1 ⟨rfl, hb⟩; exact hK _ (hx.next hb))
            | (go_at_K; exact hK _ hx)
        · exact ⟨_, rfl⟩
        apply Chain.walk_quiet (by rfl) (by decide)
        · intro p wx hp hwn hx K hK
          obtain ⟨k0, k1, k2⟩ := HKW.out wx (fun j => hx.cellOf hbw (by omega))
          go_simp
          first
            | (go_at_call 13; refine (FU.out _).mono ?_; rintro e x1 ⟨rfl, hb⟩; exact hK _ (hx.next hb))
            | (go_at_K; exact hK _ hx)
        · exact ⟨_, rfl⟩
        apply Chain.walk_quiet (by rfl) (by decide)
        · intro p wx hp hwn hx K hK
          obtain ⟨k0, k1, k2⟩ := HKW.out wx (fun j => hx.cellOf hbw (by omega))
          go_simp
          first
            | (go_at_call 13; refine (FU.out _).mono ?_; rintro e x1 ⟨rfl, hb⟩; exact hK _ (hx.next hb))
            | (go_at_K; exact hK _ hx)
        · exact ⟨_, rfl⟩
        apply Chain.walk_turn 0 (by rfl) (by rfl)
        · intro wx hx K hK
          have hx1 : Put (wr) (w.heap.size + 3) (.cells #[.int .u32 s0, .int .u32 s1, .int .u32 s2] 30 (0, 0)) wx := hx
          have z1 := hx1.cell 0
          have z2 := hx1.free 0
          simp only [List.getElem?_toArray, List.getElem?_cons_zero, List.getElem?_cons_succ] at z1
          go_simp
          go_at_K
          exact hK _ (hx1.put1 0 _)
        · exact ⟨undef, rfl⟩
        try simp only [Act.put, List.setIfInBounds_toArray, List.set_cons_succ, List.set_cons_zero]
        apply Chain.walk_quiet (by rfl) (by decide)
        · intro p wx hp hwn hx K hK
          obtain ⟨k0, k1, k2⟩ := HKW.out wx (fun j => hx.cellOf hbw (by omega))
          go_simp
          first
            | (go_at_call 13; refine (FU.out _).mono ?_; rintro e x1 ⟨rfl, hb⟩; exact hK _ (hx.next hb))
            | (go_at_K; exact hK _ hx)
        · exact ⟨_, rfl⟩
        apply Chain.walk_turn 1 (by rfl) (by rfl)
        · intro wx hx K hK
          have hx1 : Put (wr) (w.heap.size + 3) (.cells #[.int .u32 qg, .int .u32 s1, .int .u32 s2] 30 (0, 0)) wx := hx
          exact Put.storeMid 28 _ _ 1 rfl rfl rfl hx1 (by kernel_rfl) (by simp) (by kernel_rfl) rfl (fun w2 h => hK w2 h)
        · exact ⟨undef, rfl⟩
        try simp only [Act.put, List.setIfInBounds_toArray, List.set_cons_succ, List.set_cons_zero]
        refine Chain.walk_nil (fun wq hbq => ?_)
        replace hbq : Put (wr) (w.heap.size + 3) (.cells #[.int .u32 qg, .int .u32 c1, .int .u32 c2] 30 (0, 0)) wq := hbq
        try simp only [Act.put, List.setIfInBounds_toArray, List.set_cons_succ, List.set_cons_zero]
        have HBQ : Hid (Bx w [(w.heap.size + 3, .cells #[.int .u32 qg, .int .u32 c1, .int .u32 c2] 30 (0, 0)), (w.heap.size + 2, .cells #[.int .i64 (d : Int), .int .i64 (o : Int)] 23 (0, 0))] wq) := Lib.hid (HB.out.ofPut (by omega) hbq (by simp only [List.mem_cons, List.not_mem_nil, or_false]; rintro p (rfl | rfl) <;> simp))
        clear hbq HR HKW HK hn1 hn2 ho1 FU
        go_wp2_with fail
        go_meet
        exact ⟨qg, c1, c2, hq, HBQ.out⟩
      · have hlt : decide ((i : Int) < (l.length : Int)) = false := decide_eq_false (by omega)
        go_wp2_with fail
        go_meet
        exact ⟨s0, s1, s2, hs, HB.out⟩
    case rest =>
      obtain ⟨qg, c1, c2, hq, hbq⟩ := hcut
      have HBQ := Lib.hid hbq
      clear hbq hs HB
      clear s0 s1 s2
      have FO1 := Lib.hid (fun wx => refOne_any (g : Int) (2 : Int) wx)
      have hone : Cs.one (g : Int) (2 : Int) = ⟨0, 2 ^ g⟩ := by
        have hb : Cs.bitAt (g : Int) = 2 ^ g := by unfold Cs.bitAt; rw [if_pos (by omega)]; rfl
        unfold Cs.one
        rw [hb]
        rfl
      have hono : Cs.ok (Cs.one (g : Int) (2 : Int)) := Cs.one_ok _ _
      have FU1 := Lib.hid (fun wx => refUnion_any ⟨c1, c2⟩ (Cs.one (g : Int) (2 : Int)) wx hq.2 hono)
      have hbit : (Cs.union ⟨c1, c2⟩ (Cs.one (g : Int) (2 : Int))).dn.testBit g = true := by rw [hone]; unfold Cs.union; simp only; rw [Cs.bit_or, Cs.bit_pow]; simp
      have hq2 : Stp.ok ⟨qg, Cs.union ⟨c1, c2⟩ (Cs.one (g : Int) (2 : Int))⟩ := ⟨hq.1, Cs.union_ok hq.2 hono⟩
      clear hone hono
      generalize Cs.union ⟨c1, c2⟩ (Cs.one (g : Int) (2 : Int)) = un at *
      generalize Cs.one (g : Int) (2 : Int) = og at *
      obtain ⟨og1, og2⟩ := og
      obtain ⟨q1, q2⟩ := un
      simp only [Cs.agg] at FO1 FU1
      clear hq
      have K := Cv.knows (o := o) (f := f) (g := g) (e := 2) hq2 hF32 hInv.ff (.inr ⟨rfl, hbit, hgg, hgF⟩)
      have FC := Lib.hid (fun wx (hb : Below w.heap.size w wx) => ChooseGood_any F f d o ⟨qg, ⟨q1, q2⟩⟩ wx hF2 hF32 hInv.ff hInv.dd hInv.oo hq2 (hT.below hb))
      have FN := Lib.hid (fun wx (hb : Below w.heap.size w wx) => NextGood_any F f d o ⟨qg, ⟨q1, q2⟩⟩ wx hF2 hF32 hInv.ff hInv.dd hInv.oo hq2 (hT.below hb))
      generalize Cv.cd o f (Cv.cnt F ⟨qg, ⟨q1, q2⟩⟩) = cv at *
      generalize Cv.look F o f ⟨qg, ⟨q1, q2⟩⟩ = sc at *
      have hin := Cv.ch_in sc d K.fit hInv.dd
      have hso : ∀ k, Cv.choose sc d = Cv.openC k → ¬ (f = g ∧ k = 2) → Cv.Inv2 F g f k (cv ||| 2 ^ k) last turns moves (opens + 1) (i + 1) ∧ opens + 1 ≤ 4 ∧ turns ≤ 2 ∧ moves ≤ 3 * F ∧ (k = 1 ∨ k = 2) := fun k h hne => Cv.step2_open hInv K hgF h hne
      have hs1 := Cv.step2_mv1 hInv K hgF
      have hs2 := Cv.step2_mv2 hInv K hgF
      have hnone : Cv.choose sc d ≠ Cv.moveC 0 := fun h => by
        obtain ⟨h1, h2, h3, h4, h5⟩ := Cv.ch_none sc d K.fit hInv.dd h
        rcases Nat.lt_trichotomy f g with h6 | h6 | h6
        · rw [K.ab h6] at h4; cases h4
        · have h7 := Cv.here2 K h6
          rw [h2] at h7
          have h8 : cv.testBit 2 = true := by simpa using h7.symm
          rcases (K.cm h6 h8).2 with h7 | h7 | h7 | h7
          · rw [h1] at h7; cases h7
          · rw [h2] at h7; cases h7
          · rw [h4] at h7; cases h7
          · rw [h5] at h7; cases h7
        · rw [K.be h6] at h5; cases h5
      have hall := hInv.all
      have HINV := Lib.hid hInv
      have HSO := Lib.hid hso
      have HS1 := Lib.hid hs1
      have HS2 := Lib.hid hs2
      have HQ2 := Lib.hid hq2
      clear hso hs1 hs2 K hbit hq2 hInv
      generalize Cv.choose sc d = z at *
      have HPQ := Lib.hid (Put.start HBQ.out.r0)
      go_wp2_with fail
      refine Chain.chain (fun p wx => Put (wc) (w.heap.size + 3) (.cells (if p = 0 then #[.int .u32 qg, .int .u32 c1, .int .u32 c2] else #[.int .u32 qg, .int .u32 q1, .int .u32 q2]) 30 (0, 0)) wx) (fun _ _ => False) [7] (by kernel_rfl) (by kernel_rfl) (fun _ _ _ _ h => h.elim) (HPQ.out.drew) ?_
      iterate 7 (first
          | (apply Chain.walk_quiet (by rfl) (by decide)
             (intro p wx hp hwn hx K hK
              obtain rfl : p = 0 := (by rcases Nat.lt_or_ge p 1 with h | h; exact Nat.lt_one_iff.1 h; obtain rfl : p = 1 := Nat.le_antisymm hp h; exact absurd ((Eq.symm (show _ = false by kernel_rfl)).trans hwn) Bool.false_ne_true)
              have z1 := hx.cell 1
              have z2 := hx.cell 2
              simp only [if_true, List.getElem?_toArray, List.getElem?_cons_zero, List.getElem?_cons_succ] at z1 z2
              first
                | (go_simp
                   first
                    | (go_at_call 14; with_reducible refine (FO1.out _).mono ?_; rintro e x1 ⟨rfl, hb⟩; exact hK _ (hx.next hb))
                    | (go_at_call 13; with_reducible refine (FU1.out _).mono ?_; rintro e x1 ⟨rfl, hb⟩; exact hK _ (hx.next hb))
                    | (go_at_K; exact hK _ hx)))
             exact ⟨_, rfl⟩)
          | (refine Chain.walk_no (by rfl) (by decide) ?_; simp only [Act.put, List.setIfInBounds_toArray, List.set_cons_succ, List.set_cons_zero]))
      apply Chain.walk_turn 0 (by rfl) (by rfl)
      · intro wx hx K hK
        exact Put.storeMid 28 _ _ 1 rfl rfl rfl hx (by kernel_rfl) (by simp) (by kernel_rfl) rfl (fun w2 h => hK w2 h)
      · exact ⟨undef, rfl⟩
      refine Chain.walk_nil (fun w3 hb3 => ?_)
      replace hb3 : Put (wc) (w.heap.size + 3) (.cells #[.int .u32 qg, .int .u32 q1, .int .u32 q2] 30 (0, 0)) w3 := hb3
      try simp only [Act.put, List.setIfInBounds_toArray, List.set_cons_succ, List.set_cons_zero]
      have HB3 : Hid (Bx w [(w.heap.size + 3, .cells #[.int .u32 qg, .int .u32 q1, .int .u32 q2] 30 (0, 0)), (w.heap.size + 2, .cells #[.int .i64 (d : Int), .int .i64 (o : Int)] 23 (0, 0))] w3) := Lib.hid (HBQ.out.ofPut (by omega) hb3 (by simp only [List.mem_cons, List.not_mem_nil, or_false]; rintro p (rfl | rfl) <;> simp))
      clear hb3 HBQ HPQ FO1 FU1
      have hzc : (∃ k, z = Cv.openC k ∧ k ≤ 2) ∨ z = Cv.moveC 1 ∨ z = Cv.moveC 2 := by
        simp only [List.mem_cons, List.not_mem_nil, or_false] at hin
        rcases hin with h | h | h | h | h | h
        · exact .inl ⟨0, h, by decide⟩
        · exact .inl ⟨1, h, by decide⟩
        · exact .inl ⟨2, h, by decide⟩
        · exact absurd h hnone
        · exact .inr (.inl h)
        · exact .inr (.inr h)
      clear hin hnone
      rcases hzc with ⟨k, hz, hk2⟩ | hz | hz
      · subst hz
        obtain ⟨a0, a1, a2⟩ := stRow HB3.out.r0
        obtain ⟨b0, b1⟩ := swRow HB3.out.r1
        go_wp2_with fail
        refine (FC.out _ HB3.out.below).mono ?_
        rintro e w4 ⟨rfl, hb4⟩
        have HB4 := Lib.hid (HB3.out.next hb4)
        have hl4 := (Array.getElem?_eq_some_iff.1 HB4.out.r0).1
        have hl4' := (Array.getElem?_eq_some_iff.1 HB4.out.r1).1
        simp only at hl4 hl4'
        clear hb4 HB3 a0 a1 a2 b0 b1
        go_wp2_with (with_reducible show wpList _ _ _ (Oper.mk _ (.store 38 _ _) _ _ _ _ :: _) _ _; refine Hid.out ?_)
        refine Lib.hid ?_
        refine wpList_put rfl 38 _ _ rfl w4.heap.size #[.int .i64 ((3 : Nat) : Int), .int .i64 ((k : Nat) : Int), .int .i64 ((k : Nat) : Int)] _ 38 rfl rfl (heap_alloc_new w4 _) (by kernel_rfl) rfl (by kernel_rfl) ?_
        intro w5 hr5 hg5
        have HB5 : Hid (Bx w [(w4.heap.size, .cells #[.int .i64 ((3 : Nat) : Int), .int .i64 ((k : Nat) : Int), .int .i64 ((k : Nat) : Int)] 38 (0, 0)), (w.heap.size + 3, .cells #[.int .u32 qg, .int .u32 q1, .int .u32 q2] 30 (0, 0)), (w.heap.size + 2, .cells #[.int .i64 (d : Int), .int .i64 (o : Int)] 23 (0, 0))] w5) := Lib.hid ((HB4.out.make (heap_alloc_new w4 (.cells #[.int .i64 0, .int .i64 0, .int .i64 0] 38)) ((Below.refl w4.heap.size w4).alloc (Nat.le_refl _) _)).put HB4.out.below.size hg5.out hr5.out (by simp only [List.mem_cons, List.not_mem_nil, or_false]; rintro p (rfl | rfl | rfl) <;> simp <;> omega))
        generalize w4.heap.size = gc at *
        clear hr5 hg5 HB4
        obtain ⟨a0, a1, a2⟩ := stRow HB5.out.r1
        obtain ⟨b0, b1⟩ := swRow HB5.out.r2
        go_wp2_with fail
        refine (FN.out _ HB5.out.below).mono ?_
        rintro e w6 ⟨rfl, hb6⟩
        have HB6 := Lib.hid (HB5.out.next hb6)
        have hr6 := HB6.out.r2
        clear hb6 HB5 a0 a1 a2 b0 b1
        go_wp2_with (with_reducible show wpList _ _ _ (Oper.mk _ (.store 23 _ _) _ _ _ _ :: _) _ _; refine Hid.out ?_)
        refine Lib.hid ?_
        refine wpList_put rfl 23 _ _ rfl (w.heap.size + 2) #[.int .i64 ((k : Nat) : Int), .int .i64 ((cv ||| 2 ^ k : Nat) : Int)] _ 23 rfl rfl hr6 (by kernel_rfl) rfl (by kernel_rfl) ?_
        intro w7 hr7 hg7
        have HB7 : Hid (Bx w [(gc, .cells #[.int .i64 ((3 : Nat) : Int), .int .i64 ((k : Nat) : Int), .int .i64 ((k : Nat) : Int)] 38 (0, 0)), (w.heap.size + 3, .cells #[.int .u32 qg, .int .u32 q1, .int .u32 q2] 30 (0, 0)), (w.heap.size + 2, .cells #[.int .i64 ((k : Nat) : Int), .int .i64 ((cv ||| 2 ^ k : Nat) : Int)] 23 (0, 0))] w7) := Lib.hid (HB6.out.put (by omega) hg7.out hr7.out (by simp only [List.mem_cons, List.not_mem_nil, or_false]; rintro p (rfl | rfl | rfl) <;> simp <;> omega))
        clear hr6 hr7 hg7 HB6
        obtain ⟨c0, c1, c2⟩ := ch3Row HB7.out.r0
        obtain ⟨a0, a1, a2⟩ := stRow HB7.out.r1
        have hi1 : IntKind.i64.wrap ((i : Int) + 1) = (i : Int) + 1 := by rw [IntKind.wrap_i64]; omega
        have hm1 : IntKind.i64.wrap ((moves : Int) + 1) = (moves : Int) + 1 := by rw [IntKind.wrap_i64]; omega
        have ho1 : IntKind.i64.wrap ((opens : Int) + 1) = (opens : Int) + 1 := by rw [IntKind.wrap_i64]; omega
        have hF3 : IntKind.i64.wrap (3 * (F : Int)) = 3 * (F : Int) := by rw [IntKind.wrap_i64]; omega
        by_cases hfg : f = g
        · subst hfg
          have hfgb : ((f : Int) == (f : Int)) = true := beq_self_eq_true _
          by_cases hke : k = 2
          · have hkeb : ((k : Int) == 2) = true := by rw [hke]; rfl
            have hd3 : decide ((turns : Int) ≤ 2) = true := decide_eq_true (by omega)
            go_wp2_with (go_at_call 10; refine (FS.out _ HB7.out.below).mono ?_; rintro e w8 ⟨rfl, hb8⟩)
            go_ret
            exact ⟨rfl, HB7.out.below.trans (hb8.mono HB7.out.below.size)⟩
          · have hkeb : ((k : Int) == 2) = false := beq_eq_false_iff_ne.2 (by omega)
            obtain ⟨hnew, ho4, ht4, hm4, hk12⟩ := HSO.out k (by trivial) (fun h => hke h.2)
            have HNEW := Lib.hid hnew
            clear hnew
            have hd1 : decide ((f : Int) < 0) = false := decide_eq_false (by omega)
            have hd2 : decide ((f : Int) ≥ (F : Int)) = false := decide_eq_false (by omega)
            have hd3 : decide ((turns : Int) > 2) = false := decide_eq_false (by omega)
            have hd4 : decide ((moves : Int) > 3 * (F : Int)) = false := decide_eq_false (by omega)
            have hd5 : decide ((opens : Int) + 1 > 4) = false := decide_eq_false (by omega)
            have hf32 : f < 32 := by omega
            have hano := andNot_pow HQ2.out.1 hf32
            simp only at hano
            have FO := Lib.hid (fun wx => refOne_any (f : Int) (k : Int) wx)
            have FM := Lib.hid (fun wx => refMinus_any ⟨q1, q2⟩ (Cs.one (f : Int) (k : Int)) wx HQ2.out.2 (Cs.one_ok _ _))
            have HQ3 := Lib.hid (show Stp.ok ⟨qg &&& (4294967295 - 2 ^ f), Cs.minus ⟨q1, q2⟩ (Cs.one (f : Int) (k : Int))⟩ from ⟨Cs.and_lt HQ2.out.1, Cs.minus_ok HQ2.out.2⟩)
            generalize Cs.minus ⟨q1, q2⟩ (Cs.one (f : Int) (k : Int)) = mh at *
            obtain ⟨m1, m2⟩ := mh
            generalize Cs.one (f : Int) (k : Int) = on at *
            obtain ⟨on1, on2⟩ := on
            generalize qg &&& (4294967295 - 2 ^ f) = m0 at *
            simp only [Cs.agg] at FO FM
            generalize cv ||| 2 ^ k = cvk at *
            have hr := HB7.out.r1
            go_wp2_with (with_reducible show wpList _ _ _ (Oper.mk _ (.store 26 _ _) _ _ _ _ :: _) _ _; refine Hid.out ?_)
            refine Lib.hid ?_
            refine wpList_putCell rfl 26 _ _ rfl (w.heap.size + 3) 0 (.int .u32 (m0 : Int)) _ _ 30 rfl (by first | rfl | (rw [← hano]; rfl)) hr (by kernel_rfl) (by simp) rfl rfl rfl ?_
            intro w8 hr8 hg8
            have HB8 : Hid (Bx w [(gc, .cells #[.int .i64 ((3 : Nat) : Int), .int .i64 ((k : Nat) : Int), .int .i64 ((k : Nat) : Int)] 38 (0, 0)), (w.heap.size + 3, .cells #[.int .u32 m0, .int .u32 q1, .int .u32 q2] 30 (0, 0)), (w.heap.size + 2, .cells #[.int .i64 (k : Int), .int .i64 (cvk : Int)] 23 (0, 0))] w8) := Lib.hid (HB7.out.put (by omega) hg8.out hr8.out (by simp only [List.mem_cons, List.not_mem_nil, or_false]; rintro p (rfl | rfl | rfl) <;> simp <;> omega))
            clear hr hr8 hg8 c0 c1 c2 a0 a1 a2 HB7 hano
            have hl8 : gc < w8.heap.size := (Array.getElem?_eq_some_iff.1 HB8.out.r0).1
            go_wp2_with fail
            refine Chain.chain (fun p wx => Put (w8) (w.heap.size + 3) (.cells (if p = 0 then #[.int .u32 m0, .int .u32 q1, .int .u32 q2] else #[.int .u32 m0, .int .u32 m1, .int .u32 m2]) 30 (0, 0)) wx) (fun _ _ => False) [8] (by kernel_rfl) (by kernel_rfl) (fun _ _ _ _ h => h.elim) ((Put.start HB8.out.r1).drew) ?_
            iterate 8 (first
                | (apply Chain.walk_quiet (by rfl) (by decide)
                   (intro p wx hp hwn hx K hK
                    obtain rfl : p = 0 := (by rcases Nat.lt_or_ge p 1 with h | h; exact Nat.lt_one_iff.1 h; obtain rfl : p = 1 := Nat.le_antisymm hp h; exact absurd ((Eq.symm (show _ = false by kernel_rfl)).trans hwn) Bool.false_ne_true)
                    obtain ⟨c0, c1, c2⟩ := ch3Row ((hx.other gc hl8 (by omega)).trans HB8.out.r0)
                    have z1 := hx.cell 1
                    have z2 := hx.cell 2
                    simp only [if_true, List.getElem?_toArray, List.getElem?_cons_zero, List.getElem?_cons_succ] at z1 z2
                    first
                      | (go_simp
                         first
                          | (go_at_call 14; with_reducible refine (FO.out _).mono ?_; rintro e x1 ⟨rfl, hb⟩; exact hK _ (hx.next hb))
                          | (go_at_call 16; with_reducible refine (FM.out _).mono ?_; rintro e x1 ⟨rfl, hb⟩; exact hK _ (hx.next hb))
                          | (go_at_K; exact hK _ hx)))
                   exact ⟨_, rfl⟩)
                | (refine Chain.walk_no (by rfl) (by decide) ?_; simp only [Act.put, List.setIfInBounds_toArray, List.set_cons_succ, List.set_cons_zero]))
            apply Chain.walk_turn 0 (by rfl) (by rfl)
            · intro wx hx K hK
              exact Put.storeMid 28 _ _ 1 rfl rfl rfl hx (by kernel_rfl) (by simp) (by kernel_rfl) rfl (fun w2 h => hK w2 h)
            · exact ⟨undef, rfl⟩
            refine Chain.walk_nil (fun w9 hb9 => ?_)
            replace hb9 : Put (w8) (w.heap.size + 3) (.cells #[.int .u32 m0, .int .u32 m1, .int .u32 m2] 30 (0, 0)) w9 := hb9
            try simp only [Act.put, List.setIfInBounds_toArray, List.set_cons_succ, List.set_cons_zero]
            have HB9 : Hid (Bx w [(w.heap.size + 3, .cells #[.int .u32 m0, .int .u32 m1, .int .u32 m2] 30 (0, 0)), (w.heap.size + 2, .cells #[.int .i64 (k : Int), .int .i64 (cvk : Int)] 23 (0, 0))] w9) := Lib.hid (HB8.out.ofPut (by omega) hb9 (by simp only [List.mem_cons, List.not_mem_nil, or_false]; rintro p (rfl | rfl) <;> simp))
            clear hb9 HB8
            go_wp2_with fail
            go_roundw
            case rel => exact ⟨f, k, cvk, last, turns, moves, opens + 1, i + 1, ⟨m0, ⟨m1, m2⟩⟩, by rfl, rfl, by rfl, by rfl, by rw [Int.natCast_add]; rfl, by rw [Int.natCast_add]; rfl, HNEW.out, HQ3.out, HB9.out⟩
            case measure => simp [intOf]; omega
        · have hfgb : ((f : Int) == (g : Int)) = false := beq_eq_false_iff_ne.2 (by omega)
          obtain ⟨hnew, ho4, ht4, hm4, hk12⟩ := HSO.out k (by trivial) (fun h => hfg h.1)
          have HNEW := Lib.hid hnew
          clear hnew
          have hd1 : decide ((f : Int) < 0) = false := decide_eq_false (by omega)
          have hd2 : decide ((f : Int) ≥ (F : Int)) = false := decide_eq_false (by omega)
          have hd3 : decide ((turns : Int) > 2) = false := decide_eq_false (by omega)
          have hd4 : decide ((moves : Int) > 3 * (F : Int)) = false := decide_eq_false (by omega)
          have hd5 : decide ((opens : Int) + 1 > 4) = false := decide_eq_false (by omega)
          have hf32 : f < 32 := by omega
          have hano := andNot_pow HQ2.out.1 hf32
          simp only at hano
          have FO := Lib.hid (fun wx => refOne_any (f : Int) (k : Int) wx)
          have FM := Lib.hid (fun wx => refMinus_any ⟨q1, q2⟩ (Cs.one (f : Int) (k : Int)) wx HQ2.out.2 (Cs.one_ok _ _))
          have HQ3 := Lib.hid (show Stp.ok ⟨qg &&& (4294967295 - 2 ^ f), Cs.minus ⟨q1, q2⟩ (Cs.one (f : Int) (k : Int))⟩ from ⟨Cs.and_lt HQ2.out.1, Cs.minus_ok HQ2.out.2⟩)
          generalize Cs.minus ⟨q1, q2⟩ (Cs.one (f : Int) (k : Int)) = mh at *
          obtain ⟨m1, m2⟩ := mh
          generalize Cs.one (f : Int) (k : Int) = on at *
          obtain ⟨on1, on2⟩ := on
          generalize qg &&& (4294967295 - 2 ^ f) = m0 at *
          simp only [Cs.agg] at FO FM
          generalize cv ||| 2 ^ k = cvk at *
          have hr := HB7.out.r1
          go_wp2_with (with_reducible show wpList _ _ _ (Oper.mk _ (.store 26 _ _) _ _ _ _ :: _) _ _; refine Hid.out ?_)
          refine Lib.hid ?_
          refine wpList_putCell rfl 26 _ _ rfl (w.heap.size + 3) 0 (.int .u32 (m0 : Int)) _ _ 30 rfl (by first | rfl | (rw [← hano]; rfl)) hr (by kernel_rfl) (by simp) rfl rfl rfl ?_
          intro w8 hr8 hg8
          have HB8 : Hid (Bx w [(gc, .cells #[.int .i64 ((3 : Nat) : Int), .int .i64 ((k : Nat) : Int), .int .i64 ((k : Nat) : Int)] 38 (0, 0)), (w.heap.size + 3, .cells #[.int .u32 m0, .int .u32 q1, .int .u32 q2] 30 (0, 0)), (w.heap.size + 2, .cells #[.int .i64 (k : Int), .int .i64 (cvk : Int)] 23 (0, 0))] w8) := Lib.hid (HB7.out.put (by omega) hg8.out hr8.out (by simp only [List.mem_cons, List.not_mem_nil, or_false]; rintro p (rfl | rfl | rfl) <;> simp <;> omega))
          clear hr hr8 hg8 c0 c1 c2 a0 a1 a2 HB7 hano
          have hl8 : gc < w8.heap.size := (Array.getElem?_eq_some_iff.1 HB8.out.r0).1
          go_wp2_with fail
          refine Chain.chain (fun p wx => Put (w8) (w.heap.size + 3) (.cells (if p = 0 then #[.int .u32 m0, .int .u32 q1, .int .u32 q2] else #[.int .u32 m0, .int .u32 m1, .int .u32 m2]) 30 (0, 0)) wx) (fun _ _ => False) [8] (by kernel_rfl) (by kernel_rfl) (fun _ _ _ _ h => h.elim) ((Put.start HB8.out.r1).drew) ?_
          iterate 8 (first
              | (apply Chain.walk_quiet (by rfl) (by decide)
                 (intro p wx hp hwn hx K hK
                  obtain rfl : p = 0 := (by rcases Nat.lt_or_ge p 1 with h | h; exact Nat.lt_one_iff.1 h; obtain rfl : p = 1 := Nat.le_antisymm hp h; exact absurd ((Eq.symm (show _ = false by kernel_rfl)).trans hwn) Bool.false_ne_true)
                  obtain ⟨c0, c1, c2⟩ := ch3Row ((hx.other gc hl8 (by omega)).trans HB8.out.r0)
                  have z1 := hx.cell 1
                  have z2 := hx.cell 2
                  simp only [if_true, List.getElem?_toArray, List.getElem?_cons_zero, List.getElem?_cons_succ] at z1 z2
                  first
                    | (go_simp
                       first
                        | (go_at_call 14; with_reducible refine (FO.out _).mono ?_; rintro e x1 ⟨rfl, hb⟩; exact hK _ (hx.next hb))
                        | (go_at_call 16; with_reducible refine (FM.out _).mono ?_; rintro e x1 ⟨rfl, hb⟩; exact hK _ (hx.next hb))
                        | (go_at_K; exact hK _ hx)))
                 exact ⟨_, rfl⟩)
              | (refine Chain.walk_no (by rfl) (by decide) ?_; simp only [Act.put, List.setIfInBounds_toArray, List.set_cons_succ, List.set_cons_zero]))
          apply Chain.walk_turn 0 (by rfl) (by rfl)
          · intro wx hx K hK
            exact Put.storeMid 28 _ _ 1 rfl rfl rfl hx (by kernel_rfl) (by simp) (by kernel_rfl) rfl (fun w2 h => hK w2 h)
          · exact ⟨undef, rfl⟩
          refine Chain.walk_nil (fun w9 hb9 => ?_)
          replace hb9 : Put (w8) (w.heap.size + 3) (.cells #[.int .u32 m0, .int .u32 m1, .int .u32 m2] 30 (0, 0)) w9 := hb9
          try simp only [Act.put, List.setIfInBounds_toArray, List.set_cons_succ, List.set_cons_zero]
          have HB9 : Hid (Bx w [(w.heap.size + 3, .cells #[.int .u32 m0, .int .u32 m1, .int .u32 m2] 30 (0, 0)), (w.heap.size + 2, .cells #[.int .i64 (k : Int), .int .i64 (cvk : Int)] 23 (0, 0))] w9) := Lib.hid (HB8.out.ofPut (by omega) hb9 (by simp only [List.mem_cons, List.not_mem_nil, or_false]; rintro p (rfl | rfl) <;> simp))
          clear hb9 HB8
          go_wp2_with fail
          go_roundw
          case rel => exact ⟨f, k, cvk, last, turns, moves, opens + 1, i + 1, ⟨m0, ⟨m1, m2⟩⟩, by rfl, rfl, by rfl, by rfl, by rw [Int.natCast_add]; rfl, by rw [Int.natCast_add]; rfl, HNEW.out, HQ3.out, HB9.out⟩
          case measure => simp [intOf]; omega
      · subst hz
        obtain ⟨a0, a1, a2⟩ := stRow HB3.out.r0
        obtain ⟨b0, b1⟩ := swRow HB3.out.r1
        go_wp2_with fail
        refine (FC.out _ HB3.out.below).mono ?_
        rintro e w4 ⟨rfl, hb4⟩
        have HB4 := Lib.hid (HB3.out.next hb4)
        have hl4 := (Array.getElem?_eq_some_iff.1 HB4.out.r0).1
        have hl4' := (Array.getElem?_eq_some_iff.1 HB4.out.r1).1
        simp only at hl4 hl4'
        clear hb4 HB3 a0 a1 a2 b0 b1
        go_wp2_with (with_reducible show wpList _ _ _ (Oper.mk _ (.store 38 _ _) _ _ _ _ :: _) _ _; refine Hid.out ?_)
        refine Lib.hid ?_
        refine wpList_put rfl 38 _ _ rfl w4.heap.size #[.int .i64 ((1 : Nat) : Int), .int .i64 ((1 : Nat) : Int), .int .i64 ((0 : Nat) : Int)] _ 38 rfl rfl (heap_alloc_new w4 _) (by kernel_rfl) rfl (by kernel_rfl) ?_
        intro w5 hr5 hg5
        have HB5 : Hid (Bx w [(w4.heap.size, .cells #[.int .i64 ((1 : Nat) : Int), .int .i64 ((1 : Nat) : Int), .int .i64 ((0 : Nat) : Int)] 38 (0, 0)), (w.heap.size + 3, .cells #[.int .u32 qg, .int .u32 q1, .int .u32 q2] 30 (0, 0)), (w.heap.size + 2, .cells #[.int .i64 (d : Int), .int .i64 (o : Int)] 23 (0, 0))] w5) := Lib.hid ((HB4.out.make (heap_alloc_new w4 (.cells #[.int .i64 0, .int .i64 0, .int .i64 0] 38)) ((Below.refl w4.heap.size w4).alloc (Nat.le_refl _) _)).put HB4.out.below.size hg5.out hr5.out (by simp only [List.mem_cons, List.not_mem_nil, or_false]; rintro p (rfl | rfl | rfl) <;> simp <;> omega))
        generalize w4.heap.size = gc at *
        clear hr5 hg5 HB4
        obtain ⟨a0, a1, a2⟩ := stRow HB5.out.r1
        obtain ⟨b0, b1⟩ := swRow HB5.out.r2
        go_wp2_with fail
        refine (FN.out _ HB5.out.below).mono ?_
        rintro e w6 ⟨rfl, hb6⟩
        have HB6 := Lib.hid (HB5.out.next hb6)
        have hr6 := HB6.out.r2
        clear hb6 HB5 a0 a1 a2 b0 b1
        go_wp2_with (with_reducible show wpList _ _ _ (Oper.mk _ (.store 23 _ _) _ _ _ _ :: _) _ _; refine Hid.out ?_)
        refine Lib.hid ?_
        refine wpList_put rfl 23 _ _ rfl (w.heap.size + 2) #[.int .i64 ((1 : Nat) : Int), .int .i64 ((0 : Nat) : Int)] _ 23 rfl rfl hr6 (by kernel_rfl) rfl (by kernel_rfl) ?_
        intro w7 hr7 hg7
        have HB7 : Hid (Bx w [(gc, .cells #[.int .i64 ((1 : Nat) : Int), .int .i64 ((1 : Nat) : Int), .int .i64 ((0 : Nat) : Int)] 38 (0, 0)), (w.heap.size + 3, .cells #[.int .u32 qg, .int .u32 q1, .int .u32 q2] 30 (0, 0)), (w.heap.size + 2, .cells #[.int .i64 ((1 : Nat) : Int), .int .i64 ((0 : Nat) : Int)] 23 (0, 0))] w7) := Lib.hid (HB6.out.put (by omega) hg7.out hr7.out (by simp only [List.mem_cons, List.not_mem_nil, or_false]; rintro p (rfl | rfl | rfl) <;> simp <;> omega))
        clear hr6 hr7 hg7 HB6
        obtain ⟨c0, c1, c2⟩ := ch3Row HB7.out.r0
        obtain ⟨a0, a1, a2⟩ := stRow HB7.out.r1
        have hi1 : IntKind.i64.wrap ((i : Int) + 1) = (i : Int) + 1 := by rw [IntKind.wrap_i64]; omega
        have hm1 : IntKind.i64.wrap ((moves : Int) + 1) = (moves : Int) + 1 := by rw [IntKind.wrap_i64]; omega
        have ho1 : IntKind.i64.wrap ((opens : Int) + 1) = (opens : Int) + 1 := by rw [IntKind.wrap_i64]; omega
        have hF3 : IntKind.i64.wrap (3 * (F : Int)) = 3 * (F : Int) := by rw [IntKind.wrap_i64]; omega
        obtain ⟨hnew, -, -⟩ := HS1.out (by trivial)
        have hal2 := hnew.all
        have hnf := hnew.ff
        have HNEW := Lib.hid hnew
        clear hnew
        have hw1 : IntKind.i64.wrap ((f : Int) + 1) = (f : Int) + 1 := by rw [IntKind.wrap_i64]; omega
        have hd1 : decide ((f : Int) + 1 < 0) = false := decide_eq_false (by omega)
        have hd2 : decide ((f : Int) + 1 ≥ (F : Int)) = false := decide_eq_false (by omega)
        have hd4 : decide ((moves : Int) + 1 > 3 * (F : Int)) = false := decide_eq_false (by omega)
        obtain rfl | rfl | rfl : last = 0 ∨ last = 1 ∨ last = 2 := by have := HINV.out.l; omega
        · have hd3 : decide ((turns : Int) > 2) = false := decide_eq_false (by omega)
          go_wp2_with fail
          go_roundw
          case rel => exact ⟨f + 1, 1, 0, 1, turns, moves + 1, 0, i + 1, ⟨qg, ⟨q1, q2⟩⟩, by rw [Int.natCast_add]; rfl, rfl, by rfl, by rw [Int.natCast_add]; rfl, by rfl, by rw [Int.natCast_add]; rfl, HNEW.out, HQ2.out, (HB7.out.less (by simp only [List.mem_cons, List.not_mem_nil, or_false]; rintro p (rfl | rfl) <;> simp))⟩
          case measure => simp [intOf]; omega
        · have hd3 : decide ((turns : Int) > 2) = false := decide_eq_false (by omega)
          go_wp2_with fail
          go_roundw
          case rel => exact ⟨f + 1, 1, 0, 1, turns, moves + 1, 0, i + 1, ⟨qg, ⟨q1, q2⟩⟩, by rw [Int.natCast_add]; rfl, rfl, by rfl, by rw [Int.natCast_add]; rfl, by rfl, by rw [Int.natCast_add]; rfl, HNEW.out, HQ2.out, (HB7.out.less (by simp only [List.mem_cons, List.not_mem_nil, or_false]; rintro p (rfl | rfl) <;> simp))⟩
          case measure => simp [intOf]; omega
        · have hd3 : decide ((turns : Int) + 1 > 2) = false := decide_eq_false (by simp at hal2; omega)
          have hw2 : IntKind.i64.wrap ((turns : Int) + 1) = (turns : Int) + 1 := by rw [IntKind.wrap_i64]; omega
          go_wp2_with fail
          go_roundw
          case rel => exact ⟨f + 1, 1, 0, 1, turns + 1, moves + 1, 0, i + 1, ⟨qg, ⟨q1, q2⟩⟩, by rw [Int.natCast_add]; rfl, rfl, by rw [Int.natCast_add]; rfl, by rw [Int.natCast_add]; rfl, by rfl, by rw [Int.natCast_add]; rfl, HNEW.out, HQ2.out, (HB7.out.less (by simp only [List.mem_cons, List.not_mem_nil, or_false]; rintro p (rfl | rfl) <;> simp))⟩
          case measure => simp [intOf]; omega
      · subst hz
        obtain ⟨a0, a1, a2⟩ := stRow HB3.out.r0
        obtain ⟨b0, b1⟩ := swRow HB3.out.r1
        go_wp2_with fail
        refine (FC.out _ HB3.out.below).mono ?_
        rintro e w4 ⟨rfl, hb4⟩
        have HB4 := Lib.hid (HB3.out.next hb4)
        have hl4 := (Array.getElem?_eq_some_iff.1 HB4.out.r0).1
        have hl4' := (Array.getElem?_eq_some_iff.1 HB4.out.r1).1
        simp only at hl4 hl4'
        clear hb4 HB3 a0 a1 a2 b0 b1
        go_wp2_with (with_reducible show wpList _ _ _ (Oper.mk _ (.store 38 _ _) _ _ _ _ :: _) _ _; refine Hid.out ?_)
        refine Lib.hid ?_
        refine wpList_put rfl 38 _ _ rfl w4.heap.size #[.int .i64 ((2 : Nat) : Int), .int .i64 ((2 : Nat) : Int), .int .i64 ((0 : Nat) : Int)] _ 38 rfl rfl (heap_alloc_new w4 _) (by kernel_rfl) rfl (by kernel_rfl) ?_
        intro w5 hr5 hg5
        have HB5 : Hid (Bx w [(w4.heap.size, .cells #[.int .i64 ((2 : Nat) : Int), .int .i64 ((2 : Nat) : Int), .int .i64 ((0 : Nat) : Int)] 38 (0, 0)), (w.heap.size + 3, .cells #[.int .u32 qg, .int .u32 q1, .int .u32 q2] 30 (0, 0)), (w.heap.size + 2, .cells #[.int .i64 (d : Int), .int .i64 (o : Int)] 23 (0, 0))] w5) := Lib.hid ((HB4.out.make (heap_alloc_new w4 (.cells #[.int .i64 0, .int .i64 0, .int .i64 0] 38)) ((Below.refl w4.heap.size w4).alloc (Nat.le_refl _) _)).put HB4.out.below.size hg5.out hr5.out (by simp only [List.mem_cons, List.not_mem_nil, or_false]; rintro p (rfl | rfl | rfl) <;> simp <;> omega))
        generalize w4.heap.size = gc at *
        clear hr5 hg5 HB4
        obtain ⟨a0, a1, a2⟩ := stRow HB5.out.r1
        obtain ⟨b0, b1⟩ := swRow HB5.out.r2
        go_wp2_with fail
        refine (FN.out _ HB5.out.below).mono ?_
        rintro e w6 ⟨rfl, hb6⟩
        have HB6 := Lib.hid (HB5.out.next hb6)
        have hr6 := HB6.out.r2
        clear hb6 HB5 a0 a1 a2 b0 b1
        go_wp2_with (with_reducible show wpList _ _ _ (Oper.mk _ (.store 23 _ _) _ _ _ _ :: _) _ _; refine Hid.out ?_)
        refine Lib.hid ?_
        refine wpList_put rfl 23 _ _ rfl (w.heap.size + 2) #[.int .i64 ((2 : Nat) : Int), .int .i64 ((0 : Nat) : Int)] _ 23 rfl rfl hr6 (by kernel_rfl) rfl (by kernel_rfl) ?_
        intro w7 hr7 hg7
        have HB7 : Hid (Bx w [(gc, .cells #[.int .i64 ((2 : Nat) : Int), .int .i64 ((2 : Nat) : Int), .int .i64 ((0 : Nat) : Int)] 38 (0, 0)), (w.heap.size + 3, .cells #[.int .u32 qg, .int .u32 q1, .int .u32 q2] 30 (0, 0)), (w.heap.size + 2, .cells #[.int .i64 ((2 : Nat) : Int), .int .i64 ((0 : Nat) : Int)] 23 (0, 0))] w7) := Lib.hid (HB6.out.put (by omega) hg7.out hr7.out (by simp only [List.mem_cons, List.not_mem_nil, or_false]; rintro p (rfl | rfl | rfl) <;> simp <;> omega))
        clear hr6 hr7 hg7 HB6
        obtain ⟨c0, c1, c2⟩ := ch3Row HB7.out.r0
        obtain ⟨a0, a1, a2⟩ := stRow HB7.out.r1
        have hi1 : IntKind.i64.wrap ((i : Int) + 1) = (i : Int) + 1 := by rw [IntKind.wrap_i64]; omega
        have hm1 : IntKind.i64.wrap ((moves : Int) + 1) = (moves : Int) + 1 := by rw [IntKind.wrap_i64]; omega
        have ho1 : IntKind.i64.wrap ((opens : Int) + 1) = (opens : Int) + 1 := by rw [IntKind.wrap_i64]; omega
        have hF3 : IntKind.i64.wrap (3 * (F : Int)) = 3 * (F : Int) := by rw [IntKind.wrap_i64]; omega
        obtain ⟨hnew, -, -, hf1⟩ := HS2.out (by trivial)
        have hal2 := hnew.all
        have hnf := hnew.ff
        have HNEW := Lib.hid hnew
        clear hnew
        have hw1 : IntKind.i64.wrap ((f : Int) - 1) = (f : Int) - 1 := by rw [IntKind.wrap_i64]; omega
        have hd1 : decide ((f : Int) - 1 < 0) = false := decide_eq_false (by omega)
        have hd2 : decide ((f : Int) - 1 ≥ (F : Int)) = false := decide_eq_false (by omega)
        have hd4 : decide ((moves : Int) + 1 > 3 * (F : Int)) = false := decide_eq_false (by omega)
        obtain rfl | rfl | rfl : last = 0 ∨ last = 1 ∨ last = 2 := by have := HINV.out.l; omega
        · have hd3 : decide ((turns : Int) > 2) = false := decide_eq_false (by omega)
          go_wp2_with fail
          go_roundw
          case rel => exact ⟨f - 1, 2, 0, 2, turns, moves + 1, 0, i + 1, ⟨qg, ⟨q1, q2⟩⟩, by congr 1; omega, rfl, by rfl, by rw [Int.natCast_add]; rfl, by rfl, by rw [Int.natCast_add]; rfl, HNEW.out, HQ2.out, (HB7.out.less (by simp only [List.mem_cons, List.not_mem_nil, or_false]; rintro p (rfl | rfl) <;> simp))⟩
          case measure => simp [intOf]; omega
        · have hd3 : decide ((turns : Int) + 1 > 2) = false := decide_eq_false (by simp at hal2; omega)
          have hw2 : IntKind.i64.wrap ((turns : Int) + 1) = (turns : Int) + 1 := by rw [IntKind.wrap_i64]; omega
          go_wp2_with fail
          go_roundw
          case rel => exact ⟨f - 1, 2, 0, 2, turns + 1, moves + 1, 0, i + 1, ⟨qg, ⟨q1, q2⟩⟩, by congr 1; omega, rfl, by rw [Int.natCast_add]; rfl, by rw [Int.natCast_add]; rfl, by rfl, by rw [Int.natCast_add]; rfl, HNEW.out, HQ2.out, (HB7.out.less (by simp only [List.mem_cons, List.not_mem_nil, or_false]; rintro p (rfl | rfl) <;> simp))⟩
          case measure => simp [intOf]; omega
        · have hd3 : decide ((turns : Int) > 2) = false := decide_eq_false (by omega)
          go_wp2_with fail
          go_roundw
          case rel => exact ⟨f - 1, 2, 0, 2, turns, moves + 1, 0, i + 1, ⟨qg, ⟨q1, q2⟩⟩, by congr 1; omega, rfl, by rfl, by rw [Int.natCast_add]; rfl, by rfl, by rw [Int.natCast_add]; rfl, HNEW.out, HQ2.out, (HB7.out.less (by simp only [List.mem_cons, List.not_mem_nil, or_false]; rintro p (rfl | rfl) <;> simp))⟩
          case measure => simp [intOf]; omega
end Go.Proofs.YtfbmaocedicelaaDoor
