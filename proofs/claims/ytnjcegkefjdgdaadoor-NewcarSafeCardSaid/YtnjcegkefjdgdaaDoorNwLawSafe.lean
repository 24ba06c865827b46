/- The law NewcarSafe: what never happens, whatever the feedback is: a step that begins with a door that is not closed, or between floors, or out of the building; a door that is opened between floors. No condition but the listed tables. -/
import Derived.Test.YtnjcegkefjdgdaaDoorG21
import Derived.Test.YtnjcegkefjdgdaaDoorNwSane
import Derived.Test.YtnjcegkefjdgdaaDoorG23
import Derived.Test.YtnjcegkefjdgdaaDoorCards
import Derived.Test.YtnjcegkefjdgdaaDoorTie
import Derived.SevenTiedAt
import Derived.Deep.CutRange
namespace Go.Proofs.YtnjcegkefjdgdaaDoor
open Go.RowKit Go.ChangeShapes Go.WideShapes Go.ChangeAt
set_option linter.unusedSimpArgs false

theorem nw_agg (n t : Nat) (g cap : Nat) : (nwD n t).agg (some ⟨g, 0, none⟩) cap = .agg #[.int .i64 (nwF n : Int), .int .i64 1, .int .i64 4000, .int .i64 (1 + (t : Int) % 7), .float .f64 4591870180066957722, .float .f64 4605380978949069210, .float .f64 4607632778762754458, .slice (some ⟨g, 0, none⟩) (nwC n) cap] := by
  unfold BldD.agg
  rw [nwD_len, show (nwD n t).park = 1 + (t : Int) % 7 by show ((1 + t % 7 : Nat) : Int) = _; omega]
  rfl
/-- A tick of a state with a feedback that is allowed: the state behind it, its command, and what holds of both. -/
theorem safe_tick (n t g cap : Nat) (s : Nc) (x : Fb) (q : Nat) (h : Cs) (hs : Nc.stB (nwF n : Int) s = true) (hx : Fb.okB (nwF n : Int) x = true) (hq : q < 4294967296) (hh : h.ok) :
    ∃ (r : Nc) (m : Int), (∀ wx, NcW (nwD n t) (some ⟨g, 0, none⟩) wx → Calls Tryd.prog 7 #[.agg #[.int .i64 (nwF n : Int), .int .i64 1, .int .i64 4000, .int .i64 (1 + (t : Int) % 7), .float .f64 4591870180066957722, .float .f64 4605380978949069210, .float .f64 4607632778762754458, .slice (some ⟨g, 0, none⟩) (nwC n) cap], .int .i64 0, s.agg, x.agg, .int .u32 (q : Int), h.agg] wx fun e w2 => e = .returned (.tuple #[r.agg, .int .i64 m, .int .i64 0]) ∧ Below wx.heap.size wx w2) ∧
      Nc.stB (nwF n : Int) r = true ∧ Nc.Safe (nwF n : Int) x s (r, m) ∧ (s.fa = true → r = s ∧ m = 0) := by
  have hF := nwF_range n
  have hca : s.ca < 4294967296 := by
    rcases Nc.stB_cases hs with rfl | ⟨_, hg⟩
    · decide
    · exact hg.ca_lt (by omega)
  refine ⟨(Nc.stepG (nwD n t) 0 s x q h).1, (Nc.stepG (nwD n t) 0 s x q h).2, fun wx hw => ?_, ?_, ?_, ?_⟩
  · have := ncStep_any (nwD n t) (some ⟨g, 0, none⟩) cap 0 s x q h wx hw (by rw [nwD_len]; have := nwC_range n; omega) hca hq hh
    rw [nw_agg, show Nc.stepF (nwD n t) 0 s x q h = ((Nc.stepG (nwD n t) 0 s x q h).1, (Nc.stepG (nwD n t) 0 s x q h).2, 0) from if_pos ⟨nw_isCar hs, hx⟩] at this
    exact this
  · exact Nc.stepG_st (b := nwD n t) x q h (by rw [nw_floors]; omega) hs
  · exact Nc.safe_step (b := nwD n t) (by rw [nw_floors]; omega) (Fb.okB_iff.1 hx).1 hs
  · intro hf
    unfold Nc.stepG
    rw [if_pos hf]
    exact ⟨rfl, rfl⟩
theorem u64_rem (F : Nat) (a : Int) (hF : 0 < F) : ∃ z : Int, (IntKind.u64.wrap a).tmod (F : Int) = z ∧ 0 ≤ z ∧ z < F := by
  have h0 : 0 ≤ IntKind.u64.wrap a := by rw [IntKind.wrap_u64]; omega
  refine ⟨_, rfl, ?_, ?_⟩
  · exact Int.tmod_nonneg _ h0
  · exact Int.tmod_lt_of_pos _ (by omega)

set_option maxRecDepth 100000 in
set_option maxHeartbeats 16000000 in
theorem lawNewcarSafe_walk (n0 t0 : Int) (v : Value) (l : List Nt) (w : World) (hT : Tabs w) (h0 : (Lit.int .u8 n0).wf = true ∧ (Lit.int .u8 t0).wf = true) (hv : NV w v l) (hok : ∀ c ∈ l, c.ok) (_hlen : l.length ≤ maxLen) :
    Calls Tryd.prog 3 #[.agg #[.int .u8 n0, .int .u8 t0], v] w fun e w' => e = .returned (.bool true) ∧ Below w.heap.size w w' := by
  obtain ⟨n, rfl, hn1⟩ := u8_nat h0.1
  obtain ⟨t, rfl, hn2⟩ := u8_nat h0.2
  have hn : n < 256 ∧ t < 256 := ⟨hn1, hn2⟩
  clear h0 hn1 hn2
  obtain ⟨A, lcap, rfl, hA⟩ := hv
  have FB := Lib.hid (fun wx => building15_any n t wx hn.1 hn.2)
  have hF := nwF_range n
  have HB0 := Lib.hid (bxs1 w (.cells #[.int .u8 (n : Int), .int .u8 (t : Int)] 22))
  go_enter Tryd.func3, Tryd.ntmps3
  go_wp2_with fail
  refine (FB.out _).mono ?_
  rintro e w1 ⟨g, cap, rfl, hcb, hgw, hb1⟩
  have HB1 := Lib.hid (HB0.out.next hb1)
  have HCT : Hid (∀ wx, Kw w1 wx → NcW (nwD n t) (some ⟨g, 0, none⟩) wx) := Lib.hid (fun wx hb => ⟨((hcb.at_).below hb).more hb.size, hT.below (HB1.out.below.trans (hb.mono HB1.out.below.size))⟩)
  have HLT : Hid (∀ wx, Kw w1 wx → NAt wx A l) := Lib.hid (fun wx hb => hA.below (HB1.out.below.trans (hb.mono HB1.out.below.size)))
  have FS := Lib.hid (fun wx => sane15_any wx)
  have HTW := Lib.hid (fun wx (hb : Kw w1 wx) => hT.below (HB1.out.below.trans (hb.mono HB1.out.below.size)))
  have hC := nwC_range n
  clear FB HB0 hcb hgw hT hb1 hn hA
  rw [nw_agg]
  have HBW1 := Lib.hid HB1.out.below
  clear HB1
  have HBR1 : Hid (Bx w1 [] w1) := Lib.hid ⟨Below.refl _ _, fun p hp => by simp at hp⟩
  go_wp2_with (with_reducible show wpList _ _ _ (Oper.mk _ (.store 27 _ _) _ _ _ _ :: _) _ _; refine Hid.out ?_)
  refine Lib.hid ?_
  have lw2 : w1.heap.size ≤ w1.heap.size := HBR1.out.below.size
  refine wpList_put rfl 27 _ _ rfl w1.heap.size #[.int .i64 (nwF n : Int), .int .i64 1, .int .i64 4000, .int .i64 (1 + (t : Int) % 7), .float .f64 4591870180066957722, .float .f64 4605380978949069210, .float .f64 4607632778762754458, .slice (some ⟨g, 0, none⟩) (nwC n) cap] _ 27 rfl rfl (heap_alloc_new w1 _) (by kernel_rfl) rfl (by kernel_rfl) ?_
  intro w2 hr2 hg2
  have HB2 : Hid (Bx w1 [(w1.heap.size, .cells #[.int .i64 (nwF n : Int), .int .i64 1, .int .i64 4000, .int .i64 (1 + (t : Int) % 7), .float .f64 4591870180066957722, .float .f64 4605380978949069210, .float .f64 4607632778762754458, .slice (some ⟨g, 0, none⟩) (nwC n) cap] 27 (0, 0))] w2) := Lib.hid ((HBR1.out.make (heap_alloc_new w1 (.cells #[.int .i64 0, .int .i64 0, .int .i64 0, .int .i64 0, .float .f64 0, .float .f64 0, .float .f64 0, .slice none 0 0] 27)) ((Below.refl w1.heap.size w1).alloc (Nat.le_refl _) _)).put HBR1.out.below.size hg2.out hr2.out (by simp only [List.mem_cons, List.not_mem_nil, or_false]; rintro p rfl <;> simp <;> omega))
  clear hr2 hg2 HBR1
  generalize w1.heap.size = gb at *
  by_cases hbig : 200 < l.length
  · have hd0 : (200 : Int) < (l.length : Int) := by omega
    have HTR := HTW.out _ HB2.out.below
    go_wp2_with fail
    refine (FS.out _ HTR).mono ?_
    rintro e w9 ⟨rfl, hb9⟩
    have HB9 := Lib.hid (HB2.out.next hb9)
    go_wp2_with fail
    go_ret
    exact ⟨rfl, HBW1.out.trans (HB9.out.below.mono HBW1.out.size)⟩
  · have hd0 : ¬ (200 : Int) < (l.length : Int) := by omega
    go_wp2_with (with_reducible show wpList _ _ _ (Oper.mk _ (.store 38 _ _) _ _ _ _ :: _) _ _; refine Hid.out ?_)
    refine Lib.hid ?_
    have l3_0 : gb < w2.heap.size := (Array.getElem?_eq_some_iff.1 HB2.out.r0).1
    have lw3 : w1.heap.size ≤ w2.heap.size := HB2.out.below.size
    refine wpList_put rfl 38 _ _ rfl w2.heap.size #[.int .i64 0, .int .i64 0, .int .i64 0, .int .i64 0, .int .i64 0, .bool false, .int .i64 0, .int .i64 0, .int .i64 0, .int .i64 0, .int .u32 0, .int .i64 0, .int .i64 0, .bool false] _ 38 rfl rfl (heap_alloc_new w2 _) (by kernel_rfl) rfl (by kernel_rfl) ?_
    intro w3 hr3 hg3
    have HB3 : Hid (Bx w1 [(w2.heap.size, .cells #[.int .i64 0, .int .i64 0, .int .i64 0, .int .i64 0, .int .i64 0, .bool false, .int .i64 0, .int .i64 0, .int .i64 0, .int .i64 0, .int .u32 0, .int .i64 0, .int .i64 0, .bool false] 38 (0, 0)), (gb, .cells #[.int .i64 (nwF n : Int), .int .i64 1, .int .i64 4000, .int .i64 (1 + (t : Int) % 7), .float .f64 4591870180066957722, .float .f64 4605380978949069210, .float .f64 4607632778762754458, .slice (some ⟨g, 0, none⟩) (nwC n) cap] 27 (0, 0))] w3) := Lib.hid ((HB2.out.make (heap_alloc_new w2 (.cells #[.int .i64 0, .int .i64 0, .int .i64 0, .int .i64 0, .int .i64 0, .bool false, .int .i64 0, .int .i64 0, .int .i64 0, .int .i64 0, .int .u32 0, .int .i64 0, .int .i64 0, .bool false] 38)) ((Below.refl w2.heap.size w2).alloc (Nat.le_refl _) _)).put HB2.out.below.size hg3.out hr3.out (by simp only [List.mem_cons, List.not_mem_nil, or_false]; rintro p (rfl | rfl) <;> simp <;> omega))
    clear hr3 hg3 HB2
    generalize w2.heap.size = gs at *
    have hz0 : Nc.stB (nwF n : Int) Nc.zero = true := flt_good (n := n) (c := 0) (q := 0) (i := 0) (.inl rfl) (.inl rfl) (by decide)
    have hlq : gb < gs := by omega
    go_wp2_with fail
    go_loopw [7] (fun vi wr => ∃ (k : Nat) (s : Nc), k ≤ l.length ∧ vi = .int .i64 (k : Int) ∧ Hid (Nc.stB (nwF n : Int) s = true) ∧ Hid (Bx w1 [(gs, .cells #[.int .i64 s.sd, .int .i64 s.so, .int .i64 s.dr.st, .int .i64 s.dr.ti, .int .i64 s.dr.si, .bool s.dr.nu, .int .i64 s.dr.cy, .int .i64 s.mo.c, .int .i64 s.mo.t, .int .i64 s.mo.f, .int .u32 s.ca, .int .i64 s.sh, .int .i64 s.il, .bool s.fa] 38 (0, 0)), (gb, .cells #[.int .i64 (nwF n : Int), .int .i64 1, .int .i64 4000, .int .i64 (1 + (t : Int) % 7), .float .f64 4591870180066957722, .float .f64 4605380978949069210, .float .f64 4607632778762754458, .slice (some ⟨g, 0, none⟩) (nwC n) cap] 27 (0, 0))] wr)) (fun vi _ => l.length - (intOf vi).toNat)
    case atStart =>
      exact ⟨0, Nc.zero, Nat.zero_le _, rfl, Lib.hid hz0, HB3⟩
    case round =>
      obtain ⟨k, s, hk, rfl, hst, HR⟩ := hrel
      clear HB3 hz0
      have hw3 : IntKind.i64.wrap ((k : Int) + 1) = ((k + 1 : Nat) : Int) := by rw [IntKind.wrap_i64]; omega
      by_cases hlt : k < l.length
      · have hkI : (k : Int) < (l.length : Int) := by omega
        obtain ⟨lb, loff, rfl, hlb, x0, x1, x2, x3, x4, x5, x6⟩ := (HLT.out wr HR.out.below).at_ hlt
        have hokx := hok _ (List.getElem_mem hlt)
        generalize l[k] = tk at *
        obtain ⟨⟨fl0, lv, dd0, bl⟩, pr, ⟨hu, hd⟩⟩ := tk
        simp only [Nt.ok] at x0 x1 x2 x3 x4 x5 x6 hokx
        obtain ⟨hpr, hcs⟩ := hokx
        obtain ⟨fl, efl, hfl0, hfl1⟩ := u64_rem (nwF n) fl0 (by omega)
        obtain ⟨dd, edd, hdd0, hdd1⟩ := u64_rem 3 dd0 (by decide)
        simp only [show ((3 : Nat) : Int) = 3 from rfl] at edd hdd1
        have hfb : Fb.okB (nwF n : Int) ⟨fl, lv, dd, bl⟩ = true := Fb.okB_iff.2 ⟨⟨hfl0, by show fl ≤ (nwF n : Int) - 1; omega⟩, hdd0, by show dd ≤ 2; omega⟩
        obtain ⟨r, cm, hct, hrst, hsafe, hfa⟩ := safe_tick n t g cap s ⟨fl, lv, dd, bl⟩ pr ⟨hu, hd⟩ hst.out hfb hpr hcs
        have FT := Lib.hid hct
        have HRST := Lib.hid hrst
        have HSF := Lib.hid hsafe
        have HFA := Lib.hid hfa
        have w64 : IntKind.u64.wrap (nwF n : Int) = (nwF n : Int) := by rw [IntKind.wrap_u64]; omega
        have hF0 : ¬ (nwF n : Int) = 0 := by omega
        have hFn : ¬ nwF n = 0 := by omega
        have wf1 : IntKind.u64.wrap fl = fl := by rw [IntKind.wrap_u64]; omega
        have wf2 : IntKind.i64.wrap fl = fl := by rw [IntKind.wrap_i64]; omega
        have wd1 : IntKind.u64.wrap dd = dd := by rw [IntKind.wrap_u64]; omega
        have wd2 : IntKind.i64.wrap dd = dd := by rw [IntKind.wrap_i64]; omega
        have wF : IntKind.i64.wrap ((nwF n : Int) - 1) = (nwF n : Int) - 1 := by rw [IntKind.wrap_i64]; omega
        clear hct hrst hsafe hfa hfb hpr hcs hst
        obtain ⟨sd, so, ⟨d1, d2, d3, d4, d5⟩, ⟨m1, m2, m3⟩, ca, sh, il, fa⟩ := s
        obtain ⟨ta, tb, ⟨t1, t2, t3, t4, t5⟩, ⟨u1, u2, u3⟩, tc, ts, ti, tf⟩ := r
        simp only [Nc.agg, Fb.agg, Cs.agg] at FT HR
        go_wp2_with (with_reducible show wpList _ _ _ (Oper.mk _ (.store 44 _ _) _ _ _ _ :: _) _ _; refine Hid.out ?_)
        refine Lib.hid ?_
        have l31_0 : gs < wr.heap.size := (Array.getElem?_eq_some_iff.1 HR.out.r0).1
        have l31_1 : gb < wr.heap.size := (Array.getElem?_eq_some_iff.1 HR.out.r1).1
        have lw31 : w1.heap.size ≤ wr.heap.size := HR.out.below.size
        refine wpList_put rfl 44 _ _ rfl wr.heap.size #[.int .i64 fl0, .bool lv, .int .i64 dd0, .bool bl, .int .u32 (pr : Nat), .int .u32 (hu : Nat), .int .u32 (hd : Nat)] _ 44 rfl rfl (heap_alloc_new wr _) (by kernel_rfl) rfl (by kernel_rfl) ?_
        intro w31 hr31 hg31
        have HB31 : Hid (Bx w1 [(wr.heap.size, .cells #[.int .i64 fl0, .bool lv, .int .i64 dd0, .bool bl, .int .u32 (pr : Nat), .int .u32 (hu : Nat), .int .u32 (hd : Nat)] 44 (0, 0)), (gs, .cells #[.int .i64 sd, .int .i64 so, .int .i64 d1, .int .i64 d2, .int .i64 d3, .bool d4, .int .i64 d5, .int .i64 m1, .int .i64 m2, .int .i64 m3, .int .u32 (ca : Nat), .int .i64 sh, .int .i64 il, .bool fa] 38 (0, 0)), (gb, .cells #[.int .i64 (nwF n : Int), .int .i64 1, .int .i64 4000, .int .i64 (1 + (t : Int) % 7), .float .f64 4591870180066957722, .float .f64 4605380978949069210, .float .f64 4607632778762754458, .slice (some ⟨g, 0, none⟩) (nwC n) cap] 27 (0, 0))] w31) := Lib.hid ((HR.out.make (heap_alloc_new wr (.cells #[.int .i64 0, .bool false, .int .i64 0, .bool false, .int .u32 0, .int .u32 0, .int .u32 0] 44)) ((Below.refl wr.heap.size wr).alloc (Nat.le_refl _) _)).put HR.out.below.size hg31.out hr31.out (by simp only [List.mem_cons, List.not_mem_nil, or_false]; rintro p (rfl | rfl | rfl) <;> simp <;> omega))
        clear hr31 hg31 HR
        generalize wr.heap.size = gx at *
        go_wp2_with fail
        have q0 : gx < w31.heap.size := (Array.getElem?_eq_some_iff.1 HB31.out.r0).1
        have q1 : gs < w31.heap.size := (Array.getElem?_eq_some_iff.1 HB31.out.r1).1
        have q2 : gb < w31.heap.size := (Array.getElem?_eq_some_iff.1 HB31.out.r2).1
        refine Chain.chain (fun p wx => Put (w31) (gx) (.cells (if p = 0 then #[.int .i64 fl0, .bool lv, .int .i64 dd0, .bool bl, .int .u32 (pr : Nat), .int .u32 (hu : Nat), .int .u32 (hd : Nat)] else if p = 1 then #[.int .i64 fl, .bool lv, .int .i64 dd0, .bool bl, .int .u32 (pr : Nat), .int .u32 (hu : Nat), .int .u32 (hd : Nat)] else #[.int .i64 fl, .bool lv, .int .i64 dd, .bool bl, .int .u32 (pr : Nat), .int .u32 (hu : Nat), .int .u32 (hd : Nat)]) 44 (0, 0)) wx) (fun _ _ => False) [17, 20] (by kernel_rfl) (by kernel_rfl) (fun _ _ _ _ h => h.elim) ((Put.start HB31.out.r0).drew) ?_
        iterate 2
          apply Chain.walk_quiet (by rfl) (by decide)
          · intro p wx hp hwn hx K hK
            obtain ⟨z2_0, -⟩ := row8 (b := gb) ((hx.other gb q2 (by omega)).trans HB31.out.r2)
            go_simp
            first
              | (go_at_K; exact hK _ hx)
          · exact ⟨_, rfl⟩
        apply Chain.walk_quiet (by rfl) (by decide)
        · intro p wx hp hwn hx K hK
          obtain rfl : p = 0 := (by have h : p ≤ 2 := hp; rcases (show p = 0 ∨ p = 1 ∨ p = 2 by omega) with h | h | h; exact h; all_goals (subst h; exact absurd ((Eq.symm (show _ = false by kernel_rfl)).trans hwn) Bool.false_ne_true))
          have hx0 : Put w31 gx (.cells #[.int .i64 fl0, .bool lv, .int .i64 dd0, .bool bl, .int .u32 (pr : Nat), .int .u32 (hu : Nat), .int .u32 (hd : Nat)] 44 (0, 0)) wx := hx
          have z0_0 : wx.cell? ⟨gx, 0, none⟩ = some (.int .i64 fl0) := cell_of_row _ _ _ _ _ (0, 0) hx0.row
          obtain ⟨z2_0, -⟩ := row8 (b := gb) ((hx.other gb q2 (by omega)).trans HB31.out.r2)
          go_simp
          first
            | (go_at_K; exact hK _ hx)
        iterate 8
          · exact ⟨_, rfl⟩
          apply Chain.walk_quiet (by rfl) (by decide)
          · intro p wx hp hwn hx K hK
            obtain ⟨z2_0, -⟩ := row8 (b := gb) ((hx.other gb q2 (by omega)).trans HB31.out.r2)
            go_simp
            first
              | (go_at_K; exact hK _ hx)
        · exact ⟨_, rfl⟩
        apply Chain.walk_quiet (by rfl) (by decide)
        · intro p wx hp hwn hx K hK
          obtain rfl : p = 0 := (by have h : p ≤ 2 := hp; rcases (show p = 0 ∨ p = 1 ∨ p = 2 by omega) with h | h | h; exact h; all_goals (subst h; exact absurd ((Eq.symm (show _ = false by kernel_rfl)).trans hwn) Bool.false_ne_true))
          have hx0 : Put w31 gx (.cells #[.int .i64 fl0, .bool lv, .int .i64 dd0, .bool bl, .int .u32 (pr : Nat), .int .u32 (hu : Nat), .int .u32 (hd : Nat)] 44 (0, 0)) wx := hx
          have z0_2 : wx.cell? ⟨gx, 2, none⟩ = some (.int .i64 dd0) := cell_of_row _ _ _ _ _ (0, 0) hx0.row
          obtain ⟨z2_0, -⟩ := row8 (b := gb) ((hx.other gb q2 (by omega)).trans HB31.out.r2)
          go_simp
          first
            | (go_at_K; exact hK _ hx)
        iterate 5
          · exact ⟨_, rfl⟩
          apply Chain.walk_quiet (by rfl) (by decide)
          · intro p wx hp hwn hx K hK
            obtain ⟨z2_0, -⟩ := row8 (b := gb) ((hx.other gb q2 (by omega)).trans HB31.out.r2)
            go_simp
            first
              | (go_at_K; exact hK _ hx)
        · exact ⟨_, rfl⟩
        apply Chain.walk_turn 0 (by rfl) (by rfl)
        · intro wx hx K hK
          have hx1 : Put (w31) (gx) (.cells #[.int .i64 fl0, .bool lv, .int .i64 dd0, .bool bl, .int .u32 (pr : Nat), .int .u32 (hu : Nat), .int .u32 (hd : Nat)] 44 (0, 0)) wx := hx
          have z1 := hx1.cell 0
          have z2 := hx1.free 0
          simp only [List.getElem?_toArray, List.getElem?_cons_zero, List.getElem?_cons_succ] at z1
          go_simp
          go_at_K
          exact hK _ (hx1.put1 0 _)
        · exact ⟨undef, rfl⟩
        try simp only [Act.put, List.setIfInBounds_toArray, List.set_cons_succ, List.set_cons_zero]
        iterate 2
          apply Chain.walk_quiet (by rfl) (by decide)
          · intro p wx hp hwn hx K hK
            obtain ⟨z2_0, -⟩ := row8 (b := gb) ((hx.other gb q2 (by omega)).trans HB31.out.r2)
            go_simp
            first
              | (go_at_K; exact hK _ hx)
          · exact ⟨_, rfl⟩
        apply Chain.walk_turn 1 (by rfl) (by rfl)
        · intro wx hx K hK
          have hx1 : Put (w31) (gx) (.cells #[.int .i64 fl, .bool lv, .int .i64 dd0, .bool bl, .int .u32 (pr : Nat), .int .u32 (hu : Nat), .int .u32 (hd : Nat)] 44 (0, 0)) wx := hx
          have z1 := hx1.cell 2
          have z2 := hx1.free 2
          simp only [List.getElem?_toArray, List.getElem?_cons_zero, List.getElem?_cons_succ] at z1
          go_simp
          go_at_K
          exact hK _ (hx1.put1 2 _)
        · exact ⟨undef, rfl⟩
        try simp only [Act.put, List.setIfInBounds_toArray, List.set_cons_succ, List.set_cons_zero]
        refine Chain.walk_nil (fun w32 hp32 => ?_)
        replace hp32 : Put (w31) (gx) (.cells #[.int .i64 fl, .bool lv, .int .i64 dd, .bool bl, .int .u32 (pr : Nat), .int .u32 (hu : Nat), .int .u32 (hd : Nat)] 44 (0, 0)) w32 := hp32
        try simp only [Act.put, List.setIfInBounds_toArray, List.set_cons_succ, List.set_cons_zero]
        have HB32 : Hid (Bx w1 [(gx, .cells #[.int .i64 fl, .bool lv, .int .i64 dd, .bool bl, .int .u32 (pr : Nat), .int .u32 (hu : Nat), .int .u32 (hd : Nat)] 44 (0, 0)), (gs, .cells #[.int .i64 sd, .int .i64 so, .int .i64 d1, .int .i64 d2, .int .i64 d3, .bool d4, .int .i64 d5, .int .i64 m1, .int .i64 m2, .int .i64 m3, .int .u32 (ca : Nat), .int .i64 sh, .int .i64 il, .bool fa] 38 (0, 0)), (gb, .cells #[.int .i64 (nwF n : Int), .int .i64 1, .int .i64 4000, .int .i64 (1 + (t : Int) % 7), .float .f64 4591870180066957722, .float .f64 4605380978949069210, .float .f64 4607632778762754458, .slice (some ⟨g, 0, none⟩) (nwC n) cap] 27 (0, 0))] w32) := Lib.hid (HB31.out.ofPut (by omega) hp32 (by simp only [List.mem_cons, List.not_mem_nil, or_false]; rintro p (rfl | rfl | rfl) <;> simp <;> omega))
        clear hp32 HB31 q0 q1 q2 x0 x1 x2 x3 x4 x5 x6 efl edd w64 wf1 wf2 wd1 wd2
        obtain ⟨c0_0, c0_1, c0_2, c0_3, c0_4, c0_5, c0_6⟩ := row7 (b := gx) HB32.out.r0
        obtain ⟨c1_0, c1_1, c1_2, c1_3, c1_4, c1_5, c1_6, c1_7, c1_8, c1_9, c1_10, c1_11, c1_12, c1_13⟩ := row14 (b := gs) HB32.out.r1
        obtain ⟨c2_0, c2_1, c2_2, c2_3, c2_4, c2_5, c2_6, c2_7⟩ := row8 (b := gb) HB32.out.r2
        go_wp2_with fail
        refine (FT.out _ (HCT.out _ HB32.out.below)).mono ?_
        rintro e w33 ⟨rfl, hb33⟩
        have HB33 := Lib.hid (HB32.out.next hb33)
        clear c0_0 c0_1 c0_2 c0_3 c0_4 c0_5 c0_6 c1_0 c1_1 c1_2 c1_3 c1_4 c1_5 c1_6 c1_7 c1_8 c1_9 c1_10 c1_11 c1_12 c1_13 c2_0 c2_1 c2_2 c2_3 c2_4 c2_5 c2_6 c2_7 hb33 FT HB32
        go_wp2_with (with_reducible show wpList _ _ _ (Oper.mk _ (.store 38 _ _) _ _ _ _ :: _) _ _; refine Hid.out ?_)
        refine Lib.hid ?_
        have l34_0 : gx < w33.heap.size := (Array.getElem?_eq_some_iff.1 HB33.out.r0).1
        have l34_1 : gs < w33.heap.size := (Array.getElem?_eq_some_iff.1 HB33.out.r1).1
        have l34_2 : gb < w33.heap.size := (Array.getElem?_eq_some_iff.1 HB33.out.r2).1
        have lw34 : w1.heap.size ≤ w33.heap.size := HB33.out.below.size
        refine wpList_put rfl 38 _ _ rfl w33.heap.size #[.int .i64 ta, .int .i64 tb, .int .i64 t1, .int .i64 t2, .int .i64 t3, .bool t4, .int .i64 t5, .int .i64 u1, .int .i64 u2, .int .i64 u3, .int .u32 (tc : Nat), .int .i64 ts, .int .i64 ti, .bool tf] _ 38 rfl rfl (heap_alloc_new w33 _) (by kernel_rfl) rfl (by kernel_rfl) ?_
        intro w34 hr34 hg34
        have HB34 : Hid (Bx w1 [(w33.heap.size, .cells #[.int .i64 ta, .int .i64 tb, .int .i64 t1, .int .i64 t2, .int .i64 t3, .bool t4, .int .i64 t5, .int .i64 u1, .int .i64 u2, .int .i64 u3, .int .u32 (tc : Nat), .int .i64 ts, .int .i64 ti, .bool tf] 38 (0, 0)), (gx, .cells #[.int .i64 fl, .bool lv, .int .i64 dd, .bool bl, .int .u32 (pr : Nat), .int .u32 (hu : Nat), .int .u32 (hd : Nat)] 44 (0, 0)), (gs, .cells #[.int .i64 sd, .int .i64 so, .int .i64 d1, .int .i64 d2, .int .i64 d3, .bool d4, .int .i64 d5, .int .i64 m1, .int .i64 m2, .int .i64 m3, .int .u32 (ca : Nat), .int .i64 sh, .int .i64 il, .bool fa] 38 (0, 0)), (gb, .cells #[.int .i64 (nwF n : Int), .int .i64 1, .int .i64 4000, .int .i64 (1 + (t : Int) % 7), .float .f64 4591870180066957722, .float .f64 4605380978949069210, .float .f64 4607632778762754458, .slice (some ⟨g, 0, none⟩) (nwC n) cap] 27 (0, 0))] w34) := Lib.hid ((HB33.out.make (heap_alloc_new w33 (.cells #[.int .i64 0, .int .i64 0, .int .i64 0, .int .i64 0, .int .i64 0, .bool false, .int .i64 0, .int .i64 0, .int .i64 0, .int .i64 0, .int .u32 0, .int .i64 0, .int .i64 0, .bool false] 38)) ((Below.refl w33.heap.size w33).alloc (Nat.le_refl _) _)).put HB33.out.below.size hg34.out hr34.out (by simp only [List.mem_cons, List.not_mem_nil, or_false]; rintro p (rfl | rfl | rfl | rfl) <;> simp <;> omega))
        clear hr34 hg34 HB33
        generalize w33.heap.size = gt at *
        obtain ⟨-, -, c0_2, -, -, -, -, c0_7, c0_8, c0_9, -⟩ := row14 (b := gt) HB34.out.r0
        obtain ⟨c1_0, c1_1, c1_2, -⟩ := row7 (b := gx) HB34.out.r1
        obtain ⟨-, -, c2_2, -, -, -, -, c2_7, c2_8, c2_9, -, -, -, c2_13⟩ := row14 (b := gs) HB34.out.r2
        obtain ⟨c3_0, -⟩ := row8 (b := gb) HB34.out.r3
        skip
        have qM := fun wx => neqMo m1 m2 m3 u1 u2 u3 wx
        have hsm := Mo.same_iff ⟨m1, m2, m3⟩ ⟨u1, u2, u3⟩
        generalize Mo.same ⟨m1, m2, m3⟩ ⟨u1, u2, u3⟩ = sm at *
        go_upto_region 13 with fail
        go_cut [12] from 23 to 169 (fun v12 wx => ∃ qb : Bool, v12 = .bool qb ∧ (qb = true → dd = 2 ∧ lv = true ∧ cm = u1 ∧ ¬ (cm = 1 ∧ fl = (nwF n : Int) - 1) ∧ ¬ (cm = 2 ∧ fl = 0)) ∧ wx = w34)
        case first =>
          as_aux_lemma =>
            by_cases h1 : u1 = 0
            · subst h1
              go_wp2_with fail
              go_meet
              exact ⟨false, rfl, fun e => Bool.noConfusion e, rfl⟩
            · have b1 : (u1 != 0) = true := by simpa using h1
              cases sm
              · have hne : Hid (¬ (⟨m1, m2, m3⟩ : Mo) = ⟨u1, u2, u3⟩) := Lib.hid (fun e => Bool.noConfusion (hsm.2 e))
                clear hsm
                simp only [Bool.not_false] at qM
                by_cases h2 : u2 = 0
                · subst h2
                  go_wp2_with fail
                  go_meet
                  exact ⟨true, rfl, fun _ => HSF.out.begins h1 hne.out rfl, rfl⟩
                · have b2 : (u2 == 0) = false := by simpa using h2
                  go_wp2_with fail
                  go_meet
                  exact ⟨false, rfl, fun e => Bool.noConfusion e, rfl⟩
              · clear hsm
                simp only [Bool.not_true] at qM
                go_wp2_with fail
                go_meet
                exact ⟨false, rfl, fun e => Bool.noConfusion e, rfl⟩
        case rest =>
          as_aux_lemma =>
            obtain ⟨qb, rfl, hqb, hwc⟩ := hcut
            replace hwc := hwc.symm
            subst hwc
            clear qM hsm
            go_upto_region 14 with fail
            go_cut [126] from 23 to 169 (fun v126 wx => v126 = .bool false ∧ wx = w34)
            case first =>
              as_aux_lemma =>
                cases qb
                · go_wp2_with fail
                  go_meet
                  exact ⟨rfl, rfl⟩
                · obtain ⟨rfl, rfl, rfl, hn1, hn2⟩ := hqb rfl
                  have bq : (cm != cm) = false := by simp
                  by_cases h1 : cm = 1
                  · subst h1
                    have b1 : (fl == (nwF n : Int) - 1) = false := by simp only [beq_eq_false_iff_ne, ne_eq]; exact fun e => hn1 ⟨rfl, e⟩
                    go_wp2_with fail
                    go_meet
                    exact ⟨rfl, rfl⟩
                  · have b1 : (cm == 1) = false := by simpa using h1
                    by_cases h2 : cm = 2
                    · subst h2
                      have b2 : (fl == 0) = false := by simp only [beq_eq_false_iff_ne, ne_eq]; exact fun e => hn2 ⟨rfl, e⟩
                      go_wp2_with fail
                      go_meet
                      exact ⟨rfl, rfl⟩
                    · have b2 : (cm == 2) = false := by simpa using h2
                      go_wp2_with fail
                      go_meet
                      exact ⟨rfl, rfl⟩
            case rest =>
              as_aux_lemma =>
                obtain ⟨rfl, hwc⟩ := hcut
                replace hwc := hwc.symm
                subst hwc
                clear hqb
                have hgo := HSF.out.goes
                have hop := HSF.out.opens
                simp only at hgo hop
                go_upto_region 16 with fail
                go_cut [157] from 23 to 169 (fun v157 wx => v157 = .bool false ∧ wx = w34)
                case first =>
                  as_aux_lemma =>
                    by_cases h1 : cm = 1
                    · as_aux_lemma =>
                        subst h1
                        obtain rfl := hgo (.inl rfl)
                        skip
                        by_cases g1 : d1 = 0
                        · by_cases g2 : t1 = 0
                          · subst g1 g2
                            go_wp2_with fail
                            go_meet
                            exact ⟨rfl, rfl⟩
                          · obtain rfl := hop g1 g2
                            subst g1
                            have c2 : (t1 != 0) = true := by simpa using g2
                            go_wp2_with fail
                            go_meet
                            exact ⟨rfl, rfl⟩
                        · have c1 : (d1 == 0) = false := by simpa using g1
                          go_wp2_with fail
                          go_meet
                          exact ⟨rfl, rfl⟩
                    · have b1 : (cm == 1) = false := by simpa using h1
                      by_cases h2 : cm = 2
                      · as_aux_lemma =>
                          subst h2
                          obtain rfl := hgo (.inr rfl)
                          by_cases g1 : d1 = 0
                          · by_cases g2 : t1 = 0
                            · subst g1 g2
                              go_wp2_with fail
                              go_meet
                              exact ⟨rfl, rfl⟩
                            · obtain rfl := hop g1 g2
                              subst g1
                              have c2 : (t1 != 0) = true := by simpa using g2
                              go_wp2_with fail
                              go_meet
                              exact ⟨rfl, rfl⟩
                          · have c1 : (d1 == 0) = false := by simpa using g1
                            go_wp2_with fail
                            go_meet
                            exact ⟨rfl, rfl⟩
                      · as_aux_lemma =>
                          have b2 : (cm == 2) = false := by simpa using h2
                          by_cases g1 : d1 = 0
                          · by_cases g2 : t1 = 0
                            · subst g1 g2
                              go_wp2_with fail
                              go_meet
                              exact ⟨rfl, rfl⟩
                            · obtain rfl := hop g1 g2
                              subst g1
                              have c2 : (t1 != 0) = true := by simpa using g2
                              go_wp2_with fail
                              go_meet
                              exact ⟨rfl, rfl⟩
                          · have c1 : (d1 == 0) = false := by simpa using g1
                            go_wp2_with fail
                            go_meet
                            exact ⟨rfl, rfl⟩
                case rest =>
                  as_aux_lemma =>
                    obtain ⟨rfl, hwc⟩ := hcut
                    replace hwc := hwc.symm
                    subst hwc
                    clear hgo hop HSF
                    cases fa
                    · clear HFA
                      obtain ⟨c0_0, c0_1, c0_2, c0_3, c0_4, c0_5, c0_6, c0_7, c0_8, c0_9, c0_10, c0_11, c0_12, c0_13⟩ := row14 (b := gt) HB34.out.r0
                      go_wp2_with (with_reducible show wpList _ _ _ (Oper.mk _ (.store 38 _ _) _ _ _ _ :: _) _ _; refine Hid.out ?_)
                      refine Lib.hid ?_
                      refine wpList_put rfl 38 _ _ rfl (gs) #[.int .i64 ta, .int .i64 tb, .int .i64 t1, .int .i64 t2, .int .i64 t3, .bool t4, .int .i64 t5, .int .i64 u1, .int .i64 u2, .int .i64 u3, .int .u32 (tc : Nat), .int .i64 ts, .int .i64 ti, .bool tf] _ 38 rfl rfl HB34.out.r2 (by kernel_rfl) rfl (by kernel_rfl) ?_
                      intro w35 hr35 hg35
                      have HB35 : Hid (Bx w1 [(gt, .cells #[.int .i64 ta, .int .i64 tb, .int .i64 t1, .int .i64 t2, .int .i64 t3, .bool t4, .int .i64 t5, .int .i64 u1, .int .i64 u2, .int .i64 u3, .int .u32 (tc : Nat), .int .i64 ts, .int .i64 ti, .bool tf] 38 (0, 0)), (gx, .cells #[.int .i64 fl, .bool lv, .int .i64 dd, .bool bl, .int .u32 (pr : Nat), .int .u32 (hu : Nat), .int .u32 (hd : Nat)] 44 (0, 0)), (gs, .cells #[.int .i64 ta, .int .i64 tb, .int .i64 t1, .int .i64 t2, .int .i64 t3, .bool t4, .int .i64 t5, .int .i64 u1, .int .i64 u2, .int .i64 u3, .int .u32 (tc : Nat), .int .i64 ts, .int .i64 ti, .bool tf] 38 (0, 0)), (gb, .cells #[.int .i64 (nwF n : Int), .int .i64 1, .int .i64 4000, .int .i64 (1 + (t : Int) % 7), .float .f64 4591870180066957722, .float .f64 4605380978949069210, .float .f64 4607632778762754458, .slice (some ⟨g, 0, none⟩) (nwC n) cap] 27 (0, 0))] w35) := Lib.hid (HB34.out.put (by omega) hg35.out hr35.out (by simp only [List.mem_cons, List.not_mem_nil, or_false]; rintro p (rfl | rfl | rfl | rfl) <;> simp <;> omega))
                      clear c0_0 c0_1 c0_2 c0_3 c0_4 c0_5 c0_6 c0_7 c0_8 c0_9 c0_10 c0_11 c0_12 c0_13 hr35 hg35 HB34
                      go_wp2_with fail
                      go_roundw
                      case rel => exact ⟨k + 1, ⟨ta, tb, ⟨t1, t2, t3, t4, t5⟩, ⟨u1, u2, u3⟩, tc, ts, ti, tf⟩, by omega, by go_num, HRST, Lib.hid (HB35.out.less (by simp only [List.mem_cons, List.not_mem_nil, or_false]; rintro p (rfl | rfl) <;> simp))⟩
                      case measure => simp [intOf]; omega
                    · obtain ⟨e1, rfl⟩ := HFA.out rfl
                      simp only [Nc.mk.injEq, Dr.mk.injEq, Mo.mk.injEq] at e1
                      obtain ⟨rfl, rfl, ⟨rfl, rfl, rfl, rfl, rfl⟩, ⟨rfl, rfl, rfl⟩, rfl, rfl, rfl, rfl⟩ := e1
                      clear HFA
                      obtain ⟨c0_0, c0_1, c0_2, c0_3, c0_4, c0_5, c0_6, c0_7, c0_8, c0_9, c0_10, c0_11, c0_12, c0_13⟩ := row14 (b := gt) HB34.out.r0
                      obtain ⟨c2_0, c2_1, c2_2, c2_3, c2_4, c2_5, c2_6, c2_7, c2_8, c2_9, c2_10, c2_11, c2_12, c2_13⟩ := row14 (b := gs) HB34.out.r2
                      have qN := fun wx => neqNc ⟨ta, tb, ⟨t1, t2, t3, t4, t5⟩, ⟨u1, u2, u3⟩, tc, ts, ti, true⟩ ⟨ta, tb, ⟨t1, t2, t3, t4, t5⟩, ⟨u1, u2, u3⟩, tc, ts, ti, true⟩ wx
                      rw [Nc.same_self] at qN
                      simp only [Nc.agg, Bool.not_true] at qN
                      go_wp2_with (with_reducible show wpList _ _ _ (Oper.mk _ (.store 38 _ _) _ _ _ _ :: _) _ _; refine Hid.out ?_)
                      refine Lib.hid ?_
                      refine wpList_put rfl 38 _ _ rfl (gs) #[.int .i64 ta, .int .i64 tb, .int .i64 t1, .int .i64 t2, .int .i64 t3, .bool t4, .int .i64 t5, .int .i64 u1, .int .i64 u2, .int .i64 u3, .int .u32 (tc : Nat), .int .i64 ts, .int .i64 ti, .bool true] _ 38 rfl rfl HB34.out.r2 (by kernel_rfl) rfl (by kernel_rfl) ?_
                      intro w35 hr35 hg35
                      have HB35 : Hid (Bx w1 [(gt, .cells #[.int .i64 ta, .int .i64 tb, .int .i64 t1, .int .i64 t2, .int .i64 t3, .bool t4, .int .i64 t5, .int .i64 u1, .int .i64 u2, .int .i64 u3, .int .u32 (tc : Nat), .int .i64 ts, .int .i64 ti, .bool true] 38 (0, 0)), (gx, .cells #[.int .i64 fl, .bool lv, .int .i64 dd, .bool bl, .int .u32 (pr : Nat), .int .u32 (hu : Nat), .int .u32 (hd : Nat)] 44 (0, 0)), (gs, .cells #[.int .i64 ta, .int .i64 tb, .int .i64 t1, .int .i64 t2, .int .i64 t3, .bool t4, .int .i64 t5, .int .i64 u1, .int .i64 u2, .int .i64 u3, .int .u32 (tc : Nat), .int .i64 ts, .int .i64 ti, .bool true] 38 (0, 0)), (gb, .cells #[.int .i64 (nwF n : Int), .int .i64 1, .int .i64 4000, .int .i64 (1 + (t : Int) % 7), .float .f64 4591870180066957722, .float .f64 4605380978949069210, .float .f64 4607632778762754458, .slice (some ⟨g, 0, none⟩) (nwC n) cap] 27 (0, 0))] w35) := Lib.hid (HB34.out.put (by omega) hg35.out hr35.out (by simp only [List.mem_cons, List.not_mem_nil, or_false]; rintro p (rfl | rfl | rfl | rfl) <;> simp <;> omega))
                      clear c0_0 c0_1 c0_2 c0_3 c0_4 c0_5 c0_6 c0_7 c0_8 c0_9 c0_10 c0_11 c0_12 c0_13 c2_0 c2_1 c2_2 c2_3 c2_4 c2_5 c2_6 c2_7 c2_8 c2_9 c2_10 c2_11 c2_12 c2_13 hr35 hg35 HB34
                      go_wp2_with fail
                      go_roundw
                      case rel => exact ⟨k + 1, ⟨ta, tb, ⟨t1, t2, t3, t4, t5⟩, ⟨u1, u2, u3⟩, tc, ts, ti, true⟩, by omega, by go_num, HRST, Lib.hid (HB35.out.less (by simp only [List.mem_cons, List.not_mem_nil, or_false]; rintro p (rfl | rfl) <;> simp))⟩
                      case measure => simp [intOf]; omega
      · have hkI : ¬ (k : Int) < (l.length : Int) := by omega
        have HTR := HTW.out _ HR.out.below
        go_wp2_with fail
        refine (FS.out _ HTR).mono ?_
        rintro e w9 ⟨rfl, hb9⟩
        have HB9 := Lib.hid (HR.out.next hb9)
        go_wp2_with fail
        go_ret
        exact ⟨rfl, HBW1.out.trans (HB9.out.below.mono HBW1.out.size)⟩
set_option maxHeartbeats 4000000 in
set_option maxRecDepth 100000 in
theorem lawNewcarSafe_lifted (os : Os) (started : os.Started) (H : Type) (enc : TypeId × Value → H) :
    ReturnsInHanded {} Tryd.checked os 3 .any (fun w args => (Rows.newcarSafeSpec.pre enc Tryd.prog Tryd.f3 [] false w args ∧ laidMetH Tryd.prog laidAll w) ∧ sizedMet enc Tryd.prog Tryd.f3 (OpenSpec.ofChange Rows.newcarSafeSpec) false w args) (Rows.newcarSafeSpec.post enc Tryd.prog Tryd.f3 false true false false) := by
  refine returnsInHanded_of_change_and (C := Tryd.checked) (X := fun w _ => laidMetH Tryd.prog laidAll w) (fun _ _ _ hh h => h.of_heap hh) own started (by kernel_rfl) Tryd.func3
    (ChangeSpec.witness_shaped (enc := enc) (C := Tryd.checked) (os := os) (X := fun w _ => laidMetH Tryd.prog laidAll w) false (World.doorLaid Tryd.prog 24 os) #[.agg #[.int .u8 0, .int .u8 0], .slice none 0 0] 8 rfl (World.shaped_of_RefB (by kernel_rfl) (by kernel_rfl)) (by kernel_rfl) (by kernel_rfl) (by kernel_rfl) (door_met os _)) ?_
  intro W base args ds gs before hval0 hW _ _ hL _
  have hval : ∀ (j : Nat) t v, Tryd.f3.params[j]? = some t → args[j]? = some v → Value.okWide Tryd.prog W .any base t v := hval0
  have hW' := hW
  obtain ⟨p, q, hA0, hV, rfl, hfz, hnd⟩ := hW
  have hA : DataW.TrodAll enc Tryd.prog W 0 (fun _ => true) true Tryd.f3.params.toList args.toList ds p := hA0
  rw [Tryd.params3] at hA hval
  obtain ⟨v0, vs0, d0, ds0, p0, q0, hargs, rfl, rfl, h0, r0⟩ := trodAll_cons hA
  obtain ⟨v1, vs1, d1, ds1, p1, q1, rfl, rfl, rfl, h1, r1⟩ := trodAll_cons r0
  obtain ⟨rfl, rfl, rfl⟩ := trodAll_nil r1
  obtain rfl : args = #[v0, v1] := by cases args; simp_all
  obtain ⟨rfl, rfl⟩ := trodVars_none hV
  have k0 := h0
  have lt0 : ∀ x ∈ p0, x.block < W.heap.size := by obtain ⟨m, hm⟩ := k0; exact DataW.trod_lt m _ _ _ hm
  obtain ⟨x0, y0, rfl, g0⟩ := open_au8_2 (hval 0 22 v0 rfl rfl) h0
  have k1 := h1
  have lt1 : ∀ x ∈ p1, x.block < W.heap.size := by obtain ⟨m, hm⟩ := k1; exact DataW.trod_lt m _ _ _ hm
  obtain ⟨a1, l1, c1, rfl⟩ := okWide_slice Tryd.underlying23 (hval 1 23 v1 rfl rfl)
  obtain ⟨fuel1, hf1⟩ := h1
  obtain ⟨x1, g1, n1, m1⟩ := open_nts hf1
  clear hA0 hval0
  refine (lawNewcarSafe_walk x0 y0 _ x1 W (tabs_of_laid hL) g0 g1 n1 m1).mono fun e W' ⟨he, bel⟩ => ?_
  subst he
  exact ⟨_, rfl, _, _, _, [], _, [], hW', trodAll_mk1 (shut_bool Tryd.underlying4 _), (trodAll_cons_mk (Below.trod laidOut (by kernel_rfl) (of_decide_eq_true (by kernel_rfl)) k0 bel lt0) (trodAll_cons_mk (Below.trod laidOut (by kernel_rfl) (of_decide_eq_true (by kernel_rfl)) k1 bel lt1) trodAll_mk0)), rfl, bel.frame _, fun h => by cases h⟩

set_option maxHeartbeats 4000000 in
theorem lawNewcarSafe_over : Rows.newcarSafeRow.holds Tryd.pinned (OpenSpec.ofChange Rows.newcarSafeSpec) :=
  OpenClaim.holds_of_wide 3 Tryd.f3 rfl rfl rfl rfl rfl rfl rfl ⟨rfl, rfl, rfl, rfl, rfl⟩ rfl rfl rfl rfl rfl (by kernel_rfl) Tryd.func3 (by kernel_rfl)
    (of_decide_eq_true (by kernel_rfl)) (by unfold Func.isWrapper; first | (rw [if_pos (by decide +kernel)]; kernel_rfl) | (rw [if_neg (by decide +kernel)]; exact ⟨rfl, rfl⟩))
    (fun os started H enc _ => lawNewcarSafe_lifted os started H enc)

set_option maxHeartbeats 4000000 in
theorem newcarSafe_card : Rows.NewcarSafeCardSaid :=
  Claim7.holds_tied_plain_at .later [] _ _ _ _ lawNewcarSafe_over (fun _ h => by cases h) (by kernel_rfl) (fun _ h => by cases h) newcarSafe_row_tie rfl ⟨rfl, rfl⟩ (by kernel_rfl) rfl
    (fun f fn hf hfn => by
      obtain rfl : f = 3 := Option.some.inj ((show Tryd.prog.funcNamed "overlay/overlaylaw15.NewcarSafe" = some 3 by kernel_rfl).symm.trans hf) |>.symm
      obtain rfl : fn = Tryd.f3 := (Option.some.inj (Tryd.func3.symm.trans hfn)).symm
      exact ⟨by kernel_rfl, fun j t ht => by
        rw [Tryd.params3] at ht
        have hm : t ∈ [22, 23] := by simpa using Array.mem_of_getElem? ht
        have hall : ([22, 23].all fun u => !Tryd.prog.wantsStandIn u) = true := by kernel_rfl
        exact (show Tryd.prog.wantsStandIn t = false by simpa using List.all_eq_true.1 hall t hm)⟩)
    (by kernel_rfl)
#print axioms newcarSafe_card
end Go.Proofs.YtnjcegkefjdgdaaDoor
