/- The law ContactApart: contacts do not influence each other. No condition. -/
import Derived.Test.YtcobcefefifmcaaCtPack
namespace Go.Proofs.Ytcobcefefifmcaa
open Go.RowKit Go.ChangeShapes Go.WideShapes Go.ChangeAt

/-- The readings of one contact alone. -/
def alone (j : Nat) (l : List Ct) : List Ct := l.map fun c => Ct.zero.set j (c.get j)
theorem alone_ok (j : Nat) (l : List Ct) : ∀ c ∈ alone j l, c.ok := fun c hc => by
  obtain ⟨d, -, rfl⟩ := List.mem_map.1 hc
  exact Ct.ok_set Ct.zero_ok _ _
theorem alone_len (j : Nat) (l : List Ct) : (alone j l).length = l.length := List.length_map _
theorem alone_snoc (j : Nat) (l : List Ct) {i : Nat} (h : i < l.length) : alone j (l.take (i + 1)) = alone j (l.take i) ++ [Ct.zero.set j ((l[i]).get j)] := by
  unfold alone; rw [List.take_succ_eq_append_getElem h, List.map_append]; rfl
theorem alone_take (j : Nat) (l : List Ct) (i : Nat) : (alone j l).take i = alone j (l.take i) := by unfold alone; rw [List.map_take]
theorem outs_ok (n : Int) (s : Db) (l : List Ct) (hs : s.ok) : ∀ c ∈ s.outs n l, c.ok := fun c hc => by
  unfold Db.outs at hc
  obtain ⟨i, -, rfl⟩ := List.mem_map.1 hc
  exact (Db.ok_run hs _).c
theorem outs_apart (n : Int) (j : Nat) (hj : j < 36) (l : List Ct) (i : Nat) (h : i < l.length) :
    ((Db.zero.outs n l)[i]'(by rw [Db.outs_len]; exact h)).get j = ((Db.zero.outs n (alone j l))[i]'(by rw [Db.outs_len, alone_len]; exact h)).get j := by
  rw [Db.outs_get _ _ _ h, Db.outs_get _ _ _ (by rw [alone_len]; exact h), alone_take]
  exact congrArg Prod.fst (Db.run_apart hj Db.zero_okD (l.take (i + 1)))
theorem count_apart (n : Int) (j : Nat) (hj : j < 36) (l : List Ct) : (Db.zero.run n l).n.getD j 0 = (Db.zero.run n (alone j l)).n.getD j 0 := congrArg Prod.snd (Db.run_apart hj Db.zero_okD l)

set_option maxHeartbeats 8000000 in
theorem lawContactApart_walk (n p : Int) (v : Value) (l : List Ct) (w : World) (hn : (Lit.int .u8 n).wf = true) (hp : (Lit.int .u8 p).wf = true) (hv : LV w v l) (hl : ∀ c ∈ l, c.ok) (hmax : l.length ≤ maxLen) :
    Calls Try.prog 7 #[.int .u8 n, .int .u8 p, v] w fun e w' => e = .returned (.bool true) ∧ Below w.heap.size w w' := by
  obtain ⟨n, rfl, hn2⟩ := u8_nat hn
  obtain ⟨p, rfl, hp2⟩ := u8_nat hp
  obtain ⟨i0, hi0, hz0, hz1, hz2⟩ := info_parts ctInfo
  unfold maxLen at hmax
  have HV := Lib.hid hv
  obtain ⟨A, cap, rfl, hA⟩ := hv
  have HA := Lib.hid hA
  have FS := Lib.hid (fun wx => sane_any wx)
  clear hA
  by_cases hlen : 100 < l.length
  · clear HV hl HA
    go_enter Try.func7, Try.ntmps7
    go_wp2_with fail
    refine (FS.out _).mono ?_
    rintro e w2 ⟨rfl, hb2⟩
    go_wp2_with fail
    go_ret
    exact ⟨rfl, hb2⟩
  · obtain ⟨q, hq⟩ : ∃ q, q = n % 16 := ⟨_, rfl⟩
    obtain ⟨j, hj⟩ : ∃ j, j = p % 36 := ⟨_, rfl⟩
    have hq1 : (n : Int).tmod 16 = (q : Int) := by rw [Int.tmod_eq_emod_of_nonneg (by omega)]; omega
    have hq2 : (n : Int) % 16 = (q : Int) := by omega
    have hj1 : (p : Int).tmod 36 = (j : Int) := by rw [Int.tmod_eq_emod_of_nonneg (by omega)]; omega
    have hj2 : (p : Int) % 36 = (j : Int) := by omega
    have hq16 : q < 16 := by omega
    have hj36 : j < 36 := by omega
    have isB0 : Db.zero.isB (1 + (q : Int)) = true := Db.isB_zero (by omega) (by omega)
    have F1 := Lib.hid (fun wx (h : Below w.heap.size w wx) => runOk_any (1 + (q : Int)) Db.zero l _ wx Db.zero_okD hl (by omega) isB0 (HV.out.below h))
    have F2 := Lib.hid (fun o wx (h : LV wx o (alone j l)) => runOk_any (1 + (q : Int)) Db.zero (alone j l) o wx Db.zero_okD (alone_ok j l) (by rw [alone_len]; omega) isB0 h)
    rw [alone_len] at F2
    have ok1 := Db.ok_run (n := 1 + (q : Int)) Db.zero_okD l
    have ok2 := Db.ok_run (n := 1 + (q : Int)) Db.zero_okD (alone j l)
    have hct := count_apart (1 + (q : Int)) j hj36 l
    have k1 := Db.cell_n ok1 hj36
    have k2 := Db.cell_n ok2 hj36
    rw [← hct] at k2
    have HL := Lib.hid hl
    clear hct isB0 hl HV hq hj hn hn2 hp hp2
    generalize Db.zero.run (1 + (q : Int)) l = S1 at *
    generalize Db.zero.run (1 + (q : Int)) (alone j l) = S2 at *
    generalize S1.n.getD j 0 = kc at *
    have K1 := Lib.hid k1
    have K2 := Lib.hid k2
    clear k1 k2
    go_enter Try.func7, Try.ntmps7
    go_wp2_with fail
    go_loopw [9, 10] (fun o v wr => ∃ k : Nat, k ≤ l.length ∧ v = .int .i64 k ∧ wr.ownsRow w.heap.size 24 5 o k (flat (alone j (l.take k))) ∧ Below w.heap.size w wr) (fun _ v _ => l.length - (intOf v).toNat)
    case atStart => exact ⟨0, Nat.zero_le _, rfl, World.ownsRow_nil _ _ _ _, Below.refl _ _⟩
    case round =>
      obtain ⟨k, hk, rfl, hown, hbw⟩ := hrel
      have hsr := hbw.size
      have HO := Lib.hid hown
      have HB := Lib.hid hbw
      clear hown hbw
      by_cases hlt : k < l.length
      · have hm63 : k + 1 ≤ maxLen := by unfold maxLen; omega
        obtain ⟨b, off, rfl, hb, r0, r1, r2, r3, r4⟩ := (HA.out.below HB.out).at_ hlt
        have okr := HL.out l[k] (List.getElem_mem hlt)
        have FG := Lib.hid (fun wx => refGet_any l[k] (j : Int) wx okr)
        have FT := Lib.hid (fun wx => refSet_any Ct.zero (j : Int) ((l[k]).get j) wx Ct.zero_ok)
        have has := alone_snoc j l hlt
        simp only [Ct.getI_nat, Ct.setI_nat, Ct.agg] at FG FT
        generalize Ct.zero.set j ((l[k]).get j) = y at *
        generalize l[k] = rk at *
        have HAS := Lib.hid has
        obtain ⟨rf, ru, rd, ro, rc⟩ := rk
        obtain ⟨yf, yu, yd, yo, yc⟩ := y
        simp only at r0 r1 r2 r3 r4 FG FT
        unfold Ct.zero at FT
        clear has okr
        go_wp2_with fail
        refine (FG.out _).mono ?_
        rintro e x1 ⟨rfl, hb1⟩
        clear r0 r1 r2 r3 r4
        go_wp2_with fail
        refine (FT.out _).mono ?_
        rintro e x2 ⟨rfl, hb2⟩
        have hb3 := hb1.trans (hb2.mono hb1.size)
        have hO2 := own_of_blocks (w' := x2) HO.out (fun i hi hlt => hb3.block i hlt)
        have HB3 := Lib.hid (HB.out.trans (hb3.mono hsr))
        have HO2 := Lib.hid hO2
        have hs3 : w.heap.size ≤ x2.heap.size := HB3.out.size
        clear hb1 hb2 hb3 hO2 FG FT
        go_wp2_with (at_builtin; refine wpList_append_own _ rfl (.tmp 35) (.tmp 45) 39 rfl w.heap.size 24 i0 _ 5 8 Try.underlying39 hi0 hz0 hz1 hz2 rfl (by decide) u9 k (flat (alone j (l.take k))) rfl (HO2.out.alloc _) ⟨x2.heap.size, 0, none⟩ 1 1 _ rfl ?hl (World.news_of_block (heap_alloc_new _ _)) ?h1 hm63 ?hby ?hbase ?hK)
        case h1 => exact ⟨rfl, rfl, rfl, rfl, rfl⟩
        case hby => omega
        case hbase => first | omega | (simp; omega)
        intro v' w' hown' hgrow _
        have hbw' := (HB3.out.alloc hs3 (.cells #[.int .u32 yf, .bool yu, .bool yd, .bool yo, .bool yc] 24)).grown hgrow (by simp; omega) (fun k hk => by have := HO2.out.lt k hk; omega)
        have hown2 : w'.ownsRow w.heap.size 24 5 v' (k + 1) (flat (alone j (l.take (k + 1)))) := by rw [HAS.out, flat_snoc]; exact hown'
        have HF := Lib.hid (And.intro hown2 hbw')
        clear hbw' hown2 hown' hgrow
        go_wp2_with fail
        go_roundw
        case rel => exact ⟨k + 1, by omega, by go_num, HF.out⟩
        case measure => simp [intOf]; omega
      · obtain rfl : k = l.length := by omega
        have hO := HO.out
        rw [List.take_length] at hO
        obtain ⟨-, hlv⟩ := LV.of_own hO
        have HLV := Lib.hid hlv
        clear hO hlv HO
        go_wp2_with (with_reducible show wpList _ _ _ (Oper.mk _ (.build 31 _) _ _ _ _ :: _) _ _; refine wpList_build_zero rfl rfl ?_)
        refine (F1.out _ HB.out).mono ?_
        rintro e x1 ⟨g1, rfl, hg1, hb1⟩
        have hs1 := hb1.size
        have HLV1 := Lib.hid ((HLV.out.below hb1).below ((Below.refl _ _).alloc (Nat.le_refl _) (.cells S1.cells 31)))
        have HG1 := Lib.hid hg1
        have HB1 := Lib.hid (HB.out.trans (hb1.mono hsr))
        clear hb1 hg1 HLV HB F1
        obtain ⟨W1, hW1⟩ : ∃ W1, W1 = x1.alloc (.cells S1.cells 31) := ⟨_, rfl⟩
        rw [← hW1] at HLV1
        have hsW1 : x1.heap.size < W1.heap.size := by rw [hW1]; simp
        have A1 : Hid (W1.heap[x1.heap.size]? = some (.cells S1.cells 31 (0, 0)) ∧ W1.heap[g1]? = some (.cells (flat (Db.zero.outs (1 + (q : Int)) l)).toArray 24 (0, 0)) ∧ Below w.heap.size w W1) := by
          show _ ∧ _ ∧ _
          rw [hW1]
          refine ⟨heap_alloc_new _ _, (Below.heap_alloc _ _ _ ?_).trans HG1.out, HB1.out.alloc (by omega) _⟩
          have h := HG1.out
          rcases Nat.lt_or_ge g1 x1.heap.size with hlt2 | hge
          · exact hlt2
          · rw [Array.getElem?_eq_none hge] at h; cases h
        have HW1 := Lib.hid hW1
        clear hW1 HG1 HB1
        go_wp2_with (first | (refine wpList_new_db' rfl rfl rfl _ _ rfl S1 ok1 rfl rfl W1 HW1 ?_) | (with_reducible show wpList _ _ _ (Oper.mk _ (.build 31 _) _ _ _ _ :: _) _ _; refine wpList_build_zero rfl rfl ?_))
        refine (F2.out _ _ HLV1.out).mono ?_
        rintro e x2 ⟨g2, rfl, hg2, hb2⟩
        have hs2 := hb2.size
        have hg1W : g1 < W1.heap.size := by
          have h := A1.out.2.1
          rcases Nat.lt_or_ge g1 W1.heap.size with hlt2 | hge
          · exact hlt2
          · rw [Array.getElem?_eq_none hge] at h; cases h
        have hg2x : g2 < x2.heap.size := by
          rcases Nat.lt_or_ge g2 x2.heap.size with hlt2 | hge
          · exact hlt2
          · rw [Array.getElem?_eq_none hge] at hg2; cases hg2
        obtain ⟨W2, hW2⟩ : ∃ W2, W2 = x2.alloc (.cells S2.cells 31) := ⟨_, rfl⟩
        have hsW2 : x2.heap.size < W2.heap.size := by rw [hW2]; simp
        have A2 : Hid (W2.heap[x1.heap.size]? = some (.cells S1.cells 31 (0, 0)) ∧ W2.heap[x2.heap.size]? = some (.cells S2.cells 31 (0, 0)) ∧ W2.heap[g1]? = some (.cells (flat (Db.zero.outs (1 + (q : Int)) l)).toArray 24 (0, 0)) ∧ W2.heap[g2]? = some (.cells (flat (Db.zero.outs (1 + (q : Int)) (alone j l))).toArray 24 (0, 0)) ∧ Below w.heap.size w W2) := by
          show _ ∧ _ ∧ _ ∧ _ ∧ _
          rw [hW2]
          exact ⟨(Below.heap_alloc _ _ _ (by omega)).trans ((hb2.block _ (by omega)).trans A1.out.1), heap_alloc_new _ _, (Below.heap_alloc _ _ _ (by omega)).trans ((hb2.block _ hg1W).trans A1.out.2.1), (Below.heap_alloc _ _ _ hg2x).trans hg2, (A1.out.2.2.trans (hb2.mono (by omega))).alloc (by omega) _⟩
        have HW2 := Lib.hid hW2
        clear hW2 hb2 hg2 HLV1 F2 A1
        go_wp2_with (refine wpList_new_db' rfl rfl rfl _ _ rfl S2 ok2 rfl rfl W2 HW2 ?_)
        have HK := Lib.hid (fun wx (hx : Below W2.heap.size W2 wx) => (⟨(cell_of_row _ _ _ _ _ (0, 0) ((hx.block _ (by omega)).trans A2.out.1)).trans K1.out, (cell_of_row _ _ _ _ _ (0, 0) ((hx.block _ (by omega)).trans A2.out.2.1)).trans K2.out⟩ : wx.cell? ⟨x1.heap.size, 5 + j, none⟩ = some (.int .i64 kc) ∧ wx.cell? ⟨x2.heap.size, 5 + j, none⟩ = some (.int .i64 kc)))
        have hjI : (j : Int) < 36 := by omega
        have hj0 : 0 ≤ (j : Int) := by omega
        refine Bag.region (fun wx => Below W2.heap.size W2 wx) (by kernel_rfl) (by kernel_rfl) (Below.refl _ _).drew ?_
        iterate 31 (first
            | (apply Bag.walk_yes (by rfl)
               (intro wx hx K hK
                obtain ⟨d1, d2⟩ := HK.out wx hx
                first
                  | (go_simp
                     first
                      | (go_at_K; exact hK _ hx)))
               rfl)
            | (refine Bag.walk_no (by rfl) ?_; simp only [Act.put, List.setIfInBounds_toArray, List.set_cons_succ, List.set_cons_zero]))
        refine Bag.walk_nil (fun W3 hW3 => ?_)
        have HW3 := Lib.hid hW3
        clear hW3 HK
        go_wp2_with fail
        go_loopw [17] (fun v wr => ∃ k : Nat, k ≤ l.length ∧ v = .int .i64 k ∧ Below W2.heap.size W2 wr) (fun v _ => l.length - (intOf v).toNat)
        case atStart => exact ⟨0, Nat.zero_le _, rfl, HW3.out⟩
        case round =>
          obtain ⟨k, hk2, rfl, hbw⟩ := hrel
          have HB2 := Lib.hid hbw
          have hsr2 := hbw.size
          clear hbw
          by_cases hlt2 : k < l.length
          · have hl1 : k < (Db.zero.outs (1 + (q : Int)) l).length := by rw [Db.outs_len]; exact hlt2
            have hl2 : k < (Db.zero.outs (1 + (q : Int)) (alone j l)).length := by rw [Db.outs_len, alone_len]; exact hlt2
            have hap := outs_apart (1 + (q : Int)) j hj36 l k hlt2
            have o1 := outs_ok (1 + (q : Int)) Db.zero l Db.zero_okD _ (List.getElem_mem hl1)
            have o2 := outs_ok (1 + (q : Int)) Db.zero (alone j l) Db.zero_okD _ (List.getElem_mem hl2)
            have R := fun wx (hx : Below wr.heap.size wr wx) => (⟨row_at ((hx.block g1 (by omega)).trans ((HB2.out.block g1 (by omega)).trans A2.out.2.2.1)) hl1, row_at ((hx.block g2 (by omega)).trans ((HB2.out.block g2 (by omega)).trans A2.out.2.2.2.1)) hl2⟩ : _ ∧ _)
            have F5 := Lib.hid (fun wx => refGet_any _ (j : Int) wx o1)
            have F6 := Lib.hid (fun wx => refGet_any _ (j : Int) wx o2)
            simp only [Ct.getI_nat, Ct.agg] at F5 F6
            rw [← hap] at F6
            generalize (Db.zero.outs (1 + (q : Int)) l)[k] = ra at *
            generalize (Db.zero.outs (1 + (q : Int)) (alone j l))[k] = rb at *
            generalize ra.get j = bb at *
            have HR := Lib.hid R
            obtain ⟨rf, ru, rd, ro, rc⟩ := ra
            obtain ⟨sf, su, sd, so, sc⟩ := rb
            simp only at HR F5 F6
            clear R hap o1 o2 hl1 hl2
            go_wp2_with fail
            have hkI : (k : Int) < (l.length : Int) := by omega
            have hk0 : 0 ≤ (k : Int) := by omega
            refine Bag.region (fun wx => Below wr.heap.size wr wx) (by kernel_rfl) (by kernel_rfl) (Below.refl _ _).drew ?_
            iterate 13 (first
                | (apply Bag.walk_yes (by rfl)
                   (intro wx hx K hK
                    obtain ⟨⟨c0, c1, c2, c3, c4⟩, ⟨e0, e1, e2, e3, e4⟩⟩ := HR.out wx hx
                    first
                      | (go_simp
                         first
                          | (go_at_call 10; (with_reducible refine (F5.out _).mono ?_); rintro e x1 ⟨rfl, hb⟩; exact hK _ (hx.trans (hb.mono hx.size)))
                          | (go_at_call 10; (with_reducible refine (F6.out _).mono ?_); rintro e x1 ⟨rfl, hb⟩; exact hK _ (hx.trans (hb.mono hx.size)))
                          | (go_at_K; exact hK _ hx)))
                   rfl)
                | (refine Bag.walk_no (by rfl) ?_; simp only [Act.put, List.setIfInBounds_toArray, List.set_cons_succ, List.set_cons_zero]))
            refine Bag.walk_nil (fun W5 hW5 => ?_)
            have HW5 := Lib.hid hW5
            clear hW5
            go_wp2_with fail
            go_roundw
            case rel => exact ⟨k + 1, by omega, by go_num, HB2.out.trans (HW5.out.mono hsr2)⟩
            case measure => simp [intOf]; omega
          · obtain rfl : k = l.length := by omega
            go_wp2_with fail
            refine (FS.out _).mono ?_
            rintro e x6 ⟨rfl, hb6⟩
            have BW11 := Lib.hid ((A2.out.2.2.2.2.trans (HB2.out.mono (by omega))).trans (hb6.mono (by omega)))
            clear hb6
            go_wp2_with fail
            go_ret
            exact ⟨rfl, BW11.out⟩

set_option maxRecDepth 100000 in
theorem lawContactApart_lifted (os : Os) (started : os.Started) (H : Type) (enc : TypeId × Value → H) :
    ReturnsInHanded {} Try.checked os 7 .any (Rows.contactApartSpec.pre6 enc Try.prog Try.f7 Rows.contactApartRow.domain false) (Rows.contactApartSpec.post enc Try.prog Try.f7 false true false false) := by
  refine returnsInHanded_of_change (C := Try.checked) own started (by kernel_rfl) Try.func7
    (ChangeSpec.witness6 (enc := enc) (C := Try.checked) false ⟨#[], #[.int .u8 0, .int .u8 0, .slice none 0 0], []⟩ 8 (by kernel_rfl) (by kernel_rfl) (by kernel_rfl) (by kernel_rfl)) ?_
  intro W base args ds gs before hval0 hW hcnd _
  have hval : ∀ (j : Nat) t v, Try.f7.params[j]? = some t → args[j]? = some v → Value.okWide Try.prog W .any base t v := hval0
  have hW' := hW
  obtain ⟨p, q, hA0, hV, rfl, hfz, hnd⟩ := hW
  have hA : DataW.TrodAll enc Try.prog W 0 (fun _ => true) true Try.f7.params.toList args.toList ds p := hA0
  rw [Try.params7] at hA hval
  obtain ⟨v0, vs0, d0, ds0, p0, q0, hargs, rfl, rfl, h0, r0⟩ := trodAll_cons hA
  obtain ⟨v1, vs1, d1, ds1, p1, q1, rfl, rfl, rfl, h1, r1⟩ := trodAll_cons r0
  obtain ⟨v2, vs2, d2, ds2, p2, q2, rfl, rfl, rfl, h2, r2⟩ := trodAll_cons r1
  obtain ⟨rfl, rfl, rfl⟩ := trodAll_nil r2
  obtain rfl : args = #[v0, v1, v2] := by cases args; simp_all
  obtain ⟨rfl, rfl⟩ := trodVars_none hV
  obtain ⟨x0, rfl, rfl, rfl, g0⟩ := open_int Try.underlying5 (hval 0 5 v0 rfl rfl) h0
  obtain ⟨x1, rfl, rfl, rfl, g1⟩ := open_int Try.underlying5 (hval 1 5 v1 rfl rfl) h1
  have k2 := h2
  have lt2 : ∀ x ∈ p2, x.block < W.heap.size := by obtain ⟨m, hm⟩ := k2; exact DataW.trod_lt m _ _ _ hm
  obtain ⟨a2, l2, c2, rfl⟩ := okWide_slice Try.underlying39 (hval 2 39 v2 rfl rfl)
  obtain ⟨fuel2, hf2⟩ := h2
  obtain ⟨x2, g2, m2, n2⟩ := open_cts hf2
  clear hA0 hval0
  refine (lawContactApart_walk x0 x1 _ x2 W g0 g1 g2 m2 n2).mono fun e W' ⟨he, bel⟩ => ?_
  subst he
  exact ⟨_, rfl, _, _, _, [], _, [], hW', trodAll_mk1 (shut_bool Try.underlying4 _), (trodAll_cons_mk (shut_int Try.underlying5 g0) (trodAll_cons_mk (shut_int Try.underlying5 g1) (trodAll_cons_mk (Below.trod laidOut (by kernel_rfl) (of_decide_eq_true (by kernel_rfl)) k2 bel lt2) trodAll_mk0))), rfl, bel.frame _, fun h => by cases h⟩

theorem lawContactApart_over : Rows.contactApartRow.holds Try.pinned (OpenSpec.ofChange Rows.contactApartSpec) :=
  OpenClaim.holds_of_wide 7 Try.f7 rfl rfl rfl rfl rfl rfl rfl ⟨rfl, rfl, rfl, rfl, rfl⟩ rfl rfl rfl rfl rfl (by kernel_rfl) Try.func7 (by kernel_rfl)
    (of_decide_eq_true (by kernel_rfl)) (by unfold Func.isWrapper; first | (rw [if_pos (by decide +kernel)]; kernel_rfl) | (rw [if_neg (by decide +kernel)]; exact ⟨rfl, rfl⟩))
    (fun os started H enc _ => lawContactApart_lifted os started H enc)

theorem contactApart_holds : Rows.ContactApartSaid := lawContactApart_over
#print axioms contactApart_holds

end Go.Proofs.Ytcobcefefifmcaa
