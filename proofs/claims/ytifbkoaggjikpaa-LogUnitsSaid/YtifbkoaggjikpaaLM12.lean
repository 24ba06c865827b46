/- What the texts behind this one rest on: one text. No statement of the seat is proved here. -/
import Derived.Test.YtifbkoaggjikpaaLM11
import Derived.Test.YtifbkoaggjikpaaLM04
import Derived.Test.YtifbkoaggjikpaaLM10
import Derived.Laws.CopyRow
import Derived.Shelf.Spec.SlicesInsertGrow
namespace Go.Proofs.Ytifbkoaggjikpaa
section
open Go.RowKit

theorem run_copy_wide {P : Program} (w : World) (dT sT ty elem : TypeId) (g o dLen dCap size n : Nat) (a : Addr) (sLen sCap : Nat) (cur : Array Value) (t : TypeId) (cs : List Value)
    (hu : P.underlying dT = some (.slice elem)) (hs : (P.info? elem).map (·.size) = some size)
    (hg : w.heap[g]? = some (.cells cur t (0, 0))) (hn : Nat.min sLen dLen = n) (hcl : cs.length = n * size)
    (hsrc : ∀ j v, cs[j]? = some v → w.cell? (a.add j) = some v) (hfit : o + cs.length ≤ cur.size) (h1 : ∀ v ∈ cs, v.oneCell' = true) :
    (Builtin.copy_ #[dT, sT] ty #[.slice (some ⟨g, o, none⟩) dLen dCap, .slice (some a) sLen sCap]).run P w =
      .ok (goInt n) (w.setRow g (cur.toList.take o ++ cs ++ cur.toList.drop (o + cs.length)).toArray) := by
  have hl := run_loadCells_list (P := P) w a cs hsrc
  have hst := run_storeCells_at P g o t cs 0 cur w hg (by simpa using hfit) h1
  cases hq : P.info? elem with
  | none => simp [hq] at hs
  | some i =>
    have hi : i.size = size := by simpa [hq] using hs
    rw [hcl] at hl
    simp [Builtin.copy_, run_underlying hu, Builtin.lenOf, Builtin.firstCells, sizeOf, typeInfo, hq, hi, hn, hl, hst]
theorem below_set {w : World} {B g : Nat} (h : B ≤ g) (cs : Array Value) : Below B w (w.setRow g cs) :=
  ⟨rfl, rfl, rfl, by rw [size_setRow]; exact Nat.le_refl _, fun k hk => setRow_other w g k _ (by omega)⟩

set_option maxRecDepth 100000 in
theorem mul64_any (n : Nat) (w : World) (h1 : 1 ≤ n) (h2 : n ≤ 8) : Calls Try.prog 90 #[.int .u64 1, .int .u64 n] w fun e w' => e = .returned (.tuple #[.int .u64 0, .int .u64 n]) ∧ w = w' := by
  obtain rfl | rfl | rfl | rfl | rfl | rfl | rfl | rfl : n = 1 ∨ n = 2 ∨ n = 3 ∨ n = 4 ∨ n = 5 ∨ n = 6 ∨ n = 7 ∨ n = 8 := by omega
  all_goals
    go_enter Try.func90, Try.ntmps90
    go_wp2
    go_ret2
    exact ⟨rfl, rfl⟩
theorem mul_any (n : Nat) (w : World) (h1 : 1 ≤ n) (h2 : n ≤ 8) : Calls Try.prog 59 #[.int .u64 1, .int .u64 n] w fun e w' => e = .returned (.tuple #[.int .u64 0, .int .u64 n]) ∧ w = w' := by
  have F := Lib.hid (fun w => mul64_any n w h1 h2)
  go_enter Try.func59, Try.ntmps59
  go_wp2_with (go_at_call 90; refine (F.out _).mono ?_; rintro e w' ⟨rfl, rfl⟩)
  go_ret2
  exact ⟨rfl, rfl⟩
theorem make_ints (n : Nat) (hn : n ≤ 1000000) : ∀ w : World, (Instr.makeSlice 28 (.int .i64 n) (.int .i64 n)).run Try.prog w = .ok (.slice (some ⟨w.heap.size, 0, none⟩) n n) (w.alloc (.cells (nums (List.replicate n 0)).toArray 3)) := by
  obtain ⟨i0, hi0, hz0, hz1, hz2⟩ := info_parts intInfo
  intro w
  have hr := run_make (P := Try.prog) w 28 3 i0 _ Try.underlying28 hi0 hz0 .i64 .i64 n n (by omega) (Int.le_refl _) (by rw [hz2]; omega) (by omega)
  simp only [Int.toNat_natCast] at hr
  have e : madeCells (Value.int .i64 0).cells (n * i0.size) = (nums (List.replicate n 0)).toArray := by
    rw [hz1]
    apply Array.toList_inj.1
    rw [show (Value.int .i64 0).cells = #[.int .i64 0] from rfl, Nat.mul_one, toList_madeCells_one]
    simp [nums]
  rw [hr, e]
theorem make_bools (n : Nat) (hn : n ≤ 1000000) : ∀ w : World, (Instr.makeSlice 29 (.int .i64 n) (.int .i64 n)).run Try.prog w = .ok (.slice (some ⟨w.heap.size, 0, none⟩) n n) (w.alloc (.cells (bls (List.replicate n false)).toArray 4)) := by
  obtain ⟨i0, hi0, hz0, hz1, hz2⟩ := info_parts boolInfo
  intro w
  have hr := run_make (P := Try.prog) w 29 4 i0 _ Try.underlying29 hi0 hz0 .i64 .i64 n n (by omega) (Int.le_refl _) (by rw [hz2]; omega) (by omega)
  simp only [Int.toNat_natCast] at hr
  have e : madeCells (Value.bool false).cells (n * i0.size) = (bls (List.replicate n false)).toArray := by
    rw [hz1]
    apply Array.toList_inj.1
    rw [show (Value.bool false).cells = #[.bool false] from rfl, Nat.mul_one, toList_madeCells_one]
    simp [bls]
  rw [hr, e]
theorem rep_splice (n o k : Nat) (h : o + k ≤ n) (z : Value) : (((List.replicate n z).toArray.toList.take o ++ List.replicate k z ++ (List.replicate n z).toArray.toList.drop (o + (List.replicate k z).length)).toArray) = (List.replicate n z).toArray := by
  congr 1
  simp only [List.take_replicate, List.drop_replicate, List.length_replicate, List.replicate_append_replicate]
  congr 1
  omega
/-- Zeros over zeros. -/
theorem copy_zeros {W : World} {g n o a k : Nat} (ty : TypeId) (hg : W.heap[g]? = some (.cells (List.replicate n (.int .i64 0)).toArray 3 (0, 0))) (dLen dCap sLen sCap : Nat) (hk : Nat.min sLen dLen = k) (h1 : o + k ≤ n) (h2 : a + k ≤ n) :
    (Builtin.copy_ #[28, 28] ty #[.slice (some ⟨g, o, none⟩) dLen dCap, .slice (some ⟨g, a, none⟩) sLen sCap]).run Try.prog W = .ok (goInt k) (W.setRow g (List.replicate n (.int .i64 0)).toArray) := by
  have h := run_copy_wide (P := Try.prog) W 28 28 ty 3 g o dLen dCap 1 k ⟨g, a, none⟩ sLen sCap _ _ (List.replicate k (.int .i64 0)) Try.underlying28 (by kernel_rfl) hg hk (by simp)
    (fun j v hj => by
      rw [Addr.add_lit, cell_of_row _ _ _ _ _ (0, 0) hg]
      rw [List.getElem?_replicate] at hj
      split at hj
      · rename_i hjk; rw [← hj, List.getElem?_toArray, List.getElem?_replicate, if_pos (by omega)]
      · cases hj) (by simp; omega) (fun v hv => by rw [(List.mem_replicate.1 hv).2]; rfl)
  rw [rep_splice n o k h1] at h
  exact h
theorem nums_rep (n : Nat) : nums (List.replicate n 0) = List.replicate n (.int .i64 0) := by simp [nums]
set_option maxRecDepth 100000 in
set_option maxHeartbeats 2000000 in
theorem repeat_any (n : Nat) (v : Value) (w : World) (h1 : 1 ≤ n) (h2 : n ≤ 8) (hv : VV w v (nums [0])) :
    Calls Try.prog 35 #[v, .int .i64 n] w fun e w' => ∃ v', e = .returned v' ∧ w'.ownsRow w.heap.size 3 1 v' n (nums (List.replicate n 0)) ∧ Below w.heap.size w w' := by
  obtain ⟨A, cap, rfl, hA⟩ := hv
  obtain ⟨b, off, rfl, hb, hc⟩ := hA.num (l := [0]) (k := 0) (by simp)
  clear hA
  rw [nums_len]
  have FM := Lib.hid (fun w => mul_any n w h1 h2)
  have HMK := Lib.hid (make_ints n (by omega))
  rw [nums_rep] at HMK ⊢
  have hmk := HMK.out
  clear HMK
  have HCP0 := Lib.hid (fun ty => by
    have h := run_copy_wide (P := Try.prog) (w.alloc (.cells (List.replicate n (.int .i64 0)).toArray 3)) 28 28 ty 3 w.heap.size 0 n n 1 1 ⟨b, off, none⟩ 1 cap _ _ [.int .i64 0] Try.underlying28 (by kernel_rfl) (heap_alloc_new w _) (by show min 1 n = 1; omega) (by simp)
      (fun j v hj => by
        have hj0 : j = 0 := by
          have := (List.getElem?_eq_some_iff.1 hj).1
          simp at this; exact this
        subst hj0
        simp at hj
        rw [Addr.add_lit, ← hj]
        exact (((Below.refl w.heap.size w).alloc (Nat.le_refl _) _).cell (p := ⟨b, off + 0, none⟩) hb).trans hc) (by simp; omega) (fun v hv => by rw [List.mem_singleton.1 hv]; rfl)
    rw [show ([.int .i64 0] : List Value) = List.replicate 1 (.int .i64 0) from rfl, rep_splice n 0 1 (by omega)] at h
    exact h)
  have HB0 := Lib.hid (((Below.refl w.heap.size w).alloc (Nat.le_refl _) (.cells (List.replicate n (.int .i64 0)).toArray 3)).trans (below_set (B := w.heap.size) (g := w.heap.size) (Nat.le_refl _) (List.replicate n (.int .i64 0)).toArray))
  have HR0 := Lib.hid (setRow_heap (w.alloc (.cells (List.replicate n (.int .i64 0)).toArray 3)) w.heap.size _ (List.replicate n (.int .i64 0)).toArray 3 _ (heap_alloc_new w _))
  have HCZ := Lib.hid (fun (W : World) (m : Nat) ty (hm1 : 1 ≤ m) (hm2 : m < n) (hg : W.heap[w.heap.size]? = some (.cells (List.replicate n (.int .i64 0)).toArray 3 (0, 0))) =>
    copy_zeros (o := m) (a := 0) (k := min m (n - m)) ty hg (n - m) (n - m) m n rfl (by omega) (by omega))
  have HS := Lib.hid (fun (W : World) (hg : W.heap[w.heap.size]? = some (.cells (List.replicate n (.int .i64 0)).toArray 3 (0, 0))) => setRow_heap W w.heap.size _ (List.replicate n (.int .i64 0)).toArray 3 _ hg)
  have HFIN := Lib.hid (fun (W : World) (hg : W.heap[w.heap.size]? = some (.cells (List.replicate n (.int .i64 0)).toArray 3 (0, 0))) =>
    (show W.ownsRow w.heap.size 3 1 (.slice (some ⟨w.heap.size, 0, none⟩) n n) n (List.replicate n (.int .i64 0)) from
      ⟨by simp, .inr ⟨w.heap.size, n, _, rfl, Nat.le_refl _, hg, Nat.le_refl _, by unfold maxLen; omega, by simp, by simp⟩⟩))
  generalize hRR : (List.replicate n (Value.int .i64 0)).toArray = RR at *
  clear hRR hc hb
  have hn0 : ¬ (n : Int) < 0 := by omega
  have hnx : ¬ (9223372036854775807 : Int) < (n : Int) := by omega
  have hn1 : (n : Int) % 18446744073709551616 = (n : Int) := by omega
  go_enter Try.func35, Try.ntmps35
  go_wp2_with (first
    | (go_at_call 59; refine (FM.out _).mono ?_; rintro e w' ⟨rfl, rfl⟩)
    | (at_builtin; refine wpList_copy_runI _ rfl (.tmp 31) (.tmp 32) 28 28 rfl _ _ rfl rfl (HCP0.out _) ?_)
    | (refine wpList_copy_runI _ rfl (.tmp 31) (.tmp 32) 28 28 rfl _ _ rfl rfl (HCP0.out _) ?_))
  go_loopw [8] (fun v wr => ∃ m : Nat, 1 ≤ m ∧ m ≤ n ∧ v = .int .i64 (m : Int) ∧ Hid (wr.heap[w.heap.size]? = some (.cells RR 3 (0, 0))) ∧ Below w.heap.size w wr) (fun v _ => n - (intOf v).toNat)
  case atStart => exact ⟨1, by omega, h1, rfl, HR0, HB0.out⟩
  case round =>
    obtain ⟨m, hm1, hm2, rfl, hrow, hbw⟩ := hrel
    have HB := Lib.hid hbw
    clear hbw
    by_cases hlt : m < n
    · have hm0 : (0 : Int) ≤ (m : Int) := by omega
      have hcp := Lib.hid (fun ty => HCZ.out wr.drew m ty hm1 hlt hrow.out)
      have hmn : m ≤ n := hm2
      have hcm : ¬ (n = m) := by omega
      have hrow2 := Lib.hid (HS.out wr.drew hrow.out)
      have HB2 := Lib.hid (HB.out.trans ((Below.refl _ wr).drew.trans (below_set (Nat.le_refl _) RR)))
      have hk0 : 1 ≤ min m (n - m) := by omega
      have hk1 : m + min m (n - m) ≤ n := by omega
      have hw1 : IntKind.i64.wrap ((m : Int) + ((min m (n - m) : Nat) : Int)) = (m : Int) + ((min m (n - m) : Nat) : Int) := IntWalk.i64_in _ (by omega)
      generalize min m (n - m) = k at *
      go_wp2_with fail
      go_region_law (refine step_copy_runI rfl (.tmp 41) (.tmp 44) 28 28 rfl _ _ (by simp [Act.eval, Act.put]) (by simp [Act.eval, Act.put]) (hcp.out _) ?_)
      simp [Act.put]
      go_wp2_with fail
      go_roundw
      case rel => exact ⟨m + k, by omega, hk1, by go_num, hrow2, HB2.out⟩
      case measure => simp [intOf]; omega
    · have hE := Lib.hid (HFIN.out wr hrow.out)
      have hmn : ¬ (m : Int) < (n : Int) := by omega
      go_wp2_with fail
      go_ret
      exact ⟨_, rfl, hE.out, HB.out⟩

set_option maxRecDepth 100000 in
set_option maxHeartbeats 2000000 in
theorem initGood_any (b : BldD) (A : Option Addr) (cap : Nat) (w : World) (hc : CarsAt w w.heap.size A b.cars) (hv : validE b = 0) :
    Calls Try.prog 11 #[b.agg A cap] w fun e w' => ∃ pv' fv' lv' ev', e = .returned (.agg #[pv', fv', lv', ev']) ∧ IOwn w' w.heap.size pv' fv' lv' ev' (Img.init b.cars.length) ∧ Below w.heap.size w w' := by
  have hC := (fine_of hv).cars
  have FV := Lib.hid (fun wx (h : Below w.heap.size w wx) => valid_any b A cap wx (by omega) ((hc.below h).more h.size))
  rw [hv] at FV
  have HFIN := Lib.hid (fun (wx : World) (pv fv lv : Value) (h1 : wx.ownsRow w.heap.size 3 1 pv b.cars.length (nums (List.replicate b.cars.length 0))) (h2 : wx.ownsRow w.heap.size 4 1 fv b.cars.length (bls (List.replicate b.cars.length false))) (h3 : wx.ownsRow w.heap.size 4 1 lv b.cars.length (bls (List.replicate b.cars.length false))) (h4 : ∀ k, fv.ownBlock = some k → lv.ownBlock ≠ some k) =>
    (show IOwn wx w.heap.size pv fv lv (.slice none 0 0) (Img.init b.cars.length) from ⟨by rw [show (Img.init b.cars.length).ph.length = b.cars.length by simp [Img.init]]; exact h1, by rw [show (Img.init b.cars.length).fl.length = b.cars.length by simp [Img.init]]; exact h2, by rw [show (Img.init b.cars.length).lv.length = b.cars.length by simp [Img.init]]; exact h3, World.ownsRow_nil _ _ _ _, h4⟩))
  clear hv hc
  generalize Img.init b.cars.length = mI at *
  obtain ⟨f, d, r, p, e1, e2, e3, cs⟩ := b
  simp only [BldD.agg] at *
  generalize cs.length = n at *
  have FR := Lib.hid (fun v wx hv => repeat_any n v wx hC.1 hC.2 hv)
  have hmb := make_bools n (by omega)
  have HNB := Lib.hid (fun (wx : World) => World.ownsRow_lit (base := wx.heap.size) (e := 4) (size := 1) wx (bls (List.replicate n false)).toArray n (Nat.le_refl _) (by unfold maxLen; omega) (by simp [bls]))
  have HNZ := Lib.hid (fun (wx : World) => World.ownsRow_lit (base := wx.heap.size) (e := 3) (size := 1) wx #[.int .i64 0] 1 (Nat.le_refl _) (by unfold maxLen; omega) (by simp))
  obtain ⟨hC1, hC2⟩ := hC
  go_enter Try.func11, Try.ntmps11
  go_wp2_with fail
  refine (FV.out _ (by go_grown)).mono ?_
  rintro e w1 ⟨rfl, hb⟩
  obtain ⟨hr1, hr2⟩ := boxes2 hb
  obtain ⟨c0, c1, c2, c3, c4, c5, c6, c7⟩ := boxRow hr1
  have HR2 := Lib.hid hr2
  have HLT := Lib.hid (Array.getElem?_eq_some_iff.1 hr2).1
  have HB := Lib.hid ((((Below.refl w.heap.size w).alloc (Nat.le_refl _) _).alloc (by simp) _).trans (hb.mono (by simp; omega)))
  clear hb hr1 hr2
  go_wp2_with fail
  clear c0 c1 c2 c3 c4 c5 c6 c7
  refine GhostV.ghost (fun γ L wx => GI (w1) (w.heap.size + 1) 32 #[.slice none 0 0, .slice none 0 0, .slice none 0 0, .slice none 0 0] [(⟨0, 3, 1, 1, [.int .i64 0]⟩ : OwnD), (⟨2, 3, 1, n, nums (List.replicate n 0)⟩ : OwnD), (⟨4, 4, 1, n, bls (List.replicate n false)⟩ : OwnD), (⟨6, 4, 1, n, bls (List.replicate n false)⟩ : OwnD)] [2, 4, 6] [.slice none 0 0] 7 8 γ L wx) (by kernel_rfl) (by kernel_rfl) (fun γ => GI.start γ (HR2.out)) ?_
  refine GhostV.walk_yes (fun b => b) (fun γ => by rfl) ?_ ?_
  · intro γ L wx h1 h2 hx K hK
    have hmb := hmb
    have H1 := Lib.hid h1
    have HK2 := Lib.hid hK
    have HX := Lib.hid hx
    have H2 := Lib.hid h2
    clear hK h1 h2 hx
    go_simp
    (exact HK2.out (.slice (some ⟨wx.heap.size, 0, none⟩) 1 1) _ (HX.out.make H1.out (by decide) (by decide) (by decide) (by simp only [List.mem_cons, List.not_mem_nil, or_false]; rintro d (rfl | rfl | rfl | rfl) h; (· exact HNZ.out wx); (· cases h); (· cases h); (· cases h)) ((Below.refl _ _).alloc (Nat.le_refl _) _)))
  try simp only [Act.put, List.setIfInBounds_toArray, List.set_cons_succ, List.set_cons_zero]
  apply GhostV.walk_const (fun γ => by rfl)
  · intro γ L wx h1 h2 hx K hK
    have hmb := hmb
    have HK2 := Lib.hid hK
    have HX := Lib.hid hx
    have H2 := Lib.hid h2
    clear hK h1 h2 hx
    go_simp
    first
      | exact HK2.out _ (HX.out.next _ (by rfl) (by decide) (by decide) (by decide) (Below.refl _ _))
  try simp only [Act.put, List.setIfInBounds_toArray, List.set_cons_succ, List.set_cons_zero]
  refine GhostV.walk_yes (fun b => b) (fun γ => by rfl) ?_ ?_
  · intro γ L wx h1 h2 hx K hK
    have hmb := hmb
    have H1 := Lib.hid h1
    have HK2 := Lib.hid hK
    have HX := Lib.hid hx
    have H2 := Lib.hid h2
    clear hK h1 h2 hx
    go_simp
    (go_at_call 35; refine (FR.out (γ 0) _ (VV.of_own (HX.out.row (⟨0, 3, 1, 1, [.int .i64 0]⟩ : OwnD) (by simp) (H2.out 0 (by kernel_rfl)))).2).mono ?_; rintro e w' ⟨v', rfl, hv, hb⟩; exact HK2.out v' _ (HX.out.make H1.out (by decide) (by decide) (by decide) (by simp only [List.mem_cons, List.not_mem_nil, or_false]; rintro d (rfl | rfl | rfl | rfl) h; (· cases h); (· exact hv); (· cases h); (· cases h)) hb))
  try simp only [Act.put, List.setIfInBounds_toArray, List.set_cons_succ, List.set_cons_zero]
  apply GhostV.walk_const (fun γ => by rfl)
  · intro γ L wx h1 h2 hx K hK
    have hmb := hmb
    have HK2 := Lib.hid hK
    have HX := Lib.hid hx
    have H2 := Lib.hid h2
    clear hK h1 h2 hx
    go_simp
    first
      | exact HK2.out _ (HX.out.next _ (by rfl) (by decide) (by decide) (by decide) (Below.refl _ _))
  try simp only [Act.put, List.setIfInBounds_toArray, List.set_cons_succ, List.set_cons_zero]
  refine GhostV.walk_yes (fun b => b) (fun γ => by rfl) ?_ ?_
  · intro γ L wx h1 h2 hx K hK
    have hmb := hmb
    have H1 := Lib.hid h1
    have HK2 := Lib.hid hK
    have HX := Lib.hid hx
    have H2 := Lib.hid h2
    clear hK h1 h2 hx
    go_simp
    (exact HK2.out (.slice (some ⟨wx.heap.size, 0, none⟩) n n) _ (HX.out.make H1.out (by decide) (by decide) (by decide) (by simp only [List.mem_cons, List.not_mem_nil, or_false]; rintro d (rfl | rfl | rfl | rfl) h; (· cases h); (· cases h); (· exact HNB.out wx); (· cases h)) ((Below.refl _ _).alloc (Nat.le_refl _) _)))
  try simp only [Act.put, List.setIfInBounds_toArray, List.set_cons_succ, List.set_cons_zero]
  apply GhostV.walk_const (fun γ => by rfl)
  · intro γ L wx h1 h2 hx K hK
    have hmb := hmb
    have HK2 := Lib.hid hK
    have HX := Lib.hid hx
    have H2 := Lib.hid h2
    clear hK h1 h2 hx
    go_simp
    first
      | exact HK2.out _ (HX.out.next _ (by rfl) (by decide) (by decide) (by decide) (Below.refl _ _))
  try simp only [Act.put, List.setIfInBounds_toArray, List.set_cons_succ, List.set_cons_zero]
  refine GhostV.walk_yes (fun b => b) (fun γ => by rfl) ?_ ?_
  · intro γ L wx h1 h2 hx K hK
    have hmb := hmb
    have H1 := Lib.hid h1
    have HK2 := Lib.hid hK
    have HX := Lib.hid hx
    have H2 := Lib.hid h2
    clear hK h1 h2 hx
    go_simp
    (exact HK2.out (.slice (some ⟨wx.heap.size, 0, none⟩) n n) _ (HX.out.make H1.out (by decide) (by decide) (by decide) (by simp only [List.mem_cons, List.not_mem_nil, or_false]; rintro d (rfl | rfl | rfl | rfl) h; (· cases h); (· cases h); (· cases h); (· exact HNB.out wx)) ((Below.refl _ _).alloc (Nat.le_refl _) _)))
  try simp only [Act.put, List.setIfInBounds_toArray, List.set_cons_succ, List.set_cons_zero]
  refine GhostV.walk_yes (fun b => b) (fun γ => by rfl) ?_ ?_
  · intro γ L wx h1 h2 hx K hK
    obtain ⟨A2, c2, e2⟩ := own_slice (hx.row (⟨2, 3, 1, n, nums (List.replicate n 0)⟩ : OwnD) (by simp) (h2 2 (by kernel_rfl)))
    obtain ⟨A4, c4, e4⟩ := own_slice (hx.row (⟨4, 4, 1, n, bls (List.replicate n false)⟩ : OwnD) (by simp) (h2 4 (by kernel_rfl)))
    obtain ⟨A6, c6, e6⟩ := own_slice (hx.row (⟨6, 4, 1, n, bls (List.replicate n false)⟩ : OwnD) (by simp) (h2 6 (by kernel_rfl)))
    have HALL : Hid (∀ i ∈ ([2, 4, 6] : List Nat), L i = true) := by
      refine Lib.hid ?_
      simp only [List.mem_cons, List.not_mem_nil, or_false]
      rintro i (rfl | rfl | rfl)
      · exact h2 2 (by kernel_rfl)
      · exact h2 4 (by kernel_rfl)
      · exact h2 6 (by kernel_rfl)
    have HST : Hid (L 8 = false) := by
      cases hs : L 8
      · exact rfl
      · have := hx.sb hs; rw [h1] at this; cases this
    have E2 := Lib.hid e2
    have E4 := Lib.hid e4
    have E6 := Lib.hid e6
    simp only [e2, e4, e6] at hK ⊢
    clear e2 e4 e6
    have HK2 := Lib.hid hK
    have HX := Lib.hid hx
    clear hK h1 h2 hx
    go_simp
    exact HK2.out (.agg #[.slice A2 (n) c2, .slice A4 (n) c4, .slice A6 (n) c6, .slice none 0 0]) _ (HX.out.build (by rfl) (by decide) (by decide) HST.out (by unfold rowOf; simp only [List.map_cons, List.map_nil, List.cons_append, List.nil_append, E2.out, E4.out, E6.out]) HALL.out)
  try simp only [Act.put, List.setIfInBounds_toArray, List.set_cons_succ, List.set_cons_zero]
  apply GhostV.walk_const (fun γ => by rfl)
  · intro γ L wx h1 h2 hx K hK
    have hL : L 7 = true := h2 7 (by kernel_rfl)
    obtain ⟨A2, c2, e2⟩ := own_slice (hx.row (⟨2, 3, 1, n, nums (List.replicate n 0)⟩ : OwnD) (by simp) ((hx.agg hL).2 2 (by decide)))
    obtain ⟨A4, c4, e4⟩ := own_slice (hx.row (⟨4, 4, 1, n, bls (List.replicate n false)⟩ : OwnD) (by simp) ((hx.agg hL).2 4 (by decide)))
    obtain ⟨A6, c6, e6⟩ := own_slice (hx.row (⟨6, 4, 1, n, bls (List.replicate n false)⟩ : OwnD) (by simp) ((hx.agg hL).2 6 (by decide)))
    have hR1 : rowOf γ [2, 4, 6] [.slice none 0 0] = #[.slice A2 (n) c2, .slice A4 (n) c4, .slice A6 (n) c6, .slice none 0 0] := by unfold rowOf; simp only [List.map_cons, List.map_nil, List.cons_append, List.nil_append, e2, e4, e6]
    exact hx.wp_store h1 hL 32 _ _ rfl rfl rfl (by rw [hR1]; kernel_rfl) (by rw [hR1]; rfl) (by rw [hR1]; kernel_rfl) (hK _ (hx.store _ (by rfl) (by decide) (by decide) (HLT.out) hL))
  try simp only [Act.put]
  refine GhostV.walk_nil (fun γ L w4 hall hx => ?_)
  have o2 := hx.row (⟨2, 3, 1, n, nums (List.replicate n 0)⟩ : OwnD) (by simp) (hall 2 (by decide))
  have o4 := hx.row (⟨4, 4, 1, n, bls (List.replicate n false)⟩ : OwnD) (by simp) (hall 4 (by decide))
  have o6 := hx.row (⟨6, 4, 1, n, bls (List.replicate n false)⟩ : OwnD) (by simp) (hall 6 (by decide))
  have hne := hx.ne (⟨4, 4, 1, n, bls (List.replicate n false)⟩ : OwnD) (by simp) (⟨6, 4, 1, n, bls (List.replicate n false)⟩ : OwnD) (by simp) (by show (4 : Nat) ≠ 6; decide) (hall 4 (by decide)) (hall 6 (by decide))
  have hbox := hx.done (hall 8 (by decide))
  have hbel := HB.out.trans (below_grown (B := w.heap.size) hx.grown (by have := HB.out.size; omega) (fun k hk => by injection hk with hk; omega))
  have hag := (hx.agg (hall 7 (by decide))).1
  unfold rowOf at hbox hag
  simp only [List.map_cons, List.map_nil, List.cons_append, List.nil_append] at hbox hag
  clear hx hall
  have HD4 := Lib.hid (HFIN.out w4 (γ 2) (γ 4) (γ 6) (own_base o2 HB.out.size) (own_base o4 HB.out.size) (own_base o6 HB.out.size) hne)
  obtain ⟨B2, b2, e2'⟩ := own_slice o2
  obtain ⟨B4, b4, e4'⟩ := own_slice o4
  obtain ⟨B6, b6, e6'⟩ := own_slice o6
  clear o2 o4 o6 hne
  simp only [Nat.zero_add, Nat.reduceAdd] at hbox hag ⊢
  rw [hag]
  rw [e2', e4', e6'] at hbox HD4 ⊢
  have HBX := Lib.hid hbox
  have HBL := Lib.hid hbel
  clear hag e2' e4' e6' hbox hbel
  go_wp2
  exact bodyPost_ret (results_cell_row Try.results11 _ _ _ _ _ (0, 0) _ rfl (HBX.out) Try.underlying32 rfl (by kernel_rfl)) rfl (⟨_, _, _, _, rfl, HD4.out, HBL.out⟩)
end
end Go.Proofs.Ytifbkoaggjikpaa
