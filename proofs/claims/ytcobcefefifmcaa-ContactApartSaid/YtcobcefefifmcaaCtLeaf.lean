/- The contacts one by one: Get and Set of contact and of the reference. No statement of the seat is proved here. -/
import Derived.Test.YtcobcefefifmcaaMem
import Derived.Test.YtcobcefefifmcaaCtMath
import Derived.Test.YtcobcefefifmcaaBag
namespace Go.Proofs.Ytcobcefefifmcaa
open Go.RowKit

def Ct.agg (c : Ct) : Value := .agg #[.int .u32 c.fl, .bool c.up, .bool c.dn, .bool c.opn, .bool c.cls]
theorem ret_ct {c d : Ct} (h : c = d) : Ending.returned c.agg = .returned d.agg := by rw [h]
theorem ret_u32 {a b : Int} (h : a = b) : Ending.returned (.int .u32 a) = .returned (.int .u32 b) := by rw [h]

theorem two_pow_mod {k : Nat} (h : k < 32) : (2 : Int) ^ k % 4294967296 = ((2 ^ ((k : Int)).toNat : Nat) : Int) := by
  have := Ct.bit_lt h
  have e : (2 : Int) ^ k = ((2 ^ k : Nat) : Int) := by rw [Int.natCast_pow]; rfl
  rw [Int.toNat_natCast, e]
  generalize 2 ^ k = x at *
  omega
theorem i_nat {i : Int} (h : 0 ≤ i) : ∃ k : Nat, i = (k : Int) := ⟨i.toNat, by omega⟩

theorem floorBit_any (i : Int) (w : World) :
    Calls Try.prog 21 #[.int .i64 i] w fun e w' => e = .returned (.int .u32 (if 0 ≤ i ∧ i < 32 then ((2 ^ i.toNat : Nat) : Int) else 0)) ∧ w = w' := by
  by_cases h0 : i < 0
  · rw [if_neg (by omega)]
    go_enter Try.func21, Try.ntmps21
    go_wp2
    go_ret
    exact ⟨rfl, rfl⟩
  · by_cases h1 : i < 32
    · rw [if_pos (by omega)]
      obtain ⟨k, rfl⟩ := i_nat (by omega : 0 ≤ i)
      have hk : k < 32 := by omega
      go_enter Try.func21, Try.ntmps21
      go_wp2
      go_ret
      exact ⟨ret_u32 (two_pow_mod hk), rfl⟩
    · rw [if_neg (by omega)]
      go_enter Try.func21, Try.ntmps21
      go_wp2
      go_ret
      exact ⟨rfl, rfl⟩
theorem setBit_any (a b : Nat) (on : Bool) (w : World) (ha : a < 4294967296) (hb : b < 4294967296) :
    Calls Try.prog 22 #[.int .u32 a, .int .u32 b, .bool on] w fun e w' => e = .returned (.int .u32 ((if on then a ||| b else a &&& (4294967295 - b) : Nat) : Int)) ∧ w = w' := by
  cases on
  · go_enter Try.func22, Try.ntmps22
    go_wp2
    go_ret
    exact ⟨ret_u32 (u32_andNot_nat _ _ ha hb), rfl⟩
  · go_enter Try.func22, Try.ntmps22
    go_wp2
    go_ret
    exact ⟨ret_u32 (u32_or_nat _ _ ha hb), rfl⟩

/-- What holds of the box of contacts, and its cells. -/
theorem boxCt {w wx : World} {c : Ct} (h : Below (w.heap.size + 1) (w.alloc (.cells #[.int .u32 c.fl, .bool c.up, .bool c.dn, .bool c.opn, .bool c.cls] 24)) wx) :
    wx.cell? ⟨w.heap.size, 0, none⟩ = some (.int .u32 c.fl) ∧ wx.cell? ⟨w.heap.size, 1, none⟩ = some (.bool c.up) ∧ wx.cell? ⟨w.heap.size, 2, none⟩ = some (.bool c.dn) ∧ wx.cell? ⟨w.heap.size, 3, none⟩ = some (.bool c.opn) ∧ wx.cell? ⟨w.heap.size, 4, none⟩ = some (.bool c.cls) :=
  ⟨cell_new_below h 0, cell_new_below h 1, cell_new_below h 2, cell_new_below h 3, cell_new_below h 4⟩

theorem get_flB (c : Ct) (i : Int) (hc : c.ok) (h : i ≠ 32 ∧ i ≠ 33 ∧ i ≠ 34 ∧ i ≠ 35) :
    (!(bits .and .u32 (c.fl : Int) (if 0 ≤ i ∧ i < 32 then ((2 ^ i.toNat : Nat) : Int) else 0) == 0)) = c.getI i := by
  by_cases h0 : 0 ≤ i ∧ i < 32
  · rw [if_pos h0]
    obtain ⟨k, rfl⟩ := i_nat h0.1
    have hk : k < 32 := by omega
    rw [Int.toNat_natCast, u32_and_nat _ _ hc (Ct.bit_lt hk), Ct.and_bit c hk, Ct.getI_nat]
    unfold Ct.get
    rw [if_pos hk]
    have hp := Nat.two_pow_pos k
    cases c.fl.testBit k
    · rfl
    · rw [if_pos rfl]
      have : ¬ (((2 ^ k : Nat) : Int) = 0) := by omega
      rw [beq_eq_false_iff_ne.2 this]; rfl
  · rw [if_neg h0]
    have e : bits .and .u32 (c.fl : Int) 0 = 0 := by
      have := u32_and_nat c.fl 0 hc (by decide)
      rw [Nat.and_zero] at this
      exact this
    rw [e]
    unfold Ct.getI
    by_cases h1 : 0 ≤ i
    · rw [if_pos h1, Ct.get_out c (by omega)]; rfl
    · rw [if_neg h1]; rfl

set_option maxHeartbeats 1000000 in
theorem get_any (c : Ct) (i : Int) (w : World) (hc : c.ok) :
    Calls Try.prog 9 #[c.agg, .int .i64 i] w fun e w' => e = .returned (.bool (c.getI i)) ∧ Below w.heap.size w w' := by
  have hF := get_flB c i hc
  have HF := Lib.hid hF
  clear hF
  have hbx := fun (wx : World) (h : Below (w.heap.size + 1) (w.alloc (.cells #[.int .u32 c.fl, .bool c.up, .bool c.dn, .bool c.opn, .bool c.cls] 24)) wx) => boxCt h
  have HBX := Lib.hid hbx
  clear hbx
  obtain ⟨f, u, d, o, x⟩ := c
  simp only [Ct.agg]
  by_cases h : i = 32 ∨ i = 33 ∨ i = 34 ∨ i = 35
  · clear HF HBX
    rcases h with rfl | rfl | rfl | rfl
    all_goals
      go_enter Try.func9, Try.ntmps9
      go_wp2
      go_ret
      exact ⟨rfl, by go_grown⟩
  · have h32 : (i == 32) = false := beq_eq_false_iff_ne.2 (by omega)
    have h33 : (i == 33) = false := beq_eq_false_iff_ne.2 (by omega)
    have h34 : (i == 34) = false := beq_eq_false_iff_ne.2 (by omega)
    have h35 : (i == 35) = false := beq_eq_false_iff_ne.2 (by omega)
    have hB := HF.out (by omega)
    have HB := Lib.hid hB
    have FB := Lib.hid (fun w => floorBit_any i w)
    generalize (if 0 ≤ i ∧ i < 32 then ((2 ^ i.toNat : Nat) : Int) else 0) = b at *
    clear HF hB
    go_enter Try.func9, Try.ntmps9
    go_wp2_with fail
    refine Bag.region (fun wx => Below (w.heap.size + 1) (w.alloc (.cells #[.int .u32 f, .bool u, .bool d, .bool o, .bool x] 24)) wx) (by kernel_rfl) (by kernel_rfl) (Below.refl _ _).drew ?_
    iterate 7 (first
        | (apply Bag.walk_yes (by rfl)
           (intro wx hx K hK
            obtain ⟨c0, -⟩ := HBX.out _ hx
            go_simp
            first
              | (go_at_call 21; refine (FB.out _).mono ?_; rintro e x1 ⟨rfl, rfl⟩; exact hK _ hx)
              | (go_at_K; exact hK _ hx))
           rfl)
        | (refine Bag.walk_no (by rfl) ?_; simp only [Act.put, List.setIfInBounds_toArray, List.set_cons_succ, List.set_cons_zero]))
    refine Bag.walk_nil (fun w1 hB => ?_)
    go_wp2
    go_ret
    exact ⟨ret_bool HB.out, below_of_new hB⟩
theorem refGet_bit (c : Ct) (hc : c.ok) {k : Nat} (hk : k < 32) : (bits .and .u32 ((c.fl : Int) / 2 ^ k) 1 == 1) = c.get k := by
  have e : (c.fl : Int) / 2 ^ k = ((c.fl / 2 ^ k : Nat) : Int) := by rw [Int.natCast_ediv, Int.natCast_pow]; rfl
  have hl : c.fl / 2 ^ k < 4294967296 := Nat.lt_of_le_of_lt (Nat.div_le_self _ _) hc
  have h1 := u32_and_nat (c.fl / 2 ^ k) 1 hl (by decide)
  rw [e]
  rw [Nat.and_one_is_mod] at h1
  rw [show ((1 : Nat) : Int) = 1 from rfl] at h1
  rw [h1]
  unfold Ct.get
  rw [if_pos hk, Nat.testBit_eq_decide_div_mod_eq]
  by_cases h : c.fl / 2 ^ k % 2 = 1
  · rw [h]; rfl
  · rw [decide_eq_false h]
    exact beq_eq_false_iff_ne.2 (by omega)
set_option maxHeartbeats 1000000 in
theorem refGet_any (c : Ct) (i : Int) (w : World) (hc : c.ok) :
    Calls Try.prog 10 #[c.agg, .int .i64 i] w fun e w' => e = .returned (.bool (c.getI i)) ∧ Below w.heap.size w w' := by
  have hO : i < 0 ∨ 35 < i → c.getI i = false := fun h => by
    unfold Ct.getI
    by_cases h0 : 0 ≤ i
    · rw [if_pos h0, Ct.get_out c (by omega)]
    · rw [if_neg h0]
  have HO := Lib.hid hO
  have hF := fun (k : Nat) (hk : k < 32) => refGet_bit c hc hk
  have HF := Lib.hid hF
  clear hO hF
  obtain ⟨f, u, d, o, x⟩ := c
  simp only [Ct.agg]
  by_cases h0 : i < 0
  · go_enter Try.func10, Try.ntmps10
    go_wp2
    go_ret
    exact ⟨ret_bool (HO.out (by omega)).symm, by go_grown⟩
  · by_cases h1 : 35 < i
    · go_enter Try.func10, Try.ntmps10
      go_wp2
      go_ret
      exact ⟨ret_bool (HO.out (by omega)).symm, by go_grown⟩
    · by_cases h2 : i < 32
      · obtain ⟨k, rfl⟩ := i_nat (by omega : 0 ≤ i)
        have hk : k < 32 := by omega
        go_enter Try.func10, Try.ntmps10
        go_wp2
        go_ret
        exact ⟨ret_bool ((HF.out k hk).trans (Ct.getI_nat _ k).symm), by go_grown⟩
      · have h : i = 32 ∨ i = 33 ∨ i = 34 ∨ i = 35 := by omega
        rcases h with rfl | rfl | rfl | rfl
        all_goals
          go_enter Try.func10, Try.ntmps10
          go_wp2
          go_ret
          exact ⟨rfl, by go_grown⟩
theorem setI_fl (c : Ct) (i : Int) (on : Bool) (h : i ≠ 32 ∧ i ≠ 33 ∧ i ≠ 34 ∧ i ≠ 35) :
    c.setI i on = { c with fl := if on then c.fl ||| (if 0 ≤ i ∧ i < 32 then 2 ^ i.toNat else 0) else c.fl &&& (4294967295 - (if 0 ≤ i ∧ i < 32 then 2 ^ i.toNat else 0)) } ∨ ¬ c.ok := by
  by_cases hc : c.ok
  · refine .inl ?_
    by_cases h0 : 0 ≤ i ∧ i < 32
    · rw [if_pos h0]
      unfold Ct.setI Ct.set
      rw [if_pos h0.1, if_pos (by omega)]
    · rw [if_neg h0, Nat.or_zero]
      have e : c.fl &&& (4294967295 - 0) = c.fl := by
        have h1 := Nat.and_two_pow_sub_one_eq_mod c.fl 32
        rw [Nat.mod_eq_of_lt hc] at h1
        exact h1
      rw [e, ite_self]
      unfold Ct.setI
      by_cases h1 : 0 ≤ i
      · rw [if_pos h1, Ct.set_out c (by omega)]
      · rw [if_neg h1]
  · exact .inr hc

set_option maxHeartbeats 1000000 in
theorem set_any (c : Ct) (i : Int) (on : Bool) (w : World) (hc : c.ok) :
    Calls Try.prog 11 #[c.agg, .int .i64 i, .bool on] w fun e w' => e = .returned (c.setI i on).agg ∧ Below w.heap.size w w' := by
  by_cases h : i = 32 ∨ i = 33 ∨ i = 34 ∨ i = 35
  · obtain ⟨f, u, d, o, x⟩ := c
    obtain ⟨V, hV⟩ : ∃ V, V = (Ct.setI ⟨f, u, d, o, x⟩ i on).agg := ⟨_, rfl⟩
    rw [← hV]
    have HV := Lib.hid hV
    clear hV hc
    simp only [Ct.agg]
    rcases h with rfl | rfl | rfl | rfl
    all_goals
      go_enter Try.func11, Try.ntmps11
      go_wp2
      refine bodyPost_ret (by simp [results, Try.results11, go_sem]; rfl) rfl ⟨by rw [HV.out]; rfl, by go_grown⟩
  · have hS := (setI_fl c i on (by omega)).resolve_right (fun h => h hc)
    have h32 : (i == 32) = false := beq_eq_false_iff_ne.2 (by omega)
    have h33 : (i == 33) = false := beq_eq_false_iff_ne.2 (by omega)
    have h34 : (i == 34) = false := beq_eq_false_iff_ne.2 (by omega)
    have h35 : (i == 35) = false := beq_eq_false_iff_ne.2 (by omega)
    have hb : (if 0 ≤ i ∧ i < 32 then ((2 ^ i.toNat : Nat) : Int) else 0) = ((if 0 ≤ i ∧ i < 32 then 2 ^ i.toNat else 0 : Nat) : Int) := by split <;> rfl
    have hbl : (if 0 ≤ i ∧ i < 32 then 2 ^ i.toNat else 0) < 4294967296 := by
      split
      · exact Ct.bit_lt (by omega)
      · decide
    have FB := Lib.hid (fun w => floorBit_any i w)
    rw [hb] at FB
    generalize (if 0 ≤ i ∧ i < 32 then 2 ^ i.toNat else 0) = b at *
    have FS := Lib.hid (fun w => setBit_any c.fl b on w hc hbl)
    obtain ⟨f, u, d, o, x⟩ := c
    obtain ⟨V, hV⟩ : ∃ V, V = (Ct.setI ⟨f, u, d, o, x⟩ i on).agg := ⟨_, rfl⟩
    rw [← hV]
    rw [hS] at hV
    simp only [Ct.agg] at hV FS ⊢
    generalize (if on then f ||| b else f &&& (4294967295 - b)) = f' at *
    have HV := Lib.hid hV
    clear hV hc hS hb hbl
    go_enter Try.func11, Try.ntmps11
    go_wp2_with fail
    go_region_with (first | (go_at_call 21; refine (FB.out _).mono ?_; rintro e x1 ⟨rfl, rfl⟩) | (go_at_call 22; refine (FS.out _).mono ?_; rintro e x1 ⟨rfl, rfl⟩))
    all_goals
      go_wp2
      refine bodyPost_ret (by simp [results, Try.results11, go_sem]; rfl) rfl ⟨by rw [HV.out], by go_grown⟩

theorem refSet_bit (c : Ct) (hc : c.ok) {k : Nat} (hk : k < 32) (on : Bool) : (c.setI (k : Int) on).agg = .agg #[.int .u32 (if on then bits .or .u32 c.fl (2 ^ k % 4294967296) else bits .andNot .u32 c.fl (2 ^ k % 4294967296)), .bool c.up, .bool c.dn, .bool c.opn, .bool c.cls] := by
  have h2 := two_pow_mod hk
  rw [Int.toNat_natCast] at h2
  rw [h2, u32_or_nat _ _ hc (Ct.bit_lt hk), u32_andNot_nat _ _ hc (Ct.bit_lt hk), Ct.setI_nat]
  unfold Ct.set
  rw [if_pos hk]
  cases on <;> rfl
theorem setI_out (c : Ct) {i : Int} (h : i < 0 ∨ 35 < i) (on : Bool) : c.setI i on = c := by
  unfold Ct.setI
  by_cases h0 : 0 ≤ i
  · rw [if_pos h0, Ct.set_out c (by omega)]
  · rw [if_neg h0]

set_option maxHeartbeats 2000000 in
theorem refSet_any (c : Ct) (i : Int) (on : Bool) (w : World) (hc : c.ok) :
    Calls Try.prog 12 #[c.agg, .int .i64 i, .bool on] w fun e w' => e = .returned (c.setI i on).agg ∧ Below w.heap.size w w' := by
  have hO := fun (h : i < 0 ∨ 35 < i) => setI_out c h on
  have hB := fun (k : Nat) (hk : k < 32) => refSet_bit c hc hk on
  obtain ⟨f, u, d, o, x⟩ := c
  obtain ⟨V, hV⟩ : ∃ V, V = (Ct.setI ⟨f, u, d, o, x⟩ i on).agg := ⟨_, rfl⟩
  rw [← hV]
  have HV := Lib.hid hV
  have HO := Lib.hid hO
  have HB := Lib.hid hB
  clear hV hO hB hc
  simp only [Ct.agg]
  by_cases h : i < 0 ∨ 35 < i
  · have h32 : (i == 32) = false := beq_eq_false_iff_ne.2 (by omega)
    have h33 : (i == 33) = false := beq_eq_false_iff_ne.2 (by omega)
    have h34 : (i == 34) = false := beq_eq_false_iff_ne.2 (by omega)
    have h35 : (i == 35) = false := beq_eq_false_iff_ne.2 (by omega)
    have hv := HV.out.trans (congrArg Ct.agg (HO.out h))
    have HW := Lib.hid hv
    clear hv
    rcases h with h | h
    all_goals
      go_enter Try.func12, Try.ntmps12
      go_wp2
      refine bodyPost_ret (by simp [results, Try.results12, go_sem]; rfl) rfl ⟨by rw [HW.out]; rfl, by go_grown⟩
  · by_cases h2 : i < 32
    · obtain ⟨k, rfl⟩ := i_nat (by omega : 0 ≤ i)
      have hk : k < 32 := by omega
      have hv := HV.out.trans (HB.out k hk)
      have HW := Lib.hid hv
      clear hv
      cases on
      all_goals
        go_enter Try.func12, Try.ntmps12
        go_wp2
        refine bodyPost_ret (by simp [results, Try.results12, go_sem]; rfl) rfl ⟨by rw [HW.out]; rfl, by go_grown⟩
    · have h : i = 32 ∨ i = 33 ∨ i = 34 ∨ i = 35 := by omega
      rcases h with rfl | rfl | rfl | rfl
      all_goals
        go_enter Try.func12, Try.ntmps12
        go_wp2
        refine bodyPost_ret (by simp [results, Try.results12, go_sem]; rfl) rfl ⟨by rw [HV.out]; rfl, by go_grown⟩

def tupDeb (p : Bool × Int) : Value := .tuple #[.bool p.1, .int .i64 p.2]
theorem debounce_any (n : Int) (b : Bool) (k : Int) (r : Bool) (w : World) (hk : 0 ≤ k ∧ k ≤ 100) :
    Calls Try.prog 23 #[.int .i64 n, .bool b, .int .i64 k, .bool r] w fun e w' => e = .returned (tupDeb (deb n b k r)) ∧ w = w' := by
  by_cases h : r = b
  · subst h
    have e : deb n r k r = (r, 0) := by unfold deb; rw [if_pos rfl]
    rw [e]
    have hq : (r == r) = true := beq_self_eq_true r
    go_enter Try.func23, Try.ntmps23
    go_wp2
    go_ret2
    exact ⟨rfl, rfl⟩
  · have hq : (r == b) = false := beq_eq_false_iff_ne.2 h
    by_cases h2 : k + 1 = n
    · have e : deb n b k r = (r, 0) := by unfold deb; rw [if_neg h, if_pos h2]
      rw [e]
      subst h2
      go_enter Try.func23, Try.ntmps23
      go_wp2
      go_ret2
      exact ⟨rfl, rfl⟩
    · have e : deb n b k r = (b, k + 1) := by unfold deb; rw [if_neg h, if_neg h2]
      rw [e]
      have hq2 : (k + 1 == n) = false := beq_eq_false_iff_ne.2 h2
      go_enter Try.func23, Try.ntmps23
      go_wp2
      go_ret2
      exact ⟨rfl, rfl⟩
end Go.Proofs.Ytcobcefefifmcaa
