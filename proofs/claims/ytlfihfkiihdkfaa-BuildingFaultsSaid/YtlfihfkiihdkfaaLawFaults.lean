/- The law BuildingFaults: the first error of buildings that are valid but for one or two numbers is the reference's. No condition. -/
import Derived.Test.YtlfihfkiihdkfaaFaultSwAll
import Derived.Deep.CutBlock
import Derived.Test.YtlfihfkiihdkfaaRefHall
import Derived.Test.YtlfihfkiihdkfaaRefBound
import Derived.Test.YtlfihfkiihdkfaaBound
import Derived.Test.YtlfihfkiihdkfaaSane
import Derived.Test.YtlfihfkiihdkfaaRefValid
import Derived.Test.YtlfihfkiihdkfaaOpen
import Derived.Test.YtlfihfkiihdkfaaBox
namespace Go.Proofs.Ytlfihfkiihdkfaa
open Go.RowKit Go.ChangeShapes Go.WideShapes Go.ChangeAt

theorem fs_new {w w1 : World} {y0 y1 F : Int} {n g cap : Nat} (hown : w1.ownsRow ((w.alloc (.cells #[.int .u8 y0, .int .u8 y1] 30)).heap.size + 2) 34 9 (.slice (some ⟨g, 0, none⟩) n cap) n (flatCars (sampleCars F n)))
    (hb : Below (w.alloc (.cells #[.int .u8 y0, .int .u8 y1] 30)).heap.size (w.alloc (.cells #[.int .u8 y0, .int .u8 y1] 30)) w1) (hn : 1 ≤ n) :
    FS w w1.heap.size y0 y1 (w1.alloc (.cells #[.int .i64 F, .int .i64 1, .int .i64 4000, .int .i64 30, .float .f64 4591870180066957722, .float .f64 4605380978949069210, .float .f64 4607632778762754458, .slice (some ⟨g, 0, none⟩) n cap] 25)) (sampleD F n) g n cap := by
  have hsz := hb.size
  simp at hsz
  have hl := hown.lt g rfl
  refine ⟨?_, ?_, ?_, sampleCars_length F n, by omega, by omega, ?_, hn⟩
  · rw [Below.heap_alloc _ _ _ (by omega), hb.block _ (by simp)]
    exact heap_alloc_new _ _
  · exact heap_alloc_new _ _
  · have := hown.alloc (.cells #[.int .i64 F, .int .i64 1, .int .i64 4000, .int .i64 30, .float .f64 4591870180066957722, .float .f64 4605380978949069210, .float .f64 4607632778762754458, .slice (some ⟨g, 0, none⟩) n cap] 25)
    refine ⟨this.1, ?_⟩
    rcases this.2 with h | ⟨g', c', cur, h1, h2, h3⟩
    · exact .inl h
    · exact .inr ⟨g', c', cur, h1, by simp at h2; omega, h3⟩
  · exact ((((Below.refl _ _).alloc (Nat.le_refl _) _).trans (hb.mono (by simp)))).alloc (by omega) _

set_option maxRecDepth 100000 in
set_option maxHeartbeats 20000000 in
theorem lawFaults_walk (a c y0 y1 : Int) (w : World) (ha : 0 ≤ a ∧ a ≤ 255) (hcc : 0 ≤ c ∧ c ≤ 255) (h0 : 0 ≤ y0 ∧ y0 ≤ 255) (h1 : 0 ≤ y1 ∧ y1 ≤ 255) :
    Calls Try.prog 4 #[.int .u8 a, .int .u8 c, .agg #[.int .u8 y0, .int .u8 y1]] w fun e w' => e = .returned (.bool true) ∧ Below w.heap.size w w' := by
  obtain ⟨ha1, ha2⟩ := ha
  obtain ⟨hc1, hc2⟩ := hcc
  obtain ⟨h01, h02⟩ := h0
  obtain ⟨h11, h12⟩ := h1
  go_enter Try.func4, Try.ntmps4
  go_wp2_with fail
  obtain ⟨F, hF, hF1, hF2⟩ : ∃ F, a % 31 + 2 = F ∧ 2 ≤ F ∧ F ≤ 32 := ⟨_, rfl, by omega, by omega⟩
  obtain ⟨n, hN, hn1, hn2⟩ : ∃ n : Nat, c % 8 + 1 = (n : Int) ∧ 1 ≤ n ∧ n ≤ 8 := ⟨(c % 8 + 1).toNat, by omega, by omega, by omega⟩
  rw [hF, hN]
  clear hF hN
  refine (sample_own F n _ (by omega) (by omega) (by omega)).mono ?_
  rintro e w1 ⟨A, cap, rfl, hown, hb1⟩
  obtain ⟨g, cap', hA, hg1, hg2⟩ := hown.form (by omega)
  obtain ⟨rfl, rfl⟩ : A = some ⟨g, 0, none⟩ ∧ cap = cap' := by injection hA with e1 _ e2; exact ⟨e1, e2⟩
  clear hA
  simp only [BldD.agg, sampleD, sampleCars_length]
  have HS := Lib.hid (fs_new hown hb1 hn1)
  have hgx : w.heap.size + 1 ≤ w1.heap.size := by have := hb1.size; simp at this; exact this
  clear hown hb1 hg1 hg2
  go_wp2_with fail
  go_loopw [8] (fun v wr => ∃ k : Nat, k ≤ 2 ∧ v = .int .i64 k ∧ FRel w w1.heap.size y0 y1 k wr) (fun v _ => 2 - (intOf v).toNat)
  case atStart => exact ⟨0, by omega, rfl, _, _, _, _, HS.out, by omega⟩
  case round =>
    clear HS
    obtain ⟨k, hk, rfl, b, g, n, cap, hs, hn8⟩ := hrel
    by_cases hk2 : k < 2
    · obtain ⟨k', y, z, hkk, hy1, hy2, hz1, hz2⟩ : ∃ (k' : Nat) (y z : Int), ((k = 0 ∧ k' = 1 ∧ y = y0 ∧ z = y1) ∨ (k = 1 ∧ k' = 0 ∧ y = y1 ∧ z = y0)) ∧ 0 ≤ y ∧ y ≤ 255 ∧ 0 ≤ z ∧ z ≤ 255 := by
        have : k = 0 ∨ k = 1 := by omega
        rcases this with rfl | rfl
        · exact ⟨1, y0, y1, .inl ⟨rfl, rfl, rfl, rfl⟩, by omega, by omega, by omega, by omega⟩
        · exact ⟨0, y1, y0, .inr ⟨rfl, rfl, rfl, rfl⟩, by omega, by omega, by omega, by omega⟩
      have hkp : (1 : Int) - (k : Int) = (k' : Int) := by omega
      have hk'2 : (k' : Int) < 2 := by omega
      have hk1 : (k : Int) < 2 := by omega
      have hn1 := hs.n1
      obtain ⟨i, hi1, hi2, hin⟩ : ∃ i : Nat, z % (n : Int) = (i : Int) ∧ z.tmod (n : Int) = (i : Int) ∧ i < n := by
        have e1 := Int.emod_nonneg z (by omega : (n : Int) ≠ 0)
        have e2 := Int.emod_lt_of_pos z (by omega : (0 : Int) < n)
        refine ⟨(z % (n : Int)).toNat, by omega, ?_, by omega⟩
        rw [Int.tmod_eq_emod_of_nonneg hz1]; omega
      have hn0 : ¬ (n : Int) = 0 := by omega
      have hn0b : ¬ n = 0 := by omega
      have hwi : IntKind.i64.wrap (i : Int) = (i : Int) := IntWalk.i64_in _ (by omega)
      have hin' : (i : Int) < (n : Int) := by omega
      have hwz : IntKind.i64.wrap z = z := IntWalk.i64_in _ (by omega)
      have hwk : IntKind.i64.wrap (k' : Int) = (k' : Int) := IntWalk.i64_in _ (by omega)
      have HKK := Lib.hid hkk
      have HSX := Lib.hid hs
      clear hkk hs
      go_wp2_with fail
      refine Bag.region (fun wx => FS w w1.heap.size y0 y1 wx b g n cap) (by kernel_rfl) (by kernel_rfl) HSX.out.drew ?_
      iterate 13 (first
          | (apply Bag.walk_yes (by rfl)
             (intro wx hx K hK
              obtain ⟨c0, c1, c2, c3, c4, c5, c6, c7⟩ := hx.cells
              obtain ⟨q0, q1⟩ := hx.xk HKK.out
              go_simp
              go_at_K; exact hK _ hx)
             rfl)
          | (refine Bag.walk_no (by rfl) ?_; simp only [Act.put, List.setIfInBounds_toArray, List.set_cons_succ, List.set_cons_zero]))
      refine Bag.walk_nil (fun W hx => ?_)
      clear HSX hi1 hi2 hwz hwi
      have HX := Lib.hid hx
      obtain ⟨c0, c1, c2, c3, c4, c5, c6, c7⟩ := hx.cells
      obtain ⟨q0, q1⟩ := hx.xk HKK.out
      clear hx
      go_upto_block 2 with fail
      refine sw_block (R0 := fun e w' => e = .returned (.bool true) ∧ Below w.heap.size w w') HX.out HKK.out hz1 hz2 hin hn8 ?_ ?_
      · intro e a w' he q
        cases e
        case normal => exact absurd rfl he
        all_goals first | exact q | exact q.elim
      · clear c0 c1 c2 c3 c4 c5 c6 c7 q0 q1 HX
        intro u39 u40 u41 u42 u43 u44 u45 u46 u47 u48 u49 u50 u51 u52 u53 u54 u55 u56 u57 u58 u59 u60 u61 u62 u63 u64 u65 u66 u67 u68 u69 u70 u71 u72 u73 u74 u75 u76 u77 u78 u79 u80 u81 u82 u83 u84 u85 u86 u87 u88 u89 u90 u91 u92 u93 u94 u95 u96 u97 u98 u99 u100 u101 u102 u103 u104 u105 u106 u107 u108 u109 u110 u111 u112 u113 u114 u115 u116 u117 u118 u119 u120 u121 u122 u123 u124 u125 u126 u127 u128 u129 u130 u131 u132 u133 u134 u135 u136 u137 u138 u139 u140 u141 u142 u143 u144 u145 u146 u147 u148 u149 u150 u151 u152 u153 u154 u155 u156 u157 u158 u159 u160 u161 u162 u163 u164 u165 u166 u167 u168 u169 u170 u171 u172 u173 u174 u175 u176 u177 u178 u179 u180 u181 u182 u183 u184 u185 u186 u187 u188 u189 u190 u191 u192 u193 u194 u195 u196 u197 u198 u199 u200 u201 u202 u203 u204 u205 u206 u207 u208 u209 u210 u211 u212 u213 u214 u215 u216 u217 u218 u219 u220 u221 u222 u223 u224 u225 u226 u227 W' hrel
        go_wp2_with fail
        go_roundw
        case rel => exact ⟨k + 1, by omega, by go_num, hrel⟩
        case measure => simp [intOf]; omega
    · obtain rfl : k = 2 := by omega
      obtain ⟨f, d, r, p, e1, e2, e3, cs⟩ := b
      obtain rfl : cs.length = n := hs.len
      have hcl : cs.length ≤ 140737488355328 := by omega
      go_wp2_with fail
      obtain ⟨V, h1⟩ : ∃ I, I = validE ⟨f, d, r, p, e1, e2, e3, cs⟩ := ⟨_, rfl⟩
      obtain ⟨B, h2⟩ : ∃ I, I = boundF ⟨f, d, r, p, e1, e2, e3, cs⟩ := ⟨_, rfl⟩
      obtain ⟨U1, h3⟩ : ∃ I, I = hallUp ⟨f, d, r, p, e1, e2, e3, cs⟩ := ⟨_, rfl⟩
      obtain ⟨D1, h4⟩ : ∃ I, I = hallDown ⟨f, d, r, p, e1, e2, e3, cs⟩ := ⟨_, rfl⟩
      have F1 := Lib.hid (fun (wx : World) (hx : FS w w1.heap.size y0 y1 wx ⟨f, d, r, p, e1, e2, e3, cs⟩ g cs.length cap) => valid_any ⟨f, d, r, p, e1, e2, e3, cs⟩ (some ⟨g, 0, none⟩) cap wx hcl hx.carsAt)
      have F2 := Lib.hid (fun (wx : World) (hx : FS w w1.heap.size y0 y1 wx ⟨f, d, r, p, e1, e2, e3, cs⟩ g cs.length cap) => refValid_any ⟨f, d, r, p, e1, e2, e3, cs⟩ (some ⟨g, 0, none⟩) cap wx hcl hx.carsAt)
      have F3 := Lib.hid (fun (wx : World) (hx : FS w w1.heap.size y0 y1 wx ⟨f, d, r, p, e1, e2, e3, cs⟩ g cs.length cap) => hall_any ⟨f, d, r, p, e1, e2, e3, cs⟩ (some ⟨g, 0, none⟩) cap wx hcl hx.carsAt)
      have F4 := Lib.hid (fun (wx : World) (hx : FS w w1.heap.size y0 y1 wx ⟨f, d, r, p, e1, e2, e3, cs⟩ g cs.length cap) => refHall_any ⟨f, d, r, p, e1, e2, e3, cs⟩ (some ⟨g, 0, none⟩) cap wx hcl hx.carsAt)
      have F5 := Lib.hid (fun (wx : World) (hx : FS w w1.heap.size y0 y1 wx ⟨f, d, r, p, e1, e2, e3, cs⟩ g cs.length cap) => bound_any ⟨f, d, r, p, e1, e2, e3, cs⟩ (some ⟨g, 0, none⟩) cap wx hcl hx.carsAt)
      have F6 := Lib.hid (fun (wx : World) (hx : FS w w1.heap.size y0 y1 wx ⟨f, d, r, p, e1, e2, e3, cs⟩ g cs.length cap) => refBound_any ⟨f, d, r, p, e1, e2, e3, cs⟩ (some ⟨g, 0, none⟩) cap wx hcl hx.carsAt)
      simp only [BldD.agg, ← h1] at F1 F2
      simp only [BldD.agg, callsV, ← h3, ← h4] at F3 F4
      simp only [BldD.agg, ← h2] at F5 F6
      clear h1 h2 h3 h4
      refine Bag.region (fun wx => FS w w1.heap.size y0 y1 wx ⟨f, d, r, p, e1, e2, e3, cs⟩ g cs.length cap) (by kernel_rfl) (by kernel_rfl) hs.drew ?_
      clear hs
      iterate 23 (first
          | (apply Bag.walk_yes (by rfl)
             (intro wx hx K hK
              obtain ⟨c0, c1, c2, c3, c4, c5, c6, c7⟩ := hx.cells
              go_simp
              first
                | (go_at_call 8; (with_reducible refine (F1.out _ hx).mono ?_); rintro e x1 ⟨rfl, hy⟩; exact hK _ (hx.grow hy))
                | (go_at_call 9; (with_reducible refine (F2.out _ hx).mono ?_); rintro e x1 ⟨rfl, hy⟩; exact hK _ (hx.grow hy))
                | (go_at_call 15; (with_reducible refine (F3.out _ hx).mono ?_); rintro e x1 ⟨rfl, hy⟩; exact hK _ (hx.grow hy))
                | (go_at_call 16; (with_reducible refine (F4.out _ hx).mono ?_); rintro e x1 ⟨rfl, hy⟩; exact hK _ (hx.grow hy))
                | (go_at_call 17; (with_reducible refine (F5.out _ hx).mono ?_); rintro e x1 ⟨rfl, hy⟩; exact hK _ (hx.grow hy))
                | (go_at_call 18; (with_reducible refine (F6.out _ hx).mono ?_); rintro e x1 ⟨rfl, hy⟩; exact hK _ (hx.grow hy))
                | (go_at_call 10; refine (sane_any _).mono ?_; rintro e x1 ⟨rfl, hy⟩; exact hK _ (hx.grow hy))
                | (go_at_K; exact hK _ hx))
             rfl)
          | (refine Bag.walk_no (by rfl) ?_; simp only [Act.put, List.setIfInBounds_toArray, List.set_cons_succ, List.set_cons_zero]))
      refine Bag.walk_nil (fun W hx => ?_)
      go_wp2_with fail
      go_ret
      exact ⟨rfl, hx.below⟩
end Go.Proofs.Ytlfihfkiihdkfaa
