/- The reference's ReadOut of any text. No statement of the seat is proved here. -/
import Derived.Test.YthbfpdkgbkpmiaaFrRdOutM
import Derived.Test.YthbfpdkgbkpmiaaFrRdIn
namespace Go.Proofs.Ythbfpdkgbkpmiaa
open Go.RowKit Frm

theorem own_cosV {w : World} {base n cap : Nat} {A : Option Addr} {e : TypeId} {cs : List CarOut} (h : w.ownsRow base e 9 (.slice A n cap) n (flatOu cs)) : CosV w A cs := by
  rcases Nat.eq_zero_or_pos n with h0 | h0
  · left
    have := h.1
    rw [flatOu_length] at this
    exact List.eq_nil_of_length_eq_zero (by omega)
  · obtain ⟨g, c, hv, -, -⟩ := h.form h0
    injection hv with q1 q2 q3
    subst q1 q3
    exact .inr ⟨g, 0, rfl, fun i hi => by rw [Nat.zero_add]; exact (owns_cos h).1 i hi⟩
theorem out_ans {x : BldD} {s : ByteArray} (h : openOkOut x s) : (readOkOut x s ∧ ouRes x (parseOu (bl s) x.cars.length) = .tuple #[.string s, .int .i64 0]) ∨
    (¬ readOkOut x s ∧ (ouRes x (parseOu (bl s) x.cars.length) = .tuple #[.string ⟨#[]⟩, .int .i64 1] ∨ ∃ t, (t.toList == s.toList) = false ∧ ouRes x (parseOu (bl s) x.cars.length) = .tuple #[.string t, .int .i64 0])) := by
  have hi := isOut_iff x (parseOu (bl s) x.cars.length) h.1
  unfold ouRes
  by_cases hr : readOkOut x s
  · left
    obtain ⟨h1, h2⟩ := (parse_iffO h).1 hr
    refine ⟨hr, ?_⟩
    rw [if_pos (hi.2 h1), h2, bl_mk]
  · right
    refine ⟨hr, ?_⟩
    cases hB : isOutB x (parseOu (bl s) x.cars.length)
    · left; rw [if_neg Bool.false_ne_true]
    · right
      rw [if_pos rfl]
      refine ⟨_, ?_, rfl⟩
      rw [Bool.eq_false_iff]
      intro he
      have h2 := hi.1 hB
      apply hr
      refine (parse_iffO h).2 ⟨h2, ?_⟩
      have he2 := eq_of_beq he
      rw [ByteArray.toList_eq, ByteArray.toList_eq] at he2
      exact he2
theorem flatOu_snoc (cs : List CarOut) (c : CarOut) : flatOu (cs ++ [c]) = flatOu cs ++ coV c := by simp [flatOu]
theorem wrap_errno_val (s : List UInt8) (a : Nat) : IntKind.i64.wrap ((val s a 2 : Nat) : Int) = ((val s a 2 : Nat) : Int) := IntWalk.i64_in _ (by have := val_lt s a 2; omega)

/-- What reading outputs answers. -/
def RdOutAns (x : BldD) (s : ByteArray) (e : Ending) (w' : World) : Prop :=
  (openOkOut x s ∧ readOkOut x s ∧ ∃ A' cp, CosV w' A' (ouOf x s).cars ∧ e = .returned (.tuple #[ouAgg (ouOf x s) A' cp, .int .i64 0])) ∨ (∃ code, ReadOE x s code ∧ code ≠ 0 ∧ e = .returned (.tuple #[ouAgg zeroOu none 0, .int .i64 code]))

set_option maxRecDepth 100000 in
set_option maxHeartbeats 8000000 in
theorem refReadOut_any (x : BldD) (A : Option Addr) (cap : Nat) (s : ByteArray) (w : World) (hxn : x.cars.length ≤ 140737488355328) (hc : CarsAt w w.heap.size A x.cars) (hs : s.size ≤ maxLen) :
    Calls Try.prog 24 #[x.agg A cap, .string s] w fun e w' => Below w.heap.size w w' ∧ RdOutAns x s e w' := by
  have HSI := Lib.hid (fun wx (h : Below w.heap.size w wx) => refSize_any x A cap wx hxn ((hc.below h).more h.size))
  have HOF := Lib.hid (fun wx (h : Below w.heap.size w wx) => refOpenF_any x A cap s (sizeOut x) 90 wx hxn ((hc.below h).more h.size) hs (by decide) (fun hv => by
    have h1 : sizeOut x = 23 + 19 * (x.cars.length : Int) := if_pos hv
    have h2 := (fine_of hv).cars
    omega))
  unfold RdOutAns
  rcases openEF_out x s with ⟨hE, hok⟩ | ⟨hE, hre⟩
  · rw [hE] at HOF
    have hok' := hok
    obtain ⟨hv, hsz, hh, ho⟩ := hok'
    obtain ⟨hC1, hC2⟩ := (fine_of hv).cars
    have hpo := fun h => parse_ofO hok h
    have hps := parse_saneO (bl s) x.cars.length
    have FOu := Lib.hid (fun A' cp wx (h : Below w.heap.size w wx) (hvv : CosV wx A' (parseOu (bl s) x.cars.length).cars) => refOut_res x A cap (parseOu (bl s) x.cars.length) A' cp wx hv (by omega) ((hc.below h).more h.size) (by simp [parseOu]; omega) hps hvv)
    have hre : ¬ readOkOut x s → ReadOE x s 31 := fun h => .inr (.inr (.inr (.inr ⟨hok, h, rfl⟩)))
    have hs8 : s.size ≤ 1000000 := by omega
    have hans := out_ans hok
    obtain ⟨CL, hCL⟩ : ∃ CL : Nat → List CarOut, CL = fun k => (List.range k).map fun i => parseCo (bl s) (21 + 19 * i) := ⟨_, rfl⟩
    have hc0 : CL 0 = [] := by rw [hCL]; rfl
    have hcn : ∀ k, CL (k + 1) = CL k ++ [parseCo (bl s) (21 + 19 * k)] := fun k => by rw [hCL]; simp [List.range_succ]
    have hcl2 : ∀ k, (CL k).length = k := fun k => by rw [hCL]; simp
    have hpe2 : parseOu (bl s) x.cars.length = ⟨⟨val (bl s) 2 4, val (bl s) 6 4, val (bl s) 10 4, val (bl s) 14 4, bit (bl s) 18 0, bit (bl s) 18 1, (val (bl s) 19 2 : Nat)⟩, CL x.cars.length⟩ := by rw [hCL]; rfl
    rw [hpe2] at FOu hans hpo
    simp only [ouAgg, hcl2] at FOu
    obtain ⟨RES, hRES⟩ : ∃ RES, ouRes x ⟨⟨val (bl s) 2 4, val (bl s) 6 4, val (bl s) 10 4, val (bl s) 14 4, bit (bl s) 18 0, bit (bl s) 18 1, (val (bl s) 19 2 : Nat)⟩, CL x.cars.length⟩ = RES := ⟨_, rfl⟩
    rw [hRES] at FOu hans
    have F2 := Lib.hid (fun wx => show Calls Try.prog 47 #[.string s, .int .i64 2] wx (fun e w' => e = .returned (.agg #[.int .u32 (val (bl s) 2 4 : Nat), .int .u32 (val (bl s) 6 4 : Nat)]) ∧ Below wx.heap.size wx w') from refSets_any s 2 wx (by omega) hs8)
    have F10 := Lib.hid (fun wx => show Calls Try.prog 47 #[.string s, .int .i64 10] wx (fun e w' => e = .returned (.agg #[.int .u32 (val (bl s) 10 4 : Nat), .int .u32 (val (bl s) 14 4 : Nat)]) ∧ Below wx.heap.size wx w') from refSets_any s 10 wx (by omega) hs8)
    have B180 := Lib.hid (fun wx => show Calls Try.prog 49 #[.string s, .int .i64 18, .int .i64 0] wx _ from refBit_any s 18 0 wx (by omega) (by omega) hs8)
    have B181 := Lib.hid (fun wx => show Calls Try.prog 49 #[.string s, .int .i64 18, .int .i64 1] wx _ from refBit_any s 18 1 wx (by omega) (by omega) hs8)
    have V19 := Lib.hid (fun wx => show Calls Try.prog 48 #[.string s, .int .i64 19, .int .i64 2] wx _ from refValue_any s 19 2 wx (by omega) (by omega) hs8)
    have we19 := wrap_errno_val (bl s) 19
    have FST := Lib.hid (fun a wx (h : a + 8 ≤ s.size) => refSets_any s a wx h hs8)
    have FBT := Lib.hid (fun a j wx (hj : j < 8) (h : a < s.size) => refBit_any s a j wx hj h hs8)
    have HV1 := Lib.hid (fun a (h : a < s.size) => val_one h)
    have HPO := Lib.hid hpo
    have HRE := Lib.hid hre
    have HOK := Lib.hid hok
    have HSZ := Lib.hid hsz
    have HANS := Lib.hid hans
    have HC0 := Lib.hid hc0
    have HCN := Lib.hid hcn
    have HCL := Lib.hid hcl2
    clear hpo hre hpe2 hok hh ho hps hcl2 hcn hc0 hCL hc hE hv hsz hans hRES
    obtain ⟨i0, hi0, hz0, hz1, hz2⟩ := info_parts carOutInfo
    generalize sizeIn x = SI at *
    generalize sizeOut x = SO at *
    obtain ⟨f, d, r, p, e1, e2, e3, cs⟩ := x
    simp only [BldD.agg] at *
    have HB0 := Lib.hid (bxs2 w (.cells #[.int .i64 f, .int .i64 d, .int .i64 r, .int .i64 p, .float .f64 e1, .float .f64 e2, .float .f64 e3, .slice A cs.length cap] 25) (.cells #[.int .u32 0, .int .u32 0, .int .u32 0, .int .u32 0, .bool false, .bool false, .int .i64 0, .slice none 0 0] 46))
    go_enter Try.func24, Try.ntmps24
    go_wp2_with fail
    refine (HSI.out _ HB0.out.below).mono ?_
    rintro e w1 ⟨rfl, hb1⟩
    have HB1 := Lib.hid (HB0.out.next hb1)
    clear hb1 HB0
    have c0_0 : w1.cell? ⟨w.heap.size, 0, none⟩ = some (.int .i64 f) := cell_of_row _ _ _ _ _ (0, 0) HB1.out.r0
    have c0_1 : w1.cell? ⟨w.heap.size, 1, none⟩ = some (.int .i64 d) := cell_of_row _ _ _ _ _ (0, 0) HB1.out.r0
    have c0_2 : w1.cell? ⟨w.heap.size, 2, none⟩ = some (.int .i64 r) := cell_of_row _ _ _ _ _ (0, 0) HB1.out.r0
    have c0_3 : w1.cell? ⟨w.heap.size, 3, none⟩ = some (.int .i64 p) := cell_of_row _ _ _ _ _ (0, 0) HB1.out.r0
    have c0_4 : w1.cell? ⟨w.heap.size, 4, none⟩ = some (.float .f64 e1) := cell_of_row _ _ _ _ _ (0, 0) HB1.out.r0
    have c0_5 : w1.cell? ⟨w.heap.size, 5, none⟩ = some (.float .f64 e2) := cell_of_row _ _ _ _ _ (0, 0) HB1.out.r0
    have c0_6 : w1.cell? ⟨w.heap.size, 6, none⟩ = some (.float .f64 e3) := cell_of_row _ _ _ _ _ (0, 0) HB1.out.r0
    have c0_7 : w1.cell? ⟨w.heap.size, 7, none⟩ = some (.slice A cs.length cap) := cell_of_row _ _ _ _ _ (0, 0) HB1.out.r0
    go_wp2_with fail
    refine (HOF.out _ HB1.out.below).mono ?_
    rintro e w2 ⟨rfl, hb2⟩
    have HB2 := Lib.hid (HB1.out.next hb2)
    clear c0_0 c0_1 c0_2 c0_3 c0_4 c0_5 c0_6 c0_7 hb2 HB1
    have c0_0 : w2.cell? ⟨w.heap.size, 0, none⟩ = some (.int .i64 f) := cell_of_row _ _ _ _ _ (0, 0) HB2.out.r0
    have c0_1 : w2.cell? ⟨w.heap.size, 1, none⟩ = some (.int .i64 d) := cell_of_row _ _ _ _ _ (0, 0) HB2.out.r0
    have c0_2 : w2.cell? ⟨w.heap.size, 2, none⟩ = some (.int .i64 r) := cell_of_row _ _ _ _ _ (0, 0) HB2.out.r0
    have c0_3 : w2.cell? ⟨w.heap.size, 3, none⟩ = some (.int .i64 p) := cell_of_row _ _ _ _ _ (0, 0) HB2.out.r0
    have c0_4 : w2.cell? ⟨w.heap.size, 4, none⟩ = some (.float .f64 e1) := cell_of_row _ _ _ _ _ (0, 0) HB2.out.r0
    have c0_5 : w2.cell? ⟨w.heap.size, 5, none⟩ = some (.float .f64 e2) := cell_of_row _ _ _ _ _ (0, 0) HB2.out.r0
    have c0_6 : w2.cell? ⟨w.heap.size, 6, none⟩ = some (.float .f64 e3) := cell_of_row _ _ _ _ _ (0, 0) HB2.out.r0
    have c0_7 : w2.cell? ⟨w.heap.size, 7, none⟩ = some (.slice A cs.length cap) := cell_of_row _ _ _ _ _ (0, 0) HB2.out.r0
    clear c0_0 c0_1 c0_2 c0_3 c0_4 c0_5 c0_6 c0_7
    clear HSI HOF
    go_wp2_with fail
    refine (F2.out _).mono ?_
    rintro e w3 ⟨rfl, hb3⟩
    have HB3 := Lib.hid (HB2.out.next hb3)
    clear hb3 HB2
    go_wp2_with fail
    refine (F10.out _).mono ?_
    rintro e w4 ⟨rfl, hb4⟩
    have HB4 := Lib.hid (HB3.out.next hb4)
    clear hb4 HB3
    go_wp2_with (first | (go_at_call 49; (first | (with_reducible refine (B180.out _).mono ?_) | (with_reducible refine (B181.out _).mono ?_)); rintro e w' ⟨rfl, rfl⟩) | (go_at_call 48; (first | (with_reducible refine (V19.out _).mono ?_)); rintro e w' ⟨rfl, rfl⟩))
    have HB15 := Lib.hid (HB4.out.make (heap_alloc_new w4 (.cells #[.int .u32 (val (bl s) 2 4 : Nat), .int .u32 (val (bl s) 6 4 : Nat), .int .u32 (val (bl s) 10 4 : Nat), .int .u32 (val (bl s) 14 4 : Nat), .bool (bit (bl s) 18 0), .bool (bit (bl s) 18 1), .int .i64 (val (bl s) 19 2 : Nat), .slice none 0 0] 46)) ((Below.refl w4.heap.size w4).alloc (Nat.le_refl _) _))
    have p0 : w.heap.size < w4.heap.size := (Array.getElem?_eq_some_iff.1 HB4.out.r0).1
    have p1 : w.heap.size + 1 < w4.heap.size := (Array.getElem?_eq_some_iff.1 HB4.out.r1).1
    have pw0 : w.heap.size ≤ w4.heap.size := HB4.out.below.size
    generalize w4.alloc (.cells #[.int .u32 (val (bl s) 2 4 : Nat), .int .u32 (val (bl s) 6 4 : Nat), .int .u32 (val (bl s) 10 4 : Nat), .int .u32 (val (bl s) 14 4 : Nat), .bool (bit (bl s) 18 0), .bool (bit (bl s) 18 1), .int .i64 (val (bl s) 19 2 : Nat), .slice none 0 0] 46) = w15 at *
    generalize w4.heap.size = gx at *
    clear HB4
    have q0 : gx < w15.heap.size := (Array.getElem?_eq_some_iff.1 HB15.out.r0).1
    have q1 : w.heap.size < w15.heap.size := (Array.getElem?_eq_some_iff.1 HB15.out.r1).1
    have q2 : w.heap.size + 1 < w15.heap.size := (Array.getElem?_eq_some_iff.1 HB15.out.r2).1
    go_loopw [10] (fun vi wr => ∃ (k : Nat) (xA : Option Addr) (xc : Nat), k ≤ cs.length ∧ vi = .int .i64 k ∧ wr.ownsRow w15.heap.size 93 9 (.slice xA k xc) k (flatOu (CL k)) ∧ w15.heap.size ≤ wr.heap.size ∧ Bx w [(gx, .cells #[.int .u32 (val (bl s) 2 4 : Nat), .int .u32 (val (bl s) 6 4 : Nat), .int .u32 (val (bl s) 10 4 : Nat), .int .u32 (val (bl s) 14 4 : Nat), .bool (bit (bl s) 18 0), .bool (bit (bl s) 18 1), .int .i64 (val (bl s) 19 2 : Nat), .slice xA k xc] 46 (0, 0)), (w.heap.size, .cells #[.int .i64 f, .int .i64 d, .int .i64 r, .int .i64 p, .float .f64 e1, .float .f64 e2, .float .f64 e3, .slice A cs.length cap] 25 (0, 0)), (w.heap.size + 1, .cells #[.int .u32 0, .int .u32 0, .int .u32 0, .int .u32 0, .bool false, .bool false, .int .i64 0, .slice none 0 0] 46 (0, 0))] wr) (fun vi _ => cs.length - (intOf vi).toNat)
    case atStart => exact ⟨0, none, 0, Nat.zero_le _, rfl, by rw [HC0.out]; exact World.ownsRow_nil _ _ _ _, Nat.le_refl _, HB15.out⟩
    case round =>
      obtain ⟨k, xA, xc, hk, rfl, hown, hzb, hbr⟩ := hrel
      have HO := Lib.hid hown
      have HBR := Lib.hid hbr
      clear hown hbr
      by_cases hlt : k < cs.length
      · have hkI : (k : Int) < (cs.length : Int) := by omega
        obtain ⟨a, ha⟩ : ∃ a, a = 21 + 19 * k := ⟨_, rfl⟩
        have hat : (21 : Int) + 19 * (k : Int) = (a : Int) := by omega
        have haw : IntKind.i64.wrap ((21 : Int) + 19 * (k : Int)) = (a : Int) := by rw [hat]; exact IntWalk.i64_in _ (by omega)
        have h19 : a + 19 ≤ s.size := by have := HSZ.out; omega
        have HN := Lib.hid (HCN.out k)
        rw [← ha] at HN
        have hal : a ≤ 1000 := by omega
        clear ha
        have S0 := Lib.hid (fun wx => FST.out a wx (by omega))
        have S8 := Lib.hid (fun wx => show Calls Try.prog 47 #[.string s, .int .i64 ((a : Int) + 8)] wx (fun e w' => e = .returned (.agg #[.int .u32 (val (bl s) (a + 8) 4 : Nat), .int .u32 (val (bl s) (a + 12) 4 : Nat)]) ∧ Below wx.heap.size wx w') from FST.out (a + 8) wx (by omega))
        have B0 := Lib.hid (fun wx => show Calls Try.prog 49 #[.string s, .int .i64 ((a : Int) + 16), .int .i64 0] wx _ from FBT.out (a + 16) 0 wx (by omega) (by omega))
        have B1 := Lib.hid (fun wx => show Calls Try.prog 49 #[.string s, .int .i64 ((a : Int) + 16), .int .i64 1] wx _ from FBT.out (a + 16) 1 wx (by omega) (by omega))
        have B2 := Lib.hid (fun wx => show Calls Try.prog 49 #[.string s, .int .i64 ((a : Int) + 16), .int .i64 2] wx _ from FBT.out (a + 16) 2 wx (by omega) (by omega))
        have i5 : a + 17 < s.size := by omega
        have i6 : a + 18 < s.size := by omega
        have i5z : (a : Int) + 17 < (s.size : Int) := by omega
        have i6z : (a : Int) + 18 < (s.size : Int) := by omega
        have v5 := HV1.out (a + 17) i5
        have v6 := HV1.out (a + 18) i6
        have w8' : IntKind.i64.wrap ((a : Int) + 8) = (a : Int) + 8 := IntWalk.i64_in _ (by omega)
        have w16' : IntKind.i64.wrap ((a : Int) + 16) = (a : Int) + 16 := IntWalk.i64_in _ (by omega)
        have w17' : IntKind.i64.wrap ((a : Int) + 17) = (a : Int) + 17 := IntWalk.i64_in _ (by omega)
        have w18' : IntKind.i64.wrap ((a : Int) + 18) = (a : Int) + 18 := IntWalk.i64_in _ (by omega)
        have n5 : (0 : Int) ≤ (a : Int) + 17 := by omega
        have n6 : (0 : Int) ≤ (a : Int) + 18 := by omega
        have t5 : ((a : Int) + 17).toNat = a + 17 := by omega
        have t6 : ((a : Int) + 18).toNat = a + 18 := by omega
        have c1_7 : wr.cell? ⟨w.heap.size, 7, none⟩ = some (.slice A cs.length cap) := cell_of_row _ _ _ _ _ (0, 0) HBR.out.r1
        go_wp2_with fail
        clear c1_7
        have HLT := Lib.hid hlt
        clear hat haw hkI hlt hk
        try generalize decide ((k : Int) < (cs.length : Int)) = dk
        go_wp2_with fail
        have q0 : gx < wr.heap.size := (Array.getElem?_eq_some_iff.1 HBR.out.r0).1
        have q1 : w.heap.size < wr.heap.size := (Array.getElem?_eq_some_iff.1 HBR.out.r1).1
        have q2 : w.heap.size + 1 < wr.heap.size := (Array.getElem?_eq_some_iff.1 HBR.out.r2).1
        refine Ghost.ghost (fun γ L wx => Decls (wr).heap.size (wr) [(⟨31, 32, 93, #[.int .u32 0, .int .u32 0, .bool false, .int .u32 0, .int .u32 0, .bool false, .int .i64 0, .int .i64 0, .bool false], #[.int .u32 (val (bl s) a 4 : Nat), .int .u32 (val (bl s) (a + 4) 4 : Nat), .bool (bit (bl s) (a + 16) 0), .int .u32 (val (bl s) (a + 8) 4 : Nat), .int .u32 (val (bl s) (a + 12) 4 : Nat), .bool (bit (bl s) (a + 16) 1), .int .i64 (val (bl s) (a + 17) 1 : Nat), .int .i64 (val (bl s) (a + 18) 1 : Nat), .bool (bit (bl s) (a + 16) 2)]⟩ : Decl)] γ L wx) (by kernel_rfl) (by kernel_rfl) (fun γ => Decls.start _ γ (Below.refl _ _).drew (Nat.le_refl _)) ?_
        iterate 31
          apply Ghost.walk_const (fun γ => by rfl)
          · intro γ L wx h1 h2 hx K hK
            have HXx := HBR.out.next hx.below
            have HK2 := Lib.hid hK
            have HX := Lib.hid hx
            clear hK h1 h2 hx
            go_simp
            first
              | (go_at_call 47; (with_reducible refine (S0.out _).mono ?_); rintro e x1 ⟨rfl, hb⟩; exact HK2.out _ (HX.out.quiet 0 (by rfl) hb))
              | (go_at_call 47; (with_reducible refine (S8.out _).mono ?_); rintro e x1 ⟨rfl, hb⟩; exact HK2.out _ (HX.out.quiet 0 (by rfl) hb))
              | (go_at_call 49; (with_reducible refine (B0.out _).mono ?_); rintro e x1 ⟨rfl, rfl⟩; exact HK2.out _ (HX.out.quiet 0 (by rfl) (Below.refl _ _)))
              | (go_at_call 49; (with_reducible refine (B1.out _).mono ?_); rintro e x1 ⟨rfl, rfl⟩; exact HK2.out _ (HX.out.quiet 0 (by rfl) (Below.refl _ _)))
              | (go_at_call 49; (with_reducible refine (B2.out _).mono ?_); rintro e x1 ⟨rfl, rfl⟩; exact HK2.out _ (HX.out.quiet 0 (by rfl) (Below.refl _ _)))
              | exact HK2.out _ (HX.out.quiet 0 (by rfl) (Below.refl _ _))
          simp only [Act.put, List.setIfInBounds_toArray, List.set_cons_succ, List.set_cons_zero]
        refine Ghost.walk_yes (fun b => .pointer (some ⟨b, 0, none⟩)) (fun γ => by rfl) ?_ ?_
        · intro γ L wx h1 h2 hx K hK
          have HK2 := Lib.hid hK
          clear hK h2
          have hL : L (⟨31, 32, 93, #[.int .u32 0, .int .u32 0, .bool false, .int .u32 0, .int .u32 0, .bool false, .int .i64 0, .int .i64 0, .bool false], #[.int .u32 (val (bl s) a 4 : Nat), .int .u32 (val (bl s) (a + 4) 4 : Nat), .bool (bit (bl s) (a + 16) 0), .int .u32 (val (bl s) (a + 8) 4 : Nat), .int .u32 (val (bl s) (a + 12) 4 : Nat), .bool (bit (bl s) (a + 16) 1), .int .i64 (val (bl s) (a + 17) 1 : Nat), .int .i64 (val (bl s) (a + 18) 1 : Nat), .bool (bit (bl s) (a + 16) 2)]⟩ : Decl).al = false := h1
          clear h1
          go_simp
          exact HK2.out wx.heap.size _ (hx.alloc (⟨31, 32, 93, #[.int .u32 0, .int .u32 0, .bool false, .int .u32 0, .int .u32 0, .bool false, .int .i64 0, .int .i64 0, .bool false], #[.int .u32 (val (bl s) a 4 : Nat), .int .u32 (val (bl s) (a + 4) 4 : Nat), .bool (bit (bl s) (a + 16) 0), .int .u32 (val (bl s) (a + 8) 4 : Nat), .int .u32 (val (bl s) (a + 12) 4 : Nat), .bool (bit (bl s) (a + 16) 1), .int .i64 (val (bl s) (a + 17) 1 : Nat), .int .i64 (val (bl s) (a + 18) 1 : Nat), .bool (bit (bl s) (a + 16) 2)]⟩ : Decl) (decl_mem _) hL (by rfl) (decl_al _))
        simp only [Act.put, List.setIfInBounds_toArray, List.set_cons_succ, List.set_cons_zero]
        refine Ghost.walk_yes (fun _ => undef) (fun γ => by rfl) ?_ ?_
        · intro γ L wx h1 h2 hx K hK
          have hA : L (⟨31, 32, 93, #[.int .u32 0, .int .u32 0, .bool false, .int .u32 0, .int .u32 0, .bool false, .int .i64 0, .int .i64 0, .bool false], #[.int .u32 (val (bl s) a 4 : Nat), .int .u32 (val (bl s) (a + 4) 4 : Nat), .bool (bit (bl s) (a + 16) 0), .int .u32 (val (bl s) (a + 8) 4 : Nat), .int .u32 (val (bl s) (a + 12) 4 : Nat), .bool (bit (bl s) (a + 16) 1), .int .i64 (val (bl s) (a + 17) 1 : Nat), .int .i64 (val (bl s) (a + 18) 1 : Nat), .bool (bit (bl s) (a + 16) 2)]⟩ : Decl).al = true := h2 31 (by kernel_rfl)
          exact hx.wp_store (⟨31, 32, 93, #[.int .u32 0, .int .u32 0, .bool false, .int .u32 0, .int .u32 0, .bool false, .int .i64 0, .int .i64 0, .bool false], #[.int .u32 (val (bl s) a 4 : Nat), .int .u32 (val (bl s) (a + 4) 4 : Nat), .bool (bit (bl s) (a + 16) 0), .int .u32 (val (bl s) (a + 8) 4 : Nat), .int .u32 (val (bl s) (a + 12) 4 : Nat), .bool (bit (bl s) (a + 16) 1), .int .i64 (val (bl s) (a + 17) 1 : Nat), .int .i64 (val (bl s) (a + 18) 1 : Nat), .bool (bit (bl s) (a + 16) 2)]⟩ : Decl) (decl_mem _) h1 hA _ _ rfl rfl rfl (by kernel_rfl) rfl (by kernel_rfl) (hK 0 _ (hx.store (⟨31, 32, 93, #[.int .u32 0, .int .u32 0, .bool false, .int .u32 0, .int .u32 0, .bool false, .int .i64 0, .int .i64 0, .bool false], #[.int .u32 (val (bl s) a 4 : Nat), .int .u32 (val (bl s) (a + 4) 4 : Nat), .bool (bit (bl s) (a + 16) 0), .int .u32 (val (bl s) (a + 8) 4 : Nat), .int .u32 (val (bl s) (a + 12) 4 : Nat), .bool (bit (bl s) (a + 16) 1), .int .i64 (val (bl s) (a + 17) 1 : Nat), .int .i64 (val (bl s) (a + 18) 1 : Nat), .bool (bit (bl s) (a + 16) 2)]⟩ : Decl) (decl_mem _) hA (by rfl) (decl_st _) (decl_al _) 0))
        simp only [Act.put]
        refine Ghost.walk_nil (fun γ L w21 hall hD => ?_)
        obtain ⟨hd21, hr21, hb21⟩ := hD.done1 hall (by show 31 < 33; decide) (by show 32 < 33; decide)
        clear hall hD
        simp only [Nat.zero_add, Nat.reduceAdd] at hd21 hr21 ⊢
        generalize γ 31 = gC at *
        have HO4 := Lib.hid (own_keep HO.out (fun j e => hb21.block j (HO.out.lt j e).2))
        have hgC := hd21
        have hb0 : ∀ j, (Value.slice xA k xc).ownBlock = some j → w15.heap.size ≤ j := fun j e => (HO.out.lt j e).1
        have HB21 := Lib.hid (HBR.out.make hr21 hb21)
        have l21_0 : gx < gC := by omega
        have l21_1 : w.heap.size < gC := by omega
        have l21_2 : w.heap.size + 1 < gC := by omega
        have lw21 : w.heap.size ≤ gC := by have := HBR.out.below.size; omega
        clear hd21 hr21 hb21 HBR q0 q1 q2
        have c0_0 : w21.cell? ⟨gC, 0, none⟩ = some (.int .u32 (val (bl s) a 4 : Nat)) := cell_of_row _ _ _ _ _ (0, 0) HB21.out.r0
        have c0_1 : w21.cell? ⟨gC, 1, none⟩ = some (.int .u32 (val (bl s) (a + 4) 4 : Nat)) := cell_of_row _ _ _ _ _ (0, 0) HB21.out.r0
        have c0_2 : w21.cell? ⟨gC, 2, none⟩ = some (.bool (bit (bl s) (a + 16) 0)) := cell_of_row _ _ _ _ _ (0, 0) HB21.out.r0
        have c0_3 : w21.cell? ⟨gC, 3, none⟩ = some (.int .u32 (val (bl s) (a + 8) 4 : Nat)) := cell_of_row _ _ _ _ _ (0, 0) HB21.out.r0
        have c0_4 : w21.cell? ⟨gC, 4, none⟩ = some (.int .u32 (val (bl s) (a + 12) 4 : Nat)) := cell_of_row _ _ _ _ _ (0, 0) HB21.out.r0
        have c0_5 : w21.cell? ⟨gC, 5, none⟩ = some (.bool (bit (bl s) (a + 16) 1)) := cell_of_row _ _ _ _ _ (0, 0) HB21.out.r0
        have c0_6 : w21.cell? ⟨gC, 6, none⟩ = some (.int .i64 (val (bl s) (a + 17) 1 : Nat)) := cell_of_row _ _ _ _ _ (0, 0) HB21.out.r0
        have c0_7 : w21.cell? ⟨gC, 7, none⟩ = some (.int .i64 (val (bl s) (a + 18) 1 : Nat)) := cell_of_row _ _ _ _ _ (0, 0) HB21.out.r0
        have c0_8 : w21.cell? ⟨gC, 8, none⟩ = some (.bool (bit (bl s) (a + 16) 2)) := cell_of_row _ _ _ _ _ (0, 0) HB21.out.r0
        have c1_7 : w21.cell? ⟨gx, 7, none⟩ = some (.slice xA k xc) := cell_of_row _ _ _ _ _ (0, 0) HB21.out.r1
        have z0 : gC < w21.heap.size := (Array.getElem?_eq_some_iff.1 HB21.out.r0).1
        have z1 : gx < w21.heap.size := (Array.getElem?_eq_some_iff.1 HB21.out.r1).1
        have z2 : w.heap.size < w21.heap.size := (Array.getElem?_eq_some_iff.1 HB21.out.r2).1
        have z3 : w.heap.size + 1 < w21.heap.size := (Array.getElem?_eq_some_iff.1 HB21.out.r3).1
        have hsz4 : w15.heap.size ≤ w21.heap.size := by omega
        have hk8 : k ≤ 8 := by have := HLT.out; omega
        have hm63 : k + 1 ≤ maxLen := by unfold maxLen; omega
        go_wp2_with (at_builtin; refine wpList_append_own _ rfl (.tmp 82) (.tmp 84) 44 rfl (w15.heap.size) 93 i0 _ 9 48 Try.underlying44 hi0 hz0 hz1 hz2 rfl (by decide) (.slice xA k xc) k (flatOu (CL k)) rfl (HO4.out.alloc _) ⟨w21.heap.size, 0, none⟩ 1 1 _ rfl ?hl (World.news_of_block (heap_alloc_new _ _)) ?h1 hm63 ?hby ?hbase ?hK)
        case h1 => first | exact ⟨rfl, rfl, rfl, rfl, rfl, rfl, rfl, rfl, rfl⟩ | (intro u hu; simp only [List.mem_cons, List.not_mem_nil, or_false] at hu; rcases hu with rfl | rfl | rfl | rfl | rfl | rfl | rfl | rfl | rfl <;> rfl)
        case hby => omega
        case hbase => simp; omega
        intro v' w25 hown' hgrow _
        obtain ⟨yA, yc, rfl⟩ := own_slice hown'
        have hown2 : w25.ownsRow (w15.heap.size) 93 9 (.slice yA (k + 1) yc) (k + 1) (flatOu (CL (k + 1))) := by rw [HN.out, flatOu_snoc]; exact hown'
        have HO5 := Lib.hid hown2
        have HB25 : Hid (Bx w [(gx, .cells #[.int .u32 (val (bl s) 2 4 : Nat), .int .u32 (val (bl s) 6 4 : Nat), .int .u32 (val (bl s) 10 4 : Nat), .int .u32 (val (bl s) 14 4 : Nat), .bool (bit (bl s) 18 0), .bool (bit (bl s) 18 1), .int .i64 (val (bl s) 19 2 : Nat), .slice xA k xc] 46 (0, 0)), (w.heap.size, .cells #[.int .i64 f, .int .i64 d, .int .i64 r, .int .i64 p, .float .f64 e1, .float .f64 e2, .float .f64 e3, .slice A cs.length cap] 25 (0, 0)), (w.heap.size + 1, .cells #[.int .u32 0, .int .u32 0, .int .u32 0, .int .u32 0, .bool false, .bool false, .int .i64 0, .slice none 0 0] 46 (0, 0))] w25) := Lib.hid ⟨(HB21.out.below.alloc (HB21.out.below.size) _).grown hgrow (by have := HB21.out.below.size; simp; omega) (fun j e => by have := hb0 j e; omega), by simp only [List.mem_cons, List.not_mem_nil, or_false]; rintro q (rfl | rfl | rfl); exact (hgrow.block _ (by simp; omega) (fun e => by have := hb0 _ e.symm; omega)).trans ((Below.heap_alloc _ _ _ (by omega)).trans HB21.out.r1); exact (hgrow.block _ (by simp; omega) (fun e => by have := hb0 _ e.symm; omega)).trans ((Below.heap_alloc _ _ _ (by omega)).trans HB21.out.r2); exact (hgrow.block _ (by simp; omega) (fun e => by have := hb0 _ e.symm; omega)).trans ((Below.heap_alloc _ _ _ (by omega)).trans HB21.out.r3)⟩
        clear c0_0 c0_1 c0_2 c0_3 c0_4 c0_5 c0_6 c0_7 c0_8 c1_7 hown2 hown' hgrow HB21 HO4 z0 z1 z2 z3
        go_wp2_with (with_reducible show wpList _ _ _ (Oper.mk _ (.store 44 _ _) _ _ _ _ :: _) _ _; refine Hid.out ?_)
        refine Lib.hid ?_
        refine wpList_putCell rfl 44 _ _ rfl (gx) 7 (.slice yA (k + 1) yc) _ _ 46 rfl rfl HB25.out.r0 (by kernel_rfl) (by simp) rfl rfl rfl ?_
        intro w26 hr26 hg26
        have HO6 := Lib.hid (own_keep HO5.out (fun j e => hg26.out.block j (HO5.out.lt j e).2 (fun q => by injection q with q; have := (HO5.out.lt j e).1; omega)))
        have HB26 : Hid (Bx w [(gx, .cells #[.int .u32 (val (bl s) 2 4 : Nat), .int .u32 (val (bl s) 6 4 : Nat), .int .u32 (val (bl s) 10 4 : Nat), .int .u32 (val (bl s) 14 4 : Nat), .bool (bit (bl s) 18 0), .bool (bit (bl s) 18 1), .int .i64 (val (bl s) 19 2 : Nat), .slice yA (k + 1) yc] 46 (0, 0)), (w.heap.size, .cells #[.int .i64 f, .int .i64 d, .int .i64 r, .int .i64 p, .float .f64 e1, .float .f64 e2, .float .f64 e3, .slice A cs.length cap] 25 (0, 0)), (w.heap.size + 1, .cells #[.int .u32 0, .int .u32 0, .int .u32 0, .int .u32 0, .bool false, .bool false, .int .i64 0, .slice none 0 0] 46 (0, 0))] w26) := Lib.hid (HB25.out.put (by omega) hg26.out hr26.out (by simp only [List.mem_cons, List.not_mem_nil, or_false]; rintro p (rfl | rfl | rfl) <;> simp <;> omega))
        clear hr26 hg26 HB25
        go_wp2_with fail
        have hlt := HLT.out
        go_roundw
        case rel => exact ⟨k + 1, yA, yc, by omega, by go_num, HO6.out, by obtain ⟨g, c', -, h1, h2⟩ := HO6.out.form (Nat.succ_pos k); omega, HB26.out⟩
        case measure => simp [intOf]; omega
      · obtain rfl : k = cs.length := by omega
        have hkI : ¬ (cs.length : Int) < (cs.length : Int) := by omega
        have HCV := Lib.hid (own_cosV HO.out)
        have c0_0 : wr.cell? ⟨gx, 0, none⟩ = some (.int .u32 (val (bl s) 2 4 : Nat)) := cell_of_row _ _ _ _ _ (0, 0) HBR.out.r0
        have c0_1 : wr.cell? ⟨gx, 1, none⟩ = some (.int .u32 (val (bl s) 6 4 : Nat)) := cell_of_row _ _ _ _ _ (0, 0) HBR.out.r0
        have c0_2 : wr.cell? ⟨gx, 2, none⟩ = some (.int .u32 (val (bl s) 10 4 : Nat)) := cell_of_row _ _ _ _ _ (0, 0) HBR.out.r0
        have c0_3 : wr.cell? ⟨gx, 3, none⟩ = some (.int .u32 (val (bl s) 14 4 : Nat)) := cell_of_row _ _ _ _ _ (0, 0) HBR.out.r0
        have c0_4 : wr.cell? ⟨gx, 4, none⟩ = some (.bool (bit (bl s) 18 0)) := cell_of_row _ _ _ _ _ (0, 0) HBR.out.r0
        have c0_5 : wr.cell? ⟨gx, 5, none⟩ = some (.bool (bit (bl s) 18 1)) := cell_of_row _ _ _ _ _ (0, 0) HBR.out.r0
        have c0_6 : wr.cell? ⟨gx, 6, none⟩ = some (.int .i64 (val (bl s) 19 2 : Nat)) := cell_of_row _ _ _ _ _ (0, 0) HBR.out.r0
        have c0_7 : wr.cell? ⟨gx, 7, none⟩ = some (.slice xA cs.length xc) := cell_of_row _ _ _ _ _ (0, 0) HBR.out.r0
        have c1_0 : wr.cell? ⟨w.heap.size, 0, none⟩ = some (.int .i64 f) := cell_of_row _ _ _ _ _ (0, 0) HBR.out.r1
        have c1_1 : wr.cell? ⟨w.heap.size, 1, none⟩ = some (.int .i64 d) := cell_of_row _ _ _ _ _ (0, 0) HBR.out.r1
        have c1_2 : wr.cell? ⟨w.heap.size, 2, none⟩ = some (.int .i64 r) := cell_of_row _ _ _ _ _ (0, 0) HBR.out.r1
        have c1_3 : wr.cell? ⟨w.heap.size, 3, none⟩ = some (.int .i64 p) := cell_of_row _ _ _ _ _ (0, 0) HBR.out.r1
        have c1_4 : wr.cell? ⟨w.heap.size, 4, none⟩ = some (.float .f64 e1) := cell_of_row _ _ _ _ _ (0, 0) HBR.out.r1
        have c1_5 : wr.cell? ⟨w.heap.size, 5, none⟩ = some (.float .f64 e2) := cell_of_row _ _ _ _ _ (0, 0) HBR.out.r1
        have c1_6 : wr.cell? ⟨w.heap.size, 6, none⟩ = some (.float .f64 e3) := cell_of_row _ _ _ _ _ (0, 0) HBR.out.r1
        have c1_7 : wr.cell? ⟨w.heap.size, 7, none⟩ = some (.slice A cs.length cap) := cell_of_row _ _ _ _ _ (0, 0) HBR.out.r1
        go_wp2_with fail
        refine (FOu.out xA xc _ HBR.out.below HCV.out).mono ?_
        rintro e w21 ⟨rfl, hb21⟩
        have HOz := Lib.hid (own_keep HO.out (fun j e => hb21.block j (HO.out.lt j e).2))
        have HB21 := Lib.hid (HBR.out.next hb21)
        clear c0_0 c0_1 c0_2 c0_3 c0_4 c0_5 c0_6 c0_7 c1_0 c1_1 c1_2 c1_3 c1_4 c1_5 c1_6 c1_7 hb21 HBR
        rcases HANS.out with ⟨hr, he⟩ | ⟨hr, he | ⟨tx, htx, he⟩⟩
        · subst he
          have c0_0 : w21.cell? ⟨gx, 0, none⟩ = some (.int .u32 (val (bl s) 2 4 : Nat)) := cell_of_row _ _ _ _ _ (0, 0) HB21.out.r0
          have c0_1 : w21.cell? ⟨gx, 1, none⟩ = some (.int .u32 (val (bl s) 6 4 : Nat)) := cell_of_row _ _ _ _ _ (0, 0) HB21.out.r0
          have c0_2 : w21.cell? ⟨gx, 2, none⟩ = some (.int .u32 (val (bl s) 10 4 : Nat)) := cell_of_row _ _ _ _ _ (0, 0) HB21.out.r0
          have c0_3 : w21.cell? ⟨gx, 3, none⟩ = some (.int .u32 (val (bl s) 14 4 : Nat)) := cell_of_row _ _ _ _ _ (0, 0) HB21.out.r0
          have c0_4 : w21.cell? ⟨gx, 4, none⟩ = some (.bool (bit (bl s) 18 0)) := cell_of_row _ _ _ _ _ (0, 0) HB21.out.r0
          have c0_5 : w21.cell? ⟨gx, 5, none⟩ = some (.bool (bit (bl s) 18 1)) := cell_of_row _ _ _ _ _ (0, 0) HB21.out.r0
          have c0_6 : w21.cell? ⟨gx, 6, none⟩ = some (.int .i64 (val (bl s) 19 2 : Nat)) := cell_of_row _ _ _ _ _ (0, 0) HB21.out.r0
          have c0_7 : w21.cell? ⟨gx, 7, none⟩ = some (.slice xA cs.length xc) := cell_of_row _ _ _ _ _ (0, 0) HB21.out.r0
          go_wp2_with (with_reducible show wpList _ _ _ (Oper.mk _ (.store 46 _ _) _ _ _ _ :: _) _ _; refine Hid.out ?_)
          refine Lib.hid ?_
          refine wpList_put rfl 46 _ _ rfl (w.heap.size + 1) #[.int .u32 (val (bl s) 2 4 : Nat), .int .u32 (val (bl s) 6 4 : Nat), .int .u32 (val (bl s) 10 4 : Nat), .int .u32 (val (bl s) 14 4 : Nat), .bool (bit (bl s) 18 0), .bool (bit (bl s) 18 1), .int .i64 (val (bl s) 19 2 : Nat), .slice xA cs.length xc] _ 46 rfl rfl HB21.out.r2 (by kernel_rfl) rfl (by kernel_rfl) ?_
          intro w22 hr22 hg22
          have HOy := Lib.hid (own_keep HOz.out (fun j e => hg22.out.block j (HOz.out.lt j e).2 (fun q => by injection q with q; have := (HOz.out.lt j e).1; omega)))
          have HB22 : Hid (Bx w [(gx, .cells #[.int .u32 (val (bl s) 2 4 : Nat), .int .u32 (val (bl s) 6 4 : Nat), .int .u32 (val (bl s) 10 4 : Nat), .int .u32 (val (bl s) 14 4 : Nat), .bool (bit (bl s) 18 0), .bool (bit (bl s) 18 1), .int .i64 (val (bl s) 19 2 : Nat), .slice xA cs.length xc] 46 (0, 0)), (w.heap.size, .cells #[.int .i64 f, .int .i64 d, .int .i64 r, .int .i64 p, .float .f64 e1, .float .f64 e2, .float .f64 e3, .slice A cs.length cap] 25 (0, 0)), (w.heap.size + 1, .cells #[.int .u32 (val (bl s) 2 4 : Nat), .int .u32 (val (bl s) 6 4 : Nat), .int .u32 (val (bl s) 10 4 : Nat), .int .u32 (val (bl s) 14 4 : Nat), .bool (bit (bl s) 18 0), .bool (bit (bl s) 18 1), .int .i64 (val (bl s) 19 2 : Nat), .slice xA cs.length xc] 46 (0, 0))] w22) := Lib.hid (HB21.out.put (by omega) hg22.out hr22.out (by simp only [List.mem_cons, List.not_mem_nil, or_false]; rintro p (rfl | rfl | rfl) <;> simp <;> omega))
          clear c0_0 c0_1 c0_2 c0_3 c0_4 c0_5 c0_6 c0_7 hr22 hg22 HB21
          go_wp2_with fail
          exact bodyPost_ret (results_row_tmp Try.results24 _ _ _ _ _ (0, 0) _ rfl HB22.out.r2 Try.underlying46 rfl (by kernel_rfl)) rfl (⟨HB22.out.below, .inl ⟨HOK.out, hr, xA, xc, by rw [← HPO.out hr]; exact own_cosV HOy.out, by rw [← HPO.out hr]; simp only [ouAgg, HCL.out]; rfl⟩⟩)
        iterate 2
          · subst he
            have c0_0 : w21.cell? ⟨gx, 0, none⟩ = some (.int .u32 (val (bl s) 2 4 : Nat)) := cell_of_row _ _ _ _ _ (0, 0) HB21.out.r0
            have c0_1 : w21.cell? ⟨gx, 1, none⟩ = some (.int .u32 (val (bl s) 6 4 : Nat)) := cell_of_row _ _ _ _ _ (0, 0) HB21.out.r0
            have c0_2 : w21.cell? ⟨gx, 2, none⟩ = some (.int .u32 (val (bl s) 10 4 : Nat)) := cell_of_row _ _ _ _ _ (0, 0) HB21.out.r0
            have c0_3 : w21.cell? ⟨gx, 3, none⟩ = some (.int .u32 (val (bl s) 14 4 : Nat)) := cell_of_row _ _ _ _ _ (0, 0) HB21.out.r0
            have c0_4 : w21.cell? ⟨gx, 4, none⟩ = some (.bool (bit (bl s) 18 0)) := cell_of_row _ _ _ _ _ (0, 0) HB21.out.r0
            have c0_5 : w21.cell? ⟨gx, 5, none⟩ = some (.bool (bit (bl s) 18 1)) := cell_of_row _ _ _ _ _ (0, 0) HB21.out.r0
            have c0_6 : w21.cell? ⟨gx, 6, none⟩ = some (.int .i64 (val (bl s) 19 2 : Nat)) := cell_of_row _ _ _ _ _ (0, 0) HB21.out.r0
            have c0_7 : w21.cell? ⟨gx, 7, none⟩ = some (.slice xA cs.length xc) := cell_of_row _ _ _ _ _ (0, 0) HB21.out.r0
            go_wp2_with (with_reducible show wpList _ _ _ (Oper.mk _ (.store 46 _ _) _ _ _ _ :: _) _ _; refine Hid.out ?_)
            refine Lib.hid ?_
            refine wpList_put rfl 46 _ _ rfl (w.heap.size + 1) #[.int .u32 0, .int .u32 0, .int .u32 0, .int .u32 0, .bool false, .bool false, .int .i64 0, .slice none 0 0] _ 46 rfl rfl HB21.out.r2 (by kernel_rfl) rfl (by kernel_rfl) ?_
            intro w22 hr22 hg22
            have HB22 : Hid (Bx w [(gx, .cells #[.int .u32 (val (bl s) 2 4 : Nat), .int .u32 (val (bl s) 6 4 : Nat), .int .u32 (val (bl s) 10 4 : Nat), .int .u32 (val (bl s) 14 4 : Nat), .bool (bit (bl s) 18 0), .bool (bit (bl s) 18 1), .int .i64 (val (bl s) 19 2 : Nat), .slice xA cs.length xc] 46 (0, 0)), (w.heap.size, .cells #[.int .i64 f, .int .i64 d, .int .i64 r, .int .i64 p, .float .f64 e1, .float .f64 e2, .float .f64 e3, .slice A cs.length cap] 25 (0, 0)), (w.heap.size + 1, .cells #[.int .u32 0, .int .u32 0, .int .u32 0, .int .u32 0, .bool false, .bool false, .int .i64 0, .slice none 0 0] 46 (0, 0))] w22) := Lib.hid (HB21.out.put (by omega) hg22.out hr22.out (by simp only [List.mem_cons, List.not_mem_nil, or_false]; rintro p (rfl | rfl | rfl) <;> simp <;> omega))
            clear c0_0 c0_1 c0_2 c0_3 c0_4 c0_5 c0_6 c0_7 hr22 hg22 HB21
            go_wp2_with fail
            exact bodyPost_ret (results_row_tmp Try.results24 _ _ _ _ _ (0, 0) _ rfl HB22.out.r2 Try.underlying46 rfl (by kernel_rfl)) rfl (⟨HB22.out.below, .inr ⟨31, HRE.out hr, by decide, rfl⟩⟩)
  · generalize openEF x s (sizeOut x) 90 = E at *
    have hEb : (E != 0) = true := bne_iff_ne.2 hE
    have HRE := Lib.hid hre
    clear hre
    generalize sizeIn x = SI at *
    generalize sizeOut x = SO at *
    obtain ⟨f, d, r, p, e1, e2, e3, cs⟩ := x
    simp only [BldD.agg] at *
    have HB0 := Lib.hid (bxs2 w (.cells #[.int .i64 f, .int .i64 d, .int .i64 r, .int .i64 p, .float .f64 e1, .float .f64 e2, .float .f64 e3, .slice A cs.length cap] 25) (.cells #[.int .u32 0, .int .u32 0, .int .u32 0, .int .u32 0, .bool false, .bool false, .int .i64 0, .slice none 0 0] 46))
    go_enter Try.func24, Try.ntmps24
    go_wp2_with fail
    refine (HSI.out _ HB0.out.below).mono ?_
    rintro e w1 ⟨rfl, hb1⟩
    have HB1 := Lib.hid (HB0.out.next hb1)
    clear hb1 HB0
    have c0_0 : w1.cell? ⟨w.heap.size, 0, none⟩ = some (.int .i64 f) := cell_of_row _ _ _ _ _ (0, 0) HB1.out.r0
    have c0_1 : w1.cell? ⟨w.heap.size, 1, none⟩ = some (.int .i64 d) := cell_of_row _ _ _ _ _ (0, 0) HB1.out.r0
    have c0_2 : w1.cell? ⟨w.heap.size, 2, none⟩ = some (.int .i64 r) := cell_of_row _ _ _ _ _ (0, 0) HB1.out.r0
    have c0_3 : w1.cell? ⟨w.heap.size, 3, none⟩ = some (.int .i64 p) := cell_of_row _ _ _ _ _ (0, 0) HB1.out.r0
    have c0_4 : w1.cell? ⟨w.heap.size, 4, none⟩ = some (.float .f64 e1) := cell_of_row _ _ _ _ _ (0, 0) HB1.out.r0
    have c0_5 : w1.cell? ⟨w.heap.size, 5, none⟩ = some (.float .f64 e2) := cell_of_row _ _ _ _ _ (0, 0) HB1.out.r0
    have c0_6 : w1.cell? ⟨w.heap.size, 6, none⟩ = some (.float .f64 e3) := cell_of_row _ _ _ _ _ (0, 0) HB1.out.r0
    have c0_7 : w1.cell? ⟨w.heap.size, 7, none⟩ = some (.slice A cs.length cap) := cell_of_row _ _ _ _ _ (0, 0) HB1.out.r0
    go_wp2_with fail
    refine (HOF.out _ HB1.out.below).mono ?_
    rintro e w2 ⟨rfl, hb2⟩
    have HB2 := Lib.hid (HB1.out.next hb2)
    clear c0_0 c0_1 c0_2 c0_3 c0_4 c0_5 c0_6 c0_7 hb2 HB1
    have c0_0 : w2.cell? ⟨w.heap.size, 0, none⟩ = some (.int .i64 f) := cell_of_row _ _ _ _ _ (0, 0) HB2.out.r0
    have c0_1 : w2.cell? ⟨w.heap.size, 1, none⟩ = some (.int .i64 d) := cell_of_row _ _ _ _ _ (0, 0) HB2.out.r0
    have c0_2 : w2.cell? ⟨w.heap.size, 2, none⟩ = some (.int .i64 r) := cell_of_row _ _ _ _ _ (0, 0) HB2.out.r0
    have c0_3 : w2.cell? ⟨w.heap.size, 3, none⟩ = some (.int .i64 p) := cell_of_row _ _ _ _ _ (0, 0) HB2.out.r0
    have c0_4 : w2.cell? ⟨w.heap.size, 4, none⟩ = some (.float .f64 e1) := cell_of_row _ _ _ _ _ (0, 0) HB2.out.r0
    have c0_5 : w2.cell? ⟨w.heap.size, 5, none⟩ = some (.float .f64 e2) := cell_of_row _ _ _ _ _ (0, 0) HB2.out.r0
    have c0_6 : w2.cell? ⟨w.heap.size, 6, none⟩ = some (.float .f64 e3) := cell_of_row _ _ _ _ _ (0, 0) HB2.out.r0
    have c0_7 : w2.cell? ⟨w.heap.size, 7, none⟩ = some (.slice A cs.length cap) := cell_of_row _ _ _ _ _ (0, 0) HB2.out.r0
    clear c0_0 c0_1 c0_2 c0_3 c0_4 c0_5 c0_6 c0_7
    clear HSI HOF
    go_wp2_with (with_reducible show wpList _ _ _ (Oper.mk _ (.store 46 _ _) _ _ _ _ :: _) _ _; refine Hid.out ?_)
    refine Lib.hid ?_
    refine wpList_put rfl 46 _ _ rfl (w.heap.size + 1) #[.int .u32 0, .int .u32 0, .int .u32 0, .int .u32 0, .bool false, .bool false, .int .i64 0, .slice none 0 0] _ 46 rfl rfl HB2.out.r1 (by kernel_rfl) rfl (by kernel_rfl) ?_
    intro w3 hr3 hg3
    have HB3 : Hid (Bx w [(w.heap.size, .cells #[.int .i64 f, .int .i64 d, .int .i64 r, .int .i64 p, .float .f64 e1, .float .f64 e2, .float .f64 e3, .slice A cs.length cap] 25 (0, 0)), (w.heap.size + 1, .cells #[.int .u32 0, .int .u32 0, .int .u32 0, .int .u32 0, .bool false, .bool false, .int .i64 0, .slice none 0 0] 46 (0, 0))] w3) := Lib.hid (HB2.out.put (by omega) hg3.out hr3.out (by simp only [List.mem_cons, List.not_mem_nil, or_false]; rintro p (rfl | rfl) <;> simp <;> omega))
    clear hr3 hg3 HB2
    go_wp2_with fail
    exact bodyPost_ret (results_row_tmp Try.results24 _ _ _ _ _ (0, 0) _ rfl HB3.out.r1 Try.underlying46 rfl (by kernel_rfl)) rfl (⟨HB3.out.below, .inr ⟨E, HRE.out, hE, rfl⟩⟩)
end Go.Proofs.Ythbfpdkgbkpmiaa
