/- The reference's ReadIn of any text. No statement of the seat is proved here. -/
import Derived.Test.YthbfpdkgbkpmiaaFrRdLeaf
import Derived.Test.YthbfpdkgbkpmiaaReadIn
import Derived.Test.YthbfpdkgbkpmiaaG34
import Derived.Test.YthbfpdkgbkpmiaaG10
import Derived.Test.YthbfpdkgbkpmiaaG32
namespace Go.Proofs.Ythbfpdkgbkpmiaa
open Go.RowKit Frm

theorem own_slice {w : World} {base n s : Nat} {e : TypeId} {v : Value} {xs : List Value} (h : w.ownsRow base e s v n xs) : ∃ A c, v = .slice A n c := by
  rcases h.2 with ⟨hv, h0⟩ | ⟨g, c, cur, hv, -⟩
  · have hn : n = 0 := by
      first | exact h0 | (have := h.1; subst h0; simp at this; omega) | sorry
    subst hn
    exact ⟨none, 0, hv⟩
  · exact ⟨_, c, hv⟩
theorem val_one {s : ByteArray} {a : Nat} (h : a < s.size) : IntKind.i64.wrap (((s[a]).toNat : Nat) : Int) = ((val (bl s) a 1 : Nat) : Int) := by
  obtain ⟨⟨l⟩⟩ := s
  have hl : a < l.length := h
  have e : val l a 1 = l[a].toNat := by
    unfold val
    rw [take_one l a hl]
    simp [valL, List.getD, hl]
  show IntKind.i64.wrap ((l[a].toNat : Nat) : Int) = ((val l a 1 : Nat) : Int)
  rw [e]
  exact IntWalk.i64_in _ (by have := l[a].toNat_lt; omega)
theorem own_carsV {w : World} {base n cap : Nat} {A : Option Addr} {e : TypeId} {cs : List CarIn} (h : w.ownsRow base e 11 (.slice A n cap) n (flatIn cs)) : CarsV w A cs := by
  rcases Nat.eq_zero_or_pos n with h0 | h0
  · left
    have := h.1
    rw [flatIn_length] at this
    exact List.eq_nil_of_length_eq_zero (by omega)
  · obtain ⟨g, c, hv, -, -⟩ := h.form h0
    injection hv with q1 q2 q3
    subst q1 q3
    exact .inr ⟨g, 0, rfl, fun i hi => by rw [Nat.zero_add]; exact (owns_cars h).1 i hi⟩
theorem flatIn_snoc (cs : List CarIn) (c : CarIn) : flatIn (cs ++ [c]) = flatIn cs ++ carV c := by simp [flatIn]
theorem own_keep {w w' : World} {base n sz : Nat} {e : TypeId} {v : Value} {xs : List Value} (h : w.ownsRow base e sz v n xs) (hb : ∀ j, v.ownBlock = some j → w'.heap[j]? = w.heap[j]?) : w'.ownsRow base e sz v n xs := by
  obtain ⟨hl, h | ⟨g, cap, cur, hv, hbg, hg, hc⟩⟩ := h
  · exact ⟨hl, .inl h⟩
  · subst hv
    exact ⟨hl, .inr ⟨g, cap, cur, rfl, hbg, (hb g rfl).trans hg, hc⟩⟩
theorem in_ans {x : BldD} {s : ByteArray} (h : openOkIn x s) : (readOkIn x s ∧ inRes x (parse (bl s) x.cars.length) = .tuple #[.string s, .int .i64 0]) ∨
    (¬ readOkIn x s ∧ (inRes x (parse (bl s) x.cars.length) = .tuple #[.string ⟨#[]⟩, .int .i64 1] ∨ ∃ t, (t.toList == s.toList) = false ∧ inRes x (parse (bl s) x.cars.length) = .tuple #[.string t, .int .i64 0])) := by
  have hi := isIn_iff x (parse (bl s) x.cars.length)
  unfold inRes
  by_cases hr : readOkIn x s
  · left
    obtain ⟨h1, h2⟩ := (parse_iff h).1 hr
    refine ⟨hr, ?_⟩
    rw [if_pos (hi.2 h1), h2, bl_mk]
  · right
    refine ⟨hr, ?_⟩
    cases hB : isInB x (parse (bl s) x.cars.length)
    · left; rw [if_neg Bool.false_ne_true]
    · right
      rw [if_pos rfl]
      refine ⟨_, ?_, rfl⟩
      rw [Bool.eq_false_iff]
      intro he
      have h2 := hi.1 hB
      apply hr
      refine (parse_iff h).2 ⟨h2, ?_⟩
      have he2 := eq_of_beq he
      rw [ByteArray.toList_eq, ByteArray.toList_eq] at he2
      exact he2

/-- What reading inputs answers. -/
def RdInAns (x : BldD) (s : ByteArray) (e : Ending) (w' : World) : Prop :=
  (openOkIn x s ∧ readOkIn x s ∧ ∃ A' cp, CarsV w' A' (inOf x s).cars ∧ e = .returned (.tuple #[inAgg (inOf x s) A' cp, .int .i64 0])) ∨ (∃ code, ReadE x s code ∧ code ≠ 0 ∧ e = .returned (.tuple #[inAgg zeroIn none 0, .int .i64 code]))

set_option maxRecDepth 100000 in
set_option maxHeartbeats 8000000 in
theorem refReadIn_any (x : BldD) (A : Option Addr) (cap : Nat) (s : ByteArray) (w : World) (hxn : x.cars.length ≤ 140737488355328) (hc : CarsAt w w.heap.size A x.cars) (hs : s.size ≤ maxLen) :
    Calls Try.prog 23 #[x.agg A cap, .string s] w fun e w' => Below w.heap.size w w' ∧ RdInAns x s e w' := by
  have HSI := Lib.hid (fun wx (h : Below w.heap.size w wx) => refSize_any x A cap wx hxn ((hc.below h).more h.size))
  have HOF := Lib.hid (fun wx (h : Below w.heap.size w wx) => refOpenF_any x A cap s (sizeIn x) 165 wx hxn ((hc.below h).more h.size) hs (by decide) (fun hv => by
    have h1 : sizeIn x = 14 + 19 * (x.cars.length : Int) := if_pos hv
    have h2 := (fine_of hv).cars
    omega))
  unfold RdInAns
  rcases openEF_in x s with ⟨hE, hok⟩ | ⟨hE, hre⟩
  · rw [hE] at HOF
    have hok' := hok
    obtain ⟨hv, hsz, hh, ho⟩ := hok'
    obtain ⟨hC1, hC2⟩ := (fine_of hv).cars
    have hpi := parse_iff hok
    have hpo := fun h => parse_of hok h
    have hps := parse_sane (bl s) x.cars.length
    have FIn := Lib.hid (fun A' cp wx (h : Below w.heap.size w wx) (hvv : CarsV wx A' (parse (bl s) x.cars.length).cars) => refIn_res x A cap (parse (bl s) x.cars.length) A' cp wx (by omega) ((hc.below h).more h.size) (by simp [parse]; omega) hps hvv)
    have hcl : (parse (bl s) x.cars.length).cars = (List.range x.cars.length).map fun i => parseCar (bl s) (12 + 19 * i) := rfl
    have hre : ¬ readOkIn x s → ReadE x s 31 := fun h => .inr (.inr (.inr (.inr ⟨hok, h, rfl⟩)))
    have hpe : parse (bl s) x.cars.length = ⟨val (bl s) 2 4, val (bl s) 6 4, (val (bl s) 10 1 : Nat), (val (bl s) 11 1 : Nat), (List.range x.cars.length).map fun i => parseCar (bl s) (12 + 19 * i)⟩ := rfl
    have hs11 : (11 : Int) < (s.size : Int) := by omega
    have hs10 : (10 : Int) < (s.size : Int) := by omega
    have hs8 : s.size ≤ 1000000 := by omega
    have F5 := Lib.hid (fun wx => show Calls Try.prog 47 #[.string s, .int .i64 2] wx _ from refSets_any s 2 wx (by omega) hs8)
    have i10 : 10 < s.size := by omega
    have i11 : 11 < s.size := by omega
    have hv10 := val_one i10
    have hv11 := val_one i11
    have FVL := Lib.hid (fun a n wx (hn : n ≤ 8) (h : a + n ≤ s.size) => refValue_any s a n wx hn h hs8)
    have FBT := Lib.hid (fun a j wx (hj : j < 8) (h : a < s.size) => refBit_any s a j wx hj h hs8)
    have HV1 := Lib.hid (fun a (h : a < s.size) => val_one h)
    have hans := in_ans hok
    obtain ⟨CL, hCL⟩ : ∃ CL : Nat → List CarIn, CL = fun k => (List.range k).map fun i => parseCar (bl s) (12 + 19 * i) := ⟨_, rfl⟩
    have hc0 : CL 0 = [] := by rw [hCL]; rfl
    have hcn : ∀ k, CL (k + 1) = CL k ++ [parseCar (bl s) (12 + 19 * k)] := fun k => by rw [hCL]; simp [List.range_succ]
    have hcl2 : ∀ k, (CL k).length = k := fun k => by rw [hCL]; simp
    have hpe2 : parse (bl s) x.cars.length = ⟨val (bl s) 2 4, val (bl s) 6 4, (val (bl s) 10 1 : Nat), (val (bl s) 11 1 : Nat), CL x.cars.length⟩ := by rw [hCL]; exact hpe
    rw [hpe2] at FIn hans hpo
    simp only [inAgg, hcl2] at FIn
    obtain ⟨RES, hRES⟩ : ∃ RES, inRes x ⟨val (bl s) 2 4, val (bl s) 6 4, (val (bl s) 10 1 : Nat), (val (bl s) 11 1 : Nat), CL x.cars.length⟩ = RES := ⟨_, rfl⟩
    rw [hRES] at FIn hans
    have HPO := Lib.hid hpo
    have HRE := Lib.hid hre
    have HOK := Lib.hid hok
    have HSZ := Lib.hid hsz
    have HANS := Lib.hid hans
    have HC0 := Lib.hid hc0
    have HCN := Lib.hid hcn
    have HCL := Lib.hid hcl2
    clear hpi hpo hre hpe hpe2 hok hh ho hps hcl hcl2 hcn hc0 hCL hc hE hv hsz hans hRES
    skip
    obtain ⟨i0, hi0, hz0, hz1, hz2⟩ := info_parts carInInfo
    have hw6 : val (bl s) (2 + 4) 4 = val (bl s) 6 4 := rfl
    rw [hw6] at F5
    clear hw6
    generalize sizeIn x = SI at *
    generalize sizeOut x = SO at *
    obtain ⟨f, d, r, p, e1, e2, e3, cs⟩ := x
    simp only [BldD.agg] at *
    have HB0 := Lib.hid (bxs2 w (.cells #[.int .i64 f, .int .i64 d, .int .i64 r, .int .i64 p, .float .f64 e1, .float .f64 e2, .float .f64 e3, .slice A cs.length cap] 25) (.cells #[.int .u32 0, .int .u32 0, .int .i64 0, .int .i64 0, .slice none 0 0] 33))
    go_enter Try.func23, Try.ntmps23
    go_wp2_with fail
    refine (HSI.out _ HB0.out.below).mono ?_
    rintro e w1 ⟨rfl, hb1⟩
    have HB1 := Lib.hid (HB0.out.next hb1)
    clear hb1 HB0
    have c0_0 : w1.cell? ⟨w.heap.size, 0, none⟩ = some (.int .i64 f) := cell_of_row _ _ _ _ _ (0, 0) HB1.out.r0
    have c0_1 : w1.cell? ⟨w.heap.size, 1, none⟩ = some (.int .i64 d) := cell_of_row _ _ _ _ _ (0, 0) HB1.out.r0
    have c0_2 : w1.cell? ⟨w.heap.size, 2, none⟩ = some (.int .i64 r) := cell_of_row _ _ _ _ _ (0, 0) HB1.out.r0
    have c0_3 : w1.cell? ⟨w.heap.size, 3, none⟩ = some (.int .i64 p) := cell_of_row _ _ _ _ _ (0, 0) HB1.out.r0
    have c0_4 : w1.cell? ⟨w.heap.size, 4, none⟩ = some (.float .f64 e1) := cell_of_row _ _ _ _ _ (0, 0) HB1.out.r0
    have c0_5 : w1.cell? ⟨w.heap.size, 5, none⟩ = some (.float .f64 e2) := cell_of_row _ _ _ _ _ (0, 0) HB1.out.r0
    have c0_6 : w1.cell? ⟨w.heap.size, 6, none⟩ = some (.float .f64 e3) := cell_of_row _ _ _ _ _ (0, 0) HB1.out.r0
    have c0_7 : w1.cell? ⟨w.heap.size, 7, none⟩ = some (.slice A cs.length cap) := cell_of_row _ _ _ _ _ (0, 0) HB1.out.r0
    go_wp2_with fail
    refine (HOF.out _ HB1.out.below).mono ?_
    rintro e w2 ⟨rfl, hb2⟩
    have HB2 := Lib.hid (HB1.out.next hb2)
    clear c0_0 c0_1 c0_2 c0_3 c0_4 c0_5 c0_6 c0_7 hb2 HB1
    have c0_0 : w2.cell? ⟨w.heap.size, 0, none⟩ = some (.int .i64 f) := cell_of_row _ _ _ _ _ (0, 0) HB2.out.r0
    have c0_1 : w2.cell? ⟨w.heap.size, 1, none⟩ = some (.int .i64 d) := cell_of_row _ _ _ _ _ (0, 0) HB2.out.r0
    have c0_2 : w2.cell? ⟨w.heap.size, 2, none⟩ = some (.int .i64 r) := cell_of_row _ _ _ _ _ (0, 0) HB2.out.r0
    have c0_3 : w2.cell? ⟨w.heap.size, 3, none⟩ = some (.int .i64 p) := cell_of_row _ _ _ _ _ (0, 0) HB2.out.r0
    have c0_4 : w2.cell? ⟨w.heap.size, 4, none⟩ = some (.float .f64 e1) := cell_of_row _ _ _ _ _ (0, 0) HB2.out.r0
    have c0_5 : w2.cell? ⟨w.heap.size, 5, none⟩ = some (.float .f64 e2) := cell_of_row _ _ _ _ _ (0, 0) HB2.out.r0
    have c0_6 : w2.cell? ⟨w.heap.size, 6, none⟩ = some (.float .f64 e3) := cell_of_row _ _ _ _ _ (0, 0) HB2.out.r0
    have c0_7 : w2.cell? ⟨w.heap.size, 7, none⟩ = some (.slice A cs.length cap) := cell_of_row _ _ _ _ _ (0, 0) HB2.out.r0
    clear c0_0 c0_1 c0_2 c0_3 c0_4 c0_5 c0_6 c0_7
    clear HSI HOF
    go_wp2_with fail
    have q0 : w.heap.size < w2.heap.size := (Array.getElem?_eq_some_iff.1 HB2.out.r0).1
    have q1 : w.heap.size + 1 < w2.heap.size := (Array.getElem?_eq_some_iff.1 HB2.out.r1).1
    refine Ghost.ghost (fun γ L wx => Decls (w2).heap.size (w2) [(⟨10, 11, 33, #[.int .u32 0, .int .u32 0, .int .i64 0, .int .i64 0, .slice none 0 0], #[.int .u32 (val (bl s) 2 4 : Nat), .int .u32 (val (bl s) 6 4 : Nat), .int .i64 (val (bl s) 10 1 : Nat), .int .i64 (val (bl s) 11 1 : Nat), .slice none 0 0]⟩ : Decl)] γ L wx) (by kernel_rfl) (by kernel_rfl) (fun γ => Decls.start _ γ (Below.refl _ _).drew (Nat.le_refl _)) ?_
    iterate 10
      apply Ghost.walk_const (fun γ => by rfl)
      · intro γ L wx h1 h2 hx K hK
        have HXx := HB2.out.next hx.below
        have HK2 := Lib.hid hK
        have HX := Lib.hid hx
        clear hK h1 h2 hx
        go_simp
        first
          | (go_at_call 47; (with_reducible refine (F5.out _).mono ?_); rintro e x1 ⟨rfl, hb⟩; exact HK2.out _ (HX.out.quiet 0 (by rfl) hb))
          | exact HK2.out _ (HX.out.quiet 0 (by rfl) (Below.refl _ _))
      simp only [Act.put, List.setIfInBounds_toArray, List.set_cons_succ, List.set_cons_zero]
    refine Ghost.walk_yes (fun b => .pointer (some ⟨b, 0, none⟩)) (fun γ => by rfl) ?_ ?_
    · intro γ L wx h1 h2 hx K hK
      have HK2 := Lib.hid hK
      clear hK h2
      have hL : L (⟨10, 11, 33, #[.int .u32 0, .int .u32 0, .int .i64 0, .int .i64 0, .slice none 0 0], #[.int .u32 (val (bl s) 2 4 : Nat), .int .u32 (val (bl s) 6 4 : Nat), .int .i64 (val (bl s) 10 1 : Nat), .int .i64 (val (bl s) 11 1 : Nat), .slice none 0 0]⟩ : Decl).al = false := h1
      clear h1
      go_simp
      exact HK2.out wx.heap.size _ (hx.alloc (⟨10, 11, 33, #[.int .u32 0, .int .u32 0, .int .i64 0, .int .i64 0, .slice none 0 0], #[.int .u32 (val (bl s) 2 4 : Nat), .int .u32 (val (bl s) 6 4 : Nat), .int .i64 (val (bl s) 10 1 : Nat), .int .i64 (val (bl s) 11 1 : Nat), .slice none 0 0]⟩ : Decl) (decl_mem _) hL (by rfl) (decl_al _))
    simp only [Act.put, List.setIfInBounds_toArray, List.set_cons_succ, List.set_cons_zero]
    refine Ghost.walk_yes (fun _ => undef) (fun γ => by rfl) ?_ ?_
    · intro γ L wx h1 h2 hx K hK
      have hA : L (⟨10, 11, 33, #[.int .u32 0, .int .u32 0, .int .i64 0, .int .i64 0, .slice none 0 0], #[.int .u32 (val (bl s) 2 4 : Nat), .int .u32 (val (bl s) 6 4 : Nat), .int .i64 (val (bl s) 10 1 : Nat), .int .i64 (val (bl s) 11 1 : Nat), .slice none 0 0]⟩ : Decl).al = true := h2 10 (by kernel_rfl)
      exact hx.wp_store (⟨10, 11, 33, #[.int .u32 0, .int .u32 0, .int .i64 0, .int .i64 0, .slice none 0 0], #[.int .u32 (val (bl s) 2 4 : Nat), .int .u32 (val (bl s) 6 4 : Nat), .int .i64 (val (bl s) 10 1 : Nat), .int .i64 (val (bl s) 11 1 : Nat), .slice none 0 0]⟩ : Decl) (decl_mem _) h1 hA _ _ rfl rfl rfl (by kernel_rfl) rfl (by kernel_rfl) (hK 0 _ (hx.store (⟨10, 11, 33, #[.int .u32 0, .int .u32 0, .int .i64 0, .int .i64 0, .slice none 0 0], #[.int .u32 (val (bl s) 2 4 : Nat), .int .u32 (val (bl s) 6 4 : Nat), .int .i64 (val (bl s) 10 1 : Nat), .int .i64 (val (bl s) 11 1 : Nat), .slice none 0 0]⟩ : Decl) (decl_mem _) hA (by rfl) (decl_st _) (decl_al _) 0))
    simp only [Act.put]
    refine Ghost.walk_nil (fun γ L w3 hall hD => ?_)
    obtain ⟨hd3, hr3, hb3⟩ := hD.done1 hall (by show 10 < 12; decide) (by show 11 < 12; decide)
    clear hall hD
    simp only [Nat.zero_add, Nat.reduceAdd] at hd3 hr3 ⊢
    generalize γ 10 = gx at *
    have HB3 := Lib.hid (HB2.out.make hr3 hb3)
    have l3_0 : w.heap.size < gx := by omega
    have l3_1 : w.heap.size + 1 < gx := by omega
    have lw3 : w.heap.size ≤ gx := by have := HB2.out.below.size; omega
    clear hd3 hr3 hb3 HB2 q0 q1
    go_wp2_with fail
    have q0 : gx < w3.heap.size := (Array.getElem?_eq_some_iff.1 HB3.out.r0).1
    have q1 : w.heap.size < w3.heap.size := (Array.getElem?_eq_some_iff.1 HB3.out.r1).1
    have q2 : w.heap.size + 1 < w3.heap.size := (Array.getElem?_eq_some_iff.1 HB3.out.r2).1
    go_loopw [10] (fun vi wr => ∃ (k : Nat) (xA : Option Addr) (xc : Nat), k ≤ cs.length ∧ vi = .int .i64 k ∧ wr.ownsRow w3.heap.size 71 11 (.slice xA k xc) k (flatIn (CL k)) ∧ w3.heap.size ≤ wr.heap.size ∧ Bx w [(gx, .cells #[.int .u32 (val (bl s) 2 4 : Nat), .int .u32 (val (bl s) 6 4 : Nat), .int .i64 (val (bl s) 10 1 : Nat), .int .i64 (val (bl s) 11 1 : Nat), .slice xA k xc] 33 (0, 0)), (w.heap.size, .cells #[.int .i64 f, .int .i64 d, .int .i64 r, .int .i64 p, .float .f64 e1, .float .f64 e2, .float .f64 e3, .slice A cs.length cap] 25 (0, 0)), (w.heap.size + 1, .cells #[.int .u32 0, .int .u32 0, .int .i64 0, .int .i64 0, .slice none 0 0] 33 (0, 0))] wr) (fun vi _ => cs.length - (intOf vi).toNat)
    case atStart => exact ⟨0, none, 0, Nat.zero_le _, rfl, by rw [HC0.out]; exact World.ownsRow_nil _ _ _ _, Nat.le_refl _, HB3.out⟩
    case round =>
      obtain ⟨k, xA, xc, hk, rfl, hown, hzb, hbr⟩ := hrel
      have HO := Lib.hid hown
      have HBR := Lib.hid hbr
      skip
      clear hown hbr
      by_cases hlt : k < cs.length
      · have hkI : (k : Int) < (cs.length : Int) := by omega
        obtain ⟨a, ha⟩ : ∃ a, a = 12 + 19 * k := ⟨_, rfl⟩
        have hat : (12 : Int) + 19 * (k : Int) = (a : Int) := by omega
        have haw : IntKind.i64.wrap ((12 : Int) + 19 * (k : Int)) = (a : Int) := by rw [hat]; exact IntWalk.i64_in _ (by omega)
        have h19 : a + 19 ≤ s.size := by have := HSZ.out; omega
        have HN := Lib.hid (HCN.out k)
        rw [← ha] at HN
        have hal : a ≤ 1000 := by omega
        clear ha
        have V0 := Lib.hid (fun wx => show Calls Try.prog 48 #[.string s, .int .i64 (a : Int), .int .i64 4] wx _ from FVL.out a 4 wx (by omega) (by omega))
        have V7 := Lib.hid (fun wx => show Calls Try.prog 48 #[.string s, .int .i64 ((a : Int) + 7), .int .i64 4] wx _ from FVL.out (a + 7) 4 wx (by omega) (by omega))
        have V11 := Lib.hid (fun wx => show Calls Try.prog 48 #[.string s, .int .i64 ((a : Int) + 11), .int .i64 8] wx _ from FVL.out (a + 11) 8 wx (by omega) (by omega))
        have B0 := Lib.hid (fun wx => show Calls Try.prog 49 #[.string s, .int .i64 ((a : Int) + 4), .int .i64 0] wx _ from FBT.out (a + 4) 0 wx (by omega) (by omega))
        have B1 := Lib.hid (fun wx => show Calls Try.prog 49 #[.string s, .int .i64 ((a : Int) + 4), .int .i64 1] wx _ from FBT.out (a + 4) 1 wx (by omega) (by omega))
        have B2 := Lib.hid (fun wx => show Calls Try.prog 49 #[.string s, .int .i64 ((a : Int) + 4), .int .i64 2] wx _ from FBT.out (a + 4) 2 wx (by omega) (by omega))
        have B3 := Lib.hid (fun wx => show Calls Try.prog 49 #[.string s, .int .i64 ((a : Int) + 4), .int .i64 3] wx _ from FBT.out (a + 4) 3 wx (by omega) (by omega))
        have B4 := Lib.hid (fun wx => show Calls Try.prog 49 #[.string s, .int .i64 ((a : Int) + 4), .int .i64 4] wx _ from FBT.out (a + 4) 4 wx (by omega) (by omega))
        have B5 := Lib.hid (fun wx => show Calls Try.prog 49 #[.string s, .int .i64 ((a : Int) + 4), .int .i64 5] wx _ from FBT.out (a + 4) 5 wx (by omega) (by omega))
        have u0 := wrap_u32_val (bl s) a
        have u7 := wrap_u32_val (bl s) (a + 7)
        have hFR := frombits_run ((val (bl s) (a + 11) 8 : Nat) : Int)
        have i5 : a + 5 < s.size := by omega
        have i6 : a + 6 < s.size := by omega
        have i5z : (a : Int) + 5 < (s.size : Int) := by omega
        have i6z : (a : Int) + 6 < (s.size : Int) := by omega
        have v5 := HV1.out (a + 5) i5
        have v6 := HV1.out (a + 6) i6
        have w4' : IntKind.i64.wrap ((a : Int) + 4) = (a : Int) + 4 := IntWalk.i64_in _ (by omega)
        have w5' : IntKind.i64.wrap ((a : Int) + 5) = (a : Int) + 5 := IntWalk.i64_in _ (by omega)
        have w6' : IntKind.i64.wrap ((a : Int) + 6) = (a : Int) + 6 := IntWalk.i64_in _ (by omega)
        have w7' : IntKind.i64.wrap ((a : Int) + 7) = (a : Int) + 7 := IntWalk.i64_in _ (by omega)
        have w11' : IntKind.i64.wrap ((a : Int) + 11) = (a : Int) + 11 := IntWalk.i64_in _ (by omega)
        have n5 : (0 : Int) ≤ (a : Int) + 5 := by omega
        have n6 : (0 : Int) ≤ (a : Int) + 6 := by omega
        have t5 : ((a : Int) + 5).toNat = a + 5 := by omega
        have t6 : ((a : Int) + 6).toNat = a + 6 := by omega
        have c1_7 : wr.cell? ⟨w.heap.size, 7, none⟩ = some (.slice A cs.length cap) := cell_of_row _ _ _ _ _ (0, 0) HBR.out.r1
        go_wp2_with (first | (go_at_call 48; (first | (with_reducible refine (V0.out _).mono ?_) | (with_reducible refine (V7.out _).mono ?_) | (with_reducible refine (V11.out _).mono ?_)); rintro e w' ⟨rfl, rfl⟩) | (go_at_call 49; (first | (with_reducible refine (B0.out _).mono ?_) | (with_reducible refine (B1.out _).mono ?_) | (with_reducible refine (B2.out _).mono ?_) | (with_reducible refine (B3.out _).mono ?_) | (with_reducible refine (B4.out _).mono ?_) | (with_reducible refine (B5.out _).mono ?_)); rintro e w' ⟨rfl, rfl⟩))
        clear c1_7
        have HB21 := Lib.hid (HBR.out.make (heap_alloc_new wr (.cells #[.int .u32 (val (bl s) a 4 : Nat), .bool (bit (bl s) (a + 4) 0), .bool (bit (bl s) (a + 4) 1), .bool (bit (bl s) (a + 4) 2), .bool (bit (bl s) (a + 4) 3), .int .i64 0, .bool false, .int .i64 0, .bool false, .int .u32 0, .float .f64 0] 71)) ((Below.refl wr.heap.size wr).alloc (Nat.le_refl _) _))
        have HO1 := Lib.hid (HO.out.alloc (.cells #[.int .u32 (val (bl s) a 4 : Nat), .bool (bit (bl s) (a + 4) 0), .bool (bit (bl s) (a + 4) 1), .bool (bit (bl s) (a + 4) 2), .bool (bit (bl s) (a + 4) 3), .int .i64 0, .bool false, .int .i64 0, .bool false, .int .u32 0, .float .f64 0] 71))
        have hne : ∀ j, (Value.slice xA k xc).ownBlock = some j → j ≠ wr.heap.size := fun j e => by have := (HO.out.lt j e).2; omega
        have hb0 : ∀ j, (Value.slice xA k xc).ownBlock = some j → w3.heap.size ≤ j := fun j e => (HO.out.lt j e).1
        have p0 : gx < wr.heap.size := (Array.getElem?_eq_some_iff.1 HBR.out.r0).1
        have p1 : w.heap.size < wr.heap.size := (Array.getElem?_eq_some_iff.1 HBR.out.r1).1
        have p2 : w.heap.size + 1 < wr.heap.size := (Array.getElem?_eq_some_iff.1 HBR.out.r2).1
        have pw : w.heap.size ≤ wr.heap.size := HBR.out.below.size
        generalize wr.alloc (.cells #[.int .u32 (val (bl s) a 4 : Nat), .bool (bit (bl s) (a + 4) 0), .bool (bit (bl s) (a + 4) 1), .bool (bit (bl s) (a + 4) 2), .bool (bit (bl s) (a + 4) 3), .int .i64 0, .bool false, .int .i64 0, .bool false, .int .u32 0, .float .f64 0] 71) = w21 at *
        generalize wr.heap.size = gC at *
        clear HBR HO
        have z0 : gC < w21.heap.size := (Array.getElem?_eq_some_iff.1 HB21.out.r0).1
        have z1 : gx < w21.heap.size := (Array.getElem?_eq_some_iff.1 HB21.out.r1).1
        have z2 : w.heap.size < w21.heap.size := (Array.getElem?_eq_some_iff.1 HB21.out.r2).1
        have z3 : w.heap.size + 1 < w21.heap.size := (Array.getElem?_eq_some_iff.1 HB21.out.r3).1
        refine Chain.chain (fun p wx => Put (w21) (gC) (.cells (if p = 0 then #[.int .u32 (val (bl s) a 4 : Nat), .bool (bit (bl s) (a + 4) 0), .bool (bit (bl s) (a + 4) 1), .bool (bit (bl s) (a + 4) 2), .bool (bit (bl s) (a + 4) 3), .int .i64 0, .bool false, .int .i64 0, .bool false, .int .u32 0, .float .f64 0] else #[.int .u32 (val (bl s) a 4 : Nat), .bool (bit (bl s) (a + 4) 0), .bool (bit (bl s) (a + 4) 1), .bool (bit (bl s) (a + 4) 2), .bool (bit (bl s) (a + 4) 3), .int .i64 (val (bl s) (a + 5) 1 : Nat), .bool (bit (bl s) (a + 4) 4), .int .i64 (val (bl s) (a + 6) 1 : Nat), .bool (bit (bl s) (a + 4) 5), .int .u32 0, .float .f64 0]) 71 (0, 0)) wx) (fun _ _ => False) [20] (by kernel_rfl) (by kernel_rfl) (fun _ _ _ _ h => h.elim) ((Put.start HB21.out.r0).drew) ?_
        iterate 20 (first
            | (apply Chain.walk_quiet (by rfl) (by decide)
               (intro p wx hp hwn hx K hK
                first
                  | (go_simp
                     first
                      | (go_at_call 49; with_reducible refine (B4.out _).mono ?_; rintro e x1 ⟨rfl, rfl⟩; exact hK _ hx)
                      | (go_at_call 49; with_reducible refine (B5.out _).mono ?_; rintro e x1 ⟨rfl, rfl⟩; exact hK _ hx)
                      | (go_at_K; exact hK _ hx)))
               exact ⟨_, rfl⟩)
            | (refine Chain.walk_no (by rfl) (by decide) ?_; simp only [Act.put, List.setIfInBounds_toArray, List.set_cons_succ, List.set_cons_zero]))
        apply Chain.walk_turn 0 (by rfl) (by rfl)
        · intro wx hx K hK
          exact Put.storeMid 69 _ _ 5 rfl rfl rfl hx (by kernel_rfl) (by simp) (by kernel_rfl) rfl (fun w2 h => hK w2 h)
        · exact ⟨undef, rfl⟩
        refine Chain.walk_nil (fun w22 hp22 => ?_)
        replace hp22 : Put (w21) (gC) (.cells #[.int .u32 (val (bl s) a 4 : Nat), .bool (bit (bl s) (a + 4) 0), .bool (bit (bl s) (a + 4) 1), .bool (bit (bl s) (a + 4) 2), .bool (bit (bl s) (a + 4) 3), .int .i64 (val (bl s) (a + 5) 1 : Nat), .bool (bit (bl s) (a + 4) 4), .int .i64 (val (bl s) (a + 6) 1 : Nat), .bool (bit (bl s) (a + 4) 5), .int .u32 0, .float .f64 0] 71 (0, 0)) w22 := hp22
        try simp only [Act.put]
        have HO2 := Lib.hid (own_keep HO1.out (fun j e => hp22.other j (HO1.out.lt j e).2 (hne j e)))
        have HB22 : Hid (Bx w [(gC, .cells #[.int .u32 (val (bl s) a 4 : Nat), .bool (bit (bl s) (a + 4) 0), .bool (bit (bl s) (a + 4) 1), .bool (bit (bl s) (a + 4) 2), .bool (bit (bl s) (a + 4) 3), .int .i64 (val (bl s) (a + 5) 1 : Nat), .bool (bit (bl s) (a + 4) 4), .int .i64 (val (bl s) (a + 6) 1 : Nat), .bool (bit (bl s) (a + 4) 5), .int .u32 0, .float .f64 0] 71 (0, 0)), (gx, .cells #[.int .u32 (val (bl s) 2 4 : Nat), .int .u32 (val (bl s) 6 4 : Nat), .int .i64 (val (bl s) 10 1 : Nat), .int .i64 (val (bl s) 11 1 : Nat), .slice xA k xc] 33 (0, 0)), (w.heap.size, .cells #[.int .i64 f, .int .i64 d, .int .i64 r, .int .i64 p, .float .f64 e1, .float .f64 e2, .float .f64 e3, .slice A cs.length cap] 25 (0, 0)), (w.heap.size + 1, .cells #[.int .u32 0, .int .u32 0, .int .i64 0, .int .i64 0, .slice none 0 0] 33 (0, 0))] w22) := Lib.hid (HB21.out.ofPut (by omega) hp22 (by simp only [List.mem_cons, List.not_mem_nil, or_false]; rintro p (rfl | rfl | rfl | rfl) <;> simp <;> omega))
        clear hp22 HB21 HO1 z0 z1 z2 z3
        go_wp2_with (first | (go_at_call 48; (first | (with_reducible refine (V0.out _).mono ?_) | (with_reducible refine (V7.out _).mono ?_) | (with_reducible refine (V11.out _).mono ?_)); rintro e w' ⟨rfl, rfl⟩) | (with_reducible show wpList _ _ _ (Oper.mk _ (.store 26 _ _) _ _ _ _ :: _) _ _; refine Hid.out ?_))
        refine Lib.hid ?_
        refine wpList_putCell rfl 26 _ _ rfl (gC) 9 (.int .u32 (val (bl s) (a + 7) 4 : Nat)) _ _ 71 rfl rfl HB22.out.r0 (by kernel_rfl) (by simp) rfl rfl rfl ?_
        intro w23 hr23 hg23
        have HO3 := Lib.hid (HO2.out.kept hg23.out (.inr (fun e => (hne gC e) rfl)))
        have HB23 : Hid (Bx w [(gC, .cells #[.int .u32 (val (bl s) a 4 : Nat), .bool (bit (bl s) (a + 4) 0), .bool (bit (bl s) (a + 4) 1), .bool (bit (bl s) (a + 4) 2), .bool (bit (bl s) (a + 4) 3), .int .i64 (val (bl s) (a + 5) 1 : Nat), .bool (bit (bl s) (a + 4) 4), .int .i64 (val (bl s) (a + 6) 1 : Nat), .bool (bit (bl s) (a + 4) 5), .int .u32 (val (bl s) (a + 7) 4 : Nat), .float .f64 0] 71 (0, 0)), (gx, .cells #[.int .u32 (val (bl s) 2 4 : Nat), .int .u32 (val (bl s) 6 4 : Nat), .int .i64 (val (bl s) 10 1 : Nat), .int .i64 (val (bl s) 11 1 : Nat), .slice xA k xc] 33 (0, 0)), (w.heap.size, .cells #[.int .i64 f, .int .i64 d, .int .i64 r, .int .i64 p, .float .f64 e1, .float .f64 e2, .float .f64 e3, .slice A cs.length cap] 25 (0, 0)), (w.heap.size + 1, .cells #[.int .u32 0, .int .u32 0, .int .i64 0, .int .i64 0, .slice none 0 0] 33 (0, 0))] w23) := Lib.hid (HB22.out.put (by omega) hg23.out hr23.out (by simp only [List.mem_cons, List.not_mem_nil, or_false]; rintro p (rfl | rfl | rfl | rfl) <;> simp <;> omega))
        clear hr23 hg23 HB22
        go_wp2_with (first | (go_at_call 48; (first | (with_reducible refine (V0.out _).mono ?_) | (with_reducible refine (V7.out _).mono ?_) | (with_reducible refine (V11.out _).mono ?_)); rintro e w' ⟨rfl, rfl⟩) | (with_reducible show wpList _ _ _ (Oper.mk _ (.store 22 _ _) _ _ _ _ :: _) _ _; refine Hid.out ?_))
        refine Lib.hid ?_
        refine wpList_putCell rfl 22 _ _ rfl (gC) 10 (.float .f64 (val (bl s) (a + 11) 8)) _ _ 71 rfl rfl HB23.out.r0 (by kernel_rfl) (by simp) rfl rfl rfl ?_
        intro w24 hr24 hg24
        have HO4 := Lib.hid (HO3.out.kept hg24.out (.inr (fun e => (hne gC e) rfl)))
        have HB24 : Hid (Bx w [(gC, .cells #[.int .u32 (val (bl s) a 4 : Nat), .bool (bit (bl s) (a + 4) 0), .bool (bit (bl s) (a + 4) 1), .bool (bit (bl s) (a + 4) 2), .bool (bit (bl s) (a + 4) 3), .int .i64 (val (bl s) (a + 5) 1 : Nat), .bool (bit (bl s) (a + 4) 4), .int .i64 (val (bl s) (a + 6) 1 : Nat), .bool (bit (bl s) (a + 4) 5), .int .u32 (val (bl s) (a + 7) 4 : Nat), .float .f64 (val (bl s) (a + 11) 8)] 71 (0, 0)), (gx, .cells #[.int .u32 (val (bl s) 2 4 : Nat), .int .u32 (val (bl s) 6 4 : Nat), .int .i64 (val (bl s) 10 1 : Nat), .int .i64 (val (bl s) 11 1 : Nat), .slice xA k xc] 33 (0, 0)), (w.heap.size, .cells #[.int .i64 f, .int .i64 d, .int .i64 r, .int .i64 p, .float .f64 e1, .float .f64 e2, .float .f64 e3, .slice A cs.length cap] 25 (0, 0)), (w.heap.size + 1, .cells #[.int .u32 0, .int .u32 0, .int .i64 0, .int .i64 0, .slice none 0 0] 33 (0, 0))] w24) := Lib.hid (HB23.out.put (by omega) hg24.out hr24.out (by simp only [List.mem_cons, List.not_mem_nil, or_false]; rintro p (rfl | rfl | rfl | rfl) <;> simp <;> omega))
        clear hr24 hg24 HB23
        have c0_0 : w24.cell? ⟨gC, 0, none⟩ = some (.int .u32 (val (bl s) a 4 : Nat)) := cell_of_row _ _ _ _ _ (0, 0) HB24.out.r0
        have c0_1 : w24.cell? ⟨gC, 1, none⟩ = some (.bool (bit (bl s) (a + 4) 0)) := cell_of_row _ _ _ _ _ (0, 0) HB24.out.r0
        have c0_2 : w24.cell? ⟨gC, 2, none⟩ = some (.bool (bit (bl s) (a + 4) 1)) := cell_of_row _ _ _ _ _ (0, 0) HB24.out.r0
        have c0_3 : w24.cell? ⟨gC, 3, none⟩ = some (.bool (bit (bl s) (a + 4) 2)) := cell_of_row _ _ _ _ _ (0, 0) HB24.out.r0
        have c0_4 : w24.cell? ⟨gC, 4, none⟩ = some (.bool (bit (bl s) (a + 4) 3)) := cell_of_row _ _ _ _ _ (0, 0) HB24.out.r0
        have c0_5 : w24.cell? ⟨gC, 5, none⟩ = some (.int .i64 (val (bl s) (a + 5) 1 : Nat)) := cell_of_row _ _ _ _ _ (0, 0) HB24.out.r0
        have c0_6 : w24.cell? ⟨gC, 6, none⟩ = some (.bool (bit (bl s) (a + 4) 4)) := cell_of_row _ _ _ _ _ (0, 0) HB24.out.r0
        have c0_7 : w24.cell? ⟨gC, 7, none⟩ = some (.int .i64 (val (bl s) (a + 6) 1 : Nat)) := cell_of_row _ _ _ _ _ (0, 0) HB24.out.r0
        have c0_8 : w24.cell? ⟨gC, 8, none⟩ = some (.bool (bit (bl s) (a + 4) 5)) := cell_of_row _ _ _ _ _ (0, 0) HB24.out.r0
        have c0_9 : w24.cell? ⟨gC, 9, none⟩ = some (.int .u32 (val (bl s) (a + 7) 4 : Nat)) := cell_of_row _ _ _ _ _ (0, 0) HB24.out.r0
        have c0_10 : w24.cell? ⟨gC, 10, none⟩ = some (.float .f64 (val (bl s) (a + 11) 8)) := cell_of_row _ _ _ _ _ (0, 0) HB24.out.r0
        have c1_4 : w24.cell? ⟨gx, 4, none⟩ = some (.slice xA k xc) := cell_of_row _ _ _ _ _ (0, 0) HB24.out.r1
        have z0 : gC < w24.heap.size := (Array.getElem?_eq_some_iff.1 HB24.out.r0).1
        have z1 : gx < w24.heap.size := (Array.getElem?_eq_some_iff.1 HB24.out.r1).1
        have z2 : w.heap.size < w24.heap.size := (Array.getElem?_eq_some_iff.1 HB24.out.r2).1
        have z3 : w.heap.size + 1 < w24.heap.size := (Array.getElem?_eq_some_iff.1 HB24.out.r3).1
        have hsz4 : w3.heap.size ≤ w24.heap.size := by omega
        have hm63 : k + 1 ≤ maxLen := by unfold maxLen; omega
        go_wp2_with (at_builtin; refine wpList_append_own _ rfl (.tmp 103) (.tmp 105) 31 rfl (w3.heap.size) 71 i0 _ 11 56 Try.underlying31 hi0 hz0 hz1 hz2 rfl (by decide) (.slice xA k xc) k (flatIn (CL k)) rfl (HO4.out.alloc _) ⟨w24.heap.size, 0, none⟩ 1 1 _ rfl ?hl (World.news_of_block (heap_alloc_new _ _)) ?h1 hm63 ?hby ?hbase ?hK)
        case h1 => first | exact ⟨rfl, rfl, rfl, rfl, rfl, rfl, rfl, rfl, rfl, rfl, rfl⟩ | (intro u hu; simp only [List.mem_cons, List.not_mem_nil, or_false] at hu; rcases hu with rfl | rfl | rfl | rfl | rfl | rfl | rfl | rfl | rfl | rfl | rfl <;> rfl)
        case hby => omega
        case hbase => simp; omega
        intro v' w25 hown' hgrow _
        obtain ⟨yA, yc, rfl⟩ := own_slice hown'
        have hown2 : w25.ownsRow (w3.heap.size) 71 11 (.slice yA (k + 1) yc) (k + 1) (flatIn (CL (k + 1))) := by rw [HN.out, flatIn_snoc]; exact hown'
        have HO5 := Lib.hid hown2
        have HB25 : Hid (Bx w [(gx, .cells #[.int .u32 (val (bl s) 2 4 : Nat), .int .u32 (val (bl s) 6 4 : Nat), .int .i64 (val (bl s) 10 1 : Nat), .int .i64 (val (bl s) 11 1 : Nat), .slice xA k xc] 33 (0, 0)), (w.heap.size, .cells #[.int .i64 f, .int .i64 d, .int .i64 r, .int .i64 p, .float .f64 e1, .float .f64 e2, .float .f64 e3, .slice A cs.length cap] 25 (0, 0)), (w.heap.size + 1, .cells #[.int .u32 0, .int .u32 0, .int .i64 0, .int .i64 0, .slice none 0 0] 33 (0, 0))] w25) := Lib.hid ⟨(HB24.out.below.alloc (HB24.out.below.size) _).grown hgrow (by have := HB24.out.below.size; simp; omega) (fun j e => by have := hb0 j e; omega), by simp only [List.mem_cons, List.not_mem_nil, or_false]; rintro q (rfl | rfl | rfl); exact (hgrow.block _ (by simp; omega) (fun e => by have := hb0 _ e.symm; omega)).trans ((Below.heap_alloc _ _ _ (by omega)).trans HB24.out.r1); exact (hgrow.block _ (by simp; omega) (fun e => by have := hb0 _ e.symm; omega)).trans ((Below.heap_alloc _ _ _ (by omega)).trans HB24.out.r2); exact (hgrow.block _ (by simp; omega) (fun e => by have := hb0 _ e.symm; omega)).trans ((Below.heap_alloc _ _ _ (by omega)).trans HB24.out.r3)⟩
        clear c0_0 c0_1 c0_2 c0_3 c0_4 c0_5 c0_6 c0_7 c0_8 c0_9 c0_10 c1_4 hown2 hown' hgrow HB24 HO4 z0 z1 z2 z3
        go_wp2_with (with_reducible show wpList _ _ _ (Oper.mk _ (.store 31 _ _) _ _ _ _ :: _) _ _; refine Hid.out ?_)
        refine Lib.hid ?_
        refine wpList_putCell rfl 31 _ _ rfl (gx) 4 (.slice yA (k + 1) yc) _ _ 33 rfl rfl HB25.out.r0 (by kernel_rfl) (by simp) rfl rfl rfl ?_
        intro w26 hr26 hg26
        have HO6 := Lib.hid (own_keep HO5.out (fun j e => hg26.out.block j (HO5.out.lt j e).2 (fun q => by injection q with q; have := (HO5.out.lt j e).1; omega)))
        have HB26 : Hid (Bx w [(gx, .cells #[.int .u32 (val (bl s) 2 4 : Nat), .int .u32 (val (bl s) 6 4 : Nat), .int .i64 (val (bl s) 10 1 : Nat), .int .i64 (val (bl s) 11 1 : Nat), .slice yA (k + 1) yc] 33 (0, 0)), (w.heap.size, .cells #[.int .i64 f, .int .i64 d, .int .i64 r, .int .i64 p, .float .f64 e1, .float .f64 e2, .float .f64 e3, .slice A cs.length cap] 25 (0, 0)), (w.heap.size + 1, .cells #[.int .u32 0, .int .u32 0, .int .i64 0, .int .i64 0, .slice none 0 0] 33 (0, 0))] w26) := Lib.hid (HB25.out.put (by omega) hg26.out hr26.out (by simp only [List.mem_cons, List.not_mem_nil, or_false]; rintro p (rfl | rfl | rfl) <;> simp <;> omega))
        clear hr26 hg26 HB25
        go_wp2_with fail
        go_roundw
        case rel => exact ⟨k + 1, yA, yc, by omega, by go_num, HO6.out, by obtain ⟨g, c', -, h1, h2⟩ := HO6.out.form (Nat.succ_pos k); omega, HB26.out⟩
        case measure => simp [intOf]; omega
      · obtain rfl : k = cs.length := by omega
        have hkI : ¬ (cs.length : Int) < (cs.length : Int) := by omega
        have HCV := Lib.hid (own_carsV HO.out)
        have c0_0 : wr.cell? ⟨gx, 0, none⟩ = some (.int .u32 (val (bl s) 2 4 : Nat)) := cell_of_row _ _ _ _ _ (0, 0) HBR.out.r0
        have c0_1 : wr.cell? ⟨gx, 1, none⟩ = some (.int .u32 (val (bl s) 6 4 : Nat)) := cell_of_row _ _ _ _ _ (0, 0) HBR.out.r0
        have c0_2 : wr.cell? ⟨gx, 2, none⟩ = some (.int .i64 (val (bl s) 10 1 : Nat)) := cell_of_row _ _ _ _ _ (0, 0) HBR.out.r0
        have c0_3 : wr.cell? ⟨gx, 3, none⟩ = some (.int .i64 (val (bl s) 11 1 : Nat)) := cell_of_row _ _ _ _ _ (0, 0) HBR.out.r0
        have c0_4 : wr.cell? ⟨gx, 4, none⟩ = some (.slice xA cs.length xc) := cell_of_row _ _ _ _ _ (0, 0) HBR.out.r0
        have c1_0 : wr.cell? ⟨w.heap.size, 0, none⟩ = some (.int .i64 f) := cell_of_row _ _ _ _ _ (0, 0) HBR.out.r1
        have c1_1 : wr.cell? ⟨w.heap.size, 1, none⟩ = some (.int .i64 d) := cell_of_row _ _ _ _ _ (0, 0) HBR.out.r1
        have c1_2 : wr.cell? ⟨w.heap.size, 2, none⟩ = some (.int .i64 r) := cell_of_row _ _ _ _ _ (0, 0) HBR.out.r1
        have c1_3 : wr.cell? ⟨w.heap.size, 3, none⟩ = some (.int .i64 p) := cell_of_row _ _ _ _ _ (0, 0) HBR.out.r1
        have c1_4 : wr.cell? ⟨w.heap.size, 4, none⟩ = some (.float .f64 e1) := cell_of_row _ _ _ _ _ (0, 0) HBR.out.r1
        have c1_5 : wr.cell? ⟨w.heap.size, 5, none⟩ = some (.float .f64 e2) := cell_of_row _ _ _ _ _ (0, 0) HBR.out.r1
        have c1_6 : wr.cell? ⟨w.heap.size, 6, none⟩ = some (.float .f64 e3) := cell_of_row _ _ _ _ _ (0, 0) HBR.out.r1
        have c1_7 : wr.cell? ⟨w.heap.size, 7, none⟩ = some (.slice A cs.length cap) := cell_of_row _ _ _ _ _ (0, 0) HBR.out.r1
        go_wp2_with fail
        refine (FIn.out xA xc _ HBR.out.below HCV.out).mono ?_
        rintro e w21 ⟨rfl, hb21⟩
        have HOz := Lib.hid (own_keep HO.out (fun j e => hb21.block j (HO.out.lt j e).2))
        have HB21 := Lib.hid (HBR.out.next hb21)
        clear c0_0 c0_1 c0_2 c0_3 c0_4 c1_0 c1_1 c1_2 c1_3 c1_4 c1_5 c1_6 c1_7 hb21 HBR
        rcases HANS.out with ⟨hr, he⟩ | ⟨hr, he | ⟨tx, htx, he⟩⟩
        · subst he
          have c0_0 : w21.cell? ⟨gx, 0, none⟩ = some (.int .u32 (val (bl s) 2 4 : Nat)) := cell_of_row _ _ _ _ _ (0, 0) HB21.out.r0
          have c0_1 : w21.cell? ⟨gx, 1, none⟩ = some (.int .u32 (val (bl s) 6 4 : Nat)) := cell_of_row _ _ _ _ _ (0, 0) HB21.out.r0
          have c0_2 : w21.cell? ⟨gx, 2, none⟩ = some (.int .i64 (val (bl s) 10 1 : Nat)) := cell_of_row _ _ _ _ _ (0, 0) HB21.out.r0
          have c0_3 : w21.cell? ⟨gx, 3, none⟩ = some (.int .i64 (val (bl s) 11 1 : Nat)) := cell_of_row _ _ _ _ _ (0, 0) HB21.out.r0
          have c0_4 : w21.cell? ⟨gx, 4, none⟩ = some (.slice xA cs.length xc) := cell_of_row _ _ _ _ _ (0, 0) HB21.out.r0
          go_wp2_with (with_reducible show wpList _ _ _ (Oper.mk _ (.store 33 _ _) _ _ _ _ :: _) _ _; refine Hid.out ?_)
          refine Lib.hid ?_
          refine wpList_put rfl 33 _ _ rfl (w.heap.size + 1) #[.int .u32 (val (bl s) 2 4 : Nat), .int .u32 (val (bl s) 6 4 : Nat), .int .i64 (val (bl s) 10 1 : Nat), .int .i64 (val (bl s) 11 1 : Nat), .slice xA cs.length xc] _ 33 rfl rfl HB21.out.r2 (by kernel_rfl) rfl (by kernel_rfl) ?_
          intro w22 hr22 hg22
          have HOy := Lib.hid (own_keep HOz.out (fun j e => hg22.out.block j (HOz.out.lt j e).2 (fun q => by injection q with q; have := (HOz.out.lt j e).1; omega)))
          have HB22 : Hid (Bx w [(gx, .cells #[.int .u32 (val (bl s) 2 4 : Nat), .int .u32 (val (bl s) 6 4 : Nat), .int .i64 (val (bl s) 10 1 : Nat), .int .i64 (val (bl s) 11 1 : Nat), .slice xA cs.length xc] 33 (0, 0)), (w.heap.size, .cells #[.int .i64 f, .int .i64 d, .int .i64 r, .int .i64 p, .float .f64 e1, .float .f64 e2, .float .f64 e3, .slice A cs.length cap] 25 (0, 0)), (w.heap.size + 1, .cells #[.int .u32 (val (bl s) 2 4 : Nat), .int .u32 (val (bl s) 6 4 : Nat), .int .i64 (val (bl s) 10 1 : Nat), .int .i64 (val (bl s) 11 1 : Nat), .slice xA cs.length xc] 33 (0, 0))] w22) := Lib.hid (HB21.out.put (by omega) hg22.out hr22.out (by simp only [List.mem_cons, List.not_mem_nil, or_false]; rintro p (rfl | rfl | rfl) <;> simp <;> omega))
          clear c0_0 c0_1 c0_2 c0_3 c0_4 hr22 hg22 HB21
          go_wp2_with fail
          exact bodyPost_ret (results_row_tmp Try.results23 _ _ _ _ _ (0, 0) _ rfl HB22.out.r2 Try.underlying33 rfl (by kernel_rfl)) rfl (⟨HB22.out.below, .inl ⟨HOK.out, hr, xA, xc, by rw [← HPO.out hr]; exact own_carsV HOy.out, by rw [← HPO.out hr]; simp only [inAgg, HCL.out]; rfl⟩⟩)
        iterate 2
          · subst he
            have c0_0 : w21.cell? ⟨gx, 0, none⟩ = some (.int .u32 (val (bl s) 2 4 : Nat)) := cell_of_row _ _ _ _ _ (0, 0) HB21.out.r0
            have c0_1 : w21.cell? ⟨gx, 1, none⟩ = some (.int .u32 (val (bl s) 6 4 : Nat)) := cell_of_row _ _ _ _ _ (0, 0) HB21.out.r0
            have c0_2 : w21.cell? ⟨gx, 2, none⟩ = some (.int .i64 (val (bl s) 10 1 : Nat)) := cell_of_row _ _ _ _ _ (0, 0) HB21.out.r0
            have c0_3 : w21.cell? ⟨gx, 3, none⟩ = some (.int .i64 (val (bl s) 11 1 : Nat)) := cell_of_row _ _ _ _ _ (0, 0) HB21.out.r0
            have c0_4 : w21.cell? ⟨gx, 4, none⟩ = some (.slice xA cs.length xc) := cell_of_row _ _ _ _ _ (0, 0) HB21.out.r0
            go_wp2_with (with_reducible show wpList _ _ _ (Oper.mk _ (.store 33 _ _) _ _ _ _ :: _) _ _; refine Hid.out ?_)
            refine Lib.hid ?_
            refine wpList_put rfl 33 _ _ rfl (w.heap.size + 1) #[.int .u32 0, .int .u32 0, .int .i64 0, .int .i64 0, .slice none 0 0] _ 33 rfl rfl HB21.out.r2 (by kernel_rfl) rfl (by kernel_rfl) ?_
            intro w22 hr22 hg22
            have HB22 : Hid (Bx w [(gx, .cells #[.int .u32 (val (bl s) 2 4 : Nat), .int .u32 (val (bl s) 6 4 : Nat), .int .i64 (val (bl s) 10 1 : Nat), .int .i64 (val (bl s) 11 1 : Nat), .slice xA cs.length xc] 33 (0, 0)), (w.heap.size, .cells #[.int .i64 f, .int .i64 d, .int .i64 r, .int .i64 p, .float .f64 e1, .float .f64 e2, .float .f64 e3, .slice A cs.length cap] 25 (0, 0)), (w.heap.size + 1, .cells #[.int .u32 0, .int .u32 0, .int .i64 0, .int .i64 0, .slice none 0 0] 33 (0, 0))] w22) := Lib.hid (HB21.out.put (by omega) hg22.out hr22.out (by simp only [List.mem_cons, List.not_mem_nil, or_false]; rintro p (rfl | rfl | rfl) <;> simp <;> omega))
            clear c0_0 c0_1 c0_2 c0_3 c0_4 hr22 hg22 HB21
            go_wp2_with fail
            exact bodyPost_ret (results_row_tmp Try.results23 _ _ _ _ _ (0, 0) _ rfl HB22.out.r2 Try.underlying33 rfl (by kernel_rfl)) rfl (⟨HB22.out.below, .inr ⟨31, HRE.out hr, by decide, rfl⟩⟩)
  · generalize openEF x s (sizeIn x) 165 = E at *
    have hEb : (E != 0) = true := bne_iff_ne.2 hE
    have HRE := Lib.hid hre
    clear hre
    generalize sizeIn x = SI at *
    generalize sizeOut x = SO at *
    obtain ⟨f, d, r, p, e1, e2, e3, cs⟩ := x
    simp only [BldD.agg] at *
    have HB0 := Lib.hid (bxs2 w (.cells #[.int .i64 f, .int .i64 d, .int .i64 r, .int .i64 p, .float .f64 e1, .float .f64 e2, .float .f64 e3, .slice A cs.length cap] 25) (.cells #[.int .u32 0, .int .u32 0, .int .i64 0, .int .i64 0, .slice none 0 0] 33))
    go_enter Try.func23, Try.ntmps23
    go_wp2_with fail
    refine (HSI.out _ HB0.out.below).mono ?_
    rintro e w1 ⟨rfl, hb1⟩
    have HB1 := Lib.hid (HB0.out.next hb1)
    clear hb1 HB0
    have c0_0 : w1.cell? ⟨w.heap.size, 0, none⟩ = some (.int .i64 f) := cell_of_row _ _ _ _ _ (0, 0) HB1.out.r0
    have c0_1 : w1.cell? ⟨w.heap.size, 1, none⟩ = some (.int .i64 d) := cell_of_row _ _ _ _ _ (0, 0) HB1.out.r0
    have c0_2 : w1.cell? ⟨w.heap.size, 2, none⟩ = some (.int .i64 r) := cell_of_row _ _ _ _ _ (0, 0) HB1.out.r0
    have c0_3 : w1.cell? ⟨w.heap.size, 3, none⟩ = some (.int .i64 p) := cell_of_row _ _ _ _ _ (0, 0) HB1.out.r0
    have c0_4 : w1.cell? ⟨w.heap.size, 4, none⟩ = some (.float .f64 e1) := cell_of_row _ _ _ _ _ (0, 0) HB1.out.r0
    have c0_5 : w1.cell? ⟨w.heap.size, 5, none⟩ = some (.float .f64 e2) := cell_of_row _ _ _ _ _ (0, 0) HB1.out.r0
    have c0_6 : w1.cell? ⟨w.heap.size, 6, none⟩ = some (.float .f64 e3) := cell_of_row _ _ _ _ _ (0, 0) HB1.out.r0
    have c0_7 : w1.cell? ⟨w.heap.size, 7, none⟩ = some (.slice A cs.length cap) := cell_of_row _ _ _ _ _ (0, 0) HB1.out.r0
    go_wp2_with fail
    refine (HOF.out _ HB1.out.below).mono ?_
    rintro e w2 ⟨rfl, hb2⟩
    have HB2 := Lib.hid (HB1.out.next hb2)
    clear c0_0 c0_1 c0_2 c0_3 c0_4 c0_5 c0_6 c0_7 hb2 HB1
    have c0_0 : w2.cell? ⟨w.heap.size, 0, none⟩ = some (.int .i64 f) := cell_of_row _ _ _ _ _ (0, 0) HB2.out.r0
    have c0_1 : w2.cell? ⟨w.heap.size, 1, none⟩ = some (.int .i64 d) := cell_of_row _ _ _ _ _ (0, 0) HB2.out.r0
    have c0_2 : w2.cell? ⟨w.heap.size, 2, none⟩ = some (.int .i64 r) := cell_of_row _ _ _ _ _ (0, 0) HB2.out.r0
    have c0_3 : w2.cell? ⟨w.heap.size, 3, none⟩ = some (.int .i64 p) := cell_of_row _ _ _ _ _ (0, 0) HB2.out.r0
    have c0_4 : w2.cell? ⟨w.heap.size, 4, none⟩ = some (.float .f64 e1) := cell_of_row _ _ _ _ _ (0, 0) HB2.out.r0
    have c0_5 : w2.cell? ⟨w.heap.size, 5, none⟩ = some (.float .f64 e2) := cell_of_row _ _ _ _ _ (0, 0) HB2.out.r0
    have c0_6 : w2.cell? ⟨w.heap.size, 6, none⟩ = some (.float .f64 e3) := cell_of_row _ _ _ _ _ (0, 0) HB2.out.r0
    have c0_7 : w2.cell? ⟨w.heap.size, 7, none⟩ = some (.slice A cs.length cap) := cell_of_row _ _ _ _ _ (0, 0) HB2.out.r0
    clear c0_0 c0_1 c0_2 c0_3 c0_4 c0_5 c0_6 c0_7
    clear HSI HOF
    go_wp2_with (with_reducible show wpList _ _ _ (Oper.mk _ (.store 33 _ _) _ _ _ _ :: _) _ _; refine Hid.out ?_)
    refine Lib.hid ?_
    refine wpList_put rfl 33 _ _ rfl (w.heap.size + 1) #[.int .u32 0, .int .u32 0, .int .i64 0, .int .i64 0, .slice none 0 0] _ 33 rfl rfl HB2.out.r1 (by kernel_rfl) rfl (by kernel_rfl) ?_
    intro w3 hr3 hg3
    have HB3 : Hid (Bx w [(w.heap.size, .cells #[.int .i64 f, .int .i64 d, .int .i64 r, .int .i64 p, .float .f64 e1, .float .f64 e2, .float .f64 e3, .slice A cs.length cap] 25 (0, 0)), (w.heap.size + 1, .cells #[.int .u32 0, .int .u32 0, .int .i64 0, .int .i64 0, .slice none 0 0] 33 (0, 0))] w3) := Lib.hid (HB2.out.put (by omega) hg3.out hr3.out (by simp only [List.mem_cons, List.not_mem_nil, or_false]; rintro p (rfl | rfl) <;> simp <;> omega))
    clear hr3 hg3 HB2
    go_wp2_with fail
    exact bodyPost_ret (results_row_tmp Try.results23 _ _ _ _ _ (0, 0) _ rfl HB3.out.r1 Try.underlying33 rfl (by kernel_rfl)) rfl (⟨HB3.out.below, .inr ⟨E, HRE.out, hE, rfl⟩⟩)
end Go.Proofs.Ythbfpdkgbkpmiaa
