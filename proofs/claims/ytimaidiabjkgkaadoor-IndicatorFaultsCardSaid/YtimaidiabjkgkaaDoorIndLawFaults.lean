/- The law IndicatorFaults: contradictory contacts show nothing. No condition but the tables. -/
import Derived.Test.YtimaidiabjkgkaaDoorIndOneM
import Derived.Test.YtimaidiabjkgkaaDoorArgs2
import Derived.Test.YtimaidiabjkgkaaDoorDecls4
import Derived.Test.YtimaidiabjkgkaaDoorCards
import Derived.Test.YtimaidiabjkgkaaDoorTie
import Derived.SevenTiedAt
import Derived.Deep.AppendLies
import Derived.Laws.AppendOwn
namespace Go.Proofs.YtimaidiabjkgkaaDoor
open Go Go.RowKit Go.ChangeShapes Go.WideShapes Go.ChangeAt

theorem or_pow {p q : Nat} (h : p ≠ q) (k : Nat) : 2 ^ p ||| 2 ^ q ≠ 2 ^ k := fun e => by
  have h1 := congrArg (fun x => x.testBit p) e
  have h2 := congrArg (fun x => x.testBit q) e
  simp only [Nat.testBit_or, Nat.testBit_two_pow] at h1 h2
  simp at h1 h2
  omega
theorem floor_none {m : Int} {x : Nat} (h : ∀ k : Nat, k < 32 → x ≠ 2 ^ k) : Ind.floorI m x = -1 := by
  rcases Ind.floorI_cases m x with ⟨k, hk, e, _⟩ | ⟨_, e⟩
  · exact absurd e (h k hk)
  · exact e
theorem floor_zero (m : Int) : Ind.floorI m 0 = -1 := floor_none fun k _ e => by
  have := Nat.two_pow_pos k
  omega
theorem ctInfo : (Tryd.prog.info? 28).map (fun i => (i.zero, i.size, i.bytes)) = some (some (.agg #[.int .u32 0, .bool false, .bool false, .bool false, .bool false]), 5, 8) := by kernel_rfl
theorem shl_one5 {k : Nat} (h : k < 32) : (2 : Int) ^ k % 4294967296 = ((2 ^ k : Nat) : Int) := shl_one h
set_option linter.unusedVariables false
set_option linter.unusedSimpArgs false
set_option maxRecDepth 100000 in
set_option maxHeartbeats 8000000 in
theorem lawIndicatorFaults_walk (nx : Int) (c : Ct) (ax bx : Int) (w : World) (hT : Tabs w) (hn : (Lit.int .u8 nx).wf = true) (hc : c.ok) (hab : (Lit.int .u8 ax).wf = true ∧ (Lit.int .u8 bx).wf = true) :
    Calls Tryd.prog 7 #[.int .u8 nx, c.agg, .agg #[.int .u8 ax, .int .u8 bx]] w fun e w' => e = .returned (.bool true) ∧ Below w.heap.size w w' := by
  obtain ⟨n, rfl, hn2⟩ := u8_nat hn
  clear hn
  obtain ⟨a, rfl, ha⟩ := u8_nat hab.1
  obtain ⟨b, rfl, hb⟩ := u8_nat hab.2
  clear hab
  obtain ⟨r, hr⟩ : ∃ r : Nat, r = n % 31 := ⟨_, rfl⟩
  obtain ⟨p, hp⟩ : ∃ p : Nat, p = a % 32 := ⟨_, rfl⟩
  obtain ⟨q, hq⟩ : ∃ q : Nat, q = b % 32 := ⟨_, rfl⟩
  have hr31 : r < 31 := by omega
  have hp32 : p < 32 := by omega
  have hq32 : q < 32 := by omega
  have hm1 : (n : Int).tmod 31 = (r : Int) := by rw [Int.tmod_eq_emod_of_nonneg (by omega)]; omega
  have hm2 : (n : Int) % 31 = (r : Int) := by omega
  have ha1 : (a : Int).tmod 32 = (p : Int) := by rw [Int.tmod_eq_emod_of_nonneg (by omega)]; omega
  have ha2 : (a : Int) % 32 = (p : Int) := by omega
  have hb1 : (b : Int).tmod 32 = (q : Int) := by rw [Int.tmod_eq_emod_of_nonneg (by omega)]; omega
  have hb2 : (b : Int) % 32 = (q : Int) := by omega
  obtain ⟨m, hm⟩ : ∃ m : Int, 2 + (r : Int) = m := ⟨_, rfl⟩
  have m2 : 2 ≤ m := by omega
  have m32 : m ≤ 32 := by omega
  have hP := Ct.bit_lt hp32
  have hQ := Ct.bit_lt hq32
  have hsp := shl_one5 hp32
  have hsq := shl_one5 hq32
  have hor := u32_or_nat (2 ^ p) (2 ^ q) hP hQ
  have hO : 2 ^ p ||| 2 ^ q < 4294967296 := Nat.or_lt_two_pow (n := 32) hP hQ
  have HT := Lib.hid (fun (w1 : World) (hb : Below w.heap.size w w1) => hT.below hb)
  have F := Lib.hid (fun (y : Ct) (hy : y.ok) w hT => decode_any m y w hy hT)
  have S := Lib.hid (fun (y : Ob) w => shows_any m y w)
  have HS := Lib.hid (fun w hT => sane_any w hT)
  have HE := Lib.hid (show p ≠ q → ∀ k : Nat, k < 32 → 2 ^ p ||| 2 ^ q ≠ 2 ^ k from fun h k _ => or_pow h k)
  clear hT hr hp hq hP hQ
  obtain ⟨fl, u, d, o, x⟩ := c
  simp only [Ct.agg]
  generalize hOr : 2 ^ p ||| 2 ^ q = PQ at *
  generalize ((2 ^ p : Nat) : Int) = P at *
  generalize ((2 ^ q : Nat) : Int) = Q at *
  clear hOr
  go_enter Tryd.func7, Tryd.ntmps7
  go_wp2_with fail
  try simp only [hsp, hsq, hor, hm, hm1, hm2, ha1, ha2, hb1, hb2]
  have K1 := ((Lit.one w (.cells #[.int .u32 fl, .bool u, .bool d, .bool o, .bool x] 28)).alloc (.cells #[.int .u8 a, .int .u8 b] 39)).alloc (.cells #[.int .u32 (PQ : Int), .bool u, .bool d, .bool o, .bool x] 28)
  have K2 := (Lit.two' w (.cells #[.int .u32 fl, .bool u, .bool d, .bool o, .bool x] 28) (.cells #[.int .u8 a, .int .u8 b] 39)).alloc (.cells #[.int .u32 (PQ : Int), .bool u, .bool d, .bool o, .bool x] 28)
  have K3 : Lit (w.heap.size + 2) ((w.alloc (.cells #[.int .u32 fl, .bool u, .bool d, .bool o, .bool x] 28)).alloc (.cells #[.int .u8 a, .int .u8 b] 39)) (w.heap.size + 2) (.cells #[.int .u32 (PQ : Int), .bool u, .bool d, .bool o, .bool x] 28 (0, 0)) (((w.alloc (.cells #[.int .u32 fl, .bool u, .bool d, .bool o, .bool x] 28)).alloc (.cells #[.int .u8 a, .int .u8 b] 39)).alloc (.cells #[.int .u32 (PQ : Int), .bool u, .bool d, .bool o, .bool x] 28)) := by
    have h := Lit.one ((w.alloc (.cells #[.int .u32 fl, .bool u, .bool d, .bool o, .bool x] 28)).alloc (.cells #[.int .u8 a, .int .u8 b] 39)) (.cells #[.int .u32 (PQ : Int), .bool u, .bool d, .bool o, .bool x] 28)
    simpa using h
  generalize (((w.alloc (.cells #[.int .u32 fl, .bool u, .bool d, .bool o, .bool x] 28)).alloc (.cells #[.int .u8 a, .int .u8 b] 39)).alloc (.cells #[.int .u32 (PQ : Int), .bool u, .bool d, .bool o, .bool x] 28)) = W0 at *
  have HK := Lib.hid (And.intro K1 (And.intro K2 K3))
  clear K1 K2 K3
  refine Ghost.ghost (fun γ L wx => Decls W0.heap.size W0 (decls4 #[.int .u32 fl, .bool u, .bool d, .bool o, .bool x]) γ L wx) (by kernel_rfl) (by kernel_rfl) (fun γ => Decls.start _ γ (Below.refl _ _).drew (Nat.le_refl _)) ?_
  refine Ghost.walk_yes (fun _ => .agg #[.int .u32 fl, .bool u, .bool d, .bool o, .bool x]) (fun γ => by rfl) ?_ ?_
  · intro γ L wx h1 h2 hx K hK
    have K1 := HK.out.1.next hx.below
    have c0 := K1.cell 0
    have c1 := K1.cell 1
    have c2 := K1.cell 2
    have c3 := K1.cell 3
    have c4 := K1.cell 4
    simp only [List.getElem?_toArray, List.getElem?_cons_zero, List.getElem?_cons_succ] at c0 c1 c2 c3 c4
    have HK2 := Lib.hid hK
    clear hK h1 h2 K1
    go_simp
    exact HK2.out 0 _ (hx.quiet 0 (by rfl) (Below.refl _ _))
  simp only [Act.put, List.setIfInBounds_toArray, List.set_cons_succ, List.set_cons_zero]
  refine Ghost.walk_yes (fun _ => .agg #[.int .u32 fl, .bool u, .bool d, .bool o, .bool x]) (fun γ => by rfl) ?_ ?_
  · intro γ L wx h1 h2 hx K hK
    have K1 := HK.out.1.next hx.below
    have c0 := K1.cell 0
    have c1 := K1.cell 1
    have c2 := K1.cell 2
    have c3 := K1.cell 3
    have c4 := K1.cell 4
    simp only [List.getElem?_toArray, List.getElem?_cons_zero, List.getElem?_cons_succ] at c0 c1 c2 c3 c4
    have HK2 := Lib.hid hK
    clear hK h1 h2 K1
    go_simp
    exact HK2.out 0 _ (hx.quiet 0 (by rfl) (Below.refl _ _))
  simp only [Act.put, List.setIfInBounds_toArray, List.set_cons_succ, List.set_cons_zero]
  refine Ghost.walk_yes (fun _ => .agg #[.int .u32 fl, .bool u, .bool d, .bool o, .bool x]) (fun γ => by rfl) ?_ ?_
  · intro γ L wx h1 h2 hx K hK
    have K1 := HK.out.1.next hx.below
    have c0 := K1.cell 0
    have c1 := K1.cell 1
    have c2 := K1.cell 2
    have c3 := K1.cell 3
    have c4 := K1.cell 4
    simp only [List.getElem?_toArray, List.getElem?_cons_zero, List.getElem?_cons_succ] at c0 c1 c2 c3 c4
    have HK2 := Lib.hid hK
    clear hK h1 h2 K1
    go_simp
    exact HK2.out 0 _ (hx.quiet 0 (by rfl) (Below.refl _ _))
  simp only [Act.put, List.setIfInBounds_toArray, List.set_cons_succ, List.set_cons_zero]
  refine Ghost.walk_yes (fun _ => .agg #[.int .u32 fl, .bool u, .bool d, .bool o, .bool x]) (fun γ => by rfl) ?_ ?_
  · intro γ L wx h1 h2 hx K hK
    have K1 := HK.out.1.next hx.below
    have c0 := K1.cell 0
    have c1 := K1.cell 1
    have c2 := K1.cell 2
    have c3 := K1.cell 3
    have c4 := K1.cell 4
    simp only [List.getElem?_toArray, List.getElem?_cons_zero, List.getElem?_cons_succ] at c0 c1 c2 c3 c4
    have HK2 := Lib.hid hK
    clear hK h1 h2 K1
    go_simp
    exact HK2.out 0 _ (hx.quiet 0 (by rfl) (Below.refl _ _))
  simp only [Act.put, List.setIfInBounds_toArray, List.set_cons_succ, List.set_cons_zero]
  refine Ghost.walk_yes (fun b => .pointer (some ⟨b, 0, none⟩)) (fun γ => by rfl) ?_ ?_
  · intro γ L wx h1 h2 hx K hK
    have HK2 := Lib.hid hK
    clear hK h2
    have hL : L (decl4 #[.int .u32 fl, .bool u, .bool d, .bool o, .bool x] 0).al = false := h1
    clear h1
    go_simp
    exact HK2.out wx.heap.size _ (hx.alloc (decl4 #[.int .u32 fl, .bool u, .bool d, .bool o, .bool x] 0) (mem4 _ (by decide)) hL (by rfl) (al4 _))
  simp only [Act.put, List.setIfInBounds_toArray, List.set_cons_succ, List.set_cons_zero]
  refine Ghost.walk_yes (fun b => .pointer (some ⟨b, 0, none⟩)) (fun γ => by rfl) ?_ ?_
  · intro γ L wx h1 h2 hx K hK
    have HK2 := Lib.hid hK
    clear hK h2
    have hL : L (decl4 #[.int .u32 fl, .bool u, .bool d, .bool o, .bool x] 1).al = false := h1
    clear h1
    go_simp
    exact HK2.out wx.heap.size _ (hx.alloc (decl4 #[.int .u32 fl, .bool u, .bool d, .bool o, .bool x] 1) (mem4 _ (by decide)) hL (by rfl) (al4 _))
  simp only [Act.put, List.setIfInBounds_toArray, List.set_cons_succ, List.set_cons_zero]
  refine Ghost.walk_yes (fun b => .pointer (some ⟨b, 0, none⟩)) (fun γ => by rfl) ?_ ?_
  · intro γ L wx h1 h2 hx K hK
    have HK2 := Lib.hid hK
    clear hK h2
    have hL : L (decl4 #[.int .u32 fl, .bool u, .bool d, .bool o, .bool x] 2).al = false := h1
    clear h1
    go_simp
    exact HK2.out wx.heap.size _ (hx.alloc (decl4 #[.int .u32 fl, .bool u, .bool d, .bool o, .bool x] 2) (mem4 _ (by decide)) hL (by rfl) (al4 _))
  simp only [Act.put, List.setIfInBounds_toArray, List.set_cons_succ, List.set_cons_zero]
  refine Ghost.walk_yes (fun b => .pointer (some ⟨b, 0, none⟩)) (fun γ => by rfl) ?_ ?_
  · intro γ L wx h1 h2 hx K hK
    have HK2 := Lib.hid hK
    clear hK h2
    have hL : L (decl4 #[.int .u32 fl, .bool u, .bool d, .bool o, .bool x] 3).al = false := h1
    clear h1
    go_simp
    exact HK2.out wx.heap.size _ (hx.alloc (decl4 #[.int .u32 fl, .bool u, .bool d, .bool o, .bool x] 3) (mem4 _ (by decide)) hL (by rfl) (al4 _))
  simp only [Act.put, List.setIfInBounds_toArray, List.set_cons_succ, List.set_cons_zero]
  refine Ghost.walk_yes (fun _ => undef) (fun γ => by rfl) ?_ ?_
  · intro γ L wx h1 h2 hx K hK
    have hA : L (decl4 #[.int .u32 fl, .bool u, .bool d, .bool o, .bool x] 0).al = true := h2 4 (by kernel_rfl)
    exact hx.wp_store (decl4 #[.int .u32 fl, .bool u, .bool d, .bool o, .bool x] 0) (mem4 _ (by decide)) h1 hA _ _ rfl rfl rfl (by kernel_rfl) rfl (by kernel_rfl) (hK 0 _ (hx.store (decl4 #[.int .u32 fl, .bool u, .bool d, .bool o, .bool x] 0) (mem4 _ (by decide)) hA (by rfl) (st4 _) (al4 _) 0))
  simp only [Act.put, List.setIfInBounds_toArray, List.set_cons_succ, List.set_cons_zero]
  refine Ghost.walk_yes (fun _ => undef) (fun γ => by rfl) ?_ ?_
  · intro γ L wx h1 h2 hx K hK
    have hA : L (decl4 #[.int .u32 fl, .bool u, .bool d, .bool o, .bool x] 1).al = true := h2 5 (by kernel_rfl)
    exact hx.wp_store (decl4 #[.int .u32 fl, .bool u, .bool d, .bool o, .bool x] 1) (mem4 _ (by decide)) h1 hA _ _ rfl rfl rfl (by kernel_rfl) rfl (by kernel_rfl) (hK 0 _ (hx.store (decl4 #[.int .u32 fl, .bool u, .bool d, .bool o, .bool x] 1) (mem4 _ (by decide)) hA (by rfl) (st4 _) (al4 _) 0))
  simp only [Act.put, List.setIfInBounds_toArray, List.set_cons_succ, List.set_cons_zero]
  refine Ghost.walk_yes (fun _ => undef) (fun γ => by rfl) ?_ ?_
  · intro γ L wx h1 h2 hx K hK
    have hA : L (decl4 #[.int .u32 fl, .bool u, .bool d, .bool o, .bool x] 2).al = true := h2 6 (by kernel_rfl)
    exact hx.wp_store (decl4 #[.int .u32 fl, .bool u, .bool d, .bool o, .bool x] 2) (mem4 _ (by decide)) h1 hA _ _ rfl rfl rfl (by kernel_rfl) rfl (by kernel_rfl) (hK 0 _ (hx.store (decl4 #[.int .u32 fl, .bool u, .bool d, .bool o, .bool x] 2) (mem4 _ (by decide)) hA (by rfl) (st4 _) (al4 _) 0))
  simp only [Act.put, List.setIfInBounds_toArray, List.set_cons_succ, List.set_cons_zero]
  refine Ghost.walk_yes (fun _ => undef) (fun γ => by rfl) ?_ ?_
  · intro γ L wx h1 h2 hx K hK
    have hA : L (decl4 #[.int .u32 fl, .bool u, .bool d, .bool o, .bool x] 3).al = true := h2 7 (by kernel_rfl)
    exact hx.wp_store (decl4 #[.int .u32 fl, .bool u, .bool d, .bool o, .bool x] 3) (mem4 _ (by decide)) h1 hA _ _ rfl rfl rfl (by kernel_rfl) rfl (by kernel_rfl) (hK 0 _ (hx.store (decl4 #[.int .u32 fl, .bool u, .bool d, .bool o, .bool x] 3) (mem4 _ (by decide)) hA (by rfl) (st4 _) (al4 _) 0))
  simp only [Act.put, List.setIfInBounds_toArray, List.set_cons_succ, List.set_cons_zero]
  refine Ghost.walk_nil (fun γ L w1 hall hx => ?_)
  simp only [Nat.zero_add, Nat.reduceAdd]
  have hall2 : ∀ j, j < 12 → L j = true := fun j hj => hall j hj
  have K1 := HK.out.1.next hx.below
  have K2 := HK.out.2.1.next hx.below
  have K3 := HK.out.2.2.next hx.below
  have hw3 := HK.out.2.2.lt
  clear hall HK
  have R0 : W0.heap.size ≤ γ 4 ∧ w1.heap[γ 4]? = some (.cells #[.int .u32 fl, .bool u, .bool d, .bool o, .bool x] 28 (0, 0)) := by
    have h := hx.row (decl4 #[.int .u32 fl, .bool u, .bool d, .bool o, .bool x] 0) (mem4 _ (by decide)) (hall2 4 (by decide))
    rw [if_pos (show L (decl4 #[.int .u32 fl, .bool u, .bool d, .bool o, .bool x] 0).st = true from hall2 8 (by decide))] at h
    exact h
  have R1 : W0.heap.size ≤ γ 5 ∧ w1.heap[γ 5]? = some (.cells #[.int .u32 fl, .bool u, .bool d, .bool o, .bool x] 28 (0, 0)) := by
    have h := hx.row (decl4 #[.int .u32 fl, .bool u, .bool d, .bool o, .bool x] 1) (mem4 _ (by decide)) (hall2 5 (by decide))
    rw [if_pos (show L (decl4 #[.int .u32 fl, .bool u, .bool d, .bool o, .bool x] 1).st = true from hall2 9 (by decide))] at h
    exact h
  have R2 : W0.heap.size ≤ γ 6 ∧ w1.heap[γ 6]? = some (.cells #[.int .u32 fl, .bool u, .bool d, .bool o, .bool x] 28 (0, 0)) := by
    have h := hx.row (decl4 #[.int .u32 fl, .bool u, .bool d, .bool o, .bool x] 2) (mem4 _ (by decide)) (hall2 6 (by decide))
    rw [if_pos (show L (decl4 #[.int .u32 fl, .bool u, .bool d, .bool o, .bool x] 2).st = true from hall2 10 (by decide))] at h
    exact h
  have R3 : W0.heap.size ≤ γ 7 ∧ w1.heap[γ 7]? = some (.cells #[.int .u32 fl, .bool u, .bool d, .bool o, .bool x] 28 (0, 0)) := by
    have h := hx.row (decl4 #[.int .u32 fl, .bool u, .bool d, .bool o, .bool x] 3) (mem4 _ (by decide)) (hall2 7 (by decide))
    rw [if_pos (show L (decl4 #[.int .u32 fl, .bool u, .bool d, .bool o, .bool x] 3).st = true from hall2 11 (by decide))] at h
    exact h
  have n01 : ¬ γ 4 = γ 5 := hx.apart (decl4 #[.int .u32 fl, .bool u, .bool d, .bool o, .bool x] 0) (mem4 _ (by decide)) (decl4 #[.int .u32 fl, .bool u, .bool d, .bool o, .bool x] 1) (mem4 _ (by decide)) (by show 4 + 0 ≠ 4 + 1; decide) (hall2 4 (by decide)) (hall2 5 (by decide))
  have n02 : ¬ γ 4 = γ 6 := hx.apart (decl4 #[.int .u32 fl, .bool u, .bool d, .bool o, .bool x] 0) (mem4 _ (by decide)) (decl4 #[.int .u32 fl, .bool u, .bool d, .bool o, .bool x] 2) (mem4 _ (by decide)) (by show 4 + 0 ≠ 4 + 2; decide) (hall2 4 (by decide)) (hall2 6 (by decide))
  have n03 : ¬ γ 4 = γ 7 := hx.apart (decl4 #[.int .u32 fl, .bool u, .bool d, .bool o, .bool x] 0) (mem4 _ (by decide)) (decl4 #[.int .u32 fl, .bool u, .bool d, .bool o, .bool x] 3) (mem4 _ (by decide)) (by show 4 + 0 ≠ 4 + 3; decide) (hall2 4 (by decide)) (hall2 7 (by decide))
  have n10 : ¬ γ 5 = γ 4 := hx.apart (decl4 #[.int .u32 fl, .bool u, .bool d, .bool o, .bool x] 1) (mem4 _ (by decide)) (decl4 #[.int .u32 fl, .bool u, .bool d, .bool o, .bool x] 0) (mem4 _ (by decide)) (by show 4 + 1 ≠ 4 + 0; decide) (hall2 5 (by decide)) (hall2 4 (by decide))
  have n12 : ¬ γ 5 = γ 6 := hx.apart (decl4 #[.int .u32 fl, .bool u, .bool d, .bool o, .bool x] 1) (mem4 _ (by decide)) (decl4 #[.int .u32 fl, .bool u, .bool d, .bool o, .bool x] 2) (mem4 _ (by decide)) (by show 4 + 1 ≠ 4 + 2; decide) (hall2 5 (by decide)) (hall2 6 (by decide))
  have n13 : ¬ γ 5 = γ 7 := hx.apart (decl4 #[.int .u32 fl, .bool u, .bool d, .bool o, .bool x] 1) (mem4 _ (by decide)) (decl4 #[.int .u32 fl, .bool u, .bool d, .bool o, .bool x] 3) (mem4 _ (by decide)) (by show 4 + 1 ≠ 4 + 3; decide) (hall2 5 (by decide)) (hall2 7 (by decide))
  have n20 : ¬ γ 6 = γ 4 := hx.apart (decl4 #[.int .u32 fl, .bool u, .bool d, .bool o, .bool x] 2) (mem4 _ (by decide)) (decl4 #[.int .u32 fl, .bool u, .bool d, .bool o, .bool x] 0) (mem4 _ (by decide)) (by show 4 + 2 ≠ 4 + 0; decide) (hall2 6 (by decide)) (hall2 4 (by decide))
  have n21 : ¬ γ 6 = γ 5 := hx.apart (decl4 #[.int .u32 fl, .bool u, .bool d, .bool o, .bool x] 2) (mem4 _ (by decide)) (decl4 #[.int .u32 fl, .bool u, .bool d, .bool o, .bool x] 1) (mem4 _ (by decide)) (by show 4 + 2 ≠ 4 + 1; decide) (hall2 6 (by decide)) (hall2 5 (by decide))
  have n23 : ¬ γ 6 = γ 7 := hx.apart (decl4 #[.int .u32 fl, .bool u, .bool d, .bool o, .bool x] 2) (mem4 _ (by decide)) (decl4 #[.int .u32 fl, .bool u, .bool d, .bool o, .bool x] 3) (mem4 _ (by decide)) (by show 4 + 2 ≠ 4 + 3; decide) (hall2 6 (by decide)) (hall2 7 (by decide))
  have n30 : ¬ γ 7 = γ 4 := hx.apart (decl4 #[.int .u32 fl, .bool u, .bool d, .bool o, .bool x] 3) (mem4 _ (by decide)) (decl4 #[.int .u32 fl, .bool u, .bool d, .bool o, .bool x] 0) (mem4 _ (by decide)) (by show 4 + 3 ≠ 4 + 0; decide) (hall2 7 (by decide)) (hall2 4 (by decide))
  have n31 : ¬ γ 7 = γ 5 := hx.apart (decl4 #[.int .u32 fl, .bool u, .bool d, .bool o, .bool x] 3) (mem4 _ (by decide)) (decl4 #[.int .u32 fl, .bool u, .bool d, .bool o, .bool x] 1) (mem4 _ (by decide)) (by show 4 + 3 ≠ 4 + 1; decide) (hall2 7 (by decide)) (hall2 5 (by decide))
  have n32 : ¬ γ 7 = γ 6 := hx.apart (decl4 #[.int .u32 fl, .bool u, .bool d, .bool o, .bool x] 3) (mem4 _ (by decide)) (decl4 #[.int .u32 fl, .bool u, .bool d, .bool o, .bool x] 2) (mem4 _ (by decide)) (by show 4 + 3 ≠ 4 + 2; decide) (hall2 7 (by decide)) (hall2 6 (by decide))
  clear hx hall2
  generalize γ 4 = b0 at *
  generalize γ 5 = b1 at *
  generalize γ 6 = b2 at *
  generalize γ 7 = b3 at *

  have L0 : Lit W0.heap.size w1 b0 (.cells #[.int .u32 fl, .bool u, .bool d, .bool o, .bool x] 28 (0, 0)) w1 := ⟨Below.refl _ _, Nat.le_trans R0.1 (Nat.le_of_lt (Lit.lt (B := 0) (W1 := w1) ⟨Below.refl _ _, Nat.zero_le _, R0.2⟩)), R0.2⟩
  have L1 : Lit W0.heap.size w1 b1 (.cells #[.int .u32 fl, .bool u, .bool d, .bool o, .bool x] 28 (0, 0)) w1 := ⟨Below.refl _ _, Nat.le_trans R1.1 (Nat.le_of_lt (Lit.lt (B := 0) (W1 := w1) ⟨Below.refl _ _, Nat.zero_le _, R1.2⟩)), R1.2⟩
  have L2 : Lit W0.heap.size w1 b2 (.cells #[.int .u32 fl, .bool u, .bool d, .bool o, .bool x] 28 (0, 0)) w1 := ⟨Below.refl _ _, Nat.le_trans R2.1 (Nat.le_of_lt (Lit.lt (B := 0) (W1 := w1) ⟨Below.refl _ _, Nat.zero_le _, R2.2⟩)), R2.2⟩
  have L3 : Lit W0.heap.size w1 b3 (.cells #[.int .u32 fl, .bool u, .bool d, .bool o, .bool x] 28 (0, 0)) w1 := ⟨Below.refl _ _, Nat.le_trans R3.1 (Nat.le_of_lt (Lit.lt (B := 0) (W1 := w1) ⟨Below.refl _ _, Nat.zero_le _, R3.2⟩)), R3.2⟩
  have ge0 := R0.1
  have ge1 := R1.1
  have ge2 := R2.1
  have ge3 := R3.1
  have L0' := L0.put ge0 1 (.bool true)
  have L1' := L1.putOther (b' := b0) ge0 n10 1 (.bool true)
  have L2' := L2.putOther (b' := b0) ge0 n20 1 (.bool true)
  have L3' := L3.putOther (b' := b0) ge0 n30 1 (.bool true)
  have K1' := K1.putOther (b' := b0) (by omega) (by omega) 1 (.bool true)
  have K2' := K2.putOther (b' := b0) (by omega) (by omega) 1 (.bool true)
  have K3' := K3.putOther (b' := b0) (by omega) (by omega) 1 (.bool true)
  have L0'' := L0'.put ge0 2 (.bool true)
  have L1'' := L1'.putOther (b' := b0) ge0 n10 2 (.bool true)
  have L2'' := L2'.putOther (b' := b0) ge0 n20 2 (.bool true)
  have L3'' := L3'.putOther (b' := b0) ge0 n30 2 (.bool true)
  have K1'' := K1'.putOther (b' := b0) (by omega) (by omega) 2 (.bool true)
  have K2'' := K2'.putOther (b' := b0) (by omega) (by omega) 2 (.bool true)
  have K3'' := K3'.putOther (b' := b0) (by omega) (by omega) 2 (.bool true)
  have L0''' := L0''.putOther (b' := b1) ge1 n01 3 (.bool true)
  have L1''' := L1''.put ge1 3 (.bool true)
  have L2''' := L2''.putOther (b' := b1) ge1 n21 3 (.bool true)
  have L3''' := L3''.putOther (b' := b1) ge1 n31 3 (.bool true)
  have K1''' := K1''.putOther (b' := b1) (by omega) (by omega) 3 (.bool true)
  have K2''' := K2''.putOther (b' := b1) (by omega) (by omega) 3 (.bool true)
  have K3''' := K3''.putOther (b' := b1) (by omega) (by omega) 3 (.bool true)
  have L0'''' := L0'''.putOther (b' := b1) ge1 n01 4 (.bool true)
  have L1'''' := L1'''.put ge1 4 (.bool true)
  have L2'''' := L2'''.putOther (b' := b1) ge1 n21 4 (.bool true)
  have L3'''' := L3'''.putOther (b' := b1) ge1 n31 4 (.bool true)
  have K1'''' := K1'''.putOther (b' := b1) (by omega) (by omega) 4 (.bool true)
  have K2'''' := K2'''.putOther (b' := b1) (by omega) (by omega) 4 (.bool true)
  have K3'''' := K3'''.putOther (b' := b1) (by omega) (by omega) 4 (.bool true)
  have L0''''' := L0''''.putOther (b' := b2) ge2 n02 0 (.int .u32 0)
  have L1''''' := L1''''.putOther (b' := b2) ge2 n12 0 (.int .u32 0)
  have L2''''' := L2''''.put ge2 0 (.int .u32 0)
  have L3''''' := L3''''.putOther (b' := b2) ge2 n32 0 (.int .u32 0)
  have K1''''' := K1''''.putOther (b' := b2) (by omega) (by omega) 0 (.int .u32 0)
  have K2''''' := K2''''.putOther (b' := b2) (by omega) (by omega) 0 (.int .u32 0)
  have K3''''' := K3''''.putOther (b' := b2) (by omega) (by omega) 0 (.int .u32 0)
  have L0'''''' := L0'''''.putOther (b' := b3) ge3 n03 3 (.bool false)
  have L1'''''' := L1'''''.putOther (b' := b3) ge3 n13 3 (.bool false)
  have L2'''''' := L2'''''.putOther (b' := b3) ge3 n23 3 (.bool false)
  have L3'''''' := L3'''''.put ge3 3 (.bool false)
  have K1'''''' := K1'''''.putOther (b' := b3) (by omega) (by omega) 3 (.bool false)
  have K2'''''' := K2'''''.putOther (b' := b3) (by omega) (by omega) 3 (.bool false)
  have K3'''''' := K3'''''.putOther (b' := b3) (by omega) (by omega) 3 (.bool false)
  have M0 : Lit W0.heap.size w1 b0 (.cells #[.int .u32 fl, .bool true, .bool true, .bool o, .bool x] 28 (0, 0)) ((((((w1.setCell ⟨b0, 1, none⟩ (.bool true)).setCell ⟨b0, 2, none⟩ (.bool true)).setCell ⟨b1, 3, none⟩ (.bool true)).setCell ⟨b1, 4, none⟩ (.bool true)).setCell ⟨b2, 0, none⟩ (.int .u32 0)).setCell ⟨b3, 3, none⟩ (.bool false)) := L0''''''
  have M1 : Lit W0.heap.size w1 b1 (.cells #[.int .u32 fl, .bool u, .bool d, .bool true, .bool true] 28 (0, 0)) ((((((w1.setCell ⟨b0, 1, none⟩ (.bool true)).setCell ⟨b0, 2, none⟩ (.bool true)).setCell ⟨b1, 3, none⟩ (.bool true)).setCell ⟨b1, 4, none⟩ (.bool true)).setCell ⟨b2, 0, none⟩ (.int .u32 0)).setCell ⟨b3, 3, none⟩ (.bool false)) := L1''''''
  have M2 : Lit W0.heap.size w1 b2 (.cells #[.int .u32 0, .bool u, .bool d, .bool o, .bool x] 28 (0, 0)) ((((((w1.setCell ⟨b0, 1, none⟩ (.bool true)).setCell ⟨b0, 2, none⟩ (.bool true)).setCell ⟨b1, 3, none⟩ (.bool true)).setCell ⟨b1, 4, none⟩ (.bool true)).setCell ⟨b2, 0, none⟩ (.int .u32 0)).setCell ⟨b3, 3, none⟩ (.bool false)) := L2''''''
  have M3 : Lit W0.heap.size w1 b3 (.cells #[.int .u32 fl, .bool u, .bool d, .bool false, .bool x] 28 (0, 0)) ((((((w1.setCell ⟨b0, 1, none⟩ (.bool true)).setCell ⟨b0, 2, none⟩ (.bool true)).setCell ⟨b1, 3, none⟩ (.bool true)).setCell ⟨b1, 4, none⟩ (.bool true)).setCell ⟨b2, 0, none⟩ (.int .u32 0)).setCell ⟨b3, 3, none⟩ (.bool false)) := L3''''''
  have HM := Lib.hid (And.intro M0 (And.intro M1 (And.intro M2 (And.intro M3 (And.intro K1'''''' (And.intro K2'''''' K3''''''))))))
  have f01 := L0.free 1
  have f02 := L0.free 2
  have f13 := L1.free 3
  have f14 := L1.free 4
  have f20 := L2.free 0
  have f33 := L3.free 3
  have c00 := L0.cell 0
  have c01 := L0.cell 1
  have c02 := L0.cell 2
  have c03 := L0.cell 3
  have c04 := L0.cell 4
  have c10 := L1.cell 0
  have c11 := L1.cell 1
  have c12 := L1.cell 2
  have c13 := L1.cell 3
  have c14 := L1.cell 4
  have c20 := L2.cell 0
  have c21 := L2.cell 1
  have c22 := L2.cell 2
  have c23 := L2.cell 3
  have c24 := L2.cell 4
  have c30 := L3.cell 0
  have c31 := L3.cell 1
  have c32 := L3.cell 2
  have c33 := L3.cell 3
  have c34 := L3.cell 4
  simp only [List.getElem?_toArray, List.getElem?_cons_zero, List.getElem?_cons_succ] at c00 c01 c02 c03 c04 c10 c11 c12 c13 c14 c20 c21 c22 c23 c24 c30 c31 c32 c33 c34
  clear M0 M1 M2 M3 L0 L0' L0'' L0''' L0'''' L0''''' L0'''''' L1 L1' L1'' L1''' L1'''' L1''''' L1'''''' L2 L2' L2'' L2''' L2'''' L2''''' L2'''''' L3 L3' L3'' L3''' L3'''' L3''''' L3'''''' K1 K1' K1'' K1''' K1'''' K1''''' K1'''''' K2 K2' K2'' K2''' K2'''' K2''''' K2'''''' K3 K3' K3'' K3''' K3'''' K3''''' K3'''''' R0 R1 R2 R3
  go_wp2_with (with_reducible show wpList _ _ _ (Oper.mk _ (.load 28 _) _ _ _ _ :: _) _ _; refine Hid.out ?_)
  generalize ((((((w1.setCell ⟨b0, 1, none⟩ (.bool true)).setCell ⟨b0, 2, none⟩ (.bool true)).setCell ⟨b1, 3, none⟩ (.bool true)).setCell ⟨b1, 4, none⟩ (.bool true)).setCell ⟨b2, 0, none⟩ (.int .u32 0)).setCell ⟨b3, 3, none⟩ (.bool false)) = w2 at *
  clear f01 f02 f13 f14 f20 f33 c00 c01 c02 c03 c04 c10 c11 c12 c13 c14 c20 c21 c22 c23 c24 c30 c31 c32 c33 c34
  obtain ⟨M0, M1, M2, M3, K1, K2, K3⟩ := HM.out
  clear HM
  have c00 := M0.cell 0
  have c01 := M0.cell 1
  have c02 := M0.cell 2
  have c03 := M0.cell 3
  have c04 := M0.cell 4
  have c10 := M1.cell 0
  have c11 := M1.cell 1
  have c12 := M1.cell 2
  have c13 := M1.cell 3
  have c14 := M1.cell 4
  have c20 := M2.cell 0
  have c21 := M2.cell 1
  have c22 := M2.cell 2
  have c23 := M2.cell 3
  have c24 := M2.cell 4
  have c30 := M3.cell 0
  have c31 := M3.cell 1
  have c32 := M3.cell 2
  have c33 := M3.cell 3
  have c34 := M3.cell 4
  have e0 := K2.cell 0
  have e1 := K2.cell 1
  have t0 := K3.cell 0
  have t1 := K3.cell 1
  have t2 := K3.cell 2
  have t3 := K3.cell 3
  have t4 := K3.cell 4
  simp only [List.getElem?_toArray, List.getElem?_cons_zero, List.getElem?_cons_succ] at c00 c01 c02 c03 c04 c10 c11 c12 c13 c14 c20 c21 c22 c23 c24 c30 c31 c32 c33 c34 e0 e1 t0 t1 t2 t3 t4
  have HB := Lib.hid K1.below
  have hN2 : w.heap.size + 2 < w2.heap.size := K3.lt
  have hN1 : w.heap.size + 1 < w2.heap.size := K2.lt
  have hb0 := M0.lt
  have hb1' := M1.lt
  have hb2' := M2.lt
  have hb3 := M3.lt
  clear M0 M1 M2 M3 K1 K2 K3 ge0 ge1 ge2 ge3 n01 n10 n02 n20 n12 n21 n03 n30 n13 n31 n23 n32 hw3
  have F0 : Hid (∀ w, Tabs w → Calls Tryd.prog 11 #[.int .i64 m, .agg #[.int .u32 fl, .bool true, .bool true, .bool o, .bool x]] w fun e w' => e = .returned (Ind.decode m ⟨fl, true, true, o, x⟩).agg ∧ Below w.heap.size w w') := Lib.hid (fun w hT => F.out ⟨fl, true, true, o, x⟩ hc w hT)
  have S0 := Lib.hid (fun w => S.out (Ind.decode m ⟨fl, true, true, o, x⟩) w)
  rw [Ind.shows_none (m := m) (c := ⟨fl, true, true, o, x⟩) (fun q => by rcases q.2.2.2 with h | h; exact Bool.noConfusion (show true = false from h.2.1); exact Bool.noConfusion (show true = false from h.1))] at S0
  simp only [Cl] at S0
  generalize (Ind.decode m ⟨fl, true, true, o, x⟩).agg = V0 at *
  have F1 : Hid (∀ w, Tabs w → Calls Tryd.prog 11 #[.int .i64 m, .agg #[.int .u32 fl, .bool u, .bool d, .bool true, .bool true]] w fun e w' => e = .returned (Ind.decode m ⟨fl, u, d, true, true⟩).agg ∧ Below w.heap.size w w') := Lib.hid (fun w hT => F.out ⟨fl, u, d, true, true⟩ hc w hT)
  have S1 := Lib.hid (fun w => S.out (Ind.decode m ⟨fl, u, d, true, true⟩) w)
  rw [Ind.shows_none (m := m) (c := ⟨fl, u, d, true, true⟩) (fun q => Bool.noConfusion (show true = false from q.2.1))] at S1
  simp only [Cl] at S1
  generalize (Ind.decode m ⟨fl, u, d, true, true⟩).agg = V1 at *
  have F2 : Hid (∀ w, Tabs w → Calls Tryd.prog 11 #[.int .i64 m, .agg #[.int .u32 0, .bool u, .bool d, .bool o, .bool x]] w fun e w' => e = .returned (Ind.decode m ⟨0, u, d, o, x⟩).agg ∧ Below w.heap.size w w') := Lib.hid (fun w hT => F.out ⟨0, u, d, o, x⟩ (by show (0 : Nat) < 4294967296; decide) w hT)
  have S2 := Lib.hid (fun w => S.out (Ind.decode m ⟨0, u, d, o, x⟩) w)
  rw [Ind.shows_none (m := m) (c := ⟨0, u, d, o, x⟩) (fun q => by have h := q.2.2.1; have e : Ind.floorI m 0 = -1 := floor_zero m; simp only at h; omega)] at S2
  simp only [Cl] at S2
  generalize (Ind.decode m ⟨0, u, d, o, x⟩).agg = V2 at *
  have F3 : Hid (∀ w, Tabs w → Calls Tryd.prog 11 #[.int .i64 m, .agg #[.int .u32 fl, .bool u, .bool d, .bool false, .bool x]] w fun e w' => e = .returned (Ind.decode m ⟨fl, u, d, false, x⟩).agg ∧ Below w.heap.size w w') := Lib.hid (fun w hT => F.out ⟨fl, u, d, false, x⟩ hc w hT)
  have S3 := Lib.hid (fun w => S.out (Ind.decode m ⟨fl, u, d, false, x⟩) w)
  rw [Ind.shows_none (m := m) (c := ⟨fl, u, d, false, x⟩) (fun q => Bool.noConfusion (show false = true from q.1))] at S3
  simp only [Cl] at S3
  generalize (Ind.decode m ⟨fl, u, d, false, x⟩).agg = V3 at *
  by_cases hpq : p = q
  case pos =>
    subst hpq
    have hL := (Lit.one w2 (.cells #[.int .u32 fl, .bool true, .bool true, .bool o, .bool x, .int .u32 fl, .bool u, .bool d, .bool true, .bool true, .int .u32 0, .bool u, .bool d, .bool o, .bool x, .int .u32 fl, .bool u, .bool d, .bool false, .bool x] 28))
    have HL : Hid (Lit w.heap.size w w2.heap.size (.cells #[.int .u32 fl, .bool true, .bool true, .bool o, .bool x, .int .u32 fl, .bool u, .bool d, .bool true, .bool true, .int .u32 0, .bool u, .bool d, .bool o, .bool x, .int .u32 fl, .bool u, .bool d, .bool false, .bool x] 28 (0, 0)) (w2.alloc (.cells #[.int .u32 fl, .bool true, .bool true, .bool o, .bool x, .int .u32 fl, .bool u, .bool d, .bool true, .bool true, .int .u32 0, .bool u, .bool d, .bool o, .bool x, .int .u32 fl, .bool u, .bool d, .bool false, .bool x] 28))) := Lib.hid ⟨HB.out.trans (hL.below.mono (by omega)), by have := hL.lt; omega, hL.row⟩
    clear hL
    refine Lib.hid ?_
    go_wp2_with fail
    go_loopw [14] (fun v wr => ∃ k : Nat, k ≤ 4 ∧ v = .int .i64 k ∧ Lit w.heap.size w w2.heap.size (.cells #[.int .u32 fl, .bool true, .bool true, .bool o, .bool x, .int .u32 fl, .bool u, .bool d, .bool true, .bool true, .int .u32 0, .bool u, .bool d, .bool o, .bool x, .int .u32 fl, .bool u, .bool d, .bool false, .bool x] 28 (0, 0)) wr) (fun v _ => 4 - (intOf v).toNat)
    case atStart => exact ⟨0, Nat.zero_le _, rfl, HL.out⟩
    case round =>
      clear HL
      obtain ⟨k, hk, rfl, hL⟩ := hrel
      rcases (show k = 0 ∨ k = 1 ∨ k = 2 ∨ k = 3 ∨ k = 4 from by omega) with rfl | rfl | rfl | rfl | rfl
      · have s0 := hL.cell 0
        have s1 := hL.cell 1
        have s2 := hL.cell 2
        have s3 := hL.cell 3
        have s4 := hL.cell 4
        simp only [List.getElem?_toArray, List.getElem?_cons_zero, List.getElem?_cons_succ] at s0 s1 s2 s3 s4
        have HL := Lib.hid hL
        clear hL
        go_wp2_with fail
        refine (F0.out _ (HT.out _ HL.out.below)).mono ?_
        rintro e w4 ⟨rfl, h4⟩
        have HL2 := Lib.hid (HL.out.next h4)
        clear h4 HL s0 s1 s2 s3 s4
        go_wp2_with fail
        refine (S0.out _).mono ?_
        rintro e w5 ⟨rfl, h5⟩
        have HL3 := Lib.hid (HL2.out.next h5)
        clear h5 HL2
        go_wp2_with fail
        go_roundw
        case rel => exact ⟨1, by omega, by go_num, HL3.out⟩
        case measure => simp [intOf]
      · have s0 := hL.cell 5
        have s1 := hL.cell 6
        have s2 := hL.cell 7
        have s3 := hL.cell 8
        have s4 := hL.cell 9
        simp only [List.getElem?_toArray, List.getElem?_cons_zero, List.getElem?_cons_succ] at s0 s1 s2 s3 s4
        have HL := Lib.hid hL
        clear hL
        go_wp2_with fail
        refine (F1.out _ (HT.out _ HL.out.below)).mono ?_
        rintro e w4 ⟨rfl, h4⟩
        have HL2 := Lib.hid (HL.out.next h4)
        clear h4 HL s0 s1 s2 s3 s4
        go_wp2_with fail
        refine (S1.out _).mono ?_
        rintro e w5 ⟨rfl, h5⟩
        have HL3 := Lib.hid (HL2.out.next h5)
        clear h5 HL2
        go_wp2_with fail
        go_roundw
        case rel => exact ⟨2, by omega, by go_num, HL3.out⟩
        case measure => simp [intOf]
      · have s0 := hL.cell 10
        have s1 := hL.cell 11
        have s2 := hL.cell 12
        have s3 := hL.cell 13
        have s4 := hL.cell 14
        simp only [List.getElem?_toArray, List.getElem?_cons_zero, List.getElem?_cons_succ] at s0 s1 s2 s3 s4
        have HL := Lib.hid hL
        clear hL
        go_wp2_with fail
        refine (F2.out _ (HT.out _ HL.out.below)).mono ?_
        rintro e w4 ⟨rfl, h4⟩
        have HL2 := Lib.hid (HL.out.next h4)
        clear h4 HL s0 s1 s2 s3 s4
        go_wp2_with fail
        refine (S2.out _).mono ?_
        rintro e w5 ⟨rfl, h5⟩
        have HL3 := Lib.hid (HL2.out.next h5)
        clear h5 HL2
        go_wp2_with fail
        go_roundw
        case rel => exact ⟨3, by omega, by go_num, HL3.out⟩
        case measure => simp [intOf]
      · have s0 := hL.cell 15
        have s1 := hL.cell 16
        have s2 := hL.cell 17
        have s3 := hL.cell 18
        have s4 := hL.cell 19
        simp only [List.getElem?_toArray, List.getElem?_cons_zero, List.getElem?_cons_succ] at s0 s1 s2 s3 s4
        have HL := Lib.hid hL
        clear hL
        go_wp2_with fail
        refine (F3.out _ (HT.out _ HL.out.below)).mono ?_
        rintro e w4 ⟨rfl, h4⟩
        have HL2 := Lib.hid (HL.out.next h4)
        clear h4 HL s0 s1 s2 s3 s4
        go_wp2_with fail
        refine (S3.out _).mono ?_
        rintro e w5 ⟨rfl, h5⟩
        have HL3 := Lib.hid (HL2.out.next h5)
        clear h5 HL2
        go_wp2_with fail
        go_roundw
        case rel => exact ⟨4, by omega, by go_num, HL3.out⟩
        case measure => simp [intOf]
      · have HL := Lib.hid hL
        clear hL
        go_wp2_with fail
        refine (HS.out _ (HT.out _ HL.out.below)).mono ?_
        rintro e w4 ⟨rfl, h4⟩
        have HL2 := Lib.hid (HL.out.next h4).below
        clear h4 HL
        go_wp2_with fail
        go_ret
        exact ⟨rfl, HL2.out⟩
  have F4 : Hid (∀ w, Tabs w → Calls Tryd.prog 11 #[.int .i64 m, .agg #[.int .u32 (PQ : Int), .bool u, .bool d, .bool o, .bool x]] w fun e w' => e = .returned (Ind.decode m ⟨PQ, u, d, o, x⟩).agg ∧ Below w.heap.size w w') := Lib.hid (fun w hT => F.out ⟨PQ, u, d, o, x⟩ hO w hT)
  have S4 := Lib.hid (fun w => S.out (Ind.decode m ⟨PQ, u, d, o, x⟩) w)
  rw [Ind.shows_none (m := m) (c := ⟨PQ, u, d, o, x⟩) (fun q => by have h := q.2.2.1; have e : Ind.floorI m PQ = -1 := floor_none (HE.out hpq); simp only at h; omega)] at S4
  simp only [Cl] at S4
  generalize (Ind.decode m ⟨PQ, u, d, o, x⟩).agg = V4 at *
  have hpqb : ((p : Int) == (q : Int)) = false := beq_eq_false_iff_ne.2 (by omega)
  obtain ⟨i0, hi0, hz0, hz1, hz2⟩ := info_parts ctInfo
  have hm63 : 4 + 1 ≤ maxLen := by unfold maxLen; omega
  have HO : Hid ((w2.alloc (.cells #[.int .u32 fl, .bool true, .bool true, .bool o, .bool x, .int .u32 fl, .bool u, .bool d, .bool true, .bool true, .int .u32 0, .bool u, .bool d, .bool o, .bool x, .int .u32 fl, .bool u, .bool d, .bool false, .bool x] 28)).ownsRow w2.heap.size 28 5 (.slice (some ⟨w2.heap.size, 0, none⟩) 4 4) 4 [.int .u32 fl, .bool true, .bool true, .bool o, .bool x, .int .u32 fl, .bool u, .bool d, .bool true, .bool true, .int .u32 0, .bool u, .bool d, .bool o, .bool x, .int .u32 fl, .bool u, .bool d, .bool false, .bool x]) := Lib.hid ⟨rfl, .inr ⟨w2.heap.size, 4, #[.int .u32 fl, .bool true, .bool true, .bool o, .bool x, .int .u32 fl, .bool u, .bool d, .bool true, .bool true, .int .u32 0, .bool u, .bool d, .bool o, .bool x, .int .u32 fl, .bool u, .bool d, .bool false, .bool x], rfl, Nat.le_refl _, heap_alloc_new _ _, Nat.le_refl _, by unfold maxLen; omega, rfl, rfl⟩⟩
  have hN := World.news_of_block (w := (w2.alloc (.cells #[.int .u32 fl, .bool true, .bool true, .bool o, .bool x, .int .u32 fl, .bool u, .bool d, .bool true, .bool true, .int .u32 0, .bool u, .bool d, .bool o, .bool x, .int .u32 fl, .bool u, .bool d, .bool false, .bool x] 28)).alloc (.cells #[.int .u32 (PQ : Int), .bool u, .bool d, .bool o, .bool x] 28)) (B := w2.heap.size + 1) (cs := #[.int .u32 (PQ : Int), .bool u, .bool d, .bool o, .bool x]) (by simpa using heap_alloc_new (w2.alloc (.cells #[.int .u32 fl, .bool true, .bool true, .bool o, .bool x, .int .u32 fl, .bool u, .bool d, .bool true, .bool true, .int .u32 0, .bool u, .bool d, .bool o, .bool x, .int .u32 fl, .bool u, .bool d, .bool false, .bool x] 28)) (.cells #[.int .u32 (PQ : Int), .bool u, .bool d, .bool o, .bool x] 28))
  have HN := Lib.hid hN
  clear hN
  refine Lib.hid ?_
  go_wp2_with (at_builtin; refine wpList_append_own _ rfl (.tmp 54) (.tmp 56) 29 rfl w2.heap.size 28 i0 _ 5 8 Tryd.underlying29 hi0 hz0 hz1 hz2 rfl (by decide) _ 4 [.int .u32 fl, .bool true, .bool true, .bool o, .bool x, .int .u32 fl, .bool u, .bool d, .bool true, .bool true, .int .u32 0, .bool u, .bool d, .bool o, .bool x, .int .u32 fl, .bool u, .bool d, .bool false, .bool x] rfl (HO.out.alloc _) ⟨w2.heap.size + 1, 0, none⟩ 1 1 _ rfl ?hl HN.out ?h1 hm63 ?hby ?hbase ?hK)
  case h1 => exact ⟨rfl, rfl, rfl, rfl, rfl⟩
  case hbase => first | omega | (simp; omega)
  intro v' w3 hown' hgrow _
  obtain ⟨-, h | ⟨g, cap, cur, hv, hbg, hg, -, -, -, ht⟩⟩ := hown'
  · exact absurd h.2 (by decide)
  subst hv
  have hbw := ((HB.out.alloc (by omega) (.cells #[.int .u32 fl, .bool true, .bool true, .bool o, .bool x, .int .u32 fl, .bool u, .bool d, .bool true, .bool true, .int .u32 0, .bool u, .bool d, .bool o, .bool x, .int .u32 fl, .bool u, .bool d, .bool false, .bool x] 28)).alloc (by simp; omega) (.cells #[.int .u32 (PQ : Int), .bool u, .bool d, .bool o, .bool x] 28)).grown hgrow (by simp; omega) (fun k hk => by have h : w2.heap.size = k := Option.some.inj hk; omega)
  have hlt : g < w3.heap.size := by
    rcases Nat.lt_or_ge g w3.heap.size with h | h
    · exact h
    · rw [Array.getElem?_eq_none h] at hg; cases hg
  have HL : Hid (Lit w.heap.size w g (.cells cur 28 (0, 0)) w3) := Lib.hid ⟨hbw, by omega, hg⟩
  have HC : Hid (∀ j, j < 25 → cur[j]? = ([.int .u32 fl, .bool true, .bool true, .bool o, .bool x, .int .u32 fl, .bool u, .bool d, .bool true, .bool true, .int .u32 0, .bool u, .bool d, .bool o, .bool x, .int .u32 fl, .bool u, .bool d, .bool false, .bool x, .int .u32 (PQ : Int), .bool u, .bool d, .bool o, .bool x] : List Value)[j]?) := Lib.hid (fun j hj => by
    have h1 := congrArg (fun l => l[j]?) ht
    simp only [List.getElem?_take] at h1
    rw [if_pos (by omega)] at h1
    rw [← Array.getElem?_toList, h1])
  clear hbw hlt hg ht hgrow hbg HO HN HB c00 c01 c02 c03 c04 c10 c11 c12 c13 c14 c20 c21 c22 c23 c24 c30 c31 c32 c33 c34 e0 e1 t0 t1 t2 t3 t4
  go_wp2_with fail
  go_loopw [14] (fun v wr => ∃ k : Nat, k ≤ 5 ∧ v = .int .i64 k ∧ Lit w.heap.size w g (.cells cur 28 (0, 0)) wr) (fun v _ => 5 - (intOf v).toNat)
  case atStart => exact ⟨0, Nat.zero_le _, rfl, HL.out⟩
  case round =>
    clear HL
    obtain ⟨k, hk, rfl, hL⟩ := hrel
    rcases (show k = 0 ∨ k = 1 ∨ k = 2 ∨ k = 3 ∨ k = 4 ∨ k = 5 from by omega) with rfl | rfl | rfl | rfl | rfl | rfl
    · have s0 := (hL.cell 0).trans (HC.out 0 (by decide))
      have s1 := (hL.cell 1).trans (HC.out 1 (by decide))
      have s2 := (hL.cell 2).trans (HC.out 2 (by decide))
      have s3 := (hL.cell 3).trans (HC.out 3 (by decide))
      have s4 := (hL.cell 4).trans (HC.out 4 (by decide))
      simp only [List.getElem?_toArray, List.getElem?_cons_zero, List.getElem?_cons_succ] at s0 s1 s2 s3 s4
      have HL := Lib.hid hL
      clear hL
      go_wp2_with fail
      refine (F0.out _ (HT.out _ HL.out.below)).mono ?_
      rintro e w4 ⟨rfl, h4⟩
      have HL2 := Lib.hid (HL.out.next h4)
      clear h4 HL s0 s1 s2 s3 s4
      go_wp2_with fail
      refine (S0.out _).mono ?_
      rintro e w5 ⟨rfl, h5⟩
      have HL3 := Lib.hid (HL2.out.next h5)
      clear h5 HL2
      go_wp2_with fail
      go_roundw
      case rel => exact ⟨1, by omega, by go_num, HL3.out⟩
      case measure => simp [intOf]
    · have s0 := (hL.cell 5).trans (HC.out 5 (by decide))
      have s1 := (hL.cell 6).trans (HC.out 6 (by decide))
      have s2 := (hL.cell 7).trans (HC.out 7 (by decide))
      have s3 := (hL.cell 8).trans (HC.out 8 (by decide))
      have s4 := (hL.cell 9).trans (HC.out 9 (by decide))
      simp only [List.getElem?_toArray, List.getElem?_cons_zero, List.getElem?_cons_succ] at s0 s1 s2 s3 s4
      have HL := Lib.hid hL
      clear hL
      go_wp2_with fail
      refine (F1.out _ (HT.out _ HL.out.below)).mono ?_
      rintro e w4 ⟨rfl, h4⟩
      have HL2 := Lib.hid (HL.out.next h4)
      clear h4 HL s0 s1 s2 s3 s4
      go_wp2_with fail
      refine (S1.out _).mono ?_
      rintro e w5 ⟨rfl, h5⟩
      have HL3 := Lib.hid (HL2.out.next h5)
      clear h5 HL2
      go_wp2_with fail
      go_roundw
      case rel => exact ⟨2, by omega, by go_num, HL3.out⟩
      case measure => simp [intOf]
    · have s0 := (hL.cell 10).trans (HC.out 10 (by decide))
      have s1 := (hL.cell 11).trans (HC.out 11 (by decide))
      have s2 := (hL.cell 12).trans (HC.out 12 (by decide))
      have s3 := (hL.cell 13).trans (HC.out 13 (by decide))
      have s4 := (hL.cell 14).trans (HC.out 14 (by decide))
      simp only [List.getElem?_toArray, List.getElem?_cons_zero, List.getElem?_cons_succ] at s0 s1 s2 s3 s4
      have HL := Lib.hid hL
      clear hL
      go_wp2_with fail
      refine (F2.out _ (HT.out _ HL.out.below)).mono ?_
      rintro e w4 ⟨rfl, h4⟩
      have HL2 := Lib.hid (HL.out.next h4)
      clear h4 HL s0 s1 s2 s3 s4
      go_wp2_with fail
      refine (S2.out _).mono ?_
      rintro e w5 ⟨rfl, h5⟩
      have HL3 := Lib.hid (HL2.out.next h5)
      clear h5 HL2
      go_wp2_with fail
      go_roundw
      case rel => exact ⟨3, by omega, by go_num, HL3.out⟩
      case measure => simp [intOf]
    · have s0 := (hL.cell 15).trans (HC.out 15 (by decide))
      have s1 := (hL.cell 16).trans (HC.out 16 (by decide))
      have s2 := (hL.cell 17).trans (HC.out 17 (by decide))
      have s3 := (hL.cell 18).trans (HC.out 18 (by decide))
      have s4 := (hL.cell 19).trans (HC.out 19 (by decide))
      simp only [List.getElem?_toArray, List.getElem?_cons_zero, List.getElem?_cons_succ] at s0 s1 s2 s3 s4
      have HL := Lib.hid hL
      clear hL
      go_wp2_with fail
      refine (F3.out _ (HT.out _ HL.out.below)).mono ?_
      rintro e w4 ⟨rfl, h4⟩
      have HL2 := Lib.hid (HL.out.next h4)
      clear h4 HL s0 s1 s2 s3 s4
      go_wp2_with fail
      refine (S3.out _).mono ?_
      rintro e w5 ⟨rfl, h5⟩
      have HL3 := Lib.hid (HL2.out.next h5)
      clear h5 HL2
      go_wp2_with fail
      go_roundw
      case rel => exact ⟨4, by omega, by go_num, HL3.out⟩
      case measure => simp [intOf]
    · have s0 := (hL.cell 20).trans (HC.out 20 (by decide))
      have s1 := (hL.cell 21).trans (HC.out 21 (by decide))
      have s2 := (hL.cell 22).trans (HC.out 22 (by decide))
      have s3 := (hL.cell 23).trans (HC.out 23 (by decide))
      have s4 := (hL.cell 24).trans (HC.out 24 (by decide))
      simp only [List.getElem?_toArray, List.getElem?_cons_zero, List.getElem?_cons_succ] at s0 s1 s2 s3 s4
      have HL := Lib.hid hL
      clear hL
      go_wp2_with fail
      refine (F4.out _ (HT.out _ HL.out.below)).mono ?_
      rintro e w4 ⟨rfl, h4⟩
      have HL2 := Lib.hid (HL.out.next h4)
      clear h4 HL s0 s1 s2 s3 s4
      go_wp2_with fail
      refine (S4.out _).mono ?_
      rintro e w5 ⟨rfl, h5⟩
      have HL3 := Lib.hid (HL2.out.next h5)
      clear h5 HL2
      go_wp2_with fail
      go_roundw
      case rel => exact ⟨5, by omega, by go_num, HL3.out⟩
      case measure => simp [intOf]
    · have HL := Lib.hid hL
      clear hL
      go_wp2_with fail
      refine (HS.out _ (HT.out _ HL.out.below)).mono ?_
      rintro e w4 ⟨rfl, h4⟩
      have HL2 := Lib.hid (HL.out.next h4).below
      clear h4 HL
      go_wp2_with fail
      go_ret
      exact ⟨rfl, HL2.out⟩

set_option maxRecDepth 100000 in
theorem lawIndicatorFaults_lifted (os : Os) (started : os.Started) (H : Type) (enc : TypeId × Value → H) :
    ReturnsInHanded {} Tryd.checked os 7 .any (fun w args => (Rows.indicatorFaultsSpec.pre enc Tryd.prog Tryd.f7 [] false w args ∧ laidMetH Tryd.prog laidAll w) ∧ sizedMet enc Tryd.prog Tryd.f7 (OpenSpec.ofChange Rows.indicatorFaultsSpec) false w args) (Rows.indicatorFaultsSpec.post enc Tryd.prog Tryd.f7 false true false false) := by
  refine returnsInHanded_of_change_and (C := Tryd.checked) (X := fun w _ => laidMetH Tryd.prog laidAll w) (fun _ _ _ hh h => h.of_heap hh) own started (by kernel_rfl) Tryd.func7
    (ChangeSpec.witness_shaped (enc := enc) (C := Tryd.checked) (os := os) (X := fun w _ => laidMetH Tryd.prog laidAll w) false (World.doorLaid Tryd.prog 24 os) #[.int .u8 0, .agg #[.int .u32 0, .bool false, .bool false, .bool false, .bool false], .agg #[.int .u8 0, .int .u8 0]] 8 rfl (World.shaped_of_RefB (by kernel_rfl) (by kernel_rfl)) (by kernel_rfl) (by kernel_rfl) (by kernel_rfl) (door_met os _)) ?_
  intro W base args ds gs before hval0 hW _ _ hL _
  have hval : ∀ (j : Nat) t v, Tryd.f7.params[j]? = some t → args[j]? = some v → Value.okWide Tryd.prog W .any base t v := hval0
  have hW' := hW
  obtain ⟨p, q, hA0, hV, rfl, hfz, hnd⟩ := hW
  have hA : DataW.TrodAll enc Tryd.prog W 0 (fun _ => true) true Tryd.f7.params.toList args.toList ds p := hA0
  rw [Tryd.params7] at hA hval
  obtain ⟨v0, vs0, d0, ds0, p0, q0, hargs, rfl, rfl, h0, r0⟩ := trodAll_cons hA
  obtain ⟨v1, vs1, d1, ds1, p1, q1, rfl, rfl, rfl, h1, r1⟩ := trodAll_cons r0
  obtain ⟨v2, vs2, d2, ds2, p2, q2, rfl, rfl, rfl, h2, r2⟩ := trodAll_cons r1
  obtain ⟨rfl, rfl, rfl⟩ := trodAll_nil r2
  obtain rfl : args = #[v0, v1, v2] := by cases args; simp_all
  obtain ⟨rfl, rfl⟩ := trodVars_none hV
  obtain ⟨x0, rfl, rfl, rfl, g0⟩ := open_int Tryd.underlying5 (hval 0 5 v0 rfl rfl) h0
  have k1 := h1
  have lt1 : ∀ x ∈ p1, x.block < W.heap.size := by obtain ⟨m, hm⟩ := k1; exact DataW.trod_lt m _ _ _ hm
  obtain ⟨x1, rfl, g1⟩ := open_ct (hval 1 28 v1 rfl rfl) h1
  have k2 := h2
  have lt2 : ∀ x ∈ p2, x.block < W.heap.size := by obtain ⟨m, hm⟩ := k2; exact DataW.trod_lt m _ _ _ hm
  obtain ⟨x2, y2, rfl, g2⟩ := open_au8_2 (hval 2 39 v2 rfl rfl) h2
  clear hA0 hval0
  refine (lawIndicatorFaults_walk x0 x1 x2 y2 W (tabs_of_laid hL) g0 g1 g2).mono fun e W' ⟨he, bel⟩ => ?_
  subst he
  exact ⟨_, rfl, _, _, _, [], _, [], hW', trodAll_mk1 (shut_bool Tryd.underlying4 _), (trodAll_cons_mk (shut_int Tryd.underlying5 g0) (trodAll_cons_mk (Below.trod laidOut (by kernel_rfl) (of_decide_eq_true (by kernel_rfl)) k1 bel lt1) (trodAll_cons_mk (Below.trod laidOut (by kernel_rfl) (of_decide_eq_true (by kernel_rfl)) k2 bel lt2) trodAll_mk0))), rfl, bel.frame _, fun h => by cases h⟩

theorem lawIndicatorFaults_over : Rows.indicatorFaultsRow.holds Tryd.pinned (OpenSpec.ofChange Rows.indicatorFaultsSpec) :=
  OpenClaim.holds_of_wide 7 Tryd.f7 rfl rfl rfl rfl rfl rfl rfl ⟨rfl, rfl, rfl, rfl, rfl⟩ rfl rfl rfl rfl rfl (by kernel_rfl) Tryd.func7 (by kernel_rfl)
    (of_decide_eq_true (by kernel_rfl)) (by unfold Func.isWrapper; first | (rw [if_pos (by decide +kernel)]; kernel_rfl) | (rw [if_neg (by decide +kernel)]; exact ⟨rfl, rfl⟩))
    (fun os started H enc _ => lawIndicatorFaults_lifted os started H enc)

theorem indicatorFaults_card : Rows.IndicatorFaultsCardSaid :=
  Claim7.holds_tied_plain_at .later [] _ _ _ _ lawIndicatorFaults_over (fun _ h => by cases h) (by kernel_rfl) (fun _ h => by cases h) indicatorFaults_row_tie rfl ⟨rfl, rfl⟩ (by kernel_rfl) rfl
    (fun f fn hf hfn => by
      obtain rfl : f = 7 := Option.some.inj ((show Tryd.prog.funcNamed "overlay/overlaylaw05.IndicatorFaults" = some 7 by kernel_rfl).symm.trans hf) |>.symm
      obtain rfl : fn = Tryd.f7 := (Option.some.inj (Tryd.func7.symm.trans hfn)).symm
      exact ⟨by kernel_rfl, fun j t ht => by
        rw [Tryd.params7] at ht
        have hm : t ∈ [5, 28, 39] := by simpa using Array.mem_of_getElem? ht
        have hall : ([5, 28, 39].all fun u => !Tryd.prog.wantsStandIn u) = true := by kernel_rfl
        exact (show Tryd.prog.wantsStandIn t = false by simpa using List.all_eq_true.1 hall t hm)⟩)
    (by kernel_rfl)
#print axioms indicatorFaults_card

end Go.Proofs.YtimaidiabjkgkaaDoor
