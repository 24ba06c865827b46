/- What the texts behind this one rest on: several texts in one. No statement of the seat is proved here. -/
import Derived.Test.YtifbkoaggjikpaaLM10
import Derived.Test.YtifbkoaggjikpaaLM03
import Derived.Shelf.Strings.Builder1
namespace Go.Proofs.Ytifbkoaggjikpaa
section
open Go.RowKit

/-- Where the cells of a slice lie. -/
def SrcAt (w : World) (A : Option Addr) (vs : List Value) : Prop := (A = none ∧ vs = []) ∨ ∃ a, A = some a ∧ ∀ j u, vs[j]? = some u → w.cell? (a.add j) = some u
theorem src_nil (w : World) (A : Option Addr) : SrcAt w A [] := by
  cases A with
  | none => exact .inl ⟨rfl, rfl⟩
  | some a => exact .inr ⟨a, rfl, fun j u h => by simp at h⟩
theorem VAt.src {w : World} {A : Option Addr} {vs : List Value} (h : VAt w A vs) : SrcAt w A vs := by
  rcases h with rfl | ⟨b, off, rfl, _, hr⟩
  · exact src_nil w A
  · refine .inr ⟨_, rfl, fun j u hu => ?_⟩
    rw [Addr.add_lit, hr j (List.getElem?_eq_some_iff.1 hu).1]
    exact hu
theorem EAt.src {w : World} {A : Option Addr} {l : List En} (h : EAt w A l) : SrcAt w A (flatE l) := by
  rcases h with rfl | ⟨b, off, rfl, hr⟩
  · exact src_nil w A
  · refine .inr ⟨_, rfl, fun j u hu => ?_⟩
    rw [Addr.add_lit]
    exact hr j u hu
theorem src_news {w : World} {a : Addr} {vs : List Value} (h : ∀ j u, vs[j]? = some u → w.cell? (a.add j) = some u) (o : Obj) : ∀ j u, vs[j]? = some u → (w.alloc o).cell? (a.add j) = some u := fun j u hu =>
  (((Below.refl w.heap.size w).alloc (Nat.le_refl _) o).cell (p := a.add j) (World.block_lt_of_cell? w _ (h j u hu))).trans (h j u hu)

set_option maxRecDepth 100000 in
theorem cloneI_any (A : Option Addr) (cap n : Nat) (vs : List Value) (w : World) (hn : vs.length = n * 1) (hm : n ≤ 1000000) (hs : SrcAt w A vs) (h1 : ∀ u ∈ vs, u.oneCell' = true) :
    Calls Try.prog 63 #[.slice A n cap] w fun e w' => ∃ v', e = .returned v' ∧ w'.ownsRow w.heap.size 3 1 v' n vs ∧ Below w.heap.size w w' := by
  obtain ⟨i0, hi0, hz0, hz1, hz2⟩ := info_parts intInfo
  have q22 : ∀ (w : World) (a : Option Addr) (n c n' c' : Nat), (binOp .eql 28 (.slice a n c) (.slice none n' c')).run Try.prog w = .ok (.bool a.isNone) w := fun w a n c n' c' => Lib.run_eql_slice_nil w _ _ a n c n' c' Try.underlying28
  rcases hs with ⟨rfl, rfl⟩ | ⟨a, rfl, hc⟩
  · have h0 : n = 0 := by simp at hn; omega
    have hO := Lib.hid (World.ownsRow_nil w w.heap.size 3 1)
    have H0 := Lib.hid h0
    clear h0 hn hm
    go_enter Try.func63, Try.ntmps63
    go_wp2
    go_ret
    exact ⟨_, rfl, by rw [H0.out]; exact hO.out, Below.refl _ _⟩
  · have HC := Lib.hid (src_news hc (.cells #[] 3))
    have HN := Lib.hid hn
    clear hc hn
    have hm63 : 0 + n ≤ maxLen := by unfold maxLen; omega
    go_enter Try.func63, Try.ntmps63
    go_wp2_with (at_builtin; refine wpList_append_own _ rfl (.tmp 5) (.tmp 6) 28 rfl w.heap.size 3 i0 _ 1 8 Try.underlying28 hi0 hz0 hz1 hz2 rfl (by decide) (.slice (some ⟨w.heap.size, 0, none⟩) 0 0) 0 [] rfl (World.ownsRow_made w #[] 0 (Nat.le_refl _) (Nat.zero_le _) (by simp)) a n cap vs rfl HN.out HC.out h1 hm63 ?hby ?hbase ?hK)
    case hby => omega
    case hbase => simp
    intro v' w' hown' hgrow _
    have hb := below_grown hgrow (B := w.heap.size) (by simp) (fun k hk => by simp [Value.ownBlock] at hk; omega)
    have HF := Lib.hid (And.intro hown' (((Below.refl w.heap.size w).alloc (Nat.le_refl _) _).trans hb))
    clear hown' hgrow hb
    go_wp2
    go_ret
    exact ⟨_, rfl, HF.out.1, HF.out.2⟩

set_option maxRecDepth 100000 in
theorem cloneB_any (A : Option Addr) (cap n : Nat) (vs : List Value) (w : World) (hn : vs.length = n * 1) (hm : n ≤ 1000000) (hs : SrcAt w A vs) (h1 : ∀ u ∈ vs, u.oneCell' = true) :
    Calls Try.prog 64 #[.slice A n cap] w fun e w' => ∃ v', e = .returned v' ∧ w'.ownsRow w.heap.size 4 1 v' n vs ∧ Below w.heap.size w w' := by
  obtain ⟨i0, hi0, hz0, hz1, hz2⟩ := info_parts boolInfo
  have q22 : ∀ (w : World) (a : Option Addr) (n c n' c' : Nat), (binOp .eql 29 (.slice a n c) (.slice none n' c')).run Try.prog w = .ok (.bool a.isNone) w := fun w a n c n' c' => Lib.run_eql_slice_nil w _ _ a n c n' c' Try.underlying29
  rcases hs with ⟨rfl, rfl⟩ | ⟨a, rfl, hc⟩
  · have h0 : n = 0 := by simp at hn; omega
    have hO := Lib.hid (World.ownsRow_nil w w.heap.size 4 1)
    have H0 := Lib.hid h0
    clear h0 hn hm
    go_enter Try.func64, Try.ntmps64
    go_wp2
    go_ret
    exact ⟨_, rfl, by rw [H0.out]; exact hO.out, Below.refl _ _⟩
  · have HC := Lib.hid (src_news hc (.cells #[] 4))
    have HN := Lib.hid hn
    clear hc hn
    have hm63 : 0 + n ≤ maxLen := by unfold maxLen; omega
    go_enter Try.func64, Try.ntmps64
    go_wp2_with (at_builtin; refine wpList_append_own _ rfl (.tmp 5) (.tmp 6) 29 rfl w.heap.size 4 i0 _ 1 1 Try.underlying29 hi0 hz0 hz1 hz2 rfl (by decide) (.slice (some ⟨w.heap.size, 0, none⟩) 0 0) 0 [] rfl (World.ownsRow_made w #[] 0 (Nat.le_refl _) (Nat.zero_le _) (by simp)) a n cap vs rfl HN.out HC.out h1 hm63 ?hby ?hbase ?hK)
    case hby => omega
    case hbase => simp
    intro v' w' hown' hgrow _
    have hb := below_grown hgrow (B := w.heap.size) (by simp) (fun k hk => by simp [Value.ownBlock] at hk; omega)
    have HF := Lib.hid (And.intro hown' (((Below.refl w.heap.size w).alloc (Nat.le_refl _) _).trans hb))
    clear hown' hgrow hb
    go_wp2
    go_ret
    exact ⟨_, rfl, HF.out.1, HF.out.2⟩

set_option maxRecDepth 100000 in
theorem cloneE_any (A : Option Addr) (cap n : Nat) (vs : List Value) (w : World) (hn : vs.length = n * 5) (hm : n ≤ 1000000) (hs : SrcAt w A vs) (h1 : ∀ u ∈ vs, u.oneCell' = true) :
    Calls Try.prog 65 #[.slice A n cap] w fun e w' => ∃ v', e = .returned v' ∧ w'.ownsRow w.heap.size 71 5 v' n vs ∧ Below w.heap.size w w' := by
  obtain ⟨i0, hi0, hz0, hz1, hz2⟩ := info_parts enInfo
  have q22 : ∀ (w : World) (a : Option Addr) (n c n' c' : Nat), (binOp .eql 30 (.slice a n c) (.slice none n' c')).run Try.prog w = .ok (.bool a.isNone) w := fun w a n c n' c' => Lib.run_eql_slice_nil w _ _ a n c n' c' Try.underlying30
  rcases hs with ⟨rfl, rfl⟩ | ⟨a, rfl, hc⟩
  · have h0 : n = 0 := by simp at hn; omega
    have hO := Lib.hid (World.ownsRow_nil w w.heap.size 71 5)
    have H0 := Lib.hid h0
    clear h0 hn hm
    go_enter Try.func65, Try.ntmps65
    go_wp2
    go_ret
    exact ⟨_, rfl, by rw [H0.out]; exact hO.out, Below.refl _ _⟩
  · have HC := Lib.hid (src_news hc (.cells #[] 71))
    have HN := Lib.hid hn
    clear hc hn
    have hm63 : 0 + n ≤ maxLen := by unfold maxLen; omega
    go_enter Try.func65, Try.ntmps65
    go_wp2_with (at_builtin; refine wpList_append_own _ rfl (.tmp 5) (.tmp 6) 30 rfl w.heap.size 71 i0 _ 5 40 Try.underlying30 hi0 hz0 hz1 hz2 rfl (by decide) (.slice (some ⟨w.heap.size, 0, none⟩) 0 0) 0 [] rfl (World.ownsRow_made w #[] 0 (Nat.le_refl _) (Nat.zero_le _) (by simp)) a n cap vs rfl HN.out HC.out h1 hm63 ?hby ?hbase ?hK)
    case hby => omega
    case hbase => simp
    intro v' w' hown' hgrow _
    have hb := below_grown hgrow (B := w.heap.size) (by simp) (fun k hk => by simp [Value.ownBlock] at hk; omega)
    have HF := Lib.hid (And.intro hown' (((Below.refl w.heap.size w).alloc (Nat.le_refl _) _).trans hb))
    clear hown' hgrow hb
    go_wp2
    go_ret
    exact ⟨_, rfl, HF.out.1, HF.out.2⟩

theorem imCells {w wx : World} {o2 : Obj} {a1 a2 a3 a4 : Option Addr} {n1 n2 n3 n4 c1 c2 c3 c4 : Nat} (h : (((w.alloc (.cells #[.slice a1 n1 c1, .slice a2 n2 c2, .slice a3 n3 c3, .slice a4 n4 c4] 32)).alloc o2)).grownBy wx (some (w.heap.size + 1))) :
    wx.heap[w.heap.size]? = some (.cells #[.slice a1 n1 c1, .slice a2 n2 c2, .slice a3 n3 c3, .slice a4 n4 c4] 32 (0, 0)) :=
  (h.block w.heap.size (by simp; omega) (by simp)).trans ((Below.heap_alloc _ _ _ (by simp)).trans (heap_alloc_new w _))
theorem last2' (w : World) (A B : Obj) : ((w.alloc A).alloc B).heap[w.heap.size + 1]? = some B := by
  have := heap_alloc_new (w.alloc A) B
  simpa using this
set_option maxRecDepth 100000 in
set_option maxHeartbeats 2000000 in
theorem copyOf_any (pv fv lv ev : Value) (m : Img) (w : World) (h : ImV w pv fv lv ev m) (hp : m.ph.length ≤ 1000000) (hf : m.fl.length ≤ 1000000) (hl : m.lv.length ≤ 1000000) (he : m.en.length ≤ 1000000) :
    Calls Try.prog 37 #[.agg #[pv, fv, lv, ev]] w fun e w' => ∃ pv' fv' lv' ev', e = .returned (.agg #[pv', fv', lv', ev']) ∧ IOwn w' w.heap.size pv' fv' lv' ev' m ∧ Below w.heap.size w w' := by
  obtain ⟨⟨A1, c1, rfl, h1⟩, ⟨A2, c2, rfl, h2⟩, ⟨A3, c3, rfl, h3⟩, ⟨A4, c4, rfl, h4⟩⟩ := h
  have FP := Lib.hid (fun wx (hb : Below w.heap.size w wx) => cloneI_any A1 c1 (nums m.ph).length (nums m.ph) wx (by omega) (by rw [nums_len]; exact hp) (h1.below hb).src (nums_one _))
  have FF := Lib.hid (fun wx (hb : Below w.heap.size w wx) => cloneB_any A2 c2 (bls m.fl).length (bls m.fl) wx (by omega) (by rw [bls_len]; exact hf) (h2.below hb).src (bls_one _))
  have FL := Lib.hid (fun wx (hb : Below w.heap.size w wx) => cloneB_any A3 c3 (bls m.lv).length (bls m.lv) wx (by omega) (by rw [bls_len]; exact hl) (h3.below hb).src (bls_one _))
  have FE := Lib.hid (fun wx (hb : Below w.heap.size w wx) => cloneE_any A4 c4 m.en.length (flatE m.en) wx (flatE_length _) he (h4.below hb).src (flatE_one _))
  rw [nums_len] at FP ⊢
  rw [bls_len] at FF FL ⊢
  rw [bls_len]
  clear h1 h2 h3 h4 hp hf hl he
  have HD : ∀ (wx : World) pv' fv' lv' ev', wx.ownsRow w.heap.size 3 1 pv' m.ph.length (nums m.ph) → wx.ownsRow w.heap.size 4 1 fv' m.fl.length (bls m.fl) → wx.ownsRow w.heap.size 4 1 lv' m.lv.length (bls m.lv) → wx.ownsRow w.heap.size 71 5 ev' m.en.length (flatE m.en) → (∀ k, fv'.ownBlock = some k → lv'.ownBlock ≠ some k) → IOwn wx w.heap.size pv' fv' lv' ev' m := fun _ _ _ _ _ a b c d e => ⟨a, b, c, d, e⟩
  have HD := Lib.hid HD
  generalize IOwn = IO at *
  generalize nums m.ph = vp at *
  generalize bls m.fl = vf at *
  generalize bls m.lv = vl at *
  generalize flatE m.en = ve at *
  generalize m.ph.length = n1 at *
  generalize m.fl.length = n2 at *
  generalize m.lv.length = n3 at *
  generalize m.en.length = n4 at *
  go_enter Try.func37, Try.ntmps37
  go_wp2_with fail
  refine GhostV.ghost (fun γ L wx => GI (((w.alloc (.cells #[.slice A1 n1 c1, .slice A2 n2 c2, .slice A3 n3 c3, .slice A4 n4 c4] 32)).alloc (.cells #[.slice none 0 0, .slice none 0 0, .slice none 0 0, .slice none 0 0] 32))) (w.heap.size + 1) 32 #[.slice none 0 0, .slice none 0 0, .slice none 0 0, .slice none 0 0] [(⟨2, 3, 1, n1, vp⟩ : OwnD), (⟨5, 4, 1, n2, vf⟩ : OwnD), (⟨8, 4, 1, n3, vl⟩ : OwnD), (⟨11, 71, 5, n4, ve⟩ : OwnD)] [2, 5, 8, 11] [] 12 13 γ L wx) (by kernel_rfl) (by kernel_rfl) (fun γ => GI.start γ (last2' _ _ _)) ?_
  apply GhostV.walk_const (fun γ => by rfl)
  · intro γ L wx h1 h2 hx K hK
    obtain ⟨r0, r1, r2, r3⟩ := imRowCells (imCells hx.grown)
    have HK2 := Lib.hid hK
    have HX := Lib.hid hx
    have H2 := Lib.hid h2
    clear hK h1 h2 hx
    go_simp
    first
      | exact HK2.out _ (HX.out.next _ (by rfl) (by decide) (by decide) (by decide) (Below.refl _ _))
  try simp only [Act.put, List.setIfInBounds_toArray, List.set_cons_succ, List.set_cons_zero]
  apply GhostV.walk_const (fun γ => by rfl)
  · intro γ L wx h1 h2 hx K hK
    obtain ⟨r0, r1, r2, r3⟩ := imRowCells (imCells hx.grown)
    have HK2 := Lib.hid hK
    have HX := Lib.hid hx
    have H2 := Lib.hid h2
    clear hK h1 h2 hx
    go_simp
    first
      | exact HK2.out _ (HX.out.next _ (by rfl) (by decide) (by decide) (by decide) (Below.refl _ _))
  try simp only [Act.put, List.setIfInBounds_toArray, List.set_cons_succ, List.set_cons_zero]
  refine GhostV.walk_yes (fun b => b) (fun γ => by rfl) ?_ ?_
  · intro γ L wx h1 h2 hx K hK
    obtain ⟨r0, r1, r2, r3⟩ := imRowCells (imCells hx.grown)
    have H1 := Lib.hid h1
    have HK2 := Lib.hid hK
    have HX := Lib.hid hx
    have H2 := Lib.hid h2
    clear hK h1 h2 hx
    go_simp
    (go_at_call 63; refine (FP.out _ (gi_below HX.out)).mono ?_; rintro e w' ⟨v', rfl, hv, hb⟩; exact HK2.out v' _ (HX.out.make H1.out (by decide) (by decide) (by decide) (by simp only [List.mem_cons, List.not_mem_nil, or_false]; rintro d (rfl | rfl | rfl | rfl) h; (· exact hv); (· cases h); (· cases h); (· cases h)) hb))
  try simp only [Act.put, List.setIfInBounds_toArray, List.set_cons_succ, List.set_cons_zero]
  apply GhostV.walk_const (fun γ => by rfl)
  · intro γ L wx h1 h2 hx K hK
    obtain ⟨r0, r1, r2, r3⟩ := imRowCells (imCells hx.grown)
    have HK2 := Lib.hid hK
    have HX := Lib.hid hx
    have H2 := Lib.hid h2
    clear hK h1 h2 hx
    go_simp
    first
      | exact HK2.out _ (HX.out.next _ (by rfl) (by decide) (by decide) (by decide) (Below.refl _ _))
  try simp only [Act.put, List.setIfInBounds_toArray, List.set_cons_succ, List.set_cons_zero]
  apply GhostV.walk_const (fun γ => by rfl)
  · intro γ L wx h1 h2 hx K hK
    obtain ⟨r0, r1, r2, r3⟩ := imRowCells (imCells hx.grown)
    have HK2 := Lib.hid hK
    have HX := Lib.hid hx
    have H2 := Lib.hid h2
    clear hK h1 h2 hx
    go_simp
    first
      | exact HK2.out _ (HX.out.next _ (by rfl) (by decide) (by decide) (by decide) (Below.refl _ _))
  try simp only [Act.put, List.setIfInBounds_toArray, List.set_cons_succ, List.set_cons_zero]
  refine GhostV.walk_yes (fun b => b) (fun γ => by rfl) ?_ ?_
  · intro γ L wx h1 h2 hx K hK
    obtain ⟨r0, r1, r2, r3⟩ := imRowCells (imCells hx.grown)
    have H1 := Lib.hid h1
    have HK2 := Lib.hid hK
    have HX := Lib.hid hx
    have H2 := Lib.hid h2
    clear hK h1 h2 hx
    go_simp
    (go_at_call 64; refine (FF.out _ (gi_below HX.out)).mono ?_; rintro e w' ⟨v', rfl, hv, hb⟩; exact HK2.out v' _ (HX.out.make H1.out (by decide) (by decide) (by decide) (by simp only [List.mem_cons, List.not_mem_nil, or_false]; rintro d (rfl | rfl | rfl | rfl) h; (· cases h); (· exact hv); (· cases h); (· cases h)) hb))
  try simp only [Act.put, List.setIfInBounds_toArray, List.set_cons_succ, List.set_cons_zero]
  apply GhostV.walk_const (fun γ => by rfl)
  · intro γ L wx h1 h2 hx K hK
    obtain ⟨r0, r1, r2, r3⟩ := imRowCells (imCells hx.grown)
    have HK2 := Lib.hid hK
    have HX := Lib.hid hx
    have H2 := Lib.hid h2
    clear hK h1 h2 hx
    go_simp
    first
      | exact HK2.out _ (HX.out.next _ (by rfl) (by decide) (by decide) (by decide) (Below.refl _ _))
  try simp only [Act.put, List.setIfInBounds_toArray, List.set_cons_succ, List.set_cons_zero]
  apply GhostV.walk_const (fun γ => by rfl)
  · intro γ L wx h1 h2 hx K hK
    obtain ⟨r0, r1, r2, r3⟩ := imRowCells (imCells hx.grown)
    have HK2 := Lib.hid hK
    have HX := Lib.hid hx
    have H2 := Lib.hid h2
    clear hK h1 h2 hx
    go_simp
    first
      | exact HK2.out _ (HX.out.next _ (by rfl) (by decide) (by decide) (by decide) (Below.refl _ _))
  try simp only [Act.put, List.setIfInBounds_toArray, List.set_cons_succ, List.set_cons_zero]
  refine GhostV.walk_yes (fun b => b) (fun γ => by rfl) ?_ ?_
  · intro γ L wx h1 h2 hx K hK
    obtain ⟨r0, r1, r2, r3⟩ := imRowCells (imCells hx.grown)
    have H1 := Lib.hid h1
    have HK2 := Lib.hid hK
    have HX := Lib.hid hx
    have H2 := Lib.hid h2
    clear hK h1 h2 hx
    go_simp
    (go_at_call 64; refine (FL.out _ (gi_below HX.out)).mono ?_; rintro e w' ⟨v', rfl, hv, hb⟩; exact HK2.out v' _ (HX.out.make H1.out (by decide) (by decide) (by decide) (by simp only [List.mem_cons, List.not_mem_nil, or_false]; rintro d (rfl | rfl | rfl | rfl) h; (· cases h); (· cases h); (· exact hv); (· cases h)) hb))
  try simp only [Act.put, List.setIfInBounds_toArray, List.set_cons_succ, List.set_cons_zero]
  apply GhostV.walk_const (fun γ => by rfl)
  · intro γ L wx h1 h2 hx K hK
    obtain ⟨r0, r1, r2, r3⟩ := imRowCells (imCells hx.grown)
    have HK2 := Lib.hid hK
    have HX := Lib.hid hx
    have H2 := Lib.hid h2
    clear hK h1 h2 hx
    go_simp
    first
      | exact HK2.out _ (HX.out.next _ (by rfl) (by decide) (by decide) (by decide) (Below.refl _ _))
  try simp only [Act.put, List.setIfInBounds_toArray, List.set_cons_succ, List.set_cons_zero]
  apply GhostV.walk_const (fun γ => by rfl)
  · intro γ L wx h1 h2 hx K hK
    obtain ⟨r0, r1, r2, r3⟩ := imRowCells (imCells hx.grown)
    have HK2 := Lib.hid hK
    have HX := Lib.hid hx
    have H2 := Lib.hid h2
    clear hK h1 h2 hx
    go_simp
    first
      | exact HK2.out _ (HX.out.next _ (by rfl) (by decide) (by decide) (by decide) (Below.refl _ _))
  try simp only [Act.put, List.setIfInBounds_toArray, List.set_cons_succ, List.set_cons_zero]
  refine GhostV.walk_yes (fun b => b) (fun γ => by rfl) ?_ ?_
  · intro γ L wx h1 h2 hx K hK
    obtain ⟨r0, r1, r2, r3⟩ := imRowCells (imCells hx.grown)
    have H1 := Lib.hid h1
    have HK2 := Lib.hid hK
    have HX := Lib.hid hx
    have H2 := Lib.hid h2
    clear hK h1 h2 hx
    go_simp
    (go_at_call 65; refine (FE.out _ (gi_below HX.out)).mono ?_; rintro e w' ⟨v', rfl, hv, hb⟩; exact HK2.out v' _ (HX.out.make H1.out (by decide) (by decide) (by decide) (by simp only [List.mem_cons, List.not_mem_nil, or_false]; rintro d (rfl | rfl | rfl | rfl) h; (· cases h); (· cases h); (· cases h); (· exact hv)) hb))
  try simp only [Act.put, List.setIfInBounds_toArray, List.set_cons_succ, List.set_cons_zero]
  refine GhostV.walk_yes (fun b => b) (fun γ => by rfl) ?_ ?_
  · intro γ L wx h1 h2 hx K hK
    obtain ⟨A2, c2, e2⟩ := own_slice (hx.row (⟨2, 3, 1, n1, vp⟩ : OwnD) (by simp) (h2 2 (by kernel_rfl)))
    obtain ⟨A5, c5, e5⟩ := own_slice (hx.row (⟨5, 4, 1, n2, vf⟩ : OwnD) (by simp) (h2 5 (by kernel_rfl)))
    obtain ⟨A8, c8, e8⟩ := own_slice (hx.row (⟨8, 4, 1, n3, vl⟩ : OwnD) (by simp) (h2 8 (by kernel_rfl)))
    obtain ⟨A11, c11, e11⟩ := own_slice (hx.row (⟨11, 71, 5, n4, ve⟩ : OwnD) (by simp) (h2 11 (by kernel_rfl)))
    have HALL : Hid (∀ i ∈ ([2, 5, 8, 11] : List Nat), L i = true) := by
      refine Lib.hid ?_
      simp only [List.mem_cons, List.not_mem_nil, or_false]
      rintro i (rfl | rfl | rfl | rfl)
      · exact h2 2 (by kernel_rfl)
      · exact h2 5 (by kernel_rfl)
      · exact h2 8 (by kernel_rfl)
      · exact h2 11 (by kernel_rfl)
    have HST : Hid (L 13 = false) := by
      cases hs : L 13
      · exact rfl
      · have := hx.sb hs; rw [h1] at this; cases this
    have E2 := Lib.hid e2
    have E5 := Lib.hid e5
    have E8 := Lib.hid e8
    have E11 := Lib.hid e11
    simp only [e2, e5, e8, e11] at hK ⊢
    clear e2 e5 e8 e11
    have HK2 := Lib.hid hK
    have HX := Lib.hid hx
    clear hK h1 h2 hx
    go_simp
    exact HK2.out (.agg #[.slice A2 (n1) c2, .slice A5 (n2) c5, .slice A8 (n3) c8, .slice A11 (n4) c11]) _ (HX.out.build (by rfl) (by decide) (by decide) HST.out (by unfold rowOf; simp only [List.map_cons, List.map_nil, List.cons_append, List.nil_append, E2.out, E5.out, E8.out, E11.out]) HALL.out)
  try simp only [Act.put, List.setIfInBounds_toArray, List.set_cons_succ, List.set_cons_zero]
  apply GhostV.walk_const (fun γ => by rfl)
  · intro γ L wx h1 h2 hx K hK
    have hL : L 12 = true := h2 12 (by kernel_rfl)
    obtain ⟨A2, c2, e2⟩ := own_slice (hx.row (⟨2, 3, 1, n1, vp⟩ : OwnD) (by simp) ((hx.agg hL).2 2 (by decide)))
    obtain ⟨A5, c5, e5⟩ := own_slice (hx.row (⟨5, 4, 1, n2, vf⟩ : OwnD) (by simp) ((hx.agg hL).2 5 (by decide)))
    obtain ⟨A8, c8, e8⟩ := own_slice (hx.row (⟨8, 4, 1, n3, vl⟩ : OwnD) (by simp) ((hx.agg hL).2 8 (by decide)))
    obtain ⟨A11, c11, e11⟩ := own_slice (hx.row (⟨11, 71, 5, n4, ve⟩ : OwnD) (by simp) ((hx.agg hL).2 11 (by decide)))
    have hR1 : rowOf γ [2, 5, 8, 11] [] = #[.slice A2 (n1) c2, .slice A5 (n2) c5, .slice A8 (n3) c8, .slice A11 (n4) c11] := by unfold rowOf; simp only [List.map_cons, List.map_nil, List.cons_append, List.nil_append, e2, e5, e8, e11]
    exact hx.wp_store h1 hL 32 _ _ rfl rfl rfl (by rw [hR1]; kernel_rfl) (by rw [hR1]; rfl) (by rw [hR1]; kernel_rfl) (hK _ (hx.store _ (by rfl) (by decide) (by decide) (by simp) hL))
  try simp only [Act.put]
  refine GhostV.walk_nil (fun γ L w4 hall hx => ?_)
  have o2 := hx.row (⟨2, 3, 1, n1, vp⟩ : OwnD) (by simp) (hall 2 (by decide))
  have o5 := hx.row (⟨5, 4, 1, n2, vf⟩ : OwnD) (by simp) (hall 5 (by decide))
  have o8 := hx.row (⟨8, 4, 1, n3, vl⟩ : OwnD) (by simp) (hall 8 (by decide))
  have o11 := hx.row (⟨11, 71, 5, n4, ve⟩ : OwnD) (by simp) (hall 11 (by decide))
  have hne := hx.ne (⟨5, 4, 1, n2, vf⟩ : OwnD) (by simp) (⟨8, 4, 1, n3, vl⟩ : OwnD) (by simp) (by show (5 : Nat) ≠ 8; decide) (hall 5 (by decide)) (hall 8 (by decide))
  have hbox := hx.done (hall 13 (by decide))
  have hbel := gi_below hx
  have hag := (hx.agg (hall 12 (by decide))).1
  unfold rowOf at hbox hag
  simp only [List.map_cons, List.map_nil, List.append_nil] at hbox hag
  clear hx hall
  have HD4 := Lib.hid (HD.out w4 (γ 2) (γ 5) (γ 8) (γ 11) (own_base o2 (by simp; omega)) (own_base o5 (by simp; omega)) (own_base o8 (by simp; omega)) (own_base o11 (by simp; omega)) hne)
  obtain ⟨B2, b2, e2⟩ := own_slice o2
  obtain ⟨B5, b5, e5⟩ := own_slice o5
  obtain ⟨B8, b8, e8⟩ := own_slice o8
  obtain ⟨B11, b11, e11⟩ := own_slice o11
  clear o2 o5 o8 o11 hne
  simp only [Nat.zero_add, Nat.reduceAdd] at hbox hag ⊢
  rw [hag]
  rw [e2, e5, e8, e11] at hbox HD4 ⊢
  have HB := Lib.hid hbox
  have HBL := Lib.hid hbel
  clear hag e2 e5 e8 e11 hbox hbel
  go_wp2
  exact bodyPost_ret (results_cell_row Try.results37 _ _ _ _ _ (0, 0) _ rfl (HB.out) Try.underlying32 rfl (by kernel_rfl)) rfl (⟨_, _, _, _, rfl, HD4.out, HBL.out⟩)
end

section
open Go.RowKit

theorem grownBy_setCells (w : World) (b o : Nat) (l : List Value) : w.grownBy (w.setCells b o l) (some b) := by
  obtain ⟨e1, e2, e3, e4, e5⟩ := Put.setCells_else b l o w
  exact ⟨e2, e3, e4, Nat.le_of_eq e1.symm, fun k _ hk => e5 k (fun e => hk (by rw [e]))⟩
theorem run_storeVar_cell {P : Program} (w : World) (b o : Nat) (ty : TypeId) (v : Value) (ht : w.there b o 1) (hi : (P.info? ty).map (·.size) = some 1) (h1 : v.oneCell' = true) (hv : v.cells = #[v]) :
    (storeVar ty ⟨b, o, none⟩ v).run P w = .ok () (w.setCells b o [v]) := by
  have := run_storeCells_cells (P := P) b o [v] 0 w (fun j hj => by simpa using (ht j (by simpa using hj)).1) (fun j hj => by simpa using (ht j (by simpa using hj)).2)
    (fun u hu => by rw [List.mem_singleton.1 hu]; exact h1)
  cases hq : P.info? ty with
  | none => simp [hq] at hi
  | some i =>
    have hs : i.size = 1 := by simpa [hq] using hi
    simp only [Nat.add_zero] at this
    simp [storeVar, sizeOf, typeInfo, hq, hv, hs, this]
/-- One cell of a row is stored. -/
theorem wpList_putCell {P : Program} {ops : Array Oper} {rest : List Oper} {op : Oper} {a : Act} {w : World} {Q : Exit → Act → World → Prop} (hgd : op.guard = none) (ty : TypeId) (x y : Operand) (ho : op.op = .store ty x y)
    (b o : Nat) (v : Value) (old new : Array Value) (t : TypeId) (hx : a.eval x = .pointer (some ⟨b, o, none⟩)) (hy : a.eval y = v) (hg : w.heap[b]? = some (.cells old t (0, 0)))
    (hi : (P.info? ty).map (·.size) = some 1) (hsz : o < old.size) (h1 : v.oneCell' = true) (hv : v.cells = #[v]) (hnew : old.setIfInBounds o v = new)
    (h : ∀ w2, Hid (w2.heap[b]? = some (.cells new t (0, 0))) → Hid (w.grownBy w2 (some b)) → wpList P ops Q rest (a.put op.dst undef) w2) : wpList P ops Q (op :: rest) a w := by
  refine wpList_plain hgd fun K hK => ?_
  have ht : w.there b o 1 := fun j hj => by
    obtain rfl : j = 0 := by omega
    refine ⟨?_, frozen_of_row _ _ _ _ _ hg⟩
    rw [cell_of_row _ _ _ _ _ (0, 0) hg]
    simp only [Nat.add_zero, Array.getElem?_eq_getElem hsz, Option.isSome_some]
  unfold Oper.wp execOp
  simp only [ho, hx, hy, Instr.storeAt, Instr.sureAddr, Sem.run_bind, Sem.run_pure, Result.andThen_ok, run_storeVar_cell w b o ty v ht hi h1 hv]
  refine hK _ _ (h _ ?_ (grownBy_setCells w b o _))
  rw [← hnew]
  exact Put.setCells_row b t [v] o w old hg
end

section
open Go.RowKit Go.Shelf

def ren : Go.Shelf.Ren := ⟨fun | 169 => 99 | n => n, fun | 70 => 135 | 9 => 9 | 72 => 137 | 37 => 22 | 127 => 149 | 3 => 3 | 5 => 5 | n => n, fun n => n⟩
set_option maxRecDepth 100000 in
theorem bldLays : Go.Proofs.Lays.n169 Try.prog ren where
  mixed := by kernel_rfl
  f169 := Try.func99.trans (congrArg some (by kernel_rfl))
  t0 := Try.underlying0
  a0 := Try.isAgg0
  z0 := Try.sizeOf0
  v0 := Try.zeroValue0
  t3 := Try.underlying3
  a3 := Try.isAgg3
  z3 := Try.sizeOf3
  v3 := Try.zeroValue3
  t9 := Try.underlying9
  a9 := Try.isAgg9
  z9 := Try.sizeOf9
  v9 := Try.zeroValue9
  t37 := Try.underlying22
  a37 := Try.isAgg22
  z37 := Try.sizeOf22
  v37 := Try.zeroValue22
  t70 := Try.underlying135
  a70 := Try.isAgg135
  z70 := Try.sizeOf135
  v70 := Try.zeroValue135
  t72 := Try.underlying137
  a72 := Try.isAgg137
  z72 := Try.sizeOf137
  v72 := Try.zeroValue137
  t127 := Try.underlying149
  a127 := Try.isAgg149
  z127 := Try.sizeOf149
  v127 := Try.zeroValue149
theorem bldExtra : Builder.Extra Try.prog ren where
  sizeBuilder := by kernel_rfl
  liesBuilder := by kernel_rfl
  t5 := Try.underlying5
  a5 := Try.isAgg5
  z5 := Try.sizeOf5
  v5 := Try.zeroValue5
  infoByte := by kernel_rfl
  cellsByte := by kernel_rfl
  sizeByte := by kernel_rfl
  neB5 := by decide
abbrev BAt (B b : Nat) (p : Value) (bs : List Value) (w : World) : Prop := Lib.BuilderAt 137 5 B b p bs w
abbrev BIs (B b : Nat) (bs : List Value) (w : World) : Prop := Lib.IsBuilder 137 5 B b bs w
theorem text_any (B b : Nat) (l : List UInt8) (w : World) (h : BIs B b (Lib.byteCells l) w) (hB : B ≤ w.heap.size) :
    Calls Try.prog 99 #[.pointer (some ⟨b, 0, none⟩)] w fun e w' => e = .returned (.string ⟨l.toArray⟩) ∧ Below B w w' := Any.Builder_String_any bldLays bldExtra B b l w h hB
set_option maxHeartbeats 2000000 in
set_option maxRecDepth 100000 in
theorem bldCheck_used (b : Nat) (w : World) (h0 : w.cell? ⟨b, 0, none⟩ = some (.pointer (some ⟨b, 0, none⟩))) :
    Calls Try.prog 110 #[.pointer (some ⟨b, 0, none⟩)] w fun e w' => e = .returned (.tuple #[]) ∧ w' = w := by
  obtain ⟨j, hj, _⟩ := Option.map_eq_some_iff.1 bldExtra.sizeBuilder
  go_enter Try.func110, Try.ntmps110
  go_wp2
  rw [Lib.run_neq_ptr_same w _ Try.underlying135 hj]
  go_wp2
  go_end0
  exact ⟨rfl, rfl⟩
set_option maxHeartbeats 2000000 in
set_option maxRecDepth 100000 in
theorem bldCheck_fresh (b : Nat) (w : World) (h0 : w.cell? ⟨b, 0, none⟩ = some (.pointer none)) (hsh : w.shape? b = some (137, 2)) (hfz : w.frozen? ⟨b, 0, none⟩ = false) :
    Calls Try.prog 110 #[.pointer (some ⟨b, 0, none⟩)] w fun e w' => e = .returned (.tuple #[]) ∧ w' = w.setCell ⟨b, 0, none⟩ (.pointer (some ⟨b, 0, none⟩)) := by
  obtain ⟨j, hj, hjs⟩ := Option.map_eq_some_iff.1 bldExtra.sizeBuilder
  go_enter Try.func110, Try.ntmps110
  go_wp2
  rw [Lib.run_to_unsafe w ⟨b, 0, none⟩ Try.underlying135 Try.underlying152 hj (by rw [hjs]; decide) hsh (Nat.zero_lt_succ 1)]
  simp only [Result.andThen]
  rw [Oper.upon_value]
  go_wp2
  rw [run_callFunc_extern Try.func115 (by kernel_rfl) (by kernel_rfl) (by kernel_rfl) (e := Extern.AbiNoEscape.same) (by kernel_rfl)]
  rw [Lib.run_noEscape]
  simp only [Result.andThen]
  rw [Oper.upon_value]
  go_wp2
  rw [Lib.run_from_unsafe w ⟨b, 0, none⟩ Try.underlying152 Try.underlying135 hj hsh (by kernel_rfl)]
  simp only [Result.andThen]
  rw [Oper.upon_value]
  go_wp2
  go_end0
  exact ⟨rfl, rfl⟩
theorem bldCheck_any (B b : Nat) (bs : List Value) (w : World) (h : BIs B b bs w) :
    Calls Try.prog 110 #[.pointer (some ⟨b, 0, none⟩)] w fun e w' => e = .returned (.tuple #[]) ∧ (BAt B b (.pointer (some ⟨b, 0, none⟩)) bs w' ∧ Below B w w') := by
  rcases h with h | h
  · refine (bldCheck_fresh b w h.cell0 h.shape h.frozen0).mono ?_
    rintro e w' ⟨rfl, rfl⟩
    exact ⟨rfl, h.used _, (Below.refl B w).setCell (p := ⟨b, 0, none⟩) h.1 _⟩
  · refine (bldCheck_used b w h.cell0).mono ?_
    rintro e w' ⟨rfl, rfl⟩
    exact ⟨rfl, h, Below.refl B _⟩
set_option maxHeartbeats 2000000 in
set_option maxRecDepth 100000 in
theorem wstr_any (B b : Nat) (bs : List Value) (s : ByteArray) (w : World) (h : BIs B b bs w) (hlen : bs.length + s.size ≤ 140737488355328) (hBw : B ≤ w.heap.size) :
    Calls Try.prog 98 #[.pointer (some ⟨b, 0, none⟩), .string s] w fun e w' => e = .returned (.tuple #[.int .i64 s.size, .nilIface]) ∧ BAt B b (.pointer (some ⟨b, 0, none⟩)) (bs ++ Lib.strCells s) w' ∧ Below B w w' := by
  obtain ⟨i0, hi, hz0, hz1, hz2⟩ := info_parts bldExtra.infoByte
  go_enter Try.func98, Try.ntmps98
  go_wp2_with (go_at_call 110; refine (bldCheck_any B b bs _ h).mono ?_)
  rintro e w1 ⟨rfl, ⟨hB, v, hbk, hown, hne⟩, hb1⟩
  have hlt : b < w1.heap.size := Lib.BuilderAt.lt ⟨hB, v, hbk, hown, hne⟩
  have c0 : w1.cell? ⟨b, 0, none⟩ = some (.pointer (some ⟨b, 0, none⟩)) := by rw [Lib.cell_of_heap hbk]; rfl
  have c1 : w1.cell? ⟨b, 1, none⟩ = some v := by rw [Lib.cell_of_heap hbk]; rfl
  go_wp2_with (at_builtin; refine Lib.wpList_append_own_string _ rfl _ _ 22 9 rfl B 5 i0 Try.underlying22 Try.underlying9 hi hz0 hz1 hz2 _ _ _ rfl hown s rfl ?c3 ?c4 ?c5 ?_)
  case c3 => unfold maxLen; omega
  case c4 => omega
  case c5 => have := hb1.size; omega
  intro v' w2 hown' hgrow _
  have hb2 : w2.heap[b]? = some (.cells #[.pointer (some ⟨b, 0, none⟩), v] 137 (0, 0)) := by rw [hgrow.block b hlt (fun e => hne e.symm)]; exact hbk
  have d0 : w2.cell? ⟨b, 0, none⟩ = some (.pointer (some ⟨b, 0, none⟩)) := by rw [Lib.cell_of_heap hb2]; rfl
  have d1 : w2.cell? ⟨b, 1, none⟩ = some v := by rw [Lib.cell_of_heap hb2]; rfl
  have f1 : w2.frozen? ⟨b, 1, none⟩ = false := Lib.frozen_of_heap hb2 1
  obtain ⟨ao, n', cap, rfl⟩ : ∃ ao n' cap, v' = .slice ao n' cap := by
    rcases hown'.2 with ⟨hv, _⟩ | ⟨g, cap, cur, hv, _⟩
    · exact ⟨_, _, _, hv⟩
    · exact ⟨_, _, _, hv⟩
  go_wp2
  go_ret2
  refine ⟨rfl, ?_, ?_⟩
  · exact Lib.BuilderAt.put hB hb2 (bs' := bs ++ Lib.strCells s) (by simpa [Lib.strCells_length] using hown') (by decide)
  · exact (hb1.grown hgrow (by have := hb1.size; omega) (fun k hk => (hown.lt k hk).1)).setCell (p := ⟨b, 1, none⟩) hB _
end

section
open Go.RowKit GhostV

/-- ds: the operations that read ahead of the call; c: the call; s: the store; PC: what holds between the two, PS: behind the store. -/
structure CS (W1 : World) (ds : List Nat) (c s : Nat) (PC PS : World → Value → Prop) (γ : Gh) (L : Run) (wx : World) : Prop where
  pre : L c = false → Below W1.heap.size W1 wx
  mid : L c = true → L s = false → PC wx (γ c)
  fin : L s = true → PS wx (γ c)
  dep : L c = true → ∀ i ∈ ds, L i = true
  sc : L s = true → L c = true
namespace CS
variable {W1 : World} {ds : List Nat} {c s : Nat} {PC PS : World → Value → Prop}
theorem start (γ : Gh) : CS W1 ds c s PC PS γ (fun _ => false) { W1 with drawn := W1.drawn + 1 } :=
  ⟨fun _ => (Below.refl _ _).drew, fun h => absurd h Bool.false_ne_true, fun h => absurd h Bool.false_ne_true, fun h => absurd h Bool.false_ne_true, fun h => absurd h Bool.false_ne_true⟩
theorem early {γ : Gh} {L : Run} {wx : World} {i : Nat} (h : CS W1 ds c s PC PS γ L wx) (hi : i ∈ ds) (h0 : L i = false) : Below W1.heap.size W1 wx := by
  refine h.pre ?_
  cases hc : L c
  · rfl
  · rw [h.dep hc i hi] at h0; cases h0
theorem next {γ : Gh} {L : Run} {wx : World} {i : Nat} (h : CS W1 ds c s PC PS γ L wx) (v : Value) (h1 : c ≠ i) (h2 : s ≠ i) : CS W1 ds c s PC PS (upd γ i v) (GhostV.mark L i) wx := by
  have e1 : GhostV.mark L i c = L c := GI.mk_ne h1
  have e2 : GhostV.mark L i s = L s := GI.mk_ne h2
  have e3 : upd γ i v c = γ c := GI.up_ne h1
  refine ⟨fun hl => h.pre (e1 ▸ hl), fun hl hl' => ?_, fun hl => ?_, fun hl j hj => ?_, fun hl => ?_⟩
  · rw [e3]; exact h.mid (e1 ▸ hl) (e2 ▸ hl')
  · rw [e3]; exact h.fin (e2 ▸ hl)
  · by_cases hji : j = i
    · rw [hji]; exact GI.mk_eq L i
    · rw [GI.mk_ne hji]; exact h.dep (e1 ▸ hl) j hj
  · rw [e1]; exact h.sc (e2 ▸ hl)
/-- A reading, or a call that leaves all as it was, ahead of the call. -/
theorem below {γ : Gh} {L : Run} {wx w' : World} {i : Nat} (h : CS W1 ds c s PC PS γ L wx) (v : Value) (hi : i ∈ ds) (h0 : L i = false) (h1 : c ≠ i) (h2 : s ≠ i) (hb : Below wx.heap.size wx w') : CS W1 ds c s PC PS (upd γ i v) (GhostV.mark L i) w' := by
  have e1 : GhostV.mark L i c = L c := GI.mk_ne h1
  have e2 : GhostV.mark L i s = L s := GI.mk_ne h2
  have hp := h.early hi h0
  have hc : L c = false := by
    cases hc : L c
    · rfl
    · rw [h.dep hc i hi] at h0; cases h0
  refine ⟨fun _ => hp.trans (hb.mono hp.size), fun hl => ?_, fun hl => ?_, fun hl => ?_, fun hl => ?_⟩
  · rw [e1, hc] at hl; cases hl
  · have := h.sc (e2 ▸ hl); rw [hc] at this; cases this
  · rw [e1, hc] at hl; cases hl
  · have := h.sc (e2 ▸ hl); rw [hc] at this; cases this
theorem call {γ : Gh} {L : Run} {wx w' : World} (h : CS W1 ds c s PC PS γ L wx) {v : Value} (h0 : L c = false) (hcd : c ∉ ds) (h2 : s ≠ c) (hall : ∀ i ∈ ds, L i = true) (hv : PC w' v) : CS W1 ds c s PC PS (upd γ c v) (GhostV.mark L c) w' := by
  have e1 : GhostV.mark L c c = true := GI.mk_eq L c
  have e2 : GhostV.mark L c s = L s := GI.mk_ne h2
  have hs : L s = false := by
    cases hs : L s
    · rfl
    · have := h.sc hs; rw [h0] at this; cases this
  refine ⟨fun hl => ?_, fun _ _ => ?_, fun hl => ?_, fun _ j hj => ?_, fun _ => e1⟩
  · rw [e1] at hl; cases hl
  · rw [GI.up_eq]; exact hv
  · rw [e2, hs] at hl; cases hl
  · rw [GI.mk_ne (ne_mem hj hcd)]; exact hall j hj
theorem store {γ : Gh} {L : Run} {wx w' : World} (h : CS W1 ds c s PC PS γ L wx) (v : Value) (hc : L c = true) (hsd : s ∉ ds) (h2 : s ≠ c) (hv : PS w' (γ c)) : CS W1 ds c s PC PS (upd γ s v) (GhostV.mark L s) w' := by
  have e1 : GhostV.mark L s s = true := GI.mk_eq L s
  have e2 : GhostV.mark L s c = L c := GI.mk_ne (Ne.symm h2)
  refine ⟨fun hl => ?_, fun _ hl => ?_, fun _ => ?_, fun _ j hj => ?_, fun _ => e2.trans hc⟩
  · rw [e2, hc] at hl; cases hl
  · rw [e1] at hl; cases hl
  · rw [GI.up_ne (Ne.symm h2)]; exact hv
  · rw [GI.mk_ne (ne_mem hj hsd)]; exact h.dep hc j hj
end CS
end

section
open Go.RowKit GhostV

/-- g: the operation whose value is not known; s: the store; ds: operations ahead of the store. -/
structure GB (W1 : World) (b : Nat) (Z R : Array Value) (T : TypeId) (ds : List Nat) (g s : Nat) (pd : Pd) (γ : Gh) (L : Run) (wx : World) : Prop where
  put : Put W1 b (.cells (if L s = true then R else Z) T (0, 0)) wx
  row : L s = false → L g = true → pd.1 wx (γ g)
  dep : L s = true → ∀ i ∈ ds, L i = true
namespace GB
variable {W1 : World} {b : Nat} {Z R : Array Value} {T : TypeId} {ds : List Nat} {g s : Nat} {pd : Pd}
theorem start (γ : Gh) (h : W1.heap[b]? = some (.cells Z T (0, 0))) : GB W1 b Z R T ds g s pd γ (fun _ => false) { W1 with drawn := W1.drawn + 1 } :=
  ⟨by rw [if_neg Bool.false_ne_true]; exact (Put.start h).drew, fun _ h => absurd h Bool.false_ne_true, fun h => absurd h Bool.false_ne_true⟩
theorem early {γ : Gh} {L : Run} {wx : World} {i : Nat} (h : GB W1 b Z R T ds g s pd γ L wx) (hi : i ∈ ds) (h0 : L i = false) : L s = false := by
  cases hc : L s
  · rfl
  · rw [h.dep hc i hi] at h0; cases h0
theorem put0 {γ : Gh} {L : Run} {wx : World} (h : GB W1 b Z R T ds g s pd γ L wx) (h0 : L s = false) : Put W1 b (.cells Z T (0, 0)) wx := by
  have := h.put
  rw [h0, if_neg Bool.false_ne_true] at this
  exact this
theorem put1 {γ : Gh} {L : Run} {wx : World} (h : GB W1 b Z R T ds g s pd γ L wx) (h0 : L s = true) : Put W1 b (.cells R T (0, 0)) wx := by
  have := h.put
  rw [h0, if_pos rfl] at this
  exact this
theorem next {γ : Gh} {L : Run} {wx w' : World} {i : Nat} (h : GB W1 b Z R T ds g s pd γ L wx) (v : Value) (h1 : g ≠ i) (h2 : s ≠ i) (hb : Below wx.heap.size wx w') : GB W1 b Z R T ds g s pd (upd γ i v) (GhostV.mark L i) w' := by
  have e1 : GhostV.mark L i g = L g := GI.mk_ne h1
  have e2 : GhostV.mark L i s = L s := GI.mk_ne h2
  have e3 : upd γ i v g = γ g := GI.up_ne h1
  refine ⟨by rw [e2]; exact h.put.next hb, fun hl hl' => ?_, fun hl j hj => ?_⟩
  · rw [e3]; exact pd.2 _ _ _ (h.row (e2 ▸ hl) (e1 ▸ hl')) hb
  · by_cases hji : j = i
    · rw [hji]; exact GI.mk_eq L i
    · rw [GI.mk_ne hji]; exact h.dep (e2 ▸ hl) j hj
theorem make {γ : Gh} {L : Run} {wx w' : World} (h : GB W1 b Z R T ds g s pd γ L wx) (v : Value) (h2 : s ≠ g) (hp : pd.1 w' v) (hb : Below wx.heap.size wx w') : GB W1 b Z R T ds g s pd (upd γ g v) (GhostV.mark L g) w' := by
  have e2 : GhostV.mark L g s = L s := GI.mk_ne h2
  refine ⟨by rw [e2]; exact h.put.next hb, fun _ _ => by rw [GI.up_eq]; exact hp, fun hl j hj => ?_⟩
  by_cases hji : j = g
  · rw [hji]; exact GI.mk_eq L g
  · rw [GI.mk_ne hji]; exact h.dep (e2 ▸ hl) j hj
theorem stored {γ : Gh} {L : Run} {wx w' : World} (_h : GB W1 b Z R T ds g s pd γ L wx) (v : Value) (hall : ∀ i ∈ ds, L i = true) (hp : Put W1 b (.cells R T (0, 0)) w') : GB W1 b Z R T ds g s pd (upd γ s v) (GhostV.mark L s) w' := by
  have e2 : GhostV.mark L s s = true := GI.mk_eq L s
  refine ⟨by rw [e2, if_pos rfl]; exact hp, fun hl => (by rw [e2] at hl; cases hl), fun _ j hj => ?_⟩
  by_cases hji : j = s
  · rw [hji]; exact e2
  · rw [GI.mk_ne hji]; exact hall j hj
end GB
end

section
open Go.RowKit GhostV

/-- What a struct of k cells is in a world; it goes on being so where the blocks from base on are as they were. -/
structure PdC (base k : Nat) where
  holds : World → Array Value → Prop
  lasts : ∀ {w w' : World} {c : Array Value}, holds w c → (∀ j, base ≤ j → j < w.heap.size → w'.heap[j]? = w.heap[j]?) → holds w' c
  size : ∀ {w : World} {c : Array Value}, holds w c → c.size = k
  one : ∀ {w : World} {c : Array Value}, holds w c → c.all (·.oneCell') = true
structure GD (W1 : World) (b1 : Nat) (Z1 R1 : Array Value) (T1 : TypeId) (b2 : Nat) (Z2 : Array Value) (T2 : TypeId) (g s1 s2 : Nat) (pd : PdC W1.heap.size Z2.size) (γ : Gh) (L : Run) (wx : World) : Prop where
  os : wx.os = W1.os
  tape : wx.tape = W1.tape
  output : wx.output = W1.output
  size : W1.heap.size ≤ wx.heap.size
  other : ∀ j, j < W1.heap.size → j ≠ b1 → j ≠ b2 → wx.heap[j]? = W1.heap[j]?
  row1 : wx.heap[b1]? = some (.cells (if L s1 = true then R1 else Z1) T1 (0, 0))
  row2 : ∃ c, wx.heap[b2]? = some (.cells c T2 (0, 0)) ∧ c.size = Z2.size ∧ (L s2 = true → pd.holds wx c)
  gh : L g = true → ∃ c, γ g = .agg c ∧ pd.holds wx c
namespace GD
variable {W1 : World} {b1 : Nat} {Z1 R1 : Array Value} {T1 : TypeId} {b2 : Nat} {Z2 : Array Value} {T2 : TypeId} {g s1 s2 : Nat} {pd : PdC W1.heap.size Z2.size}
theorem start (γ : Gh) (h1 : W1.heap[b1]? = some (.cells Z1 T1 (0, 0))) (h2 : W1.heap[b2]? = some (.cells Z2 T2 (0, 0))) : GD W1 b1 Z1 R1 T1 b2 Z2 T2 g s1 s2 pd γ (fun _ => false) { W1 with drawn := W1.drawn + 1 } :=
  ⟨rfl, rfl, rfl, Nat.le_refl _, fun _ _ _ _ => rfl, by rw [if_neg Bool.false_ne_true]; exact h1, ⟨Z2, h2, rfl, fun h => absurd h Bool.false_ne_true⟩, fun h => absurd h Bool.false_ne_true⟩
theorem lt1 {γ : Gh} {L : Run} {wx : World} (h : GD W1 b1 Z1 R1 T1 b2 Z2 T2 g s1 s2 pd γ L wx) : b1 < wx.heap.size := (Array.getElem?_eq_some_iff.1 h.row1).1
theorem below {γ : Gh} {L : Run} {wx : World} {B : Nat} (h : GD W1 b1 Z1 R1 T1 b2 Z2 T2 g s1 s2 pd γ L wx) (hB : B ≤ b1) (hB2 : B ≤ b2) (hB3 : B ≤ W1.heap.size) : Below B W1 wx := ⟨h.os, h.tape, h.output, h.size, fun j hj => h.other j (by omega) (by omega) (by omega)⟩
theorem next {γ : Gh} {L : Run} {wx w' : World} {i : Nat} (h : GD W1 b1 Z1 R1 T1 b2 Z2 T2 g s1 s2 pd γ L wx) (v : Value) (h1 : g ≠ i) (h2 : s1 ≠ i) (h3 : s2 ≠ i) (hb : Below wx.heap.size wx w') : GD W1 b1 Z1 R1 T1 b2 Z2 T2 g s1 s2 pd (upd γ i v) (GhostV.mark L i) w' := by
  have e1 : GhostV.mark L i g = L g := GI.mk_ne h1
  have e2 : GhostV.mark L i s1 = L s1 := GI.mk_ne h2
  have e3 : GhostV.mark L i s2 = L s2 := GI.mk_ne h3
  have e4 : upd γ i v g = γ g := GI.up_ne h1
  obtain ⟨c, hc, hk, hp⟩ := h.row2
  have hl2 : b2 < wx.heap.size := (Array.getElem?_eq_some_iff.1 hc).1
  refine ⟨hb.os.trans h.os, hb.tape.trans h.tape, hb.output.trans h.output, Nat.le_trans h.size hb.size, fun j hj hj1 hj2 => (hb.block j (Nat.lt_of_lt_of_le hj h.size)).trans (h.other j hj hj1 hj2), by rw [e2]; exact (hb.block b1 h.lt1).trans h.row1, ⟨c, (hb.block b2 hl2).trans hc, hk, fun hl => pd.lasts (hp (e3 ▸ hl)) (fun j _ hj => hb.block j hj)⟩, fun hl => ?_⟩
  rw [e4]
  obtain ⟨c', he, hh⟩ := h.gh (e1 ▸ hl)
  exact ⟨c', he, pd.lasts hh (fun j _ hj => hb.block j hj)⟩
theorem make {γ : Gh} {L : Run} {wx w' : World} (h : GD W1 b1 Z1 R1 T1 b2 Z2 T2 g s1 s2 pd γ L wx) (c : Array Value) (h2 : s1 ≠ g) (h3 : s2 ≠ g) (hp : pd.holds w' c) (hb : Below wx.heap.size wx w') : GD W1 b1 Z1 R1 T1 b2 Z2 T2 g s1 s2 pd (upd γ g (.agg c)) (GhostV.mark L g) w' := by
  have e2 : GhostV.mark L g s1 = L s1 := GI.mk_ne h2
  have e3 : GhostV.mark L g s2 = L s2 := GI.mk_ne h3
  obtain ⟨c0, hc, hk, hp0⟩ := h.row2
  have hl2 : b2 < wx.heap.size := (Array.getElem?_eq_some_iff.1 hc).1
  exact ⟨hb.os.trans h.os, hb.tape.trans h.tape, hb.output.trans h.output, Nat.le_trans h.size hb.size, fun j hj hj1 hj2 => (hb.block j (Nat.lt_of_lt_of_le hj h.size)).trans (h.other j hj hj1 hj2), by rw [e2]; exact (hb.block b1 h.lt1).trans h.row1, ⟨c0, (hb.block b2 hl2).trans hc, hk, fun hl => pd.lasts (hp0 (e3 ▸ hl)) (fun j _ hj => hb.block j hj)⟩, fun _ => ⟨c, GI.up_eq γ g _, hp⟩⟩
theorem store1 {P : Program} {op : Oper} {a : Act} {K : Act → World → Prop} {Q : Exit → Act → World → Prop} {γ : Gh} {L : Run} {wx : World} (h : GD W1 b1 Z1 R1 T1 b2 Z2 T2 g s1 s2 pd γ L wx) (h0 : L s1 = false) (hbb : b1 ≠ b2) (hlt : b1 < W1.heap.size) (hg : g ≠ s1) (hs : s2 ≠ s1)
    (ty : TypeId) (x y : Operand) (ho : op.op = .store ty x y) (hx : a.eval x = .pointer (some ⟨b1, 0, none⟩)) (hy : a.eval y = .agg R1) (hi : (P.info? ty).map (·.size) = some R1.size) (hsz : Z1.size = R1.size) (h1 : R1.all (·.oneCell') = true)
    (hk : ∀ w', GD W1 b1 Z1 R1 T1 b2 Z2 T2 g s1 s2 pd (upd γ s1 undef) (GhostV.mark L s1) w' → K (a.put op.dst undef) w') : op.wp P a wx K Q := by
  have hr := h.row1
  rw [h0, if_neg Bool.false_ne_true] at hr
  refine wp_put ty x y ho b1 R1 Z1 T1 hx hy hr hi hsz h1 (fun w2 hr2 hg2 => hk w2 ?_)
  have hg2 := hg2.out
  obtain ⟨c, hc, hkk, hp⟩ := h.row2
  have hl2 : b2 < wx.heap.size := (Array.getElem?_eq_some_iff.1 hc).1
  have hne : ∀ {j : Nat}, j ≠ b1 → some j ≠ some b1 := fun hj e => hj (Option.some.inj e)
  have hbl : ∀ j, W1.heap.size ≤ j → j < wx.heap.size → w2.heap[j]? = wx.heap[j]? := fun j hj hj2 => hg2.block j hj2 (hne (by omega))
  refine ⟨hg2.os.trans h.os, hg2.tape.trans h.tape, hg2.output.trans h.output, Nat.le_trans h.size hg2.size, fun j hj hj1 hj2 => (hg2.block j (Nat.lt_of_lt_of_le hj h.size) (hne hj1)).trans (h.other j hj hj1 hj2), by rw [GI.mk_eq, if_pos rfl]; exact hr2.out, ⟨c, (hg2.block b2 hl2 (hne (Ne.symm hbb))).trans hc, hkk, fun hl => ?_⟩, fun hl => ?_⟩
  · rw [GI.mk_ne hs] at hl
    exact pd.lasts (hp hl) hbl
  · rw [GI.mk_ne hg] at hl
    rw [GI.up_ne hg]
    obtain ⟨c', he, hh⟩ := h.gh hl
    exact ⟨c', he, pd.lasts hh hbl⟩
theorem store2 {P : Program} {op : Oper} {a : Act} {K : Act → World → Prop} {Q : Exit → Act → World → Prop} {γ : Gh} {L : Run} {wx : World} (h : GD W1 b1 Z1 R1 T1 b2 Z2 T2 g s1 s2 pd γ L wx) (hG : L g = true) (hbb : b1 ≠ b2) (hlt : b2 < W1.heap.size) (hg : g ≠ s2) (hs : s1 ≠ s2)
    (ty : TypeId) (x y : Operand) (ho : op.op = .store ty x y) (hx : a.eval x = .pointer (some ⟨b2, 0, none⟩)) (hy : a.eval y = γ g) (hi : (P.info? ty).map (·.size) = some Z2.size)
    (hk : ∀ w', GD W1 b1 Z1 R1 T1 b2 Z2 T2 g s1 s2 pd (upd γ s2 undef) (GhostV.mark L s2) w' → K (a.put op.dst undef) w') : op.wp P a wx K Q := by
  obtain ⟨c', he, hh⟩ := h.gh hG
  obtain ⟨c, hc, hkk, hp⟩ := h.row2
  have hcs := pd.size hh
  refine wp_put ty x y ho b2 c' c T2 hx (hy.trans he) hc (by rw [hcs]; exact hi) (by rw [hkk, hcs]) (pd.one hh) (fun w2 hr2 hg2 => hk w2 ?_)
  have hg2 := hg2.out
  have hne : ∀ {j : Nat}, j ≠ b2 → some j ≠ some b2 := fun hj e => hj (Option.some.inj e)
  have hbl : ∀ j, W1.heap.size ≤ j → j < wx.heap.size → w2.heap[j]? = wx.heap[j]? := fun j hj hj2 => hg2.block j hj2 (hne (by omega))
  refine ⟨hg2.os.trans h.os, hg2.tape.trans h.tape, hg2.output.trans h.output, Nat.le_trans h.size hg2.size, fun j hj hj1 hj2 => (hg2.block j (Nat.lt_of_lt_of_le hj h.size) (hne hj2)).trans (h.other j hj hj1 hj2), by rw [GI.mk_ne hs]; exact (hg2.block b1 h.lt1 (hne hbb)).trans h.row1, ⟨c', hr2.out, hcs, fun _ => pd.lasts hh hbl⟩, fun _ => ?_⟩
  rw [GI.up_ne hg]
  exact ⟨c', he, pd.lasts hh hbl⟩
end GD
/-- A struct that is known. -/
def pdK (base : Nat) (c0 : Array Value) (k : Nat) (hk : c0.size = k) (h1 : c0.all (·.oneCell') = true) : PdC base k :=
  ⟨fun _ c => c = c0, fun h _ => h, fun h => by rw [h]; exact hk, fun h => by rw [h]; exact h1⟩
/-- An image in rows of the call's own. -/
def pdI (base : Nat) (m : Img) : PdC base 4 where
  holds := fun w c => ∃ pv fv lv ev, c = #[pv, fv, lv, ev] ∧ IOwn w base pv fv lv ev m
  lasts := fun {w w' c} ⟨pv, fv, lv, ev, hc, h⟩ hb => ⟨pv, fv, lv, ev, hc, own_of_blocks h.p hb, own_of_blocks h.f hb, own_of_blocks h.l hb, own_of_blocks h.e hb, h.ne⟩
  size := fun {w c} ⟨pv, fv, lv, ev, hc, h⟩ => by rw [hc]; rfl
  one := fun {w c} ⟨pv, fv, lv, ev, hc, h⟩ => by
    obtain ⟨a1, k1, rfl⟩ := own_slice h.p
    obtain ⟨a2, k2, rfl⟩ := own_slice h.f
    obtain ⟨a3, k3, rfl⟩ := own_slice h.l
    obtain ⟨a4, k4, rfl⟩ := own_slice h.e
    rw [hc]
    simp [Value.oneCell']
end

section
open Go.RowKit GhostV

/-- What lay lies, but for structs of the types T1 and T2. -/
def KeepT (T1 T2 : TypeId) (w w' : World) : Prop := ∀ j, j < w.heap.size → (∀ c, w.heap[j]? ≠ some (.cells c T1 (0, 0))) → (∀ c, w.heap[j]? ≠ some (.cells c T2 (0, 0))) → w'.heap[j]? = w.heap[j]?
theorem KeepT.of_below {T1 T2 : TypeId} {w w' : World} (h : Below w.heap.size w w') : KeepT T1 T2 w w' := fun j hj _ _ => h.block j hj
theorem KeepT.of_put1 {T1 T2 : TypeId} {w w' : World} {g : Nat} {c : Array Value} (hr : w.heap[g]? = some (.cells c T1 (0, 0))) (h : w.grownBy w' (some g)) : KeepT T1 T2 w w' := fun j hj h1 _ =>
  h.block j hj (fun e => by obtain rfl := Option.some.inj e; exact h1 c hr)
theorem KeepT.of_put2 {T1 T2 : TypeId} {w w' : World} {g : Nat} {c : Array Value} (hr : w.heap[g]? = some (.cells c T2 (0, 0))) (h : w.grownBy w' (some g)) : KeepT T1 T2 w w' := fun j hj _ h2 =>
  h.block j hj (fun e => by obtain rfl := Option.some.inj e; exact h2 c hr)
abbrev PdE (T1 T2 : TypeId) := { p : World → Value → Prop // ∀ (w w' : World) (v : Value), p w v → KeepT T1 T2 w w' → p w' v }
structure GE (W : World) (T1 T2 : TypeId) (k1 k2 a1 s1 a2 s2 : Nat) (H1 H2 : PdE T1 T2) (D : List (Nat × PdE T1 T2)) (γ : Gh) (L : Run) (wx : World) : Prop where
  below : Below W.heap.size W wx
  gh : ∀ d ∈ D, L d.1 = true → d.2.1 wx (γ d.1)
  d1 : L a1 = true → ∃ g c, γ a1 = .pointer (some ⟨g, 0, none⟩) ∧ W.heap.size ≤ g ∧ wx.heap[g]? = some (.cells c T1 (0, 0)) ∧ c.size = k1 ∧ (L s1 = true → H1.1 wx (.agg c))
  d2 : L a2 = true → ∃ g c, γ a2 = .pointer (some ⟨g, 0, none⟩) ∧ W.heap.size ≤ g ∧ wx.heap[g]? = some (.cells c T2 (0, 0)) ∧ c.size = k2 ∧ (L s2 = true → H2.1 wx (.agg c))
  o1 : L s1 = true → L a1 = true
  o2 : L s2 = true → L a2 = true
namespace GE
variable {W : World} {T1 T2 : TypeId} {k1 k2 a1 s1 a2 s2 : Nat} {H1 H2 : PdE T1 T2} {D : List (Nat × PdE T1 T2)}
theorem start (γ : Gh) : GE W T1 T2 k1 k2 a1 s1 a2 s2 H1 H2 D γ (fun _ => false) { W with drawn := W.drawn + 1 } :=
  ⟨(Below.refl _ _).drew, fun _ _ h => absurd h Bool.false_ne_true, fun h => absurd h Bool.false_ne_true, fun h => absurd h Bool.false_ne_true, fun h => absurd h Bool.false_ne_true, fun h => absurd h Bool.false_ne_true⟩
theorem make {γ : Gh} {L : Run} {wx w' : World} {i : Nat} (h : GE W T1 T2 k1 k2 a1 s1 a2 s2 H1 H2 D γ L wx) {v : Value} (hi : i ≠ a1 ∧ i ≠ s1 ∧ i ≠ a2 ∧ i ≠ s2) (hv : ∀ d ∈ D, d.1 = i → d.2.1 w' v) (hb : Below wx.heap.size wx w') : GE W T1 T2 k1 k2 a1 s1 a2 s2 H1 H2 D (upd γ i v) (GhostV.mark L i) w' := by
  obtain ⟨n1, n2, n3, n4⟩ := hi
  have hk : KeepT T1 T2 wx w' := KeepT.of_below hb
  have row : ∀ {g : Nat} {r : Obj}, wx.heap[g]? = some r → w'.heap[g]? = some r := fun {g r} hr => (hb.block g (Array.getElem?_eq_some_iff.1 hr).1).trans hr
  refine ⟨h.below.trans (hb.mono h.below.size), fun d hd hl => ?_, fun hl => ?_, fun hl => ?_, fun hl => ?_, fun hl => ?_⟩
  · by_cases hdi : d.1 = i
    · rw [hdi, GI.up_eq]; exact hv d hd hdi
    · rw [GI.mk_ne hdi] at hl
      rw [GI.up_ne hdi]
      exact d.2.2 _ _ _ (h.gh d hd hl) hk
  · rw [GI.mk_ne (Ne.symm n1)] at hl
    rw [GI.up_ne (Ne.symm n1), GI.mk_ne (Ne.symm n2)]
    obtain ⟨g, c, e1, e2, e3, e4, e5⟩ := h.d1 hl
    exact ⟨g, c, e1, e2, row e3, e4, fun hs => H1.2 _ _ _ (e5 hs) hk⟩
  · rw [GI.mk_ne (Ne.symm n3)] at hl
    rw [GI.up_ne (Ne.symm n3), GI.mk_ne (Ne.symm n4)]
    obtain ⟨g, c, e1, e2, e3, e4, e5⟩ := h.d2 hl
    exact ⟨g, c, e1, e2, row e3, e4, fun hs => H2.2 _ _ _ (e5 hs) hk⟩
  · rw [GI.mk_ne (Ne.symm n2)] at hl
    rw [GI.mk_ne (Ne.symm n1)]
    exact h.o1 hl
  · rw [GI.mk_ne (Ne.symm n4)] at hl
    rw [GI.mk_ne (Ne.symm n3)]
    exact h.o2 hl
theorem next {γ : Gh} {L : Run} {wx w' : World} {i : Nat} (h : GE W T1 T2 k1 k2 a1 s1 a2 s2 H1 H2 D γ L wx) (v : Value) (hi : i ≠ a1 ∧ i ≠ s1 ∧ i ≠ a2 ∧ i ≠ s2) (hd : (D.all fun d => decide (d.1 ≠ i)) = true) (hb : Below wx.heap.size wx w') : GE W T1 T2 k1 k2 a1 s1 a2 s2 H1 H2 D (upd γ i v) (GhostV.mark L i) w' :=
  h.make hi (fun d hd2 e => absurd e (of_decide_eq_true (List.all_eq_true.1 hd d hd2))) hb
theorem alloc1 {γ : Gh} {L : Run} {wx : World} {Z : Array Value} (h : GE W T1 T2 k1 k2 a1 s1 a2 s2 H1 H2 D γ L wx) (h0 : L a1 = false) (hi : a1 ≠ s1 ∧ a1 ≠ a2 ∧ a1 ≠ s2) (hd : (D.all fun d => decide (d.1 ≠ a1)) = true) (hz : Z.size = k1) :
    GE W T1 T2 k1 k2 a1 s1 a2 s2 H1 H2 D (upd γ a1 (.pointer (some ⟨wx.heap.size, 0, none⟩))) (GhostV.mark L a1) (wx.alloc (.cells Z T1)) := by
  obtain ⟨n1, n2, n3⟩ := hi
  have hb : Below wx.heap.size wx (wx.alloc (.cells Z T1)) := (Below.refl _ _).alloc (Nat.le_refl _) _
  have hk : KeepT T1 T2 wx (wx.alloc (.cells Z T1)) := KeepT.of_below hb
  have hs0 : L s1 = false := by
    cases hs : L s1
    · rfl
    · rw [h.o1 hs] at h0; cases h0
  have H : ∀ d ∈ D, d.1 ≠ a1 := fun d hd' => of_decide_eq_true (List.all_eq_true.1 hd d hd')
  refine ⟨h.below.trans (hb.mono h.below.size), fun d hd' hl => ?_, fun _ => ?_, fun hl => ?_, fun hl => ?_, fun hl => ?_⟩
  · rw [GI.mk_ne (H d hd')] at hl
    rw [GI.up_ne (H d hd')]
    exact d.2.2 _ _ _ (h.gh d hd' hl) hk
  · rw [GI.up_eq, GI.mk_ne (Ne.symm n1), hs0]
    exact ⟨wx.heap.size, Z, rfl, h.below.size, heap_alloc_new wx _, hz, fun e => absurd e Bool.false_ne_true⟩
  · rw [GI.mk_ne (Ne.symm n2)] at hl
    rw [GI.up_ne (Ne.symm n2), GI.mk_ne (Ne.symm n3)]
    obtain ⟨g, c, e1, e2, e3, e4, e5⟩ := h.d2 hl
    exact ⟨g, c, e1, e2, (hb.block g (Array.getElem?_eq_some_iff.1 e3).1).trans e3, e4, fun hs => H2.2 _ _ _ (e5 hs) hk⟩
  · rw [GI.mk_eq]
  · rw [GI.mk_ne (Ne.symm n3)] at hl
    rw [GI.mk_ne (Ne.symm n2)]
    exact h.o2 hl
theorem alloc2 {γ : Gh} {L : Run} {wx : World} {Z : Array Value} (h : GE W T1 T2 k1 k2 a1 s1 a2 s2 H1 H2 D γ L wx) (h0 : L a2 = false) (hi : a2 ≠ s2 ∧ a2 ≠ a1 ∧ a2 ≠ s1) (hd : (D.all fun d => decide (d.1 ≠ a2)) = true) (hz : Z.size = k2) :
    GE W T1 T2 k1 k2 a1 s1 a2 s2 H1 H2 D (upd γ a2 (.pointer (some ⟨wx.heap.size, 0, none⟩))) (GhostV.mark L a2) (wx.alloc (.cells Z T2)) := by
  obtain ⟨n1, n2, n3⟩ := hi
  have hb : Below wx.heap.size wx (wx.alloc (.cells Z T2)) := (Below.refl _ _).alloc (Nat.le_refl _) _
  have hk : KeepT T1 T2 wx (wx.alloc (.cells Z T2)) := KeepT.of_below hb
  have hs0 : L s2 = false := by
    cases hs : L s2
    · rfl
    · rw [h.o2 hs] at h0; cases h0
  have H : ∀ d ∈ D, d.1 ≠ a2 := fun d hd' => of_decide_eq_true (List.all_eq_true.1 hd d hd')
  refine ⟨h.below.trans (hb.mono h.below.size), fun d hd' hl => ?_, fun hl => ?_, fun _ => ?_, fun hl => ?_, fun hl => ?_⟩
  · rw [GI.mk_ne (H d hd')] at hl
    rw [GI.up_ne (H d hd')]
    exact d.2.2 _ _ _ (h.gh d hd' hl) hk
  · rw [GI.mk_ne (Ne.symm n2)] at hl
    rw [GI.up_ne (Ne.symm n2), GI.mk_ne (Ne.symm n3)]
    obtain ⟨g, c, e1, e2, e3, e4, e5⟩ := h.d1 hl
    exact ⟨g, c, e1, e2, (hb.block g (Array.getElem?_eq_some_iff.1 e3).1).trans e3, e4, fun hs => H1.2 _ _ _ (e5 hs) hk⟩
  · rw [GI.up_eq, GI.mk_ne (Ne.symm n1), hs0]
    exact ⟨wx.heap.size, Z, rfl, h.below.size, heap_alloc_new wx _, hz, fun e => absurd e Bool.false_ne_true⟩
  · rw [GI.mk_ne (Ne.symm n3)] at hl
    rw [GI.mk_ne (Ne.symm n2)]
    exact h.o1 hl
  · rw [GI.mk_eq]
theorem store1 {P : Program} {op : Oper} {a : Act} {K : Act → World → Prop} {Q : Exit → Act → World → Prop} {γ : Gh} {L : Run} {wx : World} {c' : Array Value} (h : GE W T1 T2 k1 k2 a1 s1 a2 s2 H1 H2 D γ L wx) (ha : L a1 = true) (hT : T1 ≠ T2) (hi : s1 ≠ a1 ∧ s1 ≠ a2 ∧ s1 ≠ s2) (hd : (D.all fun d => decide (d.1 ≠ s1)) = true)
    (ty : TypeId) (x y : Operand) (ho : op.op = .store ty x y) (hx : a.eval x = γ a1) (hy : a.eval y = .agg c') (hH : H1.1 wx (.agg c')) (hs : c'.size = k1) (hu : (P.info? ty).map (·.size) = some k1) (h1 : c'.all (·.oneCell') = true)
    (hk : ∀ w', GE W T1 T2 k1 k2 a1 s1 a2 s2 H1 H2 D (upd γ s1 undef) (GhostV.mark L s1) w' → K (a.put op.dst undef) w') : op.wp P a wx K Q := by
  obtain ⟨n1, n2, n3⟩ := hi
  obtain ⟨g, c, e1, e2, e3, e4, e5⟩ := h.d1 ha
  refine wp_put ty x y ho g c' c T1 (hx.trans e1) hy e3 (by rw [hs]; exact hu) (by rw [e4, hs]) h1 (fun w2 hr2 hg2 => hk w2 ?_)
  have hg2 := hg2.out
  have hK : KeepT T1 T2 wx w2 := KeepT.of_put1 e3 hg2
  have H : ∀ d ∈ D, d.1 ≠ s1 := fun d hd' => of_decide_eq_true (List.all_eq_true.1 hd d hd')
  refine ⟨h.below.trans ((Below.refl W.heap.size wx).grown hg2 h.below.size (fun k hk => by have := Option.some.inj hk; omega)), fun d hd' hl => ?_, fun _ => ?_, fun hl => ?_, fun _ => ?_, fun hl => ?_⟩
  · rw [GI.mk_ne (H d hd')] at hl
    rw [GI.up_ne (H d hd')]
    exact d.2.2 _ _ _ (h.gh d hd' hl) hK
  · rw [GI.up_ne (Ne.symm n1)]
    exact ⟨g, c', e1, e2, hr2.out, hs, fun _ => H1.2 _ _ _ hH hK⟩
  · rw [GI.mk_ne (Ne.symm n2)] at hl
    rw [GI.up_ne (Ne.symm n2), GI.mk_ne (Ne.symm n3)]
    obtain ⟨g', c2, f1, f2, f3, f4, f5⟩ := h.d2 hl
    refine ⟨g', c2, f1, f2, ?_, f4, fun hs => H2.2 _ _ _ (f5 hs) hK⟩
    rw [← f3]
    refine hg2.block g' (Array.getElem?_eq_some_iff.1 f3).1 (fun e => ?_)
    obtain rfl := Option.some.inj e
    rw [e3] at f3
    injection f3 with f3
    injection f3 with _ f3
    exact hT f3
  · rw [GI.mk_ne (Ne.symm n1)]; exact ha
  · rw [GI.mk_ne (Ne.symm n3)] at hl
    rw [GI.mk_ne (Ne.symm n2)]
    exact h.o2 hl
theorem store2 {P : Program} {op : Oper} {a : Act} {K : Act → World → Prop} {Q : Exit → Act → World → Prop} {γ : Gh} {L : Run} {wx : World} {c' : Array Value} (h : GE W T1 T2 k1 k2 a1 s1 a2 s2 H1 H2 D γ L wx) (ha : L a2 = true) (hT : T1 ≠ T2) (hi : s2 ≠ a2 ∧ s2 ≠ a1 ∧ s2 ≠ s1) (hd : (D.all fun d => decide (d.1 ≠ s2)) = true)
    (ty : TypeId) (x y : Operand) (ho : op.op = .store ty x y) (hx : a.eval x = γ a2) (hy : a.eval y = .agg c') (hH : H2.1 wx (.agg c')) (hs : c'.size = k2) (hu : (P.info? ty).map (·.size) = some k2) (h1 : c'.all (·.oneCell') = true)
    (hk : ∀ w', GE W T1 T2 k1 k2 a1 s1 a2 s2 H1 H2 D (upd γ s2 undef) (GhostV.mark L s2) w' → K (a.put op.dst undef) w') : op.wp P a wx K Q := by
  obtain ⟨n1, n2, n3⟩ := hi
  obtain ⟨g, c, e1, e2, e3, e4, e5⟩ := h.d2 ha
  refine wp_put ty x y ho g c' c T2 (hx.trans e1) hy e3 (by rw [hs]; exact hu) (by rw [e4, hs]) h1 (fun w2 hr2 hg2 => hk w2 ?_)
  have hg2 := hg2.out
  have hK : KeepT T1 T2 wx w2 := KeepT.of_put2 e3 hg2
  have H : ∀ d ∈ D, d.1 ≠ s2 := fun d hd' => of_decide_eq_true (List.all_eq_true.1 hd d hd')
  refine ⟨h.below.trans ((Below.refl W.heap.size wx).grown hg2 h.below.size (fun k hk => by have := Option.some.inj hk; omega)), fun d hd' hl => ?_, fun hl => ?_, fun _ => ?_, fun hl => ?_, fun _ => ?_⟩
  · rw [GI.mk_ne (H d hd')] at hl
    rw [GI.up_ne (H d hd')]
    exact d.2.2 _ _ _ (h.gh d hd' hl) hK
  · rw [GI.mk_ne (Ne.symm n2)] at hl
    rw [GI.up_ne (Ne.symm n2), GI.mk_ne (Ne.symm n3)]
    obtain ⟨g', c2, f1, f2, f3, f4, f5⟩ := h.d1 hl
    refine ⟨g', c2, f1, f2, ?_, f4, fun hs => H1.2 _ _ _ (f5 hs) hK⟩
    rw [← f3]
    refine hg2.block g' (Array.getElem?_eq_some_iff.1 f3).1 (fun e => ?_)
    obtain rfl := Option.some.inj e
    rw [e3] at f3
    injection f3 with f3
    injection f3 with _ f3
    exact hT f3.symm
  · rw [GI.up_ne (Ne.symm n1)]
    exact ⟨g, c', e1, e2, hr2.out, hs, fun _ => H2.2 _ _ _ hH hK⟩
  · rw [GI.mk_ne (Ne.symm n3)] at hl
    rw [GI.mk_ne (Ne.symm n2)]
    exact h.o1 hl
  · rw [GI.mk_ne (Ne.symm n1)]; exact ha
end GE
/-- A row of the call's own is kept, but where its element's type is one of the two. -/
theorem own_keepT {T1 T2 : TypeId} {w w' : World} {base n size : Nat} {e : TypeId} {v : Value} {xs : List Value} (h : w.ownsRow base e size v n xs) (hk : KeepT T1 T2 w w') (h1 : e ≠ T1) (h2 : e ≠ T2) : w'.ownsRow base e size v n xs := by
  obtain ⟨hl, h | ⟨g, cap, cur, hv, hbg, hg, hc⟩⟩ := h
  · exact ⟨hl, .inl h⟩
  · have hlt : g < w.heap.size := (Array.getElem?_eq_some_iff.1 hg).1
    refine ⟨hl, .inr ⟨g, cap, cur, hv, hbg, ?_, hc⟩⟩
    rw [hk g hlt (fun c e' => ?_) (fun c e' => ?_)]
    · exact hg
    · rw [hg] at e'; injection e' with e'; injection e' with _ e'; exact h1 e'
    · rw [hg] at e'; injection e' with e'; injection e' with _ e'; exact h2 e'
end
end Go.Proofs.Ytifbkoaggjikpaa
