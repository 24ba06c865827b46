/- What the texts behind this one rest on: one text. No statement of the seat is proved here. -/
import Derived.Test.YtifbkoaggjikpaaLM31
namespace Go.Proofs.Ytifbkoaggjikpaa
section
open Go.RowKit Lg Img St GhostV

theorem up5 {w wx : World} {A B C D E : Obj} (h : Below (w.heap.size + 5) (((((w.alloc A).alloc B).alloc C).alloc D).alloc E) wx) : Below (w.heap.size + 1) (w.alloc A) wx :=
  (((((Below.refl (w.heap.size + 1) (w.alloc A)).alloc (by simp) B).alloc (by simp <;> omega) C).alloc (by simp <;> omega) D).alloc (by simp <;> omega) E).trans (h.mono (by omega))
theorem boxes5 {w wx : World} {A B C D E : Obj} (h : Below (w.heap.size + 5) (((((w.alloc A).alloc B).alloc C).alloc D).alloc E) wx) : wx.heap[w.heap.size]? = some A ∧ wx.heap[w.heap.size + 1]? = some B ∧ wx.heap[w.heap.size + 2]? = some C ∧ wx.heap[w.heap.size + 3]? = some D ∧ wx.heap[w.heap.size + 4]? = some E := by
  have hs : (w.alloc A).heap.size = w.heap.size + 1 := by simp
  have h4 := boxes4 (w := w.alloc A) (wx := wx) (A := B) (B := C) (C := D) (D := E) (by rw [hs]; exact h)
  rw [hs] at h4
  exact ⟨((up5 h).block _ (by omega)).trans (heap_alloc_new w A), h4⟩
theorem below5 {w wx : World} {A B C D E : Obj} (h : Below (w.heap.size + 5) (((((w.alloc A).alloc B).alloc C).alloc D).alloc E) wx) : Below w.heap.size w wx :=
  ((Below.refl w.heap.size w).alloc (Nat.le_refl _) A).trans ((up5 h).mono (by omega))
theorem size5 (w : World) (A B C D E : Obj) : (((((w.alloc A).alloc B).alloc C).alloc D).alloc E).heap.size = w.heap.size + 5 := by simp
/-- A list of one record, newly made. -/
theorem one_rec (x1 x2 x3 x4 x5 : Int) (w : World) : RV (w.alloc (.cells #[.int .i64 x1, .int .i64 x2, .int .i64 x3, .int .i64 x4, .int .i64 x5] 41)) (.slice (some ⟨w.heap.size, 0, none⟩) 1 1) [⟨x1, x2, x3, x4, x5⟩] := by
  refine ⟨some ⟨w.heap.size, 0, none⟩, 1, rfl, .inr ⟨w.heap.size, 0, rfl, fun j v hv => ?_⟩⟩
  rw [Nat.zero_add, cell_of_row _ _ _ _ _ (0, 0) (heap_alloc_new w _), ← Array.getElem?_toList]
  rw [← hv]
  simp [flatR, Rc.cells]

set_option maxRecDepth 100000 in
set_option maxHeartbeats 16000000 in
theorem wr_any (b : BldD) (A : Option Addr) (cap : Nat) (s : St) (pv fv lv ev : Value) (m : Img) (r : Rc) (bud : Int) (w : World) (hn : b.cars.length ≤ 140737488355328) (hc : CarsAt w w.heap.size A b.cars) (h : ImV w pv fv lv ev m)
    (hp : m.ph.length ≤ 1000000) (he : m.en.length ≤ 50000) (hbud : I64 bud) (hcur : s.cur.size ≤ 1000000) (hok : Rc.okB b r = true) :
    Calls Try.prog 42 #[b.agg A cap, s.agg, .agg #[pv, fv, lv, ev], r.agg, .int .i64 bud] w fun e w' => e = .returned (ans (if (s.cur.size : Int) + 6 ≤ b.room then writeF b.room s s.sel (bytesR [r]) bud else compactF b s m bud)) ∧ Below w.heap.size w w' := by
  have FCu := Lib.hid (fun wx => current_any s wx)
  have FCo := Lib.hid (fun wx (hb : Below w.heap.size w wx) => compact_any b A cap s pv fv lv ev m bud wx hn ((hc.below hb).more hb.size) (h.below hb) hp he hbud)
  have hok1 : ∀ x ∈ [r], Rc.okB b x = true := fun x hx => by rw [List.mem_singleton.1 hx]; exact hok
  have FB := Lib.hid (fun wx vA vc (hb : Below w.heap.size w wx) (hv : RAt wx vA [r]) => by
    have := bytes_any b A cap [r] vA vc wx hn ((hc.below hb).more hb.size) (by simp) hv
    rw [encL_ok hok1] at this
    exact (show Calls Try.prog 72 #[b.agg A cap, .slice vA [r].length vc] wx fun e w' => e = .returned (.string (bytesR [r])) ∧ Below wx.heap.size wx w' from this))
  have FWr := Lib.hid (fun wx => write_any b.room s s.sel (bytesR [r]) bud wx (by rw [bytesR_size]; simp) hbud)
  have hgt : (decide ((s.cur.size : Int) + 6 > b.room)) = !decide ((s.cur.size : Int) + 6 ≤ b.room) := by rw [← decide_not, decide_eq_decide]; omega
  have hw6 : IntKind.i64.wrap ((s.cur.size : Int) + 6) = (s.cur.size : Int) + 6 := IntWalk.i64_in _ (by omega)
  generalize hR : (if (s.cur.size : Int) + 6 ≤ b.room then writeF b.room s s.sel (bytesR [r]) bud else compactF b s m bud) = R at *
  generalize bytesR [r] = D at *
  generalize s.cur = cu at *
  generalize writeF b.room s s.sel D bud = WR at *
  generalize compactF b s m bud = CR at *
  obtain ⟨⟨wa, wb, ws⟩, wn, wc⟩ := WR
  obtain ⟨⟨ca, cb, cs'⟩, cn, cc⟩ := CR
  obtain ⟨⟨A1, c1, rfl, -⟩, ⟨A2, c2, rfl, -⟩, ⟨A3, c3, rfl, -⟩, ⟨A4, c4, rfl, -⟩⟩ := h
  generalize (nums m.ph).length = n1 at *
  generalize (bls m.fl).length = n2 at *
  generalize (bls m.lv).length = n3 at *
  generalize m.en.length = n4 at *
  obtain ⟨f, d, rr, p, e1, e2, e3, cs⟩ := b
  obtain ⟨s1, s2, s3⟩ := s
  obtain ⟨x1, x2, x3, x4, x5⟩ := r
  simp only [BldD.agg, St.agg, Rc.agg, ans] at *
  clear hc hn hp he hbud hok hok1 hcur
  have HRR := Lib.hid hR
  clear hR
  generalize hQ : decide ((cu.size : Int) + 6 ≤ rr) = Q at *
  have HQ := Lib.hid hQ
  clear hQ
  have HWS := Lib.hid (fun wx (hb : Below (w.heap.size + 5) (((((w.alloc (.cells #[.int .i64 f, .int .i64 d, .int .i64 rr, .int .i64 p, .float .f64 e1, .float .f64 e2, .float .f64 e3, .slice A cs.length cap] 26)).alloc (.cells #[.string s1, .string s2, .int .i64 s3] 47)).alloc (.cells #[.slice A1 n1 c1, .slice A2 n2 c2, .slice A3 n3 c3, .slice A4 n4 c4] 32)).alloc (.cells #[.int .i64 x1, .int .i64 x2, .int .i64 x3, .int .i64 x4, .int .i64 x5] 41)).alloc (.cells #[.string ⟨#[]⟩, .string ⟨#[]⟩, .int .i64 0] 47)) wx) => And.intro (boxes5 hb) (below5 hb))
  have HS5 := Lib.hid (size5 w (.cells #[.int .i64 f, .int .i64 d, .int .i64 rr, .int .i64 p, .float .f64 e1, .float .f64 e2, .float .f64 e3, .slice A cs.length cap] 26) (.cells #[.string s1, .string s2, .int .i64 s3] 47) (.cells #[.slice A1 n1 c1, .slice A2 n2 c2, .slice A3 n3 c3, .slice A4 n4 c4] 32) (.cells #[.int .i64 x1, .int .i64 x2, .int .i64 x3, .int .i64 x4, .int .i64 x5] 41) (.cells #[.string ⟨#[]⟩, .string ⟨#[]⟩, .int .i64 0] 47))
  go_enter Try.func42, Try.ntmps42
  go_wp2_with fail
  generalize ((((w.alloc (.cells #[.int .i64 f, .int .i64 d, .int .i64 rr, .int .i64 p, .float .f64 e1, .float .f64 e2, .float .f64 e3, .slice A cs.length cap] 26)).alloc (.cells #[.string s1, .string s2, .int .i64 s3] 47)).alloc (.cells #[.slice A1 n1 c1, .slice A2 n2 c2, .slice A3 n3 c3, .slice A4 n4 c4] 32)).alloc (.cells #[.int .i64 x1, .int .i64 x2, .int .i64 x3, .int .i64 x4, .int .i64 x5] 41)).alloc (.cells #[.string ⟨#[]⟩, .string ⟨#[]⟩, .int .i64 0] 47) = W at *
  refine Bag.region (fun wx => Below (w.heap.size + 5) W wx) (by kernel_rfl) (by kernel_rfl) (Below.refl _ _).drew ?_
  iterate 7 (first
      | (apply Bag.walk_yes (by rfl)
         (intro wx hx K hK
          obtain ⟨⟨r1, r2, -⟩, -⟩ := HWS.out wx hx
          obtain ⟨k0, k1, k2, k3, k4, k5, k6, k7⟩ := boxRow r1
          obtain ⟨z0, z1, z2⟩ := stRow r2
          clear r1 r2
          first
            | (go_simp
               first
                | (go_at_call 47; (with_reducible refine (FCu.out _).mono ?_); rintro e w' ⟨rfl, hb⟩; exact hK _ (hx.trans (hb.mono (by have := hx.size; have := HS5.out; omega))))
                | (go_at_K; exact hK _ hx)))
         rfl)
      | (refine Bag.walk_no (by rfl) ?_; simp only [Act.put, List.setIfInBounds_toArray, List.set_cons_succ, List.set_cons_zero]))
  refine Bag.walk_nil (fun w1 hb => ?_)
  have hz1 : w.heap.size + 5 ≤ w1.heap.size := by have := hb.size; have := HS5.out; omega
  obtain ⟨⟨r1, r2, r3, r4, r5⟩, hbw⟩ := HWS.out w1 hb
  have HBW := Lib.hid hbw
  have HB := Lib.hid hb
  clear hb hbw
  cases Q
  case true =>
    have hle := of_decide_eq_true HQ.out
    have R1 := Lib.hid r1
    have R2 := Lib.hid r2
    have R4 := Lib.hid r4
    have R5 := Lib.hid r5
    clear r1 r2 r3 r4 r5
    have HLE := Lib.hid hle
    clear hle
    go_wp2_with fail
    refine GhostV.ghost (fun γ L wx => GB (w1) (w.heap.size + 4) #[.string ⟨#[]⟩, .string ⟨#[]⟩, .int .i64 0] #[.string wa, .string wb, .int .i64 ws] 47 [8] 7 14 (pdS [⟨x1, x2, x3, x4, x5⟩]) γ L wx) (by kernel_rfl) (by kernel_rfl) (fun γ => GB.start γ (R5.out)) ?_
    apply GhostV.walk_const (fun γ => by rfl)
    · intro γ L wx h1 h2 hx K hK
      obtain ⟨k0, k1, k2, k3, k4, k5, k6, k7⟩ := boxRow ((hx.put.other w.heap.size (by omega) (by omega)).trans R1.out)
      obtain ⟨z0, z1, z2⟩ := stRow ((hx.put.other (w.heap.size + 1) (by omega) (by omega)).trans R2.out)
      obtain ⟨y0, y1, y2, y3, y4⟩ := recRow ((hx.put.other (w.heap.size + 3) (by omega) (by omega)).trans R4.out)
      have HBX := Lib.hid (HBW.out.trans (hx.put.below (B := w.heap.size) (by omega) (by omega)))
      have H1 := Lib.hid h1
      have H2 := Lib.hid h2
      have HK2 := Lib.hid hK
      have HX := Lib.hid hx
      clear hK h1 h2 hx
      go_simp
      first
        | (go_at_call 71; refine (FWr.out _).mono ?_; rintro e w' ⟨rfl, hb⟩; exact HK2.out _ (HX.out.next _ (by decide) (by decide) hb))
        | exact HK2.out _ (HX.out.next _ (by decide) (by decide) (Below.refl _ _))
    try simp only [Act.put, List.setIfInBounds_toArray, List.set_cons_succ, List.set_cons_zero]
    apply GhostV.walk_const (fun γ => by rfl)
    · intro γ L wx h1 h2 hx K hK
      obtain ⟨k0, k1, k2, k3, k4, k5, k6, k7⟩ := boxRow ((hx.put.other w.heap.size (by omega) (by omega)).trans R1.out)
      obtain ⟨z0, z1, z2⟩ := stRow ((hx.put.other (w.heap.size + 1) (by omega) (by omega)).trans R2.out)
      obtain ⟨y0, y1, y2, y3, y4⟩ := recRow ((hx.put.other (w.heap.size + 3) (by omega) (by omega)).trans R4.out)
      have HBX := Lib.hid (HBW.out.trans (hx.put.below (B := w.heap.size) (by omega) (by omega)))
      have H1 := Lib.hid h1
      have H2 := Lib.hid h2
      have HK2 := Lib.hid hK
      have HX := Lib.hid hx
      clear hK h1 h2 hx
      go_simp
      first
        | (go_at_call 71; refine (FWr.out _).mono ?_; rintro e w' ⟨rfl, hb⟩; exact HK2.out _ (HX.out.next _ (by decide) (by decide) hb))
        | exact HK2.out _ (HX.out.next _ (by decide) (by decide) (Below.refl _ _))
    try simp only [Act.put, List.setIfInBounds_toArray, List.set_cons_succ, List.set_cons_zero]
    apply GhostV.walk_const (fun γ => by rfl)
    · intro γ L wx h1 h2 hx K hK
      obtain ⟨k0, k1, k2, k3, k4, k5, k6, k7⟩ := boxRow ((hx.put.other w.heap.size (by omega) (by omega)).trans R1.out)
      obtain ⟨z0, z1, z2⟩ := stRow ((hx.put.other (w.heap.size + 1) (by omega) (by omega)).trans R2.out)
      obtain ⟨y0, y1, y2, y3, y4⟩ := recRow ((hx.put.other (w.heap.size + 3) (by omega) (by omega)).trans R4.out)
      have HBX := Lib.hid (HBW.out.trans (hx.put.below (B := w.heap.size) (by omega) (by omega)))
      have H1 := Lib.hid h1
      have H2 := Lib.hid h2
      have HK2 := Lib.hid hK
      have HX := Lib.hid hx
      clear hK h1 h2 hx
      go_simp
      first
        | (go_at_call 71; refine (FWr.out _).mono ?_; rintro e w' ⟨rfl, hb⟩; exact HK2.out _ (HX.out.next _ (by decide) (by decide) hb))
        | exact HK2.out _ (HX.out.next _ (by decide) (by decide) (Below.refl _ _))
    try simp only [Act.put, List.setIfInBounds_toArray, List.set_cons_succ, List.set_cons_zero]
    apply GhostV.walk_const (fun γ => by rfl)
    · intro γ L wx h1 h2 hx K hK
      obtain ⟨k0, k1, k2, k3, k4, k5, k6, k7⟩ := boxRow ((hx.put.other w.heap.size (by omega) (by omega)).trans R1.out)
      obtain ⟨z0, z1, z2⟩ := stRow ((hx.put.other (w.heap.size + 1) (by omega) (by omega)).trans R2.out)
      obtain ⟨y0, y1, y2, y3, y4⟩ := recRow ((hx.put.other (w.heap.size + 3) (by omega) (by omega)).trans R4.out)
      have HBX := Lib.hid (HBW.out.trans (hx.put.below (B := w.heap.size) (by omega) (by omega)))
      have H1 := Lib.hid h1
      have H2 := Lib.hid h2
      have HK2 := Lib.hid hK
      have HX := Lib.hid hx
      clear hK h1 h2 hx
      go_simp
      first
        | (go_at_call 71; refine (FWr.out _).mono ?_; rintro e w' ⟨rfl, hb⟩; exact HK2.out _ (HX.out.next _ (by decide) (by decide) hb))
        | exact HK2.out _ (HX.out.next _ (by decide) (by decide) (Below.refl _ _))
    try simp only [Act.put, List.setIfInBounds_toArray, List.set_cons_succ, List.set_cons_zero]
    apply GhostV.walk_const (fun γ => by rfl)
    · intro γ L wx h1 h2 hx K hK
      obtain ⟨k0, k1, k2, k3, k4, k5, k6, k7⟩ := boxRow ((hx.put.other w.heap.size (by omega) (by omega)).trans R1.out)
      obtain ⟨z0, z1, z2⟩ := stRow ((hx.put.other (w.heap.size + 1) (by omega) (by omega)).trans R2.out)
      obtain ⟨y0, y1, y2, y3, y4⟩ := recRow ((hx.put.other (w.heap.size + 3) (by omega) (by omega)).trans R4.out)
      have HBX := Lib.hid (HBW.out.trans (hx.put.below (B := w.heap.size) (by omega) (by omega)))
      have H1 := Lib.hid h1
      have H2 := Lib.hid h2
      have HK2 := Lib.hid hK
      have HX := Lib.hid hx
      clear hK h1 h2 hx
      go_simp
      first
        | (go_at_call 71; refine (FWr.out _).mono ?_; rintro e w' ⟨rfl, hb⟩; exact HK2.out _ (HX.out.next _ (by decide) (by decide) hb))
        | exact HK2.out _ (HX.out.next _ (by decide) (by decide) (Below.refl _ _))
    try simp only [Act.put, List.setIfInBounds_toArray, List.set_cons_succ, List.set_cons_zero]
    apply GhostV.walk_const (fun γ => by rfl)
    · intro γ L wx h1 h2 hx K hK
      obtain ⟨k0, k1, k2, k3, k4, k5, k6, k7⟩ := boxRow ((hx.put.other w.heap.size (by omega) (by omega)).trans R1.out)
      obtain ⟨z0, z1, z2⟩ := stRow ((hx.put.other (w.heap.size + 1) (by omega) (by omega)).trans R2.out)
      obtain ⟨y0, y1, y2, y3, y4⟩ := recRow ((hx.put.other (w.heap.size + 3) (by omega) (by omega)).trans R4.out)
      have HBX := Lib.hid (HBW.out.trans (hx.put.below (B := w.heap.size) (by omega) (by omega)))
      have H1 := Lib.hid h1
      have H2 := Lib.hid h2
      have HK2 := Lib.hid hK
      have HX := Lib.hid hx
      clear hK h1 h2 hx
      go_simp
      first
        | (go_at_call 71; refine (FWr.out _).mono ?_; rintro e w' ⟨rfl, hb⟩; exact HK2.out _ (HX.out.next _ (by decide) (by decide) hb))
        | exact HK2.out _ (HX.out.next _ (by decide) (by decide) (Below.refl _ _))
    try simp only [Act.put, List.setIfInBounds_toArray, List.set_cons_succ, List.set_cons_zero]
    apply GhostV.walk_const (fun γ => by rfl)
    · intro γ L wx h1 h2 hx K hK
      obtain ⟨k0, k1, k2, k3, k4, k5, k6, k7⟩ := boxRow ((hx.put.other w.heap.size (by omega) (by omega)).trans R1.out)
      obtain ⟨z0, z1, z2⟩ := stRow ((hx.put.other (w.heap.size + 1) (by omega) (by omega)).trans R2.out)
      obtain ⟨y0, y1, y2, y3, y4⟩ := recRow ((hx.put.other (w.heap.size + 3) (by omega) (by omega)).trans R4.out)
      have HBX := Lib.hid (HBW.out.trans (hx.put.below (B := w.heap.size) (by omega) (by omega)))
      have H1 := Lib.hid h1
      have H2 := Lib.hid h2
      have HK2 := Lib.hid hK
      have HX := Lib.hid hx
      clear hK h1 h2 hx
      go_simp
      first
        | (go_at_call 71; refine (FWr.out _).mono ?_; rintro e w' ⟨rfl, hb⟩; exact HK2.out _ (HX.out.next _ (by decide) (by decide) hb))
        | exact HK2.out _ (HX.out.next _ (by decide) (by decide) (Below.refl _ _))
    try simp only [Act.put, List.setIfInBounds_toArray, List.set_cons_succ, List.set_cons_zero]
    refine GhostV.walk_yes (fun b => b) (fun γ => by rfl) ?_ ?_
    · intro γ L wx h1 h2 hx K hK
      obtain ⟨k0, k1, k2, k3, k4, k5, k6, k7⟩ := boxRow ((hx.put.other w.heap.size (by omega) (by omega)).trans R1.out)
      obtain ⟨z0, z1, z2⟩ := stRow ((hx.put.other (w.heap.size + 1) (by omega) (by omega)).trans R2.out)
      obtain ⟨y0, y1, y2, y3, y4⟩ := recRow ((hx.put.other (w.heap.size + 3) (by omega) (by omega)).trans R4.out)
      have HBX := Lib.hid (HBW.out.trans (hx.put.below (B := w.heap.size) (by omega) (by omega)))
      have H1 := Lib.hid h1
      have H2 := Lib.hid h2
      have HK2 := Lib.hid hK
      have HX := Lib.hid hx
      clear hK h1 h2 hx
      go_simp
      (exact HK2.out (.slice (some ⟨wx.heap.size, 0, none⟩) 1 1) _ (HX.out.make _ (by decide) (one_rec x1 x2 x3 x4 x5 wx) ((Below.refl _ _).alloc (Nat.le_refl _) _)))
    try simp only [Act.put, List.setIfInBounds_toArray, List.set_cons_succ, List.set_cons_zero]
    apply GhostV.walk_const (fun γ => by rfl)
    · intro γ L wx h1 h2 hx K hK
      obtain ⟨k0, k1, k2, k3, k4, k5, k6, k7⟩ := boxRow ((hx.put.other w.heap.size (by omega) (by omega)).trans R1.out)
      obtain ⟨z0, z1, z2⟩ := stRow ((hx.put.other (w.heap.size + 1) (by omega) (by omega)).trans R2.out)
      obtain ⟨y0, y1, y2, y3, y4⟩ := recRow ((hx.put.other (w.heap.size + 3) (by omega) (by omega)).trans R4.out)
      have HBX := Lib.hid (HBW.out.trans (hx.put.below (B := w.heap.size) (by omega) (by omega)))
      have hs0 := hx.early (by decide) h1
      have hz := hx.put0 hs0
      obtain ⟨vA, vc, e7, hra⟩ := hx.row hs0 (h2 7 (by kernel_rfl))
      have HRA := Lib.hid hra
      simp only [e7] at hK ⊢
      clear e7 hra
      have HS0 := Lib.hid hs0
      clear hs0 hz
      have H1 := Lib.hid h1
      have H2 := Lib.hid h2
      have HK2 := Lib.hid hK
      have HX := Lib.hid hx
      clear hK h1 h2 hx
      go_simp
      (go_at_call 72; refine (FB.out wx vA vc HBX.out HRA.out).mono ?_; rintro e w' ⟨rfl, hb⟩; exact HK2.out _ (HX.out.next _ (by decide) (by decide) hb))
    try simp only [Act.put, List.setIfInBounds_toArray, List.set_cons_succ, List.set_cons_zero]
    apply GhostV.walk_const (fun γ => by rfl)
    · intro γ L wx h1 h2 hx K hK
      obtain ⟨k0, k1, k2, k3, k4, k5, k6, k7⟩ := boxRow ((hx.put.other w.heap.size (by omega) (by omega)).trans R1.out)
      obtain ⟨z0, z1, z2⟩ := stRow ((hx.put.other (w.heap.size + 1) (by omega) (by omega)).trans R2.out)
      obtain ⟨y0, y1, y2, y3, y4⟩ := recRow ((hx.put.other (w.heap.size + 3) (by omega) (by omega)).trans R4.out)
      have HBX := Lib.hid (HBW.out.trans (hx.put.below (B := w.heap.size) (by omega) (by omega)))
      have H1 := Lib.hid h1
      have H2 := Lib.hid h2
      have HK2 := Lib.hid hK
      have HX := Lib.hid hx
      clear hK h1 h2 hx
      go_simp
      first
        | (go_at_call 71; refine (FWr.out _).mono ?_; rintro e w' ⟨rfl, hb⟩; exact HK2.out _ (HX.out.next _ (by decide) (by decide) hb))
        | exact HK2.out _ (HX.out.next _ (by decide) (by decide) (Below.refl _ _))
    try simp only [Act.put, List.setIfInBounds_toArray, List.set_cons_succ, List.set_cons_zero]
    apply GhostV.walk_const (fun γ => by rfl)
    · intro γ L wx h1 h2 hx K hK
      obtain ⟨k0, k1, k2, k3, k4, k5, k6, k7⟩ := boxRow ((hx.put.other w.heap.size (by omega) (by omega)).trans R1.out)
      obtain ⟨z0, z1, z2⟩ := stRow ((hx.put.other (w.heap.size + 1) (by omega) (by omega)).trans R2.out)
      obtain ⟨y0, y1, y2, y3, y4⟩ := recRow ((hx.put.other (w.heap.size + 3) (by omega) (by omega)).trans R4.out)
      have HBX := Lib.hid (HBW.out.trans (hx.put.below (B := w.heap.size) (by omega) (by omega)))
      have H1 := Lib.hid h1
      have H2 := Lib.hid h2
      have HK2 := Lib.hid hK
      have HX := Lib.hid hx
      clear hK h1 h2 hx
      go_simp
      first
        | (go_at_call 71; refine (FWr.out _).mono ?_; rintro e w' ⟨rfl, hb⟩; exact HK2.out _ (HX.out.next _ (by decide) (by decide) hb))
        | exact HK2.out _ (HX.out.next _ (by decide) (by decide) (Below.refl _ _))
    try simp only [Act.put, List.setIfInBounds_toArray, List.set_cons_succ, List.set_cons_zero]
    apply GhostV.walk_const (fun γ => by rfl)
    · intro γ L wx h1 h2 hx K hK
      obtain ⟨k0, k1, k2, k3, k4, k5, k6, k7⟩ := boxRow ((hx.put.other w.heap.size (by omega) (by omega)).trans R1.out)
      obtain ⟨z0, z1, z2⟩ := stRow ((hx.put.other (w.heap.size + 1) (by omega) (by omega)).trans R2.out)
      obtain ⟨y0, y1, y2, y3, y4⟩ := recRow ((hx.put.other (w.heap.size + 3) (by omega) (by omega)).trans R4.out)
      have HBX := Lib.hid (HBW.out.trans (hx.put.below (B := w.heap.size) (by omega) (by omega)))
      have H1 := Lib.hid h1
      have H2 := Lib.hid h2
      have HK2 := Lib.hid hK
      have HX := Lib.hid hx
      clear hK h1 h2 hx
      go_simp
      first
        | (go_at_call 71; refine (FWr.out _).mono ?_; rintro e w' ⟨rfl, hb⟩; exact HK2.out _ (HX.out.next _ (by decide) (by decide) hb))
        | exact HK2.out _ (HX.out.next _ (by decide) (by decide) (Below.refl _ _))
    try simp only [Act.put, List.setIfInBounds_toArray, List.set_cons_succ, List.set_cons_zero]
    apply GhostV.walk_const (fun γ => by rfl)
    · intro γ L wx h1 h2 hx K hK
      obtain ⟨k0, k1, k2, k3, k4, k5, k6, k7⟩ := boxRow ((hx.put.other w.heap.size (by omega) (by omega)).trans R1.out)
      obtain ⟨z0, z1, z2⟩ := stRow ((hx.put.other (w.heap.size + 1) (by omega) (by omega)).trans R2.out)
      obtain ⟨y0, y1, y2, y3, y4⟩ := recRow ((hx.put.other (w.heap.size + 3) (by omega) (by omega)).trans R4.out)
      have HBX := Lib.hid (HBW.out.trans (hx.put.below (B := w.heap.size) (by omega) (by omega)))
      have H1 := Lib.hid h1
      have H2 := Lib.hid h2
      have HK2 := Lib.hid hK
      have HX := Lib.hid hx
      clear hK h1 h2 hx
      go_simp
      first
        | (go_at_call 71; refine (FWr.out _).mono ?_; rintro e w' ⟨rfl, hb⟩; exact HK2.out _ (HX.out.next _ (by decide) (by decide) hb))
        | exact HK2.out _ (HX.out.next _ (by decide) (by decide) (Below.refl _ _))
    try simp only [Act.put, List.setIfInBounds_toArray, List.set_cons_succ, List.set_cons_zero]
    apply GhostV.walk_const (fun γ => by rfl)
    · intro γ L wx h1 h2 hx K hK
      obtain ⟨k0, k1, k2, k3, k4, k5, k6, k7⟩ := boxRow ((hx.put.other w.heap.size (by omega) (by omega)).trans R1.out)
      obtain ⟨z0, z1, z2⟩ := stRow ((hx.put.other (w.heap.size + 1) (by omega) (by omega)).trans R2.out)
      obtain ⟨y0, y1, y2, y3, y4⟩ := recRow ((hx.put.other (w.heap.size + 3) (by omega) (by omega)).trans R4.out)
      have HBX := Lib.hid (HBW.out.trans (hx.put.below (B := w.heap.size) (by omega) (by omega)))
      have H1 := Lib.hid h1
      have H2 := Lib.hid h2
      have HK2 := Lib.hid hK
      have HX := Lib.hid hx
      clear hK h1 h2 hx
      go_simp
      first
        | (go_at_call 71; refine (FWr.out _).mono ?_; rintro e w' ⟨rfl, hb⟩; exact HK2.out _ (HX.out.next _ (by decide) (by decide) hb))
        | exact HK2.out _ (HX.out.next _ (by decide) (by decide) (Below.refl _ _))
    try simp only [Act.put, List.setIfInBounds_toArray, List.set_cons_succ, List.set_cons_zero]
    refine GhostV.walk_const (v := undef) (fun γ => by rfl) ?_ ?_
    · intro γ L wx h1 h2 hx K hK
      have hall0 : ∀ i ∈ ([8] : List Nat), L i = true := by
        simp only [List.mem_cons, List.not_mem_nil, or_false]
        rintro i (rfl)
        · exact h2 8 (by kernel_rfl)
      exact Put.store 47 _ _ rfl rfl rfl (hx.put0 h1) (by kernel_rfl) rfl (by kernel_rfl) (fun w2 h => hK _ (hx.stored _ hall0 h))
    try simp only [Act.put]
    apply GhostV.walk_const (fun γ => by rfl)
    · intro γ L wx h1 h2 hx K hK
      obtain ⟨k0, k1, k2, k3, k4, k5, k6, k7⟩ := boxRow ((hx.put.other w.heap.size (by omega) (by omega)).trans R1.out)
      obtain ⟨z0, z1, z2⟩ := stRow ((hx.put.other (w.heap.size + 1) (by omega) (by omega)).trans R2.out)
      obtain ⟨y0, y1, y2, y3, y4⟩ := recRow ((hx.put.other (w.heap.size + 3) (by omega) (by omega)).trans R4.out)
      have HBX := Lib.hid (HBW.out.trans (hx.put.below (B := w.heap.size) (by omega) (by omega)))
      have H1 := Lib.hid h1
      have H2 := Lib.hid h2
      have HK2 := Lib.hid hK
      have HX := Lib.hid hx
      clear hK h1 h2 hx
      go_simp
      first
        | (go_at_call 71; refine (FWr.out _).mono ?_; rintro e w' ⟨rfl, hb⟩; exact HK2.out _ (HX.out.next _ (by decide) (by decide) hb))
        | exact HK2.out _ (HX.out.next _ (by decide) (by decide) (Below.refl _ _))
    try simp only [Act.put, List.setIfInBounds_toArray, List.set_cons_succ, List.set_cons_zero]
    apply GhostV.walk_const (fun γ => by rfl)
    · intro γ L wx h1 h2 hx K hK
      obtain ⟨k0, k1, k2, k3, k4, k5, k6, k7⟩ := boxRow ((hx.put.other w.heap.size (by omega) (by omega)).trans R1.out)
      obtain ⟨z0, z1, z2⟩ := stRow ((hx.put.other (w.heap.size + 1) (by omega) (by omega)).trans R2.out)
      obtain ⟨y0, y1, y2, y3, y4⟩ := recRow ((hx.put.other (w.heap.size + 3) (by omega) (by omega)).trans R4.out)
      have HBX := Lib.hid (HBW.out.trans (hx.put.below (B := w.heap.size) (by omega) (by omega)))
      have H1 := Lib.hid h1
      have H2 := Lib.hid h2
      have HK2 := Lib.hid hK
      have HX := Lib.hid hx
      clear hK h1 h2 hx
      go_simp
      first
        | (go_at_call 71; refine (FWr.out _).mono ?_; rintro e w' ⟨rfl, hb⟩; exact HK2.out _ (HX.out.next _ (by decide) (by decide) hb))
        | exact HK2.out _ (HX.out.next _ (by decide) (by decide) (Below.refl _ _))
    try simp only [Act.put, List.setIfInBounds_toArray, List.set_cons_succ, List.set_cons_zero]
    refine GhostV.walk_nil (fun γ L w5 hall hx => ?_)
    have hp5 := hx.put1 (hall 14 (by decide))
    clear hx hall
    have HP5 := Lib.hid hp5
    clear hp5
    have hb5 := HBW.out.trans (HP5.out.below (B := w.heap.size) (by omega) (by omega))
    have HB5 := Lib.hid hb5
    clear hb5
    try go_wp2_with fail
    exact bodyPost_ret (resultsS Try.results42 _ _ _ _ _ _ _ _ rfl rfl rfl HP5.out.row) rfl ⟨by rw [← HRR.out, if_pos (by have := HLE.out; omega)]; rfl, HB5.out⟩
  case false =>
    have hle := of_decide_eq_false HQ.out
    obtain ⟨k0, k1, k2, k3, k4, k5, k6, k7⟩ := boxRow r1
    obtain ⟨z0, z1, z2⟩ := stRow r2
    obtain ⟨q0, q1, q2, q3⟩ := imRowCells r3
    clear r1 r2 r3 r4
    have HLE := Lib.hid hle
    clear hle
    go_wp2_with fail
    refine (FCo.out _ HBW.out).mono ?_
    rintro e w2 ⟨rfl, hb⟩
    have r5' := (hb.block (w.heap.size + 4) (by omega)).trans r5
    have HB2 := Lib.hid (HBW.out.trans (hb.mono (by omega)))
    have hz2 := hb.size
    clear hb r5 k0 k1 k2 k3 k4 k5 k6 k7 z0 z1 z2 q0 q1 q2 q3
    go_wp2_with (with_reducible show wpList _ _ _ (Oper.mk _ (.store 47 _ _) _ _ _ _ :: _) _ _; refine wpList_put rfl 47 _ _ rfl (w.heap.size + 4) #[.string ca, .string cb, .int .i64 cs'] _ 47 rfl rfl r5' (by kernel_rfl) rfl (by kernel_rfl) ?_; intro w3 hr3 hg3)
    exact bodyPost_ret (resultsS Try.results42 _ _ _ _ _ _ _ _ rfl rfl rfl hr3.out) rfl ⟨by rw [← HRR.out, if_neg (by have := HLE.out; omega)]; rfl, HB2.out.trans (below_grown hg3.out (by omega) (fun k hk => by injection hk with hk; omega))⟩
end
end Go.Proofs.Ytifbkoaggjikpaa
