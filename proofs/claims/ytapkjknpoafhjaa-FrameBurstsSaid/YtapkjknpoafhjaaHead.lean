/- frame's head, its fields, and Size. No statement of the seat is proved here. -/
import Derived.Test.YtapkjknpoafhjaaFields
import Derived.Test.YtapkjknpoafhjaaCrcSeal
import Derived.Test.YtapkjknpoafhjaaCrcFlip
namespace Go.Proofs.Ytapkjknpoafhjaa
open Go.RowKit Frm

/-- The first two bytes. -/
def headL (m C : Nat) : List UInt8 := [UInt8.ofNat m, UInt8.ofNat C]

theorem convH (w : World) (o : Obj) (m C : Nat) (hm : m < 256) (hC : C < 256) :
    (convert 55 9 (.slice (some ⟨w.heap.size + 1, 0, none⟩) 2 2)).run Try.prog ((w.alloc o).alloc (.cells #[.int .u8 (m : Int), .int .u8 (C : Int)] 5)) =
      .ok (.string ⟨(headL m C).toArray⟩) ((w.alloc o).alloc (.cells #[.int .u8 (m : Int), .int .u8 (C : Int)] 5)) := by
  refine run_convert_bytes_back _ _ _ 5 _ 2 (headL m C) (by kernel_rfl) (by kernel_rfl) (by kernel_rfl) ?_
  intro j hj
  have hj' : j < 2 := hj
  have ha : (Addr.add ⟨w.heap.size + 1, 0, none⟩ j) = ⟨w.heap.size + 1, j, none⟩ := by unfold Addr.add; split <;> simp_all
  have hg : ((w.alloc o).alloc (.cells #[.int .u8 (m : Int), .int .u8 (C : Int)] 5)).heap[w.heap.size + 1]? = some (.cells #[.int .u8 (m : Int), .int .u8 (C : Int)] 5 (0, 0)) := by
    have := heap_alloc_new (w.alloc o) (.cells #[.int .u8 (m : Int), .int .u8 (C : Int)] 5)
    have e : (w.alloc o).heap.size = w.heap.size + 1 := by simp
    rw [e] at this; exact this
  rw [ha, cell_of_row _ _ _ _ _ (0, 0) hg]
  have h01 : j = 0 ∨ j = 1 := by omega
  rcases h01 with rfl | rfl
  · exact congrArg some (congrArg (Value.int .u8) (by simp [headL]; omega))
  · exact congrArg some (congrArg (Value.int .u8) (by simp [headL]; omega))

set_option maxRecDepth 100000 in
set_option maxHeartbeats 1000000 in
theorem head_any (x : BldD) (A : Option Addr) (cap m : Nat) (w : World) (hm : m < 256) (hx : x.cars.length < 256) :
    Calls Try.prog 51 #[x.agg A cap, .int .u8 m] w fun e w' => e = .returned (.string ⟨(headL m x.cars.length).toArray⟩) ∧ Below w.heap.size w w' := by
  obtain ⟨f, d, r, p, e1, e2, e3, cs⟩ := x
  simp only at hx
  simp only [BldD.agg]
  have hw : IntKind.u8.wrap ((cs.length : Nat) : Int) = ((cs.length : Nat) : Int) := by rw [IntKind.wrap_u8]; omega
  have hc := fun o => convH w o m cs.length hm hx
  go_enter Try.func51, Try.ntmps51
  go_wp2_with fail
  go_ret
  exact ⟨rfl, by go_grown⟩

set_option maxRecDepth 100000 in
set_option maxHeartbeats 2000000 in
theorem fieldsOf_any (ct : TypeId) (cv : Value) (x : BldD) (A : Option Addr) (cap : Nat) (code : Int) (w : World) (hn : x.cars.length ≤ 140737488355328) (hc : CarsAt w w.heap.size A x.cars) :
    Calls Try.prog 53 #[x.agg A cap, .iface ct cv, .int .i64 code] w fun e w' => e = .returned (.agg (fieldsA (.iface ct cv) x A cap (hallUp x) (hallDown x) code)) ∧ Below w.heap.size w w' := by
  have hall := fun wx (h : Below w.heap.size w wx) => hall_any x A cap wx hn ((hc.below h).more h.size)
  generalize hU : hallUp x = U at *
  generalize hD : hallDown x = D at *
  have HH := Lib.hid hall
  clear hall hU hD hc
  obtain ⟨f, d, r, p, e1, e2, e3, cs⟩ := x
  simp only [BldD.agg, callsV] at HH ⊢
  go_enter Try.func53, Try.ntmps53
  go_wp2_with fail
  obtain ⟨W2, hW2⟩ : ∃ W2, W2 = (w.alloc (.cells #[.int .i64 f, .int .i64 d, .int .i64 r, .int .i64 p, .float .f64 e1, .float .f64 e2, .float .f64 e3, .slice A cs.length cap] 25)).alloc (.cells #[.nilIface, .int .i64 0, .int .i64 0, .int .i64 0, .int .i64 0, .float .f64 0, .float .f64 0, .float .f64 0, .slice none 0 0, .int .u32 0, .int .u32 0, .int .i64 0] 77) := ⟨_, rfl⟩
  rw [← hW2]
  have hbw : Below w.heap.size w W2 := by rw [hW2]; exact ((Below.refl _ _).alloc (Nat.le_refl _) _).alloc (by simp) _
  have hs2 : W2.heap.size = w.heap.size + 2 := by rw [hW2]; simp
  have h0 : ∀ j, W2.cell? ⟨w.heap.size, j, none⟩ = #[.int .i64 f, .int .i64 d, .int .i64 r, .int .i64 p, .float .f64 e1, .float .f64 e2, .float .f64 e3, .slice A cs.length cap][j]? := fun j => by
    rw [hW2, World.cell?_of_block (w := w.alloc _) (Below.heap_alloc _ _ w.heap.size (by simp)), cell_of_row _ _ _ _ _ (0, 0) (heap_alloc_new w _)]
  have hg : W2.heap[w.heap.size + 1]? = some (.cells #[.nilIface, .int .i64 0, .int .i64 0, .int .i64 0, .int .i64 0, .float .f64 0, .float .f64 0, .float .f64 0, .slice none 0 0, .int .u32 0, .int .u32 0, .int .i64 0] 77 (0, 0)) := by
    rw [hW2]
    have := heap_alloc_new (w.alloc (.cells #[.int .i64 f, .int .i64 d, .int .i64 r, .int .i64 p, .float .f64 e1, .float .f64 e2, .float .f64 e3, .slice A cs.length cap] 25)) (.cells #[.nilIface, .int .i64 0, .int .i64 0, .int .i64 0, .int .i64 0, .float .f64 0, .float .f64 0, .float .f64 0, .slice none 0 0, .int .u32 0, .int .u32 0, .int .i64 0] 77)
    have e : (w.alloc (.cells #[.int .i64 f, .int .i64 d, .int .i64 r, .int .i64 p, .float .f64 e1, .float .f64 e2, .float .f64 e3, .slice A cs.length cap] 25)).heap.size = w.heap.size + 1 := by simp
    rw [e] at this; exact this
  have H0 := Lib.hid h0
  have HG := Lib.hid hg
  have HBW := Lib.hid hbw
  clear hW2 h0 hg hbw
  refine Chain.chain (fun p' wx => Below (w.heap.size + 1) W2 wx ∧ (if p' = 0 then Below W2.heap.size W2 wx else ∀ j v, (fieldsA (.iface ct cv) ⟨f, d, r, p, e1, e2, e3, cs⟩ A cap U D code)[j]? = some v → wx.cell? ⟨w.heap.size + 1, j, none⟩ = some v)) (fun _ _ => False) [6] (by kernel_rfl) (by kernel_rfl) (fun _ _ _ _ h => h.elim) ⟨(Below.refl _ _).drew, (Below.refl _ _).drew⟩ ?_
  iterate 6
    (apply Chain.walk_quiet (by rfl) (by decide)
     (intro p' wx _ _ hx K hK
      have b0 : wx.cell? ⟨w.heap.size, 0, none⟩ = some (.int .i64 f) := (hx.1.cell (p := ⟨w.heap.size, 0, none⟩) (by show w.heap.size < _; omega)).trans (H0.out 0)
      have b1 : wx.cell? ⟨w.heap.size, 1, none⟩ = some (.int .i64 d) := (hx.1.cell (p := ⟨w.heap.size, 1, none⟩) (by show w.heap.size < _; omega)).trans (H0.out 1)
      have b2 : wx.cell? ⟨w.heap.size, 2, none⟩ = some (.int .i64 r) := (hx.1.cell (p := ⟨w.heap.size, 2, none⟩) (by show w.heap.size < _; omega)).trans (H0.out 2)
      have b3 : wx.cell? ⟨w.heap.size, 3, none⟩ = some (.int .i64 p) := (hx.1.cell (p := ⟨w.heap.size, 3, none⟩) (by show w.heap.size < _; omega)).trans (H0.out 3)
      have b4 : wx.cell? ⟨w.heap.size, 4, none⟩ = some (.float .f64 e1) := (hx.1.cell (p := ⟨w.heap.size, 4, none⟩) (by show w.heap.size < _; omega)).trans (H0.out 4)
      have b5 : wx.cell? ⟨w.heap.size, 5, none⟩ = some (.float .f64 e2) := (hx.1.cell (p := ⟨w.heap.size, 5, none⟩) (by show w.heap.size < _; omega)).trans (H0.out 5)
      have b6 : wx.cell? ⟨w.heap.size, 6, none⟩ = some (.float .f64 e3) := (hx.1.cell (p := ⟨w.heap.size, 6, none⟩) (by show w.heap.size < _; omega)).trans (H0.out 6)
      have b7 : wx.cell? ⟨w.heap.size, 7, none⟩ = some (.slice A cs.length cap) := (hx.1.cell (p := ⟨w.heap.size, 7, none⟩) (by show w.heap.size < _; omega)).trans (H0.out 7)
      have hz2 : w.heap.size + 2 ≤ wx.heap.size := by have := hx.1.size; omega
      have HX := Lib.hid hx
      clear hx
      go_simp
      first
        | (go_at_call 74
           refine (HH.out wx (HBW.out.trans (HX.out.1.mono (by omega)))).mono ?_
           rintro e w3 ⟨rfl, hb3⟩
           refine hK _ ⟨HX.out.1.trans (hb3.mono (by omega)), ?_⟩
           have h2 := HX.out.2
           split
           · rename_i hp0
             rw [if_pos hp0] at h2
             exact h2.trans (hb3.mono (by omega))
           · rename_i hp0
             rw [if_neg hp0] at h2
             exact fun j v hj => (hb3.cell (p := ⟨w.heap.size + 1, j, none⟩) (by show w.heap.size + 1 < _; omega)).trans (h2 j v hj))
        | (go_at_K
           exact hK _ HX.out))
     exact ⟨_, rfl⟩)
  apply Chain.walk_turn 0 (by rfl) (by rfl)
  · intro wx hx K hK
    obtain ⟨hx1, hx2⟩ := hx
    replace hx2 : Below W2.heap.size W2 wx := hx2
    have hgx : wx.heap[w.heap.size + 1]? = some (.cells #[.nilIface, .int .i64 0, .int .i64 0, .int .i64 0, .int .i64 0, .float .f64 0, .float .f64 0, .float .f64 0, .slice none 0 0, .int .u32 0, .int .u32 0, .int .i64 0] 77 (0, 0)) := (hx2.block _ (by omega)).trans HG.out
    have hz : ∀ j v, #[Value.nilIface, .int .i64 0, .int .i64 0, .int .i64 0, .int .i64 0, .float .f64 0, .float .f64 0, .float .f64 0, .slice none 0 0, .int .u32 0, .int .u32 0, .int .i64 0][j]? = some v → wx.cell? ⟨w.heap.size + 1, j, none⟩ = some v := fun j v hj => (cell_of_row _ _ _ _ _ (0, 0) hgx).trans hj
    have hq : ∀ j, wx.frozen? ⟨w.heap.size + 1, j, none⟩ = false := fun j => by simp [World.frozen?, hgx]
    have z0 : wx.cell? ⟨w.heap.size + 1, 0, none⟩ = some (.nilIface) := hz 0 _ rfl
    have q0 := hq 0
    have z1 : wx.cell? ⟨w.heap.size + 1, 1, none⟩ = some (.int .i64 0) := hz 1 _ rfl
    have q1 := hq 1
    have z2 : wx.cell? ⟨w.heap.size + 1, 2, none⟩ = some (.int .i64 0) := hz 2 _ rfl
    have q2 := hq 2
    have z3 : wx.cell? ⟨w.heap.size + 1, 3, none⟩ = some (.int .i64 0) := hz 3 _ rfl
    have q3 := hq 3
    have z4 : wx.cell? ⟨w.heap.size + 1, 4, none⟩ = some (.int .i64 0) := hz 4 _ rfl
    have q4 := hq 4
    have z5 : wx.cell? ⟨w.heap.size + 1, 5, none⟩ = some (.float .f64 0) := hz 5 _ rfl
    have q5 := hq 5
    have z6 : wx.cell? ⟨w.heap.size + 1, 6, none⟩ = some (.float .f64 0) := hz 6 _ rfl
    have q6 := hq 6
    have z7 : wx.cell? ⟨w.heap.size + 1, 7, none⟩ = some (.float .f64 0) := hz 7 _ rfl
    have q7 := hq 7
    have z8 : wx.cell? ⟨w.heap.size + 1, 8, none⟩ = some (.slice none 0 0) := hz 8 _ rfl
    have q8 := hq 8
    have z9 : wx.cell? ⟨w.heap.size + 1, 9, none⟩ = some (.int .u32 0) := hz 9 _ rfl
    have q9 := hq 9
    have z10 : wx.cell? ⟨w.heap.size + 1, 10, none⟩ = some (.int .u32 0) := hz 10 _ rfl
    have q10 := hq 10
    have z11 : wx.cell? ⟨w.heap.size + 1, 11, none⟩ = some (.int .i64 0) := hz 11 _ rfl
    have q11 := hq 11
    have HX1 := Lib.hid hx1
    have HGX := Lib.hid hgx
    clear hx1 hx2 hz hq hgx
    go_simp
    go_at_K
    refine hK _ ⟨?_, ?_⟩
    · refine HX1.out.trans ?_
      go_grown
    · intro j v hj
      match j, hj with
      | 0, hj => cases hj; simp [go_sem, *]; rfl
      | 1, hj => cases hj; simp [go_sem, *]; rfl
      | 2, hj => cases hj; simp [go_sem, *]; rfl
      | 3, hj => cases hj; simp [go_sem, *]; rfl
      | 4, hj => cases hj; simp [go_sem, *]; rfl
      | 5, hj => cases hj; simp [go_sem, *]; rfl
      | 6, hj => cases hj; simp [go_sem, *]; rfl
      | 7, hj => cases hj; simp [go_sem, *]; rfl
      | 8, hj => cases hj; simp [go_sem, *]; rfl
      | 9, hj => cases hj; simp [go_sem, *]; rfl
      | 10, hj => cases hj; simp [go_sem, *]; rfl
      | 11, hj => cases hj; simp [go_sem, *]; rfl
      | j + 12, hj => cases hj
  · exact ⟨undef, rfl⟩
  refine Chain.walk_nil (fun w2 hx => ?_)
  obtain ⟨hx1, hx2⟩ := hx
  replace hx2 : ∀ j v, (fieldsA (.iface ct cv) ⟨f, d, r, p, e1, e2, e3, cs⟩ A cap U D code)[j]? = some v → w2.cell? ⟨w.heap.size + 1, j, none⟩ = some v := hx2
  have y0 := hx2 0 _ rfl
  have y1 := hx2 1 _ rfl
  have y2 := hx2 2 _ rfl
  have y3 := hx2 3 _ rfl
  have y4 := hx2 4 _ rfl
  have y5 := hx2 5 _ rfl
  have y6 := hx2 6 _ rfl
  have y7 := hx2 7 _ rfl
  have y8 := hx2 8 _ rfl
  have y9 := hx2 9 _ rfl
  have y10 := hx2 10 _ rfl
  have y11 := hx2 11 _ rfl
  have HX1 := Lib.hid hx1
  clear hx1 hx2
  go_wp2_with fail
  refine bodyPost_ret (v := .agg (fieldsA (.iface ct cv) ⟨f, d, r, p, e1, e2, e3, cs⟩ A cap U D code)) (by simp [results, Try.results53, go_sem, fieldsA, y0, y1, y2, y3, y4, y5, y6, y7, y8, y9, y10, y11]) rfl ?_
  exact ⟨rfl, HBW.out.trans (HX1.out.mono (by omega))⟩
end Go.Proofs.Ytapkjknpoafhjaa
