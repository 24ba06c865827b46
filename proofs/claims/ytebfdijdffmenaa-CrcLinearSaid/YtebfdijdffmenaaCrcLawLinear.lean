/- The law CrcLinear: the sums of two strings of one length and of their sum without carry fit together. No condition. -/
import Derived.Test.YtebfdijdffmenaaCrcLawSwaps
import Derived.Deep.DeepCutAuto
namespace Go.Proofs.Ytebfdijdffmenaa
open Go.RowKit Go.ChangeShapes Go.WideShapes Go.ChangeAt

/-- Bytes lie in a block, by a function. -/
def BytesF (W : World) (g n : Nat) (f : Nat → UInt8) : Prop :=
  ∀ j, j < n → W.cell? ⟨g, j, none⟩ = some (.int .u8 (((f j).toNat : Nat) : Int)) ∧ W.frozen? ⟨g, j, none⟩ = false
/-- Three blocks that the call has made. -/
structure Three (w : World) (n : Nat) (x z u : Nat) (fx fz fu : Nat → UInt8) (W : World) : Prop where
  x_z : x ≠ z
  x_u : x ≠ u
  z_u : z ≠ u
  bx : BytesF W x n fx
  bz : BytesF W z n fz
  bu : BytesF W u n fu
  below : Below w.heap.size w W
  lx : w.heap.size ≤ x
  lz : w.heap.size ≤ z
  lu : w.heap.size ≤ u
  hx : x < W.heap.size
  hz : z < W.heap.size
  hu : u < W.heap.size
def LinCut (w : World) (n : Nat) (v5 v6 v7 : Value) (W : World) : Prop :=
  ∃ x z u, v5 = .slice (some ⟨x, 0, none⟩) n n ∧ v6 = .slice (some ⟨z, 0, none⟩) n n ∧ v7 = .slice (some ⟨u, 0, none⟩) n n ∧ Three w n x z u (fun _ => 0) (fun _ => 0) (fun _ => 0) W

theorem make_bytes (n : Nat) (hn : n ≤ 1000000) : ∃ C : Array Value, C = Array.replicate n (.int .u8 0) ∧ ∀ w : World, (Instr.makeSlice 33 (.int .i64 n) (.int .i64 n)).run Try.prog w = .ok (.slice (some ⟨w.heap.size, 0, none⟩) n n) (w.alloc (.cells C 5)) := by
  refine ⟨_, rfl, fun w => ?_⟩
  have := run_make (P := Try.prog) w 33 5 Try.t5 (.int .u8 0) Try.underlying33 (by kernel_rfl) (by kernel_rfl) .i64 .i64 n n (by omega) (Int.le_refl _) (by show ((1 : Nat) : Int) * (n : Int) ≤ _; omega) (by omega)
  rw [this, Int.toNat_natCast]
  have e : madeCells (Value.int .u8 0).cells (n * (Try.t5).size) = Array.replicate n (.int .u8 0) := by
    apply Array.ext
    · rw [size_madeCells, Array.size_replicate]; show n * 1 = n; omega
    · intro i h1 h2
      have hi : i % 1 = 0 := Nat.mod_one i
      simp [madeCells, Value.cells, hi]
  rw [e]
theorem made3 (w : World) (n : Nat) (W : World) (hW : W = (((w.alloc (.cells (Array.replicate n (.int .u8 0)) 5)).alloc (.cells (Array.replicate n (.int .u8 0)) 5)).alloc (.cells (Array.replicate n (.int .u8 0)) 5)).drew) :
    BytesF W w.heap.size n (fun _ => 0) ∧ BytesF W (w.heap.size + 1) n (fun _ => 0) ∧ BytesF W (w.heap.size + 1 + 1) n (fun _ => 0) ∧ Below w.heap.size w W := by
  have key : ∀ (g : Nat) , W.heap[g]? = some (.cells (Array.replicate n (.int .u8 0)) 5) → BytesF W g n (fun _ => 0) := by
    intro g hg j hj
    refine ⟨?_, ?_⟩
    · unfold World.cell?; rw [hg]; simp [hj]
    · unfold World.frozen?; rw [hg]; simp
  subst hW
  refine ⟨key _ ?_, key _ ?_, key _ ?_, ?_⟩
  · show (((w.heap.push _).push _).push _)[w.heap.size]? = _
    simp [Array.getElem?_push]
  · show (((w.heap.push _).push _).push _)[w.heap.size + 1]? = _
    simp [Array.getElem_push]
  · show (((w.heap.push _).push _).push _)[w.heap.size + 1 + 1]? = _
    simp [Array.getElem_push]
  · exact ((((Below.refl _ _).alloc (Nat.le_refl _) _).alloc (by simp) _).alloc (by simp; omega) _).drew

theorem BytesF.set {W : World} {g n k : Nat} {f : Nat → UInt8} (h : BytesF W g n f) (hk : k < n) (v : UInt8) : BytesF (W.setCell ⟨g, k, none⟩ (.int .u8 ((v.toNat : Nat) : Int))) g n (fun j => if j = k then v else f j) := by
  intro j hj
  rw [World.frozen?_setCell]
  refine ⟨?_, (h j hj).2⟩
  by_cases hjk : j = k
  · subst hjk
    rw [World.cell?_setCell_same W _ _ (h j hj).1]; simp
  · rw [World.cell?_setCell_other W _ _ _ (by intro he; injection he; omega), (h j hj).1]; simp [hjk]
theorem BytesF.far {W : World} {g g' n k : Nat} {f : Nat → UInt8} (h : BytesF W g n f) (hg : g' ≠ g) (v : Value) : BytesF (W.setCell ⟨g', k, none⟩ v) g n f := by
  intro j hj
  rw [World.frozen?_setCell]
  refine ⟨?_, (h j hj).2⟩
  rw [World.cell?_setCell_other W _ _ _ (by intro he; injection he; omega), (h j hj).1]
theorem BytesF.congr {W : World} {g n : Nat} {f f' : Nat → UInt8} (h : BytesF W g n f) (he : ∀ j, j < n → f j = f' j) : BytesF W g n f' := by
  intro j hj; rw [← he j hj]; exact h j hj
theorem Three.set_x {w W : World} {n x z u k : Nat} {fx fz fu fx' : Nat → UInt8} (h : Three w n x z u fx fz fu W) (hk : k < n) (v : UInt8) (he : ∀ j, j < n → (if j = k then v else fx j) = fx' j) :
    Three w n x z u fx' fz fu (W.setCell ⟨x, k, none⟩ (.int .u8 ((v.toNat : Nat) : Int))) :=
  ⟨h.x_z, h.x_u, h.z_u, (h.bx.set hk v).congr he, h.bz.far h.x_z _, h.bu.far h.x_u _, h.below.setCell h.lx _, h.lx, h.lz, h.lu, by simpa using h.hx, by simpa using h.hz, by simpa using h.hu⟩
theorem Three.set_u {w W : World} {n x z u k : Nat} {fx fz fu fu' : Nat → UInt8} (h : Three w n x z u fx fz fu W) (hk : k < n) (v : UInt8) (he : ∀ j, j < n → (if j = k then v else fu j) = fu' j) :
    Three w n x z u fx fz fu' (W.setCell ⟨u, k, none⟩ (.int .u8 ((v.toNat : Nat) : Int))) :=
  ⟨h.x_z, h.x_u, h.z_u, h.bx.far (fun e => h.x_u e.symm) _, h.bz.far (fun e => h.z_u e.symm) _, (h.bu.set hk v).congr he, h.below.setCell h.lu _, h.lx, h.lz, h.lu, by simpa using h.hx, by simpa using h.hz, by simpa using h.hu⟩
theorem Three.drew {w W : World} {n x z u : Nat} {fx fz fu : Nat → UInt8} (h : Three w n x z u fx fz fu W) : Three w n x z u fx fz fu W.drew :=
  ⟨h.x_z, h.x_u, h.z_u, h.bx, h.bz, h.bu, h.below.drew, h.lx, h.lz, h.lu, h.hx, h.hz, h.hu⟩
theorem Three.congr_u {w W : World} {n x z u : Nat} {fx fz fu fx' fu' : Nat → UInt8} (h : Three w n x z u fx fz fu W) (he : ∀ j, j < n → fx j = fx' j) (hu : ∀ j, j < n → fu j = fu' j) : Three w n x z u fx' fz fu' W :=
  ⟨h.x_z, h.x_u, h.z_u, h.bx.congr he, h.bz, h.bu.congr hu, h.below, h.lx, h.lz, h.lu, h.hx, h.hz, h.hu⟩
def ofF (n : Nat) (f : Nat → UInt8) : List UInt8 := (List.range n).map f
theorem ofF_length (n : Nat) (f : Nat → UInt8) : (ofF n f).length = n := by simp [ofF]
theorem BytesF.list {W : World} {g n : Nat} {f : Nat → UInt8} (h : BytesF W g n f) : BytesAt W g (ofF n f) := by
  intro j hj
  rw [ofF_length] at hj
  have e : (ofF n f).getD j 0 = f j := by simp [ofF, List.getD, hj]
  rw [e]; exact h j hj
theorem three_back {w W : World} {n x z u : Nat} {fx fz fu : Nat → UInt8} (h : Three w n x z u fx fz fu W) :
    (convert 33 9 (.slice (some ⟨x, 0, none⟩) n n)).run Try.prog W = .ok (.string ⟨(ofF n fx).toArray⟩) W ∧
    (convert 33 9 (.slice (some ⟨z, 0, none⟩) n n)).run Try.prog W = .ok (.string ⟨(ofF n fz).toArray⟩) W ∧
    (convert 33 9 (.slice (some ⟨u, 0, none⟩) n n)).run Try.prog W = .ok (.string ⟨(ofF n fu).toArray⟩) W :=
  ⟨bytes_back h.bx.list 33 9 5 n n (ofF_length ..).symm (by kernel_rfl) (by kernel_rfl) (by kernel_rfl),
   bytes_back h.bz.list 33 9 5 n n (ofF_length ..).symm (by kernel_rfl) (by kernel_rfl) (by kernel_rfl),
   bytes_back h.bu.list 33 9 5 n n (ofF_length ..).symm (by kernel_rfl) (by kernel_rfl) (by kernel_rfl)⟩
theorem Three.grow {w W W' : World} {n x z u : Nat} {fx fz fu : Nat → UInt8} (h : Three w n x z u fx fz fu W) (hb : Below W.heap.size W W') : Three w n x z u fx fz fu W' :=
  ⟨h.x_z, h.x_u, h.z_u, fun j hj => ⟨(hb.cell (p := ⟨x, j, none⟩) h.hx).trans (h.bx j hj).1, (hb.frozen (p := ⟨x, j, none⟩) h.hx).trans (h.bx j hj).2⟩,
   fun j hj => ⟨(hb.cell (p := ⟨z, j, none⟩) h.hz).trans (h.bz j hj).1, (hb.frozen (p := ⟨z, j, none⟩) h.hz).trans (h.bz j hj).2⟩,
   fun j hj => ⟨(hb.cell (p := ⟨u, j, none⟩) h.hu).trans (h.bu j hj).1, (hb.frozen (p := ⟨u, j, none⟩) h.hu).trans (h.bu j hj).2⟩,
   h.below.trans (hb.mono h.below.size), h.lx, h.lz, h.lu, Nat.lt_of_lt_of_le h.hx hb.size, Nat.lt_of_lt_of_le h.hz hb.size, Nat.lt_of_lt_of_le h.hu hb.size⟩
def at0 (s : ByteArray) (j : Nat) : UInt8 := (bl s).getD j 0
def fuF (t : ByteArray) (k j : Nat) : UInt8 := if j < k then at0 t j else 0
def fxF (s t : ByteArray) (k j : Nat) : UInt8 := if j < k then at0 s j ^^^ at0 t j else 0
theorem at0_lt {s : ByteArray} {k : Nat} (h : k < s.size) : at0 s k = s[k] := by
  have h' : k < (bl s).length := by rw [bl_len]; exact h
  unfold at0; rw [List.getD_eq_getElem?_getD, List.getElem?_eq_getElem h']; rfl
theorem at0_ge {s : ByteArray} {k : Nat} (h : s.size ≤ k) : at0 s k = 0 := by
  unfold at0; rw [List.getD_eq_getElem?_getD, List.getElem?_eq_none (by rw [bl_len]; exact h)]; rfl

theorem zip_self (s : ByteArray) (f : Nat → UInt8) : List.zipWith (· ^^^ ·) (bl s) (ofF s.size f) = ofF s.size (fun j => at0 s j ^^^ f j) := by
  apply List.ext_getElem
  · simp [ofF]
  · intro j h1 h2
    have hj : j < s.size := by rw [ofF_length] at h2; exact h2
    have hj' : j < (bl s).length := by rw [bl_len]; exact hj
    simp only [List.getElem_zipWith, ofF, List.getElem_map, List.getElem_range]
    congr 1
    unfold at0
    simp [List.getD, hj]
theorem zip_zero (l : List UInt8) : List.zipWith (· ^^^ ·) l (ofF l.length (fun _ => 0)) = l := by
  apply List.ext_getElem
  · simp [ofF]
  · intro j h1 h2
    simp [ofF]
theorem linear16 (s : ByteArray) (f : Nat → UInt8) : sum16 (ofF s.size (fun j => at0 s j ^^^ f j)) = sum16 (bl s) ^^^ sum16 (ofF s.size f) ^^^ sum16 (ofF s.size (fun _ => 0)) := by
  have h1 := Crc.reg_linear (m := 8) (d := 4129) (by decide) (bl s) (ofF s.size f) 65535 65535 (by rw [ofF_length, bl_len]) (by decide) (by decide)
  rw [zip_self, Nat.xor_self] at h1
  have h2 := Crc.reg_linear (m := 8) (d := 4129) (by decide) (ofF s.size (fun j => at0 s j ^^^ f j)) (ofF s.size (fun _ => 0)) 0 65535 (by rw [ofF_length, ofF_length]) (by decide) (by decide)
  have hz := zip_zero (ofF s.size (fun j => at0 s j ^^^ f j))
  rw [ofF_length] at hz
  rw [hz, Nat.zero_xor, h1] at h2
  exact h2
theorem linear8 (s : ByteArray) (f : Nat → UInt8) : sum8 (ofF s.size (fun j => at0 s j ^^^ f j)) = sum8 (bl s) ^^^ sum8 (ofF s.size f) := by
  have h1 := Crc.reg_linear (m := 0) (d := 7) (by decide) (bl s) (ofF s.size f) 0 0 (by rw [ofF_length, bl_len]) (by decide) (by decide)
  rw [zip_self, Nat.xor_self] at h1
  exact h1

set_option maxRecDepth 100000 in
set_option maxHeartbeats 2000000 in
theorem lawLinear_walk (s t : ByteArray) (w : World) (hs : s.size ≤ maxLen) (_ht : t.size ≤ maxLen) :
    Calls Try.prog 6 #[.string s, .string t] w fun e w' => e = .returned (.bool true) ∧ Below w.heap.size w w' := by
  have hsm := hs
  unfold maxLen at hs
  by_cases hl : 2000 < s.size
  · have hd : decide ((2000 : Int) < (s.size : Int)) = true := by simp; omega
    go_enter Try.func6, Try.ntmps6
    go_wp2_with (go_at_call 9; refine (sane_any _).mono ?_; rintro e w1 ⟨rfl, hb⟩)
    go_ret
    exact ⟨rfl, hb⟩
  · have hd : decide ((2000 : Int) < (s.size : Int)) = false := by simp; omega
    obtain ⟨C, hC, hmk⟩ := make_bytes s.size (by omega)
    go_enter Try.func6, Try.ntmps6
    go_upto_region 3 with fail
    go_cut [5, 6, 7] (fun v5 v6 v7 wx => LinCut w s.size v5 v6 v7 wx)
    case first =>
      go_region
      all_goals
        go_wp2_with fail
        go_meet
        obtain ⟨h0, h1, h2, hb⟩ := made3 w s.size _ rfl
        exact ⟨_, _, _, rfl, rfl, rfl, ⟨by omega, by omega, by omega, by first | (with_reducible exact h0) | (with_reducible exact h1) | (with_reducible exact h2), by first | (with_reducible exact h0) | (with_reducible exact h1) | (with_reducible exact h2), by first | (with_reducible exact h0) | (with_reducible exact h1) | (with_reducible exact h2), hb, by omega, by omega, by omega, by simp; try omega, by simp; try omega, by simp; try omega⟩⟩
    case rest =>
      clear hmk hC
      obtain ⟨x, z, u, rfl, rfl, rfl, h3⟩ := hcut
      have H3 := Lib.hid h3
      clear h3
      go_wp2_with fail
      go_loopw [8] (fun i W => ∃ k : Nat, k ≤ s.size ∧ i = .int .i64 k ∧ Three w s.size x z u (fxF s t k) (fun _ => 0) (fuF t k) W) (fun i _ => s.size - (intOf i).toNat)
      case atStart => exact ⟨0, Nat.zero_le _, rfl, H3.out⟩
      case round =>
        obtain ⟨k, hk, rfl, h3⟩ := hrel
        clear H3
        by_cases hlt : k < s.size
        · have hxu : ¬ x = u := h3.x_u
          have hux : ¬ u = x := fun e => h3.x_u e.symm
          have hcx := (h3.bx k hlt).1
          have hfx := (h3.bx k hlt).2
          have hcu := (h3.bu k hlt).1
          have hfu := (h3.bu k hlt).2
          have hlt' : (k : Int) < (s.size : Int) := by omega
          have ex : fxF s t k k = 0 := by simp [fxF]
          have eu : fuF t k k = 0 := by simp [fuF]
          rw [ex] at hcx
          rw [eu] at hcu
          clear ex eu
          have H3 := Lib.hid h3
          clear h3
          by_cases hkt : k < t.size
          · have hkt' : (k : Int) < (t.size : Int) := by omega
            go_wp2_with fail
            go_region
            all_goals
              go_wp2_with fail
              go_roundw
              case rel =>
                refine ⟨k + 1, by omega, by go_num, ?_⟩
                rw [u8_xor_nat _ _ s[k].toNat_lt t[k].toNat_lt, ← UInt8.toNat_xor]
                refine ((H3.out.set_u hlt t[k] (fun j hj => ?_)).set_x hlt (s[k] ^^^ t[k]) (fun j hj => ?_)).drew
                · unfold fuF
                  by_cases hjk : j = k
                  · subst hjk; rw [if_pos rfl, if_pos (Nat.lt_succ_self _), at0_lt hkt]
                  · rw [if_neg hjk]
                    by_cases hj2 : j < k
                    · rw [if_pos hj2, if_pos (by omega)]
                    · rw [if_neg hj2, if_neg (by omega)]
                · unfold fxF
                  by_cases hjk : j = k
                  · subst hjk; rw [if_pos rfl, if_pos (Nat.lt_succ_self _), at0_lt hkt, at0_lt hlt]
                  · rw [if_neg hjk]
                    by_cases hj2 : j < k
                    · rw [if_pos hj2, if_pos (by omega)]
                    · rw [if_neg hj2, if_neg (by omega)]
              case measure => simp [intOf]; omega
          · have hkt' : ¬ (k : Int) < (t.size : Int) := by omega
            go_wp2_with fail
            go_region
            all_goals
              go_wp2_with fail
              go_roundw
              case rel =>
                refine ⟨k + 1, by omega, by go_num, ?_⟩
                have e : bits .xor .u8 ((s[k].toNat : Nat) : Int) 0 = ((s[k].toNat : Nat) : Int) := by
                  have := u8_xor_nat s[k].toNat 0 s[k].toNat_lt (by omega)
                  rw [Nat.xor_zero] at this
                  exact this
                rw [e]
                refine ((H3.out.congr_u (fun _ _ => rfl) (fu' := fuF t (k + 1)) (fun j hj => ?_)).set_x hlt s[k] (fun j hj => ?_)).drew
                · unfold fuF
                  by_cases hjk : j = k
                  · subst hjk; rw [if_neg (by omega), if_pos (Nat.lt_succ_self _), at0_ge (by omega)]
                  · by_cases hj2 : j < k
                    · rw [if_pos hj2, if_pos (by omega)]
                    · rw [if_neg hj2, if_neg (by omega)]
                · unfold fxF
                  by_cases hjk : j = k
                  · subst hjk; rw [if_pos rfl, if_pos (Nat.lt_succ_self _), at0_ge (s := t) (by omega), at0_lt hlt]; simp
                  · rw [if_neg hjk]
                    by_cases hj2 : j < k
                    · rw [if_pos hj2, if_pos (by omega)]
                    · rw [if_neg hj2, if_neg (by omega)]
              case measure => simp [intOf]; omega
        · obtain rfl : k = s.size := by omega
          have h4 := h3.congr_u (fx' := fun j => at0 s j ^^^ at0 t j) (fu' := at0 t) (fun j hj => by simp [fxF, hj]) (fun j hj => by simp [fuF, hj])
          have h16 := linear16 s (at0 t)
          have h8 := linear8 s (at0 t)
          have Fs := Lib.hid (fun w => sum16_any s w hsm)
          have F1 := Lib.hid (fun w => sum16L_any (ofF s.size (fun j => at0 s j ^^^ at0 t j)) w (by rw [ofF_length]; omega))
          have F2 := Lib.hid (fun w => sum16L_any (ofF s.size (at0 t)) w (by rw [ofF_length]; omega))
          have F3 := Lib.hid (fun w => sum16L_any (ofF s.size (fun _ => 0)) w (by rw [ofF_length]; omega))
          have Gs := Lib.hid (fun w => sum8_any s w hsm)
          have G1 := Lib.hid (fun w => sum8L_any (ofF s.size (fun j => at0 s j ^^^ at0 t j)) w (by rw [ofF_length]; omega))
          have G2 := Lib.hid (fun w => sum8L_any (ofF s.size (at0 t)) w (by rw [ofF_length]; omega))
          clear h3 hk hlt
          have HB := Lib.hid (three_back h4)
          have a1 := sum16_lt (bl s)
          have a2 := sum16_lt (ofF s.size (at0 t))
          have a3 := sum16_lt (ofF s.size (fun _ => 0))
          have b1 := sum8_lt (bl s)
          have b2 := sum8_lt (ofF s.size (at0 t))
          generalize sum16 (bl s) = ps at *
          generalize sum16 (ofF s.size (at0 t)) = pu at *
          generalize sum16 (ofF s.size (fun _ => 0)) = pz at *
          generalize sum16 (ofF s.size (fun j => at0 s j ^^^ at0 t j)) = px at *
          generalize sum8 (bl s) = qs at *
          generalize sum8 (ofF s.size (at0 t)) = qu at *
          generalize sum8 (ofF s.size (fun j => at0 s j ^^^ at0 t j)) = qx at *
          have e1 : bits .xor .u16 (ps : Int) (pu : Int) = ((ps ^^^ pu : Nat) : Int) := u16_xor_nat _ _ a1 a2
          have e2 : bits .xor .u16 ((ps ^^^ pu : Nat) : Int) (pz : Int) = (px : Int) := by rw [h16]; exact u16_xor_nat _ _ (Nat.xor_lt_two_pow (n := 16) a1 a2) a3
          have e3 : bits .xor .u8 (qs : Int) (qu : Int) = (qx : Int) := by rw [h8]; exact u8_xor_nat _ _ b1 b2
          clear h16 h8
          have H4 := Lib.hid h4
          clear h4 HB
          go_wp2_with fail
          refine Bag.region (fun wx => Three w s.size x z u (fun j => at0 s j ^^^ at0 t j) (fun _ => 0) (at0 t) wx) (by kernel_rfl) (by kernel_rfl) H4.out.drew ?_
          iterate 30 (first
              | (apply Bag.walk_yes (by rfl)
                 (intro wx h5 K hK
                  obtain ⟨cx, cz, cu⟩ := three_back h5
                  go_simp
                  first
                    | (go_at_call 13; (with_reducible refine (F1.out _).mono ?_); rintro e x1 ⟨rfl, rfl⟩; exact hK _ h5)
                    | (go_at_call 13; (with_reducible refine (Fs.out _).mono ?_); rintro e x1 ⟨rfl, rfl⟩; exact hK _ h5)
                    | (go_at_call 13; (with_reducible refine (F2.out _).mono ?_); rintro e x1 ⟨rfl, rfl⟩; exact hK _ h5)
                    | (go_at_call 13; (with_reducible refine (F3.out _).mono ?_); rintro e x1 ⟨rfl, rfl⟩; exact hK _ h5)
                    | (go_at_call 15; (with_reducible refine (G1.out _).mono ?_); rintro e x1 ⟨rfl, rfl⟩; exact hK _ h5)
                    | (go_at_call 15; (with_reducible refine (Gs.out _).mono ?_); rintro e x1 ⟨rfl, rfl⟩; exact hK _ h5)
                    | (go_at_call 15; (with_reducible refine (G2.out _).mono ?_); rintro e x1 ⟨rfl, rfl⟩; exact hK _ h5)
                    | (go_at_call 9; refine (sane_any _).mono ?_; rintro e x1 ⟨rfl, hb⟩; exact hK _ (h5.grow hb))
                    | (go_at_K; exact hK _ h5))
                 rfl)
              | (refine Bag.walk_no (by rfl) ?_; simp only [Act.put, List.setIfInBounds_toArray, List.set_cons_succ, List.set_cons_zero]))
          refine Bag.walk_nil (fun w3 h6 => ?_)
          go_wp2_with fail
          go_ret
          exact ⟨rfl, h6.below⟩

set_option maxRecDepth 100000 in
theorem lawLinear_lifted (os : Os) (started : os.Started) (H : Type) (enc : TypeId × Value → H) :
    ReturnsInHanded {} Try.checked os 6 .any (Rows.crcLinearSpec.pre6 enc Try.prog Try.f6 Rows.crcLinearRow.domain false) (Rows.crcLinearSpec.post enc Try.prog Try.f6 false true false false) := by
  refine returnsInHanded_of_change (C := Try.checked) own started (by kernel_rfl) Try.func6
    (ChangeSpec.witness6 (enc := enc) (C := Try.checked) false ⟨#[], #[.string ⟨#[]⟩, .string ⟨#[]⟩], []⟩ 8 (by kernel_rfl) (by kernel_rfl) (by kernel_rfl) (by kernel_rfl)) ?_
  intro W base args ds gs before hval0 hW hcnd _
  have hval : ∀ (j : Nat) t v, Try.f6.params[j]? = some t → args[j]? = some v → Value.okWide Try.prog W .any base t v := hval0
  have hW' := hW
  obtain ⟨p, q, hA0, hV, rfl, hfz, hnd⟩ := hW
  have hA : DataW.TrodAll enc Try.prog W 0 (fun _ => true) true Try.f6.params.toList args.toList ds p := hA0
  rw [Try.params6] at hA hval
  obtain ⟨v0, vs0, d0, ds0, p0, q0, hargs, rfl, rfl, h0, r0⟩ := trodAll_cons hA
  obtain ⟨v1, vs1, d1, ds1, p1, q1, rfl, rfl, rfl, h1, r1⟩ := trodAll_cons r0
  obtain ⟨rfl, rfl, rfl⟩ := trodAll_nil r1
  obtain rfl : args = #[v0, v1] := by cases args; simp_all
  obtain ⟨rfl, rfl⟩ := trodVars_none hV
  obtain ⟨s, rfl, rfl, rfl, g0⟩ := ChangeMaps.open_string Try.underlying9 (hval 0 9 v0 rfl rfl) h0
  obtain ⟨t, rfl, rfl, rfl, g1⟩ := ChangeMaps.open_string Try.underlying9 (hval 1 9 v1 rfl rfl) h1
  clear hA0 hval0
  refine (lawLinear_walk s t W g0 g1).mono fun e W' ⟨he, bel⟩ => ?_
  subst he
  exact ⟨_, rfl, _, _, _, [], _, [], hW', trodAll_mk1 (shut_bool Try.underlying4 _), (trodAll_cons_mk (ChangeMaps.shut_string Try.underlying9 g0) (trodAll_cons_mk (ChangeMaps.shut_string Try.underlying9 g1) trodAll_mk0)), rfl, bel.frame _, fun h => by cases h⟩

theorem lawLinear_over : Rows.crcLinearRow.holds Try.pinned (OpenSpec.ofChange Rows.crcLinearSpec) :=
  OpenClaim.holds_of_wide 6 Try.f6 rfl rfl rfl rfl rfl rfl rfl ⟨rfl, rfl, rfl, rfl, rfl⟩ rfl rfl rfl rfl rfl (by kernel_rfl) Try.func6 (by kernel_rfl)
    (of_decide_eq_true (by kernel_rfl)) (by unfold Func.isWrapper; first | (rw [if_pos (by decide +kernel)]; kernel_rfl) | (rw [if_neg (by decide +kernel)]; exact ⟨rfl, rfl⟩))
    (fun os started H enc _ => lawLinear_lifted os started H enc)

theorem crcLinear_holds : Rows.CrcLinearSaid := lawLinear_over
#print axioms crcLinear_holds
end Go.Proofs.Ytebfdijdffmenaa
