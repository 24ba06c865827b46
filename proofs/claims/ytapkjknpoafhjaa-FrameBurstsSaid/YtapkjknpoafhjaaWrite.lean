/- frame.write with In's layout, and frame.In. No statement of the seat is proved here. -/
import Derived.Test.YtapkjknpoafhjaaInLayout
import Derived.Test.YtapkjknpoafhjaaHead
import Derived.Test.YtapkjknpoafhjaaBox
namespace Go.Proofs.Ytapkjknpoafhjaa
open Go.RowKit Frm

theorem hallUp_lt (x : BldD) : hallUp x < 4294967296 := by
  unfold hallUp
  split
  · rename_i h
    have hF := fine_of h
    have : 2 ^ (x.floors.toNat - 1) ≤ 2 ^ 31 := Nat.pow_le_pow_right (by omega) (by have := hF.floors; omega)
    omega
  · omega
theorem hallDown_lt (x : BldD) : hallDown x < 4294967296 := by
  unfold hallDown
  split
  · rename_i h
    have hF := fine_of h
    have : 2 ^ x.floors.toNat ≤ 2 ^ 32 := Nat.pow_le_pow_right (by omega) (by have := hF.floors; omega)
    have h1 : 1 ≤ 2 ^ x.floors.toNat := Nat.one_le_two_pow
    omega
  · omega

/-- []byte(s): a row that may be appended to. -/
theorem text_new (w : World) (s : ByteArray) (hs : s.size ≤ 1000000) : ∃ cap, (convert 9 55 (.string s)).run Try.prog w = .ok (.slice (some ⟨w.heap.size, 0, none⟩) s.size cap) (w.drew.alloc (.cells (bytesRow s cap) 5 ((bytesRow s cap).size, (bytesRow s cap).size + 1))) ∧
    TextAt (w.drew.alloc (.cells (bytesRow s cap) 5 ((bytesRow s cap).size, (bytesRow s cap).size + 1))) w.heap.size cap (bl s) := by
  refine ⟨_, run_bytes_of_string w 9 55 5 s Try.underlying9 Try.underlying55 Try.underlying5, ?_⟩
  have hge := grownCap_ge w s.size 0 5
  have hle : grownCap w s.size 0 5 ≤ maxLen := grownCap_le_maxLen w s.size 0 5 (by unfold maxLen; omega)
  generalize grownCap w s.size 0 5 = C at *
  have hsz : (bytesRow s C).size = C := by
    have : s.data.size = s.size := rfl
    simp [bytesRow]; omega
  refine ⟨bytesRow s C, _, _, heap_alloc_new w.drew _, fun o ho => by omega, by rw [bl_len]; exact hge, hsz.symm, hle, fun j hj => ?_, fun j v hv => ?_⟩
  · have hj' : j < s.data.size := by rw [bl_len] at hj; exact hj
    rw [bytesRow_at s C j hj']
    simp [bl, List.getD, Array.getElem?_eq_getElem hj']
  · have := Array.mem_of_getElem? hv
    simp only [bytesRow, Array.mem_append, Array.mem_map, Array.mem_replicate] at this
    rcases this with ⟨b, _, rfl⟩ | ⟨_, rfl⟩ <;> rfl

/-- What bytes of a text are, converted back. -/
theorem text_back {w : World} {g cap : Nat} {l : List UInt8} (h : TextAt w g cap l) : (convert 55 9 (.slice (some ⟨g, 0, none⟩) l.length cap)).run Try.prog w = .ok (.string ⟨l.toArray⟩) w := by
  refine run_convert_bytes_back _ _ _ 5 _ cap l (by kernel_rfl) (by kernel_rfl) (by kernel_rfl) fun j hj => ?_
  rw [addr_add, h.cell hj]
  simp [List.getD, hj]

theorem Kind.At.grown {k : Kind} {N b er : Nat} {w w' : World} {l : List UInt8} (h : k.At N w b l) (hg : w.grownBy w' (some er)) {v : Value} (he : w.cell? ⟨er, 0, none⟩ = some v) (hv : plainV v = true) (hb : b ≠ er) : k.At N w' b l := by
  have hlt := (Kind.lt h).1
  have hblk : w'.heap[b]? = w.heap[b]? := hg.block b hlt (fun e => hb (Option.some.inj e))
  cases k
  · obtain ⟨h1, h2, g, cap, h3, hc, ht⟩ := h
    have hne : g ≠ er := fun e => (ht.apart he hv) e.symm
    exact ⟨h1, (World.frozen?_of_block (w := w) hblk).trans h2, g, cap, h3, (World.cell?_of_block (w := w) hblk).trans hc, ht.of_block (hg.block g ht.lt (fun e => hne (Option.some.inj e)))⟩
  · exact ⟨h.1, (World.frozen?_of_block (w := w) hblk).trans h.2.1, (World.cell?_of_block (w := w) hblk).trans h.2.2⟩

theorem carN_length (l : List UInt8) (c : CarIn) : (Kind.carN .wr l c).length = l.length + 19 := by
  simp only [Kind.carN, Kind.carL5, Kind.carL4, Kind.carL3, Kind.carL2, Kind.next, List.length_append, numL_length]
theorem carsN_length : ∀ (cs : List CarIn) (l : List UInt8), (Kind.carsN .wr l cs).length = l.length + 19 * cs.length
  | [], l => by simp [Kind.carsN]
  | c :: cs, l => by rw [Kind.carsN, carsN_length cs, carN_length, List.length_cons]; omega
theorem inN_length (l : List UInt8) (y : In) : (Kind.inN .wr l y).length = l.length + 10 + 19 * y.cars.length := by
  simp only [Kind.inN, carsN_length, Kind.headL2, Kind.headL1, Kind.next, List.length_append, numL_length]

/-- The inputs that In accepts. -/
def inOk (x : BldD) (y : In) : Prop := validE x = 0 ∧ Kind.inOk .wr (headL 165 x.cars.length) y (hallUp x) (hallDown x) x.cars.length x.floors
def inText (x : BldD) (y : In) : List UInt8 := sealL (Kind.inN .wr (headL 165 x.cars.length) y)

theorem enter28 (args : Array Value) (w : World) : (callFunc 28 args).run Try.prog w = .ok (.enter 28 args) w := by kernel_rfl

set_option maxRecDepth 100000 in
set_option maxHeartbeats 4000000 in
theorem writeIn_any (N bx cp : Nat) (A' : Option Addr) (y : In) (x : BldD) (A : Option Addr) (cap : Nat) (w : World) (hxn : x.cars.length ≤ 140737488355328) (hc : CarsAt w w.heap.size A x.cars) (hn : y.cars.length ≤ 1000) (hy : saneIn y) (hN : N ≤ w.heap.size)
    (hp : CellsAt w bx 0 (inHeadV y.pu y.pd y.kind y.car A' y.cars.length cp)) (hf : ∀ j, j < 5 → w.frozen? ⟨bx, j, none⟩ = false) (hpN : N ≤ bx) (hv : CarsV w A' y.cars) :
    Calls Try.prog 27 #[x.agg A cap, .int .u8 165, .func (.func 28) #[] #[.pointer (some ⟨bx, 0, none⟩)]] w fun e w' => Below N w w' ∧
      ((inOk x y ∧ e = .returned (.tuple #[.string ⟨(inText x y).toArray⟩, .int .i64 0])) ∨ (¬ inOk x y ∧ e = .returned (.tuple #[.string ⟨#[]⟩, .int .i64 1]))) := by
  have hpw : bx < w.heap.size := World.block_lt_of_cell? w _ (hp 0 _ rfl)
  have HC := Lib.hid hc
  have HP := Lib.hid hp
  have HF := Lib.hid hf
  have HV := Lib.hid hv
  have HVA := Lib.hid (fun wx (h : Below w.heap.size w wx) => valid_any x A cap wx hxn ((HC.out.below h).more h.size))
  have HHD := Lib.hid (fun wx (hx : x.cars.length < 256) => head_any x A cap 165 wx (by omega) hx)
  have HFO := Lib.hid (fun b wx (h : Below w.heap.size w wx) => fieldsOf_any 107 (.pointer (some ⟨b, 0, none⟩)) x A cap 1 wx hxn ((HC.out.below h).more h.size))
  clear hc hp hf hv
  by_cases hva : validE x = 0
  · have hF := fine_of hva
    have HFI := Lib.hid hF
    have hC1 : 1 ≤ x.cars.length ∧ x.cars.length ≤ 8 := hF.cars
    have hFl : 0 ≤ x.floors ∧ x.floors ≤ 1000 := by have := hF.floors; omega
    have HU := Lib.hid (hallUp_lt x)
    have HD := Lib.hid (hallDown_lt x)
    have HOKD : Hid (inOk x y ↔ Kind.inOk .wr (headL 165 x.cars.length) y (hallUp x) (hallDown x) x.cars.length x.floors) := ⟨fun h => h.2, fun h => ⟨hva, h⟩⟩
    rw [hva] at HVA
    clear hva hF
    generalize hallUp x = U at *
    generalize hallDown x = D at *
    have HTX : Hid (inText x y = sealL (Kind.inN .wr (headL 165 x.cars.length) y)) := rfl
    generalize inText x y = T at *
    generalize inOk x y = OK at *
    have hl2 : (headL 165 x.cars.length).length = 2 := rfl
    generalize headL 165 x.cars.length = L at *
    obtain ⟨f, d, r, p, e1, e2, e3, cs⟩ := x
    simp only [BldD.agg] at *
    go_enter Try.func27, Try.ntmps27
    go_wp2_with fail
    refine (HVA.out _ (by go_grown)).mono ?_
    rintro e w1 ⟨rfl, hb1⟩
    have hx1 : Below (w.heap.size + 1) (w.alloc (.cells #[.int .i64 f, .int .i64 d, .int .i64 r, .int .i64 p, .float .f64 e1, .float .f64 e2, .float .f64 e3, .slice A cs.length cap] 25)) w1 := hb1.mono (by simp)
    obtain ⟨-, g0, g1, g2, g3, g4, g5, g6, g7⟩ := boxS hx1
    go_wp2_with fail
    refine (HHD.out _ (by omega)).mono ?_
    rintro e w2 ⟨rfl, hb2⟩
    have hs1 := box_size hx1
    have hx2 := hx1.trans (hb2.mono hs1)
    have hs2 := box_size hx2
    clear g0 g1 g2 g3 g4 g5 g6 g7 hb1 hb2
    obtain ⟨-, g0, g1, g2, g3, g4, g5, g6, g7⟩ := boxS hx2
    obtain ⟨gc, hconv, htext⟩ := text_new w2 ⟨L.toArray⟩ (by show L.toArray.size ≤ _; rw [List.size_toArray]; omega)
    have hts : (⟨L.toArray⟩ : ByteArray).size = 2 := by show L.toArray.size = 2; rw [List.size_toArray]; exact hl2
    rw [hts] at hconv
    have hpast : ∀ o o' j, ((w2.alloc o).alloc o').cell? ⟨w.heap.size, j, none⟩ = w2.cell? ⟨w.heap.size, j, none⟩ := fun o o' j => World.cell?_of_block (w := w2) ((Below.heap_alloc (w2.alloc o) o' w.heap.size (by simp; omega)).trans (Below.heap_alloc w2 o w.heap.size (by omega)))
    have p0 := fun o o' => (hpast o o' 0).trans g0
    have p1 := fun o o' => (hpast o o' 1).trans g1
    have p2 := fun o o' => (hpast o o' 2).trans g2
    have p3 := fun o o' => (hpast o o' 3).trans g3
    have p4 := fun o o' => (hpast o o' 4).trans g4
    have p5 := fun o o' => (hpast o o' 5).trans g5
    have p6 := fun o o' => (hpast o o' 6).trans g6
    have p7 := fun o o' => (hpast o o' 7).trans g7
    obtain ⟨o1, ho1⟩ : ∃ o1, o1 = Obj.cells (bytesRow ⟨L.toArray⟩ gc) 5 ((bytesRow ⟨L.toArray⟩ gc).size, (bytesRow ⟨L.toArray⟩ gc).size + 1) := ⟨_, rfl⟩
    rw [← ho1] at hconv htext
    have HX2 := Lib.hid hx2
    have HTT := Lib.hid htext
    clear hpast htext hx1 hx2 ho1
    go_wp2_with fail
    obtain ⟨W4, hW4⟩ : ∃ W4, W4 = ((w2.alloc o1).alloc (.cells #[.slice (some ⟨w2.heap.size, 0, none⟩) 2 gc] 110)).drew := ⟨_, rfl⟩
    rw [← hW4]
    have hb24 : Below w2.heap.size w2 W4 := by rw [hW4]; exact (((Below.refl _ _).alloc (Nat.le_refl _) _).alloc (by simp) _).drew
    have hbw4 : Below w.heap.size w W4 := (below_of_new HX2.out).trans (hb24.mono (by omega))
    have hs4 : W4.heap.size = w2.heap.size + 2 := by rw [hW4]; simp [World.drew]
    have hg4 : W4.heap[w2.heap.size + 1]? = some (.cells #[.slice (some ⟨w2.heap.size, 0, none⟩) 2 gc] 110 (0, 0)) := by
      rw [hW4]
      have := heap_alloc_new (w2.alloc o1) (.cells #[.slice (some ⟨w2.heap.size, 0, none⟩) 2 gc] 110)
      have e : (w2.alloc o1).heap.size = w2.heap.size + 1 := by simp
      rw [e] at this; exact this
    have hT4 : TextAt W4 w2.heap.size gc L := by
      have h1 : TextAt (w2.drew.alloc o1) w2.heap.size gc L := HTT.out
      refine h1.of_block ?_
      rw [hW4]
      exact Below.heap_alloc (w2.alloc o1) _ w2.heap.size (by simp)
    have hA4 : Kind.At .wr N W4 (w2.heap.size + 1) L := ⟨by omega, by simp [World.frozen?, hg4], w2.heap.size, gc, by omega, by rw [cell_of_row _ _ _ _ _ (0, 0) hg4, hl2]; rfl, hT4⟩
    have hA4' := Lib.hid hA4
    have HBW4 := Lib.hid hbw4
    clear hW4 hb24 hbw4 hg4 hT4 hA4 hconv
    clear g0 g1 g2 g3 g4 g5 g6 g7 p0 p1 p2 p3 p4 p5 p6 p7
    refine (HFO.out (w2.heap.size + 1) W4 HBW4.out).mono ?_
    rintro e w5 ⟨rfl, hb5⟩
    have hbw5 := HBW4.out.trans (hb5.mono HBW4.out.size)
    have hA5 := Lib.hid (hA4'.out.below hb5)
    have HBW5 := Lib.hid hbw5
    have hs5 : W4.heap.size ≤ w5.heap.size := hb5.size
    clear hb5 hbw5
    go_wp2_with fail
    refine (run_any 28 #[] #[.pointer (some ⟨bx, 0, none⟩)] (fun w1 => Kind.inOk .wr L y U D cs.length f ∧ Kind.At .wr N w1 (w2.heap.size + 1) (Kind.inN .wr L y) ∧ Below N w w1) (fun w1 => ¬ Kind.inOk .wr L y U D cs.length f ∧ Below N w w1) _ ⟨f, d, r, p, e1, e2, e3, cs⟩ A cap U D 1 w5 enter28 (fun wx hbx hsx hcx hfx => ?_)).mono ?_
    · have hwx := HBW5.out.trans (hbx.mono HBW5.out.size)
      refine (inLayout_any N (w2.heap.size + 1) bx cp A' y L ⟨f, d, r, p, e1, e2, e3, cs⟩ A cap U D 1 wx HU.out HD.out hFl ⟨hC1.1, by show cs.length ≤ 1000; omega⟩ hn hy (by omega) (hA5.out.below hbx) (by omega) (HP.out.below hwx) (fun j hj => (hwx.frozen (p := ⟨bx, j, none⟩) hpw).trans (HF.out j hj)) (by omega) hpN (HV.out.below hwx)).mono ?_
      rintro e w6 ⟨hk6, hr6⟩
      refine ⟨hk6.cell _ _ hcx rfl (fun hh => hh.elim (fun h => by have : w5.heap.size + 1 = w2.heap.size + 1 := h; omega) (fun h => by have : w5.heap.size + 1 = bx := h; have := HBW5.out.size; omega)), (hk6.froz _ (by show w5.heap.size + 1 < wx.heap.size; omega)).trans hfx, ?_⟩
      have hb6 : Below N w w6 := (hwx.mono hN).trans hk6.below
      rcases hr6 with ⟨ok, rfl, hA6⟩ | ⟨ok, rfl⟩
      · exact .inl ⟨rfl, ok, hA6, hb6⟩
      · exact .inr ⟨rfl, ok, hb6⟩
    rintro e w7 ⟨w6, hc6, hg6, ⟨rfl, ok, hA6, hb6⟩ | ⟨rfl, ok, hb6⟩⟩
    · have hA7 := hA6.grown hg6 hc6 rfl (by omega)
      obtain ⟨hq1, hq2, g, gcap, hq3, hq4, hq5⟩ := hA7
      have hb7 : Below N w w7 := hb6.grown hg6 (by have := hb6.size; omega) (fun k hk => by simp at hk; have := HBW5.out.size; omega)
      have HB7 := Lib.hid hb7
      have HOK := Lib.hid (HOKD.out.2 ok)
      have hback := text_back hq5
      have hNl : (Kind.inN .wr L y).length ≤ 900000 := by rw [inN_length]; omega
      generalize Kind.inN .wr L y = M at *
      clear hA6 hb6 hb7 ok hc6 hg6 hq5
      go_wp2_with fail
      refine (seal_any ⟨M.toArray⟩ _ (by show M.toArray.size ≤ _; rw [List.size_toArray]; omega)).mono ?_
      rintro e w8 ⟨rfl, hb8⟩
      go_wp2_with fail
      go_ret2
      exact ⟨HB7.out.trans (hb8.mono (by have := HB7.out.size; omega)), .inl ⟨HOK.out, by rw [HTX.out]; rfl⟩⟩
    · have hb7 : Below N w w7 := hb6.grown hg6 (by have := hb6.size; omega) (fun k hk => by simp at hk; have := HBW5.out.size; omega)
      have HB7 := Lib.hid hb7
      have HOK : Hid (¬ OK) := fun h => ok (HOKD.out.1 h)
      clear hb6 hb7 ok hc6 hg6
      go_wp2_with fail
      go_ret2
      exact ⟨HB7.out, .inr ⟨HOK.out, rfl⟩⟩
  · have HNV : Hid (¬ inOk x y) := fun h => hva h.1
    have hne : (validE x != 0) = true := bne_iff_ne.2 hva
    generalize validE x = V at *
    clear hva
    obtain ⟨f, d, r, p, e1, e2, e3, cs⟩ := x
    simp only [BldD.agg] at *
    go_enter Try.func27, Try.ntmps27
    go_wp2_with fail
    refine (HVA.out _ (by go_grown)).mono ?_
    rintro e w1 ⟨rfl, hb1⟩
    go_wp2_with fail
    go_ret2
    exact ⟨(((Below.refl w.heap.size w).alloc (Nat.le_refl _) _).trans (hb1.mono (by simp))).mono hN, .inr ⟨HNV.out, rfl⟩⟩
end Go.Proofs.Ytapkjknpoafhjaa
