/- A record that came in as an argument; what the laws of records share. No statement of the seat is proved here. -/
import Derived.Test.YtapkookehogddaaSlices
import Derived.Test.YtapkookehogddaaRcRecs
import Derived.Test.YtapkookehogddaaRcRead
import Derived.Test.YtapkookehogddaaRcSane
import Derived.Test.YtapkookehogddaaCrcFlip
namespace Go.Proofs.Ytapkookehogddaa
open Go.RowKit Go.ChangeShapes Go.WideShapes Go.Deep

section
variable {H : Type} {enc : TypeId × Value → H} {w : World} {base : Nat} {spare : Nat → Bool} {held : Bool}
theorem trod_rc {fuel : Nat} {cs : List Value} {x : DataW H × List MemPlace} (h : DataW.trod enc Try.prog w base spare held fuel 23 cs = some x) : ∃ c : Rc, cs = c.cells := by
  obtain ⟨xs, n, _, _, hlen, hxl, hg⟩ := DataW.trod_struct Try.underlying23 h
  have hC : Try.prog.cellsOf 23 = 5 := by kernel_rfl
  have hkint : Try.prog.cellsOf 3 = 1 := by kernel_rfl
  rw [hC] at hlen
  match cs, hlen with
  | [c0, c1, c2, c3, c4], _ =>
    have hyl : xs.length = 5 := by rw [hxl]; rfl
    have at_ : ∀ j, j < 5 → ∃ y, xs[j]? = some y := fun j hj => ⟨_, List.getElem?_eq_getElem (by omega)⟩
    obtain ⟨y0, e0⟩ := at_ 0 (by omega)
    obtain ⟨y1, e1⟩ := at_ 1 (by omega)
    obtain ⟨y2, e2⟩ := at_ 2 (by omega)
    obtain ⟨y3, e3⟩ := at_ 3 (by omega)
    obtain ⟨y4, e4⟩ := at_ 4 (by omega)
    have i0 := (hg 0 _ rfl).trans e0
    have i1 := (hg 1 _ rfl).trans e1
    have i2 := (hg 2 _ rfl).trans e2
    have i3 := (hg 3 _ rfl).trans e3
    have i4 := (hg 4 _ rfl).trans e4
    simp [hkint] at i0 i1 i2 i3 i4
    obtain ⟨z0, a0, _, wf0⟩ := DataW.trod_int Try.underlying3 i0
    obtain ⟨z1, a1, _, wf1⟩ := DataW.trod_int Try.underlying3 i1
    obtain ⟨z2, a2, _, wf2⟩ := DataW.trod_int Try.underlying3 i2
    obtain ⟨z3, a3, _, wf3⟩ := DataW.trod_int Try.underlying3 i3
    obtain ⟨z4, a4, _, wf4⟩ := DataW.trod_int Try.underlying3 i4
    simp only [List.cons.injEq, and_true] at a0 a1 a2 a3 a4
    subst a0 a1 a2 a3 a4
    exact ⟨⟨z0, z1, z2, z3, z4⟩, rfl⟩
theorem open_rc {r : Reach} {b0 : Nat} {v : Value} {d : DataW H} {p : List MemPlace} (hv : Value.okWide Try.prog w r b0 23 v) (h : DataW.Trod enc Try.prog w base spare held 23 v d p) : ∃ c : Rc, v = c.agg := by
  obtain ⟨cs, rfl, hsz⟩ := okWide_struct Try.underlying23 hv
  obtain ⟨fuel, hf⟩ := h
  obtain ⟨c, hc⟩ := trod_rc hf
  refine ⟨c, ?_⟩
  have : cs = c.cells.toArray := by rw [← hc]; simp [Value.cells]
  rw [this]; rfl
end
/-- The law's building. -/
def bldN (n : Nat) : BldD := sampleD ((2 + n % 31 : Nat) : Int) (1 + n / 31 % 8)
theorem bldN_len (n : Nat) : (bldN n).cars.length = 1 + n / 31 % 8 := sampleCars_length _ _
theorem bldN_valid (n : Nat) : validE (bldN n) = 0 := sample_valid ((2 + n % 31 : Nat) : Int) (1 + n / 31 % 8) (by omega) (by omega) (by omega) (by omega)
theorem bldN_any (n : Nat) (w : World) (hn : n < 256) :
    Calls Try.prog 8 #[.int .u8 n] w fun e w' => Below w.heap.size w w' ∧ ∃ A cap, e = .returned ((bldN n).agg A cap) ∧ CarsAt w' w'.heap.size A (bldN n).cars := building_any n w hn
def recsN (n : Nat) (ns : List Nat) (most : Nat) : List Rc := Rc.recL (2 + n % 31) (1 + n / 31 % 8) ns (min (ns.length / 2) most)
theorem recsN_ok {n : Nat} {ns : List Nat} (hns : ∀ z ∈ ns, z < 256) (most : Nat) : ∀ r ∈ recsN n ns most, Rc.okB (bldN n) r = true := by
  intro r hr
  unfold recsN Rc.recL at hr
  obtain ⟨k, -, rfl⟩ := List.mem_map.1 hr
  exact Rc.recAt_ok (by omega) (by omega) (by omega) (by omega) (getD_lt hns _)
theorem recsN_len (n : Nat) (ns : List Nat) (most : Nat) : (recsN n ns most).length ≤ most := by
  unfold recsN; rw [Rc.recL_len]; omega
theorem recsN_any (n : Nat) (A : Option Addr) (cap : Nat) (ns : List Nat) (hns : ∀ z ∈ ns, z < 256) (hnl : ns.length ≤ maxLen) (v : Value) (most : Nat) (hmo : most ≤ 1000) (w : World) (hv : VV w v (u8s ns)) :
    Calls Try.prog 16 #[(bldN n).agg A cap, v, .int .i64 most] w fun e w' => ∃ u, e = .returned u ∧ RV w' u (recsN n ns most) ∧ Below w.heap.size w w' :=
  records_any (bldN n) A cap (2 + n % 31) (1 + n / 31 % 8) rfl (bldN_len n) (by omega) (by omega) (by omega) (by omega) ns hns hnl v most hmo w hv
/-- A part at the beginning of a list in memory. -/
theorem RAt.take {w : World} {A : Option Addr} {l : List Rc} (h : RAt w A l) (k : Nat) : RAt w A (l.take k) := by
  rcases h with h | ⟨b, off, hA, hr⟩
  · exact .inl (by rw [h]; simp)
  · refine .inr ⟨b, off, hA, fun j v hv => hr j v ?_⟩
    have e : flatR l = flatR (l.take k) ++ flatR (l.drop k) := by rw [← flatR_append, List.take_append_drop]
    rw [e, List.getElem?_append_left]
    · exact hv
    · exact (List.getElem?_eq_some_iff.1 hv).1
/-- The box of a building, and what lies above it. -/
def BXR (g : Nat) (b : BldD) (A : Option Addr) (cap : Nat) (w : World) : Prop := g < w.heap.size ∧ w.heap[g]? = some (.cells (match b.agg A cap with | .agg cs => cs | _ => #[]) 28 (0, 0)) ∧ CarsAt w w.heap.size A b.cars
theorem BXR.below {g : Nat} {b : BldD} {A : Option Addr} {cap : Nat} {w w' : World} (h : BXR g b A cap w) (hb : Below w.heap.size w w') : BXR g b A cap w' :=
  ⟨Nat.lt_of_lt_of_le h.1 hb.size, (hb.block g h.1).trans h.2.1, (h.2.2.below hb).more hb.size⟩
theorem flip_ba (r : Rc) (k : Nat) : bl ⟨((Rc.six r).set (k / 8) ((Rc.six r).getD (k / 8) 0 ^^^ UInt8.ofNat (2 ^ (k % 8)))).toArray⟩ = (Rc.six r).set (k / 8) ((Rc.six r).getD (k / 8) 0 ^^^ UInt8.ofNat (2 ^ (k % 8))) := rfl
theorem flip_up (c : UInt8) (p : Nat) : bits .xor .u8 (c.toNat : Int) (2 ^ (p % 8) % 256) = (((c ^^^ UInt8.ofNat (2 ^ (p % 8))).toNat : Nat) : Int) := by
  have h8 : p % 8 < 8 := Nat.mod_lt _ (by omega)
  have := flip_byte c (7 - p % 8)
  rw [show 7 - (7 - p % 8) % 8 = p % 8 by omega] at this
  exact this
theorem conv_bytes (w : World) (l : List UInt8) : ∃ c R fr, (convert 9 35 (.string ⟨l.toArray⟩)).run Try.prog w = .ok (.slice (some ⟨w.heap.size, 0, none⟩) l.length c) (w.drew.alloc (.cells R 5 (fr, fr + 1))) ∧
    FlipRel w w.heap.size l (w.alloc (.cells R 5 (fr, fr + 1))) := by
  have hz : (⟨l.toArray⟩ : ByteArray).size = l.length := List.size_toArray ..
  have hconv := run_bytes_of_string (P := Try.prog) w 9 35 5 ⟨l.toArray⟩ (by kernel_rfl) (by kernel_rfl) (by kernel_rfl)
  have hnew := flipRel_new w ⟨l.toArray⟩ 5 (grownCap w (⟨l.toArray⟩ : ByteArray).size 0 5) (bytesRow ⟨l.toArray⟩ (grownCap w (⟨l.toArray⟩ : ByteArray).size 0 5)).size (by simp only [bytesRow, Array.size_append, Array.size_map, Array.size_replicate]; show l.toArray.size ≤ l.toArray.size + _; omega)
  rw [hz] at hconv hnew
  exact ⟨_, _, _, hconv, hnew.1, (Below.refl _ _).alloc (Nat.le_refl _) _, hnew.2.2⟩
theorem join_size (x : List Rc) : (⟨(Rc.joinS x).toArray⟩ : ByteArray).size = 6 * x.length := by show (Rc.joinS x).toArray.size = _; rw [List.size_toArray, Rc.joinS_len]
theorem six_size (r : Rc) : (⟨(Rc.six r).toArray⟩ : ByteArray).size = 6 := by show (Rc.six r).toArray.size = _; rw [List.size_toArray, Rc.six_len]
theorem join_next (x : List Rc) {k : Nat} (h : k < x.length) : (⟨(Rc.joinS (x.take k)).toArray⟩ : ByteArray) ++ ⟨(Rc.six x[k]).toArray⟩ = ⟨(Rc.joinS (x.take (k + 1))).toArray⟩ := by
  apply ba_ext
  rw [ba_app, ← List.take_append_getElem h, Rc.joinS_snoc]
end Go.Proofs.Ytapkookehogddaa
