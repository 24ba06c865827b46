/- What the texts behind this one rest on: several texts in one. No statement of the seat is proved here. -/
import Derived.Test.YtmonbldmgmmnbaaLM16
import Derived.Test.YtmonbldmgmmnbaaLM03
import Derived.Test.YtmonbldmgmmnbaaLM17
import Derived.Test.YtmonbldmgmmnbaaLM08
import Derived.Test.YtmonbldmgmmnbaaLM02
import Derived.Test.YtmonbldmgmmnbaaLM19
import Derived.Test.YtmonbldmgmmnbaaLM18
namespace Go.Proofs.Ytmonbldmgmmnbaa
section
open Go.RowKit

theorem conv_u8 (w : World) (g : Nat) (hg : g = w.heap.size) (l : List UInt8) (n cap : Nat) (hn : n = l.length) (cs : Array Value) (hcs : cs = (l.map fun c => Value.int .u8 (c.toNat : Int)).toArray) :
    (convert 22 9 (.slice (some ⟨g, 0, none⟩) n cap)).run Try.prog (w.alloc (.cells cs 5)) = .ok (.string ⟨l.toArray⟩) (w.alloc (.cells cs 5)) := by
  subst hg
  refine bytes_back (fun j hj => ⟨?_, ?_⟩) _ _ 5 n cap hn (by kernel_rfl) (by kernel_rfl) (by kernel_rfl)
  · rw [cell_of_row _ _ _ _ _ (0, 0) (heap_alloc_new w _), hcs]
    simp [List.getD, hj]
  · exact frozen_of_row _ _ _ _ _ (heap_alloc_new w _)

set_option maxRecDepth 100000 in
set_option maxHeartbeats 4000000 in
theorem encode_any (b : BldD) (A : Option Addr) (cap : Nat) (x : Rc) (w : World) (hn : b.cars.length ≤ 140737488355328) (hc : CarsAt w w.heap.size A b.cars) :
    Calls Try.prog 97 #[b.agg A cap, x.agg] w fun e w' => e = .returned (.tuple #[.string (Rc.encS b x), .int .i64 (Rc.encE b x)]) ∧ Below w.heap.size w w' := by
  have FV := Lib.hid (fun wx (h : Below w.heap.size w wx) => valid9_any b A cap x wx hn ((hc.below h).more h.size))
  clear hc
  cases hok : Rc.okB b x
  · have e1 : Rc.encS b x = ⟨#[]⟩ := by unfold Rc.encS; rw [hok]; rfl
    have e2 : Rc.encE b x = 1 := by unfold Rc.encE; rw [hok]; rfl
    rw [e1, e2]
    rw [hok] at FV
    clear hok e1 e2
    obtain ⟨f, d, r, p, e1, e2, e3, cs⟩ := b
    obtain ⟨k, fl, di, ca, va⟩ := x
    simp only [BldD.agg, Rc.agg] at FV hn ⊢
    go_enter Try.func97, Try.ntmps97
    go_wp2_with fail
    refine (FV.out _ (by go_grown)).mono ?_
    rintro e w1 ⟨rfl, hb1⟩
    have HB := Lib.hid (below2 ((start2 w _ _).trans (hb1.mono (by simp))))
    clear hb1
    go_wp2_with fail
    go_ret2
    exact ⟨rfl, HB.out⟩
  · have e1 : Rc.encS b x = ⟨(Rc.six x).toArray⟩ := by unfold Rc.encS; rw [hok]; rfl
    have e2 : Rc.encE b x = 0 := by unfold Rc.encE; rw [hok]; rfl
    have hO := Rc.ok_of hok
    rw [e1, e2]
    rw [hok] at FV
    clear hok e1 e2
    have e5 : Rc.five x = [Rc.u x.kind, Rc.u x.floor, Rc.u x.dir, Rc.u (x.car + 2), Rc.u x.value] := rfl
    have e6 : Rc.six x = Rc.five x ++ [UInt8.ofNat (sum8 (Rc.five x))] := rfl
    have n0 := Rc.u_nat x.kind
    have n1 := Rc.u_nat x.floor
    have n2 := Rc.u_nat x.dir
    have n3 := Rc.u_nat (x.car + 2)
    have n4 := Rc.u_nat x.value
    generalize Rc.six x = S6 at *
    generalize Rc.five x = S5 at *
    generalize Rc.u x.kind = u0 at *
    generalize Rc.u x.floor = u1 at *
    generalize Rc.u x.dir = u2 at *
    generalize Rc.u (x.car + 2) = u3 at *
    generalize Rc.u x.value = u4 at *
    have hs5 : (⟨S5.toArray⟩ : ByteArray).size = 5 := by rw [e5]; rfl
    have hbl : bl ⟨S5.toArray⟩ = S5 := rfl
    obtain ⟨q, hq⟩ : ∃ q, q = sum8 S5 := ⟨_, rfl⟩
    have hql : q < 256 := hq ▸ sum8_lt _
    have FS := Lib.hid (fun w => sum8_any ⟨S5.toArray⟩ w (by rw [hs5]; unfold maxLen; omega))
    rw [hbl, ← hq] at FS
    rw [← hq] at e6
    have hqu : (UInt8.ofNat q).toNat = q := UInt8.toNat_ofNat_of_lt' (by simpa using hql)
    obtain ⟨f, d, r, p, e1, e2, e3, cs⟩ := b
    obtain ⟨k, fl, di, ca, va⟩ := x
    simp only [BldD.agg, Rc.agg] at FV hn hO n0 n1 n2 n3 n4 ⊢
    obtain ⟨-, o1, o2, o3, o4, o5, o6, o7, o8, o9, o10⟩ := hO
    have E5 := Lib.hid e5
    have E6 := Lib.hid e6
    have HQ := Lib.hid hqu
    have m0 : k % 256 = k := by omega
    have m1 : fl % 256 = fl := by omega
    have m2 : di % 256 = di := by omega
    have m3 : (ca + 2) % 256 = ca + 2 := by omega
    have m4 : va % 256 = va := by omega
    have NN := Lib.hid (show k = u0.toNat ∧ fl = u1.toNat ∧ di = u2.toNat ∧ ca + 2 = u3.toNat ∧ va = u4.toNat from ⟨by omega, by omega, by omega, by omega, by omega⟩)
    clear e5 e6 hqu n0 n1 n2 n3 n4 hq hbl
    have hns : ¬ 9223372036854775807 < (⟨S5.toArray⟩ : ByteArray).size + 1 := by rw [hs5]; omega
    have HS5 := Lib.hid hs5
    clear hs5
    go_enter Try.func97, Try.ntmps97
    go_wp2_with fail
    refine (FV.out _ (by go_grown)).mono ?_
    rintro e w1 ⟨rfl, hb1⟩
    have hbel := (start2 w _ _).trans (hb1.mono (by simp))
    obtain ⟨k0, k1, k2, k3, k4⟩ := recRow (rows2 hbel).2
    have HB := Lib.hid (below2 hbel)
    clear hb1 hbel
    have hcv := conv_u8 w1 w1.heap.size rfl S5 5 5 (by rw [E5.out]; rfl) #[.int .u8 k, .int .u8 fl, .int .u8 di, .int .u8 (ca + 2), .int .u8 va] (by rw [E5.out]; obtain ⟨y0, y1, y2, y3, y4⟩ := NN.out; rw [y0, y1, y2, y3, y4]; rfl)
    go_wp2_with fail
    refine (FS.out _).mono ?_
    rintro e w2 ⟨rfl, rfl⟩
    have hcv2 := conv_u8 (w1.alloc (.cells #[.int .u8 k, .int .u8 fl, .int .u8 di, .int .u8 (ca + 2), .int .u8 va] 5)) (w1.heap.size + 1) (by simp) [UInt8.ofNat q] 1 1 rfl #[.int .u8 (q : Int)] (by simp [HQ.out])
    clear hcv
    go_wp2_with fail
    go_ret2
    refine ⟨?_, ?_⟩
    · rw [E6.out, app_bl]; rfl
    · exact ((HB.out.alloc (HB.out.size) _).alloc (by have := HB.out.size; simp; omega) _)
set_option maxRecDepth 100000 in
set_option maxHeartbeats 4000000 in
theorem refEncode_any (b : BldD) (A : Option Addr) (cap : Nat) (x : Rc) (w : World) (hn : b.cars.length ≤ 140737488355328) (hc : CarsAt w w.heap.size A b.cars) :
    Calls Try.prog 50 #[b.agg A cap, x.agg] w fun e w' => e = .returned (.tuple #[.string (Rc.encS b x), .int .i64 (Rc.encE b x)]) ∧ Below w.heap.size w w' := by
  have FV := Lib.hid (fun wx (h : Below w.heap.size w wx) => refValid9_any b A cap x wx hn ((hc.below h).more h.size))
  clear hc
  cases hok : Rc.okB b x
  · have e1 : Rc.encS b x = ⟨#[]⟩ := by unfold Rc.encS; rw [hok]; rfl
    have e2 : Rc.encE b x = 1 := by unfold Rc.encE; rw [hok]; rfl
    rw [e1, e2]
    rw [hok] at FV
    clear hok e1 e2
    obtain ⟨f, d, r, p, e1, e2, e3, cs⟩ := b
    obtain ⟨k, fl, di, ca, va⟩ := x
    simp only [BldD.agg, Rc.agg] at FV hn ⊢
    go_enter Try.func50, Try.ntmps50
    go_wp2_with fail
    refine (FV.out _ (by go_grown)).mono ?_
    rintro e w1 ⟨rfl, hb1⟩
    have HB := Lib.hid (below2 ((start2 w _ _).trans (hb1.mono (by simp))))
    clear hb1
    go_wp2_with fail
    go_ret2
    exact ⟨rfl, HB.out⟩
  · have e1 : Rc.encS b x = ⟨(Rc.six x).toArray⟩ := by unfold Rc.encS; rw [hok]; rfl
    have e2 : Rc.encE b x = 0 := by unfold Rc.encE; rw [hok]; rfl
    have hO := Rc.ok_of hok
    rw [e1, e2]
    rw [hok] at FV
    clear hok e1 e2
    have e5 : Rc.five x = [Rc.u x.kind, Rc.u x.floor, Rc.u x.dir, Rc.u (x.car + 2), Rc.u x.value] := rfl
    have e6 : Rc.six x = Rc.five x ++ [UInt8.ofNat (sum8 (Rc.five x))] := rfl
    have n0 := Rc.u_nat x.kind
    have n1 := Rc.u_nat x.floor
    have n2 := Rc.u_nat x.dir
    have n3 := Rc.u_nat (x.car + 2)
    have n4 := Rc.u_nat x.value
    generalize Rc.six x = S6 at *
    generalize Rc.five x = S5 at *
    generalize Rc.u x.kind = u0 at *
    generalize Rc.u x.floor = u1 at *
    generalize Rc.u x.dir = u2 at *
    generalize Rc.u (x.car + 2) = u3 at *
    generalize Rc.u x.value = u4 at *
    have hs5 : (⟨S5.toArray⟩ : ByteArray).size = 5 := by rw [e5]; rfl
    have hbl : bl ⟨S5.toArray⟩ = S5 := rfl
    obtain ⟨q, hq⟩ : ∃ q, q = sum8 S5 := ⟨_, rfl⟩
    have hql : q < 256 := hq ▸ sum8_lt _
    have FS := Lib.hid (fun w => refSum8_any ⟨S5.toArray⟩ w (by rw [hs5]; unfold maxLen; omega))
    rw [hbl, ← hq] at FS
    rw [← hq] at e6
    have hqu : (UInt8.ofNat q).toNat = q := UInt8.toNat_ofNat_of_lt' (by simpa using hql)
    obtain ⟨f, d, r, p, e1, e2, e3, cs⟩ := b
    obtain ⟨k, fl, di, ca, va⟩ := x
    simp only [BldD.agg, Rc.agg] at FV hn hO n0 n1 n2 n3 n4 ⊢
    obtain ⟨-, o1, o2, o3, o4, o5, o6, o7, o8, o9, o10⟩ := hO
    have E5 := Lib.hid e5
    have E6 := Lib.hid e6
    have HQ := Lib.hid hqu
    have m0 : k % 256 = k := by omega
    have m1 : fl % 256 = fl := by omega
    have m2 : di % 256 = di := by omega
    have m3 : (ca + 2) % 256 = ca + 2 := by omega
    have m4 : va % 256 = va := by omega
    have NN := Lib.hid (show k = u0.toNat ∧ fl = u1.toNat ∧ di = u2.toNat ∧ ca + 2 = u3.toNat ∧ va = u4.toNat from ⟨by omega, by omega, by omega, by omega, by omega⟩)
    clear e5 e6 hqu n0 n1 n2 n3 n4 hq hbl
    have hns : ¬ 9223372036854775807 < (⟨S5.toArray⟩ : ByteArray).size + 1 := by rw [hs5]; omega
    have HS5 := Lib.hid hs5
    clear hs5
    go_enter Try.func50, Try.ntmps50
    go_wp2_with fail
    refine (FV.out _ (by go_grown)).mono ?_
    rintro e w1 ⟨rfl, hb1⟩
    have hbel := (start2 w _ _).trans (hb1.mono (by simp))
    obtain ⟨k0, k1, k2, k3, k4⟩ := recRow (rows2 hbel).2
    have HB := Lib.hid (below2 hbel)
    clear hb1 hbel
    have hcv := conv_u8 w1 w1.heap.size rfl S5 5 5 (by rw [E5.out]; rfl) #[.int .u8 k, .int .u8 fl, .int .u8 di, .int .u8 (ca + 2), .int .u8 va] (by rw [E5.out]; obtain ⟨y0, y1, y2, y3, y4⟩ := NN.out; rw [y0, y1, y2, y3, y4]; rfl)
    go_wp2_with fail
    refine (FS.out _).mono ?_
    rintro e w2 ⟨rfl, rfl⟩
    have hcv2 := conv_u8 (w1.alloc (.cells #[.int .u8 k, .int .u8 fl, .int .u8 di, .int .u8 (ca + 2), .int .u8 va] 5)) (w1.heap.size + 1) (by simp) [UInt8.ofNat q] 1 1 rfl #[.int .u8 (q : Int)] (by simp [HQ.out])
    clear hcv
    go_wp2_with fail
    go_ret2
    refine ⟨?_, ?_⟩
    · rw [E6.out, app_bl]; rfl
    · exact ((HB.out.alloc (HB.out.size) _).alloc (by have := HB.out.size; simp; omega) _)
end

section
open Go.RowKit

def Rc.one : Rc := ⟨1, 3, 1, 0, 0⟩
theorem Rc.one_ok : Rc.okB (sampleD 9 4) Rc.one = true := Rc.recAt_ok (F := 9) (C := 4) (by omega) (by omega) (by omega) (by omega) (n := 0) (v := 6) (by omega)
theorem dec_nil {b : BldD} (hv : validE b = 0) : Rc.decE b [] = 4 ∧ Rc.decR b [] = Rc.zero := by
  have h : Rc.decE b [] = 4 := by unfold Rc.decE; rw [if_neg (fun h => h hv), if_pos (by decide)]
  exact ⟨h, by unfold Rc.decR; rw [if_neg (by rw [h]; decide)]⟩
theorem one_cut : (⟨(Rc.six Rc.one).toArray⟩ : ByteArray).size = 6 ∧ (⟨(Rc.six Rc.one).toArray⟩ : ByteArray).extract 0 5 = ⟨#[1, 3, 1, 2, 0]⟩ := by
  refine ⟨by show (Rc.six Rc.one).toArray.size = 6; rw [List.size_toArray, Rc.six_len], ?_⟩
  apply ba_ext
  rw [ba_cut]
  rfl

end

section
open Go.RowKit Go.ChangeShapes Go.WideShapes Go.Deep

set_option maxRecDepth 100000

section
variable {H : Type} {enc : TypeId × Value → H} {w : World} {base : Nat} {spare : Nat → Bool} {held : Bool}
theorem trod_rc {fuel : Nat} {cs : List Value} {x : DataW H × List MemPlace} (h : DataW.trod enc Try.prog w base spare held fuel 41 cs = some x) : ∃ c : Rc, cs = c.cells := by
  obtain ⟨xs, n, _, _, hlen, hxl, hg⟩ := DataW.trod_struct Try.underlying41 h
  have hC : Try.prog.cellsOf 41 = 5 := by kernel_rfl
  have hkint : Try.prog.cellsOf 3 = 1 := by kernel_rfl
  rw [hC] at hlen
  match cs, hlen with
  | [c0, c1, c2, c3, c4], _ =>
    have hyl : xs.length = 5 := by rw [hxl]; rfl
    have at_ : ∀ j, j < 5 → ∃ y, xs[j]? = some y := fun j hj => ⟨_, List.getElem?_eq_getElem (by omega)⟩
    obtain ⟨y0, e0⟩ := at_ 0 (by omega)
    obtain ⟨y1, e1⟩ := at_ 1 (by omega)
    obtain ⟨y2, e2⟩ := at_ 2 (by omega)
    obtain ⟨y3, e3⟩ := at_ 3 (by omega)
    obtain ⟨y4, e4⟩ := at_ 4 (by omega)
    have i0 := (hg 0 _ rfl).trans e0
    have i1 := (hg 1 _ rfl).trans e1
    have i2 := (hg 2 _ rfl).trans e2
    have i3 := (hg 3 _ rfl).trans e3
    have i4 := (hg 4 _ rfl).trans e4
    simp [hkint] at i0 i1 i2 i3 i4
    obtain ⟨z0, a0, _, wf0⟩ := DataW.trod_int Try.underlying3 i0
    obtain ⟨z1, a1, _, wf1⟩ := DataW.trod_int Try.underlying3 i1
    obtain ⟨z2, a2, _, wf2⟩ := DataW.trod_int Try.underlying3 i2
    obtain ⟨z3, a3, _, wf3⟩ := DataW.trod_int Try.underlying3 i3
    obtain ⟨z4, a4, _, wf4⟩ := DataW.trod_int Try.underlying3 i4
    simp only [List.cons.injEq, and_true] at a0 a1 a2 a3 a4
    subst a0 a1 a2 a3 a4
    exact ⟨⟨z0, z1, z2, z3, z4⟩, rfl⟩
theorem open_rc {r : Reach} {b0 : Nat} {v : Value} {d : DataW H} {p : List MemPlace} (hv : Value.okWide Try.prog w r b0 41 v) (h : DataW.Trod enc Try.prog w base spare held 41 v d p) : ∃ c : Rc, v = c.agg := by
  obtain ⟨cs, rfl, hsz⟩ := okWide_struct Try.underlying41 hv
  obtain ⟨fuel, hf⟩ := h
  obtain ⟨c, hc⟩ := trod_rc hf
  refine ⟨c, ?_⟩
  have : cs = c.cells.toArray := by rw [← hc]; simp [Value.cells]
  rw [this]; rfl
end
/-- The law's building. -/
def bldN (n : Nat) : BldD := sampleD ((2 + n % 31 : Nat) : Int) (1 + n / 31 % 8)
theorem bldN_len (n : Nat) : (bldN n).cars.length = 1 + n / 31 % 8 := sampleCars_length _ _
theorem bldN_valid (n : Nat) : validE (bldN n) = 0 := sample_valid ((2 + n % 31 : Nat) : Int) (1 + n / 31 % 8) (by omega) (by omega) (by omega) (by omega)
def recsN (n : Nat) (ns : List Nat) (most : Nat) : List Rc := Rc.recL (2 + n % 31) (1 + n / 31 % 8) ns (min (ns.length / 2) most)
theorem recsN_ok {n : Nat} {ns : List Nat} (hns : ∀ z ∈ ns, z < 256) (most : Nat) : ∀ r ∈ recsN n ns most, Rc.okB (bldN n) r = true := by
  intro r hr
  unfold recsN Rc.recL at hr
  obtain ⟨k, -, rfl⟩ := List.mem_map.1 hr
  exact Rc.recAt_ok (by omega) (by omega) (by omega) (by omega) (getD_lt hns _)
theorem recsN_len (n : Nat) (ns : List Nat) (most : Nat) : (recsN n ns most).length ≤ most := by
  unfold recsN; rw [Rc.recL_len]; omega
theorem recsN_any (n : Nat) (A : Option Addr) (cap : Nat) (ns : List Nat) (hns : ∀ z ∈ ns, z < 256) (hnl : ns.length ≤ maxLen) (v : Value) (most : Nat) (hmo : most ≤ 1000) (w : World) (hv : VV w v (u8s ns)) :
    Calls Try.prog 15 #[(bldN n).agg A cap, v, .int .i64 most] w fun e w' => ∃ u, e = .returned u ∧ RV w' u (recsN n ns most) ∧ Below w.heap.size w w' :=
  records_any (bldN n) A cap (2 + n % 31) (1 + n / 31 % 8) rfl (bldN_len n) (by omega) (by omega) (by omega) (by omega) ns hns hnl v most hmo w hv
/-- A part at the beginning of a list in memory. -/
theorem RAt.take {w : World} {A : Option Addr} {l : List Rc} (h : RAt w A l) (k : Nat) : RAt w A (l.take k) := by
  rcases h with h | ⟨b, off, hA, hr⟩
  · exact .inl (by rw [h]; simp)
  · refine .inr ⟨b, off, hA, fun j v hv => hr j v ?_⟩
    have e : flatR l = flatR (l.take k) ++ flatR (l.drop k) := by rw [← flatR_append, List.take_append_drop]
    rw [e, List.getElem?_append_left]
    · exact hv
    · exact (List.getElem?_eq_some_iff.1 hv).1
/-- The box of a building, and what lies above it. -/
def BXR (g : Nat) (b : BldD) (A : Option Addr) (cap : Nat) (w : World) : Prop := g < w.heap.size ∧ w.heap[g]? = some (.cells (match b.agg A cap with | .agg cs => cs | _ => #[]) 26 (0, 0)) ∧ CarsAt w w.heap.size A b.cars
theorem BXR.below {g : Nat} {b : BldD} {A : Option Addr} {cap : Nat} {w w' : World} (h : BXR g b A cap w) (hb : Below w.heap.size w w') : BXR g b A cap w' :=
  ⟨Nat.lt_of_lt_of_le h.1 hb.size, (hb.block g h.1).trans h.2.1, (h.2.2.below hb).more hb.size⟩
theorem flip_ba (r : Rc) (k : Nat) : bl ⟨((Rc.six r).set (k / 8) ((Rc.six r).getD (k / 8) 0 ^^^ UInt8.ofNat (2 ^ (k % 8)))).toArray⟩ = (Rc.six r).set (k / 8) ((Rc.six r).getD (k / 8) 0 ^^^ UInt8.ofNat (2 ^ (k % 8))) := rfl
theorem flip_up (c : UInt8) (p : Nat) : bits .xor .u8 (c.toNat : Int) (2 ^ (p % 8) % 256) = (((c ^^^ UInt8.ofNat (2 ^ (p % 8))).toNat : Nat) : Int) := by
  have h8 : p % 8 < 8 := Nat.mod_lt _ (by omega)
  have := flip_byte c (7 - p % 8)
  rw [show 7 - (7 - p % 8) % 8 = p % 8 by omega] at this
  exact this
theorem conv_bytes (w : World) (l : List UInt8) : ∃ c R fr, (convert 9 22 (.string ⟨l.toArray⟩)).run Try.prog w = .ok (.slice (some ⟨w.heap.size, 0, none⟩) l.length c) (w.drew.alloc (.cells R 5 (fr, fr + 1))) ∧
    FlipRel w w.heap.size l (w.alloc (.cells R 5 (fr, fr + 1))) := by
  have hz : (⟨l.toArray⟩ : ByteArray).size = l.length := List.size_toArray ..
  have hconv := run_bytes_of_string (P := Try.prog) w 9 22 5 ⟨l.toArray⟩ (by kernel_rfl) (by kernel_rfl) (by kernel_rfl)
  have hnew := flipRel_new w ⟨l.toArray⟩ 5 (grownCap w (⟨l.toArray⟩ : ByteArray).size 0 5) (bytesRow ⟨l.toArray⟩ (grownCap w (⟨l.toArray⟩ : ByteArray).size 0 5)).size (by simp only [bytesRow, Array.size_append, Array.size_map, Array.size_replicate]; show l.toArray.size ≤ l.toArray.size + _; omega)
  rw [hz] at hconv hnew
  exact ⟨_, _, _, hconv, hnew.1, (Below.refl _ _).alloc (Nat.le_refl _) _, hnew.2.2⟩
theorem join_size (x : List Rc) : (⟨(Rc.joinS x).toArray⟩ : ByteArray).size = 6 * x.length := by show (Rc.joinS x).toArray.size = _; rw [List.size_toArray, Rc.joinS_len]
theorem six_size (r : Rc) : (⟨(Rc.six r).toArray⟩ : ByteArray).size = 6 := by show (Rc.six r).toArray.size = _; rw [List.size_toArray, Rc.six_len]
theorem join_next (x : List Rc) {k : Nat} (h : k < x.length) : (⟨(Rc.joinS (x.take k)).toArray⟩ : ByteArray) ++ ⟨(Rc.six x[k]).toArray⟩ = ⟨(Rc.joinS (x.take (k + 1))).toArray⟩ := by
  apply ba_ext
  rw [ba_app, ← List.take_append_getElem h, Rc.joinS_snoc]
end
end Go.Proofs.Ytmonbldmgmmnbaa
