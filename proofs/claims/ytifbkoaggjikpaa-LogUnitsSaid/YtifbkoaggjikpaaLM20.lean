/- What the texts behind this one rest on: several texts in one. No statement of the seat is proved here. -/
import Derived.Test.YtifbkoaggjikpaaLM16
import Derived.Test.YtifbkoaggjikpaaLM03
import Derived.Test.YtifbkoaggjikpaaLM17
import Derived.Test.YtifbkoaggjikpaaLM08
import Derived.Test.YtifbkoaggjikpaaLM02
import Derived.Test.YtifbkoaggjikpaaLM19
import Derived.Test.YtifbkoaggjikpaaLM18
namespace Go.Proofs.Ytifbkoaggjikpaa
section
open Go.RowKit

theorem conv_u8 (w : World) (g : Nat) (hg : g = w.heap.size) (l : List UInt8) (n cap : Nat) (hn : n = l.length) (cs : Array Value) (hcs : cs = (l.map fun c => Value.int .u8 (c.toNat : Int)).toArray) :
    (convert 22 9 (.slice (some ⟨g, 0, none⟩) n cap)).run Try.prog (w.alloc (.cells cs 5)) = .ok (.string ⟨l.toArray⟩) (w.alloc (.cells cs 5)) := by
  subst hg
  refine bytes_back (fun j hj => ⟨?_, ?_⟩) _ _ 5 n cap hn (by kernel_rfl) (by kernel_rfl) (by kernel_rfl)
  · rw [cell_of_row _ _ _ _ _ (0, 0) (heap_alloc_new w _), hcs]
    simp [List.getD, hj]
  · exact frozen_of_row _ _ _ _ _ (heap_alloc_new w _)

set_option maxRecDepth 100000 in
set_option maxHeartbeats 4000000 in
theorem encode_any (b : BldD) (A : Option Addr) (cap : Nat) (x : Rc) (w : World) (hn : b.cars.length ≤ 140737488355328) (hc : CarsAt w w.heap.size A b.cars) :
    Calls Try.prog 97 #[b.agg A cap, x.agg] w fun e w' => e = .returned (.tuple #[.string (Rc.encS b x), .int .i64 (Rc.encE b x)]) ∧ Below w.heap.size w w' := by
  have FV := Lib.hid (fun wx (h : Below w.heap.size w wx) => valid9_any b A cap x wx hn ((hc.below h).more h.size))
  clear hc
  cases hok : Rc.okB b x
  · have e1 : Rc.encS b x = ⟨#[]⟩ := by unfold Rc.encS; rw [hok]; rfl
    have e2 : Rc.encE b x = 1 := by unfold Rc.encE; rw [hok]; rfl
    rw [e1, e2]
    rw [hok] at FV
    clear hok e1 e2
    obtain ⟨f, d, r, p, e1, e2, e3, cs⟩ := b
    obtain ⟨k, fl, di, ca, va⟩ := x
    simp only [BldD.agg, Rc.agg] at FV hn ⊢
    go_enter Try.func97, Try.ntmps97
    go_wp2_with fail
    refine (FV.out _ (by go_grown)).mono ?_
    rintro e w1 ⟨rfl, hb1⟩
    have HB := Lib.hid (below2 ((start2 w _ _).trans (hb1.mono (by simp))))
    clear hb1
    go_wp2_with fail
    go_ret2
    exact ⟨rfl, HB.out⟩
  · have e1 : Rc.encS b x = ⟨(Rc.six x).toArray⟩ := by unfold Rc.encS; rw [hok]; rfl
    have e2 : Rc.encE b x = 0 := by unfold Rc.encE; rw [hok]; rfl
    have hO := Rc.ok_of hok
    rw [e1, e2]
    rw [hok] at FV
    clear hok e1 e2
    have e5 : Rc.five x = [Rc.u x.kind, Rc.u x.floor, Rc.u x.dir, Rc.u (x.car + 2), Rc.u x.value] := rfl
    have e6 : Rc.six x = Rc.five x ++ [UInt8.ofNat (sum8 (Rc.five x))] := rfl
    have n0 := Rc.u_nat x.kind
    have n1 := Rc.u_nat x.floor
    have n2 := Rc.u_nat x.dir
    have n3 := Rc.u_nat (x.car + 2)
    have n4 := Rc.u_nat x.value
    generalize Rc.six x = S6 at *
    generalize Rc.five x = S5 at *
    generalize Rc.u x.kind = u0 at *
    generalize Rc.u x.floor = u1 at *
    generalize Rc.u x.dir = u2 at *
    generalize Rc.u (x.car + 2) = u3 at *
    generalize Rc.u x.value = u4 at *
    have hs5 : (⟨S5.toArray⟩ : ByteArray).size = 5 := by rw [e5]; rfl
    have hbl : bl ⟨S5.toArray⟩ = S5 := rfl
    obtain ⟨q, hq⟩ : ∃ q, q = sum8 S5 := ⟨_, rfl⟩
    have hql : q < 256 := hq ▸ sum8_lt _
    have FS := Lib.hid (fun w => sum8_any ⟨S5.toArray⟩ w (by rw [hs5]; unfold maxLen; omega))
    rw [hbl, ← hq] at FS
    rw [← hq] at e6
    have hqu : (UInt8.ofNat q).toNat = q := UInt8.toNat_ofNat_of_lt' (by simpa using hql)
    obtain ⟨f, d, r, p, e1, e2, e3, cs⟩ := b
    obtain ⟨k, fl, di, ca, va⟩ := x
    simp only [BldD.agg, Rc.agg] at FV hn hO n0 n1 n2 n3 n4 ⊢
    obtain ⟨-, o1, o2, o3, o4, o5, o6, o7, o8, o9, o10⟩ := hO
    have E5 := Lib.hid e5
    have E6 := Lib.hid e6
    have HQ := Lib.hid hqu
    have m0 : k % 256 = k := by omega
    have m1 : fl % 256 = fl := by omega
    have m2 : di % 256 = di := by omega
    have m3 : (ca + 2) % 256 = ca + 2 := by omega
    have m4 : va % 256 = va := by omega
    have NN := Lib.hid (show k = u0.toNat ∧ fl = u1.toNat ∧ di = u2.toNat ∧ ca + 2 = u3.toNat ∧ va = u4.toNat from ⟨by omega, by omega, by omega, by omega, by omega⟩)
    clear e5 e6 hqu n0 n1 n2 n3 n4 hq hbl
    have hns : ¬ 9223372036854775807 < (⟨S5.toArray⟩ : ByteArray).size + 1 := by rw [hs5]; omega
    have HS5 := Lib.hid hs5
    clear hs5
    go_enter Try.func97, Try.ntmps97
    go_wp2_with fail
    refine (FV.out _ (by go_grown)).mono ?_
    rintro e w1 ⟨rfl, hb1⟩
    have hbel := (start2 w _ _).trans (hb1.mono (by simp))
    obtain ⟨k0, k1, k2, k3, k4⟩ := recRow (rows2 hbel).2
    have HB := Lib.hid (below2 hbel)
    clear hb1 hbel
    have hcv := conv_u8 w1 w1.heap.size rfl S5 5 5 (by rw [E5.out]; rfl) #[.int .u8 k, .int .u8 fl, .int .u8 di, .int .u8 (ca + 2), .int .u8 va] (by rw [E5.out]; obtain ⟨y0, y1, y2, y3, y4⟩ := NN.out; rw [y0, y1, y2, y3, y4]; rfl)
    go_wp2_with fail
    refine (FS.out _).mono ?_
    rintro e w2 ⟨rfl, rfl⟩
    have hcv2 := conv_u8 (w1.alloc (.cells #[.int .u8 k, .int .u8 fl, .int .u8 di, .int .u8 (ca + 2), .int .u8 va] 5)) (w1.heap.size + 1) (by simp) [UInt8.ofNat q] 1 1 rfl #[.int .u8 (q : Int)] (by simp [HQ.out])
    clear hcv
    go_wp2_with fail
    go_ret2
    refine ⟨?_, ?_⟩
    · rw [E6.out, app_bl]; rfl
    · exact ((HB.out.alloc (HB.out.size) _).alloc (by have := HB.out.size; simp; omega) _)
end

section
open Go.RowKit

def Rc.one : Rc := ⟨1, 3, 1, 0, 0⟩
theorem Rc.one_ok : Rc.okB (sampleD 9 4) Rc.one = true := Rc.recAt_ok (F := 9) (C := 4) (by omega) (by omega) (by omega) (by omega) (n := 0) (v := 6) (by omega)
end

section
open Go.RowKit Go.ChangeShapes Go.WideShapes Go.Deep

set_option maxRecDepth 100000

section
variable {H : Type} {enc : TypeId × Value → H} {w : World} {base : Nat} {spare : Nat → Bool} {held : Bool}
end
/-- A part at the beginning of a list in memory. -/
theorem RAt.take {w : World} {A : Option Addr} {l : List Rc} (h : RAt w A l) (k : Nat) : RAt w A (l.take k) := by
  rcases h with h | ⟨b, off, hA, hr⟩
  · exact .inl (by rw [h]; simp)
  · refine .inr ⟨b, off, hA, fun j v hv => hr j v ?_⟩
    have e : flatR l = flatR (l.take k) ++ flatR (l.drop k) := by rw [← flatR_append, List.take_append_drop]
    rw [e, List.getElem?_append_left]
    · exact hv
    · exact (List.getElem?_eq_some_iff.1 hv).1
/-- The box of a building, and what lies above it. -/
def BXR (g : Nat) (b : BldD) (A : Option Addr) (cap : Nat) (w : World) : Prop := g < w.heap.size ∧ w.heap[g]? = some (.cells (match b.agg A cap with | .agg cs => cs | _ => #[]) 26 (0, 0)) ∧ CarsAt w w.heap.size A b.cars
theorem BXR.below {g : Nat} {b : BldD} {A : Option Addr} {cap : Nat} {w w' : World} (h : BXR g b A cap w) (hb : Below w.heap.size w w') : BXR g b A cap w' :=
  ⟨Nat.lt_of_lt_of_le h.1 hb.size, (hb.block g h.1).trans h.2.1, (h.2.2.below hb).more hb.size⟩
end
end Go.Proofs.Ytifbkoaggjikpaa
