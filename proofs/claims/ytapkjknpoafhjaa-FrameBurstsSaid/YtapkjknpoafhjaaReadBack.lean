/- What is read of a frame makes that frame. Plain mathematics. No statement of the seat is proved here. -/
import Derived.Test.YtapkjknpoafhjaaReadIn
namespace Go.Proofs.Ytapkjknpoafhjaa
open Go.RowKit Frm

theorem rw_step (t l : List UInt8) (n size : Nat) (h : size ≤ l.length) : Kind.next .wr t (Kind.num .rd l n size) size ++ Kind.next .rd l n size = t ++ l := by
  show (t ++ numL (valL (l.take size)) size) ++ l.drop size = t ++ l
  have := numL_valL (l.take size)
  rw [List.length_take, Nat.min_eq_left h] at this
  rw [this, List.append_assoc, List.take_append_drop]
theorem rd_small (l : List UInt8) (n size : Nat) : Kind.num .rd l n size < 256 ^ size :=
  Nat.lt_of_lt_of_le (valL_lt _) (Nat.pow_le_pow_right (by omega) (by rw [List.length_take]; omega))
theorem m64_nat (v : Nat) (h : v < 18446744073709551616) : m64 (v : Int) = v := by unfold m64; omega
theorem rd_numI (l : List UInt8) (n : Int) (size : Nat) : Kind.numI .rd l n size = ((Kind.num .rd l (m64 n) size : Nat) : Int) := rfl
theorem m64_rd (l : List UInt8) (n : Int) (size : Nat) (hs : size ≤ 2) : m64 (Kind.numI .rd l n size) = Kind.num .rd l (m64 n) size := by
  rw [rd_numI]
  refine m64_nat _ ?_
  have h1 := rd_small l (m64 n) size
  have h2 : (256 : Nat) ^ size ≤ 256 ^ 2 := Nat.pow_le_pow_right (by omega) hs
  omega
theorem flg6 (q : Nat) (h : q < 64) : flg [q.testBit 0, q.testBit 1, q.testBit 2, q.testBit 3, q.testBit 4, q.testBit 5] = q := by
  have := flg_bits 6 q
  rw [Nat.mod_eq_of_lt h] at this
  exact this
theorem In64_nat (v : Nat) (h : v < 65536) : In64 (v : Int) := ⟨by omega, by omega⟩

/-- A car. -/
theorem car_back (t l : List UInt8) (c : CarIn) (all : Nat) (F : Int) (hl : 19 ≤ l.length) (ok : Kind.carOk .rd l c all F) :
    Kind.carOk .wr t (Kind.carR .rd l c) all F ∧ Kind.carN .wr t (Kind.carR .rd l c) ++ Kind.carN .rd l c = t ++ l ∧ saneCar (Kind.carR .rd l c) ∧ (Kind.carN .rd l c).length = l.length - 19 := by
  obtain ⟨h1, h2, h3, h4, h5⟩ := ok
  have e2 : (Kind.next .rd l c.floors 4).length = l.length - 4 := by simp [Kind.next]
  have e3 : (Kind.carL2 .rd l c).length = l.length - 5 := by simp [Kind.carL2, Kind.next] <;> omega
  have e4 : (Kind.carL3 .rd l c).length = l.length - 6 := by simp [Kind.carL3, Kind.carL2, Kind.next] <;> omega
  have e5 : (Kind.carL4 .rd l c).length = l.length - 7 := by simp [Kind.carL4, Kind.carL3, Kind.carL2, Kind.next] <;> omega
  have e6 : (Kind.carL5 .rd l c).length = l.length - 11 := by simp [Kind.carL5, Kind.carL4, Kind.carL3, Kind.carL2, Kind.next] <;> omega
  have e7 : (Kind.carN .rd l c).length = l.length - 19 := by simp [Kind.carN, Kind.carL5, Kind.carL4, Kind.carL3, Kind.carL2, Kind.next] <;> omega
  have hq : flg (Kind.carR .rd l c).flags = Kind.carQ .rd l c := flg6 _ h2
  have s1 := rw_step t l c.floors 4 (by omega)
  have s2 := rw_step (Kind.next .wr t (Kind.num .rd l c.floors 4) 4) (Kind.next .rd l c.floors 4) (flg c.flags) 1 (by omega)
  have s3 := rw_step (Kind.carL2 .wr t (Kind.carR .rd l c)) (Kind.carL2 .rd l c) (m64 c.floor) 1 (by omega)
  have s4 := rw_step (Kind.carL3 .wr t (Kind.carR .rd l c)) (Kind.carL3 .rd l c) (m64 c.door) 1 (by omega)
  have s5 := rw_step (Kind.carL4 .wr t (Kind.carR .rd l c)) (Kind.carL4 .rd l c) c.calls 4 (by omega)
  have s6 := rw_step (Kind.carL5 .wr t (Kind.carR .rd l c)) (Kind.carL5 .rd l c) c.load 8 (by omega)
  have w2 : Kind.carL2 .wr t (Kind.carR .rd l c) ++ Kind.carL2 .rd l c = t ++ l := by
    rw [← s1, ← s2]
    show Kind.next .wr (Kind.next .wr t (Kind.num .rd l c.floors 4) 4) (flg (Kind.carR .rd l c).flags) 1 ++ _ = _
    rw [hq]
    rfl
  have w3 : Kind.carL3 .wr t (Kind.carR .rd l c) ++ Kind.carL3 .rd l c = t ++ l := by
    rw [← w2, ← s3]
    show Kind.next .wr (Kind.carL2 .wr t (Kind.carR .rd l c)) (m64 (Kind.numI .rd (Kind.carL2 .rd l c) c.floor 1)) 1 ++ _ = _
    rw [m64_rd _ _ _ (by omega)]
    rfl
  have w4 : Kind.carL4 .wr t (Kind.carR .rd l c) ++ Kind.carL4 .rd l c = t ++ l := by
    rw [← w3, ← s4]
    show Kind.next .wr (Kind.carL3 .wr t (Kind.carR .rd l c)) (m64 (Kind.numI .rd (Kind.carL3 .rd l c) c.door 1)) 1 ++ _ = _
    rw [m64_rd _ _ _ (by omega)]
    rfl
  have w5 : Kind.carL5 .wr t (Kind.carR .rd l c) ++ Kind.carL5 .rd l c = t ++ l := by
    rw [← w4, ← s5]; rfl
  have w6 : Kind.carN .wr t (Kind.carR .rd l c) ++ Kind.carN .rd l c = t ++ l := by
    rw [← w5, ← s6]; rfl
  refine ⟨⟨h1, ?_, h3, h4, h5⟩, w6, ⟨rd_small l 0 4, rd_small _ 0 4, rd_small _ 0 8, In64_nat _ ?_, In64_nat _ ?_⟩, e7⟩
  · show flg (Kind.carR .rd l c).flags < 2 ^ 6
    rw [hq]; exact h2
  · have := rd_small (Kind.carL2 .rd l c) (m64 c.floor) 1; exact Nat.lt_of_lt_of_le this (by decide)
  · have := rd_small (Kind.carL3 .rd l c) (m64 c.door) 1; exact Nat.lt_of_lt_of_le this (by decide)

/-- The cars that a carrier makes, one behind the other. -/
def Kind.carsR (k : Kind) : List UInt8 → List CarIn → List CarIn
  | _, [] => []
  | l, c :: cs => k.carR l c :: k.carsR (k.carN l c) cs
theorem Kind.carsR_map (k : Kind) : ∀ (cs : List CarIn) (l : List UInt8), (List.range cs.length).map (fun i => k.carAt l cs i) = k.carsR l cs
  | [], l => rfl
  | c :: cs, l => by
    rw [List.length_cons, List.range_succ_eq_map, List.map_cons, List.map_map, Kind.carsR, ← Kind.carsR_map k cs (k.carN l c)]
    congr 1
theorem Kind.carsR_length (k : Kind) : ∀ (cs : List CarIn) (l : List UInt8), (k.carsR l cs).length = cs.length
  | [], _ => rfl
  | c :: cs, l => by rw [Kind.carsR, List.length_cons, List.length_cons, Kind.carsR_length k cs]

/-- All cars. -/
theorem cars_back (all : Nat) (F : Int) : ∀ (cs : List CarIn) (t l : List UInt8), 19 * cs.length ≤ l.length →
    (∀ i (h : i < cs.length), Kind.carOk .rd (Kind.carsN .rd l (cs.take i)) cs[i] all F) →
    (∀ i (h : i < (Kind.carsR .rd l cs).length), Kind.carOk .wr (Kind.carsN .wr t ((Kind.carsR .rd l cs).take i)) (Kind.carsR .rd l cs)[i] all F) ∧
      Kind.carsN .wr t (Kind.carsR .rd l cs) ++ Kind.carsN .rd l cs = t ++ l ∧ (∀ c ∈ Kind.carsR .rd l cs, saneCar c) ∧ (Kind.carsN .rd l cs).length = l.length - 19 * cs.length
  | [], t, l, _, _ => ⟨fun i h => absurd h (by simp [Kind.carsR]), rfl, fun c hc => by simp [Kind.carsR] at hc, by simp [Kind.carsN]⟩
  | c :: cs, t, l, hl, ok => by
    rw [List.length_cons] at hl
    obtain ⟨k1, k2, k3, k4⟩ := car_back t l c all F (by omega) (ok 0 (by simp))
    obtain ⟨m1, m2, m3, m4⟩ := cars_back all F cs (Kind.carN .wr t (Kind.carR .rd l c)) (Kind.carN .rd l c) (by omega) (fun i h => ok (i + 1) (by rw [List.length_cons]; omega))
    refine ⟨fun i h => ?_, ?_, fun c' hc' => ?_, ?_⟩
    · cases i with
      | zero => exact k1
      | succ i => exact m1 i (by simpa [Kind.carsR] using h)
    · show Kind.carsN .wr (Kind.carN .wr t (Kind.carR .rd l c)) (Kind.carsR .rd (Kind.carN .rd l c) cs) ++ Kind.carsN .rd (Kind.carN .rd l c) cs = _
      rw [m2, k2]
    · rcases List.mem_cons.1 hc' with rfl | h
      · exact k3
      · exact m3 c' h
    · show (Kind.carsN .rd (Kind.carN .rd l c) cs).length = _
      rw [m4, k4, List.length_cons]; omega

/-- What is read is valid, and makes what it was read from. -/
theorem in_back (t l : List UInt8) (C u d : Nat) (F : Int) (hl : l.length = 10 + 19 * C) (ok : Kind.inOk .rd l (noIn C) u d C F) :
    Kind.inOk .wr t (Kind.inR .rd l (noIn C)) u d C F ∧ Kind.inN .wr t (Kind.inR .rd l (noIn C)) = t ++ l ∧ saneIn (Kind.inR .rd l (noIn C)) := by
  obtain ⟨hc, ⟨a1, a2⟩, ⟨b1, b2⟩, hcs⟩ := ok
  have hlen : (noIn C).cars.length = C := hc
  have L1 : (Kind.next .rd l 0 4).length = l.length - 4 := by simp [Kind.next]
  have L2 : (Kind.headL1 .rd l 0 0).length = l.length - 8 := by simp [Kind.headL1, Kind.next] <;> omega
  have L3 : (Kind.next .rd (Kind.headL1 .rd l 0 0) (m64 0) 1).length = l.length - 9 := by simp [Kind.headL1, Kind.next] <;> omega
  have L4 : (Kind.headL2 .rd l 0 0 0 0).length = l.length - 10 := by simp [Kind.headL2, Kind.headL1, Kind.next] <;> omega
  have s1 := rw_step t l 0 4 (by omega)
  have s2 := rw_step (Kind.next .wr t (Kind.num .rd l 0 4) 4) (Kind.next .rd l 0 4) 0 4 (by omega)
  have w1 : Kind.headL1 .wr t (Kind.num .rd l 0 4) (Kind.num .rd (Kind.next .rd l 0 4) 0 4) ++ Kind.headL1 .rd l 0 0 = t ++ l := by rw [← s1, ← s2]; rfl
  have s3 := rw_step (Kind.headL1 .wr t (Kind.num .rd l 0 4) (Kind.num .rd (Kind.next .rd l 0 4) 0 4)) (Kind.headL1 .rd l 0 0) (m64 0) 1 (by omega)
  have w2 : Kind.next .wr (Kind.headL1 .wr t (Kind.num .rd l 0 4) (Kind.num .rd (Kind.next .rd l 0 4) 0 4)) (m64 (Kind.numI .rd (Kind.headL1 .rd l 0 0) 0 1)) 1 ++ Kind.next .rd (Kind.headL1 .rd l 0 0) (m64 0) 1 = t ++ l := by
    rw [m64_rd _ _ _ (by omega), s3, w1]
  have s4 := rw_step (Kind.next .wr (Kind.headL1 .wr t (Kind.num .rd l 0 4) (Kind.num .rd (Kind.next .rd l 0 4) 0 4)) (m64 (Kind.numI .rd (Kind.headL1 .rd l 0 0) 0 1)) 1) (Kind.next .rd (Kind.headL1 .rd l 0 0) (m64 0) 1) (m64 0) 1 (by omega)
  have w3 : Kind.headL2 .wr t (Kind.num .rd l 0 4) (Kind.num .rd (Kind.next .rd l 0 4) 0 4) (Kind.numI .rd (Kind.headL1 .rd l 0 0) 0 1) (Kind.numI .rd (Kind.next .rd (Kind.headL1 .rd l 0 0) (m64 0) 1) 0 1) ++ Kind.headL2 .rd l 0 0 0 0 = t ++ l := by
    rw [← w2, ← s4]
    show Kind.next .wr (Kind.next .wr (Kind.headL1 .wr t (Kind.num .rd l 0 4) (Kind.num .rd (Kind.next .rd l 0 4) 0 4)) (m64 (Kind.numI .rd (Kind.headL1 .rd l 0 0) 0 1)) 1) (m64 (Kind.numI .rd (Kind.next .rd (Kind.headL1 .rd l 0 0) (m64 0) 1) 0 1)) 1 ++ _ = _
    rw [m64_rd (Kind.next .rd (Kind.headL1 .rd l 0 0) (m64 0) 1) 0 1 (by omega)]
    rfl
  have hmap : (Kind.inR .rd l (noIn C)).cars = Kind.carsR .rd (Kind.headL2 .rd l 0 0 0 0) (noIn C).cars := Kind.carsR_map .rd (noIn C).cars (Kind.headL2 .rd l 0 0 0 0)
  obtain ⟨m1, m2, m3, m4⟩ := cars_back (u ||| d) F (noIn C).cars (Kind.headL2 .wr t (Kind.num .rd l 0 4) (Kind.num .rd (Kind.next .rd l 0 4) 0 4) (Kind.numI .rd (Kind.headL1 .rd l 0 0) 0 1) (Kind.numI .rd (Kind.next .rd (Kind.headL1 .rd l 0 0) (m64 0) 1) 0 1)) (Kind.headL2 .rd l 0 0 0 0) (by rw [hlen, L4]; omega) hcs
  have hmt : Kind.carsN .rd (Kind.headL2 .rd l 0 0 0 0) (noIn C).cars = [] := List.eq_nil_of_length_eq_zero (by rw [m4, hlen, L4]; omega)
  have hcl : (Kind.inR .rd l (noIn C)).cars.length = C := by rw [hmap, Kind.carsR_length, hlen]
  refine ⟨⟨hcl, ⟨a1, a2⟩, ⟨b1, ?_⟩, ?_⟩, ?_, ⟨rd_small l 0 4, rd_small _ 0 4, In64_nat _ ?_, In64_nat _ ?_, ?_⟩⟩
  · rw [hlen] at b2
    rw [hcl]
    exact b2
  · rw [hmap]; exact m1
  · show Kind.carsN .wr _ (Kind.inR .rd l (noIn C)).cars = _
    rw [hmap]
    have h := m2
    rw [hmt, List.append_nil, w3] at h
    exact h
  · exact Nat.lt_of_lt_of_le (rd_small (Kind.headL1 .rd l 0 0) (m64 0) 1) (by decide)
  · exact Nat.lt_of_lt_of_le (rd_small (Kind.next .rd (Kind.headL1 .rd l 0 0) (m64 0) 1) (m64 0) 1) (by decide)
  · rw [hmap]; exact m3

/-- The frame of what was read is what was read. -/
theorem read_frame {x : BldD} {s : ByteArray} (h1 : openOkIn x s) (h2 : readOkIn x s) : inOk x (inOf x s) ∧ inText x (inOf x s) = bl s ∧ saneIn (inOf x s) := by
  obtain ⟨hv, hsz, hh, ho⟩ := h1
  have hlen : (bl s).length = 14 + 19 * x.cars.length := by rw [bl_len]; omega
  have hOS : openS (bl s) = (bl s).take ((bl s).length - 2) := by unfold openS; rw [if_pos ho]
  have hbl : (bodyL s).length = 10 + 19 * x.cars.length := by unfold bodyL; rw [hOS, List.length_drop, List.length_take]; omega
  obtain ⟨k1, k2, k3⟩ := in_back (headL 165 x.cars.length) (bodyL s) x.cars.length (hallUp x) (hallDown x) x.floors hbl h2
  refine ⟨⟨hv, k1⟩, ?_, k3⟩
  unfold inText inOf
  rw [k2]
  have e : headL 165 x.cars.length ++ bodyL s = (bl s).take ((bl s).length - 2) := by
    unfold bodyL
    rw [hOS, ← hh, List.drop_take, ← List.take_append_drop 2 ((bl s).take ((bl s).length - 2)), List.take_take, List.drop_take, Nat.min_eq_left (by omega)]
  rw [e]
  unfold openOk at ho
  have h := of_decide_eq_true ho
  unfold sealL
  rw [← h.2, List.take_append_drop]
end Go.Proofs.Ytapkjknpoafhjaa
