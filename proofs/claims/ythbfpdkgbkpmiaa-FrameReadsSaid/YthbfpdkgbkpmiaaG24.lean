/- What the texts behind this one rest on: several texts in one. No statement of the seat is proved here. -/
import Derived.Test.YthbfpdkgbkpmiaaReadIn
import Derived.Test.YthbfpdkgbkpmiaaG7
namespace Go.Proofs.Ythbfpdkgbkpmiaa
section
open Go.RowKit Frm

theorem rw_step (t l : List UInt8) (n size : Nat) (h : size ≤ l.length) : Kind.next .wr t (Kind.num .rd l n size) size ++ Kind.next .rd l n size = t ++ l := by
  show (t ++ numL (valL (l.take size)) size) ++ l.drop size = t ++ l
  have := numL_valL (l.take size)
  rw [List.length_take, Nat.min_eq_left h] at this
  rw [this, List.append_assoc, List.take_append_drop]
theorem rd_small (l : List UInt8) (n size : Nat) : Kind.num .rd l n size < 256 ^ size :=
  Nat.lt_of_lt_of_le (valL_lt _) (Nat.pow_le_pow_right (by omega) (by rw [List.length_take]; omega))
theorem m64_nat (v : Nat) (h : v < 18446744073709551616) : m64 (v : Int) = v := by unfold m64; omega
theorem rd_numI (l : List UInt8) (n : Int) (size : Nat) : Kind.numI .rd l n size = ((Kind.num .rd l (m64 n) size : Nat) : Int) := rfl
theorem m64_rd (l : List UInt8) (n : Int) (size : Nat) (hs : size ≤ 2) : m64 (Kind.numI .rd l n size) = Kind.num .rd l (m64 n) size := by
  rw [rd_numI]
  refine m64_nat _ ?_
  have h1 := rd_small l (m64 n) size
  have h2 : (256 : Nat) ^ size ≤ 256 ^ 2 := Nat.pow_le_pow_right (by omega) hs
  omega
theorem flg6 (q : Nat) (h : q < 64) : flg [q.testBit 0, q.testBit 1, q.testBit 2, q.testBit 3, q.testBit 4, q.testBit 5] = q := by
  have := flg_bits 6 q
  rw [Nat.mod_eq_of_lt h] at this
  exact this
theorem In64_nat (v : Nat) (h : v < 65536) : In64 (v : Int) := ⟨by omega, by omega⟩

/-- A car. -/
theorem car_back (t l : List UInt8) (c : CarIn) (all : Nat) (F : Int) (hl : 19 ≤ l.length) (ok : Kind.carOk .rd l c all F) :
    Kind.carOk .wr t (Kind.carR .rd l c) all F ∧ Kind.carN .wr t (Kind.carR .rd l c) ++ Kind.carN .rd l c = t ++ l ∧ saneCar (Kind.carR .rd l c) ∧ (Kind.carN .rd l c).length = l.length - 19 := by
  obtain ⟨h1, h2, h3, h4, h5⟩ := ok
  have e2 : (Kind.next .rd l c.floors 4).length = l.length - 4 := by simp [Kind.next]
  have e3 : (Kind.carL2 .rd l c).length = l.length - 5 := by simp [Kind.carL2, Kind.next] <;> omega
  have e4 : (Kind.carL3 .rd l c).length = l.length - 6 := by simp [Kind.carL3, Kind.carL2, Kind.next] <;> omega
  have e5 : (Kind.carL4 .rd l c).length = l.length - 7 := by simp [Kind.carL4, Kind.carL3, Kind.carL2, Kind.next] <;> omega
  have e6 : (Kind.carL5 .rd l c).length = l.length - 11 := by simp [Kind.carL5, Kind.carL4, Kind.carL3, Kind.carL2, Kind.next] <;> omega
  have e7 : (Kind.carN .rd l c).length = l.length - 19 := by simp [Kind.carN, Kind.carL5, Kind.carL4, Kind.carL3, Kind.carL2, Kind.next] <;> omega
  have hq : flg (Kind.carR .rd l c).flags = Kind.carQ .rd l c := flg6 _ h2
  have s1 := rw_step t l c.floors 4 (by omega)
  have s2 := rw_step (Kind.next .wr t (Kind.num .rd l c.floors 4) 4) (Kind.next .rd l c.floors 4) (flg c.flags) 1 (by omega)
  have s3 := rw_step (Kind.carL2 .wr t (Kind.carR .rd l c)) (Kind.carL2 .rd l c) (m64 c.floor) 1 (by omega)
  have s4 := rw_step (Kind.carL3 .wr t (Kind.carR .rd l c)) (Kind.carL3 .rd l c) (m64 c.door) 1 (by omega)
  have s5 := rw_step (Kind.carL4 .wr t (Kind.carR .rd l c)) (Kind.carL4 .rd l c) c.calls 4 (by omega)
  have s6 := rw_step (Kind.carL5 .wr t (Kind.carR .rd l c)) (Kind.carL5 .rd l c) c.load 8 (by omega)
  have w2 : Kind.carL2 .wr t (Kind.carR .rd l c) ++ Kind.carL2 .rd l c = t ++ l := by
    rw [← s1, ← s2]
    show Kind.next .wr (Kind.next .wr t (Kind.num .rd l c.floors 4) 4) (flg (Kind.carR .rd l c).flags) 1 ++ _ = _
    rw [hq]
    rfl
  have w3 : Kind.carL3 .wr t (Kind.carR .rd l c) ++ Kind.carL3 .rd l c = t ++ l := by
    rw [← w2, ← s3]
    show Kind.next .wr (Kind.carL2 .wr t (Kind.carR .rd l c)) (m64 (Kind.numI .rd (Kind.carL2 .rd l c) c.floor 1)) 1 ++ _ = _
    rw [m64_rd _ _ _ (by omega)]
    rfl
  have w4 : Kind.carL4 .wr t (Kind.carR .rd l c) ++ Kind.carL4 .rd l c = t ++ l := by
    rw [← w3, ← s4]
    show Kind.next .wr (Kind.carL3 .wr t (Kind.carR .rd l c)) (m64 (Kind.numI .rd (Kind.carL3 .rd l c) c.door 1)) 1 ++ _ = _
    rw [m64_rd _ _ _ (by omega)]
    rfl
  have w5 : Kind.carL5 .wr t (Kind.carR .rd l c) ++ Kind.carL5 .rd l c = t ++ l := by
    rw [← w4, ← s5]; rfl
  have w6 : Kind.carN .wr t (Kind.carR .rd l c) ++ Kind.carN .rd l c = t ++ l := by
    rw [← w5, ← s6]; rfl
  refine ⟨⟨h1, ?_, h3, h4, h5⟩, w6, ⟨rd_small l 0 4, rd_small _ 0 4, rd_small _ 0 8, In64_nat _ ?_, In64_nat _ ?_⟩, e7⟩
  · show flg (Kind.carR .rd l c).flags < 2 ^ 6
    rw [hq]; exact h2
  · have := rd_small (Kind.carL2 .rd l c) (m64 c.floor) 1; exact Nat.lt_of_lt_of_le this (by decide)
  · have := rd_small (Kind.carL3 .rd l c) (m64 c.door) 1; exact Nat.lt_of_lt_of_le this (by decide)

/-- The cars that a carrier makes, one behind the other. -/
def Kind.carsR (k : Kind) : List UInt8 → List CarIn → List CarIn
  | _, [] => []
  | l, c :: cs => k.carR l c :: k.carsR (k.carN l c) cs
theorem Kind.carsR_map (k : Kind) : ∀ (cs : List CarIn) (l : List UInt8), (List.range cs.length).map (fun i => k.carAt l cs i) = k.carsR l cs
  | [], l => rfl
  | c :: cs, l => by
    rw [List.length_cons, List.range_succ_eq_map, List.map_cons, List.map_map, Kind.carsR, ← Kind.carsR_map k cs (k.carN l c)]
    congr 1
theorem Kind.carsR_length (k : Kind) : ∀ (cs : List CarIn) (l : List UInt8), (k.carsR l cs).length = cs.length
  | [], _ => rfl
  | c :: cs, l => by rw [Kind.carsR, List.length_cons, List.length_cons, Kind.carsR_length k cs]

/-- All cars. -/
theorem cars_back (all : Nat) (F : Int) : ∀ (cs : List CarIn) (t l : List UInt8), 19 * cs.length ≤ l.length →
    (∀ i (h : i < cs.length), Kind.carOk .rd (Kind.carsN .rd l (cs.take i)) cs[i] all F) →
    (∀ i (h : i < (Kind.carsR .rd l cs).length), Kind.carOk .wr (Kind.carsN .wr t ((Kind.carsR .rd l cs).take i)) (Kind.carsR .rd l cs)[i] all F) ∧
      Kind.carsN .wr t (Kind.carsR .rd l cs) ++ Kind.carsN .rd l cs = t ++ l ∧ (∀ c ∈ Kind.carsR .rd l cs, saneCar c) ∧ (Kind.carsN .rd l cs).length = l.length - 19 * cs.length
  | [], t, l, _, _ => ⟨fun i h => absurd h (by simp [Kind.carsR]), rfl, fun c hc => by simp [Kind.carsR] at hc, by simp [Kind.carsN]⟩
  | c :: cs, t, l, hl, ok => by
    rw [List.length_cons] at hl
    obtain ⟨k1, k2, k3, k4⟩ := car_back t l c all F (by omega) (ok 0 (by simp))
    obtain ⟨m1, m2, m3, m4⟩ := cars_back all F cs (Kind.carN .wr t (Kind.carR .rd l c)) (Kind.carN .rd l c) (by omega) (fun i h => ok (i + 1) (by rw [List.length_cons]; omega))
    refine ⟨fun i h => ?_, ?_, fun c' hc' => ?_, ?_⟩
    · cases i with
      | zero => exact k1
      | succ i => exact m1 i (by simpa [Kind.carsR] using h)
    · show Kind.carsN .wr (Kind.carN .wr t (Kind.carR .rd l c)) (Kind.carsR .rd (Kind.carN .rd l c) cs) ++ Kind.carsN .rd (Kind.carN .rd l c) cs = _
      rw [m2, k2]
    · rcases List.mem_cons.1 hc' with rfl | h
      · exact k3
      · exact m3 c' h
    · show (Kind.carsN .rd (Kind.carN .rd l c) cs).length = _
      rw [m4, k4, List.length_cons]; omega

/-- What is read is valid, and makes what it was read from. -/
theorem in_back (t l : List UInt8) (C u d : Nat) (F : Int) (hl : l.length = 10 + 19 * C) (ok : Kind.inOk .rd l (noIn C) u d C F) :
    Kind.inOk .wr t (Kind.inR .rd l (noIn C)) u d C F ∧ Kind.inN .wr t (Kind.inR .rd l (noIn C)) = t ++ l ∧ saneIn (Kind.inR .rd l (noIn C)) := by
  obtain ⟨hc, ⟨a1, a2⟩, ⟨b1, b2⟩, hcs⟩ := ok
  have hlen : (noIn C).cars.length = C := hc
  have L1 : (Kind.next .rd l 0 4).length = l.length - 4 := by simp [Kind.next]
  have L2 : (Kind.headL1 .rd l 0 0).length = l.length - 8 := by simp [Kind.headL1, Kind.next] <;> omega
  have L3 : (Kind.next .rd (Kind.headL1 .rd l 0 0) (m64 0) 1).length = l.length - 9 := by simp [Kind.headL1, Kind.next] <;> omega
  have L4 : (Kind.headL2 .rd l 0 0 0 0).length = l.length - 10 := by simp [Kind.headL2, Kind.headL1, Kind.next] <;> omega
  have s1 := rw_step t l 0 4 (by omega)
  have s2 := rw_step (Kind.next .wr t (Kind.num .rd l 0 4) 4) (Kind.next .rd l 0 4) 0 4 (by omega)
  have w1 : Kind.headL1 .wr t (Kind.num .rd l 0 4) (Kind.num .rd (Kind.next .rd l 0 4) 0 4) ++ Kind.headL1 .rd l 0 0 = t ++ l := by rw [← s1, ← s2]; rfl
  have s3 := rw_step (Kind.headL1 .wr t (Kind.num .rd l 0 4) (Kind.num .rd (Kind.next .rd l 0 4) 0 4)) (Kind.headL1 .rd l 0 0) (m64 0) 1 (by omega)
  have w2 : Kind.next .wr (Kind.headL1 .wr t (Kind.num .rd l 0 4) (Kind.num .rd (Kind.next .rd l 0 4) 0 4)) (m64 (Kind.numI .rd (Kind.headL1 .rd l 0 0) 0 1)) 1 ++ Kind.next .rd (Kind.headL1 .rd l 0 0) (m64 0) 1 = t ++ l := by
    rw [m64_rd _ _ _ (by omega), s3, w1]
  have s4 := rw_step (Kind.next .wr (Kind.headL1 .wr t (Kind.num .rd l 0 4) (Kind.num .rd (Kind.next .rd l 0 4) 0 4)) (m64 (Kind.numI .rd (Kind.headL1 .rd l 0 0) 0 1)) 1) (Kind.next .rd (Kind.headL1 .rd l 0 0) (m64 0) 1) (m64 0) 1 (by omega)
  have w3 : Kind.headL2 .wr t (Kind.num .rd l 0 4) (Kind.num .rd (Kind.next .rd l 0 4) 0 4) (Kind.numI .rd (Kind.headL1 .rd l 0 0) 0 1) (Kind.numI .rd (Kind.next .rd (Kind.headL1 .rd l 0 0) (m64 0) 1) 0 1) ++ Kind.headL2 .rd l 0 0 0 0 = t ++ l := by
    rw [← w2, ← s4]
    show Kind.next .wr (Kind.next .wr (Kind.headL1 .wr t (Kind.num .rd l 0 4) (Kind.num .rd (Kind.next .rd l 0 4) 0 4)) (m64 (Kind.numI .rd (Kind.headL1 .rd l 0 0) 0 1)) 1) (m64 (Kind.numI .rd (Kind.next .rd (Kind.headL1 .rd l 0 0) (m64 0) 1) 0 1)) 1 ++ _ = _
    rw [m64_rd (Kind.next .rd (Kind.headL1 .rd l 0 0) (m64 0) 1) 0 1 (by omega)]
    rfl
  have hmap : (Kind.inR .rd l (noIn C)).cars = Kind.carsR .rd (Kind.headL2 .rd l 0 0 0 0) (noIn C).cars := Kind.carsR_map .rd (noIn C).cars (Kind.headL2 .rd l 0 0 0 0)
  obtain ⟨m1, m2, m3, m4⟩ := cars_back (u ||| d) F (noIn C).cars (Kind.headL2 .wr t (Kind.num .rd l 0 4) (Kind.num .rd (Kind.next .rd l 0 4) 0 4) (Kind.numI .rd (Kind.headL1 .rd l 0 0) 0 1) (Kind.numI .rd (Kind.next .rd (Kind.headL1 .rd l 0 0) (m64 0) 1) 0 1)) (Kind.headL2 .rd l 0 0 0 0) (by rw [hlen, L4]; omega) hcs
  have hmt : Kind.carsN .rd (Kind.headL2 .rd l 0 0 0 0) (noIn C).cars = [] := List.eq_nil_of_length_eq_zero (by rw [m4, hlen, L4]; omega)
  have hcl : (Kind.inR .rd l (noIn C)).cars.length = C := by rw [hmap, Kind.carsR_length, hlen]
  refine ⟨⟨hcl, ⟨a1, a2⟩, ⟨b1, ?_⟩, ?_⟩, ?_, ⟨rd_small l 0 4, rd_small _ 0 4, In64_nat _ ?_, In64_nat _ ?_, ?_⟩⟩
  · rw [hlen] at b2
    rw [hcl]
    exact b2
  · rw [hmap]; exact m1
  · show Kind.carsN .wr _ (Kind.inR .rd l (noIn C)).cars = _
    rw [hmap]
    have h := m2
    rw [hmt, List.append_nil, w3] at h
    exact h
  · exact Nat.lt_of_lt_of_le (rd_small (Kind.headL1 .rd l 0 0) (m64 0) 1) (by decide)
  · exact Nat.lt_of_lt_of_le (rd_small (Kind.next .rd (Kind.headL1 .rd l 0 0) (m64 0) 1) (m64 0) 1) (by decide)
  · rw [hmap]; exact m3

/-- The frame of what was read is what was read. -/
theorem read_frame {x : BldD} {s : ByteArray} (h1 : openOkIn x s) (h2 : readOkIn x s) : inOk x (inOf x s) ∧ inText x (inOf x s) = bl s ∧ saneIn (inOf x s) := by
  obtain ⟨hv, hsz, hh, ho⟩ := h1
  have hlen : (bl s).length = 14 + 19 * x.cars.length := by rw [bl_len]; omega
  have hOS : openS (bl s) = (bl s).take ((bl s).length - 2) := by unfold openS; rw [if_pos ho]
  have hbl : (bodyL s).length = 10 + 19 * x.cars.length := by unfold bodyL; rw [hOS, List.length_drop, List.length_take]; omega
  obtain ⟨k1, k2, k3⟩ := in_back (headL 165 x.cars.length) (bodyL s) x.cars.length (hallUp x) (hallDown x) x.floors hbl h2
  refine ⟨⟨hv, k1⟩, ?_, k3⟩
  unfold inText inOf
  rw [k2]
  have e : headL 165 x.cars.length ++ bodyL s = (bl s).take ((bl s).length - 2) := by
    unfold bodyL
    rw [hOS, ← hh, List.drop_take, ← List.take_append_drop 2 ((bl s).take ((bl s).length - 2)), List.take_take, List.drop_take, Nat.min_eq_left (by omega)]
  rw [e]
  unfold openOk at ho
  have h := of_decide_eq_true ho
  unfold sealL
  rw [← h.2, List.take_append_drop]
end

section
open Go.RowKit Frm

theorem rd_num_app (n m size : Nat) (r : List UInt8) (hn : n < 256 ^ size) : Kind.num .rd (numL n size ++ r) m size = n := by
  show valL ((numL n size ++ r).take size) = n
  rw [List.take_left' (numL_length size n), valL_numL, Nat.mod_eq_of_lt hn]
theorem rd_next_app (n m size : Nat) (r : List UInt8) : Kind.next .rd (numL n size ++ r) m size = r := by
  show (numL n size ++ r).drop size = r
  rw [List.drop_left' (numL_length size n)]
theorem rd_numI_app (v n : Int) (size : Nat) (r : List UInt8) (h0 : 0 ≤ v) (hv : v < 256 ^ size) (h2 : size ≤ 2) : Kind.numI .rd (numL (m64 v) size ++ r) n size = v := by
  have h3 : (256 : Nat) ^ size ≤ 256 ^ 2 := Nat.pow_le_pow_right (by omega) h2
  have h4 : ((256 ^ size : Nat) : Int) = 256 ^ size := by
    have h5 : size = 0 ∨ size = 1 ∨ size = 2 := by omega
    rcases h5 with rfl | rfl | rfl <;> rfl
  have hm : m64 v = v.toNat := m64_id h0 (by omega)
  rw [rd_numI, rd_num_app _ _ _ _ (by omega), hm]
  omega

/-- The bytes of a car. -/
def carB (c : CarIn) : List UInt8 := numL c.floors 4 ++ (numL (flg c.flags) 1 ++ (numL (m64 c.floor) 1 ++ (numL (m64 c.door) 1 ++ (numL c.calls 4 ++ numL c.load 8))))
theorem carB_length (c : CarIn) : (carB c).length = 19 := by simp [carB, numL_length]
theorem carN_wr (t : List UInt8) (c : CarIn) : Kind.carN .wr t c = t ++ carB c := by
  simp [Kind.carN, Kind.carL5, Kind.carL4, Kind.carL3, Kind.carL2, Kind.next, carB]
/-- A car that fits its bytes. -/
def fitCar (c : CarIn) : Prop := c.floors < 4294967296 ∧ c.calls < 4294967296 ∧ c.load < 18446744073709551616 ∧ (0 ≤ c.floor ∧ c.floor < 256) ∧ (0 ≤ c.door ∧ c.door < 256)
theorem car_read (c c0 : CarIn) (r : List UInt8) (h : fitCar c) : Kind.carR .rd (carB c ++ r) c0 = c ∧ Kind.carN .rd (carB c ++ r) c0 = r ∧
    ∀ all F, setB c.floors all = true → inB 0 (F - 1) c.floor = true → inB 0 2 c.door = true → setB c.calls all = true → Kind.carOk .rd (carB c ++ r) c0 all F := by
  obtain ⟨h1, h2, h3, ⟨h4, h4'⟩, h5, h5'⟩ := h
  have hq : flg c.flags < 64 := flg_lt c.flags
  have e0 : carB c ++ r = numL c.floors 4 ++ (numL (flg c.flags) 1 ++ (numL (m64 c.floor) 1 ++ (numL (m64 c.door) 1 ++ (numL c.calls 4 ++ (numL c.load 8 ++ r))))) := by simp [carB]
  have n1 : Kind.next .rd (carB c ++ r) c0.floors 4 = numL (flg c.flags) 1 ++ (numL (m64 c.floor) 1 ++ (numL (m64 c.door) 1 ++ (numL c.calls 4 ++ (numL c.load 8 ++ r)))) := by rw [e0, rd_next_app]
  have n2 : Kind.carL2 .rd (carB c ++ r) c0 = numL (m64 c.floor) 1 ++ (numL (m64 c.door) 1 ++ (numL c.calls 4 ++ (numL c.load 8 ++ r))) := by unfold Kind.carL2; rw [n1, rd_next_app]
  have n3 : Kind.carL3 .rd (carB c ++ r) c0 = numL (m64 c.door) 1 ++ (numL c.calls 4 ++ (numL c.load 8 ++ r)) := by unfold Kind.carL3; rw [n2, rd_next_app]
  have n4 : Kind.carL4 .rd (carB c ++ r) c0 = numL c.calls 4 ++ (numL c.load 8 ++ r) := by unfold Kind.carL4; rw [n3, rd_next_app]
  have n5 : Kind.carL5 .rd (carB c ++ r) c0 = numL c.load 8 ++ r := by unfold Kind.carL5; rw [n4, rd_next_app]
  have n6 : Kind.carN .rd (carB c ++ r) c0 = r := by unfold Kind.carN; rw [n5, rd_next_app]
  have v1 : Kind.num .rd (carB c ++ r) c0.floors 4 = c.floors := by rw [e0, rd_num_app _ _ _ _ h1]
  have vq : Kind.carQ .rd (carB c ++ r) c0 = flg c.flags := by unfold Kind.carQ; rw [n1, rd_num_app _ _ _ _ (by omega)]
  have v3 : Kind.numI .rd (Kind.carL2 .rd (carB c ++ r) c0) c0.floor 1 = c.floor := by rw [n2, rd_numI_app _ _ _ _ h4 (by omega) (by omega)]
  have v4 : Kind.numI .rd (Kind.carL3 .rd (carB c ++ r) c0) c0.door 1 = c.door := by rw [n3, rd_numI_app _ _ _ _ h5 (by omega) (by omega)]
  have v5 : Kind.num .rd (Kind.carL4 .rd (carB c ++ r) c0) c0.calls 4 = c.calls := by rw [n4, rd_num_app _ _ _ _ h2]
  have v6 : Kind.num .rd (Kind.carL5 .rd (carB c ++ r) c0) c0.load 8 = c.load := by rw [n5, rd_num_app _ _ _ _ h3]
  refine ⟨?_, n6, fun all F k1 k2 k3 k4 => ⟨by rw [v1]; exact k1, by rw [vq]; exact hq, by rw [v3]; exact k2, by rw [v4]; exact k3, by rw [v5]; exact k4⟩⟩
  obtain ⟨f, up, down, opened, closed, floor, level, door, block, calls, load⟩ := c
  simp only [Kind.carR, Kind.car5, Kind.car4, Kind.car3, Kind.car2, Kind.car1]
  rw [vq, v1, v3, v4, v5, v6]
  simp only [flg_testBit, CarIn.flags]
  rfl

theorem carsN_wr : ∀ (cs : List CarIn) (t : List UInt8), Kind.carsN .wr t cs = t ++ cs.flatMap carB
  | [], t => by simp [Kind.carsN]
  | c :: cs, t => by rw [Kind.carsN, carsN_wr cs, carN_wr, List.flatMap_cons, List.append_assoc]
theorem cars_read (all : Nat) (F : Int) : ∀ (cs : List CarIn) (r : List UInt8), (∀ c ∈ cs, fitCar c) →
    (∀ c ∈ cs, setB c.floors all = true ∧ inB 0 (F - 1) c.floor = true ∧ inB 0 2 c.door = true ∧ setB c.calls all = true) →
    Kind.carsR .rd (cs.flatMap carB ++ r) (List.replicate cs.length default) = cs ∧ Kind.carsN .rd (cs.flatMap carB ++ r) (List.replicate cs.length default) = r ∧
      ∀ i (h : i < (List.replicate cs.length (default : CarIn)).length), Kind.carOk .rd (Kind.carsN .rd (cs.flatMap carB ++ r) ((List.replicate cs.length default).take i)) (List.replicate cs.length default)[i] all F
  | [], r, _, _ => ⟨rfl, rfl, fun i h => absurd h (by simp)⟩
  | c :: cs, r, hf, hk => by
    obtain ⟨m1, m2, m3⟩ := car_read c default (cs.flatMap carB ++ r) (hf c (by simp))
    obtain ⟨p1, p2, p3⟩ := cars_read all F cs r (fun c hc => hf c (by simp [hc])) (fun c hc => hk c (by simp [hc]))
    have e : (c :: cs).flatMap carB ++ r = carB c ++ (cs.flatMap carB ++ r) := by rw [List.flatMap_cons, List.append_assoc]
    have er : List.replicate (c :: cs).length (default : CarIn) = default :: List.replicate cs.length default := by rw [List.length_cons, List.replicate_succ]
    rw [e]
    simp only [er]
    refine ⟨?_, ?_, fun i h => ?_⟩
    · rw [Kind.carsR, m1, m2, p1]
    · rw [Kind.carsN, m2, p2]
    · cases i with
      | zero => obtain ⟨k1, k2, k3, k4⟩ := hk c (by simp); exact m3 all F k1 k2 k3 k4
      | succ i =>
        have := p3 i (by simpa using h)
        rw [List.take_succ_cons, Kind.carsN, m2]
        exact this

/-- The bytes of inputs. -/
def inB' (y : In) : List UInt8 := numL y.pu 4 ++ (numL y.pd 4 ++ (numL (m64 y.kind) 1 ++ (numL (m64 y.car) 1 ++ y.cars.flatMap carB)))
theorem inN_wr (t : List UInt8) (y : In) : Kind.inN .wr t y = t ++ inB' y := by
  simp [Kind.inN, carsN_wr, Kind.headL2, Kind.headL1, Kind.next, inB']
theorem inB_iff {lo hi n : Int} : inB lo hi n = true ↔ lo ≤ n ∧ n ≤ hi := by simp [inB]

/-- What is written is read back. -/
theorem in_read (t : List UInt8) (y : In) (u d C : Nat) (F : Int) (hF : F ≤ 256) (hC : C ≤ 256) (hy : saneIn y) (ok : Kind.inOk .wr t y u d C F) :
    Kind.inOk .rd (inB' y) (noIn C) u d C F ∧ Kind.inR .rd (inB' y) (noIn C) = y := by
  obtain ⟨pu, pd, kind, car, cs⟩ := y
  obtain ⟨hpu, hpd, hki, hca, hcs⟩ := hy
  obtain ⟨hc, ⟨a1, a2⟩, ⟨b1, b2⟩, hok⟩ := ok
  simp only at hpu hpd hki hca hcs hc
  have hlen : (noIn C).cars.length = C := by simp [noIn]
  replace b1 : inB 0 8 kind = true := b1
  replace b2 : inB 0 (lastC kind cs.length) car = true := b2
  replace a1 : setB pu u = true := a1
  replace a2 : setB pd d = true := a2
  have hk := inB_iff.1 b1
  have hcar := inB_iff.1 b2
  have hcarlt : car < 256 := by unfold lastC at hcar; split at hcar <;> omega
  have hfit : ∀ c ∈ cs, fitCar c ∧ (setB c.floors (u ||| d) = true ∧ inB 0 (F - 1) c.floor = true ∧ inB 0 2 c.door = true ∧ setB c.calls (u ||| d) = true) := by
    intro c hcm
    obtain ⟨i, hi, rfl⟩ := List.mem_iff_getElem.1 hcm
    obtain ⟨k1, _, k3, k4, k5⟩ := hok i hi
    replace k1 : setB cs[i].floors (u ||| d) = true := k1
    replace k3 : inB 0 (F - 1) cs[i].floor = true := k3
    replace k4 : inB 0 2 cs[i].door = true := k4
    replace k5 : setB cs[i].calls (u ||| d) = true := k5
    have hs := hcs cs[i] hcm
    have h3 := inB_iff.1 k3
    have h4 := inB_iff.1 k4
    exact ⟨⟨hs.1, hs.2.1, hs.2.2.1, ⟨h3.1, by omega⟩, ⟨h4.1, by omega⟩⟩, k1, k3, k4, k5⟩
  obtain ⟨p1, p2, p3⟩ := cars_read (u ||| d) F cs [] (fun c h => (hfit c h).1) (fun c h => (hfit c h).2)
  rw [List.append_nil] at p1 p2 p3
  have n1 : Kind.next .rd (inB' ⟨pu, pd, kind, car, cs⟩) 0 4 = numL pd 4 ++ (numL (m64 kind) 1 ++ (numL (m64 car) 1 ++ cs.flatMap carB)) := rd_next_app _ _ _ _
  have n2 : Kind.headL1 .rd (inB' ⟨pu, pd, kind, car, cs⟩) 0 0 = numL (m64 kind) 1 ++ (numL (m64 car) 1 ++ cs.flatMap carB) := by unfold Kind.headL1; rw [n1, rd_next_app]
  have n3 : Kind.next .rd (Kind.headL1 .rd (inB' ⟨pu, pd, kind, car, cs⟩) 0 0) (m64 0) 1 = numL (m64 car) 1 ++ cs.flatMap carB := by rw [n2, rd_next_app]
  have n4 : Kind.headL2 .rd (inB' ⟨pu, pd, kind, car, cs⟩) 0 0 0 0 = cs.flatMap carB := by unfold Kind.headL2; rw [n3, rd_next_app]
  have v1 : Kind.num .rd (inB' ⟨pu, pd, kind, car, cs⟩) 0 4 = pu := rd_num_app _ _ _ _ hpu
  have v2 : Kind.num .rd (Kind.next .rd (inB' ⟨pu, pd, kind, car, cs⟩) 0 4) 0 4 = pd := by rw [n1, rd_num_app _ _ _ _ hpd]
  have v3 : Kind.numI .rd (Kind.headL1 .rd (inB' ⟨pu, pd, kind, car, cs⟩) 0 0) 0 1 = kind := by rw [n2, rd_numI_app _ _ _ _ hk.1 (by omega) (by omega)]
  have v4 : Kind.numI .rd (Kind.next .rd (Kind.headL1 .rd (inB' ⟨pu, pd, kind, car, cs⟩) 0 0) (m64 0) 1) 0 1 = car := by rw [n3, rd_numI_app _ _ _ _ hcar.1 (by omega) (by omega)]
  subst hc
  refine ⟨⟨hlen, ⟨?_, ?_⟩, ⟨?_, ?_⟩, ?_⟩, ?_⟩
  · show setB (Kind.num .rd (inB' ⟨pu, pd, kind, car, cs⟩) 0 4) u = true
    rw [v1]; exact a1
  · show setB (Kind.num .rd (Kind.next .rd (inB' ⟨pu, pd, kind, car, cs⟩) 0 4) 0 4) d = true
    rw [v2]; exact a2
  · show inB 0 8 (Kind.numI .rd (Kind.headL1 .rd (inB' ⟨pu, pd, kind, car, cs⟩) 0 0) 0 1) = true
    rw [v3]; exact b1
  · show inB 0 (lastC (Kind.numI .rd (Kind.headL1 .rd (inB' ⟨pu, pd, kind, car, cs⟩) 0 0) 0 1) (noIn cs.length).cars.length) (Kind.numI .rd (Kind.next .rd (Kind.headL1 .rd (inB' ⟨pu, pd, kind, car, cs⟩) 0 0) (m64 0) 1) 0 1) = true
    rw [v3, v4, hlen]; exact b2
  · show ∀ i (h : i < (noIn cs.length).cars.length), Kind.carOk .rd (Kind.carsN .rd (Kind.headL2 .rd (inB' ⟨pu, pd, kind, car, cs⟩) 0 0 0 0) ((noIn cs.length).cars.take i)) (noIn cs.length).cars[i] (u ||| d) F
    rw [n4]; exact p3
  · have hm : (Kind.inR .rd (inB' ⟨pu, pd, kind, car, cs⟩) (noIn cs.length)).cars = cs := by
      have h := Kind.carsR_map .rd (noIn cs.length).cars (Kind.headL2 .rd (inB' ⟨pu, pd, kind, car, cs⟩) 0 0 0 0)
      refine Eq.trans h ?_
      rw [n4]; exact p1
    have hp : Kind.inR .rd (inB' ⟨pu, pd, kind, car, cs⟩) (noIn cs.length) = ⟨Kind.num .rd (inB' ⟨pu, pd, kind, car, cs⟩) 0 4, Kind.num .rd (Kind.next .rd (inB' ⟨pu, pd, kind, car, cs⟩) 0 4) 0 4, Kind.numI .rd (Kind.headL1 .rd (inB' ⟨pu, pd, kind, car, cs⟩) 0 0) 0 1, Kind.numI .rd (Kind.next .rd (Kind.headL1 .rd (inB' ⟨pu, pd, kind, car, cs⟩) 0 0) (m64 0) 1) 0 1, (Kind.inR .rd (inB' ⟨pu, pd, kind, car, cs⟩) (noIn cs.length)).cars⟩ := rfl
    rw [hp, hm, v1, v2, v3, v4]

/-- The frame of valid inputs is read, and gives them. -/
theorem frame_read {x : BldD} {y : In} (hy : saneIn y) (ok : inOk x y) : openOkIn x ⟨(inText x y).toArray⟩ ∧ readOkIn x ⟨(inText x y).toArray⟩ ∧ inOf x ⟨(inText x y).toArray⟩ = y := by
  obtain ⟨hv, ok⟩ := ok
  have hF := fine_of hv
  have hb : bl ⟨(inText x y).toArray⟩ = sealL (headL 165 x.cars.length ++ inB' y) := by
    show inText x y = _
    unfold inText; rw [inN_wr]
  have hl : (inB' y).length = 10 + 19 * x.cars.length := by
    have h := inN_length (headL 165 x.cars.length) y
    rw [inN_wr, List.length_append] at h
    have h2 : (headL 165 x.cars.length).length = 2 := rfl
    rw [h2, ok.1] at h
    omega
  have hbody : bodyL ⟨(inText x y).toArray⟩ = inB' y := by
    unfold bodyL
    rw [hb, openS_seal, List.drop_left' (show (headL 165 x.cars.length).length = 2 from rfl)]
  obtain ⟨k1, k2⟩ := in_read (headL 165 x.cars.length) y (hallUp x) (hallDown x) x.cars.length x.floors (by have := hF.floors; omega) (by have := hF.cars; omega) hy ok
  refine ⟨⟨hv, ?_, ?_, ?_⟩, ?_, ?_⟩
  · have : (⟨(inText x y).toArray⟩ : ByteArray).size = (bl ⟨(inText x y).toArray⟩).length := (bl_len _).symm
    rw [this, hb, sealL_length, List.length_append, hl]
    have h2 : (headL 165 x.cars.length).length = 2 := rfl
    rw [h2]
    omega
  · rw [hb]
    unfold sealL
    rw [List.append_assoc, List.take_left' (show (headL 165 x.cars.length).length = 2 from rfl)]
  · rw [hb, openOk_seal]
  · unfold readOkIn; rw [hbody]; exact k1
  · unfold inOf; rw [hbody]; exact k2
end
end Go.Proofs.Ythbfpdkgbkpmiaa
