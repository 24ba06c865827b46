/- What is written is read back. Plain mathematics. No statement of the seat is proved here. -/
import Derived.Test.YtapkjknpoafhjaaReadBack
import Derived.Test.YtapkjknpoafhjaaCrcSane
namespace Go.Proofs.Ytapkjknpoafhjaa
open Go.RowKit Frm

theorem rd_num_app (n m size : Nat) (r : List UInt8) (hn : n < 256 ^ size) : Kind.num .rd (numL n size ++ r) m size = n := by
  show valL ((numL n size ++ r).take size) = n
  rw [List.take_left' (numL_length size n), valL_numL, Nat.mod_eq_of_lt hn]
theorem rd_next_app (n m size : Nat) (r : List UInt8) : Kind.next .rd (numL n size ++ r) m size = r := by
  show (numL n size ++ r).drop size = r
  rw [List.drop_left' (numL_length size n)]
theorem rd_numI_app (v n : Int) (size : Nat) (r : List UInt8) (h0 : 0 ≤ v) (hv : v < 256 ^ size) (h2 : size ≤ 2) : Kind.numI .rd (numL (m64 v) size ++ r) n size = v := by
  have h3 : (256 : Nat) ^ size ≤ 256 ^ 2 := Nat.pow_le_pow_right (by omega) h2
  have h4 : ((256 ^ size : Nat) : Int) = 256 ^ size := by
    have h5 : size = 0 ∨ size = 1 ∨ size = 2 := by omega
    rcases h5 with rfl | rfl | rfl <;> rfl
  have hm : m64 v = v.toNat := m64_id h0 (by omega)
  rw [rd_numI, rd_num_app _ _ _ _ (by omega), hm]
  omega

/-- The bytes of a car. -/
def carB (c : CarIn) : List UInt8 := numL c.floors 4 ++ (numL (flg c.flags) 1 ++ (numL (m64 c.floor) 1 ++ (numL (m64 c.door) 1 ++ (numL c.calls 4 ++ numL c.load 8))))
theorem carB_length (c : CarIn) : (carB c).length = 19 := by simp [carB, numL_length]
theorem carN_wr (t : List UInt8) (c : CarIn) : Kind.carN .wr t c = t ++ carB c := by
  simp [Kind.carN, Kind.carL5, Kind.carL4, Kind.carL3, Kind.carL2, Kind.next, carB]
/-- A car that fits its bytes. -/
def fitCar (c : CarIn) : Prop := c.floors < 4294967296 ∧ c.calls < 4294967296 ∧ c.load < 18446744073709551616 ∧ (0 ≤ c.floor ∧ c.floor < 256) ∧ (0 ≤ c.door ∧ c.door < 256)
theorem car_read (c c0 : CarIn) (r : List UInt8) (h : fitCar c) : Kind.carR .rd (carB c ++ r) c0 = c ∧ Kind.carN .rd (carB c ++ r) c0 = r ∧
    ∀ all F, setB c.floors all = true → inB 0 (F - 1) c.floor = true → inB 0 2 c.door = true → setB c.calls all = true → Kind.carOk .rd (carB c ++ r) c0 all F := by
  obtain ⟨h1, h2, h3, ⟨h4, h4'⟩, h5, h5'⟩ := h
  have hq : flg c.flags < 64 := flg_lt c.flags
  have e0 : carB c ++ r = numL c.floors 4 ++ (numL (flg c.flags) 1 ++ (numL (m64 c.floor) 1 ++ (numL (m64 c.door) 1 ++ (numL c.calls 4 ++ (numL c.load 8 ++ r))))) := by simp [carB]
  have n1 : Kind.next .rd (carB c ++ r) c0.floors 4 = numL (flg c.flags) 1 ++ (numL (m64 c.floor) 1 ++ (numL (m64 c.door) 1 ++ (numL c.calls 4 ++ (numL c.load 8 ++ r)))) := by rw [e0, rd_next_app]
  have n2 : Kind.carL2 .rd (carB c ++ r) c0 = numL (m64 c.floor) 1 ++ (numL (m64 c.door) 1 ++ (numL c.calls 4 ++ (numL c.load 8 ++ r))) := by unfold Kind.carL2; rw [n1, rd_next_app]
  have n3 : Kind.carL3 .rd (carB c ++ r) c0 = numL (m64 c.door) 1 ++ (numL c.calls 4 ++ (numL c.load 8 ++ r)) := by unfold Kind.carL3; rw [n2, rd_next_app]
  have n4 : Kind.carL4 .rd (carB c ++ r) c0 = numL c.calls 4 ++ (numL c.load 8 ++ r) := by unfold Kind.carL4; rw [n3, rd_next_app]
  have n5 : Kind.carL5 .rd (carB c ++ r) c0 = numL c.load 8 ++ r := by unfold Kind.carL5; rw [n4, rd_next_app]
  have n6 : Kind.carN .rd (carB c ++ r) c0 = r := by unfold Kind.carN; rw [n5, rd_next_app]
  have v1 : Kind.num .rd (carB c ++ r) c0.floors 4 = c.floors := by rw [e0, rd_num_app _ _ _ _ h1]
  have vq : Kind.carQ .rd (carB c ++ r) c0 = flg c.flags := by unfold Kind.carQ; rw [n1, rd_num_app _ _ _ _ (by omega)]
  have v3 : Kind.numI .rd (Kind.carL2 .rd (carB c ++ r) c0) c0.floor 1 = c.floor := by rw [n2, rd_numI_app _ _ _ _ h4 (by omega) (by omega)]
  have v4 : Kind.numI .rd (Kind.carL3 .rd (carB c ++ r) c0) c0.door 1 = c.door := by rw [n3, rd_numI_app _ _ _ _ h5 (by omega) (by omega)]
  have v5 : Kind.num .rd (Kind.carL4 .rd (carB c ++ r) c0) c0.calls 4 = c.calls := by rw [n4, rd_num_app _ _ _ _ h2]
  have v6 : Kind.num .rd (Kind.carL5 .rd (carB c ++ r) c0) c0.load 8 = c.load := by rw [n5, rd_num_app _ _ _ _ h3]
  refine ⟨?_, n6, fun all F k1 k2 k3 k4 => ⟨by rw [v1]; exact k1, by rw [vq]; exact hq, by rw [v3]; exact k2, by rw [v4]; exact k3, by rw [v5]; exact k4⟩⟩
  obtain ⟨f, up, down, opened, closed, floor, level, door, block, calls, load⟩ := c
  simp only [Kind.carR, Kind.car5, Kind.car4, Kind.car3, Kind.car2, Kind.car1]
  rw [vq, v1, v3, v4, v5, v6]
  simp only [flg_testBit, CarIn.flags]
  rfl

theorem carsN_wr : ∀ (cs : List CarIn) (t : List UInt8), Kind.carsN .wr t cs = t ++ cs.flatMap carB
  | [], t => by simp [Kind.carsN]
  | c :: cs, t => by rw [Kind.carsN, carsN_wr cs, carN_wr, List.flatMap_cons, List.append_assoc]
theorem cars_read (all : Nat) (F : Int) : ∀ (cs : List CarIn) (r : List UInt8), (∀ c ∈ cs, fitCar c) →
    (∀ c ∈ cs, setB c.floors all = true ∧ inB 0 (F - 1) c.floor = true ∧ inB 0 2 c.door = true ∧ setB c.calls all = true) →
    Kind.carsR .rd (cs.flatMap carB ++ r) (List.replicate cs.length default) = cs ∧ Kind.carsN .rd (cs.flatMap carB ++ r) (List.replicate cs.length default) = r ∧
      ∀ i (h : i < (List.replicate cs.length (default : CarIn)).length), Kind.carOk .rd (Kind.carsN .rd (cs.flatMap carB ++ r) ((List.replicate cs.length default).take i)) (List.replicate cs.length default)[i] all F
  | [], r, _, _ => ⟨rfl, rfl, fun i h => absurd h (by simp)⟩
  | c :: cs, r, hf, hk => by
    obtain ⟨m1, m2, m3⟩ := car_read c default (cs.flatMap carB ++ r) (hf c (by simp))
    obtain ⟨p1, p2, p3⟩ := cars_read all F cs r (fun c hc => hf c (by simp [hc])) (fun c hc => hk c (by simp [hc]))
    have e : (c :: cs).flatMap carB ++ r = carB c ++ (cs.flatMap carB ++ r) := by rw [List.flatMap_cons, List.append_assoc]
    have er : List.replicate (c :: cs).length (default : CarIn) = default :: List.replicate cs.length default := by rw [List.length_cons, List.replicate_succ]
    rw [e]
    simp only [er]
    refine ⟨?_, ?_, fun i h => ?_⟩
    · rw [Kind.carsR, m1, m2, p1]
    · rw [Kind.carsN, m2, p2]
    · cases i with
      | zero => obtain ⟨k1, k2, k3, k4⟩ := hk c (by simp); exact m3 all F k1 k2 k3 k4
      | succ i =>
        have := p3 i (by simpa using h)
        rw [List.take_succ_cons, Kind.carsN, m2]
        exact this

/-- The bytes of inputs. -/
def inB' (y : In) : List UInt8 := numL y.pu 4 ++ (numL y.pd 4 ++ (numL (m64 y.kind) 1 ++ (numL (m64 y.car) 1 ++ y.cars.flatMap carB)))
theorem inN_wr (t : List UInt8) (y : In) : Kind.inN .wr t y = t ++ inB' y := by
  simp [Kind.inN, carsN_wr, Kind.headL2, Kind.headL1, Kind.next, inB']
theorem inB_iff {lo hi n : Int} : inB lo hi n = true ↔ lo ≤ n ∧ n ≤ hi := by simp [inB]

/-- What is written is read back. -/
theorem in_read (t : List UInt8) (y : In) (u d C : Nat) (F : Int) (hF : F ≤ 256) (hC : C ≤ 256) (hy : saneIn y) (ok : Kind.inOk .wr t y u d C F) :
    Kind.inOk .rd (inB' y) (noIn C) u d C F ∧ Kind.inR .rd (inB' y) (noIn C) = y := by
  obtain ⟨pu, pd, kind, car, cs⟩ := y
  obtain ⟨hpu, hpd, hki, hca, hcs⟩ := hy
  obtain ⟨hc, ⟨a1, a2⟩, ⟨b1, b2⟩, hok⟩ := ok
  simp only at hpu hpd hki hca hcs hc
  have hlen : (noIn C).cars.length = C := by simp [noIn]
  replace b1 : inB 0 8 kind = true := b1
  replace b2 : inB 0 (lastC kind cs.length) car = true := b2
  replace a1 : setB pu u = true := a1
  replace a2 : setB pd d = true := a2
  have hk := inB_iff.1 b1
  have hcar := inB_iff.1 b2
  have hcarlt : car < 256 := by unfold lastC at hcar; split at hcar <;> omega
  have hfit : ∀ c ∈ cs, fitCar c ∧ (setB c.floors (u ||| d) = true ∧ inB 0 (F - 1) c.floor = true ∧ inB 0 2 c.door = true ∧ setB c.calls (u ||| d) = true) := by
    intro c hcm
    obtain ⟨i, hi, rfl⟩ := List.mem_iff_getElem.1 hcm
    obtain ⟨k1, _, k3, k4, k5⟩ := hok i hi
    replace k1 : setB cs[i].floors (u ||| d) = true := k1
    replace k3 : inB 0 (F - 1) cs[i].floor = true := k3
    replace k4 : inB 0 2 cs[i].door = true := k4
    replace k5 : setB cs[i].calls (u ||| d) = true := k5
    have hs := hcs cs[i] hcm
    have h3 := inB_iff.1 k3
    have h4 := inB_iff.1 k4
    exact ⟨⟨hs.1, hs.2.1, hs.2.2.1, ⟨h3.1, by omega⟩, ⟨h4.1, by omega⟩⟩, k1, k3, k4, k5⟩
  obtain ⟨p1, p2, p3⟩ := cars_read (u ||| d) F cs [] (fun c h => (hfit c h).1) (fun c h => (hfit c h).2)
  rw [List.append_nil] at p1 p2 p3
  have n1 : Kind.next .rd (inB' ⟨pu, pd, kind, car, cs⟩) 0 4 = numL pd 4 ++ (numL (m64 kind) 1 ++ (numL (m64 car) 1 ++ cs.flatMap carB)) := rd_next_app _ _ _ _
  have n2 : Kind.headL1 .rd (inB' ⟨pu, pd, kind, car, cs⟩) 0 0 = numL (m64 kind) 1 ++ (numL (m64 car) 1 ++ cs.flatMap carB) := by unfold Kind.headL1; rw [n1, rd_next_app]
  have n3 : Kind.next .rd (Kind.headL1 .rd (inB' ⟨pu, pd, kind, car, cs⟩) 0 0) (m64 0) 1 = numL (m64 car) 1 ++ cs.flatMap carB := by rw [n2, rd_next_app]
  have n4 : Kind.headL2 .rd (inB' ⟨pu, pd, kind, car, cs⟩) 0 0 0 0 = cs.flatMap carB := by unfold Kind.headL2; rw [n3, rd_next_app]
  have v1 : Kind.num .rd (inB' ⟨pu, pd, kind, car, cs⟩) 0 4 = pu := rd_num_app _ _ _ _ hpu
  have v2 : Kind.num .rd (Kind.next .rd (inB' ⟨pu, pd, kind, car, cs⟩) 0 4) 0 4 = pd := by rw [n1, rd_num_app _ _ _ _ hpd]
  have v3 : Kind.numI .rd (Kind.headL1 .rd (inB' ⟨pu, pd, kind, car, cs⟩) 0 0) 0 1 = kind := by rw [n2, rd_numI_app _ _ _ _ hk.1 (by omega) (by omega)]
  have v4 : Kind.numI .rd (Kind.next .rd (Kind.headL1 .rd (inB' ⟨pu, pd, kind, car, cs⟩) 0 0) (m64 0) 1) 0 1 = car := by rw [n3, rd_numI_app _ _ _ _ hcar.1 (by omega) (by omega)]
  subst hc
  refine ⟨⟨hlen, ⟨?_, ?_⟩, ⟨?_, ?_⟩, ?_⟩, ?_⟩
  · show setB (Kind.num .rd (inB' ⟨pu, pd, kind, car, cs⟩) 0 4) u = true
    rw [v1]; exact a1
  · show setB (Kind.num .rd (Kind.next .rd (inB' ⟨pu, pd, kind, car, cs⟩) 0 4) 0 4) d = true
    rw [v2]; exact a2
  · show inB 0 8 (Kind.numI .rd (Kind.headL1 .rd (inB' ⟨pu, pd, kind, car, cs⟩) 0 0) 0 1) = true
    rw [v3]; exact b1
  · show inB 0 (lastC (Kind.numI .rd (Kind.headL1 .rd (inB' ⟨pu, pd, kind, car, cs⟩) 0 0) 0 1) (noIn cs.length).cars.length) (Kind.numI .rd (Kind.next .rd (Kind.headL1 .rd (inB' ⟨pu, pd, kind, car, cs⟩) 0 0) (m64 0) 1) 0 1) = true
    rw [v3, v4, hlen]; exact b2
  · show ∀ i (h : i < (noIn cs.length).cars.length), Kind.carOk .rd (Kind.carsN .rd (Kind.headL2 .rd (inB' ⟨pu, pd, kind, car, cs⟩) 0 0 0 0) ((noIn cs.length).cars.take i)) (noIn cs.length).cars[i] (u ||| d) F
    rw [n4]; exact p3
  · have hm : (Kind.inR .rd (inB' ⟨pu, pd, kind, car, cs⟩) (noIn cs.length)).cars = cs := by
      have h := Kind.carsR_map .rd (noIn cs.length).cars (Kind.headL2 .rd (inB' ⟨pu, pd, kind, car, cs⟩) 0 0 0 0)
      refine Eq.trans h ?_
      rw [n4]; exact p1
    have hp : Kind.inR .rd (inB' ⟨pu, pd, kind, car, cs⟩) (noIn cs.length) = ⟨Kind.num .rd (inB' ⟨pu, pd, kind, car, cs⟩) 0 4, Kind.num .rd (Kind.next .rd (inB' ⟨pu, pd, kind, car, cs⟩) 0 4) 0 4, Kind.numI .rd (Kind.headL1 .rd (inB' ⟨pu, pd, kind, car, cs⟩) 0 0) 0 1, Kind.numI .rd (Kind.next .rd (Kind.headL1 .rd (inB' ⟨pu, pd, kind, car, cs⟩) 0 0) (m64 0) 1) 0 1, (Kind.inR .rd (inB' ⟨pu, pd, kind, car, cs⟩) (noIn cs.length)).cars⟩ := rfl
    rw [hp, hm, v1, v2, v3, v4]

/-- The frame of valid inputs is read, and gives them. -/
theorem frame_read {x : BldD} {y : In} (hy : saneIn y) (ok : inOk x y) : openOkIn x ⟨(inText x y).toArray⟩ ∧ readOkIn x ⟨(inText x y).toArray⟩ ∧ inOf x ⟨(inText x y).toArray⟩ = y := by
  obtain ⟨hv, ok⟩ := ok
  have hF := fine_of hv
  have hb : bl ⟨(inText x y).toArray⟩ = sealL (headL 165 x.cars.length ++ inB' y) := by
    show inText x y = _
    unfold inText; rw [inN_wr]
  have hl : (inB' y).length = 10 + 19 * x.cars.length := by
    have h := inN_length (headL 165 x.cars.length) y
    rw [inN_wr, List.length_append] at h
    have h2 : (headL 165 x.cars.length).length = 2 := rfl
    rw [h2, ok.1] at h
    omega
  have hbody : bodyL ⟨(inText x y).toArray⟩ = inB' y := by
    unfold bodyL
    rw [hb, openS_seal, List.drop_left' (show (headL 165 x.cars.length).length = 2 from rfl)]
  obtain ⟨k1, k2⟩ := in_read (headL 165 x.cars.length) y (hallUp x) (hallDown x) x.cars.length x.floors (by have := hF.floors; omega) (by have := hF.cars; omega) hy ok
  refine ⟨⟨hv, ?_, ?_, ?_⟩, ?_, ?_⟩
  · have : (⟨(inText x y).toArray⟩ : ByteArray).size = (bl ⟨(inText x y).toArray⟩).length := (bl_len _).symm
    rw [this, hb, sealL_length, List.length_append, hl]
    have h2 : (headL 165 x.cars.length).length = 2 := rfl
    rw [h2]
    omega
  · rw [hb]
    unfold sealL
    rw [List.append_assoc, List.take_left' (show (headL 165 x.cars.length).length = 2 from rfl)]
  · rw [hb, openOk_seal]
  · unfold readOkIn; rw [hbody]; exact k1
  · unfold inOf; rw [hbody]; exact k2
end Go.Proofs.Ytapkjknpoafhjaa
