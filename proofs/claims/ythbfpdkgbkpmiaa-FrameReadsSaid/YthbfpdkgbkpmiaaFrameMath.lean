/- Plain mathematics of frames: numbers as bytes, the lowest one first; inputs and outputs as bytes, and back. No statement of a seat is proved here. -/
namespace Go.Proofs.Ythbfpdkgbkpmiaa.Frm

def numL : Nat → Nat → List UInt8
  | _, 0 => []
  | n, k + 1 => UInt8.ofNat (n % 256) :: numL (n / 256) k
def valL : List UInt8 → Nat
  | [] => 0
  | b :: l => b.toNat + 256 * valL l
theorem numL_length : ∀ (k n : Nat), (numL n k).length = k
  | 0, _ => rfl
  | k + 1, n => by simp [numL, numL_length k]
theorem valL_lt : ∀ (l : List UInt8), valL l < 256 ^ l.length
  | [] => by simp [valL]
  | b :: l => by
    have h1 := valL_lt l
    have h2 := b.toNat_lt
    rw [valL, List.length_cons, Nat.pow_succ]
    omega
theorem valL_numL : ∀ (k n : Nat), valL (numL n k) = n % 256 ^ k
  | 0, n => by simp [numL, valL, Nat.mod_one]
  | k + 1, n => by
    rw [numL, valL, valL_numL k, Nat.pow_succ, Nat.mul_comm (256 ^ k) 256, Nat.mod_mul]
    have : (UInt8.ofNat (n % 256)).toNat = n % 256 := by simp
    rw [this]
theorem numL_valL : ∀ (l : List UInt8), numL (valL l) l.length = l
  | [] => rfl
  | b :: l => by
    have h2 := b.toNat_lt
    rw [valL, List.length_cons, numL, show (b.toNat + 256 * valL l) % 256 = b.toNat from by omega, show (b.toNat + 256 * valL l) / 256 = valL l from by omega, numL_valL l]
    simp

/-- A number of k bytes that stand behind others. -/
def val (s : List UInt8) (at_ k : Nat) : Nat := valL ((s.drop at_).take k)
theorem val_lt (s : List UInt8) (at_ k : Nat) : val s at_ k < 256 ^ k := by
  unfold val
  refine Nat.lt_of_lt_of_le (valL_lt _) (Nat.pow_le_pow_right (by omega) ?_)
  rw [List.length_take]; omega
theorem val_app {p q : List UInt8} {n k at_ : Nat} (hp : p.length = at_) (hn : n < 256 ^ k) : val (p ++ (numL n k ++ q)) at_ k = n := by
  unfold val
  rw [List.drop_left' hp, List.take_left' (numL_length k n), valL_numL, Nat.mod_eq_of_lt hn]

/-- Bits, the first one the lowest. -/
def flg : List Bool → Nat
  | [] => 0
  | b :: l => b.toNat + 2 * flg l
theorem flg_lt : ∀ l : List Bool, flg l < 2 ^ l.length
  | [] => by simp [flg]
  | b :: l => by
    have := flg_lt l
    rw [flg, List.length_cons, Nat.pow_succ]
    cases b <;> simp [Bool.toNat] <;> omega
/-- Bit k of a byte of s. -/
def bit (s : List UInt8) (at_ k : Nat) : Bool := (s.getD at_ 0).toNat.testBit k
theorem flg_testBit : ∀ (l : List Bool) (k : Nat), (flg l).testBit k = l.getD k false
  | [], k => by simp [flg]
  | b :: l, 0 => by
    rw [flg, Nat.testBit_zero]
    cases b <;> simp [Bool.toNat, Nat.mul_mod_right] <;> omega
  | b :: l, k + 1 => by
    have h : (b.toNat + 2 * flg l) / 2 = flg l := by cases b <;> simp [Bool.toNat] <;> omega
    rw [flg, Nat.testBit_succ, h, flg_testBit l k]
    rfl
theorem flg_bits : ∀ (k n : Nat), flg ((List.range k).map fun j => n.testBit j) = n % 2 ^ k
  | 0, n => by simp [flg, Nat.mod_one]
  | k + 1, n => by
    rw [List.range_succ_eq_map, List.map_cons, List.map_map, flg]
    have h : ((List.range k).map ((fun j => n.testBit j) ∘ Nat.succ)) = (List.range k).map fun j => (n / 2).testBit j := by
      apply List.map_congr_left
      intro j _
      show n.testBit (j + 1) = _
      rw [Nat.testBit_succ]
    rw [h, flg_bits k (n / 2), Nat.pow_succ, Nat.mul_comm (2 ^ k) 2, Nat.mod_mul, Nat.testBit_zero]
    rcases Nat.mod_two_eq_zero_or_one n with h0 | h0 <;> simp [h0, Bool.toNat]

/-- What a car tells. -/
structure CarIn where
  floors : Nat
  up : Bool
  down : Bool
  opened : Bool
  closed : Bool
  floor : Int
  level : Bool
  door : Int
  block : Bool
  calls : Nat
  load : Nat
structure In where
  pu : Nat
  pd : Nat
  kind : Int
  car : Int
  cars : List CarIn
instance : Inhabited CarIn := ⟨⟨0, false, false, false, false, 0, false, 0, false, 0, 0⟩⟩

def CarIn.flags (c : CarIn) : List Bool := [c.up, c.down, c.opened, c.closed, c.level, c.block]
/-- Its 19 bytes. -/
def carL (c : CarIn) : List UInt8 := numL c.floors 4 ++ (numL (flg c.flags) 1 ++ (numL c.floor.toNat 1 ++ (numL c.door.toNat 1 ++ (numL c.calls 4 ++ numL c.load 8))))
theorem carL_length (c : CarIn) : (carL c).length = 19 := by simp [carL, numL_length]
def inHead (C : Nat) (x : In) : List UInt8 := numL 0xA5 1 ++ (numL C 1 ++ (numL x.pu 4 ++ (numL x.pd 4 ++ (numL x.kind.toNat 1 ++ numL x.car.toNat 1))))
theorem inHead_length (C : Nat) (x : In) : (inHead C x).length = 12 := by simp [inHead, numL_length]
/-- The frame but for its sum. -/
def inL (C : Nat) (x : In) : List UInt8 := inHead C x ++ x.cars.flatMap carL
theorem flat_length {α : Type} {f : α → List UInt8} {k : Nat} (hf : ∀ a, (f a).length = k) : ∀ l : List α, (l.flatMap f).length = l.length * k
  | [] => by simp
  | a :: l => by rw [List.flatMap_cons, List.length_append, hf, flat_length hf l, List.length_cons]; rw [Nat.add_mul]; omega
/-- What bytes suggest. -/
def parseCar (s : List UInt8) (at_ : Nat) : CarIn :=
  ⟨val s at_ 4, bit s (at_ + 4) 0, bit s (at_ + 4) 1, bit s (at_ + 4) 2, bit s (at_ + 4) 3, (val s (at_ + 5) 1 : Nat), bit s (at_ + 4) 4, (val s (at_ + 6) 1 : Nat), bit s (at_ + 4) 5, val s (at_ + 7) 4, val s (at_ + 11) 8⟩
def parse (s : List UInt8) (C : Nat) : In := ⟨val s 2 4, val s 6 4, (val s 10 1 : Nat), (val s 11 1 : Nat), (List.range C).map fun i => parseCar s (12 + 19 * i)⟩

theorem bit_app {p q : List UInt8} {l : List Bool} {at_ k : Nat} (hp : p.length = at_) (hl : l.length ≤ 8) : bit (p ++ (numL (flg l) 1 ++ q)) at_ k = l.getD k false := by
  unfold bit
  have hf : flg l < 256 := Nat.lt_of_lt_of_le (flg_lt l) (Nat.pow_le_pow_right (n := 2) (by omega) hl)
  have hb : ((p ++ (numL (flg l) 1 ++ q)).getD at_ 0).toNat = flg l := by
    have : (p ++ (numL (flg l) 1 ++ q))[at_]? = some (UInt8.ofNat (flg l % 256)) := by
      rw [List.getElem?_append_right (by omega), hp, Nat.sub_self]; rfl
    rw [List.getD_eq_getElem?_getD, this]
    simp; omega
  rw [hb, flg_testBit]

/-- The fields are numbers of their sizes. -/
def CarIn.Fit (c : CarIn) : Prop := c.floors < 256 ^ 4 ∧ (0 ≤ c.floor ∧ c.floor < 256) ∧ (0 ≤ c.door ∧ c.door < 256) ∧ c.calls < 256 ^ 4 ∧ c.load < 256 ^ 8
def In.Fit (x : In) : Prop := x.pu < 256 ^ 4 ∧ x.pd < 256 ^ 4 ∧ (0 ≤ x.kind ∧ x.kind < 256) ∧ (0 ≤ x.car ∧ x.car < 256) ∧ ∀ c ∈ x.cars, c.Fit

theorem parseCar_app {p q : List UInt8} {c : CarIn} {at_ : Nat} (hp : p.length = at_) (hc : c.Fit) : parseCar (p ++ (carL c ++ q)) at_ = c := by
  obtain ⟨h1, ⟨h2, h3⟩, ⟨h4, h5⟩, h6, h7⟩ := hc
  have e0 : p ++ (carL c ++ q) = p ++ (numL c.floors 4 ++ (numL (flg c.flags) 1 ++ (numL c.floor.toNat 1 ++ (numL c.door.toNat 1 ++ (numL c.calls 4 ++ (numL c.load 8 ++ q)))))) := by simp [carL]
  have e4 : p ++ (carL c ++ q) = (p ++ numL c.floors 4) ++ (numL (flg c.flags) 1 ++ (numL c.floor.toNat 1 ++ (numL c.door.toNat 1 ++ (numL c.calls 4 ++ (numL c.load 8 ++ q))))) := by simp [carL]
  have e5 : p ++ (carL c ++ q) = (p ++ numL c.floors 4 ++ numL (flg c.flags) 1) ++ (numL c.floor.toNat 1 ++ (numL c.door.toNat 1 ++ (numL c.calls 4 ++ (numL c.load 8 ++ q)))) := by simp [carL]
  have e6 : p ++ (carL c ++ q) = (p ++ numL c.floors 4 ++ numL (flg c.flags) 1 ++ numL c.floor.toNat 1) ++ (numL c.door.toNat 1 ++ (numL c.calls 4 ++ (numL c.load 8 ++ q))) := by simp [carL]
  have e7 : p ++ (carL c ++ q) = (p ++ numL c.floors 4 ++ numL (flg c.flags) 1 ++ numL c.floor.toNat 1 ++ numL c.door.toNat 1) ++ (numL c.calls 4 ++ (numL c.load 8 ++ q)) := by simp [carL]
  have e8 : p ++ (carL c ++ q) = (p ++ numL c.floors 4 ++ numL (flg c.flags) 1 ++ numL c.floor.toNat 1 ++ numL c.door.toNat 1 ++ numL c.calls 4) ++ (numL c.load 8 ++ q) := by simp [carL]
  have hb : ∀ k, bit (p ++ (carL c ++ q)) (at_ + 4) k = c.flags.getD k false := fun k => by rw [e4]; exact bit_app (by simp [numL_length, hp]) (by simp [CarIn.flags])
  unfold parseCar
  rw [hb, hb, hb, hb, hb, hb]
  rw [show val (p ++ (carL c ++ q)) at_ 4 = c.floors from by rw [e0]; exact val_app hp h1,
    show val (p ++ (carL c ++ q)) (at_ + 5) 1 = c.floor.toNat from by rw [e5]; exact val_app (by simp [numL_length, hp]) (by omega),
    show val (p ++ (carL c ++ q)) (at_ + 6) 1 = c.door.toNat from by rw [e6]; exact val_app (by simp [numL_length, hp]) (by omega),
    show val (p ++ (carL c ++ q)) (at_ + 7) 4 = c.calls from by rw [e7]; exact val_app (by simp [numL_length, hp]) h6,
    show val (p ++ (carL c ++ q)) (at_ + 11) 8 = c.load from by rw [e8]; exact val_app (by simp [numL_length, hp]) h7,
    Int.toNat_of_nonneg h2, Int.toNat_of_nonneg h4]
  rfl

/-- What a frame was made of is read back. -/
theorem parse_inL {x : In} (hx : x.Fit) (q : List UInt8) : parse (inL x.cars.length x ++ q) x.cars.length = x := by
  obtain ⟨h1, h2, ⟨h3, h4⟩, ⟨h5, h6⟩, h7⟩ := hx
  generalize hC : x.cars.length = C
  have hcar : ∀ i (hi : i < x.cars.length), parseCar (inL C x ++ q) (12 + 19 * i) = x.cars[i] := by
    intro i hi
    have es : x.cars = x.cars.take i ++ x.cars[i] :: x.cars.drop (i + 1) := by simp
    have e : inL C x ++ q = (inHead C x ++ (x.cars.take i).flatMap carL) ++ (carL x.cars[i] ++ ((x.cars.drop (i + 1)).flatMap carL ++ q)) := by
      rw [inL]
      conv => lhs; rw [es, List.flatMap_append, List.flatMap_cons]
      simp only [List.append_assoc]
    rw [e]
    refine parseCar_app ?_ (h7 _ (List.getElem_mem hi))
    rw [List.length_append, inHead_length, flat_length carL_length, List.length_take]
    omega
  have r1 : val (inL C x ++ q) 2 4 = x.pu := by
    have e : inL C x ++ q = (numL 0xA5 1 ++ numL C 1) ++ (numL x.pu 4 ++ (numL x.pd 4 ++ (numL x.kind.toNat 1 ++ (numL x.car.toNat 1 ++ (x.cars.flatMap carL ++ q))))) := by simp [inL, inHead]
    rw [e]; exact val_app (by simp [numL_length]) h1
  have r2 : val (inL C x ++ q) 6 4 = x.pd := by
    have e : inL C x ++ q = (numL 0xA5 1 ++ numL C 1 ++ numL x.pu 4) ++ (numL x.pd 4 ++ (numL x.kind.toNat 1 ++ (numL x.car.toNat 1 ++ (x.cars.flatMap carL ++ q)))) := by simp [inL, inHead]
    rw [e]; exact val_app (by simp [numL_length]) h2
  have r3 : val (inL C x ++ q) 10 1 = x.kind.toNat := by
    have e : inL C x ++ q = (numL 0xA5 1 ++ numL C 1 ++ numL x.pu 4 ++ numL x.pd 4) ++ (numL x.kind.toNat 1 ++ (numL x.car.toNat 1 ++ (x.cars.flatMap carL ++ q))) := by simp [inL, inHead]
    rw [e]; exact val_app (by simp [numL_length]) (by omega)
  have r4 : val (inL C x ++ q) 11 1 = x.car.toNat := by
    have e : inL C x ++ q = (numL 0xA5 1 ++ numL C 1 ++ numL x.pu 4 ++ numL x.pd 4 ++ numL x.kind.toNat 1) ++ (numL x.car.toNat 1 ++ (x.cars.flatMap carL ++ q)) := by simp [inL, inHead]
    rw [e]; exact val_app (by simp [numL_length]) (by omega)
  unfold parse
  rw [r1, r2, r3, r4, Int.toNat_of_nonneg h3, Int.toNat_of_nonneg h5]
  have hl : (List.range C).map (fun i => parseCar (inL C x ++ q) (12 + 19 * i)) = x.cars := by
    apply List.ext_getElem
    · simp [hC]
    · intro i h1 h2
      simp only [List.getElem_map, List.getElem_range]
      exact hcar i h2
  rw [hl]

theorem numL_one (b : UInt8) : numL b.toNat 1 = [b] := by
  have := numL_valL [b]
  simpa [valL] using this
theorem take_one (s : List UInt8) (at_ : Nat) (h : at_ < s.length) : (s.drop at_).take 1 = [s.getD at_ 0] := by
  rw [List.drop_eq_getElem_cons h, List.getD_eq_getElem?_getD, List.getElem?_eq_getElem h]; rfl
/-- What a car is told. -/
structure CarOut where
  iu : Nat
  id : Nat
  cutOut : Bool
  lu : Nat
  ld : Nat
  gong : Bool
  command : Int
  phase : Int
  flag : Bool
structure Out where
  lu : Nat
  ld : Nat
  su : Nat
  sd : Nat
  bad : Bool
  full : Bool
  status : Int
  cars : List CarOut
instance : Inhabited CarOut := ⟨⟨0, 0, false, 0, 0, false, 0, 0, false⟩⟩

def CarOut.flags (c : CarOut) : List Bool := [c.cutOut, c.gong, c.flag]
def carOutL (c : CarOut) : List UInt8 := numL c.iu 4 ++ (numL c.id 4 ++ (numL c.lu 4 ++ (numL c.ld 4 ++ (numL (flg c.flags) 1 ++ (numL c.command.toNat 1 ++ numL c.phase.toNat 1)))))
theorem carOutL_length (c : CarOut) : (carOutL c).length = 19 := by simp [carOutL, numL_length]
def outHead (C : Nat) (x : Out) : List UInt8 := numL 0x5A 1 ++ (numL C 1 ++ (numL x.lu 4 ++ (numL x.ld 4 ++ (numL x.su 4 ++ (numL x.sd 4 ++ (numL (flg [x.bad, x.full]) 1 ++ numL x.status.toNat 2))))))
theorem outHead_length (C : Nat) (x : Out) : (outHead C x).length = 21 := by simp [outHead, numL_length]
def outL (C : Nat) (x : Out) : List UInt8 := outHead C x ++ x.cars.flatMap carOutL
def parseCarOut (s : List UInt8) (at_ : Nat) : CarOut :=
  ⟨val s at_ 4, val s (at_ + 4) 4, bit s (at_ + 16) 0, val s (at_ + 8) 4, val s (at_ + 12) 4, bit s (at_ + 16) 1, (val s (at_ + 17) 1 : Nat), (val s (at_ + 18) 1 : Nat), bit s (at_ + 16) 2⟩
def parseOut (s : List UInt8) (C : Nat) : Out := ⟨val s 2 4, val s 6 4, val s 10 4, val s 14 4, bit s 18 0, bit s 18 1, (val s 19 2 : Nat), (List.range C).map fun i => parseCarOut s (21 + 19 * i)⟩
def CarOut.Fit (c : CarOut) : Prop := c.iu < 256 ^ 4 ∧ c.id < 256 ^ 4 ∧ c.lu < 256 ^ 4 ∧ c.ld < 256 ^ 4 ∧ (0 ≤ c.command ∧ c.command < 256) ∧ (0 ≤ c.phase ∧ c.phase < 256)
def Out.Fit (x : Out) : Prop := x.lu < 256 ^ 4 ∧ x.ld < 256 ^ 4 ∧ x.su < 256 ^ 4 ∧ x.sd < 256 ^ 4 ∧ (0 ≤ x.status ∧ x.status < 65536) ∧ ∀ c ∈ x.cars, c.Fit

theorem parseCarOut_app {p q : List UInt8} {c : CarOut} {at_ : Nat} (hp : p.length = at_) (hc : c.Fit) : parseCarOut (p ++ (carOutL c ++ q)) at_ = c := by
  obtain ⟨h1, h2, h3, h4, ⟨h5, h6⟩, ⟨h7, h8⟩⟩ := hc
  have e0 : p ++ (carOutL c ++ q) = p ++ (numL c.iu 4 ++ (numL c.id 4 ++ (numL c.lu 4 ++ (numL c.ld 4 ++ (numL (flg c.flags) 1 ++ (numL c.command.toNat 1 ++ (numL c.phase.toNat 1 ++ q))))))) := by simp [carOutL]
  have e4 : p ++ (carOutL c ++ q) = (p ++ numL c.iu 4) ++ (numL c.id 4 ++ (numL c.lu 4 ++ (numL c.ld 4 ++ (numL (flg c.flags) 1 ++ (numL c.command.toNat 1 ++ (numL c.phase.toNat 1 ++ q)))))) := by simp [carOutL]
  have e8 : p ++ (carOutL c ++ q) = (p ++ numL c.iu 4 ++ numL c.id 4) ++ (numL c.lu 4 ++ (numL c.ld 4 ++ (numL (flg c.flags) 1 ++ (numL c.command.toNat 1 ++ (numL c.phase.toNat 1 ++ q))))) := by simp [carOutL]
  have e12 : p ++ (carOutL c ++ q) = (p ++ numL c.iu 4 ++ numL c.id 4 ++ numL c.lu 4) ++ (numL c.ld 4 ++ (numL (flg c.flags) 1 ++ (numL c.command.toNat 1 ++ (numL c.phase.toNat 1 ++ q)))) := by simp [carOutL]
  have e16 : p ++ (carOutL c ++ q) = (p ++ numL c.iu 4 ++ numL c.id 4 ++ numL c.lu 4 ++ numL c.ld 4) ++ (numL (flg c.flags) 1 ++ (numL c.command.toNat 1 ++ (numL c.phase.toNat 1 ++ q))) := by simp [carOutL]
  have e17 : p ++ (carOutL c ++ q) = (p ++ numL c.iu 4 ++ numL c.id 4 ++ numL c.lu 4 ++ numL c.ld 4 ++ numL (flg c.flags) 1) ++ (numL c.command.toNat 1 ++ (numL c.phase.toNat 1 ++ q)) := by simp [carOutL]
  have e18 : p ++ (carOutL c ++ q) = (p ++ numL c.iu 4 ++ numL c.id 4 ++ numL c.lu 4 ++ numL c.ld 4 ++ numL (flg c.flags) 1 ++ numL c.command.toNat 1) ++ (numL c.phase.toNat 1 ++ q) := by simp [carOutL]
  have hb : ∀ k, bit (p ++ (carOutL c ++ q)) (at_ + 16) k = c.flags.getD k false := fun k => by rw [e16]; exact bit_app (by simp [numL_length, hp]) (by simp [CarOut.flags])
  unfold parseCarOut
  rw [hb, hb, hb]
  rw [show val (p ++ (carOutL c ++ q)) at_ 4 = c.iu from by rw [e0]; exact val_app hp h1,
    show val (p ++ (carOutL c ++ q)) (at_ + 4) 4 = c.id from by rw [e4]; exact val_app (by simp [numL_length, hp]) h2,
    show val (p ++ (carOutL c ++ q)) (at_ + 8) 4 = c.lu from by rw [e8]; exact val_app (by simp [numL_length, hp]) h3,
    show val (p ++ (carOutL c ++ q)) (at_ + 12) 4 = c.ld from by rw [e12]; exact val_app (by simp [numL_length, hp]) h4,
    show val (p ++ (carOutL c ++ q)) (at_ + 17) 1 = c.command.toNat from by rw [e17]; exact val_app (by simp [numL_length, hp]) (by omega),
    show val (p ++ (carOutL c ++ q)) (at_ + 18) 1 = c.phase.toNat from by rw [e18]; exact val_app (by simp [numL_length, hp]) (by omega),
    Int.toNat_of_nonneg h5, Int.toNat_of_nonneg h7]
  rfl

theorem parse_outL {x : Out} (hx : x.Fit) (q : List UInt8) : parseOut (outL x.cars.length x ++ q) x.cars.length = x := by
  obtain ⟨h1, h2, h3, h4, ⟨h5, h6⟩, h7⟩ := hx
  generalize hC : x.cars.length = C
  have hcar : ∀ i (hi : i < x.cars.length), parseCarOut (outL C x ++ q) (21 + 19 * i) = x.cars[i] := by
    intro i hi
    have es : x.cars = x.cars.take i ++ x.cars[i] :: x.cars.drop (i + 1) := by simp
    have e : outL C x ++ q = (outHead C x ++ (x.cars.take i).flatMap carOutL) ++ (carOutL x.cars[i] ++ ((x.cars.drop (i + 1)).flatMap carOutL ++ q)) := by
      rw [outL]
      conv => lhs; rw [es, List.flatMap_append, List.flatMap_cons]
      simp only [List.append_assoc]
    rw [e]
    refine parseCarOut_app ?_ (h7 _ (List.getElem_mem hi))
    rw [List.length_append, outHead_length, flat_length carOutL_length, List.length_take]
    omega
  have r1 : val (outL C x ++ q) 2 4 = x.lu := by
    have e : outL C x ++ q = (numL 0x5A 1 ++ numL C 1) ++ (numL x.lu 4 ++ (numL x.ld 4 ++ (numL x.su 4 ++ (numL x.sd 4 ++ (numL (flg [x.bad, x.full]) 1 ++ (numL x.status.toNat 2 ++ (x.cars.flatMap carOutL ++ q))))))) := by simp [outL, outHead]
    rw [e]; exact val_app (by simp [numL_length]) h1
  have r2 : val (outL C x ++ q) 6 4 = x.ld := by
    have e : outL C x ++ q = (numL 0x5A 1 ++ numL C 1 ++ numL x.lu 4) ++ (numL x.ld 4 ++ (numL x.su 4 ++ (numL x.sd 4 ++ (numL (flg [x.bad, x.full]) 1 ++ (numL x.status.toNat 2 ++ (x.cars.flatMap carOutL ++ q)))))) := by simp [outL, outHead]
    rw [e]; exact val_app (by simp [numL_length]) h2
  have r3 : val (outL C x ++ q) 10 4 = x.su := by
    have e : outL C x ++ q = (numL 0x5A 1 ++ numL C 1 ++ numL x.lu 4 ++ numL x.ld 4) ++ (numL x.su 4 ++ (numL x.sd 4 ++ (numL (flg [x.bad, x.full]) 1 ++ (numL x.status.toNat 2 ++ (x.cars.flatMap carOutL ++ q))))) := by simp [outL, outHead]
    rw [e]; exact val_app (by simp [numL_length]) h3
  have r4 : val (outL C x ++ q) 14 4 = x.sd := by
    have e : outL C x ++ q = (numL 0x5A 1 ++ numL C 1 ++ numL x.lu 4 ++ numL x.ld 4 ++ numL x.su 4) ++ (numL x.sd 4 ++ (numL (flg [x.bad, x.full]) 1 ++ (numL x.status.toNat 2 ++ (x.cars.flatMap carOutL ++ q)))) := by simp [outL, outHead]
    rw [e]; exact val_app (by simp [numL_length]) h4
  have rb : ∀ k, bit (outL C x ++ q) 18 k = [x.bad, x.full].getD k false := fun k => by
    have e : outL C x ++ q = (numL 0x5A 1 ++ numL C 1 ++ numL x.lu 4 ++ numL x.ld 4 ++ numL x.su 4 ++ numL x.sd 4) ++ (numL (flg [x.bad, x.full]) 1 ++ (numL x.status.toNat 2 ++ (x.cars.flatMap carOutL ++ q))) := by simp [outL, outHead]
    rw [e]; exact bit_app (by simp [numL_length]) (by simp)
  have r5 : val (outL C x ++ q) 19 2 = x.status.toNat := by
    have e : outL C x ++ q = (numL 0x5A 1 ++ numL C 1 ++ numL x.lu 4 ++ numL x.ld 4 ++ numL x.su 4 ++ numL x.sd 4 ++ numL (flg [x.bad, x.full]) 1) ++ (numL x.status.toNat 2 ++ (x.cars.flatMap carOutL ++ q)) := by simp [outL, outHead]
    rw [e]; exact val_app (by simp [numL_length]) (by omega)
  unfold parseOut
  rw [r1, r2, r3, r4, rb, rb, r5, Int.toNat_of_nonneg h5]
  have hl : (List.range C).map (fun i => parseCarOut (outL C x ++ q) (21 + 19 * i)) = x.cars := by
    apply List.ext_getElem
    · simp [hC]
    · intro i h1 h2
      simp only [List.getElem_map, List.getElem_range]
      exact hcar i h2
  rw [hl]
  rfl
end Go.Proofs.Ythbfpdkgbkpmiaa.Frm
