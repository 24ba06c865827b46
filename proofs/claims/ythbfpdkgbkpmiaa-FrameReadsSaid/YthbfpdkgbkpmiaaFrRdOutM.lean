/- What is read of an output frame makes that frame; what the reference reads out of a text. Plain mathematics. No statement of the seat is proved here. -/
import Derived.Test.YthbfpdkgbkpmiaaG30
import Derived.Test.YthbfpdkgbkpmiaaG42
import Derived.Test.YthbfpdkgbkpmiaaRdOutTop
import Derived.Test.YthbfpdkgbkpmiaaG45
namespace Go.Proofs.Ythbfpdkgbkpmiaa
open Go.RowKit Frm

theorem flg3 (q : Nat) (h : q < 8) : flg [q.testBit 0, q.testBit 1, q.testBit 2] = q := by
  have := flg_bits 3 q
  rw [Nat.mod_eq_of_lt h] at this
  exact this
theorem flg2 (q : Nat) (h : q < 4) : flg [q.testBit 0, q.testBit 1] = q := by
  have := flg_bits 2 q
  rw [Nat.mod_eq_of_lt h] at this
  exact this
theorem co_back (t l : List UInt8) (c : CarOut) (u d : Nat) (hl : 19 ≤ l.length) (ok : Kind.coOk .rd l c u d) :
    Kind.coOk .wr t (Kind.coR .rd l c) u d ∧ Kind.coN .wr t (Kind.coR .rd l c) ++ Kind.coN .rd l c = t ++ l ∧ saneCo (Kind.coR .rd l c) ∧ (Kind.coN .rd l c).length = l.length - 19 := by
  obtain ⟨h1, h2, h3, h4, h5⟩ := ok
  have e1 : (Kind.next .rd l c.iu 4).length = l.length - 4 := by simp [Kind.next]
  have e2 : (Kind.coL1 .rd l c).length = l.length - 8 := by simp [Kind.coL1, Kind.next] <;> omega
  have e3 : (Kind.next .rd (Kind.coL1 .rd l c) c.lu 4).length = l.length - 12 := by simp [Kind.coL1, Kind.next] <;> omega
  have e4 : (Kind.coL2 .rd l c).length = l.length - 16 := by simp [Kind.coL2, Kind.coL1, Kind.next] <;> omega
  have e5 : (Kind.coL3 .rd l c).length = l.length - 17 := by simp [Kind.coL3, Kind.coL2, Kind.coL1, Kind.next] <;> omega
  have e6 : (Kind.coL4 .rd l c).length = l.length - 18 := by simp [Kind.coL4, Kind.coL3, Kind.coL2, Kind.coL1, Kind.next] <;> omega
  have e7 : (Kind.coN .rd l c).length = l.length - 19 := by simp [Kind.coN, Kind.coL4, Kind.coL3, Kind.coL2, Kind.coL1, Kind.next] <;> omega
  have hq : flg (Kind.coR .rd l c).flags = Kind.coQ .rd l c := flg3 _ h3
  have s1 := rw_step t l c.iu 4 (by omega)
  have s2 := rw_step (Kind.next .wr t (Kind.num .rd l c.iu 4) 4) (Kind.next .rd l c.iu 4) c.id 4 (by omega)
  have s3 := rw_step (Kind.coL1 .wr t (Kind.coR .rd l c)) (Kind.coL1 .rd l c) c.lu 4 (by omega)
  have s4 := rw_step (Kind.next .wr (Kind.coL1 .wr t (Kind.coR .rd l c)) (Kind.num .rd (Kind.coL1 .rd l c) c.lu 4) 4) (Kind.next .rd (Kind.coL1 .rd l c) c.lu 4) c.ld 4 (by omega)
  have s5 := rw_step (Kind.coL2 .wr t (Kind.coR .rd l c)) (Kind.coL2 .rd l c) (flg c.flags) 1 (by omega)
  have s6 := rw_step (Kind.coL3 .wr t (Kind.coR .rd l c)) (Kind.coL3 .rd l c) (m64 c.cmd) 1 (by omega)
  have s7 := rw_step (Kind.coL4 .wr t (Kind.coR .rd l c)) (Kind.coL4 .rd l c) (m64 c.ph) 1 (by omega)
  have w1 : Kind.coL1 .wr t (Kind.coR .rd l c) ++ Kind.coL1 .rd l c = t ++ l := by rw [← s1, ← s2]; rfl
  have w2 : Kind.coL2 .wr t (Kind.coR .rd l c) ++ Kind.coL2 .rd l c = t ++ l := by rw [← w1, ← s3, ← s4]; rfl
  have w3 : Kind.coL3 .wr t (Kind.coR .rd l c) ++ Kind.coL3 .rd l c = t ++ l := by
    rw [← w2, ← s5]
    show Kind.next .wr (Kind.coL2 .wr t (Kind.coR .rd l c)) (flg (Kind.coR .rd l c).flags) 1 ++ _ = _
    rw [hq]
    rfl
  have w4 : Kind.coL4 .wr t (Kind.coR .rd l c) ++ Kind.coL4 .rd l c = t ++ l := by
    rw [← w3, ← s6]
    show Kind.next .wr (Kind.coL3 .wr t (Kind.coR .rd l c)) (m64 (Kind.numI .rd (Kind.coL3 .rd l c) c.cmd 1)) 1 ++ _ = _
    rw [m64_rd _ _ _ (by omega)]
    rfl
  have w5 : Kind.coN .wr t (Kind.coR .rd l c) ++ Kind.coN .rd l c = t ++ l := by
    rw [← w4, ← s7]
    show Kind.next .wr (Kind.coL4 .wr t (Kind.coR .rd l c)) (m64 (Kind.numI .rd (Kind.coL4 .rd l c) c.ph 1)) 1 ++ _ = _
    rw [m64_rd _ _ _ (by omega)]
    rfl
  refine ⟨⟨h1, h2, ?_, h4, h5⟩, w5, ⟨⟨rd_small l 0 4, rd_small _ 0 4⟩, ⟨rd_small _ 0 4, rd_small _ 0 4⟩, In64_nat _ ?_, In64_nat _ ?_⟩, e7⟩
  · show flg (Kind.coR .rd l c).flags < 2 ^ 3
    rw [hq]; exact h3
  · have := rd_small (Kind.coL3 .rd l c) (m64 c.cmd) 1; exact Nat.lt_of_lt_of_le this (by decide)
  · have := rd_small (Kind.coL4 .rd l c) (m64 c.ph) 1; exact Nat.lt_of_lt_of_le this (by decide)
theorem cos_back (u d : Nat) : ∀ (cs : List CarOut) (t l : List UInt8), 19 * cs.length ≤ l.length →
    (∀ i (h : i < cs.length), Kind.coOk .rd (Kind.cosN .rd l (cs.take i)) cs[i] u d) →
    (∀ i (h : i < (Kind.cosR .rd l cs).length), Kind.coOk .wr (Kind.cosN .wr t ((Kind.cosR .rd l cs).take i)) (Kind.cosR .rd l cs)[i] u d) ∧
      Kind.cosN .wr t (Kind.cosR .rd l cs) ++ Kind.cosN .rd l cs = t ++ l ∧ (∀ c ∈ Kind.cosR .rd l cs, saneCo c) ∧ (Kind.cosN .rd l cs).length = l.length - 19 * cs.length
  | [], t, l, _, _ => ⟨fun i h => absurd h (by simp [Kind.cosR]), rfl, fun c hc => by simp [Kind.cosR] at hc, by simp [Kind.cosN]⟩
  | c :: cs, t, l, hl, ok => by
    rw [List.length_cons] at hl
    obtain ⟨k1, k2, k3, k4⟩ := co_back t l c u d (by omega) (ok 0 (by simp))
    obtain ⟨m1, m2, m3, m4⟩ := cos_back u d cs (Kind.coN .wr t (Kind.coR .rd l c)) (Kind.coN .rd l c) (by omega) (fun i h => ok (i + 1) (by rw [List.length_cons]; omega))
    refine ⟨fun i h => ?_, ?_, fun c' hc' => ?_, ?_⟩
    · cases i with
      | zero => exact k1
      | succ i => exact m1 i (by simpa [Kind.cosR] using h)
    · show Kind.cosN .wr (Kind.coN .wr t (Kind.coR .rd l c)) (Kind.cosR .rd (Kind.coN .rd l c) cs) ++ Kind.cosN .rd (Kind.coN .rd l c) cs = _
      rw [m2, k2]
    · rcases List.mem_cons.1 hc' with rfl | h
      · exact k3
      · exact m3 c' h
    · show (Kind.cosN .rd (Kind.coN .rd l c) cs).length = _
      rw [m4, k4, List.length_cons]; omega
theorem oh_back (t l : List UInt8) (c : OutH) (u d : Nat) (hl : 19 ≤ l.length) (ok : Kind.ohOk .rd l c u d) :
    Kind.ohOk .wr t (Kind.ohR .rd l c) u d ∧ Kind.ohN .wr t (Kind.ohR .rd l c) ++ Kind.ohN .rd l c = t ++ l ∧ saneOh (Kind.ohR .rd l c) ∧ (Kind.ohN .rd l c).length = l.length - 19 := by
  obtain ⟨h1, h2, h3, h4⟩ := ok
  have e1 : (Kind.next .rd l c.au 4).length = l.length - 4 := by simp [Kind.next]
  have e2 : (Kind.ohL1 .rd l c).length = l.length - 8 := by simp [Kind.ohL1, Kind.next] <;> omega
  have e3 : (Kind.next .rd (Kind.ohL1 .rd l c) c.su 4).length = l.length - 12 := by simp [Kind.ohL1, Kind.next] <;> omega
  have e4 : (Kind.ohL2 .rd l c).length = l.length - 16 := by simp [Kind.ohL2, Kind.ohL1, Kind.next] <;> omega
  have e5 : (Kind.ohL3 .rd l c).length = l.length - 17 := by simp [Kind.ohL3, Kind.ohL2, Kind.ohL1, Kind.next] <;> omega
  have e7 : (Kind.ohN .rd l c).length = l.length - 19 := by simp [Kind.ohN, Kind.ohL3, Kind.ohL2, Kind.ohL1, Kind.next] <;> omega
  have hq : flg (Kind.ohR .rd l c).flags = Kind.ohQ .rd l c := flg2 _ h3
  have s1 := rw_step t l c.au 4 (by omega)
  have s2 := rw_step (Kind.next .wr t (Kind.num .rd l c.au 4) 4) (Kind.next .rd l c.au 4) c.ad 4 (by omega)
  have s3 := rw_step (Kind.ohL1 .wr t (Kind.ohR .rd l c)) (Kind.ohL1 .rd l c) c.su 4 (by omega)
  have s4 := rw_step (Kind.next .wr (Kind.ohL1 .wr t (Kind.ohR .rd l c)) (Kind.num .rd (Kind.ohL1 .rd l c) c.su 4) 4) (Kind.next .rd (Kind.ohL1 .rd l c) c.su 4) c.sd 4 (by omega)
  have s5 := rw_step (Kind.ohL2 .wr t (Kind.ohR .rd l c)) (Kind.ohL2 .rd l c) (flg c.flags) 1 (by omega)
  have s6 := rw_step (Kind.ohL3 .wr t (Kind.ohR .rd l c)) (Kind.ohL3 .rd l c) (m64 c.st) 2 (by omega)
  have w1 : Kind.ohL1 .wr t (Kind.ohR .rd l c) ++ Kind.ohL1 .rd l c = t ++ l := by rw [← s1, ← s2]; rfl
  have w2 : Kind.ohL2 .wr t (Kind.ohR .rd l c) ++ Kind.ohL2 .rd l c = t ++ l := by rw [← w1, ← s3, ← s4]; rfl
  have w3 : Kind.ohL3 .wr t (Kind.ohR .rd l c) ++ Kind.ohL3 .rd l c = t ++ l := by
    rw [← w2, ← s5]
    show Kind.next .wr (Kind.ohL2 .wr t (Kind.ohR .rd l c)) (flg (Kind.ohR .rd l c).flags) 1 ++ _ = _
    rw [hq]
    rfl
  have w5 : Kind.ohN .wr t (Kind.ohR .rd l c) ++ Kind.ohN .rd l c = t ++ l := by
    rw [← w3, ← s6]
    show Kind.next .wr (Kind.ohL3 .wr t (Kind.ohR .rd l c)) (m64 (Kind.numI .rd (Kind.ohL3 .rd l c) c.st 2)) 2 ++ _ = _
    rw [m64_rd _ _ _ (by omega)]
    rfl
  refine ⟨⟨h1, h2, ?_, h4⟩, w5, ⟨⟨rd_small l 0 4, rd_small _ 0 4⟩, ⟨rd_small _ 0 4, rd_small _ 0 4⟩, In64_nat _ ?_⟩, e7⟩
  · show flg (Kind.ohR .rd l c).flags < 2 ^ 2
    rw [hq]; exact h3
  · have := rd_small (Kind.ohL3 .rd l c) (m64 c.st) 2; exact Nat.lt_of_lt_of_le this (by decide)
theorem ou_back (t l : List UInt8) (C u d : Nat) (hl : l.length = 19 + 19 * C) (ok : Kind.ouOk .rd l (noOu C) u d C) :
    Kind.ouOk .wr t (Kind.ouR .rd l (noOu C)) u d C ∧ Kind.ouN .wr t (Kind.ouR .rd l (noOu C)) = t ++ l ∧ saneOu (Kind.ouR .rd l (noOu C)) := by
  obtain ⟨hc, h1, hcs⟩ := ok
  have hlen : (noOu C).cars.length = C := hc
  obtain ⟨k1, k2, k3, k4⟩ := oh_back t l noOh u d (by omega) h1
  have hmap : (Kind.ouR .rd l (noOu C)).cars = Kind.cosR .rd (Kind.ohN .rd l noOh) (noOu C).cars := Kind.cosR_map .rd (noOu C).cars (Kind.ohN .rd l noOh)
  obtain ⟨m1, m2, m3, m4⟩ := cos_back u d (noOu C).cars (Kind.ohN .wr t (Kind.ohR .rd l noOh)) (Kind.ohN .rd l noOh) (by rw [hlen, k4]; omega) hcs
  have hmt : Kind.cosN .rd (Kind.ohN .rd l noOh) (noOu C).cars = [] := List.eq_nil_of_length_eq_zero (by rw [m4, hlen, k4]; omega)
  have hcl : (Kind.ouR .rd l (noOu C)).cars.length = C := by rw [hmap, Kind.cosR_length, hlen]
  refine ⟨⟨hcl, k1, ?_⟩, ?_, ⟨k3, ?_⟩⟩
  · rw [hmap]; exact m1
  · show Kind.cosN .wr _ (Kind.ouR .rd l (noOu C)).cars = _
    rw [hmap]
    have h := m2
    rw [hmt, List.append_nil, k2] at h
    exact h
  · rw [hmap]; exact m3
theorem read_frameO {x : BldD} {s : ByteArray} (h1 : openOkOut x s) (h2 : readOkOut x s) : ouOk x (ouOf x s) ∧ ouText x (ouOf x s) = bl s ∧ saneOu (ouOf x s) := by
  obtain ⟨hv, hsz, hh, ho⟩ := h1
  have hlen : (bl s).length = 23 + 19 * x.cars.length := by rw [bl_len]; omega
  have hOS : openS (bl s) = (bl s).take ((bl s).length - 2) := by unfold openS; rw [if_pos ho]
  have hbl : (bodyL s).length = 19 + 19 * x.cars.length := by unfold bodyL; rw [hOS, List.length_drop, List.length_take]; omega
  obtain ⟨k1, k2, k3⟩ := ou_back (headL 90 x.cars.length) (bodyL s) x.cars.length (hallUp x) (hallDown x) hbl h2
  refine ⟨⟨hv, k1⟩, ?_, k3⟩
  unfold ouText ouOf
  rw [k2]
  have e : headL 90 x.cars.length ++ bodyL s = (bl s).take ((bl s).length - 2) := by
    unfold bodyL
    rw [hOS, ← hh, List.drop_take, ← List.take_append_drop 2 ((bl s).take ((bl s).length - 2)), List.take_take, List.drop_take, Nat.min_eq_left (by omega)]
  rw [e]
  unfold openOk at ho
  have h := of_decide_eq_true ho
  unfold sealL
  rw [← h.2, List.take_append_drop]

/-- What the reference reads. -/
def coTo (c : CarOut) : Frm.CarOut := ⟨c.iu, c.id, c.cut, c.lu, c.ld, c.gong, c.cmd, c.ph, c.flag⟩
def coFrom (c : Frm.CarOut) : CarOut := ⟨c.iu, c.id, c.cutOut, c.lu, c.ld, c.gong, c.command, c.phase, c.flag⟩
def ouTo (y : Ou) : Frm.Out := ⟨y.h.au, y.h.ad, y.h.su, y.h.sd, y.h.bad, y.h.full, y.h.st, y.cars.map coTo⟩
def ouFrom (y : Frm.Out) : Ou := ⟨⟨y.lu, y.ld, y.su, y.sd, y.bad, y.full, y.status⟩, y.cars.map coFrom⟩
theorem ou_to (y : Ou) : ouFrom (ouTo y) = y := by
  obtain ⟨⟨a1, a2, a3, a4, a5, a6, a7⟩, cs⟩ := y
  have : (cs.map coTo).map coFrom = cs := by rw [List.map_map]; exact List.map_id cs
  simp only [ouFrom, ouTo, this]
def parseCo (s : List UInt8) (a : Nat) : CarOut := ⟨val s a 4, val s (a + 4) 4, Frm.bit s (a + 16) 0, val s (a + 8) 4, val s (a + 12) 4, Frm.bit s (a + 16) 1, (val s (a + 17) 1 : Nat), (val s (a + 18) 1 : Nat), Frm.bit s (a + 16) 2⟩
def parseOu (s : List UInt8) (C : Nat) : Ou := ⟨⟨val s 2 4, val s 6 4, val s 10 4, val s 14 4, Frm.bit s 18 0, Frm.bit s 18 1, (val s 19 2 : Nat)⟩, (List.range C).map fun i => parseCo s (21 + 19 * i)⟩
theorem parseOu_from (s : List UInt8) (C : Nat) : ouFrom (parseOut s C) = parseOu s C := by
  simp only [ouFrom, parseOut, parseOu, List.map_map]
  rfl
theorem coB_carOutL {c : CarOut} (h1 : 0 ≤ c.cmd ∧ c.cmd < 256) (h2 : 0 ≤ c.ph ∧ c.ph < 256) : coB c = carOutL (coTo c) := by
  unfold coB carOutL
  rw [m64_small h1.1 h1.2, m64_small h2.1 h2.2]
  rfl
theorem flatMap_map {α β : Type} (f : β → List UInt8) (g : α → β) : ∀ l : List α, (l.map g).flatMap f = l.flatMap fun a => f (g a)
  | [] => rfl
  | a :: l => by rw [List.map_cons, List.flatMap_cons, List.flatMap_cons, flatMap_map f g l]
theorem ouText_outL {x : BldD} {y : Ou} (ok : ouOk x y) (hs : saneOu y) : ∃ q, ouText x y = outL x.cars.length (ouTo y) ++ q ∧ y.cars.length = x.cars.length ∧ (ouTo y).Fit := by
  obtain ⟨hv, ok⟩ := ok
  obtain ⟨hl, ⟨-, -, hst⟩, hcs⟩ := ouOk_wr ok
  have hC := (fine_of hv).cars
  rw [inB_iff] at hst
  have hcr : ∀ c ∈ y.cars, (0 ≤ c.cmd ∧ c.cmd < 256) ∧ (0 ≤ c.ph ∧ c.ph < 256) := by
    intro c hm
    obtain ⟨-, -, h3, h4⟩ := hcs c hm
    rw [inB_iff] at h3 h4
    omega
  refine ⟨endL (headL 90 x.cars.length ++ ouB y), ?_, hl, ?_⟩
  · unfold ouText
    rw [ouN_wr]
    have e : headL 90 x.cars.length ++ ouB y = outL x.cars.length (ouTo y) := by
      have e1 : y.cars.flatMap coB = (y.cars.map coTo).flatMap carOutL := by
        rw [flatMap_map]
        exact flatMap_same fun c hm => coB_carOutL (hcr c hm).1 (hcr c hm).2
      unfold ouB outL outHead headL ohB
      rw [m64_id hst.1 (by omega), e1]
      have h256 : x.cars.length % 256 = x.cars.length := by omega
      simp [numL, h256, ouTo, OutH.flags]
    rw [sealL, e]
  · obtain ⟨⟨⟨a1, a2⟩, ⟨a3, a4⟩, a5⟩, a6⟩ := hs
    refine ⟨by show y.h.au < _; omega, by show y.h.ad < _; omega, by show y.h.su < _; omega, by show y.h.sd < _; omega, ⟨hst.1, by show y.h.st < _; omega⟩, fun c hm => ?_⟩
    obtain ⟨c', hm', rfl⟩ := List.mem_map.1 hm
    obtain ⟨⟨b1, b2⟩, ⟨b3, b4⟩, -⟩ := a6 c' hm'
    exact ⟨by show c'.iu < _; omega, by show c'.id < _; omega, by show c'.lu < _; omega, by show c'.ld < _; omega, (hcr c' hm').1, (hcr c' hm').2⟩
theorem parse_textO {x : BldD} {y : Ou} (ok : ouOk x y) (hs : saneOu y) : parseOu (ouText x y) x.cars.length = y := by
  obtain ⟨q, h1, h2, h3⟩ := ouText_outL ok hs
  have h4 : (ouTo y).cars.length = x.cars.length := by show (y.cars.map coTo).length = _; rw [List.length_map, h2]
  rw [← parseOu_from, h1, ← h4, parse_outL h3 q, ou_to]
theorem in64_val2 (s : List UInt8) (a : Nat) : In64 ((val s a 2 : Nat) : Int) := by
  have := val_lt s a 2
  unfold In64
  omega
theorem parse_saneO (s : List UInt8) (C : Nat) : saneOu (parseOu s C) := by
  refine ⟨⟨⟨by have := val_lt s 2 4; show val s 2 4 < _; omega, by have := val_lt s 6 4; show val s 6 4 < _; omega⟩, ⟨by have := val_lt s 10 4; show val s 10 4 < _; omega, by have := val_lt s 14 4; show val s 14 4 < _; omega⟩, in64_val2 s 19⟩, fun c hm => ?_⟩
  obtain ⟨i, -, rfl⟩ := List.mem_map.1 hm
  generalize 21 + 19 * i = a
  exact ⟨⟨by have := val_lt s a 4; show val s a 4 < _; omega, by have := val_lt s (a + 4) 4; show val s (a + 4) 4 < _; omega⟩, ⟨by have := val_lt s (a + 8) 4; show val s (a + 8) 4 < _; omega, by have := val_lt s (a + 12) 4; show val s (a + 12) 4 < _; omega⟩, in64_val s _, in64_val s _⟩
theorem parse_iffO {x : BldD} {s : ByteArray} (h : openOkOut x s) : readOkOut x s ↔ ouOk x (parseOu (bl s) x.cars.length) ∧ ouText x (parseOu (bl s) x.cars.length) = bl s := by
  constructor
  · intro h2
    obtain ⟨k1, k2, k3⟩ := read_frameO h h2
    have hp := parse_textO k1 k3
    rw [k2] at hp
    rw [hp]
    exact ⟨k1, k2⟩
  · rintro ⟨k1, k2⟩
    have := (frame_readO (parse_saneO (bl s) _) k1).2.1
    rw [k2] at this
    rwa [bl_mk] at this
theorem parse_ofO {x : BldD} {s : ByteArray} (h : openOkOut x s) (h2 : readOkOut x s) : parseOu (bl s) x.cars.length = ouOf x s := by
  obtain ⟨k1, k2, k3⟩ := read_frameO h h2
  have hp := parse_textO k1 k3
  rwa [k2] at hp
theorem openEF_out (x : BldD) (s : ByteArray) : (openEF x s (sizeOut x) 90 = 0 ∧ openOkOut x s) ∨ (openEF x s (sizeOut x) 90 ≠ 0 ∧ ReadOE x s (openEF x s (sizeOut x) 90)) := by
  have hz : validE x = 0 → sizeOut x = 23 + 19 * (x.cars.length : Int) := fun h => if_pos h
  rcases openEF_cases x s (sizeOut x) 90 with ⟨a1, e⟩ | ⟨a1, a2, e⟩ | ⟨a1, a2, a3, e⟩ | ⟨a1, a2, a3, a4, e⟩ | ⟨a1, a2, a3, a4, e⟩
  · rw [e]; exact .inr ⟨by decide, .inl ⟨a1, rfl⟩⟩
  · rw [e]; rw [hz a1] at a2; exact .inr ⟨by decide, .inr (.inl ⟨a1, a2, rfl⟩)⟩
  · rw [e]; rw [hz a1] at a2; exact .inr ⟨by decide, .inr (.inr (.inl ⟨a1, a2, a3, rfl⟩))⟩
  · rw [e]; rw [hz a1] at a2; exact .inr ⟨by decide, .inr (.inr (.inr (.inl ⟨a1, a2, a3, a4, rfl⟩)))⟩
  · rw [e]; rw [hz a1] at a2; exact .inl ⟨rfl, a1, a2, a3, a4⟩
theorem readOE_one {x : BldD} {s : ByteArray} {a b : Int} (h1 : ReadOE x s a) (h2 : ReadOE x s b) : a = b := by
  unfold ReadOE openOkOut at *
  rcases h1 with ⟨a1, rfl⟩ | ⟨a1, a2, rfl⟩ | ⟨a1, a2, a3, rfl⟩ | ⟨a1, a2, a3, a4, rfl⟩ | ⟨⟨a1, a2, a3, a4⟩, a5, rfl⟩ <;>
  rcases h2 with ⟨b1, rfl⟩ | ⟨b1, b2, rfl⟩ | ⟨b1, b2, b3, rfl⟩ | ⟨b1, b2, b3, b4, rfl⟩ | ⟨⟨b1, b2, b3, b4⟩, b5, rfl⟩ <;>
  first | rfl | contradiction | (exfalso; simp_all)
end Go.Proofs.Ythbfpdkgbkpmiaa
