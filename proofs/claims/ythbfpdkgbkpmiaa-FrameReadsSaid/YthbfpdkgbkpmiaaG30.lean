/- What the texts behind this one rest on: several texts in one. No statement of the seat is proved here. -/
import Derived.Test.YthbfpdkgbkpmiaaRefInputs
import Derived.Test.YthbfpdkgbkpmiaaG24
namespace Go.Proofs.Ythbfpdkgbkpmiaa
section
open Go.RowKit Frm

theorem hall_or : ∀ F, 2 ≤ F → F ≤ 32 → (2 ^ (F - 1) - 1) ||| (2 ^ F - 2) = 2 ^ F - 1 := by
  intro F h1 h2
  have h : ∀ G : Fin 33, 2 ≤ G.val → (2 ^ (G.val - 1) - 1) ||| (2 ^ G.val - 2) = 2 ^ G.val - 1 := by decide +kernel
  exact h ⟨F, by omega⟩ h1

theorem setB_floors {x : BldD} (h : validE x = 0) (n : Nat) : setB n (hallUp x ||| hallDown x) = floorsB x.floors n := by
  obtain ⟨⟨hf1, hf2⟩, -, -⟩ := fine_of h
  have e : hallUp x ||| hallDown x = 2 ^ x.floors.toNat - 1 := by
    rw [show hallUp x = 2 ^ (x.floors.toNat - 1) - 1 from if_pos h, show hallDown x = 2 ^ x.floors.toNat - 2 from if_pos h]
    exact hall_or _ (by omega) (by omega)
  have hp : 0 < 2 ^ x.floors.toNat := Nat.two_pow_pos _
  rw [e, setB, floorsB, Nat.and_two_pow_sub_one_eq_mod, Bool.eq_iff_iff, beq_iff_eq, beq_iff_eq, Nat.div_eq_zero_iff]
  constructor
  · intro hq
    right
    rw [← hq]
    exact Nat.mod_lt _ hp
  · rintro (hq | hq)
    · omega
    · exact Nat.mod_eq_of_lt hq

theorem last_iff (kind car : Int) (C : Nat) (hC : 1 ≤ C) : inB 0 (lastC kind C) car = (inB 0 ((C : Int) - 1) car && !(kind == 0 && car != 0)) := by
  unfold lastC
  by_cases hk : kind = 0
  · subst hk
    rw [if_pos rfl]
    by_cases hc : car = 0
    · subst hc; simp [inB]; omega
    · have : (car != 0) = true := bne_iff_ne.2 hc
      simp [inB, this]
      intro h1; omega
  · rw [if_neg hk]
    have : (kind == 0) = false := beq_eq_false_iff_ne.2 hk
    simp [this]

theorem carIs_iff {x : BldD} (h : validE x = 0) (l : List UInt8) (c : CarIn) : Kind.carOk .wr l c (hallUp x ||| hallDown x) x.floors ↔ carIs x.floors c = true := by
  have hq : Kind.carQ .wr l c < 2 ^ 6 := flg_lt c.flags
  unfold Kind.carOk carIs
  simp only [Kind.num, Kind.numI, setB_floors h, Bool.and_eq_true]
  constructor
  · rintro ⟨a, -, b, c, d⟩; exact ⟨a, d, b, c⟩
  · rintro ⟨a, d, b, c⟩; exact ⟨a, hq, b, c, d⟩

theorem isIn_iff (x : BldD) (y : In) : isInB x y = true ↔ inOk x y := by
  unfold isInB inOk
  by_cases hv : validE x = 0
  · have hC := (fine_of hv).cars.1
    have hl := last_iff y.kind y.car x.cars.length hC
    rw [decide_eq_true hv, Bool.true_and, Bool.and_eq_true, List.all_eq_true]
    unfold headIs Kind.inOk Kind.headOk1 Kind.headOk2
    simp only [Kind.num, Kind.numI, Bool.and_eq_true, decide_eq_true_eq]
    constructor
    · rintro ⟨⟨⟨s1, s2⟩, k, c, z, e⟩, ha⟩
      have e' : y.cars.length = x.cars.length := by omega
      refine ⟨hv, e', ⟨s1, s2⟩, ⟨k, ?_⟩, fun i h => (carIs_iff hv _ _).2 (ha _ (List.getElem_mem h))⟩
      rw [e', hl, c, z]; rfl
    · rintro ⟨-, e', ⟨s1, s2⟩, ⟨k, c⟩, ha⟩
      rw [e', hl, Bool.and_eq_true] at c
      refine ⟨⟨⟨s1, s2⟩, k, c.1, c.2, by omega⟩, fun c hc => ?_⟩
      obtain ⟨i, hi, rfl⟩ := List.getElem_of_mem hc
      exact (carIs_iff hv _ _).1 (ha i hi)
  · simp [hv]
end

section
open Go.RowKit Frm

theorem m64_small {n : Int} (h : 0 ≤ n) (h' : n < 256) : m64 n = n.toNat := m64_id h (by omega)
theorem carB_carL {c : CarIn} (h1 : 0 ≤ c.floor ∧ c.floor < 256) (h2 : 0 ≤ c.door ∧ c.door < 256) : carB c = carL c := by
  unfold carB carL
  rw [m64_small h1.1 h1.2, m64_small h2.1 h2.2]
theorem flatMap_same {α : Type} {f g : α → List UInt8} : ∀ {l : List α}, (∀ a ∈ l, f a = g a) → l.flatMap f = l.flatMap g
  | [], _ => rfl
  | a :: l, h => by rw [List.flatMap_cons, List.flatMap_cons, h a (by simp), flatMap_same (fun b hb => h b (by simp [hb]))]
theorem inText_inL {x : BldD} {y : In} (ok : inOk x y) : ∃ q, inText x y = inL x.cars.length y ++ q ∧ y.cars.length = x.cars.length ∧ (saneIn y → y.Fit) := by
  obtain ⟨hv, hl, -, ⟨hk, hc⟩, hcs⟩ := ok
  have hF := fine_of hv
  have hC := hF.cars
  simp only [Kind.numI] at hk hc
  rw [inB_iff] at hk hc
  have hcar : 0 ≤ y.car ∧ y.car < 256 := by
    have : lastC y.kind y.cars.length ≤ 255 := by unfold lastC; split <;> omega
    omega
  have hcr : ∀ c ∈ y.cars, (0 ≤ c.floor ∧ c.floor < 256) ∧ (0 ≤ c.door ∧ c.door < 256) := by
    intro c hm
    obtain ⟨i, hi, rfl⟩ := List.mem_iff_getElem.1 hm
    obtain ⟨-, -, h3, h4, -⟩ := hcs i hi
    simp only [Kind.numI] at h3 h4
    rw [inB_iff] at h3 h4
    have := hF.floors
    omega
  refine ⟨endL (headL 165 x.cars.length ++ inB' y), ?_, hl, fun hs => ?_⟩
  · unfold inText
    rw [inN_wr]
    have e : headL 165 x.cars.length ++ inB' y = inL x.cars.length y := by
      have e1 : y.cars.flatMap carB = y.cars.flatMap carL := flatMap_same fun c hm => carB_carL (hcr c hm).1 (hcr c hm).2
      unfold inB' inL inHead headL
      rw [m64_small hk.1 (by omega), m64_small hcar.1 hcar.2, e1]
      have h256 : x.cars.length % 256 = x.cars.length := by omega
      simp [numL, h256]
    rw [sealL, e]
  · refine ⟨by have := hs.1; omega, by have := hs.2.1; omega, ⟨hk.1, by omega⟩, hcar, fun c hm => ?_⟩
    have := hs.2.2.2.2 c hm
    exact ⟨by have := this.1; omega, (hcr c hm).1, (hcr c hm).2, by have := this.2.1; omega, by have := this.2.2.1; omega⟩
theorem parse_text {x : BldD} {y : In} (ok : inOk x y) (hs : saneIn y) : parse (inText x y) x.cars.length = y := by
  obtain ⟨q, h1, h2, h3⟩ := inText_inL ok
  rw [h1, ← h2]
  exact parse_inL (h3 hs) q
theorem in64_val (s : List UInt8) (a : Nat) : In64 ((val s a 1 : Nat) : Int) := by
  have := val_lt s a 1
  unfold In64
  omega
theorem parse_sane (s : List UInt8) (C : Nat) : saneIn (parse s C) := by
  refine ⟨by have := val_lt s 2 4; show val s 2 4 < _; omega, by have := val_lt s 6 4; show val s 6 4 < _; omega, in64_val s 10, in64_val s 11, fun c hm => ?_⟩
  obtain ⟨i, -, rfl⟩ := List.mem_map.1 hm
  exact ⟨by have := val_lt s (12 + 19 * i) 4; show val s (12 + 19 * i) 4 < _; omega, by have := val_lt s (12 + 19 * i + 7) 4; show val s (12 + 19 * i + 7) 4 < _; omega, by have := val_lt s (12 + 19 * i + 11) 8; show val s (12 + 19 * i + 11) 8 < _; omega, in64_val s _, in64_val s _⟩
/-- What the reference makes of a text whose sum fits is what frame makes of it. -/
theorem parse_iff {x : BldD} {s : ByteArray} (h : openOkIn x s) : readOkIn x s ↔ inOk x (parse (bl s) x.cars.length) ∧ inText x (parse (bl s) x.cars.length) = bl s := by
  constructor
  · intro h2
    obtain ⟨k1, k2, k3⟩ := read_frame h h2
    have hp := parse_text k1 k3
    rw [k2] at hp
    rw [hp]
    exact ⟨k1, k2⟩
  · rintro ⟨k1, k2⟩
    have := (frame_read (parse_sane (bl s) _) k1).2.1
    rw [k2] at this
    rwa [bl_mk] at this
theorem parse_of {x : BldD} {s : ByteArray} (h : openOkIn x s) (h2 : readOkIn x s) : parse (bl s) x.cars.length = inOf x s := by
  obtain ⟨k1, k2, k3⟩ := read_frame h h2
  have hp := parse_text k1 k3
  rwa [k2] at hp
/-- The first error but for the values. -/
def openEF (x : BldD) (s : ByteArray) (size : Int) (m : Nat) : Int :=
  if validE x ≠ 0 then 1 else if (s.size : Int) ≠ size then 4 else if (bl s).take 2 ≠ headL m x.cars.length then 30 else if openOk (bl s) = true then 0 else 5
theorem openEF_cases (x : BldD) (s : ByteArray) (k : Int) (m : Nat) :
    (validE x ≠ 0 ∧ openEF x s k m = 1) ∨ (validE x = 0 ∧ (s.size : Int) ≠ k ∧ openEF x s k m = 4) ∨ (validE x = 0 ∧ (s.size : Int) = k ∧ (bl s).take 2 ≠ headL m x.cars.length ∧ openEF x s k m = 30) ∨
    (validE x = 0 ∧ (s.size : Int) = k ∧ (bl s).take 2 = headL m x.cars.length ∧ openOk (bl s) = false ∧ openEF x s k m = 5) ∨
    (validE x = 0 ∧ (s.size : Int) = k ∧ (bl s).take 2 = headL m x.cars.length ∧ openOk (bl s) = true ∧ openEF x s k m = 0) := by
  unfold openEF
  by_cases hv : validE x = 0
  · rw [if_neg (fun h => h hv)]
    by_cases h1 : (s.size : Int) = k
    · rw [if_neg (fun h => h h1)]
      by_cases h2 : (bl s).take 2 = headL m x.cars.length
      · rw [if_neg (fun h => h h2)]
        cases h3 : openOk (bl s)
        · exact .inr (.inr (.inr (.inl ⟨hv, h1, h2, rfl, if_neg Bool.false_ne_true⟩)))
        · exact .inr (.inr (.inr (.inr ⟨hv, h1, h2, rfl, if_pos rfl⟩)))
      · exact .inr (.inr (.inl ⟨hv, h1, h2, if_pos h2⟩))
    · exact .inr (.inl ⟨hv, h1, if_pos h1⟩)
  · exact .inl ⟨hv, if_pos hv⟩
theorem openEF_in (x : BldD) (s : ByteArray) : (openEF x s (sizeIn x) 165 = 0 ∧ openOkIn x s) ∨ (openEF x s (sizeIn x) 165 ≠ 0 ∧ ReadE x s (openEF x s (sizeIn x) 165)) := by
  have hz : validE x = 0 → sizeIn x = 14 + 19 * (x.cars.length : Int) := fun h => if_pos h
  rcases openEF_cases x s (sizeIn x) 165 with ⟨a1, e⟩ | ⟨a1, a2, e⟩ | ⟨a1, a2, a3, e⟩ | ⟨a1, a2, a3, a4, e⟩ | ⟨a1, a2, a3, a4, e⟩
  · rw [e]; exact .inr ⟨by decide, .inl ⟨a1, rfl⟩⟩
  · rw [e]; rw [hz a1] at a2; exact .inr ⟨by decide, .inr (.inl ⟨a1, a2, rfl⟩)⟩
  · rw [e]; rw [hz a1] at a2; exact .inr ⟨by decide, .inr (.inr (.inl ⟨a1, a2, a3, rfl⟩))⟩
  · rw [e]; rw [hz a1] at a2; exact .inr ⟨by decide, .inr (.inr (.inr (.inl ⟨a1, a2, a3, a4, rfl⟩)))⟩
  · rw [e]; rw [hz a1] at a2; exact .inl ⟨rfl, a1, a2, a3, a4⟩
theorem readE_one {x : BldD} {s : ByteArray} {a b : Int} (h1 : ReadE x s a) (h2 : ReadE x s b) : a = b := by
  unfold ReadE openOkIn at *
  rcases h1 with ⟨a1, rfl⟩ | ⟨a1, a2, rfl⟩ | ⟨a1, a2, a3, rfl⟩ | ⟨a1, a2, a3, a4, rfl⟩ | ⟨⟨a1, a2, a3, a4⟩, a5, rfl⟩ <;>
  rcases h2 with ⟨b1, rfl⟩ | ⟨b1, b2, rfl⟩ | ⟨b1, b2, b3, rfl⟩ | ⟨b1, b2, b3, b4, rfl⟩ | ⟨⟨b1, b2, b3, b4⟩, b5, rfl⟩ <;>
  first | rfl | contradiction | (exfalso; simp_all)
end
end Go.Proofs.Ythbfpdkgbkpmiaa
