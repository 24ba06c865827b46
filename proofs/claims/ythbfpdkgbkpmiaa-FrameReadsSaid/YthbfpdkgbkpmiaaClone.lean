/- slices.Clone of cars. No statement of the seat is proved here. -/
import Derived.Test.YthbfpdkgbkpmiaaCarIn
import Derived.Test.YthbfpdkgbkpmiaaG0
namespace Go.Proofs.Ythbfpdkgbkpmiaa
open Go.RowKit Frm

theorem carInInfo : (Try.prog.info? 71).map (fun i => (i.zero, i.size, i.bytes)) = some (some (.agg (carV ⟨0, false, false, false, false, 0, false, 0, false, 0, 0⟩).toArray), 11, 56) := by kernel_rfl

/-- Cars lie in memory at an address. -/
def CarsV (w : World) (A : Option Addr) (cs : List CarIn) : Prop :=
  cs = [] ∨ ∃ b off, A = some ⟨b, off, none⟩ ∧ ∀ i (h : i < cs.length), CellsAt w b (off + i * 11) (carV cs[i])
def flatIn (cs : List CarIn) : List Value := cs.flatMap carV
theorem flatIn_length (cs : List CarIn) : (flatIn cs).length = cs.length * 11 := by
  induction cs with
  | nil => rfl
  | cons c cs ih => unfold flatIn at ih ⊢; rw [List.flatMap_cons, List.length_append, ih, List.length_cons]; show 11 + _ = _; omega
theorem flatIn_at : ∀ (cs : List CarIn) (i : Nat) (h : i < cs.length) (j : Nat), j < 11 → (flatIn cs)[i * 11 + j]? = (carV cs[i])[j]?
  | [], i, h, _, _ => absurd h (by simp)
  | c :: cs, 0, h, j, hj => by
    unfold flatIn
    rw [List.flatMap_cons, List.getElem?_append_left (by show 0 * 11 + j < 11; omega)]
    simp
  | c :: cs, i + 1, h, j, hj => by
    unfold flatIn
    rw [List.flatMap_cons, List.getElem?_append_right (by show 11 ≤ _; omega)]
    have := flatIn_at cs i (by simpa using h) j hj
    unfold flatIn at this
    have e : (i + 1) * 11 + j - (carV c).length = i * 11 + j := by show (i + 1) * 11 + j - 11 = _; omega
    rw [e, this]
    rfl
theorem flatIn_one (cs : List CarIn) : ∀ u ∈ flatIn cs, u.oneCell' = true := by
  intro u hu
  unfold flatIn at hu
  rw [List.mem_flatMap] at hu
  obtain ⟨c, _, hc⟩ := hu
  simp only [carV, List.mem_cons, List.not_mem_nil, or_false] at hc
  rcases hc with rfl | rfl | rfl | rfl | rfl | rfl | rfl | rfl | rfl | rfl | rfl <;> rfl
theorem CarsV.flat {w : World} {b off : Nat} {cs : List CarIn} (h : ∀ i (h : i < cs.length), CellsAt w b (off + i * 11) (carV cs[i])) : ∀ j u, (flatIn cs)[j]? = some u → w.cell? ((⟨b, off, none⟩ : Addr).add j) = some u := by
  intro j u hu
  have hj : j < cs.length * 11 := by
    have := (List.getElem?_eq_some_iff.1 hu).1
    rwa [flatIn_length] at this
  have hadd : (⟨b, off, none⟩ : Addr).add j = ⟨b, off + j, none⟩ := by unfold Addr.add; split <;> simp_all
  have e : j = j / 11 * 11 + j % 11 := by omega
  have hi : j / 11 < cs.length := by omega
  rw [e, flatIn_at cs _ hi _ (by omega)] at hu
  have := h _ hi _ _ hu
  rw [hadd, show off + j = off + j / 11 * 11 + j % 11 from by omega]
  exact this
/-- What owns cars has them. -/
theorem owns_cars {w : World} {base g n cap : Nat} {e : TypeId} {cs : List CarIn} (h : w.ownsRow base e 11 (.slice (some ⟨g, 0, none⟩) n cap) n (flatIn cs)) :
    (∀ i (h : i < cs.length), CellsAt w g (i * 11) (carV cs[i])) ∧ ∀ j, w.frozen? ⟨g, j, none⟩ = false := by
  constructor
  · intro i hi j v hj
    have hj11 : j < 11 := (List.getElem?_eq_some_iff.1 hj).1
    have := h.cells (g := g) rfl (i * 11 + j) v (by rw [flatIn_at cs i hi j hj11]; exact hj)
    have hadd : (⟨g, 0, none⟩ : Addr).add (i * 11 + j) = ⟨g, i * 11 + j, none⟩ := by unfold Addr.add; split <;> simp_all
    rwa [hadd] at this
  · intro j
    rcases h.2 with ⟨hv, _⟩ | ⟨g1, cap1, cur, hv, _, hg, _⟩
    · cases hv
    · injection hv with e1 _ _
      injection e1 with e1
      injection e1 with e1
      subst e1
      simp [World.frozen?, hg]

/-- What a call has made of cars: a row of its own, if there are any. -/
def NewCars (w w' : World) (A : Option Addr) (cs : List CarIn) : Prop :=
  cs = [] ∨ ∃ g, A = some ⟨g, 0, none⟩ ∧ w.heap.size ≤ g ∧ g < w'.heap.size ∧ (∀ i (h : i < cs.length), CellsAt w' g (i * 11) (carV cs[i])) ∧ ∀ j, w'.frozen? ⟨g, j, none⟩ = false

set_option maxRecDepth 100000 in
set_option maxHeartbeats 1000000 in
theorem clone_any (A : Option Addr) (cp : Nat) (cs : List CarIn) (w : World) (hn : cs.length ≤ 1000) (hv : CarsV w A cs) :
    Calls Try.prog 29 #[.slice A cs.length cp] w fun e w' => Below w.heap.size w w' ∧ ∃ A' cp', e = .returned (.slice A' cs.length cp') ∧ NewCars w w' A' cs := by
  obtain ⟨i0, hi0, hz0, hz1, hz2⟩ := info_parts carInInfo
  rcases hv with rfl | ⟨b, off, rfl, hc⟩
  · cases A with
    | none =>
      have hq : ∀ w, (binOp .eql 31 (.slice none 0 cp) (.slice none 0 0)).run Try.prog w = .ok (.bool true) w := fun _ => by kernel_rfl
      go_enter Try.func29, Try.ntmps29
      go_wp2_with fail
      go_ret
      exact ⟨Below.refl _ _, none, 0, rfl, .inl rfl⟩
    | some a =>
      have hq : ∀ w, (binOp .eql 31 (.slice (some a) 0 cp) (.slice none 0 0)).run Try.prog w = .ok (.bool false) w := fun _ => by kernel_rfl
      have hl : ∀ w, (loadCellsFrom a 0 0 #[]).run Try.prog w = .ok #[] w := fun _ => rfl
      have hst : ∀ p w, (storeCells p [] 0).run Try.prog w = .ok () w := fun _ _ => rfl
      go_enter Try.func29, Try.ntmps29
      go_wp2_with fail
      go_ret
      exact ⟨by go_grown, _, _, rfl, .inl rfl⟩
  · have hq : ∀ w, (binOp .eql 31 (.slice (some ⟨b, off, none⟩) cs.length cp) (.slice none 0 0)).run Try.prog w = .ok (.bool false) w := fun _ => by kernel_rfl
    by_cases h0 : cs = []
    · subst h0
      have hl : ∀ w, (loadCellsFrom ⟨b, off, none⟩ 0 0 #[]).run Try.prog w = .ok #[] w := fun _ => rfl
      have hst : ∀ p w, (storeCells p [] 0).run Try.prog w = .ok () w := fun _ _ => rfl
      simp only [List.length_nil] at hq ⊢
      go_enter Try.func29, Try.ntmps29
      go_wp2_with fail
      go_ret
      exact ⟨by go_grown, _, _, rfl, .inl rfl⟩
    · have hpos : 0 < cs.length := List.length_pos_iff.2 h0
      have HC := Lib.hid hc
      have H0 := Lib.hid h0
      have HP := Lib.hid hpos
      clear hc h0 hpos
      go_enter Try.func29, Try.ntmps29
      go_wp2_with (at_builtin; refine wpList_append_lies _ rfl (.tmp 5) (.tmp 6) 31 rfl w.heap.size 71 i0 _ 11 56 Try.underlying31 hi0 hz0 hz1 hz2 rfl (by omega) (.slice (some ⟨w.heap.size, 0, none⟩) 0 0) 0 [] rfl (World.ownsRow_made w #[] 0 (Nat.le_refl _) (by unfold maxLen; omega) rfl) ⟨b, off, none⟩ cs.length cp (flatIn cs) rfl (flatIn_length cs) (CarsV.flat (fun i h => (HC.out i h).below ((Below.refl _ _).alloc (Nat.le_refl _) _))) (flatIn_one cs) HP.out (by unfold maxLen; omega) (by omega) (by simp) _ rfl ?_; intro g cap' w1 hown hgrow hat hlt)
      go_ret
      simp only [List.nil_append, Nat.zero_add] at hown
      have hbel : Below w.heap.size w w1 := ((Below.refl w.heap.size w).alloc (Nat.le_refl _) (.cells #[] 71)).grown hgrow (by simp) (fun k hk => by simp [Value.ownBlock] at hk; omega)
      have hg : w.heap.size ≤ g := by
        rcases hat with h | h
        · simp [Value.ownBlock] at h; omega
        · rw [h]; simp
      obtain ⟨h1, h2⟩ := owns_cars hown
      exact ⟨hbel, some ⟨g, 0, none⟩, cap', by simp, .inr ⟨g, rfl, hg, hlt, h1, h2⟩⟩
end Go.Proofs.Ythbfpdkgbkpmiaa
