/- What the texts behind this one rest on: several texts in one. No statement of the seat is proved here. -/
import Derived.Test.YtifbkoaggjikpaaRows
import Derived.WalkKit
import Derived.ProofKit
import Derived.OpenShut
import Derived.Lib.Hide
import Derived.Handy
import Derived.WalkLawsBesides
import Derived.BigQuiet
import Derived.StillTailTactics
import Derived.Deep.RegionHeld3
import Derived.Deep.RegionLaw
import Derived.Deep.AppendLies
import Derived.Deep.RegionWith
import Derived.Deep.DeepCutAuto
import Derived.Deep.QuietTactic
namespace Go.Proofs.Ytifbkoaggjikpaa
section
open Go.RowKit

theorem run_store_float (P : Program) (w : World) (a : Addr) (m : Mode) (k : FloatKind) (b : Nat) : (store a (.float k b) m).run P w = stored P w a (.float k b) m := run_store P w a _ m rfl
attribute [go_sem] run_store_float

structure CarD where
  deadline : Int
  pulse : Int
  quiet : Int
  slack : Int
  step : Int
  travel : Int
  dwell : Int
  hold : Int
  home : Int

def CarD.vals (c : CarD) : List Int := [c.deadline, c.pulse, c.quiet, c.slack, c.step, c.travel, c.dwell, c.hold, c.home]
def CarD.agg (c : CarD) : Value := .agg #[.int .i64 c.deadline, .int .i64 c.pulse, .int .i64 c.quiet, .int .i64 c.slack, .int .i64 c.step, .int .i64 c.travel, .int .i64 c.dwell, .int .i64 c.hold, .int .i64 c.home]

theorem ret_bool {a b : Bool} (h : a = b) : Ending.returned (.bool a) = .returned (.bool b) := by rw [h]
theorem ret_int {k : IntKind} {a b : Int} (h : a = b) : Ending.returned (.int k a) = .returned (.int k b) := by rw [h]

/-- All values lie from lo to hi. -/
def inAll (lo hi : Int) (l : List Int) : Bool := l.all fun v => decide (lo ≤ v ∧ v ≤ hi)

/-- The values are the ints of a list. -/
inductive IsInts : List Value → List Int → Prop where
  | nil : IsInts [] []
  | cons {vs : List Value} {zs : List Int} {z : Int} (h : IsInts vs zs) : IsInts (.int .i64 z :: vs) (z :: zs)
theorem IsInts.eq {vs : List Value} {zs : List Int} (h : IsInts vs zs) : vs = zs.map fun z => .int .i64 z := by
  induction h with
  | nil => rfl
  | cons _ ih => rw [ih]; rfl

/-- A row of ints at an address. -/
def IntsAt (w : World) (b off : Nat) (zs : List Int) : Prop := ∀ j, j < zs.length → w.cell? ⟨b, off + j, none⟩ = some (.int .i64 (zs.getD j 0))

/-- Go's 'x < y' on float64, by their bits. -/
def fltB (x y : Nat) : Bool := FloatKind.f64.format.order x y == some .lt
def FloatsAt (w : World) (b off : Nat) (zs : List Nat) : Prop := ∀ j, j < zs.length → w.cell? ⟨b, off + j, none⟩ = some (.float .f64 (zs.getD j 0))

structure BldD where
  floors : Int
  debounce : Int
  room : Int
  park : Int
  empty : Nat
  full : Nat
  over : Nat
  cars : List CarD

instance : Inhabited CarD := ⟨⟨0, 0, 0, 0, 0, 0, 0, 0, 0⟩⟩

/-- A building as a value: its cars lie at A. -/
def BldD.agg (b : BldD) (A : Option Addr) (cap : Nat) : Value :=
  .agg #[.int .i64 b.floors, .int .i64 b.debounce, .int .i64 b.room, .int .i64 b.park, .float .f64 b.empty, .float .f64 b.full, .float .f64 b.over, .slice A b.cars.length cap]

/-- The cars of a list lie in memory at A, below block B. -/
def CarsAt (w : World) (B : Nat) (A : Option Addr) (cs : List CarD) : Prop :=
  cs = [] ∨ ∃ b off, A = some ⟨b, off, none⟩ ∧ b < B ∧ ∀ i, i < cs.length → ∀ j, j < 9 → w.cell? ⟨b, off + i * 9 + j, none⟩ = some (.int .i64 ((cs.getD i default).vals.getD j 0))

theorem CarsAt.below {w w' : World} {B : Nat} {A : Option Addr} {cs : List CarD} (h : CarsAt w B A cs) (hb : Below B w w') : CarsAt w' B A cs := by
  rcases h with h | ⟨b, off, hA, hlt, hc⟩
  · exact .inl h
  · exact .inr ⟨b, off, hA, hlt, fun i hi j hj => (hb.cell (p := ⟨b, _, none⟩) hlt).trans (hc i hi j hj)⟩
theorem CarsAt.more {w : World} {B B' : Nat} {A : Option Addr} {cs : List CarD} (h : CarsAt w B A cs) (hB : B ≤ B') : CarsAt w B' A cs := by
  rcases h with h | ⟨b, off, hA, hlt, hc⟩
  · exact .inl h
  · exact .inr ⟨b, off, hA, by omega, hc⟩

theorem CarsAt.at_ {w : World} {B : Nat} {A : Option Addr} {cs : List CarD} (h : CarsAt w B A cs) {k : Nat} (hk : k < cs.length) :
    ∃ b off c1 c2 c3 c4 c5 c6 c7 c8 c9, A = some ⟨b, off, none⟩ ∧ b < B ∧ Hid (cs[k] = ⟨c1, c2, c3, c4, c5, c6, c7, c8, c9⟩) ∧
      w.cell? ⟨b, off + k * 9, none⟩ = some (.int .i64 c1) ∧ w.cell? ⟨b, off + k * 9 + 1, none⟩ = some (.int .i64 c2) ∧ w.cell? ⟨b, off + k * 9 + 2, none⟩ = some (.int .i64 c3) ∧
      w.cell? ⟨b, off + k * 9 + 3, none⟩ = some (.int .i64 c4) ∧ w.cell? ⟨b, off + k * 9 + 4, none⟩ = some (.int .i64 c5) ∧ w.cell? ⟨b, off + k * 9 + 5, none⟩ = some (.int .i64 c6) ∧
      w.cell? ⟨b, off + k * 9 + 6, none⟩ = some (.int .i64 c7) ∧ w.cell? ⟨b, off + k * 9 + 7, none⟩ = some (.int .i64 c8) ∧ w.cell? ⟨b, off + k * 9 + 8, none⟩ = some (.int .i64 c9) := by
  rcases h with h | ⟨b, off, hA, hlt, hc⟩
  · rw [h] at hk; exact absurd hk (by simp)
  · have hg : cs.getD k default = cs[k] := by simp [List.getD, hk]
    have hj := fun j hj => hc k hk j hj
    rw [hg] at hj
    obtain ⟨c, hcd⟩ : ∃ c, c = cs[k] := ⟨_, rfl⟩
    rw [← hcd] at hj ⊢
    obtain ⟨c1, c2, c3, c4, c5, c6, c7, c8, c9⟩ := c
    exact ⟨b, off, c1, c2, c3, c4, c5, c6, c7, c8, c9, hA, hlt, rfl, hj 0 (by omega), hj 1 (by omega), hj 2 (by omega), hj 3 (by omega), hj 4 (by omega), hj 5 (by omega), hj 6 (by omega), hj 7 (by omega), hj 8 (by omega)⟩

/-- The cells of a block just made, behind whatever has only grown since. -/
theorem cell_new_below {w w' : World} {cs : Array Value} {e : TypeId} (hb : Below (w.heap.size + 1) (w.alloc (.cells cs e)) w') (i : Nat) : w'.cell? ⟨w.heap.size, i, none⟩ = cs[i]? := by
  rw [hb.cell (p := ⟨w.heap.size, i, none⟩) (Nat.lt_succ_self _), cell_of_row _ _ _ _ _ (0, 0) (heap_alloc_new w _)]
theorem below_of_new {w w' : World} {o : Obj} (hb : Below (w.heap.size + 1) (w.alloc o) w') : Below w.heap.size w w' :=
  ((Below.refl _ _).alloc (Nat.le_refl _) o).trans (hb.mono (by omega))

theorem intsAt_new {w : World} {b : Nat} {cs : Array Value} {zs : List Int} {e : TypeId} (hb : b = w.heap.size) (hcs : cs.toList = zs.map fun z => .int .i64 z) : IntsAt (w.alloc (.cells cs e)) b 0 zs := by
  intro j hj
  subst hb
  rw [Nat.zero_add, cell_of_row _ _ _ _ _ (0, 0) (heap_alloc_new w _), ← Array.getElem?_toList, hcs, List.getElem?_map]
  simp [hj]

inductive IsFloats : List Value → List Nat → Prop where
  | nil : IsFloats [] []
  | cons {vs : List Value} {zs : List Nat} {z : Nat} (h : IsFloats vs zs) : IsFloats (.float .f64 z :: vs) (z :: zs)
theorem IsFloats.eq {vs : List Value} {zs : List Nat} (h : IsFloats vs zs) : vs = zs.map fun z => .float .f64 z := by
  induction h with
  | nil => rfl
  | cons _ ih => rw [ih]; rfl
theorem floatsAt_new {w : World} {b : Nat} {cs : Array Value} {zs : List Nat} {e : TypeId} (hb : b = w.heap.size) (hcs : cs.toList = zs.map fun z => .float .f64 z) : FloatsAt (w.alloc (.cells cs e)) b 0 zs := by
  intro j hj
  subst hb
  rw [Nat.zero_add, cell_of_row _ _ _ _ _ (0, 0) (heap_alloc_new w _), ← Array.getElem?_toList, hcs, List.getElem?_map]
  simp [hj]
end

section
open Go.RowKit

theorem inAll_take_succ (lo hi : Int) (zs : List Int) (k : Nat) (h : k < zs.length) : inAll lo hi (zs.take (k + 1)) = (inAll lo hi (zs.take k) && decide (lo ≤ zs.getD k 0 ∧ zs.getD k 0 ≤ hi)) := by
  unfold inAll
  rw [List.take_succ_eq_append_getElem h, List.all_append]
  simp [List.getD, h]

theorem inAll_false (lo hi : Int) (zs : List Int) (k : Nat) (h : k < zs.length) (hb : ¬ (lo ≤ zs.getD k 0 ∧ zs.getD k 0 ≤ hi)) : inAll lo hi zs = false := by
  unfold inAll
  rw [List.all_eq_false]
  refine ⟨zs[k], List.getElem_mem h, ?_⟩
  simpa [List.getD, h] using hb

theorem within_any (b off cap : Nat) (lo hi : Int) (zs : List Int) (w : World) (hn : zs.length ≤ 1000) (hc : IntsAt w b off zs) :
    Calls Try.prog 55 #[.int .i64 lo, .int .i64 hi, .slice (some ⟨b, off, none⟩) zs.length cap] w fun e w' => e = .returned (.bool (inAll lo hi zs)) ∧ w = w' := by
  have HC := Lib.hid hc
  clear hc
  go_enter Try.func55, Try.ntmps55
  go_wp2
  go_loop [11] (fun i => ∃ k : Nat, k ≤ zs.length ∧ i = .int .i64 k ∧ Hid (inAll lo hi (zs.take k) = true)) (fun i => zs.length - (intOf i).toNat)
  case atStart => exact ⟨0, Nat.zero_le _, rfl, rfl⟩
  case round =>
    obtain ⟨k, hk, rfl, hin⟩ := hrel
    by_cases hlt : k < zs.length
    · have hcell : w.cell? ⟨b, off + k, none⟩ = some (.int .i64 (zs.getD k 0)) := HC.out k hlt
      by_cases hgood : lo ≤ zs.getD k 0 ∧ zs.getD k 0 ≤ hi
      · have hs := inAll_take_succ lo hi zs k hlt
        rw [hin.out, Bool.true_and, decide_eq_true hgood] at hs
        have HS := Lib.hid hs
        clear hs hin
        obtain ⟨hg1, hg2⟩ := hgood
        go_wp2
        all_goals first
          | (go_round
             case rel => exact ⟨k + 1, by omega, by go_num, HS.out⟩
             case measure => simp [intOf]; omega)
          | (exfalso; first | (simp_all; done) | (simp_all; omega))
      · have hs := inAll_false lo hi zs k hlt hgood
        have HS := Lib.hid hs
        clear hs
        have hg : zs.getD k 0 < lo ∨ hi < zs.getD k 0 := by omega
        rcases hg with hg | hg
        all_goals
          go_wp2
          all_goals first
            | (go_ret; exact ⟨ret_bool HS.out.symm, rfl⟩)
            | (exfalso; first | (simp_all; done) | (simp_all; omega))
    · go_wp2
      go_ret
      have he : zs.take k = zs := List.take_of_length_le (by omega)
      have hi' := hin.out
      rw [he] at hi'
      exact ⟨ret_bool hi'.symm, rfl⟩
end

section
open Go.RowKit

theorem within_n (b off n cap : Nat) (lo hi : Int) (zs : List Int) (w : World) (hz : zs.length = n) (hn : n ≤ 1000) (hc : IntsAt w b off zs) :
    Calls Try.prog 55 #[.int .i64 lo, .int .i64 hi, .slice (some ⟨b, off, none⟩) n cap] w fun e w' => e = .returned (.bool (inAll lo hi zs)) ∧ w = w' := by
  subst hz
  exact within_any b off cap lo hi zs w hn hc

theorem within_new (w : World) (cs : Array Value) (t : TypeId) (b n cap : Nat) (lo hi : Int) (zs : List Int) (hb : b = w.heap.size) (hn : cs.size = n) (hle : n ≤ 1000) (hz : IsInts cs.toList zs) :
    Calls Try.prog 55 #[.int .i64 lo, .int .i64 hi, .slice (some ⟨b, 0, none⟩) n cap] (w.alloc (.cells cs t)) fun e w' => e = .returned (.bool (inAll lo hi zs)) ∧ w.alloc (.cells cs t) = w' :=
  within_n b 0 n cap lo hi zs _ (by have := congrArg List.length hz.eq; rw [List.length_map, Array.length_toList] at this; omega) hle (intsAt_new hb hz.eq)

def carFitsB (floors : Int) (c : CarD) : Bool :=
  inAll 1 10000 [c.deadline, c.pulse, c.quiet, c.step, c.travel, c.dwell, c.hold] && (inAll 0 10000 [c.slack] && (decide (c.dwell ≤ c.hold) && inAll 0 (floors - 1) [c.home]))

theorem carFits_any (floors : Int) (c : CarD) (w : World) (h1 : 0 ≤ floors) (h2 : floors ≤ 100) :
    Calls Try.prog 87 #[.int .i64 floors, c.agg] w fun e w' => e = .returned (.bool (carFitsB floors c)) ∧ Below w.heap.size w w' := by
  obtain ⟨c1, c2, c3, c4, c5, c6, c7, c8, c9⟩ := c
  have hfin : carFitsB floors ⟨c1, c2, c3, c4, c5, c6, c7, c8, c9⟩ = (inAll 1 10000 [c1, c2, c3, c5, c6, c7, c8] && (inAll 0 10000 [c4] && (decide (c7 ≤ c8) && inAll 0 (floors - 1) [c9]))) := rfl
  rw [hfin]
  clear hfin
  unfold CarD.agg
  go_enter Try.func87, Try.ntmps87
  go_wp2_with (go_at_call 55; refine (within_new _ _ _ _ _ _ _ _ _ (by simp) (by rfl) (by omega) (by repeat constructor)).mono ?_; rintro e w' ⟨rfl, rfl⟩)
  all_goals
    go_ret
    refine ⟨ret_bool ?_, by go_grown⟩
    first | (simp [*]; done) | (simp [*]; omega)
end

section
open Go.RowKit

def timesFitB (b : BldD) : Bool := inAll 1 16 [b.debounce] && (inAll 1 10000 [b.park] && b.cars.all (carFitsB b.floors))

theorem all_take_succ (p : CarD → Bool) (cs : List CarD) (k : Nat) (h : k < cs.length) : (cs.take (k + 1)).all p = ((cs.take k).all p && p cs[k]) := by
  rw [List.take_succ_eq_append_getElem h, List.all_append]
  simp

theorem all_at_false (p : CarD → Bool) (cs : List CarD) (k : Nat) (h : k < cs.length) (hb : p cs[k] = false) : cs.all p = false := by
  rw [List.all_eq_false]
  exact ⟨cs[k], List.getElem_mem h, by simp [hb]⟩

theorem timesFit_any (b : BldD) (A : Option Addr) (cap : Nat) (w : World) (h1 : 0 ≤ b.floors) (h2 : b.floors ≤ 100) (hn : b.cars.length ≤ 100) (hc : CarsAt w w.heap.size A b.cars) :
    Calls Try.prog 56 #[b.agg A cap] w fun e w' => e = .returned (.bool (timesFitB b)) ∧ Below w.heap.size w w' := by
  obtain ⟨f, d, r, p, e1, e2, e3, cs⟩ := b
  simp only at h1 h2 hn hc
  have E0 : ∀ b1 b2 b3 : Bool, inAll 1 16 [d] = b1 → inAll 1 10000 [p] = b2 → cs.all (carFitsB f) = b3 → timesFitB ⟨f, d, r, p, e1, e2, e3, cs⟩ = (b1 && (b2 && b3)) := by
    rintro b1 b2 b3 rfl rfl rfl; rfl
  have E1 := Lib.hid E0
  clear E0
  simp only [BldD.agg]
  have HC := Lib.hid hc
  clear hc
  rcases Bool.eq_false_or_eq_true (inAll 1 16 [d]) with hd | hd
  · rcases Bool.eq_false_or_eq_true (inAll 1 10000 [p]) with hp | hp
    · go_enter Try.func56, Try.ntmps56
      go_wp2_with (go_at_call 55; refine (within_new _ _ _ _ _ _ _ _ _ (by simp) (by rfl) (by omega) (by repeat constructor)).mono ?_; rintro e w' ⟨rfl, rfl⟩)
      have Hd := Lib.hid hd
      have Hp := Lib.hid hp
      clear hd hp
      go_loopw [20] (fun v wr => ∃ k : Nat, k ≤ cs.length ∧ v = .int .i64 k ∧ Hid ((cs.take k).all (carFitsB f) = true) ∧ Below (w.heap.size + 1) (w.alloc (.cells #[.int .i64 f, .int .i64 d, .int .i64 r, .int .i64 p, .float .f64 e1, .float .f64 e2, .float .f64 e3, .slice A cs.length cap] 26)) wr) (fun v _ => cs.length - (intOf v).toNat)
      case atStart => exact ⟨0, Nat.zero_le _, rfl, rfl, by go_grown⟩
      case round =>
        obtain ⟨k, hk, rfl, hall, hbel⟩ := hrel
        have hf0 : wr.cell? ⟨w.heap.size, 0, none⟩ = some (.int .i64 f) := cell_new_below hbel 0
        by_cases hlt : k < cs.length
        · have HC' := HC.out.below (below_of_new hbel)
          obtain ⟨b, off, c1, c2, c3, c4, c5, c6, c7, c8, c9, rfl, hb, hcar, g0, g1, g2, g3, g4, g5, g6, g7, g8⟩ := HC'.at_ hlt
          clear HC'
          have hz : w.heap.size < wr.heap.size := by have := hbel.size; simp at this; omega
          rcases Bool.eq_false_or_eq_true (carFitsB f ⟨c1, c2, c3, c4, c5, c6, c7, c8, c9⟩) with hf | hf
          · go_wp2_with (go_at_call 87; refine (carFits_any f ⟨c1, c2, c3, c4, c5, c6, c7, c8, c9⟩ _ h1 h2).mono ?_; rintro e w' ⟨rfl, hb'⟩)
            go_roundw
            case rel =>
              refine ⟨k + 1, by omega, by go_num, ?_, ?_⟩
              · have hs := all_take_succ (carFitsB f) cs k hlt
                rw [hall.out, hcar.out, hf] at hs
                exact hs
              · exact hbel.trans (((Below.refl _ _).alloc (by omega) _).trans (hb'.mono (by simp; omega)))
            case measure => simp [intOf]; omega
          · go_wp2_with (go_at_call 87; refine (carFits_any f ⟨c1, c2, c3, c4, c5, c6, c7, c8, c9⟩ _ h1 h2).mono ?_; rintro e w' ⟨rfl, hb'⟩)
            go_ret
            refine ⟨ret_bool ?_, ?_⟩
            · rw [E1.out _ _ _ Hd.out Hp.out (all_at_false _ _ k hlt (by rw [hcar.out, hf]))]
              rfl
            · exact (below_of_new hbel).trans (((Below.refl _ _).alloc (by omega) _).trans (hb'.mono (by simp; omega)))
        · go_wp2
          go_ret
          have he : cs.take k = cs := List.take_of_length_le (by omega)
          have hi' := hall.out
          rw [he] at hi'
          refine ⟨ret_bool ?_, below_of_new hbel⟩
          rw [E1.out _ _ _ Hd.out Hp.out hi']
          rfl
    · go_enter Try.func56, Try.ntmps56
      go_wp2_with (go_at_call 55; refine (within_new _ _ _ _ _ _ _ _ _ (by simp) (by rfl) (by omega) (by repeat constructor)).mono ?_; rintro e w' ⟨rfl, rfl⟩)
      go_ret
      refine ⟨ret_bool ?_, by go_grown⟩
      rw [E1.out _ _ _ hd hp rfl]
      rfl
  · go_enter Try.func56, Try.ntmps56
    go_wp2_with (go_at_call 55; refine (within_new _ _ _ _ _ _ _ _ _ (by simp) (by rfl) (by omega) (by repeat constructor)).mono ?_; rintro e w' ⟨rfl, rfl⟩)
    go_ret
    refine ⟨ret_bool ?_, by go_grown⟩
    rw [E1.out _ _ _ hd rfl rfl]
    rfl
end

section
open Go.RowKit

def ascTo (zs : List Nat) (k : Nat) : Prop := ∀ i, i < k → fltB (zs.getD i 0) (zs.getD (i + 1) 0) = true
def ascB (zs : List Nat) : Bool := decide (∀ i, i < zs.length - 1 → fltB (zs.getD i 0) (zs.getD (i + 1) 0) = true)

theorem ascending_any (b off cap : Nat) (zs : List Nat) (w : World) (h0 : 0 < zs.length) (hn : zs.length ≤ 1000) (hb : b < w.heap.size) (hc : FloatsAt w b off zs) :
    Calls Try.prog 57 #[.slice (some ⟨b, off, none⟩) zs.length cap] w fun e w' => e = .returned (.bool (ascB zs)) ∧ Below w.heap.size w w' := by
  have HC := Lib.hid hc
  clear hc
  go_enter Try.func57, Try.ntmps57
  go_wp2
  go_loopw [3] (fun v wr => ∃ k : Nat, k + 1 ≤ zs.length ∧ v = .int .i64 ((k : Int) + 1) ∧ Hid (ascTo zs k) ∧ Below w.heap.size w wr) (fun v _ => zs.length - (intOf v).toNat)
  case atStart => exact ⟨0, h0, rfl, fun i hi => absurd hi (by omega), Below.refl _ _⟩
  case round =>
    obtain ⟨k, hk, rfl, hall, hbel⟩ := hrel
    by_cases hlt : k + 1 < zs.length
    · obtain ⟨x, hx⟩ : ∃ x, x = zs.getD k 0 := ⟨_, rfl⟩
      obtain ⟨y, hy⟩ : ∃ y, y = zs.getD (k + 1) 0 := ⟨_, rfl⟩
      have g0 : wr.cell? ⟨b, off + k, none⟩ = some (.float .f64 x) := by rw [hx]; exact (hbel.cell (p := ⟨b, off + k, none⟩) hb).trans (HC.out k (by omega))
      have g1 : wr.cell? ⟨b, off + (k + 1), none⟩ = some (.float .f64 y) := by rw [hy]; exact (hbel.cell (p := ⟨b, off + (k + 1), none⟩) hb).trans (HC.out (k + 1) (by omega))
      have HX := Lib.hid hx
      have HY := Lib.hid hy
      clear hx hy
      rcases Bool.eq_false_or_eq_true (FloatKind.f64.format.order x y == some .lt) with hf | hf
      · go_wp2_with fail
        go_quiet (fail)
        go_wp2
        go_roundw
        case rel =>
          refine ⟨k + 1, by omega, by go_num, fun i hi => ?_, ?_⟩
          · rcases Nat.lt_or_ge i k with h | h
            · exact hall.out i h
            · obtain rfl : i = k := by omega
              rw [← HX.out, ← HY.out]
              exact hf
          · exact ⟨hbel.os, hbel.tape, hbel.output, hbel.size, hbel.block⟩
        case measure => simp [intOf]; omega
      · go_wp2_with fail
        go_quiet (fail)
        go_wp2
        go_ret
        refine ⟨ret_bool ?_, hbel.os, hbel.tape, hbel.output, hbel.size, hbel.block⟩
        unfold ascB
        symm
        rw [decide_eq_false_iff_not]
        intro h
        have := h k (by omega)
        rw [← HX.out, ← HY.out] at this
        unfold fltB at this
        rw [hf] at this
        cases this
    · go_wp2
      go_ret
      refine ⟨ret_bool ?_, hbel⟩
      unfold ascB
      symm
      rw [decide_eq_true_iff]
      intro i hi
      exact hall.out i (by omega)

theorem ascending_new (w : World) (cs : Array Value) (t : TypeId) (b n cap : Nat) (zs : List Nat) (hb : b = w.heap.size) (hn : cs.size = n) (h0 : 0 < n) (hle : n ≤ 1000) (hz : IsFloats cs.toList zs) :
    Calls Try.prog 57 #[.slice (some ⟨b, 0, none⟩) n cap] (w.alloc (.cells cs t)) fun e w' => e = .returned (.bool (ascB zs)) ∧ Below (w.alloc (.cells cs t)).heap.size (w.alloc (.cells cs t)) w' := by
  have hl : zs.length = n := by have := congrArg List.length hz.eq; rw [List.length_map, Array.length_toList] at this; omega
  subst hl
  exact ascending_any b 0 cap zs _ h0 hle (by subst hb; simp) (floatsAt_new hb hz.eq)
end

section
open Go.RowKit

theorem frombits_run (n : Int) (w : World) : (callFunc 88 #[.int .u64 n]).run Try.prog w = .ok (.value (.float .f64 n.toNat)) w := by
  rw [run_callFunc_extern (e := Extern.MathFloatBits.float64frombits) Try.func88 (by kernel_rfl) (by kernel_rfl) (by kernel_rfl) (by kernel_rfl)]
  rfl

theorem inf_any (s : Int) (hs : 0 ≤ s) (w : World) : Calls Try.prog 58 #[.int .i64 s] w fun e w' => e = .returned (.float .f64 9218868437227405312) ∧ w = w' := by
  have hr := frombits_run 9218868437227405312
  go_enter Try.func58, Try.ntmps58
  go_wp2
  go_ret
  exact ⟨rfl, rfl⟩
end

section

theorem read_max : FloatKind.f64.format.read 9218868437227405311 = .number false 9007199254740991 971 := by decide +kernel
theorem read_inf : FloatKind.f64.format.read 9218868437227405312 = .infinity false := by decide +kernel

theorem read_form (x : Nat) : (∃ n m i, FloatKind.f64.format.read x = .number n m i ∧ m ≤ 9007199254740991 ∧ i ≤ 971) ∨ (∃ n, FloatKind.f64.format.read x = .infinity n) ∨ (∃ n t, FloatKind.f64.format.read x = .nan n t) := by
  have hb : FloatKind.f64.format.binade = 4503599627370496 := by decide +kernel
  have hi : FloatKind.f64.format.infRung = 9218868437227405312 := by decide +kernel
  have hl : FloatKind.f64.format.leastPlace = -1074 := by decide +kernel
  unfold Ieee.Format.read
  rw [hb, hi, hl]
  dsimp only
  split
  · exact .inl ⟨_, _, _, rfl, by omega, by omega⟩
  · split
    · exact .inl ⟨_, _, _, rfl, by omega, by omega⟩
    · split
      · exact .inr (.inl ⟨_, rfl⟩)
      · exact .inr (.inr ⟨_, _, rfl⟩)

/-- Go's 'x <= y' on float64, by their bits. -/
def fleB (x y : Nat) : Bool := FloatKind.f64.format.order x y == some .lt || FloatKind.f64.format.order x y == some .eq

theorem fle_max (x : Nat) : fleB x 9218868437227405311 = fltB x 9218868437227405312 := by
  unfold fleB fltB Ieee.Format.order
  rw [read_max, read_inf]
  rcases read_form x with ⟨n, m, i, h, hm, hi⟩ | ⟨n, h⟩ | ⟨n, t, h⟩
  · rw [h]
    have hle : Ieee.signed n m (i - min i 971).toNat ≤ Ieee.signed false 9007199254740991 (971 - min i 971).toNat := by
      have h0 : (i - min i 971).toNat = 0 := by omega
      rw [h0]
      have hp : 1 ≤ 2 ^ (971 - min i 971).toNat := Nat.one_le_two_pow
      have hq : m * 1 ≤ 9007199254740991 * 2 ^ (971 - min i 971).toNat := Nat.mul_le_mul hm hp
      unfold Ieee.signed
      rw [Nat.shiftLeft_eq, Nat.shiftLeft_eq]
      generalize 2 ^ (971 - min i 971).toNat = q at hp hq ⊢
      cases n <;> simp <;> omega
    simp only [Ieee.Datum.order]
    rcases Int.lt_or_eq_of_le hle with hlt | heq
    · have hc : compare (Ieee.signed n m (i - min i 971).toNat) (Ieee.signed false 9007199254740991 (971 - min i 971).toNat) = .lt := by
        show compareOfLessAndEq _ _ = _
        unfold compareOfLessAndEq
        rw [if_pos hlt]
      rw [hc]; rfl
    · rw [heq]
      have hc : ∀ z : Int, compare z z = .eq := fun z => by
        show compareOfLessAndEq _ _ = _
        unfold compareOfLessAndEq
        rw [if_neg (by omega), if_pos rfl]
      rw [hc]; rfl
  · rw [h]; cases n <;> rfl
  · rw [h]; rfl
end
end Go.Proofs.Ytifbkoaggjikpaa
