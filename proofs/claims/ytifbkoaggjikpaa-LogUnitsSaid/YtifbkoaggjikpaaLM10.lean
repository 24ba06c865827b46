/- What the texts behind this one rest on: several texts in one. No statement of the seat is proved here. -/
import Derived.Test.YtifbkoaggjikpaaLM08
import Derived.Test.YtifbkoaggjikpaaLM02
import Derived.Test.YtifbkoaggjikpaaLM09
import Derived.Lib.OwnKind
import Derived.Test.YtifbkoaggjikpaaLM03
namespace Go.Proofs.Ytifbkoaggjikpaa
section
open Go.RowKit

theorem Ghost.Made.skip {W1 wx : World} {k i : Nat} {row : Obj} {γ : Ghost.Gh} {L : Ghost.Run} (h : Ghost.Made W1 k row γ L wx) (hi : k ≠ i) : Ghost.Made W1 k row γ (Ghost.mark L i) wx := by
  refine ⟨h.below, fun hl => h.row ?_⟩
  unfold Ghost.mark at hl
  rwa [if_neg hi] at hl

def nums (zs : List Int) : List Value := zs.map fun z => .int .i64 z
def bls (zs : List Bool) : List Value := zs.map fun z => .bool z
theorem nums_len (zs : List Int) : (nums zs).length = zs.length := by simp [nums]
theorem bls_len (zs : List Bool) : (bls zs).length = zs.length := by simp [bls]
theorem nums_one (zs : List Int) : ∀ u ∈ nums zs, u.oneCell' = true := by
  intro u hu
  simp only [nums, List.mem_map] at hu
  obtain ⟨z, -, rfl⟩ := hu
  rfl
theorem bls_one (zs : List Bool) : ∀ u ∈ bls zs, u.oneCell' = true := by
  intro u hu
  simp only [bls, List.mem_map] at hu
  obtain ⟨z, -, rfl⟩ := hu
  rfl
theorem nums_set (zs : List Int) (i : Nat) (z : Int) : (nums zs).set i (.int .i64 z) = nums (zs.set i z) := by simp [nums, List.map_set]
theorem bls_set (zs : List Bool) (i : Nat) (z : Bool) : (bls zs).set i (.bool z) = bls (zs.set i z) := by simp [bls, List.map_set]
theorem intInfo : (Try.prog.info? 3).map (fun i => (i.zero, i.size, i.bytes)) = some (some (.int .i64 0), 1, 8) := by kernel_rfl
theorem boolInfo : (Try.prog.info? 4).map (fun i => (i.zero, i.size, i.bytes)) = some (some (.bool false), 1, 1) := by kernel_rfl
theorem VAt.num {w : World} {A : Option Addr} {l : List Int} (h : VAt w A (nums l)) {k : Nat} (hk : k < l.length) : ∃ b off, A = some ⟨b, off, none⟩ ∧ b < w.heap.size ∧ w.cell? ⟨b, off + k, none⟩ = some (.int .i64 l[k]) := by
  obtain ⟨b, off, h1, h2, h3⟩ := h.at_ (k := k) (by rw [nums_len]; exact hk)
  exact ⟨b, off, h1, h2, h3.trans (by simp [nums])⟩
theorem VAt.bl {w : World} {A : Option Addr} {l : List Bool} (h : VAt w A (bls l)) {k : Nat} (hk : k < l.length) : ∃ b off, A = some ⟨b, off, none⟩ ∧ b < w.heap.size ∧ w.cell? ⟨b, off + k, none⟩ = some (.bool l[k]) := by
  obtain ⟨b, off, h1, h2, h3⟩ := h.at_ (k := k) (by rw [bls_len]; exact hk)
  exact ⟨b, off, h1, h2, h3.trans (by simp [bls])⟩
theorem VV.of_own {w : World} {base n : Nat} {e : TypeId} {v : Value} {vs : List Value} (h : w.ownsRow base e 1 v n vs) : n = vs.length ∧ VV w v vs := by
  have hl : vs.length = n := by have := h.1; omega
  refine ⟨hl.symm, ?_⟩
  rcases Nat.eq_zero_or_pos n with h0 | h0
  · subst h0
    rcases h.2 with ⟨hv, -⟩ | ⟨g, cap, cur, hv, -⟩
    · exact ⟨none, 0, by rw [hv, hl], .inl (List.eq_nil_of_length_eq_zero hl)⟩
    · exact ⟨_, cap, by rw [hv, hl], .inl (List.eq_nil_of_length_eq_zero hl)⟩
  · obtain ⟨g, cap, hv, _, hlt⟩ := h.form h0
    subst hv
    refine ⟨_, cap, by rw [hl], .inr ⟨g, 0, rfl, hlt, fun j hj => ?_⟩⟩
    rw [Nat.zero_add]
    exact World.ownsRow.cellAt h j (by omega)
theorem vv_row {w : World} {b : Nat} {cs : Array Value} {t : TypeId} {vs : List Value} {n cap : Nat} (hb : w.heap[b]? = some (.cells cs t (0, 0))) (hcs : cs.toList = vs) (hn : n = vs.length) : VV w (.slice (some ⟨b, 0, none⟩) n cap) vs := by
  subst hcs hn
  refine ⟨_, cap, rfl, .inr ⟨b, 0, rfl, (Array.getElem?_eq_some_iff.1 hb).1, fun j hj => ?_⟩⟩
  rw [Nat.zero_add, cell_of_row _ _ _ _ _ (0, 0) hb]
  simp

/-- An image in memory, to be read. -/
structure ImV (w : World) (pv fv lv ev : Value) (m : Img) : Prop where
  p : VV w pv (nums m.ph)
  f : VV w fv (bls m.fl)
  l : VV w lv (bls m.lv)
  e : EV w ev m.en
theorem ImV.below {w w' : World} {pv fv lv ev : Value} {m : Img} (h : ImV w pv fv lv ev m) (hb : Below w.heap.size w w') : ImV w' pv fv lv ev m :=
  ⟨h.p.below hb, h.f.below hb, h.l.below hb, h.e.below hb⟩
/-- An image in memory of the call's own, to be written. -/
structure IOwn (w : World) (base : Nat) (pv fv lv ev : Value) (m : Img) : Prop where
  p : w.ownsRow base 3 1 pv m.ph.length (nums m.ph)
  f : w.ownsRow base 4 1 fv m.fl.length (bls m.fl)
  l : w.ownsRow base 4 1 lv m.lv.length (bls m.lv)
  e : w.ownsRow base 71 5 ev m.en.length (flatE m.en)
  ne : ∀ k, fv.ownBlock = some k → lv.ownBlock ≠ some k
theorem IOwn.view {w : World} {base : Nat} {pv fv lv ev : Value} {m : Img} (h : IOwn w base pv fv lv ev m) : ImV w pv fv lv ev m :=
  ⟨(VV.of_own h.p).2, (VV.of_own h.f).2, (VV.of_own h.l).2, (EV.of_own h.e).2⟩
theorem IOwn.mono {w : World} {base base' : Nat} {pv fv lv ev : Value} {m : Img} (h : IOwn w base pv fv lv ev m) (hb : base' ≤ base) : IOwn w base' pv fv lv ev m :=
  ⟨own_base h.p hb, own_base h.f hb, own_base h.l hb, own_base h.e hb, h.ne⟩
theorem IOwn.below {w w' : World} {base : Nat} {pv fv lv ev : Value} {m : Img} (h : IOwn w base pv fv lv ev m) (hb : Below w.heap.size w w') : IOwn w' base pv fv lv ev m :=
  ⟨own_of_blocks h.p fun j _ hj => hb.block j hj, own_of_blocks h.f fun j _ hj => hb.block j hj, own_of_blocks h.l fun j _ hj => hb.block j hj, own_of_blocks h.e fun j _ hj => hb.block j hj, h.ne⟩
/-- Rows of two types lie in two blocks. -/
theorem own_apart {w : World} {B B' : Nat} {e e' : TypeId} {s s' : Nat} {v v' : Value} {n n' : Nat} {xs xs' : List Value} (h : w.ownsRow B e s v n xs) (h' : w.ownsRow B' e' s' v' n' xs') (hne : e ≠ e') : ∀ k, v.ownBlock = some k → v'.ownBlock ≠ some k := by
  intro k hk hk'
  obtain ⟨c, fz, h1⟩ := Lib.ownsRow_kind h k hk
  obtain ⟨c', fz', h2⟩ := Lib.ownsRow_kind h' k hk'
  rw [h1] at h2
  injection h2 with h2
  injection h2 with _ h3 _
  exact hne h3
theorem own_not {w : World} {B : Nat} {e e' : TypeId} {s : Nat} {v : Value} {n : Nat} {xs : List Value} (h : w.ownsRow B e s v n xs) {g : Nat} {c : Array Value} {fz : Nat × Nat} (hg : w.heap[g]? = some (.cells c e' fz)) (hne : e ≠ e') : v.ownBlock ≠ some g := by
  intro hk
  obtain ⟨c', fz', h1⟩ := Lib.ownsRow_kind h g hk
  rw [h1] at hg
  injection hg with h2
  injection h2 with _ h3 _
  exact hne h3
/-- A row of the call's own, where only another block has been written. -/
theorem own_kept {w w' : World} {B : Nat} {e : TypeId} {s : Nat} {v : Value} {n : Nat} {xs : List Value} {row : Option Nat} (h : w.ownsRow B e s v n xs) (hg : w.grownBy w' row) (hne : ∀ k, row = some k → v.ownBlock ≠ some k) : w'.ownsRow B e s v n xs := by
  refine h.kept hg ?_
  cases hv : v.ownBlock with
  | none => exact .inl rfl
  | some k => exact .inr fun e' => hne k e'.symm hv
theorem below_grown {w w' : World} {row : Option Nat} (hg : w.grownBy w' row) {B : Nat} (hB : B ≤ w.heap.size) (hr : ∀ k, row = some k → B ≤ k) : Below B w w' := (Below.refl B w).grown hg hB hr
theorem imRowCells {w : World} {g : Nat} {a1 a2 a3 a4 : Option Addr} {n1 n2 n3 n4 c1 c2 c3 c4 : Nat} (h : w.heap[g]? = some (.cells #[.slice a1 n1 c1, .slice a2 n2 c2, .slice a3 n3 c3, .slice a4 n4 c4] 32 (0, 0))) :
    w.cell? ⟨g, 0, none⟩ = some (.slice a1 n1 c1) ∧ w.cell? ⟨g, 1, none⟩ = some (.slice a2 n2 c2) ∧ w.cell? ⟨g, 2, none⟩ = some (.slice a3 n3 c3) ∧ w.cell? ⟨g, 3, none⟩ = some (.slice a4 n4 c4) :=
  ⟨cell_of_row _ _ 0 _ _ (0, 0) h, cell_of_row _ _ 1 _ _ (0, 0) h, cell_of_row _ _ 2 _ _ (0, 0) h, cell_of_row _ _ 3 _ _ (0, 0) h⟩
theorem enRowCells {w : World} {g : Nat} {f d c m : Int} {x : Bool} (h : w.heap[g]? = some (.cells #[.int .i64 f, .int .i64 d, .int .i64 c, .int .i64 m, .bool x] 71 (0, 0))) :
    w.cell? ⟨g, 0, none⟩ = some (.int .i64 f) ∧ w.cell? ⟨g, 1, none⟩ = some (.int .i64 d) ∧ w.cell? ⟨g, 2, none⟩ = some (.int .i64 c) ∧ w.cell? ⟨g, 3, none⟩ = some (.int .i64 m) ∧ w.cell? ⟨g, 4, none⟩ = some (.bool x) :=
  ⟨cell_of_row _ _ 0 _ _ (0, 0) h, cell_of_row _ _ 1 _ _ (0, 0) h, cell_of_row _ _ 2 _ _ (0, 0) h, cell_of_row _ _ 3 _ _ (0, 0) h, cell_of_row _ _ 4 _ _ (0, 0) h⟩
/-- A cell of a row of entries is set. -/
theorem flatE_set : ∀ (l : List En) (i k : Nat) (hi : i < l.length) (_ : k < 5) (u : Value) (g : En → En), (g (l[i])).cells = (l[i]).cells.set k u → (flatE l).set (i * 5 + k) u = flatE (l.modify i g)
  | c :: l, 0, k, _, hk, u, g, h => by
    rw [List.modify_zero_cons, flatE_cons, flatE_cons, Nat.zero_mul, Nat.zero_add, List.set_append_left _ _ (by show k < 5; exact hk)]
    rw [show (g c).cells = c.cells.set k u from h]
  | c :: l, i + 1, k, hi, hk, u, g, h => by
    have ih := flatE_set l i k (by simpa using hi) hk u g h
    rw [List.modify_succ_cons, flatE_cons, flatE_cons, List.set_append_right _ _ (by show 5 ≤ _; omega), ← ih]
    congr 2
    show (i + 1) * 5 + k - 5 = _
    omega
end

section
open Go.RowKit

theorem grownBy_setRow (w : World) (b : Nat) (cs : Array Value) : w.grownBy (w.setRow b cs) (some b) :=
  ⟨rfl, rfl, rfl, by rw [size_setRow]; exact Nat.le_refl _, fun k _ hk => setRow_other w b k cs (fun e => hk (by rw [e]))⟩
theorem wp_put {P : Program} {op : Oper} {a : Act} {K : Act → World → Prop} {Q : Exit → Act → World → Prop} {w : World} (ty : TypeId) (x y : Operand) (ho : op.op = .store ty x y)
    (b : Nat) (cells old : Array Value) (t : TypeId) (hx : a.eval x = .pointer (some ⟨b, 0, none⟩)) (hy : a.eval y = .agg cells) (hg : w.heap[b]? = some (.cells old t (0, 0)))
    (hi : (P.info? ty).map (·.size) = some cells.size) (hsz : old.size = cells.size) (h1 : cells.all (·.oneCell') = true)
    (h : ∀ w2, Hid (w2.heap[b]? = some (.cells cells t (0, 0))) → Hid (w.grownBy w2 (some b)) → K (a.put op.dst undef) w2) : op.wp P a w K Q := by
  unfold Oper.wp execOp
  simp only [ho, hx, hy, Instr.storeAt, Instr.sureAddr, Sem.run_bind, Sem.run_pure, Result.andThen_ok, run_storeVar_row w b t ty old cells hg hi hsz h1]
  exact h _ (setRow_heap w b _ cells t _ hg) (grownBy_setRow w b cells)
theorem wpList_put {P : Program} {ops : Array Oper} {rest : List Oper} {op : Oper} {a : Act} {w : World} {Q : Exit → Act → World → Prop} (hgd : op.guard = none) (ty : TypeId) (x y : Operand) (ho : op.op = .store ty x y)
    (b : Nat) (cells old : Array Value) (t : TypeId) (hx : a.eval x = .pointer (some ⟨b, 0, none⟩)) (hy : a.eval y = .agg cells) (hg : w.heap[b]? = some (.cells old t (0, 0)))
    (hi : (P.info? ty).map (·.size) = some cells.size) (hsz : old.size = cells.size) (h1 : cells.all (·.oneCell') = true)
    (h : ∀ w2, Hid (w2.heap[b]? = some (.cells cells t (0, 0))) → Hid (w.grownBy w2 (some b)) → wpList P ops Q rest (a.put op.dst undef) w2) : wpList P ops Q (op :: rest) a w :=
  wpList_plain hgd fun _ hK => wp_put ty x y ho b cells old t hx hy hg hi hsz h1 (fun w2 h1 h2 => hK _ _ (h w2 h1 h2))
/-- One box made. -/
theorem box1 {w wx : World} {A : Obj} (h : Below (w.alloc A).heap.size (w.alloc A) wx) : wx.heap[w.heap.size]? = some A :=
  (h.block _ (by simp)).trans (heap_alloc_new w A)
end

section
open Go.RowKit

namespace Lg
def cmpI (a b : Int) : Int := if a < b then -1 else if b < a then 1 else 0
def orF : List Int → Int | [] => 0 | a :: l => if a = 0 then orF l else a
def ordI (a b : En) : Int := orF [cmpI a.f b.f, cmpI a.d b.d]
theorem ordI_neg (a b : En) : decide (ordI a b < 0) = lessE a b := by
  unfold ordI orF orF orF cmpI lessE
  rw [Bool.eq_iff_iff]
  simp
  split <;> split <;> (try split) <;> omega
theorem ordI_zero (a b : En) : decide (ordI a b = 0) = (decide (a.f = b.f) && decide (a.d = b.d)) := by
  unfold ordI orF orF orF cmpI
  rw [Bool.eq_iff_iff]
  simp
  split <;> split <;> (try split) <;> (try split) <;> omega
end Lg
open Lg

theorem isNaN_any (x : Int) (w : World) : Calls Try.prog 112 #[.int .i64 x] w fun e w' => e = .returned (.bool false) ∧ w = w' := by
  go_enter Try.func112, Try.ntmps112
  go_wp2
  all_goals
    go_ret
    exact ⟨rfl, rfl⟩
theorem compare_any (x y : Int) (w : World) : Calls Try.prog 105 #[.int .i64 x, .int .i64 y] w fun e w' => e = .returned (.int .i64 (cmpI x y)) ∧ w = w' := by
  rcases Int.lt_trichotomy x y with h | h | h
  · rw [show cmpI x y = -1 by unfold cmpI; rw [if_pos h]]
    go_enter Try.func105, Try.ntmps105
    go_wp2_with (go_at_call 112; refine (isNaN_any _ _).mono ?_; rintro e w' ⟨rfl, rfl⟩)
    all_goals
      go_ret
      exact ⟨rfl, rfl⟩
  · subst h
    rw [show cmpI x x = 0 by unfold cmpI; rw [if_neg (by omega), if_neg (by omega)]]
    go_enter Try.func105, Try.ntmps105
    go_wp2_with (go_at_call 112; refine (isNaN_any _ _).mono ?_; rintro e w' ⟨rfl, rfl⟩)
    all_goals
      go_ret
      exact ⟨rfl, rfl⟩
  · rw [show cmpI x y = 1 by unfold cmpI; rw [if_neg (by omega), if_pos h]]
    have h1 : ¬ x < y := by omega
    go_enter Try.func105, Try.ntmps105
    go_wp2_with (go_at_call 112; refine (isNaN_any _ _).mono ?_; rintro e w' ⟨rfl, rfl⟩)
    all_goals
      go_ret
      exact ⟨rfl, rfl⟩
theorem orF_drop {l : List Int} {k : Nat} (h : k < l.length) : orF (l.drop k) = if l[k] = 0 then orF (l.drop (k + 1)) else l[k] := by
  rw [List.drop_eq_getElem_cons h]; rfl
theorem or_any (l : List Int) (v : Value) (w : World) (hl : l.length ≤ 1000) (hv : VV w v (nums l)) :
    Calls Try.prog 104 #[v] w fun e w' => e = .returned (.int .i64 (orF l)) ∧ w = w' := by
  obtain ⟨A, cap, rfl, hA⟩ := hv
  rw [nums_len]
  have HA := Lib.hid (fun k (hk : k < l.length) => hA.num hk)
  clear hA
  obtain ⟨R, hR⟩ : ∃ R, R = orF l := ⟨_, rfl⟩
  rw [← hR]
  have HR := Lib.hid hR
  clear hR
  go_enter Try.func104, Try.ntmps104
  go_wp2
  go_loop [8] (fun i => ∃ k : Nat, k ≤ l.length ∧ i = .int .i64 k ∧ Hid (R = orF (l.drop k))) (fun i => l.length - (intOf i).toNat)
  case atStart => exact ⟨0, Nat.zero_le _, rfl, HR.out⟩
  case round =>
    obtain ⟨k, hk, rfl, hin⟩ := hrel
    by_cases hlt : k < l.length
    · obtain ⟨b, off, rfl, hb, hcell⟩ := HA.out k hlt
      have hs := orF_drop hlt
      rw [← hin.out] at hs
      have HS := Lib.hid hs
      clear hs hin
      generalize l[k] = z at *
      by_cases hz : z = 0
      · subst hz
        go_wp2
        go_round
        case rel => exact ⟨k + 1, by omega, by go_num, HS.out.trans (if_pos rfl)⟩
        case measure => simp [intOf]; omega
      · have e : R = z := HS.out.trans (if_neg hz)
        have E := Lib.hid e
        clear e
        have hz' : (z != 0) = true := by simp [hz]
        go_wp2
        go_ret
        exact ⟨ret_int E.out.symm, rfl⟩
    · have e : R = 0 := by rw [hin.out, List.drop_eq_nil_of_le (by omega)]; rfl
      have E := Lib.hid e
      clear e hin
      go_wp2
      go_ret
      exact ⟨ret_int E.out.symm, rfl⟩
theorem phB_drop {l : List Int} {k : Nat} (h : k < l.length) : (l.drop k).all Img.phB = (Img.phB l[k] && (l.drop (k + 1)).all Img.phB) := by
  rw [List.drop_eq_getElem_cons h]; rfl
theorem arePhases_any (l : List Int) (v : Value) (w : World) (hl : l.length ≤ maxLen) (hv : VV w v (nums l)) :
    Calls Try.prog 53 #[v] w fun e w' => e = .returned (.bool (l.all Img.phB)) ∧ w = w' := by
  unfold maxLen at hl
  obtain ⟨A, cap, rfl, hA⟩ := hv
  rw [nums_len]
  have HA := Lib.hid (fun k (hk : k < l.length) => hA.num hk)
  clear hA
  obtain ⟨R, hR⟩ : ∃ R, R = l.all Img.phB := ⟨_, rfl⟩
  rw [← hR]
  have HR := Lib.hid hR
  clear hR
  go_enter Try.func53, Try.ntmps53
  go_wp2
  go_loop [7] (fun i => ∃ k : Nat, k ≤ l.length ∧ i = .int .i64 k ∧ Hid (R = (l.drop k).all Img.phB)) (fun i => l.length - (intOf i).toNat)
  case atStart => exact ⟨0, Nat.zero_le _, rfl, HR.out⟩
  case round =>
    obtain ⟨k, hk, rfl, hin⟩ := hrel
    by_cases hlt : k < l.length
    · obtain ⟨b, off, rfl, hb, hcell⟩ := HA.out k hlt
      have hs := phB_drop hlt
      rw [← hin.out] at hs
      have HS := Lib.hid hs
      clear hs hin
      generalize l[k] = z at *
      by_cases hz : 0 ≤ z ∧ z ≤ 4
      · have e : R = (l.drop (k + 1)).all Img.phB := HS.out.trans (by simp [Img.phB, hz])
        have E := Lib.hid e
        clear e
        obtain ⟨h0, h4⟩ := hz
        have h0' : ¬ z < 0 := by omega
        have h4' : ¬ 4 < z := by omega
        go_wp2
        go_round
        case rel => exact ⟨k + 1, by omega, by go_num, E.out⟩
        case measure => simp [intOf]; omega
      · have e : R = false := HS.out.trans (by simp [Img.phB]; intro h0 h4; omega)
        have E := Lib.hid e
        clear e
        by_cases h0 : z < 0
        · go_wp2
          go_ret
          exact ⟨ret_bool E.out.symm, rfl⟩
        · have h4 : 4 < z := by omega
          go_wp2
          go_ret
          exact ⟨ret_bool E.out.symm, rfl⟩
    · have e : R = true := by rw [hin.out, List.drop_eq_nil_of_le (by omega)]; rfl
      have E := Lib.hid e
      clear e hin
      go_wp2
      go_ret
      exact ⟨ret_bool E.out.symm, rfl⟩
theorem number_any (c : Bool) (w : World) : Calls Try.prog 33 #[.bool c] w fun e w' => e = .returned (.int .i64 (Img.one c)) ∧ w = w' := by
  cases c
  all_goals
    go_enter Try.func33, Try.ntmps33
    go_wp2
    go_ret
    exact ⟨rfl, rfl⟩
end

section
open Go.RowKit Lg

def En.agg (e : En) : Value := .agg #[.int .i64 e.f, .int .i64 e.d, .int .i64 e.car, .int .i64 e.mv, .bool e.md]
theorem boxes2 {w wx : World} {A B : Obj} (h : Below ((w.alloc A).alloc B).heap.size ((w.alloc A).alloc B) wx) : wx.heap[w.heap.size]? = some A ∧ wx.heap[w.heap.size + 1]? = some B := by
  have e2 : ((w.alloc A).alloc B).heap[w.heap.size + 1]? = some B := by
    have := heap_alloc_new (w.alloc A) B
    simpa using this
  exact ⟨(h.block _ (by simp; omega)).trans ((Below.heap_alloc _ _ _ (by simp)).trans (heap_alloc_new w A)), (h.block _ (by simp)).trans e2⟩
set_option maxHeartbeats 2000000 in
set_option maxRecDepth 100000 in
theorem order_any (a b : En) (w : World) : Calls Try.prog 84 #[a.agg, b.agg] w fun e w' => e = .returned (.int .i64 (ordI a b)) ∧ Below w.heap.size w w' := by
  have F1 := Lib.hid (fun w => compare_any a.f b.f w)
  have F2 := Lib.hid (fun w => compare_any a.d b.d w)
  have FO := Lib.hid (fun v wx (hv : VV wx v (nums [cmpI a.f b.f, cmpI a.d b.d])) => or_any [cmpI a.f b.f, cmpI a.d b.d] v wx (by simp) hv)
  have HO : ordI a b = orF [cmpI a.f b.f, cmpI a.d b.d] := rfl
  rw [HO]
  clear HO
  generalize orF [cmpI a.f b.f, cmpI a.d b.d] = R at *
  generalize cmpI a.f b.f = x1 at *
  generalize cmpI a.d b.d = x2 at *
  obtain ⟨a1, a2, a3, a4, a5⟩ := a
  obtain ⟨b1, b2, b3, b4, b5⟩ := b
  simp only [En.agg] at *
  go_enter Try.func84, Try.ntmps84
  go_wp2_with fail
  refine Ghost.ghost (fun γ L wx => Ghost.Made (((w.alloc (.cells #[.int .i64 a1, .int .i64 a2, .int .i64 a3, .int .i64 a4, .bool a5] 71)).alloc (.cells #[.int .i64 b1, .int .i64 b2, .int .i64 b3, .int .i64 b4, .bool b5] 71))) 10 (.cells #[.int .i64 x1, .int .i64 x2] 3 (0, 0)) γ L wx) (by kernel_rfl) (by kernel_rfl) (fun γ => ⟨(Below.refl _ _).drew, fun h => absurd h Bool.false_ne_true⟩) ?_
  apply Ghost.walk_const (fun γ => by rfl)
  · intro γ L wx h1 h2 hx K hK
    obtain ⟨r1, r2⟩ := boxes2 hx.below
    obtain ⟨c0, c1, c2, c3, c4⟩ := enRowCells r1
    obtain ⟨d0, d1, d2, d3, d4⟩ := enRowCells r2
    have HK2 := Lib.hid hK
    have HX := Lib.hid hx
    clear hK h1 h2 hx
    go_simp
    first
      | (go_at_call 105; (with_reducible refine (F1.out _).mono ?_); rintro e w' ⟨rfl, rfl⟩; exact HK2.out _ (HX.out.next (by decide) (Below.refl _ _)))
      | (go_at_call 105; (with_reducible refine (F2.out _).mono ?_); rintro e w' ⟨rfl, rfl⟩; exact HK2.out _ (HX.out.next (by decide) (Below.refl _ _)))
      | exact HK2.out _ (HX.out.next (by decide) (Below.refl _ _))
  try simp only [Act.put, List.setIfInBounds_toArray, List.set_cons_succ, List.set_cons_zero]
  apply Ghost.walk_const (fun γ => by rfl)
  · intro γ L wx h1 h2 hx K hK
    obtain ⟨r1, r2⟩ := boxes2 hx.below
    obtain ⟨c0, c1, c2, c3, c4⟩ := enRowCells r1
    obtain ⟨d0, d1, d2, d3, d4⟩ := enRowCells r2
    have HK2 := Lib.hid hK
    have HX := Lib.hid hx
    clear hK h1 h2 hx
    go_simp
    first
      | (go_at_call 105; (with_reducible refine (F1.out _).mono ?_); rintro e w' ⟨rfl, rfl⟩; exact HK2.out _ (HX.out.next (by decide) (Below.refl _ _)))
      | (go_at_call 105; (with_reducible refine (F2.out _).mono ?_); rintro e w' ⟨rfl, rfl⟩; exact HK2.out _ (HX.out.next (by decide) (Below.refl _ _)))
      | exact HK2.out _ (HX.out.next (by decide) (Below.refl _ _))
  try simp only [Act.put, List.setIfInBounds_toArray, List.set_cons_succ, List.set_cons_zero]
  apply Ghost.walk_const (fun γ => by rfl)
  · intro γ L wx h1 h2 hx K hK
    obtain ⟨r1, r2⟩ := boxes2 hx.below
    obtain ⟨c0, c1, c2, c3, c4⟩ := enRowCells r1
    obtain ⟨d0, d1, d2, d3, d4⟩ := enRowCells r2
    have HK2 := Lib.hid hK
    have HX := Lib.hid hx
    clear hK h1 h2 hx
    go_simp
    first
      | (go_at_call 105; (with_reducible refine (F1.out _).mono ?_); rintro e w' ⟨rfl, rfl⟩; exact HK2.out _ (HX.out.next (by decide) (Below.refl _ _)))
      | (go_at_call 105; (with_reducible refine (F2.out _).mono ?_); rintro e w' ⟨rfl, rfl⟩; exact HK2.out _ (HX.out.next (by decide) (Below.refl _ _)))
      | exact HK2.out _ (HX.out.next (by decide) (Below.refl _ _))
  try simp only [Act.put, List.setIfInBounds_toArray, List.set_cons_succ, List.set_cons_zero]
  apply Ghost.walk_const (fun γ => by rfl)
  · intro γ L wx h1 h2 hx K hK
    obtain ⟨r1, r2⟩ := boxes2 hx.below
    obtain ⟨c0, c1, c2, c3, c4⟩ := enRowCells r1
    obtain ⟨d0, d1, d2, d3, d4⟩ := enRowCells r2
    have HK2 := Lib.hid hK
    have HX := Lib.hid hx
    clear hK h1 h2 hx
    go_simp
    first
      | (go_at_call 105; (with_reducible refine (F1.out _).mono ?_); rintro e w' ⟨rfl, rfl⟩; exact HK2.out _ (HX.out.next (by decide) (Below.refl _ _)))
      | (go_at_call 105; (with_reducible refine (F2.out _).mono ?_); rintro e w' ⟨rfl, rfl⟩; exact HK2.out _ (HX.out.next (by decide) (Below.refl _ _)))
      | exact HK2.out _ (HX.out.next (by decide) (Below.refl _ _))
  try simp only [Act.put, List.setIfInBounds_toArray, List.set_cons_succ, List.set_cons_zero]
  apply Ghost.walk_const (fun γ => by rfl)
  · intro γ L wx h1 h2 hx K hK
    obtain ⟨r1, r2⟩ := boxes2 hx.below
    obtain ⟨c0, c1, c2, c3, c4⟩ := enRowCells r1
    obtain ⟨d0, d1, d2, d3, d4⟩ := enRowCells r2
    have HK2 := Lib.hid hK
    have HX := Lib.hid hx
    clear hK h1 h2 hx
    go_simp
    first
      | (go_at_call 105; (with_reducible refine (F1.out _).mono ?_); rintro e w' ⟨rfl, rfl⟩; exact HK2.out _ (HX.out.next (by decide) (Below.refl _ _)))
      | (go_at_call 105; (with_reducible refine (F2.out _).mono ?_); rintro e w' ⟨rfl, rfl⟩; exact HK2.out _ (HX.out.next (by decide) (Below.refl _ _)))
      | exact HK2.out _ (HX.out.next (by decide) (Below.refl _ _))
  try simp only [Act.put, List.setIfInBounds_toArray, List.set_cons_succ, List.set_cons_zero]
  apply Ghost.walk_const (fun γ => by rfl)
  · intro γ L wx h1 h2 hx K hK
    obtain ⟨r1, r2⟩ := boxes2 hx.below
    obtain ⟨c0, c1, c2, c3, c4⟩ := enRowCells r1
    obtain ⟨d0, d1, d2, d3, d4⟩ := enRowCells r2
    have HK2 := Lib.hid hK
    have HX := Lib.hid hx
    clear hK h1 h2 hx
    go_simp
    first
      | (go_at_call 105; (with_reducible refine (F1.out _).mono ?_); rintro e w' ⟨rfl, rfl⟩; exact HK2.out _ (HX.out.next (by decide) (Below.refl _ _)))
      | (go_at_call 105; (with_reducible refine (F2.out _).mono ?_); rintro e w' ⟨rfl, rfl⟩; exact HK2.out _ (HX.out.next (by decide) (Below.refl _ _)))
      | exact HK2.out _ (HX.out.next (by decide) (Below.refl _ _))
  try simp only [Act.put, List.setIfInBounds_toArray, List.set_cons_succ, List.set_cons_zero]
  apply Ghost.walk_const (fun γ => by rfl)
  · intro γ L wx h1 h2 hx K hK
    obtain ⟨r1, r2⟩ := boxes2 hx.below
    obtain ⟨c0, c1, c2, c3, c4⟩ := enRowCells r1
    obtain ⟨d0, d1, d2, d3, d4⟩ := enRowCells r2
    have HK2 := Lib.hid hK
    have HX := Lib.hid hx
    clear hK h1 h2 hx
    go_simp
    first
      | (go_at_call 105; (with_reducible refine (F1.out _).mono ?_); rintro e w' ⟨rfl, rfl⟩; exact HK2.out _ (HX.out.next (by decide) (Below.refl _ _)))
      | (go_at_call 105; (with_reducible refine (F2.out _).mono ?_); rintro e w' ⟨rfl, rfl⟩; exact HK2.out _ (HX.out.next (by decide) (Below.refl _ _)))
      | exact HK2.out _ (HX.out.next (by decide) (Below.refl _ _))
  try simp only [Act.put, List.setIfInBounds_toArray, List.set_cons_succ, List.set_cons_zero]
  apply Ghost.walk_const (fun γ => by rfl)
  · intro γ L wx h1 h2 hx K hK
    obtain ⟨r1, r2⟩ := boxes2 hx.below
    obtain ⟨c0, c1, c2, c3, c4⟩ := enRowCells r1
    obtain ⟨d0, d1, d2, d3, d4⟩ := enRowCells r2
    have HK2 := Lib.hid hK
    have HX := Lib.hid hx
    clear hK h1 h2 hx
    go_simp
    first
      | (go_at_call 105; (with_reducible refine (F1.out _).mono ?_); rintro e w' ⟨rfl, rfl⟩; exact HK2.out _ (HX.out.next (by decide) (Below.refl _ _)))
      | (go_at_call 105; (with_reducible refine (F2.out _).mono ?_); rintro e w' ⟨rfl, rfl⟩; exact HK2.out _ (HX.out.next (by decide) (Below.refl _ _)))
      | exact HK2.out _ (HX.out.next (by decide) (Below.refl _ _))
  try simp only [Act.put, List.setIfInBounds_toArray, List.set_cons_succ, List.set_cons_zero]
  apply Ghost.walk_const (fun γ => by rfl)
  · intro γ L wx h1 h2 hx K hK
    obtain ⟨r1, r2⟩ := boxes2 hx.below
    obtain ⟨c0, c1, c2, c3, c4⟩ := enRowCells r1
    obtain ⟨d0, d1, d2, d3, d4⟩ := enRowCells r2
    have HK2 := Lib.hid hK
    have HX := Lib.hid hx
    clear hK h1 h2 hx
    go_simp
    first
      | (go_at_call 105; (with_reducible refine (F1.out _).mono ?_); rintro e w' ⟨rfl, rfl⟩; exact HK2.out _ (HX.out.next (by decide) (Below.refl _ _)))
      | (go_at_call 105; (with_reducible refine (F2.out _).mono ?_); rintro e w' ⟨rfl, rfl⟩; exact HK2.out _ (HX.out.next (by decide) (Below.refl _ _)))
      | exact HK2.out _ (HX.out.next (by decide) (Below.refl _ _))
  try simp only [Act.put, List.setIfInBounds_toArray, List.set_cons_succ, List.set_cons_zero]
  apply Ghost.walk_const (fun γ => by rfl)
  · intro γ L wx h1 h2 hx K hK
    obtain ⟨r1, r2⟩ := boxes2 hx.below
    obtain ⟨c0, c1, c2, c3, c4⟩ := enRowCells r1
    obtain ⟨d0, d1, d2, d3, d4⟩ := enRowCells r2
    have HK2 := Lib.hid hK
    have HX := Lib.hid hx
    clear hK h1 h2 hx
    go_simp
    first
      | (go_at_call 105; (with_reducible refine (F1.out _).mono ?_); rintro e w' ⟨rfl, rfl⟩; exact HK2.out _ (HX.out.next (by decide) (Below.refl _ _)))
      | (go_at_call 105; (with_reducible refine (F2.out _).mono ?_); rintro e w' ⟨rfl, rfl⟩; exact HK2.out _ (HX.out.next (by decide) (Below.refl _ _)))
      | exact HK2.out _ (HX.out.next (by decide) (Below.refl _ _))
  try simp only [Act.put, List.setIfInBounds_toArray, List.set_cons_succ, List.set_cons_zero]
  refine Ghost.walk_yes (fun b => .slice (some ⟨b, 0, none⟩) 2 2) (fun γ => by rfl) ?_ ?_
  · intro γ L wx h1 h2 hx K hK
    obtain ⟨r1, r2⟩ := boxes2 hx.below
    obtain ⟨c0, c1, c2, c3, c4⟩ := enRowCells r1
    obtain ⟨d0, d1, d2, d3, d4⟩ := enRowCells r2
    have HK2 := Lib.hid hK
    have HX := Lib.hid hx
    clear hK h1 h2 hx
    go_simp
    exact HK2.out wx.heap.size _ HX.out.make
  try simp only [Act.put, List.setIfInBounds_toArray, List.set_cons_succ, List.set_cons_zero]
  apply Ghost.walk_const (fun γ => by rfl)
  · intro γ L wx h1 h2 hx K hK
    obtain ⟨r1, r2⟩ := boxes2 hx.below
    obtain ⟨c0, c1, c2, c3, c4⟩ := enRowCells r1
    obtain ⟨d0, d1, d2, d3, d4⟩ := enRowCells r2
    have HR := Lib.hid (hx.row (h2 10 (by kernel_rfl))).2
    have HK2 := Lib.hid hK
    have HX := Lib.hid hx
    clear hK h1 h2 hx
    go_simp
    (go_at_call 104; refine (FO.out _ _ (vv_row HR.out rfl rfl)).mono ?_; rintro e w' ⟨rfl, rfl⟩; exact HK2.out _ (HX.out.next (by decide) (Below.refl _ _)))
  try simp only [Act.put, List.setIfInBounds_toArray, List.set_cons_succ, List.set_cons_zero]
  apply Ghost.walk_const (fun γ => by rfl)
  · intro γ L wx h1 h2 hx K hK
    obtain ⟨r1, r2⟩ := boxes2 hx.below
    obtain ⟨c0, c1, c2, c3, c4⟩ := enRowCells r1
    obtain ⟨d0, d1, d2, d3, d4⟩ := enRowCells r2
    have HK2 := Lib.hid hK
    have HX := Lib.hid hx
    clear hK h1 h2 hx
    go_simp
    first
      | (go_at_call 105; (with_reducible refine (F1.out _).mono ?_); rintro e w' ⟨rfl, rfl⟩; exact HK2.out _ (HX.out.next (by decide) (Below.refl _ _)))
      | (go_at_call 105; (with_reducible refine (F2.out _).mono ?_); rintro e w' ⟨rfl, rfl⟩; exact HK2.out _ (HX.out.next (by decide) (Below.refl _ _)))
      | exact HK2.out _ (HX.out.next (by decide) (Below.refl _ _))
  try simp only [Act.put, List.setIfInBounds_toArray, List.set_cons_succ, List.set_cons_zero]
  refine Ghost.walk_nil (fun γ L w4 hall hx => ?_)
  have hr := (hx.row (hall 10 (by show 10 < 13; decide))).2
  have hb := hx.below
  clear hall hx
  simp only [Nat.zero_add, Nat.reduceAdd] at hr ⊢
  generalize γ 10 = g at *
  go_wp2
  go_ret
  exact ⟨rfl, (((Below.refl _ _).alloc (Nat.le_refl _) _).alloc (by simp) _).trans (hb.mono (by simp; omega))⟩
end

section
open Go.RowKit GhostV

/-- The row that operation i makes: its element's type and size, how many, its cells. -/
structure OwnD where
  i : Nat
  e : TypeId
  s : Nat
  n : Nat
  xs : List Value
def rowOf (γ : Gh) (rs : List Nat) (tl : List Value) : Array Value := (rs.map γ ++ tl).toArray
structure GI (W1 : World) (t2 : Nat) (T : TypeId) (Z : Array Value) (D : List OwnD) (rs : List Nat) (tl : List Value) (bd st : Nat) (γ : Gh) (L : Run) (wx : World) : Prop where
  grown : W1.grownBy wx (some t2)
  row : ∀ d ∈ D, L d.i = true → wx.ownsRow W1.heap.size d.e d.s (γ d.i) d.n d.xs
  ne : ∀ d ∈ D, ∀ d' ∈ D, d.i ≠ d'.i → L d.i = true → L d'.i = true → ∀ k, (γ d.i).ownBlock = some k → (γ d'.i).ownBlock ≠ some k
  agg : L bd = true → γ bd = .agg (rowOf γ rs tl) ∧ ∀ i ∈ rs, L i = true
  box : wx.heap[t2]? = some (.cells (if L st = true then rowOf γ rs tl else Z) T (0, 0))
  sb : L st = true → L bd = true
theorem grown_trans {a b c : World} {row : Option Nat} (h : a.grownBy b row) (k : b.grownBy c row) : a.grownBy c row :=
  ⟨k.os.trans h.os, k.tape.trans h.tape, k.output.trans h.output, Nat.le_trans h.size k.size, fun j hj hn => (k.block j (Nat.lt_of_lt_of_le hj h.size) hn).trans (h.block j hj hn)⟩
theorem grown_below {a b : World} (h : Below a.heap.size a b) (row : Option Nat) : a.grownBy b row := ⟨h.os, h.tape, h.output, h.size, fun j hj _ => h.block j hj⟩
theorem ne_mem {rs : List Nat} {i j : Nat} (hj : j ∈ rs) (hi : i ∉ rs) : j ≠ i := fun e => hi (by rw [← e]; exact hj)
namespace GI
variable {W1 : World} {t2 : Nat} {T : TypeId} {Z : Array Value} {D : List OwnD} {rs : List Nat} {tl : List Value} {bd st : Nat}
theorem start (γ : Gh) (ht : W1.heap[t2]? = some (.cells Z T (0, 0))) : GI W1 t2 T Z D rs tl bd st γ (fun _ => false) { W1 with drawn := W1.drawn + 1 } :=
  ⟨⟨rfl, rfl, rfl, Nat.le_refl _, fun _ _ _ => rfl⟩, fun _ _ h => absurd h Bool.false_ne_true, fun _ _ _ _ _ h => absurd h Bool.false_ne_true, fun h => absurd h Bool.false_ne_true, ht, fun h => absurd h Bool.false_ne_true⟩
theorem mk_ne {L : Run} {i j : Nat} (h : j ≠ i) : GhostV.mark L i j = L j := by unfold GhostV.mark; rw [if_neg h]
theorem mk_eq (L : Run) (i : Nat) : GhostV.mark L i i = true := by unfold GhostV.mark; rw [if_pos rfl]
theorem up_ne {γ : Gh} {i j : Nat} {v : Value} (h : j ≠ i) : upd γ i v j = γ j := by unfold upd; rw [if_neg h]
theorem up_eq (γ : Gh) (i : Nat) (v : Value) : upd γ i v i = v := by unfold upd; rw [if_pos rfl]
theorem rowOf_ne {γ : Gh} {i : Nat} {v : Value} (h : i ∉ rs) : rowOf (upd γ i v) rs tl = rowOf γ rs tl := by
  unfold rowOf
  congr 2
  apply List.map_congr_left
  intro j hj
  exact up_ne (ne_mem hj h)
theorem base_lt {γ : Gh} {L : Run} {wx : World} (h : GI W1 t2 T Z D rs tl bd st γ L wx) : W1.heap.size ≤ wx.heap.size := h.grown.size
theorem box_lt {γ : Gh} {L : Run} {wx : World} (h : GI W1 t2 T Z D rs tl bd st γ L wx) : t2 < wx.heap.size := (Array.getElem?_eq_some_iff.1 h.box).1
/-- An operation, number i, that is none of the special ones. -/
theorem next {γ : Gh} {L : Run} {wx w' : World} {i : Nat} (h : GI W1 t2 T Z D rs tl bd st γ L wx) (v : Value) (hi : (D.all fun d => decide (d.i ≠ i)) = true) (hr : i ∉ rs) (h1 : bd ≠ i) (h2 : st ≠ i) (hb : Below wx.heap.size wx w') : GI W1 t2 T Z D rs tl bd st (upd γ i v) (GhostV.mark L i) w' := by
  have H : ∀ d ∈ D, d.i ≠ i := fun d hd => of_decide_eq_true (List.all_eq_true.1 hi d hd)
  refine ⟨grown_trans h.grown (grown_below hb _), fun d hd hl => ?_, fun d hd d' hd' hn hl hl' => ?_, fun hl => ?_, ?_, fun hl => ?_⟩
  · rw [mk_ne (H d hd)] at hl
    rw [up_ne (H d hd)]
    exact own_of_blocks (h.row d hd hl) fun j _ hj => hb.block j hj
  · rw [mk_ne (H d hd)] at hl
    rw [mk_ne (H d' hd')] at hl'
    rw [up_ne (H d hd), up_ne (H d' hd')]
    exact h.ne d hd d' hd' hn hl hl'
  · rw [mk_ne h1] at hl
    rw [up_ne h1, rowOf_ne hr]
    exact ⟨(h.agg hl).1, fun j hj => by rw [mk_ne (ne_mem hj hr)]; exact (h.agg hl).2 j hj⟩
  · rw [mk_ne h2, rowOf_ne hr, hb.block _ h.box_lt]
    exact h.box
  · rw [mk_ne h2] at hl
    rw [mk_ne h1]
    exact h.sb hl
/-- An operation that makes a row. -/
theorem make {γ : Gh} {L : Run} {wx w' : World} {i : Nat} (h : GI W1 t2 T Z D rs tl bd st γ L wx) (h0 : L i = false) {v : Value} (h1 : bd ≠ i) (h2 : st ≠ i) (hir : i ∈ rs ∨ i ∉ rs) (hv : ∀ d ∈ D, d.i = i → w'.ownsRow wx.heap.size d.e d.s v d.n d.xs) (hb : Below wx.heap.size wx w') :
    GI W1 t2 T Z D rs tl bd st (upd γ i v) (GhostV.mark L i) w' := by
  have hno : i ∈ rs → L bd = false := fun hi => by
    cases hL : L bd
    · rfl
    · have := (h.agg hL).2 i hi
      rw [h0] at this; cases this
  refine ⟨grown_trans h.grown (grown_below hb _), fun d hd hl => ?_, fun d hd d' hd' hn hl hl' => ?_, fun hl => ?_, ?_, fun hl => ?_⟩
  · by_cases hdi : d.i = i
    · rw [hdi, up_eq]
      exact own_base (hv d hd hdi) h.base_lt
    · rw [mk_ne hdi] at hl
      rw [up_ne hdi]
      exact own_of_blocks (h.row d hd hl) fun j _ hj => hb.block j hj
  · by_cases hdi : d.i = i
    · have hdi' : d'.i ≠ i := fun e => hn (hdi.trans e.symm)
      rw [mk_ne hdi'] at hl'
      rw [hdi, up_eq, up_ne hdi']
      intro k hk hk'
      have a1 := ((hv d hd hdi).lt k hk).1
      have a2 := ((h.row d' hd' hl').lt k hk').2
      omega
    · rw [mk_ne hdi] at hl
      rw [up_ne hdi]
      by_cases hdi' : d'.i = i
      · rw [hdi', up_eq]
        intro k hk hk'
        have a1 := ((hv d' hd' hdi').lt k hk').1
        have a2 := ((h.row d hd hl).lt k hk).2
        omega
      · rw [mk_ne hdi'] at hl'
        rw [up_ne hdi']
        exact h.ne d hd d' hd' hn hl hl'
  · rw [mk_ne h1] at hl
    rcases hir with hi | hi
    · rw [hno hi] at hl; cases hl
    · rw [up_ne h1, rowOf_ne hi]
      exact ⟨(h.agg hl).1, fun j hj => by rw [mk_ne (ne_mem hj hi)]; exact (h.agg hl).2 j hj⟩
  · rw [mk_ne h2, hb.block _ h.box_lt, h.box]
    cases hL : L st
    · simp
    · rcases hir with hi | hi
      · have := h.sb hL; rw [hno hi] at this; cases this
      · rw [rowOf_ne hi]
  · rw [mk_ne h2] at hl
    rw [mk_ne h1]
    exact h.sb hl
/-- The struct is built. -/
theorem build {γ : Gh} {L : Run} {wx : World} (h : GI W1 t2 T Z D rs tl bd st γ L wx) (hD : (D.all fun d => decide (d.i ≠ bd)) = true) (hr : bd ∉ rs) (hs : st ≠ bd) (hst : L st = false) {v : Value} (hv : v = .agg (rowOf γ rs tl)) (hall : ∀ i ∈ rs, L i = true) :
    GI W1 t2 T Z D rs tl bd st (upd γ bd v) (GhostV.mark L bd) wx := by
  have H : ∀ d ∈ D, d.i ≠ bd := fun d hd => of_decide_eq_true (List.all_eq_true.1 hD d hd)
  refine ⟨h.grown, fun d hd hl => ?_, fun d hd d' hd' hn hl hl' => ?_, fun _ => ?_, ?_, fun hl => ?_⟩
  · rw [mk_ne (H d hd)] at hl
    rw [up_ne (H d hd)]
    exact h.row d hd hl
  · rw [mk_ne (H d hd)] at hl
    rw [mk_ne (H d' hd')] at hl'
    rw [up_ne (H d hd), up_ne (H d' hd')]
    exact h.ne d hd d' hd' hn hl hl'
  · rw [up_eq, rowOf_ne hr]
    exact ⟨hv, fun j hj => by rw [mk_ne (ne_mem hj hr)]; exact hall j hj⟩
  · rw [mk_ne hs, hst]
    have := h.box
    rw [hst] at this
    exact this
  · rw [mk_ne hs, hst] at hl; cases hl
/-- The struct is stored. -/
theorem store {γ : Gh} {L : Run} {wx : World} (h : GI W1 t2 T Z D rs tl bd st γ L wx) (v : Value) (hD : (D.all fun d => decide (d.i ≠ st)) = true) (hr : st ∉ rs) (hs : st ≠ bd) (ht : t2 < W1.heap.size) (hbd : L bd = true) :
    GI W1 t2 T Z D rs tl bd st (upd γ st v) (GhostV.mark L st) (wx.setRow t2 (rowOf γ rs tl)) := by
  have H : ∀ d ∈ D, d.i ≠ st := fun d hd => of_decide_eq_true (List.all_eq_true.1 hD d hd)
  have hg : wx.grownBy (wx.setRow t2 (rowOf γ rs tl)) (some t2) := ⟨rfl, rfl, rfl, by rw [size_setRow]; exact Nat.le_refl _, fun k _ hk => setRow_other wx t2 k _ (fun e => hk (by rw [e]))⟩
  refine ⟨grown_trans h.grown hg, fun d hd hl => ?_, fun d hd d' hd' hn hl hl' => ?_, fun hl => ?_, ?_, fun _ => ?_⟩
  · rw [mk_ne (H d hd)] at hl
    rw [up_ne (H d hd)]
    refine own_kept (h.row d hd hl) hg fun k hk hk' => ?_
    have := ((h.row d hd hl).lt k hk').1
    injection hk with hk
    omega
  · rw [mk_ne (H d hd)] at hl
    rw [mk_ne (H d' hd')] at hl'
    rw [up_ne (H d hd), up_ne (H d' hd')]
    exact h.ne d hd d' hd' hn hl hl'
  · rw [mk_ne (Ne.symm hs)] at hl
    rw [up_ne (Ne.symm hs), rowOf_ne hr]
    exact ⟨(h.agg hl).1, fun j hj => by rw [mk_ne (ne_mem hj hr)]; exact (h.agg hl).2 j hj⟩
  · rw [mk_eq, rowOf_ne hr, if_pos rfl]
    exact setRow_heap wx t2 _ _ _ _ h.box
  · rw [mk_ne (Ne.symm hs)]
    exact hbd
theorem wp_store {P : Program} {op : Oper} {a : Act} {K : Act → World → Prop} {Q : Exit → Act → World → Prop} {γ : Gh} {L : Run} {wx : World} (h : GI W1 t2 T Z D rs tl bd st γ L wx) (hst : L st = false) (hbd : L bd = true) (ty : TypeId) (x y : Operand) (ho : op.op = .store ty x y)
    (hx : a.eval x = .pointer (some ⟨t2, 0, none⟩)) (hy : a.eval y = γ bd) (hi : (P.info? ty).map (·.size) = some (rowOf γ rs tl).size) (hsz : Z.size = (rowOf γ rs tl).size) (h1 : (rowOf γ rs tl).all (·.oneCell') = true)
    (hk : K (a.put op.dst undef) (wx.setRow t2 (rowOf γ rs tl))) : op.wp P a wx K Q := by
  have hg := h.box
  rw [if_neg (by rw [hst]; exact Bool.false_ne_true)] at hg
  rw [(h.agg hbd).1] at hy
  unfold Oper.wp execOp
  simp only [ho, hx, hy, Instr.storeAt, Instr.sureAddr, Sem.run_bind, Sem.run_pure, Result.andThen_ok, run_storeVar_row wx t2 T ty Z (rowOf γ rs tl) hg hi hsz h1]
  exact hk
theorem done {γ : Gh} {L : Run} {wx : World} (h : GI W1 t2 T Z D rs tl bd st γ L wx) (hst : L st = true) : wx.heap[t2]? = some (.cells (rowOf γ rs tl) T (0, 0)) := by
  rw [h.box, hst, if_pos rfl]
end GI
theorem gi_below {w wx : World} {A B : Obj} {T : TypeId} {Z : Array Value} {D : List OwnD} {rs : List Nat} {tl : List Value} {bd st : Nat} {γ : Gh} {L : Run} (h : GI ((w.alloc A).alloc B) (w.heap.size + 1) T Z D rs tl bd st γ L wx) : Below w.heap.size w wx :=
  (((Below.refl w.heap.size w).alloc (Nat.le_refl _) A).alloc (by simp) B).trans (below_grown h.grown (by simp; omega) (fun k hk => by injection hk with hk; omega))
/-- A row of the call's own is a slice. -/
theorem own_slice {w : World} {base n size : Nat} {e : TypeId} {v : Value} {xs : List Value} (h : w.ownsRow base e size v n xs) : ∃ A cap, v = .slice A n cap := by
  rcases h.2 with ⟨rfl, rfl⟩ | ⟨g, cap, cur, rfl, _⟩
  · exact ⟨none, 0, rfl⟩
  · exact ⟨_, cap, rfl⟩
end
end Go.Proofs.Ytifbkoaggjikpaa
