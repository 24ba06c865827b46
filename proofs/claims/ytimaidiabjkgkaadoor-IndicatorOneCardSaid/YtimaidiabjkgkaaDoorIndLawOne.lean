/- The law IndicatorOne: an observation shows at most one call, and one that there is. No condition but the tables. -/
import Derived.Test.YtimaidiabjkgkaaDoorIndOne1
import Derived.Test.YtimaidiabjkgkaaDoorIndOne2
import Derived.Test.YtimaidiabjkgkaaDoorIndOne3
import Derived.Test.YtimaidiabjkgkaaDoorIndOne4
import Derived.Test.YtimaidiabjkgkaaDoorIndOne5
import Derived.Test.YtimaidiabjkgkaaDoorIndOne6
import Derived.Test.YtimaidiabjkgkaaDoorIndOne7
import Derived.Test.YtimaidiabjkgkaaDoorIndOne8
import Derived.Test.YtimaidiabjkgkaaDoorIndOne9
import Derived.Test.YtimaidiabjkgkaaDoorCards
import Derived.Test.YtimaidiabjkgkaaDoorTie
import Derived.SevenTiedAt
namespace Go.Proofs.YtimaidiabjkgkaaDoor
open Go Go.RowKit Go.ChangeShapes Go.WideShapes Go.ChangeAt

set_option maxHeartbeats 8000000 in
theorem lawIndicatorOne_walk (x : Int) (c : Ct) (w : World) (hT : Tabs w) (hx : (Lit.int .u8 x).wf = true) (hc : c.ok) :
    Calls Tryd.prog 6 #[.int .u8 x, c.agg] w fun e w' => e = .returned (.bool true) ∧ Below w.heap.size w w' := by
  obtain ⟨n, rfl, hn⟩ := u8_nat hx
  clear hx
  obtain ⟨r, hr⟩ : ∃ r : Nat, r = n % 31 := ⟨_, rfl⟩
  have hr31 : r < 31 := by omega
  have hm1 : (n : Int).tmod 31 = (r : Int) := by rw [Int.tmod_eq_emod_of_nonneg (by omega)]; omega
  have hm2 : (n : Int) % 31 = (r : Int) := by omega
  obtain ⟨m, hm⟩ : ∃ m : Int, 2 + (r : Int) = m := ⟨_, rfl⟩
  have hok : Ind.okF m = true := Ind.okF_iff.2 (by omega)
  have m2 : 2 ≤ m := by omega
  have m32 : m ≤ 32 := by omega
  have hw1 : IntKind.i64.wrap (m - 1) = m - 1 := by rw [IntKind.wrap_i64]; omega
  have HT := Lib.hid (fun (w1 : World) (hb : Below w.heap.size w w1) => hT.below hb)
  have F := Lib.hid (fun w hT => decode_any m c w hc hT)
  have S := Lib.hid (fun w => shows_any m (Ind.decode m c) w)
  have HS := Lib.hid (fun w hT => sane_any w hT)
  have hup := fun (k : Nat) => Ind.shows_up (m := m) (c := c) (k := k) hok
  have hdn := fun (k : Nat) => Ind.shows_down (m := m) (c := c) (k := k) hok
  have hno := Ind.shows_none (m := m) (c := c)
  have HUP := Lib.hid hup
  have HDN := Lib.hid hdn
  have HNO := Lib.hid hno
  have HFI := Lib.hid (Ind.floorI_cases m c.fl)
  clear hup hdn hno hT hok hr hc
  obtain ⟨fl, u, d, o, x⟩ := c
  simp only at HUP HDN HNO HFI
  generalize Ind.shows m (Ind.decode m ⟨fl, u, d, o, x⟩) = sh at *
  simp only [Ind.decode, Ob.agg, Ct.agg] at F S ⊢
  generalize hfi : Ind.floorI m fl = fi at *
  generalize Ind.two u d = D at *
  generalize Ind.two o x = G at *
  clear hfi
  simp only [Cl] at S
  by_cases hO : o = true
  case neg =>
    rw [Bool.not_eq_true] at hO
    subst hO
    rw [HNO.out (fun q => absurd q.1 (by decide))] at S
    exact one_c1 n r hn hr31 hm1 hm2 m hm m2 m32 hw1 w HT HS fl _ _ _ _ u d x fi F S (Lib.hid (fun k => bitAt_zero k)) (Lib.hid (fun k => bitAt_zero k))
  subst hO
  by_cases hX : x = true
  case pos =>
    subst hX
    rw [HNO.out (fun q => absurd q.2.1 (by decide))] at S
    exact one_c2 n r hn hr31 hm1 hm2 m hm m2 m32 hw1 w HT HS fl _ _ _ _ u d fi F S (Lib.hid (fun k => bitAt_zero k)) (Lib.hid (fun k => bitAt_zero k))
  rw [Bool.not_eq_true] at hX
  subst hX
  rcases HFI.out with ⟨j, hj, hfl, -, hjm, rfl⟩ | ⟨-, rfl⟩
  case inr =>
    rw [HNO.out (fun q => absurd q.2.2.1 (by decide))] at S
    exact one_c3 n r hn hr31 hm1 hm2 m hm m2 m32 hw1 w HT HS fl _ _ _ _ u d F S (Lib.hid (fun k => bitAt_zero k)) (Lib.hid (fun k => bitAt_zero k))
  clear HFI
  cases u <;> cases d
  case false.false =>
    rw [HNO.out (fun q => by rcases q.2.2.2 with h | h; exact absurd h.1 (by decide); exact absurd h.2.1 (by decide))] at S
    exact one_c4 n r hn hr31 hm1 hm2 m hm m2 m32 hw1 w HT HS fl _ _ _ _ j F S (Lib.hid (fun k => bitAt_zero k)) (Lib.hid (fun k => bitAt_zero k))
  case true.true =>
    rw [HNO.out (fun q => by rcases q.2.2.2 with h | h; exact absurd h.2.1 (by decide); exact absurd h.1 (by decide))] at S
    exact one_c5 n r hn hr31 hm1 hm2 m hm m2 m32 hw1 w HT HS fl _ _ _ _ j F S (Lib.hid (fun k => bitAt_zero k)) (Lib.hid (fun k => bitAt_zero k))
  case true.false =>
    by_cases hj1 : (j : Int) < m - 1
    case neg =>
      rw [HNO.out (fun q => by rcases q.2.2.2 with h | h; exact absurd h.2.2 hj1; exact absurd h.1 (by decide))] at S
      exact one_c6 n r hn hr31 hm1 hm2 m hm m2 m32 hw1 w HT HS fl _ _ _ _ j F S (Lib.hid (fun k => bitAt_zero k)) (Lib.hid (fun k => bitAt_zero k)) hj1
    rw [HUP.out j rfl rfl rfl rfl rfl hj1] at S
    exact one_c8 n r hn hr31 hm1 hm2 m hm m2 m32 hw1 w HT HS fl _ _ _ _ j hj (Lib.hid hfl) hjm F S (Lib.hid (fun k => bitAt_zero k)) (Lib.hid (fun k => bitAt_pow hj k)) hj1
  case false.true =>
    by_cases hj1 : 0 < j
    case neg =>
      obtain rfl : j = 0 := by omega
      rw [HNO.out (fun q => by rcases q.2.2.2 with h | h; exact absurd h.1 (by decide); exact absurd h.2.2 (by decide))] at S
      exact one_c7 n r hn hr31 hm1 hm2 m hm m2 m32 hw1 w HT HS fl _ _ _ _  F S (Lib.hid (fun k => bitAt_zero k)) (Lib.hid (fun k => bitAt_zero k))
    rw [HDN.out j rfl rfl rfl rfl rfl hj1] at S
    exact one_c9 n r hn hr31 hm1 hm2 m hm m2 m32 hw1 w HT HS fl _ _ _ _ j hj (Lib.hid hfl) hjm F S (Lib.hid (fun k => bitAt_zero k)) (Lib.hid (fun k => bitAt_pow hj k)) (by omega)

set_option maxRecDepth 100000 in
theorem lawIndicatorOne_lifted (os : Os) (started : os.Started) (H : Type) (enc : TypeId × Value → H) :
    ReturnsInHanded {} Tryd.checked os 6 .any (fun w args => (Rows.indicatorOneSpec.pre enc Tryd.prog Tryd.f6 [] false w args ∧ laidMetH Tryd.prog laidAll w) ∧ sizedMet enc Tryd.prog Tryd.f6 (OpenSpec.ofChange Rows.indicatorOneSpec) false w args) (Rows.indicatorOneSpec.post enc Tryd.prog Tryd.f6 false true false false) := by
  refine returnsInHanded_of_change_and (C := Tryd.checked) (X := fun w _ => laidMetH Tryd.prog laidAll w) (fun _ _ _ hh h => h.of_heap hh) own started (by kernel_rfl) Tryd.func6
    (ChangeSpec.witness_shaped (enc := enc) (C := Tryd.checked) (os := os) (X := fun w _ => laidMetH Tryd.prog laidAll w) false (World.doorLaid Tryd.prog 24 os) #[.int .u8 0, .agg #[.int .u32 0, .bool false, .bool false, .bool false, .bool false]] 8 rfl (World.shaped_of_RefB (by kernel_rfl) (by kernel_rfl)) (by kernel_rfl) (by kernel_rfl) (by kernel_rfl) (door_met os _)) ?_
  intro W base args ds gs before hval0 hW _ _ hL _
  have hval : ∀ (j : Nat) t v, Tryd.f6.params[j]? = some t → args[j]? = some v → Value.okWide Tryd.prog W .any base t v := hval0
  have hW' := hW
  obtain ⟨p, q, hA0, hV, rfl, hfz, hnd⟩ := hW
  have hA : DataW.TrodAll enc Tryd.prog W 0 (fun _ => true) true Tryd.f6.params.toList args.toList ds p := hA0
  rw [Tryd.params6] at hA hval
  obtain ⟨v0, vs0, d0, ds0, p0, q0, hargs, rfl, rfl, h0, r0⟩ := trodAll_cons hA
  obtain ⟨v1, vs1, d1, ds1, p1, q1, rfl, rfl, rfl, h1, r1⟩ := trodAll_cons r0
  obtain ⟨rfl, rfl, rfl⟩ := trodAll_nil r1
  obtain rfl : args = #[v0, v1] := by cases args; simp_all
  obtain ⟨rfl, rfl⟩ := trodVars_none hV
  obtain ⟨x0, rfl, rfl, rfl, g0⟩ := open_int Tryd.underlying5 (hval 0 5 v0 rfl rfl) h0
  have k1 := h1
  have lt1 : ∀ x ∈ p1, x.block < W.heap.size := by obtain ⟨m, hm⟩ := k1; exact DataW.trod_lt m _ _ _ hm
  obtain ⟨x1, rfl, g1⟩ := open_ct (hval 1 28 v1 rfl rfl) h1
  clear hA0 hval0
  refine (lawIndicatorOne_walk x0 x1 W (tabs_of_laid hL) g0 g1).mono fun e W' ⟨he, bel⟩ => ?_
  subst he
  exact ⟨_, rfl, _, _, _, [], _, [], hW', trodAll_mk1 (shut_bool Tryd.underlying4 _), (trodAll_cons_mk (shut_int Tryd.underlying5 g0) (trodAll_cons_mk (Below.trod laidOut (by kernel_rfl) (of_decide_eq_true (by kernel_rfl)) k1 bel lt1) trodAll_mk0)), rfl, bel.frame _, fun h => by cases h⟩

theorem lawIndicatorOne_over : Rows.indicatorOneRow.holds Tryd.pinned (OpenSpec.ofChange Rows.indicatorOneSpec) :=
  OpenClaim.holds_of_wide 6 Tryd.f6 rfl rfl rfl rfl rfl rfl rfl ⟨rfl, rfl, rfl, rfl, rfl⟩ rfl rfl rfl rfl rfl (by kernel_rfl) Tryd.func6 (by kernel_rfl)
    (of_decide_eq_true (by kernel_rfl)) (by unfold Func.isWrapper; first | (rw [if_pos (by decide +kernel)]; kernel_rfl) | (rw [if_neg (by decide +kernel)]; exact ⟨rfl, rfl⟩))
    (fun os started H enc _ => lawIndicatorOne_lifted os started H enc)

theorem indicatorOne_card : Rows.IndicatorOneCardSaid :=
  Claim7.holds_tied_plain_at .later [] _ _ _ _ lawIndicatorOne_over (fun _ h => by cases h) (by kernel_rfl) (fun _ h => by cases h) indicatorOne_row_tie rfl ⟨rfl, rfl⟩ (by kernel_rfl) rfl
    (fun f fn hf hfn => by
      obtain rfl : f = 6 := Option.some.inj ((show Tryd.prog.funcNamed "overlay/overlaylaw05.IndicatorOne" = some 6 by kernel_rfl).symm.trans hf) |>.symm
      obtain rfl : fn = Tryd.f6 := (Option.some.inj (Tryd.func6.symm.trans hfn)).symm
      exact ⟨by kernel_rfl, fun j t ht => by
        rw [Tryd.params6] at ht
        have hm : t ∈ [5, 28] := by simpa using Array.mem_of_getElem? ht
        have hall : ([5, 28].all fun u => !Tryd.prog.wantsStandIn u) = true := by kernel_rfl
        exact (show Tryd.prog.wantsStandIn t = false by simpa using List.all_eq_true.1 hall t hm)⟩)
    (by kernel_rfl)
#print axioms indicatorOne_card

end Go.Proofs.YtimaidiabjkgkaaDoor
