/- What the texts behind this one rest on: one text. No statement of the seat is proved here. -/
import Derived.Test.YtifbkoaggjikpaaLM15
import Derived.Test.YtifbkoaggjikpaaLM33
import Derived.Test.YtifbkoaggjikpaaLM27
import Derived.Test.YtifbkoaggjikpaaLM34
import Derived.Test.YtifbkoaggjikpaaLM11
import Derived.Test.YtifbkoaggjikpaaLM03
namespace Go.Proofs.Ytifbkoaggjikpaa
section
open Go.RowKit Lg Img St GhostV

theorem IOwn.keepT {w w' : World} {base : Nat} {pv fv lv ev : Value} {m : Img} (h : IOwn w base pv fv lv ev m) (hk : KeepT 47 32 w w') : IOwn w' base pv fv lv ev m :=
  ⟨own_keepT h.p hk (by decide) (by decide), own_keepT h.f hk (by decide) (by decide), own_keepT h.l hk (by decide) (by decide), own_keepT h.e hk (by decide) (by decide), h.ne⟩
/-- An image in rows of its own; what an append hands back; a known value. -/
def peI (m : Img) : PdE 47 32 := ⟨fun w v => ∃ pv fv lv ev, v = .agg #[pv, fv, lv, ev] ∧ IOwn w 0 pv fv lv ev m, fun _ _ _ ⟨pv, fv, lv, ev, e, h⟩ hk => ⟨pv, fv, lv, ev, e, h.keepT hk⟩⟩
def peA (s : St) (m : Img) (n e : Int) : PdE 47 32 := ⟨fun w v => ∃ pv fv lv ev, v = .tuple #[s.agg, .agg #[pv, fv, lv, ev], .int .i64 n, .int .i64 e] ∧ IOwn w 0 pv fv lv ev m, fun _ _ _ ⟨pv, fv, lv, ev, e, h⟩ hk => ⟨pv, fv, lv, ev, e, h.keepT hk⟩⟩
def pdIm (m : Img) : Pd := ⟨fun w v => ∃ pv fv lv ev, v = .agg #[pv, fv, lv, ev] ∧ IOwn w 0 pv fv lv ev m, fun _ _ _ ⟨pv, fv, lv, ev, e, h⟩ hb => ⟨pv, fv, lv, ev, e, h.below hb⟩⟩
def peK (v : Value) : PdE 47 32 := ⟨fun _ u => u = v, fun _ _ _ h _ => h⟩
theorem one4 {w : World} {base : Nat} {pv fv lv ev : Value} {m : Img} (h : IOwn w base pv fv lv ev m) : (#[pv, fv, lv, ev] : Array Value).all (·.oneCell') = true := by
  obtain ⟨a1, k1, rfl⟩ := own_slice h.p
  obtain ⟨a2, k2, rfl⟩ := own_slice h.f
  obtain ⟨a3, k3, rfl⟩ := own_slice h.l
  obtain ⟨a4, k4, rfl⟩ := own_slice h.e
  simp [Value.oneCell']
theorem few_small {m : Img} (h1 : m.ph.length ≤ 100) (h2 : m.fl.length ≤ 100) (h3 : m.lv.length ≤ 100) (h4 : m.en.length ≤ 100) : Few m := ⟨by omega, by omega, by omega, by omega⟩
set_option maxRecDepth 100000 in
set_option maxHeartbeats 16000000 in
theorem sane10_any (w : World) :
    Calls Try.prog 14 #[] w fun e w' => e = .returned (.bool true) ∧ Below w.heap.size w w' := by
  obtain ⟨st1, st2, st3, ha1, ha2, ha3, hrpl, hsz⟩ := sane10_plain
  have FB := Lib.hid (fun wx => building10_any 9 30 wx (by decide) (by decide))
  have hb0 : bldR ((2 + 9 % 7 : Nat) : Int) (1 + 9 / 7 % 3) 30 = b10 := rfl
  rw [hb0] at FB
  clear hb0
  have hcl := cars10
  have FI := Lib.hid (fun A cap wx (hc : CarsAt wx wx.heap.size A b10.cars) => initGood_any b10 A cap wx hc b10_valid)
  rw [show Img.init b10.cars.length = im0 by rw [hcl]; rfl] at FI
  have FA1 := Lib.hid (fun A cap pv fv lv ev wx (hc : CarsAt wx wx.heap.size A b10.cars) (h : ImV wx pv fv lv ev im0) => append_any b10 A cap St.zero pv fv lv ev im0 reg10 100 wx (by rw [hcl]; decide) hc h (few_small (by decide) (by decide) (by decide) (by decide)) (by decide) (by constructor <;> decide))
  rw [ha1] at FA1
  have FA2 := Lib.hid (fun A cap pv fv lv ev wx (hc : CarsAt wx wx.heap.size A b10.cars) (h : ImV wx pv fv lv ev im1) => append_any b10 A cap st1 pv fv lv ev im1 asg10 94 wx (by rw [hcl]; decide) hc h (few_small (by decide) (by decide) (by decide) (by decide)) (by decide) (by constructor <;> decide))
  rw [ha2] at FA2
  have FA3 := Lib.hid (fun A cap pv fv lv ev wx (hc : CarsAt wx wx.heap.size A b10.cars) (h : ImV wx pv fv lv ev im2) => append_any b10 A cap st2 pv fv lv ev im2 srv10 5 wx (by rw [hcl]; decide) hc h (few_small (by decide) (by decide) (by decide) (by decide)) (by decide) (by constructor <;> decide))
  rw [ha3] at FA3
  have FR := Lib.hid (fun A cap wx (hc : CarsAt wx wx.heap.size A b10.cars) => replay_any b10 A cap st3 wx b10_valid hc (by omega))
  have HRP := Lib.hid (fun m (h : Rpl b10 (bl st3.cur) m) => rpl_one h hrpl)
  have FE := Lib.hid (fun pv fv lv ev pv' fv' lv' ev' wx (ha : ImV wx pv fv lv ev im2) (hb : ImV wx pv' fv' lv' ev' im2) => logSame_any im2 im2 pv fv lv ev pv' fv' lv' ev' wx ha hb (by decide) (by decide) (by decide) (by decide) (by decide) (by decide) (by decide) (by decide))
  rw [show imEq im2 im2 = true from (imEq_iff _ _).2 rfl] at FE
  have hz0 : St.zero.agg = .agg #[.string ⟨#[]⟩, .string ⟨#[]⟩, .int .i64 0] := rfl
  have hr1 : reg10.agg = .agg #[.int .i64 1, .int .i64 2, .int .i64 1, .int .i64 0, .int .i64 0] := rfl
  have hr2 : asg10.agg = .agg #[.int .i64 3, .int .i64 2, .int .i64 1, .int .i64 0, .int .i64 0] := rfl
  have hr3 : srv10.agg = .agg #[.int .i64 2, .int .i64 2, .int .i64 1, .int .i64 0, .int .i64 0] := rfl
  rw [hz0, hr1] at FA1
  rw [hr2] at FA2
  rw [hr3] at FA3
  have hen := im2_en
  generalize Rpl b10 (bl st3.cur) = RPL at *
  clear ha1 ha2 ha3 hrpl hsz hz0 hr1 hr2 hr3
  clear hcl
  generalize im0 = i0 at *
  generalize im1 = i1 at *
  generalize im2 = i2 at *
  generalize b10 = b at *
  obtain ⟨f, d, r, p, e1, e2, e3, cs⟩ := b
  obtain ⟨x1, y1, z1⟩ := st1
  obtain ⟨x2, y2, z2⟩ := st2
  obtain ⟨x3, y3, z3⟩ := st3
  simp only [BldD.agg, St.agg] at *
  have HEN := Lib.hid hen
  clear hen
  go_enter Try.func14, Try.ntmps14
  go_wp2_with fail
  refine (FB.out _).mono ?_
  rintro e w1 ⟨hb1, A, cap, rfl, hcars⟩
  have HC := Lib.hid hcars
  have HB1 := Lib.hid hb1
  clear hcars hb1
  go_wp2_with fail
  have HST := Lib.hid (Below.refl (w1.heap.size + 1) (w1.alloc (.cells #[.int .i64 f, .int .i64 d, .int .i64 r, .int .i64 p, .float .f64 e1, .float .f64 e2, .float .f64 e3, .slice A cs.length cap] 26)))
  have HROW := Lib.hid (fun wx (h : Below (w1.heap.size + 1) (w1.alloc (.cells #[.int .i64 f, .int .i64 d, .int .i64 r, .int .i64 p, .float .f64 e1, .float .f64 e2, .float .f64 e3, .slice A cs.length cap] 26)) wx) => boxRow ((h.block w1.heap.size (by simp)).trans (heap_alloc_new w1 _)))
  have HCX := Lib.hid (fun wx (h : Below (w1.heap.size + 1) (w1.alloc (.cells #[.int .i64 f, .int .i64 d, .int .i64 r, .int .i64 p, .float .f64 e1, .float .f64 e2, .float .f64 e3, .slice A cs.length cap] 26)) wx) => show CarsAt wx wx.heap.size A cs from (HC.out.below (below_of_new h)).more (by have := h.size; simp at this; omega))
  have hWs : (w1.alloc (.cells #[.int .i64 f, .int .i64 d, .int .i64 r, .int .i64 p, .float .f64 e1, .float .f64 e2, .float .f64 e3, .slice A cs.length cap] 26)).heap.size = w1.heap.size + 1 := by simp
  have HBW := Lib.hid (show Below w1.heap.size w1 (w1.alloc (.cells #[.int .i64 f, .int .i64 d, .int .i64 r, .int .i64 p, .float .f64 e1, .float .f64 e2, .float .f64 e3, .slice A cs.length cap] 26)) from (Below.refl _ _).alloc (Nat.le_refl _) _)
  have HCX2 := Lib.hid (fun wx (hb : Below w1.heap.size w1 wx) => show CarsAt wx wx.heap.size A cs from (HC.out.below hb).more hb.size)
  have HR0 := Lib.hid (heap_alloc_new w1 (.cells #[.int .i64 f, .int .i64 d, .int .i64 r, .int .i64 p, .float .f64 e1, .float .f64 e2, .float .f64 e3, .slice A cs.length cap] 26))
  have HZ0 := Lib.hid HB1.out.size
  have HZ0' := Lib.hid HB1.out.size
  generalize hW : w1.alloc (.cells #[.int .i64 f, .int .i64 d, .int .i64 r, .int .i64 p, .float .f64 e1, .float .f64 e2, .float .f64 e3, .slice A cs.length cap] 26) = W at *
  generalize hg0 : w1.heap.size = g0 at *
  have HG0 := Lib.hid hg0
  clear hg0
  have HCX3 := Lib.hid (fun wx (h : Below w1.heap.size w1 wx) => HCX2.out wx (HG0.out ▸ h))
  clear hW
  have HWS := Lib.hid hWs
  clear hWs
  refine GhostV.ghost (fun γ L wx => GE (W) 47 32 3 4 11 13 12 14 (peK (.agg #[.string x1, .string y1, .int .i64 z1])) (peI i1) ([(3, peI i0), (5, peA ⟨x1, y1, z1⟩ i1 94 0), (6, peA ⟨x1, y1, z1⟩ i1 94 0), (8, peI i1)]) γ L wx) (by kernel_rfl) (by kernel_rfl) (fun γ => GE.start γ) ?_
  apply GhostV.walk_const (fun γ => by rfl)
  · intro γ L wx h1 h2 hx K hK
    have HBX := Lib.hid (show Below (g0 + 1) W wx from hx.below.mono (by have := HWS.out; omega))
    obtain ⟨c0, c1, c2, c3, c4, c5, c6, c7⟩ := HROW.out _ HBX.out
    have H1 := Lib.hid h1
    have H2 := Lib.hid h2
    have HK2 := Lib.hid hK
    have HX := Lib.hid hx
    clear hK h1 h2 hx
    go_simp
    first
      | exact HK2.out _ (HX.out.next _ (by decide) (by rfl) (Below.refl _ _))
  try simp only [Act.put, List.setIfInBounds_toArray, List.set_cons_succ, List.set_cons_zero]
  apply GhostV.walk_const (fun γ => by rfl)
  · intro γ L wx h1 h2 hx K hK
    have HBX := Lib.hid (show Below (g0 + 1) W wx from hx.below.mono (by have := HWS.out; omega))
    obtain ⟨c0, c1, c2, c3, c4, c5, c6, c7⟩ := HROW.out _ HBX.out
    have H1 := Lib.hid h1
    have H2 := Lib.hid h2
    have HK2 := Lib.hid hK
    have HX := Lib.hid hx
    clear hK h1 h2 hx
    go_simp
    first
      | exact HK2.out _ (HX.out.next _ (by decide) (by rfl) (Below.refl _ _))
  try simp only [Act.put, List.setIfInBounds_toArray, List.set_cons_succ, List.set_cons_zero]
  apply GhostV.walk_const (fun γ => by rfl)
  · intro γ L wx h1 h2 hx K hK
    have HBX := Lib.hid (show Below (g0 + 1) W wx from hx.below.mono (by have := HWS.out; omega))
    obtain ⟨c0, c1, c2, c3, c4, c5, c6, c7⟩ := HROW.out _ HBX.out
    have H1 := Lib.hid h1
    have H2 := Lib.hid h2
    have HK2 := Lib.hid hK
    have HX := Lib.hid hx
    clear hK h1 h2 hx
    go_simp
    first
      | exact HK2.out _ (HX.out.next _ (by decide) (by rfl) (Below.refl _ _))
  try simp only [Act.put, List.setIfInBounds_toArray, List.set_cons_succ, List.set_cons_zero]
  refine GhostV.walk_yes (fun b => b) (fun γ => by rfl) ?_ ?_
  · intro γ L wx h1 h2 hx K hK
    have HBX := Lib.hid (show Below (g0 + 1) W wx from hx.below.mono (by have := HWS.out; omega))
    obtain ⟨c0, c1, c2, c3, c4, c5, c6, c7⟩ := HROW.out _ HBX.out
    have H1 := Lib.hid h1
    have H2 := Lib.hid h2
    have HK2 := Lib.hid hK
    have HX := Lib.hid hx
    clear hK h1 h2 hx
    go_simp
    (go_at_call 11; refine (FI.out A cap _ (HCX.out _ HBX.out)).mono ?_; rintro e w' ⟨pv, fv, lv, ev, rfl, hI, hb⟩; exact HK2.out _ _ (HX.out.make (by decide) (by simp only [List.mem_cons, List.not_mem_nil, or_false]; rintro d (rfl | rfl | rfl | rfl) h; (· exact ⟨_, _, _, _, rfl, hI.mono (Nat.zero_le _)⟩); (· cases h); (· cases h); (· cases h)) hb))
  try simp only [Act.put, List.setIfInBounds_toArray, List.set_cons_succ, List.set_cons_zero]
  apply GhostV.walk_const (fun γ => by rfl)
  · intro γ L wx h1 h2 hx K hK
    have HBX := Lib.hid (show Below (g0 + 1) W wx from hx.below.mono (by have := HWS.out; omega))
    obtain ⟨c0, c1, c2, c3, c4, c5, c6, c7⟩ := HROW.out _ HBX.out
    have H1 := Lib.hid h1
    have H2 := Lib.hid h2
    have HK2 := Lib.hid hK
    have HX := Lib.hid hx
    clear hK h1 h2 hx
    go_simp
    first
      | exact HK2.out _ (HX.out.next _ (by decide) (by rfl) (Below.refl _ _))
  try simp only [Act.put, List.setIfInBounds_toArray, List.set_cons_succ, List.set_cons_zero]
  refine GhostV.walk_yes (fun b => b) (fun γ => by rfl) ?_ ?_
  · intro γ L wx h1 h2 hx K hK
    have HBX := Lib.hid (show Below (g0 + 1) W wx from hx.below.mono (by have := HWS.out; omega))
    obtain ⟨c0, c1, c2, c3, c4, c5, c6, c7⟩ := HROW.out _ HBX.out
    have H1 := Lib.hid h1
    have H2 := Lib.hid h2
    have HK2 := Lib.hid hK
    have HX := Lib.hid hx
    clear hK h1 h2 hx
    go_simp
    (obtain ⟨pv, fv, lv, ev, e, hI⟩ := HX.out.gh (3, peI i0) (by simp) (H2.out 3 (by kernel_rfl)); simp only at e; rw [e] at HK2 ⊢; clear e; go_simp; go_at_call 16; refine (FA1.out A cap pv fv lv ev _ (HCX.out _ HBX.out) hI.view).mono ?_; rintro e w' ⟨pv', fv', lv', ev', rfl, hI', hb⟩; exact HK2.out _ _ (HX.out.make (by decide) (by simp only [List.mem_cons, List.not_mem_nil, or_false]; rintro d (rfl | rfl | rfl | rfl) h; (· cases h); (· exact ⟨_, _, _, _, rfl, hI'.mono (Nat.zero_le _)⟩); (· cases h); (· cases h)) hb))
  try simp only [Act.put, List.setIfInBounds_toArray, List.set_cons_succ, List.set_cons_zero]
  refine GhostV.walk_yes (fun b => b) (fun γ => by rfl) ?_ ?_
  · intro γ L wx h1 h2 hx K hK
    have HBX := Lib.hid (show Below (g0 + 1) W wx from hx.below.mono (by have := HWS.out; omega))
    obtain ⟨c0, c1, c2, c3, c4, c5, c6, c7⟩ := HROW.out _ HBX.out
    have H1 := Lib.hid h1
    have H2 := Lib.hid h2
    have HK2 := Lib.hid hK
    have HX := Lib.hid hx
    clear hK h1 h2 hx
    go_simp
    (exact HK2.out (γ 5) _ (HX.out.make (by decide) (by simp only [List.mem_cons, List.not_mem_nil, or_false]; rintro d (rfl | rfl | rfl | rfl) h; (· cases h); (· cases h); (· exact HX.out.gh (5, peA ⟨x1, y1, z1⟩ i1 94 0) (by simp) (H2.out 5 (by kernel_rfl))); (· cases h)) (Below.refl _ _)))
  try simp only [Act.put, List.setIfInBounds_toArray, List.set_cons_succ, List.set_cons_zero]
  apply GhostV.walk_const (fun γ => by rfl)
  · intro γ L wx h1 h2 hx K hK
    have HBX := Lib.hid (show Below (g0 + 1) W wx from hx.below.mono (by have := HWS.out; omega))
    obtain ⟨c0, c1, c2, c3, c4, c5, c6, c7⟩ := HROW.out _ HBX.out
    have H1 := Lib.hid h1
    have H2 := Lib.hid h2
    have HK2 := Lib.hid hK
    have HX := Lib.hid hx
    clear hK h1 h2 hx
    go_simp
    (obtain ⟨pv, fv, lv, ev, e, hI⟩ := HX.out.gh (6, peA ⟨x1, y1, z1⟩ i1 94 0) (by simp) (H2.out 6 (by kernel_rfl)); simp only [St.agg] at e; rw [e] at HK2 ⊢; clear e; go_simp; exact HK2.out _ (HX.out.next _ (by decide) (by rfl) (Below.refl _ _)))
  try simp only [Act.put, List.setIfInBounds_toArray, List.set_cons_succ, List.set_cons_zero]
  refine GhostV.walk_yes (fun b => b) (fun γ => by rfl) ?_ ?_
  · intro γ L wx h1 h2 hx K hK
    have HBX := Lib.hid (show Below (g0 + 1) W wx from hx.below.mono (by have := HWS.out; omega))
    obtain ⟨c0, c1, c2, c3, c4, c5, c6, c7⟩ := HROW.out _ HBX.out
    have H1 := Lib.hid h1
    have H2 := Lib.hid h2
    have HK2 := Lib.hid hK
    have HX := Lib.hid hx
    clear hK h1 h2 hx
    go_simp
    (obtain ⟨pv, fv, lv, ev, e, hI⟩ := HX.out.gh (6, peA ⟨x1, y1, z1⟩ i1 94 0) (by simp) (H2.out 6 (by kernel_rfl)); simp only [St.agg] at e; rw [e] at HK2 ⊢; clear e; go_simp; exact HK2.out (.agg #[pv, fv, lv, ev]) _ (HX.out.make (by decide) (by simp only [List.mem_cons, List.not_mem_nil, or_false]; rintro d (rfl | rfl | rfl | rfl) h; (· cases h); (· cases h); (· cases h); (· exact ⟨_, _, _, _, rfl, hI⟩)) (Below.refl _ _)))
  try simp only [Act.put, List.setIfInBounds_toArray, List.set_cons_succ, List.set_cons_zero]
  apply GhostV.walk_const (fun γ => by rfl)
  · intro γ L wx h1 h2 hx K hK
    have HBX := Lib.hid (show Below (g0 + 1) W wx from hx.below.mono (by have := HWS.out; omega))
    obtain ⟨c0, c1, c2, c3, c4, c5, c6, c7⟩ := HROW.out _ HBX.out
    have H1 := Lib.hid h1
    have H2 := Lib.hid h2
    have HK2 := Lib.hid hK
    have HX := Lib.hid hx
    clear hK h1 h2 hx
    go_simp
    (obtain ⟨pv, fv, lv, ev, e, hI⟩ := HX.out.gh (6, peA ⟨x1, y1, z1⟩ i1 94 0) (by simp) (H2.out 6 (by kernel_rfl)); simp only [St.agg] at e; rw [e] at HK2 ⊢; clear e; go_simp; exact HK2.out _ (HX.out.next _ (by decide) (by rfl) (Below.refl _ _)))
  try simp only [Act.put, List.setIfInBounds_toArray, List.set_cons_succ, List.set_cons_zero]
  apply GhostV.walk_const (fun γ => by rfl)
  · intro γ L wx h1 h2 hx K hK
    have HBX := Lib.hid (show Below (g0 + 1) W wx from hx.below.mono (by have := HWS.out; omega))
    obtain ⟨c0, c1, c2, c3, c4, c5, c6, c7⟩ := HROW.out _ HBX.out
    have H1 := Lib.hid h1
    have H2 := Lib.hid h2
    have HK2 := Lib.hid hK
    have HX := Lib.hid hx
    clear hK h1 h2 hx
    go_simp
    (obtain ⟨pv, fv, lv, ev, e, hI⟩ := HX.out.gh (6, peA ⟨x1, y1, z1⟩ i1 94 0) (by simp) (H2.out 6 (by kernel_rfl)); simp only [St.agg] at e; rw [e] at HK2 ⊢; clear e; go_simp; exact HK2.out _ (HX.out.next _ (by decide) (by rfl) (Below.refl _ _)))
  try simp only [Act.put, List.setIfInBounds_toArray, List.set_cons_succ, List.set_cons_zero]
  refine GhostV.walk_yes (fun b => b) (fun γ => by rfl) ?_ ?_
  · intro γ L wx h1 h2 hx K hK
    have H1 := Lib.hid h1
    have H2 := Lib.hid h2
    have HK2 := Lib.hid hK
    have HX := Lib.hid hx
    clear hK h1 h2 hx
    go_simp
    exact HK2.out _ _ (HX.out.alloc1 H1.out (by decide) (by rfl) rfl)
  try simp only [Act.put, List.setIfInBounds_toArray, List.set_cons_succ, List.set_cons_zero]
  refine GhostV.walk_yes (fun b => b) (fun γ => by rfl) ?_ ?_
  · intro γ L wx h1 h2 hx K hK
    have H1 := Lib.hid h1
    have H2 := Lib.hid h2
    have HK2 := Lib.hid hK
    have HX := Lib.hid hx
    clear hK h1 h2 hx
    go_simp
    exact HK2.out _ _ (HX.out.alloc2 H1.out (by decide) (by rfl) rfl)
  try simp only [Act.put, List.setIfInBounds_toArray, List.set_cons_succ, List.set_cons_zero]
  refine GhostV.walk_const (v := undef) (fun γ => by rfl) ?_ ?_
  · intro γ L wx h1 h2 hx K hK
    have H1 := Lib.hid h1
    have H2 := Lib.hid h2
    have HK2 := Lib.hid hK
    have HX := Lib.hid hx
    clear hK h1 h2 hx
    (exact GE.store1 HX.out (H2.out 11 (by kernel_rfl)) (by decide) (by decide) (by rfl) 47 _ _ rfl rfl rfl rfl rfl (by kernel_rfl) (by kernel_rfl) (fun w2 h => HK2.out _ h))
  try simp only [Act.put]
  refine GhostV.walk_const (v := undef) (fun γ => by rfl) ?_ ?_
  · intro γ L wx h1 h2 hx K hK
    have H1 := Lib.hid h1
    have H2 := Lib.hid h2
    have HK2 := Lib.hid hK
    have HX := Lib.hid hx
    clear hK h1 h2 hx
    (obtain ⟨pv, fv, lv, ev, e, hI⟩ := HX.out.gh (8, peI i1) (by simp) (H2.out 8 (by kernel_rfl)); exact GE.store2 HX.out (H2.out 12 (by kernel_rfl)) (by decide) (by decide) (by rfl) 32 _ _ rfl rfl e ⟨_, _, _, _, rfl, hI⟩ rfl (by kernel_rfl) (one4 hI) (fun w2 h => HK2.out _ h))
  try simp only [Act.put]
  apply GhostV.walk_const (fun γ => by rfl)
  · intro γ L wx h1 h2 hx K hK
    have HBX := Lib.hid (show Below (g0 + 1) W wx from hx.below.mono (by have := HWS.out; omega))
    obtain ⟨c0, c1, c2, c3, c4, c5, c6, c7⟩ := HROW.out _ HBX.out
    have H1 := Lib.hid h1
    have H2 := Lib.hid h2
    have HK2 := Lib.hid hK
    have HX := Lib.hid hx
    clear hK h1 h2 hx
    go_simp
    first
      | exact HK2.out _ (HX.out.next _ (by decide) (by rfl) (Below.refl _ _))
  try simp only [Act.put, List.setIfInBounds_toArray, List.set_cons_succ, List.set_cons_zero]
  apply GhostV.walk_const (fun γ => by rfl)
  · intro γ L wx h1 h2 hx K hK
    have HBX := Lib.hid (show Below (g0 + 1) W wx from hx.below.mono (by have := HWS.out; omega))
    obtain ⟨c0, c1, c2, c3, c4, c5, c6, c7⟩ := HROW.out _ HBX.out
    have H1 := Lib.hid h1
    have H2 := Lib.hid h2
    have HK2 := Lib.hid hK
    have HX := Lib.hid hx
    clear hK h1 h2 hx
    go_simp
    first
      | exact HK2.out _ (HX.out.next _ (by decide) (by rfl) (Below.refl _ _))
  try simp only [Act.put, List.setIfInBounds_toArray, List.set_cons_succ, List.set_cons_zero]
  refine GhostV.walk_nil (fun γ L w2 hall hx => ?_)
  obtain ⟨g1, d1, eg1, hg1, hr1, -, hH1⟩ := hx.d1 (hall 11 (by decide))
  obtain rfl : d1 = #[.string x1, .string y1, .int .i64 z1] := by have := hH1 (hall 13 (by decide)); injection this
  obtain ⟨g2, d2, eg2, hg2, hr2, -, hH2⟩ := hx.d2 (hall 12 (by decide))
  obtain ⟨pv, fv, lv, ev, ec, hI1⟩ := hH2 (hall 14 (by decide))
  obtain rfl : d2 = #[pv, fv, lv, ev] := by injection ec
  have hb2 := hx.below
  clear hx hall hH1 hH2 ec
  simp only [Nat.zero_add, Nat.reduceAdd]
  rw [eg1, eg2]
  clear eg1 eg2
  generalize γ 3 = q3
  generalize γ 5 = q5
  generalize γ 6 = q6
  generalize γ 8 = q8
  have hne : g1 ≠ g2 := fun e => by
    rw [e, hr2] at hr1
    injection hr1 with hr1
    injection hr1 with _ hr1
    exact absurd hr1 (by decide)
  have hgw : w.heap.size ≤ g0 ∧ g0 < g1 ∧ g0 < g2 := by have := HWS.out; have := HB1.out.size; have := HZ0.out; omega
  obtain ⟨B1, c1, rfl⟩ := own_slice hI1.p
  obtain ⟨B2, c2, rfl⟩ := own_slice hI1.f
  obtain ⟨B3, c3, rfl⟩ := own_slice hI1.l
  obtain ⟨B4, c4, rfl⟩ := own_slice hI1.e
  have HI1 := Lib.hid hI1
  have HB2 : Hid (Bx w1 [(g0, .cells #[.int .i64 f, .int .i64 d, .int .i64 r, .int .i64 p, .float .f64 e1, .float .f64 e2, .float .f64 e3, .slice A cs.length cap] 26 (0, 0)), (g1, .cells #[.string x1, .string y1, .int .i64 z1] 47 (0, 0)), (g2, .cells #[.slice B1 i1.ph.length c1, .slice B2 i1.fl.length c2, .slice B3 i1.lv.length c3, .slice B4 i1.en.length c4] 32 (0, 0))] w2)   := Lib.hid ⟨(HG0.out ▸ HBW.out : Below w1.heap.size w1 W).trans (hb2.mono (by have := HWS.out; have := HG0.out; omega)), by simp only [List.mem_cons, List.not_mem_nil, or_false]; rintro q (rfl | rfl | rfl); exact (hb2.block g0 (by have := HWS.out; omega)).trans HR0.out; exact hr1; exact hr2⟩
  have hgz : w1.heap.size ≤ g0 := by have := HG0.out; omega
  have HC2 := Lib.hid (HCX2.out _ (HG0.out ▸ HB2.out.below))
  clear hb2 hr1 hr2 hI1
  obtain ⟨k0, k1, k2, k3, k4, k5, k6, k7⟩ := boxRow HB2.out.r0
  have m0 := cell_of_row w2 _ 0 _ _ (0, 0) HB2.out.r1
  have m1 := cell_of_row w2 _ 1 _ _ (0, 0) HB2.out.r1
  have m2 := cell_of_row w2 _ 2 _ _ (0, 0) HB2.out.r1
  have n0 := cell_of_row w2 _ 0 _ _ (0, 0) HB2.out.r2
  have n1 := cell_of_row w2 _ 1 _ _ (0, 0) HB2.out.r2
  have n2 := cell_of_row w2 _ 2 _ _ (0, 0) HB2.out.r2
  have n3 := cell_of_row w2 _ 3 _ _ (0, 0) HB2.out.r2
  simp only [List.getElem?_toArray, List.getElem?_cons_zero, List.getElem?_cons_succ] at m0 m1 m2 n0 n1 n2 n3
  go_wp2_with fail
  refine (FA2.out A cap _ _ _ _ _ HC2.out HI1.out.view).mono ?_
  rintro e w3 ⟨pv, fv, lv, ev, rfl, hI2, hb3⟩
  dsimp only [St.agg] at hI2 ⊢
  have HB3 := Lib.hid (HB2.out.next hb3)
  have hz3 := hb3.size
  have hl1 : g1 < w2.heap.size := (Array.getElem?_eq_some_iff.1 HB2.out.r1).1
  have hl2 : g2 < w2.heap.size := (Array.getElem?_eq_some_iff.1 HB2.out.r2).1
  obtain ⟨D1, e1', rfl⟩ := own_slice hI2.p
  obtain ⟨D2, e2', rfl⟩ := own_slice hI2.f
  obtain ⟨D3, e3', rfl⟩ := own_slice hI2.l
  obtain ⟨D4, e4', rfl⟩ := own_slice hI2.e
  have HI2 := Lib.hid hI2
  clear hb3 hI2 k0 k1 k2 k3 k4 k5 k6 k7 m0 m1 m2 n0 n1 n2 n3
  have hr := HB3.out.r1
  go_wp2_with (with_reducible show wpList _ _ _ (Oper.mk _ (.store 47 _ _) _ _ _ _ :: _) _ _; refine Hid.out ?_)
  refine Lib.hid ?_
  refine wpList_put rfl 47 _ _ rfl g1 #[.string x2, .string y2, .int .i64 z2] _ 47 rfl rfl hr (by kernel_rfl) rfl (by kernel_rfl) ?_
  intro w4 hr4 hg4
  have HB4 : Hid (Bx w1 [(g0, .cells #[.int .i64 f, .int .i64 d, .int .i64 r, .int .i64 p, .float .f64 e1, .float .f64 e2, .float .f64 e3, .slice A cs.length cap] 26 (0, 0)), (g1, .cells #[.string x2, .string y2, .int .i64 z2] 47 (0, 0)), (g2, .cells #[.slice B1 i1.ph.length c1, .slice B2 i1.fl.length c2, .slice B3 i1.lv.length c3, .slice B4 i1.en.length c4] 32 (0, 0))] w4) := Lib.hid (HB3.out.put (by omega) hg4.out hr4.out (by simp only [List.mem_cons, List.not_mem_nil, or_false]; rintro q (rfl | rfl | rfl) <;> simp <;> omega))
  have HI4 := Lib.hid (HI2.out.grown hg4.out (by omega))
  clear hr hr4 hg4 HB3 HI2
  have hr := HB4.out.r2
  go_wp2_with (with_reducible show wpList _ _ _ (Oper.mk _ (.store 32 _ _) _ _ _ _ :: _) _ _; refine Hid.out ?_)
  refine Lib.hid ?_
  refine wpList_put rfl 32 _ _ rfl g2 #[.slice D1 i2.ph.length e1', .slice D2 i2.fl.length e2', .slice D3 i2.lv.length e3', .slice D4 i2.en.length e4'] _ 32 rfl rfl hr (by kernel_rfl) rfl (by kernel_rfl) ?_
  intro w5 hr5 hg5
  have HI5 := Lib.hid (HI4.out.grown hg5.out (by omega))
  have hlen : i2.en.length = 1 := by rw [HEN.out]; rfl
  obtain ⟨gb, gc, hD4, hgb, hgl⟩ := HI5.out.e.form (by omega)
  obtain ⟨rfl, rfl⟩ : D4 = some ⟨gb, 0, none⟩ ∧ e4' = gc := by injection hD4 with q1 _ q3; exact ⟨q1, q3⟩
  have HB5 : Hid (Bx w1 [(g0, .cells #[.int .i64 f, .int .i64 d, .int .i64 r, .int .i64 p, .float .f64 e1, .float .f64 e2, .float .f64 e3, .slice A cs.length cap] 26 (0, 0)), (g1, .cells #[.string x2, .string y2, .int .i64 z2] 47 (0, 0)), (g2, .cells #[.slice D1 i2.ph.length e1', .slice D2 i2.fl.length e2', .slice D3 i2.lv.length e3', .slice (some ⟨gb, 0, none⟩) i2.en.length e4'] 32 (0, 0))] w5) := Lib.hid (HB4.out.put (by omega) hg5.out hr5.out (by simp only [List.mem_cons, List.not_mem_nil, or_false]; rintro q (rfl | rfl | rfl) <;> simp <;> omega))
  clear hr hr5 hg5 HB4 HI4 hD4
  have HC5 := Lib.hid (HCX3.out _ HB5.out.below)
  obtain ⟨k0, k1, k2, k3, k4, k5, k6, k7⟩ := boxRow HB5.out.r0
  have m0 := cell_of_row w5 _ 0 _ _ (0, 0) HB5.out.r1
  have m1 := cell_of_row w5 _ 1 _ _ (0, 0) HB5.out.r1
  have m2 := cell_of_row w5 _ 2 _ _ (0, 0) HB5.out.r1
  have n0 := cell_of_row w5 _ 0 _ _ (0, 0) HB5.out.r2
  have n1 := cell_of_row w5 _ 1 _ _ (0, 0) HB5.out.r2
  have n2 := cell_of_row w5 _ 2 _ _ (0, 0) HB5.out.r2
  have n3 := cell_of_row w5 _ 3 _ _ (0, 0) HB5.out.r2
  simp only [List.getElem?_toArray, List.getElem?_cons_zero, List.getElem?_cons_succ] at m0 m1 m2 n0 n1 n2 n3
  have HLEN := Lib.hid hlen
  clear hlen
  go_wp2_with fail
  refine (FA3.out A cap _ _ _ _ _ HC5.out HI5.out.view).mono ?_
  rintro e w6 ⟨pv, fv, lv, ev, rfl, hI6, hb6⟩
  dsimp only [St.agg] at hI6 ⊢
  have HB6 := Lib.hid (HB5.out.next hb6)
  have hz6 := hb6.size
  obtain ⟨E1, h1', rfl⟩ := own_slice hI6.p
  obtain ⟨E2, h2', rfl⟩ := own_slice hI6.f
  obtain ⟨E3, h3', rfl⟩ := own_slice hI6.l
  obtain ⟨E4, h4', rfl⟩ := own_slice hI6.e
  have HI6 := Lib.hid hI6
  have HIB := Lib.hid (HI5.out.below hb6)
  clear hb6 hI6 k0 k1 k2 k3 k4 k5 k6 k7 m0 m1 m2 n0 n1 n2 n3 HI5 HC5
  go_wp2_with (with_reducible show wpList _ _ _ (Oper.mk _ (.store 47 _ _) _ _ _ _ :: _) _ _; refine Hid.out ?_)
  refine Lib.hid ?_
  have hl0 : g0 < w6.heap.size := (Array.getElem?_eq_some_iff.1 HB6.out.r0).1
  have hl1 : g1 < w6.heap.size := (Array.getElem?_eq_some_iff.1 HB6.out.r1).1
  have hl2 : g2 < w6.heap.size := (Array.getElem?_eq_some_iff.1 HB6.out.r2).1
  have hs7 : (w6.alloc (.cells #[.string ⟨#[]⟩, .string ⟨#[]⟩, .int .i64 0] 47)).heap.size = w6.heap.size + 1 := by simp
  have hn7 := heap_alloc_new (w6.alloc (.cells #[.string ⟨#[]⟩, .string ⟨#[]⟩, .int .i64 0] 47)) (.cells #[.slice none 0 0, .slice none 0 0, .slice none 0 0, .slice none 0 0] 32)
  rw [hs7] at hn7
  have HB7 := Lib.hid ((HB6.out.make (heap_alloc_new w6 (.cells #[.string ⟨#[]⟩, .string ⟨#[]⟩, .int .i64 0] 47)) ((Below.refl w6.heap.size w6).alloc (Nat.le_refl _) _)).make hn7 ((Below.refl _ _).alloc (Nat.le_refl _) _))
  have hb67 := ((Below.refl w6.heap.size w6).alloc (Nat.le_refl _) (.cells #[.string ⟨#[]⟩, .string ⟨#[]⟩, .int .i64 0] 47)).alloc (by omega) (.cells #[.slice none 0 0, .slice none 0 0, .slice none 0 0, .slice none 0 0] 32)
  generalize (w6.alloc (.cells #[.string ⟨#[]⟩, .string ⟨#[]⟩, .int .i64 0] 47)).alloc (.cells #[.slice none 0 0, .slice none 0 0, .slice none 0 0, .slice none 0 0] 32) = w7 at *
  have hr := HB7.out.r1
  refine wpList_put rfl 47 _ _ rfl w6.heap.size #[.string x3, .string y3, .int .i64 z3] _ 47 rfl rfl hr (by kernel_rfl) rfl (by kernel_rfl) ?_
  intro w8 hr8 hg8
  have hb68 := hb67.grown hg8.out hb67.size (fun k hk => by have := Option.some.inj hk; omega)
  have HB8 : Hid (Bx w1 [(w6.heap.size, .cells #[.string x3, .string y3, .int .i64 z3] 47 (0, 0)), (w6.heap.size + 1, .cells #[.slice none 0 0, .slice none 0 0, .slice none 0 0, .slice none 0 0] 32 (0, 0)), (g0, .cells #[.int .i64 f, .int .i64 d, .int .i64 r, .int .i64 p, .float .f64 e1, .float .f64 e2, .float .f64 e3, .slice A cs.length cap] 26 (0, 0)), (g2, .cells #[.slice D1 i2.ph.length e1', .slice D2 i2.fl.length e2', .slice D3 i2.lv.length e3', .slice (some ⟨gb, 0, none⟩) i2.en.length e4'] 32 (0, 0))] w8) := Lib.hid (HB7.out.put (by omega) hg8.out hr8.out (by simp only [List.mem_cons, List.not_mem_nil, or_false]; rintro q (rfl | rfl | rfl | rfl) <;> simp <;> omega))
  clear hr hr8 hg8 HB7 HB6 hb67 hn7 hs7
  have hr := HB8.out.r1
  go_wp2_with (with_reducible show wpList _ _ _ (Oper.mk _ (.store 32 _ _) _ _ _ _ :: _) _ _; refine Hid.out ?_)
  refine Lib.hid ?_
  refine wpList_put rfl 32 _ _ rfl (w6.heap.size + 1) #[.slice E1 i2.ph.length h1', .slice E2 i2.fl.length h2', .slice E3 i2.lv.length h3', .slice E4 i2.en.length h4'] _ 32 rfl rfl hr (by kernel_rfl) rfl (by kernel_rfl) ?_
  intro w9 hr9 hg9
  have hb69 := hb68.grown hg9.out hb68.size (fun k hk => by have := Option.some.inj hk; omega)
  have HB9 : Hid (Bx w1 [(w6.heap.size, .cells #[.string x3, .string y3, .int .i64 z3] 47 (0, 0)), (w6.heap.size + 1, .cells #[.slice E1 i2.ph.length h1', .slice E2 i2.fl.length h2', .slice E3 i2.lv.length h3', .slice E4 i2.en.length h4'] 32 (0, 0)), (g0, .cells #[.int .i64 f, .int .i64 d, .int .i64 r, .int .i64 p, .float .f64 e1, .float .f64 e2, .float .f64 e3, .slice A cs.length cap] 26 (0, 0)), (g2, .cells #[.slice D1 i2.ph.length e1', .slice D2 i2.fl.length e2', .slice D3 i2.lv.length e3', .slice (some ⟨gb, 0, none⟩) i2.en.length e4'] 32 (0, 0))] w9) := Lib.hid (HB8.out.put (by omega) hg9.out hr9.out (by simp only [List.mem_cons, List.not_mem_nil, or_false]; rintro q (rfl | rfl | rfl | rfl) <;> simp <;> omega))
  have HIO := Lib.hid (HI6.out.below hb69)
  have HIM := Lib.hid (HIB.out.below hb69)
  clear hr hr9 hg9 HB8 hb68 hb69 HI6 HIB
  generalize w6.heap.size + 1 = g4 at *
  generalize w6.heap.size = g3 at *
  have hlen := HLEN.out
  have he1 : ((i2.en.length : Int) == 1) = true := by rw [hlen]; rfl
  have he2 : 0 < i2.en.length := by omega
  have HEC := Lib.hid (fun j v (hj : j < 5) (hv : (flatE i2.en)[j]? = some v) => (HIM.out.e.cellAt j (by omega)).trans hv)
  rw [HEN.out] at HEC
  have hent := eqlEn ⟨2, 1, 0, 0, false⟩
  have HGB := Lib.hid (show gb < w9.heap.size from World.block_lt_of_cell? w9 ⟨gb, 0, none⟩ (HEC.out 0 _ (by decide) rfl))
  clear hlen
  go_wp2_with fail
  refine GhostV.ghost (fun γ L wx => GP (w9) [(40, pdIm i2)] γ L wx) (by kernel_rfl) (by kernel_rfl) (fun γ => GP.start _ _ γ) ?_
  apply GhostV.walk_const (fun γ => by rfl)
  · intro γ L wx h1 h2 hx K hK
    have HXB := HB9.out.next hx.below
    obtain ⟨k0, k1, k2, k3, k4, k5, k6, k7⟩ := boxRow HXB.r2
    have m0 := cell_of_row wx _ 0 _ _ (0, 0) HXB.r0
    have m1 := cell_of_row wx _ 1 _ _ (0, 0) HXB.r0
    have m2 := cell_of_row wx _ 2 _ _ (0, 0) HXB.r0
    have n0 := cell_of_row wx _ 0 _ _ (0, 0) HXB.r1
    have n1 := cell_of_row wx _ 1 _ _ (0, 0) HXB.r1
    have n2 := cell_of_row wx _ 2 _ _ (0, 0) HXB.r1
    have n3 := cell_of_row wx _ 3 _ _ (0, 0) HXB.r1
    have o0 := cell_of_row wx _ 0 _ _ (0, 0) HXB.r3
    have o1 := cell_of_row wx _ 1 _ _ (0, 0) HXB.r3
    have o2 := cell_of_row wx _ 2 _ _ (0, 0) HXB.r3
    have o3 := cell_of_row wx _ 3 _ _ (0, 0) HXB.r3
    simp only [List.getElem?_toArray, List.getElem?_cons_zero, List.getElem?_cons_succ] at m0 m1 m2 n0 n1 n2 n3 o0 o1 o2 o3
    have q0 := (hx.below.cell (p := ⟨gb, 0, none⟩) HGB.out).trans (HEC.out 0 _ (by decide) rfl)
    have q1 := (hx.below.cell (p := ⟨gb, 1, none⟩) HGB.out).trans (HEC.out 1 _ (by decide) rfl)
    have q2 := (hx.below.cell (p := ⟨gb, 2, none⟩) HGB.out).trans (HEC.out 2 _ (by decide) rfl)
    have q3 := (hx.below.cell (p := ⟨gb, 3, none⟩) HGB.out).trans (HEC.out 3 _ (by decide) rfl)
    have q4 := (hx.below.cell (p := ⟨gb, 4, none⟩) HGB.out).trans (HEC.out 4 _ (by decide) rfl)
    have HCW := Lib.hid (HCX3.out _ HXB.below)
    have HVO := Lib.hid (HIO.out.view.below hx.below)
    have HVM := Lib.hid (HIM.out.view.below hx.below)
    have HK2 := Lib.hid hK
    have HX := Lib.hid hx
    have H2 := Lib.hid h2
    clear hK h1 h2 hx
    go_simp
    first
      | (go_at_call 39; (with_reducible refine (FE.out _ _ _ _ _ _ _ _ _ HVO.out HVM.out).mono ?_); rintro e w' ⟨rfl, hb⟩; exact HK2.out _ (HX.out.next _ (by rfl) hb))
      | (go_at_call 39; obtain ⟨pv, fv, lv, ev, e, hI⟩ := HX.out.row (40, pdIm i2) (by simp) (H2.out 40 (by kernel_rfl)); simp only at e; rw [e] at HK2 ⊢; refine (FE.out _ _ _ _ _ _ _ _ _ hI.view HVM.out).mono ?_; rintro e w' ⟨rfl, hb⟩; exact HK2.out _ (HX.out.next _ (by rfl) hb))
      | exact HK2.out _ (HX.out.next _ (by rfl) (Below.refl _ _))
  try simp only [Act.put, List.setIfInBounds_toArray, List.set_cons_succ, List.set_cons_zero]
  apply GhostV.walk_const (fun γ => by rfl)
  · intro γ L wx h1 h2 hx K hK
    have HXB := HB9.out.next hx.below
    obtain ⟨k0, k1, k2, k3, k4, k5, k6, k7⟩ := boxRow HXB.r2
    have m0 := cell_of_row wx _ 0 _ _ (0, 0) HXB.r0
    have m1 := cell_of_row wx _ 1 _ _ (0, 0) HXB.r0
    have m2 := cell_of_row wx _ 2 _ _ (0, 0) HXB.r0
    have n0 := cell_of_row wx _ 0 _ _ (0, 0) HXB.r1
    have n1 := cell_of_row wx _ 1 _ _ (0, 0) HXB.r1
    have n2 := cell_of_row wx _ 2 _ _ (0, 0) HXB.r1
    have n3 := cell_of_row wx _ 3 _ _ (0, 0) HXB.r1
    have o0 := cell_of_row wx _ 0 _ _ (0, 0) HXB.r3
    have o1 := cell_of_row wx _ 1 _ _ (0, 0) HXB.r3
    have o2 := cell_of_row wx _ 2 _ _ (0, 0) HXB.r3
    have o3 := cell_of_row wx _ 3 _ _ (0, 0) HXB.r3
    simp only [List.getElem?_toArray, List.getElem?_cons_zero, List.getElem?_cons_succ] at m0 m1 m2 n0 n1 n2 n3 o0 o1 o2 o3
    have q0 := (hx.below.cell (p := ⟨gb, 0, none⟩) HGB.out).trans (HEC.out 0 _ (by decide) rfl)
    have q1 := (hx.below.cell (p := ⟨gb, 1, none⟩) HGB.out).trans (HEC.out 1 _ (by decide) rfl)
    have q2 := (hx.below.cell (p := ⟨gb, 2, none⟩) HGB.out).trans (HEC.out 2 _ (by decide) rfl)
    have q3 := (hx.below.cell (p := ⟨gb, 3, none⟩) HGB.out).trans (HEC.out 3 _ (by decide) rfl)
    have q4 := (hx.below.cell (p := ⟨gb, 4, none⟩) HGB.out).trans (HEC.out 4 _ (by decide) rfl)
    have HCW := Lib.hid (HCX3.out _ HXB.below)
    have HVO := Lib.hid (HIO.out.view.below hx.below)
    have HVM := Lib.hid (HIM.out.view.below hx.below)
    have HK2 := Lib.hid hK
    have HX := Lib.hid hx
    have H2 := Lib.hid h2
    clear hK h1 h2 hx
    go_simp
    first
      | (go_at_call 39; (with_reducible refine (FE.out _ _ _ _ _ _ _ _ _ HVO.out HVM.out).mono ?_); rintro e w' ⟨rfl, hb⟩; exact HK2.out _ (HX.out.next _ (by rfl) hb))
      | (go_at_call 39; obtain ⟨pv, fv, lv, ev, e, hI⟩ := HX.out.row (40, pdIm i2) (by simp) (H2.out 40 (by kernel_rfl)); simp only at e; rw [e] at HK2 ⊢; refine (FE.out _ _ _ _ _ _ _ _ _ hI.view HVM.out).mono ?_; rintro e w' ⟨rfl, hb⟩; exact HK2.out _ (HX.out.next _ (by rfl) hb))
      | exact HK2.out _ (HX.out.next _ (by rfl) (Below.refl _ _))
  try simp only [Act.put, List.setIfInBounds_toArray, List.set_cons_succ, List.set_cons_zero]
  apply GhostV.walk_const (fun γ => by rfl)
  · intro γ L wx h1 h2 hx K hK
    have HXB := HB9.out.next hx.below
    obtain ⟨k0, k1, k2, k3, k4, k5, k6, k7⟩ := boxRow HXB.r2
    have m0 := cell_of_row wx _ 0 _ _ (0, 0) HXB.r0
    have m1 := cell_of_row wx _ 1 _ _ (0, 0) HXB.r0
    have m2 := cell_of_row wx _ 2 _ _ (0, 0) HXB.r0
    have n0 := cell_of_row wx _ 0 _ _ (0, 0) HXB.r1
    have n1 := cell_of_row wx _ 1 _ _ (0, 0) HXB.r1
    have n2 := cell_of_row wx _ 2 _ _ (0, 0) HXB.r1
    have n3 := cell_of_row wx _ 3 _ _ (0, 0) HXB.r1
    have o0 := cell_of_row wx _ 0 _ _ (0, 0) HXB.r3
    have o1 := cell_of_row wx _ 1 _ _ (0, 0) HXB.r3
    have o2 := cell_of_row wx _ 2 _ _ (0, 0) HXB.r3
    have o3 := cell_of_row wx _ 3 _ _ (0, 0) HXB.r3
    simp only [List.getElem?_toArray, List.getElem?_cons_zero, List.getElem?_cons_succ] at m0 m1 m2 n0 n1 n2 n3 o0 o1 o2 o3
    have q0 := (hx.below.cell (p := ⟨gb, 0, none⟩) HGB.out).trans (HEC.out 0 _ (by decide) rfl)
    have q1 := (hx.below.cell (p := ⟨gb, 1, none⟩) HGB.out).trans (HEC.out 1 _ (by decide) rfl)
    have q2 := (hx.below.cell (p := ⟨gb, 2, none⟩) HGB.out).trans (HEC.out 2 _ (by decide) rfl)
    have q3 := (hx.below.cell (p := ⟨gb, 3, none⟩) HGB.out).trans (HEC.out 3 _ (by decide) rfl)
    have q4 := (hx.below.cell (p := ⟨gb, 4, none⟩) HGB.out).trans (HEC.out 4 _ (by decide) rfl)
    have HCW := Lib.hid (HCX3.out _ HXB.below)
    have HVO := Lib.hid (HIO.out.view.below hx.below)
    have HVM := Lib.hid (HIM.out.view.below hx.below)
    have HK2 := Lib.hid hK
    have HX := Lib.hid hx
    have H2 := Lib.hid h2
    clear hK h1 h2 hx
    go_simp
    first
      | (go_at_call 39; (with_reducible refine (FE.out _ _ _ _ _ _ _ _ _ HVO.out HVM.out).mono ?_); rintro e w' ⟨rfl, hb⟩; exact HK2.out _ (HX.out.next _ (by rfl) hb))
      | (go_at_call 39; obtain ⟨pv, fv, lv, ev, e, hI⟩ := HX.out.row (40, pdIm i2) (by simp) (H2.out 40 (by kernel_rfl)); simp only at e; rw [e] at HK2 ⊢; refine (FE.out _ _ _ _ _ _ _ _ _ hI.view HVM.out).mono ?_; rintro e w' ⟨rfl, hb⟩; exact HK2.out _ (HX.out.next _ (by rfl) hb))
      | exact HK2.out _ (HX.out.next _ (by rfl) (Below.refl _ _))
  try simp only [Act.put, List.setIfInBounds_toArray, List.set_cons_succ, List.set_cons_zero]
  apply GhostV.walk_const (fun γ => by rfl)
  · intro γ L wx h1 h2 hx K hK
    have HXB := HB9.out.next hx.below
    obtain ⟨k0, k1, k2, k3, k4, k5, k6, k7⟩ := boxRow HXB.r2
    have m0 := cell_of_row wx _ 0 _ _ (0, 0) HXB.r0
    have m1 := cell_of_row wx _ 1 _ _ (0, 0) HXB.r0
    have m2 := cell_of_row wx _ 2 _ _ (0, 0) HXB.r0
    have n0 := cell_of_row wx _ 0 _ _ (0, 0) HXB.r1
    have n1 := cell_of_row wx _ 1 _ _ (0, 0) HXB.r1
    have n2 := cell_of_row wx _ 2 _ _ (0, 0) HXB.r1
    have n3 := cell_of_row wx _ 3 _ _ (0, 0) HXB.r1
    have o0 := cell_of_row wx _ 0 _ _ (0, 0) HXB.r3
    have o1 := cell_of_row wx _ 1 _ _ (0, 0) HXB.r3
    have o2 := cell_of_row wx _ 2 _ _ (0, 0) HXB.r3
    have o3 := cell_of_row wx _ 3 _ _ (0, 0) HXB.r3
    simp only [List.getElem?_toArray, List.getElem?_cons_zero, List.getElem?_cons_succ] at m0 m1 m2 n0 n1 n2 n3 o0 o1 o2 o3
    have q0 := (hx.below.cell (p := ⟨gb, 0, none⟩) HGB.out).trans (HEC.out 0 _ (by decide) rfl)
    have q1 := (hx.below.cell (p := ⟨gb, 1, none⟩) HGB.out).trans (HEC.out 1 _ (by decide) rfl)
    have q2 := (hx.below.cell (p := ⟨gb, 2, none⟩) HGB.out).trans (HEC.out 2 _ (by decide) rfl)
    have q3 := (hx.below.cell (p := ⟨gb, 3, none⟩) HGB.out).trans (HEC.out 3 _ (by decide) rfl)
    have q4 := (hx.below.cell (p := ⟨gb, 4, none⟩) HGB.out).trans (HEC.out 4 _ (by decide) rfl)
    have HCW := Lib.hid (HCX3.out _ HXB.below)
    have HVO := Lib.hid (HIO.out.view.below hx.below)
    have HVM := Lib.hid (HIM.out.view.below hx.below)
    have HK2 := Lib.hid hK
    have HX := Lib.hid hx
    have H2 := Lib.hid h2
    clear hK h1 h2 hx
    go_simp
    first
      | (go_at_call 39; (with_reducible refine (FE.out _ _ _ _ _ _ _ _ _ HVO.out HVM.out).mono ?_); rintro e w' ⟨rfl, hb⟩; exact HK2.out _ (HX.out.next _ (by rfl) hb))
      | (go_at_call 39; obtain ⟨pv, fv, lv, ev, e, hI⟩ := HX.out.row (40, pdIm i2) (by simp) (H2.out 40 (by kernel_rfl)); simp only at e; rw [e] at HK2 ⊢; refine (FE.out _ _ _ _ _ _ _ _ _ hI.view HVM.out).mono ?_; rintro e w' ⟨rfl, hb⟩; exact HK2.out _ (HX.out.next _ (by rfl) hb))
      | exact HK2.out _ (HX.out.next _ (by rfl) (Below.refl _ _))
  try simp only [Act.put, List.setIfInBounds_toArray, List.set_cons_succ, List.set_cons_zero]
  apply GhostV.walk_const (fun γ => by rfl)
  · intro γ L wx h1 h2 hx K hK
    have HXB := HB9.out.next hx.below
    obtain ⟨k0, k1, k2, k3, k4, k5, k6, k7⟩ := boxRow HXB.r2
    have m0 := cell_of_row wx _ 0 _ _ (0, 0) HXB.r0
    have m1 := cell_of_row wx _ 1 _ _ (0, 0) HXB.r0
    have m2 := cell_of_row wx _ 2 _ _ (0, 0) HXB.r0
    have n0 := cell_of_row wx _ 0 _ _ (0, 0) HXB.r1
    have n1 := cell_of_row wx _ 1 _ _ (0, 0) HXB.r1
    have n2 := cell_of_row wx _ 2 _ _ (0, 0) HXB.r1
    have n3 := cell_of_row wx _ 3 _ _ (0, 0) HXB.r1
    have o0 := cell_of_row wx _ 0 _ _ (0, 0) HXB.r3
    have o1 := cell_of_row wx _ 1 _ _ (0, 0) HXB.r3
    have o2 := cell_of_row wx _ 2 _ _ (0, 0) HXB.r3
    have o3 := cell_of_row wx _ 3 _ _ (0, 0) HXB.r3
    simp only [List.getElem?_toArray, List.getElem?_cons_zero, List.getElem?_cons_succ] at m0 m1 m2 n0 n1 n2 n3 o0 o1 o2 o3
    have q0 := (hx.below.cell (p := ⟨gb, 0, none⟩) HGB.out).trans (HEC.out 0 _ (by decide) rfl)
    have q1 := (hx.below.cell (p := ⟨gb, 1, none⟩) HGB.out).trans (HEC.out 1 _ (by decide) rfl)
    have q2 := (hx.below.cell (p := ⟨gb, 2, none⟩) HGB.out).trans (HEC.out 2 _ (by decide) rfl)
    have q3 := (hx.below.cell (p := ⟨gb, 3, none⟩) HGB.out).trans (HEC.out 3 _ (by decide) rfl)
    have q4 := (hx.below.cell (p := ⟨gb, 4, none⟩) HGB.out).trans (HEC.out 4 _ (by decide) rfl)
    have HCW := Lib.hid (HCX3.out _ HXB.below)
    have HVO := Lib.hid (HIO.out.view.below hx.below)
    have HVM := Lib.hid (HIM.out.view.below hx.below)
    have HK2 := Lib.hid hK
    have HX := Lib.hid hx
    have H2 := Lib.hid h2
    clear hK h1 h2 hx
    go_simp
    first
      | (go_at_call 39; (with_reducible refine (FE.out _ _ _ _ _ _ _ _ _ HVO.out HVM.out).mono ?_); rintro e w' ⟨rfl, hb⟩; exact HK2.out _ (HX.out.next _ (by rfl) hb))
      | (go_at_call 39; obtain ⟨pv, fv, lv, ev, e, hI⟩ := HX.out.row (40, pdIm i2) (by simp) (H2.out 40 (by kernel_rfl)); simp only at e; rw [e] at HK2 ⊢; refine (FE.out _ _ _ _ _ _ _ _ _ hI.view HVM.out).mono ?_; rintro e w' ⟨rfl, hb⟩; exact HK2.out _ (HX.out.next _ (by rfl) hb))
      | exact HK2.out _ (HX.out.next _ (by rfl) (Below.refl _ _))
  try simp only [Act.put, List.setIfInBounds_toArray, List.set_cons_succ, List.set_cons_zero]
  apply GhostV.walk_const (fun γ => by rfl)
  · intro γ L wx h1 h2 hx K hK
    have HXB := HB9.out.next hx.below
    obtain ⟨k0, k1, k2, k3, k4, k5, k6, k7⟩ := boxRow HXB.r2
    have m0 := cell_of_row wx _ 0 _ _ (0, 0) HXB.r0
    have m1 := cell_of_row wx _ 1 _ _ (0, 0) HXB.r0
    have m2 := cell_of_row wx _ 2 _ _ (0, 0) HXB.r0
    have n0 := cell_of_row wx _ 0 _ _ (0, 0) HXB.r1
    have n1 := cell_of_row wx _ 1 _ _ (0, 0) HXB.r1
    have n2 := cell_of_row wx _ 2 _ _ (0, 0) HXB.r1
    have n3 := cell_of_row wx _ 3 _ _ (0, 0) HXB.r1
    have o0 := cell_of_row wx _ 0 _ _ (0, 0) HXB.r3
    have o1 := cell_of_row wx _ 1 _ _ (0, 0) HXB.r3
    have o2 := cell_of_row wx _ 2 _ _ (0, 0) HXB.r3
    have o3 := cell_of_row wx _ 3 _ _ (0, 0) HXB.r3
    simp only [List.getElem?_toArray, List.getElem?_cons_zero, List.getElem?_cons_succ] at m0 m1 m2 n0 n1 n2 n3 o0 o1 o2 o3
    have q0 := (hx.below.cell (p := ⟨gb, 0, none⟩) HGB.out).trans (HEC.out 0 _ (by decide) rfl)
    have q1 := (hx.below.cell (p := ⟨gb, 1, none⟩) HGB.out).trans (HEC.out 1 _ (by decide) rfl)
    have q2 := (hx.below.cell (p := ⟨gb, 2, none⟩) HGB.out).trans (HEC.out 2 _ (by decide) rfl)
    have q3 := (hx.below.cell (p := ⟨gb, 3, none⟩) HGB.out).trans (HEC.out 3 _ (by decide) rfl)
    have q4 := (hx.below.cell (p := ⟨gb, 4, none⟩) HGB.out).trans (HEC.out 4 _ (by decide) rfl)
    have HCW := Lib.hid (HCX3.out _ HXB.below)
    have HVO := Lib.hid (HIO.out.view.below hx.below)
    have HVM := Lib.hid (HIM.out.view.below hx.below)
    have HK2 := Lib.hid hK
    have HX := Lib.hid hx
    have H2 := Lib.hid h2
    clear hK h1 h2 hx
    go_simp
    first
      | (go_at_call 39; (with_reducible refine (FE.out _ _ _ _ _ _ _ _ _ HVO.out HVM.out).mono ?_); rintro e w' ⟨rfl, hb⟩; exact HK2.out _ (HX.out.next _ (by rfl) hb))
      | (go_at_call 39; obtain ⟨pv, fv, lv, ev, e, hI⟩ := HX.out.row (40, pdIm i2) (by simp) (H2.out 40 (by kernel_rfl)); simp only at e; rw [e] at HK2 ⊢; refine (FE.out _ _ _ _ _ _ _ _ _ hI.view HVM.out).mono ?_; rintro e w' ⟨rfl, hb⟩; exact HK2.out _ (HX.out.next _ (by rfl) hb))
      | exact HK2.out _ (HX.out.next _ (by rfl) (Below.refl _ _))
  try simp only [Act.put, List.setIfInBounds_toArray, List.set_cons_succ, List.set_cons_zero]
  apply GhostV.walk_const (fun γ => by rfl)
  · intro γ L wx h1 h2 hx K hK
    have HXB := HB9.out.next hx.below
    obtain ⟨k0, k1, k2, k3, k4, k5, k6, k7⟩ := boxRow HXB.r2
    have m0 := cell_of_row wx _ 0 _ _ (0, 0) HXB.r0
    have m1 := cell_of_row wx _ 1 _ _ (0, 0) HXB.r0
    have m2 := cell_of_row wx _ 2 _ _ (0, 0) HXB.r0
    have n0 := cell_of_row wx _ 0 _ _ (0, 0) HXB.r1
    have n1 := cell_of_row wx _ 1 _ _ (0, 0) HXB.r1
    have n2 := cell_of_row wx _ 2 _ _ (0, 0) HXB.r1
    have n3 := cell_of_row wx _ 3 _ _ (0, 0) HXB.r1
    have o0 := cell_of_row wx _ 0 _ _ (0, 0) HXB.r3
    have o1 := cell_of_row wx _ 1 _ _ (0, 0) HXB.r3
    have o2 := cell_of_row wx _ 2 _ _ (0, 0) HXB.r3
    have o3 := cell_of_row wx _ 3 _ _ (0, 0) HXB.r3
    simp only [List.getElem?_toArray, List.getElem?_cons_zero, List.getElem?_cons_succ] at m0 m1 m2 n0 n1 n2 n3 o0 o1 o2 o3
    have q0 := (hx.below.cell (p := ⟨gb, 0, none⟩) HGB.out).trans (HEC.out 0 _ (by decide) rfl)
    have q1 := (hx.below.cell (p := ⟨gb, 1, none⟩) HGB.out).trans (HEC.out 1 _ (by decide) rfl)
    have q2 := (hx.below.cell (p := ⟨gb, 2, none⟩) HGB.out).trans (HEC.out 2 _ (by decide) rfl)
    have q3 := (hx.below.cell (p := ⟨gb, 3, none⟩) HGB.out).trans (HEC.out 3 _ (by decide) rfl)
    have q4 := (hx.below.cell (p := ⟨gb, 4, none⟩) HGB.out).trans (HEC.out 4 _ (by decide) rfl)
    have HCW := Lib.hid (HCX3.out _ HXB.below)
    have HVO := Lib.hid (HIO.out.view.below hx.below)
    have HVM := Lib.hid (HIM.out.view.below hx.below)
    have HK2 := Lib.hid hK
    have HX := Lib.hid hx
    have H2 := Lib.hid h2
    clear hK h1 h2 hx
    go_simp
    first
      | (go_at_call 39; (with_reducible refine (FE.out _ _ _ _ _ _ _ _ _ HVO.out HVM.out).mono ?_); rintro e w' ⟨rfl, hb⟩; exact HK2.out _ (HX.out.next _ (by rfl) hb))
      | (go_at_call 39; obtain ⟨pv, fv, lv, ev, e, hI⟩ := HX.out.row (40, pdIm i2) (by simp) (H2.out 40 (by kernel_rfl)); simp only at e; rw [e] at HK2 ⊢; refine (FE.out _ _ _ _ _ _ _ _ _ hI.view HVM.out).mono ?_; rintro e w' ⟨rfl, hb⟩; exact HK2.out _ (HX.out.next _ (by rfl) hb))
      | exact HK2.out _ (HX.out.next _ (by rfl) (Below.refl _ _))
  try simp only [Act.put, List.setIfInBounds_toArray, List.set_cons_succ, List.set_cons_zero]
  apply GhostV.walk_const (fun γ => by rfl)
  · intro γ L wx h1 h2 hx K hK
    have HXB := HB9.out.next hx.below
    obtain ⟨k0, k1, k2, k3, k4, k5, k6, k7⟩ := boxRow HXB.r2
    have m0 := cell_of_row wx _ 0 _ _ (0, 0) HXB.r0
    have m1 := cell_of_row wx _ 1 _ _ (0, 0) HXB.r0
    have m2 := cell_of_row wx _ 2 _ _ (0, 0) HXB.r0
    have n0 := cell_of_row wx _ 0 _ _ (0, 0) HXB.r1
    have n1 := cell_of_row wx _ 1 _ _ (0, 0) HXB.r1
    have n2 := cell_of_row wx _ 2 _ _ (0, 0) HXB.r1
    have n3 := cell_of_row wx _ 3 _ _ (0, 0) HXB.r1
    have o0 := cell_of_row wx _ 0 _ _ (0, 0) HXB.r3
    have o1 := cell_of_row wx _ 1 _ _ (0, 0) HXB.r3
    have o2 := cell_of_row wx _ 2 _ _ (0, 0) HXB.r3
    have o3 := cell_of_row wx _ 3 _ _ (0, 0) HXB.r3
    simp only [List.getElem?_toArray, List.getElem?_cons_zero, List.getElem?_cons_succ] at m0 m1 m2 n0 n1 n2 n3 o0 o1 o2 o3
    have q0 := (hx.below.cell (p := ⟨gb, 0, none⟩) HGB.out).trans (HEC.out 0 _ (by decide) rfl)
    have q1 := (hx.below.cell (p := ⟨gb, 1, none⟩) HGB.out).trans (HEC.out 1 _ (by decide) rfl)
    have q2 := (hx.below.cell (p := ⟨gb, 2, none⟩) HGB.out).trans (HEC.out 2 _ (by decide) rfl)
    have q3 := (hx.below.cell (p := ⟨gb, 3, none⟩) HGB.out).trans (HEC.out 3 _ (by decide) rfl)
    have q4 := (hx.below.cell (p := ⟨gb, 4, none⟩) HGB.out).trans (HEC.out 4 _ (by decide) rfl)
    have HCW := Lib.hid (HCX3.out _ HXB.below)
    have HVO := Lib.hid (HIO.out.view.below hx.below)
    have HVM := Lib.hid (HIM.out.view.below hx.below)
    have HK2 := Lib.hid hK
    have HX := Lib.hid hx
    have H2 := Lib.hid h2
    clear hK h1 h2 hx
    go_simp
    first
      | (go_at_call 39; (with_reducible refine (FE.out _ _ _ _ _ _ _ _ _ HVO.out HVM.out).mono ?_); rintro e w' ⟨rfl, hb⟩; exact HK2.out _ (HX.out.next _ (by rfl) hb))
      | (go_at_call 39; obtain ⟨pv, fv, lv, ev, e, hI⟩ := HX.out.row (40, pdIm i2) (by simp) (H2.out 40 (by kernel_rfl)); simp only at e; rw [e] at HK2 ⊢; refine (FE.out _ _ _ _ _ _ _ _ _ hI.view HVM.out).mono ?_; rintro e w' ⟨rfl, hb⟩; exact HK2.out _ (HX.out.next _ (by rfl) hb))
      | exact HK2.out _ (HX.out.next _ (by rfl) (Below.refl _ _))
  try simp only [Act.put, List.setIfInBounds_toArray, List.set_cons_succ, List.set_cons_zero]
  apply GhostV.walk_const (fun γ => by rfl)
  · intro γ L wx h1 h2 hx K hK
    have HXB := HB9.out.next hx.below
    obtain ⟨k0, k1, k2, k3, k4, k5, k6, k7⟩ := boxRow HXB.r2
    have m0 := cell_of_row wx _ 0 _ _ (0, 0) HXB.r0
    have m1 := cell_of_row wx _ 1 _ _ (0, 0) HXB.r0
    have m2 := cell_of_row wx _ 2 _ _ (0, 0) HXB.r0
    have n0 := cell_of_row wx _ 0 _ _ (0, 0) HXB.r1
    have n1 := cell_of_row wx _ 1 _ _ (0, 0) HXB.r1
    have n2 := cell_of_row wx _ 2 _ _ (0, 0) HXB.r1
    have n3 := cell_of_row wx _ 3 _ _ (0, 0) HXB.r1
    have o0 := cell_of_row wx _ 0 _ _ (0, 0) HXB.r3
    have o1 := cell_of_row wx _ 1 _ _ (0, 0) HXB.r3
    have o2 := cell_of_row wx _ 2 _ _ (0, 0) HXB.r3
    have o3 := cell_of_row wx _ 3 _ _ (0, 0) HXB.r3
    simp only [List.getElem?_toArray, List.getElem?_cons_zero, List.getElem?_cons_succ] at m0 m1 m2 n0 n1 n2 n3 o0 o1 o2 o3
    have q0 := (hx.below.cell (p := ⟨gb, 0, none⟩) HGB.out).trans (HEC.out 0 _ (by decide) rfl)
    have q1 := (hx.below.cell (p := ⟨gb, 1, none⟩) HGB.out).trans (HEC.out 1 _ (by decide) rfl)
    have q2 := (hx.below.cell (p := ⟨gb, 2, none⟩) HGB.out).trans (HEC.out 2 _ (by decide) rfl)
    have q3 := (hx.below.cell (p := ⟨gb, 3, none⟩) HGB.out).trans (HEC.out 3 _ (by decide) rfl)
    have q4 := (hx.below.cell (p := ⟨gb, 4, none⟩) HGB.out).trans (HEC.out 4 _ (by decide) rfl)
    have HCW := Lib.hid (HCX3.out _ HXB.below)
    have HVO := Lib.hid (HIO.out.view.below hx.below)
    have HVM := Lib.hid (HIM.out.view.below hx.below)
    have HK2 := Lib.hid hK
    have HX := Lib.hid hx
    have H2 := Lib.hid h2
    clear hK h1 h2 hx
    go_simp
    first
      | (go_at_call 39; (with_reducible refine (FE.out _ _ _ _ _ _ _ _ _ HVO.out HVM.out).mono ?_); rintro e w' ⟨rfl, hb⟩; exact HK2.out _ (HX.out.next _ (by rfl) hb))
      | (go_at_call 39; obtain ⟨pv, fv, lv, ev, e, hI⟩ := HX.out.row (40, pdIm i2) (by simp) (H2.out 40 (by kernel_rfl)); simp only at e; rw [e] at HK2 ⊢; refine (FE.out _ _ _ _ _ _ _ _ _ hI.view HVM.out).mono ?_; rintro e w' ⟨rfl, hb⟩; exact HK2.out _ (HX.out.next _ (by rfl) hb))
      | exact HK2.out _ (HX.out.next _ (by rfl) (Below.refl _ _))
  try simp only [Act.put, List.setIfInBounds_toArray, List.set_cons_succ, List.set_cons_zero]
  apply GhostV.walk_const (fun γ => by rfl)
  · intro γ L wx h1 h2 hx K hK
    have HXB := HB9.out.next hx.below
    obtain ⟨k0, k1, k2, k3, k4, k5, k6, k7⟩ := boxRow HXB.r2
    have m0 := cell_of_row wx _ 0 _ _ (0, 0) HXB.r0
    have m1 := cell_of_row wx _ 1 _ _ (0, 0) HXB.r0
    have m2 := cell_of_row wx _ 2 _ _ (0, 0) HXB.r0
    have n0 := cell_of_row wx _ 0 _ _ (0, 0) HXB.r1
    have n1 := cell_of_row wx _ 1 _ _ (0, 0) HXB.r1
    have n2 := cell_of_row wx _ 2 _ _ (0, 0) HXB.r1
    have n3 := cell_of_row wx _ 3 _ _ (0, 0) HXB.r1
    have o0 := cell_of_row wx _ 0 _ _ (0, 0) HXB.r3
    have o1 := cell_of_row wx _ 1 _ _ (0, 0) HXB.r3
    have o2 := cell_of_row wx _ 2 _ _ (0, 0) HXB.r3
    have o3 := cell_of_row wx _ 3 _ _ (0, 0) HXB.r3
    simp only [List.getElem?_toArray, List.getElem?_cons_zero, List.getElem?_cons_succ] at m0 m1 m2 n0 n1 n2 n3 o0 o1 o2 o3
    have q0 := (hx.below.cell (p := ⟨gb, 0, none⟩) HGB.out).trans (HEC.out 0 _ (by decide) rfl)
    have q1 := (hx.below.cell (p := ⟨gb, 1, none⟩) HGB.out).trans (HEC.out 1 _ (by decide) rfl)
    have q2 := (hx.below.cell (p := ⟨gb, 2, none⟩) HGB.out).trans (HEC.out 2 _ (by decide) rfl)
    have q3 := (hx.below.cell (p := ⟨gb, 3, none⟩) HGB.out).trans (HEC.out 3 _ (by decide) rfl)
    have q4 := (hx.below.cell (p := ⟨gb, 4, none⟩) HGB.out).trans (HEC.out 4 _ (by decide) rfl)
    have HCW := Lib.hid (HCX3.out _ HXB.below)
    have HVO := Lib.hid (HIO.out.view.below hx.below)
    have HVM := Lib.hid (HIM.out.view.below hx.below)
    have HK2 := Lib.hid hK
    have HX := Lib.hid hx
    have H2 := Lib.hid h2
    clear hK h1 h2 hx
    go_simp
    first
      | (go_at_call 39; (with_reducible refine (FE.out _ _ _ _ _ _ _ _ _ HVO.out HVM.out).mono ?_); rintro e w' ⟨rfl, hb⟩; exact HK2.out _ (HX.out.next _ (by rfl) hb))
      | (go_at_call 39; obtain ⟨pv, fv, lv, ev, e, hI⟩ := HX.out.row (40, pdIm i2) (by simp) (H2.out 40 (by kernel_rfl)); simp only at e; rw [e] at HK2 ⊢; refine (FE.out _ _ _ _ _ _ _ _ _ hI.view HVM.out).mono ?_; rintro e w' ⟨rfl, hb⟩; exact HK2.out _ (HX.out.next _ (by rfl) hb))
      | exact HK2.out _ (HX.out.next _ (by rfl) (Below.refl _ _))
  try simp only [Act.put, List.setIfInBounds_toArray, List.set_cons_succ, List.set_cons_zero]
  apply GhostV.walk_const (fun γ => by rfl)
  · intro γ L wx h1 h2 hx K hK
    have HXB := HB9.out.next hx.below
    obtain ⟨k0, k1, k2, k3, k4, k5, k6, k7⟩ := boxRow HXB.r2
    have m0 := cell_of_row wx _ 0 _ _ (0, 0) HXB.r0
    have m1 := cell_of_row wx _ 1 _ _ (0, 0) HXB.r0
    have m2 := cell_of_row wx _ 2 _ _ (0, 0) HXB.r0
    have n0 := cell_of_row wx _ 0 _ _ (0, 0) HXB.r1
    have n1 := cell_of_row wx _ 1 _ _ (0, 0) HXB.r1
    have n2 := cell_of_row wx _ 2 _ _ (0, 0) HXB.r1
    have n3 := cell_of_row wx _ 3 _ _ (0, 0) HXB.r1
    have o0 := cell_of_row wx _ 0 _ _ (0, 0) HXB.r3
    have o1 := cell_of_row wx _ 1 _ _ (0, 0) HXB.r3
    have o2 := cell_of_row wx _ 2 _ _ (0, 0) HXB.r3
    have o3 := cell_of_row wx _ 3 _ _ (0, 0) HXB.r3
    simp only [List.getElem?_toArray, List.getElem?_cons_zero, List.getElem?_cons_succ] at m0 m1 m2 n0 n1 n2 n3 o0 o1 o2 o3
    have q0 := (hx.below.cell (p := ⟨gb, 0, none⟩) HGB.out).trans (HEC.out 0 _ (by decide) rfl)
    have q1 := (hx.below.cell (p := ⟨gb, 1, none⟩) HGB.out).trans (HEC.out 1 _ (by decide) rfl)
    have q2 := (hx.below.cell (p := ⟨gb, 2, none⟩) HGB.out).trans (HEC.out 2 _ (by decide) rfl)
    have q3 := (hx.below.cell (p := ⟨gb, 3, none⟩) HGB.out).trans (HEC.out 3 _ (by decide) rfl)
    have q4 := (hx.below.cell (p := ⟨gb, 4, none⟩) HGB.out).trans (HEC.out 4 _ (by decide) rfl)
    have HCW := Lib.hid (HCX3.out _ HXB.below)
    have HVO := Lib.hid (HIO.out.view.below hx.below)
    have HVM := Lib.hid (HIM.out.view.below hx.below)
    have HK2 := Lib.hid hK
    have HX := Lib.hid hx
    have H2 := Lib.hid h2
    clear hK h1 h2 hx
    go_simp
    first
      | (go_at_call 39; (with_reducible refine (FE.out _ _ _ _ _ _ _ _ _ HVO.out HVM.out).mono ?_); rintro e w' ⟨rfl, hb⟩; exact HK2.out _ (HX.out.next _ (by rfl) hb))
      | (go_at_call 39; obtain ⟨pv, fv, lv, ev, e, hI⟩ := HX.out.row (40, pdIm i2) (by simp) (H2.out 40 (by kernel_rfl)); simp only at e; rw [e] at HK2 ⊢; refine (FE.out _ _ _ _ _ _ _ _ _ hI.view HVM.out).mono ?_; rintro e w' ⟨rfl, hb⟩; exact HK2.out _ (HX.out.next _ (by rfl) hb))
      | exact HK2.out _ (HX.out.next _ (by rfl) (Below.refl _ _))
  try simp only [Act.put, List.setIfInBounds_toArray, List.set_cons_succ, List.set_cons_zero]
  apply GhostV.walk_const (fun γ => by rfl)
  · intro γ L wx h1 h2 hx K hK
    have HXB := HB9.out.next hx.below
    obtain ⟨k0, k1, k2, k3, k4, k5, k6, k7⟩ := boxRow HXB.r2
    have m0 := cell_of_row wx _ 0 _ _ (0, 0) HXB.r0
    have m1 := cell_of_row wx _ 1 _ _ (0, 0) HXB.r0
    have m2 := cell_of_row wx _ 2 _ _ (0, 0) HXB.r0
    have n0 := cell_of_row wx _ 0 _ _ (0, 0) HXB.r1
    have n1 := cell_of_row wx _ 1 _ _ (0, 0) HXB.r1
    have n2 := cell_of_row wx _ 2 _ _ (0, 0) HXB.r1
    have n3 := cell_of_row wx _ 3 _ _ (0, 0) HXB.r1
    have o0 := cell_of_row wx _ 0 _ _ (0, 0) HXB.r3
    have o1 := cell_of_row wx _ 1 _ _ (0, 0) HXB.r3
    have o2 := cell_of_row wx _ 2 _ _ (0, 0) HXB.r3
    have o3 := cell_of_row wx _ 3 _ _ (0, 0) HXB.r3
    simp only [List.getElem?_toArray, List.getElem?_cons_zero, List.getElem?_cons_succ] at m0 m1 m2 n0 n1 n2 n3 o0 o1 o2 o3
    have q0 := (hx.below.cell (p := ⟨gb, 0, none⟩) HGB.out).trans (HEC.out 0 _ (by decide) rfl)
    have q1 := (hx.below.cell (p := ⟨gb, 1, none⟩) HGB.out).trans (HEC.out 1 _ (by decide) rfl)
    have q2 := (hx.below.cell (p := ⟨gb, 2, none⟩) HGB.out).trans (HEC.out 2 _ (by decide) rfl)
    have q3 := (hx.below.cell (p := ⟨gb, 3, none⟩) HGB.out).trans (HEC.out 3 _ (by decide) rfl)
    have q4 := (hx.below.cell (p := ⟨gb, 4, none⟩) HGB.out).trans (HEC.out 4 _ (by decide) rfl)
    have HCW := Lib.hid (HCX3.out _ HXB.below)
    have HVO := Lib.hid (HIO.out.view.below hx.below)
    have HVM := Lib.hid (HIM.out.view.below hx.below)
    have HK2 := Lib.hid hK
    have HX := Lib.hid hx
    have H2 := Lib.hid h2
    clear hK h1 h2 hx
    go_simp
    first
      | (go_at_call 39; (with_reducible refine (FE.out _ _ _ _ _ _ _ _ _ HVO.out HVM.out).mono ?_); rintro e w' ⟨rfl, hb⟩; exact HK2.out _ (HX.out.next _ (by rfl) hb))
      | (go_at_call 39; obtain ⟨pv, fv, lv, ev, e, hI⟩ := HX.out.row (40, pdIm i2) (by simp) (H2.out 40 (by kernel_rfl)); simp only at e; rw [e] at HK2 ⊢; refine (FE.out _ _ _ _ _ _ _ _ _ hI.view HVM.out).mono ?_; rintro e w' ⟨rfl, hb⟩; exact HK2.out _ (HX.out.next _ (by rfl) hb))
      | exact HK2.out _ (HX.out.next _ (by rfl) (Below.refl _ _))
  try simp only [Act.put, List.setIfInBounds_toArray, List.set_cons_succ, List.set_cons_zero]
  apply GhostV.walk_const (fun γ => by rfl)
  · intro γ L wx h1 h2 hx K hK
    have HXB := HB9.out.next hx.below
    obtain ⟨k0, k1, k2, k3, k4, k5, k6, k7⟩ := boxRow HXB.r2
    have m0 := cell_of_row wx _ 0 _ _ (0, 0) HXB.r0
    have m1 := cell_of_row wx _ 1 _ _ (0, 0) HXB.r0
    have m2 := cell_of_row wx _ 2 _ _ (0, 0) HXB.r0
    have n0 := cell_of_row wx _ 0 _ _ (0, 0) HXB.r1
    have n1 := cell_of_row wx _ 1 _ _ (0, 0) HXB.r1
    have n2 := cell_of_row wx _ 2 _ _ (0, 0) HXB.r1
    have n3 := cell_of_row wx _ 3 _ _ (0, 0) HXB.r1
    have o0 := cell_of_row wx _ 0 _ _ (0, 0) HXB.r3
    have o1 := cell_of_row wx _ 1 _ _ (0, 0) HXB.r3
    have o2 := cell_of_row wx _ 2 _ _ (0, 0) HXB.r3
    have o3 := cell_of_row wx _ 3 _ _ (0, 0) HXB.r3
    simp only [List.getElem?_toArray, List.getElem?_cons_zero, List.getElem?_cons_succ] at m0 m1 m2 n0 n1 n2 n3 o0 o1 o2 o3
    have q0 := (hx.below.cell (p := ⟨gb, 0, none⟩) HGB.out).trans (HEC.out 0 _ (by decide) rfl)
    have q1 := (hx.below.cell (p := ⟨gb, 1, none⟩) HGB.out).trans (HEC.out 1 _ (by decide) rfl)
    have q2 := (hx.below.cell (p := ⟨gb, 2, none⟩) HGB.out).trans (HEC.out 2 _ (by decide) rfl)
    have q3 := (hx.below.cell (p := ⟨gb, 3, none⟩) HGB.out).trans (HEC.out 3 _ (by decide) rfl)
    have q4 := (hx.below.cell (p := ⟨gb, 4, none⟩) HGB.out).trans (HEC.out 4 _ (by decide) rfl)
    have HCW := Lib.hid (HCX3.out _ HXB.below)
    have HVO := Lib.hid (HIO.out.view.below hx.below)
    have HVM := Lib.hid (HIM.out.view.below hx.below)
    have HK2 := Lib.hid hK
    have HX := Lib.hid hx
    have H2 := Lib.hid h2
    clear hK h1 h2 hx
    go_simp
    first
      | (go_at_call 39; (with_reducible refine (FE.out _ _ _ _ _ _ _ _ _ HVO.out HVM.out).mono ?_); rintro e w' ⟨rfl, hb⟩; exact HK2.out _ (HX.out.next _ (by rfl) hb))
      | (go_at_call 39; obtain ⟨pv, fv, lv, ev, e, hI⟩ := HX.out.row (40, pdIm i2) (by simp) (H2.out 40 (by kernel_rfl)); simp only at e; rw [e] at HK2 ⊢; refine (FE.out _ _ _ _ _ _ _ _ _ hI.view HVM.out).mono ?_; rintro e w' ⟨rfl, hb⟩; exact HK2.out _ (HX.out.next _ (by rfl) hb))
      | exact HK2.out _ (HX.out.next _ (by rfl) (Below.refl _ _))
  try simp only [Act.put, List.setIfInBounds_toArray, List.set_cons_succ, List.set_cons_zero]
  apply GhostV.walk_const (fun γ => by rfl)
  · intro γ L wx h1 h2 hx K hK
    have HXB := HB9.out.next hx.below
    obtain ⟨k0, k1, k2, k3, k4, k5, k6, k7⟩ := boxRow HXB.r2
    have m0 := cell_of_row wx _ 0 _ _ (0, 0) HXB.r0
    have m1 := cell_of_row wx _ 1 _ _ (0, 0) HXB.r0
    have m2 := cell_of_row wx _ 2 _ _ (0, 0) HXB.r0
    have n0 := cell_of_row wx _ 0 _ _ (0, 0) HXB.r1
    have n1 := cell_of_row wx _ 1 _ _ (0, 0) HXB.r1
    have n2 := cell_of_row wx _ 2 _ _ (0, 0) HXB.r1
    have n3 := cell_of_row wx _ 3 _ _ (0, 0) HXB.r1
    have o0 := cell_of_row wx _ 0 _ _ (0, 0) HXB.r3
    have o1 := cell_of_row wx _ 1 _ _ (0, 0) HXB.r3
    have o2 := cell_of_row wx _ 2 _ _ (0, 0) HXB.r3
    have o3 := cell_of_row wx _ 3 _ _ (0, 0) HXB.r3
    simp only [List.getElem?_toArray, List.getElem?_cons_zero, List.getElem?_cons_succ] at m0 m1 m2 n0 n1 n2 n3 o0 o1 o2 o3
    have q0 := (hx.below.cell (p := ⟨gb, 0, none⟩) HGB.out).trans (HEC.out 0 _ (by decide) rfl)
    have q1 := (hx.below.cell (p := ⟨gb, 1, none⟩) HGB.out).trans (HEC.out 1 _ (by decide) rfl)
    have q2 := (hx.below.cell (p := ⟨gb, 2, none⟩) HGB.out).trans (HEC.out 2 _ (by decide) rfl)
    have q3 := (hx.below.cell (p := ⟨gb, 3, none⟩) HGB.out).trans (HEC.out 3 _ (by decide) rfl)
    have q4 := (hx.below.cell (p := ⟨gb, 4, none⟩) HGB.out).trans (HEC.out 4 _ (by decide) rfl)
    have HCW := Lib.hid (HCX3.out _ HXB.below)
    have HVO := Lib.hid (HIO.out.view.below hx.below)
    have HVM := Lib.hid (HIM.out.view.below hx.below)
    have HK2 := Lib.hid hK
    have HX := Lib.hid hx
    have H2 := Lib.hid h2
    clear hK h1 h2 hx
    go_simp
    first
      | (go_at_call 39; (with_reducible refine (FE.out _ _ _ _ _ _ _ _ _ HVO.out HVM.out).mono ?_); rintro e w' ⟨rfl, hb⟩; exact HK2.out _ (HX.out.next _ (by rfl) hb))
      | (go_at_call 39; obtain ⟨pv, fv, lv, ev, e, hI⟩ := HX.out.row (40, pdIm i2) (by simp) (H2.out 40 (by kernel_rfl)); simp only at e; rw [e] at HK2 ⊢; refine (FE.out _ _ _ _ _ _ _ _ _ hI.view HVM.out).mono ?_; rintro e w' ⟨rfl, hb⟩; exact HK2.out _ (HX.out.next _ (by rfl) hb))
      | exact HK2.out _ (HX.out.next _ (by rfl) (Below.refl _ _))
  try simp only [Act.put, List.setIfInBounds_toArray, List.set_cons_succ, List.set_cons_zero]
  apply GhostV.walk_const (fun γ => by rfl)
  · intro γ L wx h1 h2 hx K hK
    have HXB := HB9.out.next hx.below
    obtain ⟨k0, k1, k2, k3, k4, k5, k6, k7⟩ := boxRow HXB.r2
    have m0 := cell_of_row wx _ 0 _ _ (0, 0) HXB.r0
    have m1 := cell_of_row wx _ 1 _ _ (0, 0) HXB.r0
    have m2 := cell_of_row wx _ 2 _ _ (0, 0) HXB.r0
    have n0 := cell_of_row wx _ 0 _ _ (0, 0) HXB.r1
    have n1 := cell_of_row wx _ 1 _ _ (0, 0) HXB.r1
    have n2 := cell_of_row wx _ 2 _ _ (0, 0) HXB.r1
    have n3 := cell_of_row wx _ 3 _ _ (0, 0) HXB.r1
    have o0 := cell_of_row wx _ 0 _ _ (0, 0) HXB.r3
    have o1 := cell_of_row wx _ 1 _ _ (0, 0) HXB.r3
    have o2 := cell_of_row wx _ 2 _ _ (0, 0) HXB.r3
    have o3 := cell_of_row wx _ 3 _ _ (0, 0) HXB.r3
    simp only [List.getElem?_toArray, List.getElem?_cons_zero, List.getElem?_cons_succ] at m0 m1 m2 n0 n1 n2 n3 o0 o1 o2 o3
    have q0 := (hx.below.cell (p := ⟨gb, 0, none⟩) HGB.out).trans (HEC.out 0 _ (by decide) rfl)
    have q1 := (hx.below.cell (p := ⟨gb, 1, none⟩) HGB.out).trans (HEC.out 1 _ (by decide) rfl)
    have q2 := (hx.below.cell (p := ⟨gb, 2, none⟩) HGB.out).trans (HEC.out 2 _ (by decide) rfl)
    have q3 := (hx.below.cell (p := ⟨gb, 3, none⟩) HGB.out).trans (HEC.out 3 _ (by decide) rfl)
    have q4 := (hx.below.cell (p := ⟨gb, 4, none⟩) HGB.out).trans (HEC.out 4 _ (by decide) rfl)
    have HCW := Lib.hid (HCX3.out _ HXB.below)
    have HVO := Lib.hid (HIO.out.view.below hx.below)
    have HVM := Lib.hid (HIM.out.view.below hx.below)
    have HK2 := Lib.hid hK
    have HX := Lib.hid hx
    have H2 := Lib.hid h2
    clear hK h1 h2 hx
    go_simp
    first
      | (go_at_call 39; (with_reducible refine (FE.out _ _ _ _ _ _ _ _ _ HVO.out HVM.out).mono ?_); rintro e w' ⟨rfl, hb⟩; exact HK2.out _ (HX.out.next _ (by rfl) hb))
      | (go_at_call 39; obtain ⟨pv, fv, lv, ev, e, hI⟩ := HX.out.row (40, pdIm i2) (by simp) (H2.out 40 (by kernel_rfl)); simp only at e; rw [e] at HK2 ⊢; refine (FE.out _ _ _ _ _ _ _ _ _ hI.view HVM.out).mono ?_; rintro e w' ⟨rfl, hb⟩; exact HK2.out _ (HX.out.next _ (by rfl) hb))
      | exact HK2.out _ (HX.out.next _ (by rfl) (Below.refl _ _))
  try simp only [Act.put, List.setIfInBounds_toArray, List.set_cons_succ, List.set_cons_zero]
  apply GhostV.walk_const (fun γ => by rfl)
  · intro γ L wx h1 h2 hx K hK
    have HXB := HB9.out.next hx.below
    obtain ⟨k0, k1, k2, k3, k4, k5, k6, k7⟩ := boxRow HXB.r2
    have m0 := cell_of_row wx _ 0 _ _ (0, 0) HXB.r0
    have m1 := cell_of_row wx _ 1 _ _ (0, 0) HXB.r0
    have m2 := cell_of_row wx _ 2 _ _ (0, 0) HXB.r0
    have n0 := cell_of_row wx _ 0 _ _ (0, 0) HXB.r1
    have n1 := cell_of_row wx _ 1 _ _ (0, 0) HXB.r1
    have n2 := cell_of_row wx _ 2 _ _ (0, 0) HXB.r1
    have n3 := cell_of_row wx _ 3 _ _ (0, 0) HXB.r1
    have o0 := cell_of_row wx _ 0 _ _ (0, 0) HXB.r3
    have o1 := cell_of_row wx _ 1 _ _ (0, 0) HXB.r3
    have o2 := cell_of_row wx _ 2 _ _ (0, 0) HXB.r3
    have o3 := cell_of_row wx _ 3 _ _ (0, 0) HXB.r3
    simp only [List.getElem?_toArray, List.getElem?_cons_zero, List.getElem?_cons_succ] at m0 m1 m2 n0 n1 n2 n3 o0 o1 o2 o3
    have q0 := (hx.below.cell (p := ⟨gb, 0, none⟩) HGB.out).trans (HEC.out 0 _ (by decide) rfl)
    have q1 := (hx.below.cell (p := ⟨gb, 1, none⟩) HGB.out).trans (HEC.out 1 _ (by decide) rfl)
    have q2 := (hx.below.cell (p := ⟨gb, 2, none⟩) HGB.out).trans (HEC.out 2 _ (by decide) rfl)
    have q3 := (hx.below.cell (p := ⟨gb, 3, none⟩) HGB.out).trans (HEC.out 3 _ (by decide) rfl)
    have q4 := (hx.below.cell (p := ⟨gb, 4, none⟩) HGB.out).trans (HEC.out 4 _ (by decide) rfl)
    have HCW := Lib.hid (HCX3.out _ HXB.below)
    have HVO := Lib.hid (HIO.out.view.below hx.below)
    have HVM := Lib.hid (HIM.out.view.below hx.below)
    have HK2 := Lib.hid hK
    have HX := Lib.hid hx
    have H2 := Lib.hid h2
    clear hK h1 h2 hx
    go_simp
    first
      | (go_at_call 39; (with_reducible refine (FE.out _ _ _ _ _ _ _ _ _ HVO.out HVM.out).mono ?_); rintro e w' ⟨rfl, hb⟩; exact HK2.out _ (HX.out.next _ (by rfl) hb))
      | (go_at_call 39; obtain ⟨pv, fv, lv, ev, e, hI⟩ := HX.out.row (40, pdIm i2) (by simp) (H2.out 40 (by kernel_rfl)); simp only at e; rw [e] at HK2 ⊢; refine (FE.out _ _ _ _ _ _ _ _ _ hI.view HVM.out).mono ?_; rintro e w' ⟨rfl, hb⟩; exact HK2.out _ (HX.out.next _ (by rfl) hb))
      | exact HK2.out _ (HX.out.next _ (by rfl) (Below.refl _ _))
  try simp only [Act.put, List.setIfInBounds_toArray, List.set_cons_succ, List.set_cons_zero]
  apply GhostV.walk_const (fun γ => by rfl)
  · intro γ L wx h1 h2 hx K hK
    have HXB := HB9.out.next hx.below
    obtain ⟨k0, k1, k2, k3, k4, k5, k6, k7⟩ := boxRow HXB.r2
    have m0 := cell_of_row wx _ 0 _ _ (0, 0) HXB.r0
    have m1 := cell_of_row wx _ 1 _ _ (0, 0) HXB.r0
    have m2 := cell_of_row wx _ 2 _ _ (0, 0) HXB.r0
    have n0 := cell_of_row wx _ 0 _ _ (0, 0) HXB.r1
    have n1 := cell_of_row wx _ 1 _ _ (0, 0) HXB.r1
    have n2 := cell_of_row wx _ 2 _ _ (0, 0) HXB.r1
    have n3 := cell_of_row wx _ 3 _ _ (0, 0) HXB.r1
    have o0 := cell_of_row wx _ 0 _ _ (0, 0) HXB.r3
    have o1 := cell_of_row wx _ 1 _ _ (0, 0) HXB.r3
    have o2 := cell_of_row wx _ 2 _ _ (0, 0) HXB.r3
    have o3 := cell_of_row wx _ 3 _ _ (0, 0) HXB.r3
    simp only [List.getElem?_toArray, List.getElem?_cons_zero, List.getElem?_cons_succ] at m0 m1 m2 n0 n1 n2 n3 o0 o1 o2 o3
    have q0 := (hx.below.cell (p := ⟨gb, 0, none⟩) HGB.out).trans (HEC.out 0 _ (by decide) rfl)
    have q1 := (hx.below.cell (p := ⟨gb, 1, none⟩) HGB.out).trans (HEC.out 1 _ (by decide) rfl)
    have q2 := (hx.below.cell (p := ⟨gb, 2, none⟩) HGB.out).trans (HEC.out 2 _ (by decide) rfl)
    have q3 := (hx.below.cell (p := ⟨gb, 3, none⟩) HGB.out).trans (HEC.out 3 _ (by decide) rfl)
    have q4 := (hx.below.cell (p := ⟨gb, 4, none⟩) HGB.out).trans (HEC.out 4 _ (by decide) rfl)
    have HCW := Lib.hid (HCX3.out _ HXB.below)
    have HVO := Lib.hid (HIO.out.view.below hx.below)
    have HVM := Lib.hid (HIM.out.view.below hx.below)
    have HK2 := Lib.hid hK
    have HX := Lib.hid hx
    have H2 := Lib.hid h2
    clear hK h1 h2 hx
    go_simp
    first
      | (go_at_call 39; (with_reducible refine (FE.out _ _ _ _ _ _ _ _ _ HVO.out HVM.out).mono ?_); rintro e w' ⟨rfl, hb⟩; exact HK2.out _ (HX.out.next _ (by rfl) hb))
      | (go_at_call 39; obtain ⟨pv, fv, lv, ev, e, hI⟩ := HX.out.row (40, pdIm i2) (by simp) (H2.out 40 (by kernel_rfl)); simp only at e; rw [e] at HK2 ⊢; refine (FE.out _ _ _ _ _ _ _ _ _ hI.view HVM.out).mono ?_; rintro e w' ⟨rfl, hb⟩; exact HK2.out _ (HX.out.next _ (by rfl) hb))
      | exact HK2.out _ (HX.out.next _ (by rfl) (Below.refl _ _))
  try simp only [Act.put, List.setIfInBounds_toArray, List.set_cons_succ, List.set_cons_zero]
  apply GhostV.walk_const (fun γ => by rfl)
  · intro γ L wx h1 h2 hx K hK
    have HXB := HB9.out.next hx.below
    obtain ⟨k0, k1, k2, k3, k4, k5, k6, k7⟩ := boxRow HXB.r2
    have m0 := cell_of_row wx _ 0 _ _ (0, 0) HXB.r0
    have m1 := cell_of_row wx _ 1 _ _ (0, 0) HXB.r0
    have m2 := cell_of_row wx _ 2 _ _ (0, 0) HXB.r0
    have n0 := cell_of_row wx _ 0 _ _ (0, 0) HXB.r1
    have n1 := cell_of_row wx _ 1 _ _ (0, 0) HXB.r1
    have n2 := cell_of_row wx _ 2 _ _ (0, 0) HXB.r1
    have n3 := cell_of_row wx _ 3 _ _ (0, 0) HXB.r1
    have o0 := cell_of_row wx _ 0 _ _ (0, 0) HXB.r3
    have o1 := cell_of_row wx _ 1 _ _ (0, 0) HXB.r3
    have o2 := cell_of_row wx _ 2 _ _ (0, 0) HXB.r3
    have o3 := cell_of_row wx _ 3 _ _ (0, 0) HXB.r3
    simp only [List.getElem?_toArray, List.getElem?_cons_zero, List.getElem?_cons_succ] at m0 m1 m2 n0 n1 n2 n3 o0 o1 o2 o3
    have q0 := (hx.below.cell (p := ⟨gb, 0, none⟩) HGB.out).trans (HEC.out 0 _ (by decide) rfl)
    have q1 := (hx.below.cell (p := ⟨gb, 1, none⟩) HGB.out).trans (HEC.out 1 _ (by decide) rfl)
    have q2 := (hx.below.cell (p := ⟨gb, 2, none⟩) HGB.out).trans (HEC.out 2 _ (by decide) rfl)
    have q3 := (hx.below.cell (p := ⟨gb, 3, none⟩) HGB.out).trans (HEC.out 3 _ (by decide) rfl)
    have q4 := (hx.below.cell (p := ⟨gb, 4, none⟩) HGB.out).trans (HEC.out 4 _ (by decide) rfl)
    have HCW := Lib.hid (HCX3.out _ HXB.below)
    have HVO := Lib.hid (HIO.out.view.below hx.below)
    have HVM := Lib.hid (HIM.out.view.below hx.below)
    have HK2 := Lib.hid hK
    have HX := Lib.hid hx
    have H2 := Lib.hid h2
    clear hK h1 h2 hx
    go_simp
    first
      | (go_at_call 39; (with_reducible refine (FE.out _ _ _ _ _ _ _ _ _ HVO.out HVM.out).mono ?_); rintro e w' ⟨rfl, hb⟩; exact HK2.out _ (HX.out.next _ (by rfl) hb))
      | (go_at_call 39; obtain ⟨pv, fv, lv, ev, e, hI⟩ := HX.out.row (40, pdIm i2) (by simp) (H2.out 40 (by kernel_rfl)); simp only at e; rw [e] at HK2 ⊢; refine (FE.out _ _ _ _ _ _ _ _ _ hI.view HVM.out).mono ?_; rintro e w' ⟨rfl, hb⟩; exact HK2.out _ (HX.out.next _ (by rfl) hb))
      | exact HK2.out _ (HX.out.next _ (by rfl) (Below.refl _ _))
  try simp only [Act.put, List.setIfInBounds_toArray, List.set_cons_succ, List.set_cons_zero]
  apply GhostV.walk_const (fun γ => by rfl)
  · intro γ L wx h1 h2 hx K hK
    have HXB := HB9.out.next hx.below
    obtain ⟨k0, k1, k2, k3, k4, k5, k6, k7⟩ := boxRow HXB.r2
    have m0 := cell_of_row wx _ 0 _ _ (0, 0) HXB.r0
    have m1 := cell_of_row wx _ 1 _ _ (0, 0) HXB.r0
    have m2 := cell_of_row wx _ 2 _ _ (0, 0) HXB.r0
    have n0 := cell_of_row wx _ 0 _ _ (0, 0) HXB.r1
    have n1 := cell_of_row wx _ 1 _ _ (0, 0) HXB.r1
    have n2 := cell_of_row wx _ 2 _ _ (0, 0) HXB.r1
    have n3 := cell_of_row wx _ 3 _ _ (0, 0) HXB.r1
    have o0 := cell_of_row wx _ 0 _ _ (0, 0) HXB.r3
    have o1 := cell_of_row wx _ 1 _ _ (0, 0) HXB.r3
    have o2 := cell_of_row wx _ 2 _ _ (0, 0) HXB.r3
    have o3 := cell_of_row wx _ 3 _ _ (0, 0) HXB.r3
    simp only [List.getElem?_toArray, List.getElem?_cons_zero, List.getElem?_cons_succ] at m0 m1 m2 n0 n1 n2 n3 o0 o1 o2 o3
    have q0 := (hx.below.cell (p := ⟨gb, 0, none⟩) HGB.out).trans (HEC.out 0 _ (by decide) rfl)
    have q1 := (hx.below.cell (p := ⟨gb, 1, none⟩) HGB.out).trans (HEC.out 1 _ (by decide) rfl)
    have q2 := (hx.below.cell (p := ⟨gb, 2, none⟩) HGB.out).trans (HEC.out 2 _ (by decide) rfl)
    have q3 := (hx.below.cell (p := ⟨gb, 3, none⟩) HGB.out).trans (HEC.out 3 _ (by decide) rfl)
    have q4 := (hx.below.cell (p := ⟨gb, 4, none⟩) HGB.out).trans (HEC.out 4 _ (by decide) rfl)
    have HCW := Lib.hid (HCX3.out _ HXB.below)
    have HVO := Lib.hid (HIO.out.view.below hx.below)
    have HVM := Lib.hid (HIM.out.view.below hx.below)
    have HK2 := Lib.hid hK
    have HX := Lib.hid hx
    have H2 := Lib.hid h2
    clear hK h1 h2 hx
    go_simp
    first
      | (go_at_call 39; (with_reducible refine (FE.out _ _ _ _ _ _ _ _ _ HVO.out HVM.out).mono ?_); rintro e w' ⟨rfl, hb⟩; exact HK2.out _ (HX.out.next _ (by rfl) hb))
      | (go_at_call 39; obtain ⟨pv, fv, lv, ev, e, hI⟩ := HX.out.row (40, pdIm i2) (by simp) (H2.out 40 (by kernel_rfl)); simp only at e; rw [e] at HK2 ⊢; refine (FE.out _ _ _ _ _ _ _ _ _ hI.view HVM.out).mono ?_; rintro e w' ⟨rfl, hb⟩; exact HK2.out _ (HX.out.next _ (by rfl) hb))
      | exact HK2.out _ (HX.out.next _ (by rfl) (Below.refl _ _))
  try simp only [Act.put, List.setIfInBounds_toArray, List.set_cons_succ, List.set_cons_zero]
  apply GhostV.walk_const (fun γ => by rfl)
  · intro γ L wx h1 h2 hx K hK
    have HXB := HB9.out.next hx.below
    obtain ⟨k0, k1, k2, k3, k4, k5, k6, k7⟩ := boxRow HXB.r2
    have m0 := cell_of_row wx _ 0 _ _ (0, 0) HXB.r0
    have m1 := cell_of_row wx _ 1 _ _ (0, 0) HXB.r0
    have m2 := cell_of_row wx _ 2 _ _ (0, 0) HXB.r0
    have n0 := cell_of_row wx _ 0 _ _ (0, 0) HXB.r1
    have n1 := cell_of_row wx _ 1 _ _ (0, 0) HXB.r1
    have n2 := cell_of_row wx _ 2 _ _ (0, 0) HXB.r1
    have n3 := cell_of_row wx _ 3 _ _ (0, 0) HXB.r1
    have o0 := cell_of_row wx _ 0 _ _ (0, 0) HXB.r3
    have o1 := cell_of_row wx _ 1 _ _ (0, 0) HXB.r3
    have o2 := cell_of_row wx _ 2 _ _ (0, 0) HXB.r3
    have o3 := cell_of_row wx _ 3 _ _ (0, 0) HXB.r3
    simp only [List.getElem?_toArray, List.getElem?_cons_zero, List.getElem?_cons_succ] at m0 m1 m2 n0 n1 n2 n3 o0 o1 o2 o3
    have q0 := (hx.below.cell (p := ⟨gb, 0, none⟩) HGB.out).trans (HEC.out 0 _ (by decide) rfl)
    have q1 := (hx.below.cell (p := ⟨gb, 1, none⟩) HGB.out).trans (HEC.out 1 _ (by decide) rfl)
    have q2 := (hx.below.cell (p := ⟨gb, 2, none⟩) HGB.out).trans (HEC.out 2 _ (by decide) rfl)
    have q3 := (hx.below.cell (p := ⟨gb, 3, none⟩) HGB.out).trans (HEC.out 3 _ (by decide) rfl)
    have q4 := (hx.below.cell (p := ⟨gb, 4, none⟩) HGB.out).trans (HEC.out 4 _ (by decide) rfl)
    have HCW := Lib.hid (HCX3.out _ HXB.below)
    have HVO := Lib.hid (HIO.out.view.below hx.below)
    have HVM := Lib.hid (HIM.out.view.below hx.below)
    have HK2 := Lib.hid hK
    have HX := Lib.hid hx
    have H2 := Lib.hid h2
    clear hK h1 h2 hx
    go_simp
    first
      | (go_at_call 39; (with_reducible refine (FE.out _ _ _ _ _ _ _ _ _ HVO.out HVM.out).mono ?_); rintro e w' ⟨rfl, hb⟩; exact HK2.out _ (HX.out.next _ (by rfl) hb))
      | (go_at_call 39; obtain ⟨pv, fv, lv, ev, e, hI⟩ := HX.out.row (40, pdIm i2) (by simp) (H2.out 40 (by kernel_rfl)); simp only at e; rw [e] at HK2 ⊢; refine (FE.out _ _ _ _ _ _ _ _ _ hI.view HVM.out).mono ?_; rintro e w' ⟨rfl, hb⟩; exact HK2.out _ (HX.out.next _ (by rfl) hb))
      | exact HK2.out _ (HX.out.next _ (by rfl) (Below.refl _ _))
  try simp only [Act.put, List.setIfInBounds_toArray, List.set_cons_succ, List.set_cons_zero]
  apply GhostV.walk_const (fun γ => by rfl)
  · intro γ L wx h1 h2 hx K hK
    have HXB := HB9.out.next hx.below
    obtain ⟨k0, k1, k2, k3, k4, k5, k6, k7⟩ := boxRow HXB.r2
    have m0 := cell_of_row wx _ 0 _ _ (0, 0) HXB.r0
    have m1 := cell_of_row wx _ 1 _ _ (0, 0) HXB.r0
    have m2 := cell_of_row wx _ 2 _ _ (0, 0) HXB.r0
    have n0 := cell_of_row wx _ 0 _ _ (0, 0) HXB.r1
    have n1 := cell_of_row wx _ 1 _ _ (0, 0) HXB.r1
    have n2 := cell_of_row wx _ 2 _ _ (0, 0) HXB.r1
    have n3 := cell_of_row wx _ 3 _ _ (0, 0) HXB.r1
    have o0 := cell_of_row wx _ 0 _ _ (0, 0) HXB.r3
    have o1 := cell_of_row wx _ 1 _ _ (0, 0) HXB.r3
    have o2 := cell_of_row wx _ 2 _ _ (0, 0) HXB.r3
    have o3 := cell_of_row wx _ 3 _ _ (0, 0) HXB.r3
    simp only [List.getElem?_toArray, List.getElem?_cons_zero, List.getElem?_cons_succ] at m0 m1 m2 n0 n1 n2 n3 o0 o1 o2 o3
    have q0 := (hx.below.cell (p := ⟨gb, 0, none⟩) HGB.out).trans (HEC.out 0 _ (by decide) rfl)
    have q1 := (hx.below.cell (p := ⟨gb, 1, none⟩) HGB.out).trans (HEC.out 1 _ (by decide) rfl)
    have q2 := (hx.below.cell (p := ⟨gb, 2, none⟩) HGB.out).trans (HEC.out 2 _ (by decide) rfl)
    have q3 := (hx.below.cell (p := ⟨gb, 3, none⟩) HGB.out).trans (HEC.out 3 _ (by decide) rfl)
    have q4 := (hx.below.cell (p := ⟨gb, 4, none⟩) HGB.out).trans (HEC.out 4 _ (by decide) rfl)
    have HCW := Lib.hid (HCX3.out _ HXB.below)
    have HVO := Lib.hid (HIO.out.view.below hx.below)
    have HVM := Lib.hid (HIM.out.view.below hx.below)
    have HK2 := Lib.hid hK
    have HX := Lib.hid hx
    have H2 := Lib.hid h2
    clear hK h1 h2 hx
    go_simp
    first
      | (go_at_call 39; (with_reducible refine (FE.out _ _ _ _ _ _ _ _ _ HVO.out HVM.out).mono ?_); rintro e w' ⟨rfl, hb⟩; exact HK2.out _ (HX.out.next _ (by rfl) hb))
      | (go_at_call 39; obtain ⟨pv, fv, lv, ev, e, hI⟩ := HX.out.row (40, pdIm i2) (by simp) (H2.out 40 (by kernel_rfl)); simp only at e; rw [e] at HK2 ⊢; refine (FE.out _ _ _ _ _ _ _ _ _ hI.view HVM.out).mono ?_; rintro e w' ⟨rfl, hb⟩; exact HK2.out _ (HX.out.next _ (by rfl) hb))
      | exact HK2.out _ (HX.out.next _ (by rfl) (Below.refl _ _))
  try simp only [Act.put, List.setIfInBounds_toArray, List.set_cons_succ, List.set_cons_zero]
  apply GhostV.walk_const (fun γ => by rfl)
  · intro γ L wx h1 h2 hx K hK
    have HXB := HB9.out.next hx.below
    obtain ⟨k0, k1, k2, k3, k4, k5, k6, k7⟩ := boxRow HXB.r2
    have m0 := cell_of_row wx _ 0 _ _ (0, 0) HXB.r0
    have m1 := cell_of_row wx _ 1 _ _ (0, 0) HXB.r0
    have m2 := cell_of_row wx _ 2 _ _ (0, 0) HXB.r0
    have n0 := cell_of_row wx _ 0 _ _ (0, 0) HXB.r1
    have n1 := cell_of_row wx _ 1 _ _ (0, 0) HXB.r1
    have n2 := cell_of_row wx _ 2 _ _ (0, 0) HXB.r1
    have n3 := cell_of_row wx _ 3 _ _ (0, 0) HXB.r1
    have o0 := cell_of_row wx _ 0 _ _ (0, 0) HXB.r3
    have o1 := cell_of_row wx _ 1 _ _ (0, 0) HXB.r3
    have o2 := cell_of_row wx _ 2 _ _ (0, 0) HXB.r3
    have o3 := cell_of_row wx _ 3 _ _ (0, 0) HXB.r3
    simp only [List.getElem?_toArray, List.getElem?_cons_zero, List.getElem?_cons_succ] at m0 m1 m2 n0 n1 n2 n3 o0 o1 o2 o3
    have q0 := (hx.below.cell (p := ⟨gb, 0, none⟩) HGB.out).trans (HEC.out 0 _ (by decide) rfl)
    have q1 := (hx.below.cell (p := ⟨gb, 1, none⟩) HGB.out).trans (HEC.out 1 _ (by decide) rfl)
    have q2 := (hx.below.cell (p := ⟨gb, 2, none⟩) HGB.out).trans (HEC.out 2 _ (by decide) rfl)
    have q3 := (hx.below.cell (p := ⟨gb, 3, none⟩) HGB.out).trans (HEC.out 3 _ (by decide) rfl)
    have q4 := (hx.below.cell (p := ⟨gb, 4, none⟩) HGB.out).trans (HEC.out 4 _ (by decide) rfl)
    have HCW := Lib.hid (HCX3.out _ HXB.below)
    have HVO := Lib.hid (HIO.out.view.below hx.below)
    have HVM := Lib.hid (HIM.out.view.below hx.below)
    have HK2 := Lib.hid hK
    have HX := Lib.hid hx
    have H2 := Lib.hid h2
    clear hK h1 h2 hx
    go_simp
    first
      | (go_at_call 39; (with_reducible refine (FE.out _ _ _ _ _ _ _ _ _ HVO.out HVM.out).mono ?_); rintro e w' ⟨rfl, hb⟩; exact HK2.out _ (HX.out.next _ (by rfl) hb))
      | (go_at_call 39; obtain ⟨pv, fv, lv, ev, e, hI⟩ := HX.out.row (40, pdIm i2) (by simp) (H2.out 40 (by kernel_rfl)); simp only at e; rw [e] at HK2 ⊢; refine (FE.out _ _ _ _ _ _ _ _ _ hI.view HVM.out).mono ?_; rintro e w' ⟨rfl, hb⟩; exact HK2.out _ (HX.out.next _ (by rfl) hb))
      | exact HK2.out _ (HX.out.next _ (by rfl) (Below.refl _ _))
  try simp only [Act.put, List.setIfInBounds_toArray, List.set_cons_succ, List.set_cons_zero]
  apply GhostV.walk_const (fun γ => by rfl)
  · intro γ L wx h1 h2 hx K hK
    have HXB := HB9.out.next hx.below
    obtain ⟨k0, k1, k2, k3, k4, k5, k6, k7⟩ := boxRow HXB.r2
    have m0 := cell_of_row wx _ 0 _ _ (0, 0) HXB.r0
    have m1 := cell_of_row wx _ 1 _ _ (0, 0) HXB.r0
    have m2 := cell_of_row wx _ 2 _ _ (0, 0) HXB.r0
    have n0 := cell_of_row wx _ 0 _ _ (0, 0) HXB.r1
    have n1 := cell_of_row wx _ 1 _ _ (0, 0) HXB.r1
    have n2 := cell_of_row wx _ 2 _ _ (0, 0) HXB.r1
    have n3 := cell_of_row wx _ 3 _ _ (0, 0) HXB.r1
    have o0 := cell_of_row wx _ 0 _ _ (0, 0) HXB.r3
    have o1 := cell_of_row wx _ 1 _ _ (0, 0) HXB.r3
    have o2 := cell_of_row wx _ 2 _ _ (0, 0) HXB.r3
    have o3 := cell_of_row wx _ 3 _ _ (0, 0) HXB.r3
    simp only [List.getElem?_toArray, List.getElem?_cons_zero, List.getElem?_cons_succ] at m0 m1 m2 n0 n1 n2 n3 o0 o1 o2 o3
    have q0 := (hx.below.cell (p := ⟨gb, 0, none⟩) HGB.out).trans (HEC.out 0 _ (by decide) rfl)
    have q1 := (hx.below.cell (p := ⟨gb, 1, none⟩) HGB.out).trans (HEC.out 1 _ (by decide) rfl)
    have q2 := (hx.below.cell (p := ⟨gb, 2, none⟩) HGB.out).trans (HEC.out 2 _ (by decide) rfl)
    have q3 := (hx.below.cell (p := ⟨gb, 3, none⟩) HGB.out).trans (HEC.out 3 _ (by decide) rfl)
    have q4 := (hx.below.cell (p := ⟨gb, 4, none⟩) HGB.out).trans (HEC.out 4 _ (by decide) rfl)
    have HCW := Lib.hid (HCX3.out _ HXB.below)
    have HVO := Lib.hid (HIO.out.view.below hx.below)
    have HVM := Lib.hid (HIM.out.view.below hx.below)
    have HK2 := Lib.hid hK
    have HX := Lib.hid hx
    have H2 := Lib.hid h2
    clear hK h1 h2 hx
    go_simp
    first
      | (go_at_call 39; (with_reducible refine (FE.out _ _ _ _ _ _ _ _ _ HVO.out HVM.out).mono ?_); rintro e w' ⟨rfl, hb⟩; exact HK2.out _ (HX.out.next _ (by rfl) hb))
      | (go_at_call 39; obtain ⟨pv, fv, lv, ev, e, hI⟩ := HX.out.row (40, pdIm i2) (by simp) (H2.out 40 (by kernel_rfl)); simp only at e; rw [e] at HK2 ⊢; refine (FE.out _ _ _ _ _ _ _ _ _ hI.view HVM.out).mono ?_; rintro e w' ⟨rfl, hb⟩; exact HK2.out _ (HX.out.next _ (by rfl) hb))
      | exact HK2.out _ (HX.out.next _ (by rfl) (Below.refl _ _))
  try simp only [Act.put, List.setIfInBounds_toArray, List.set_cons_succ, List.set_cons_zero]
  apply GhostV.walk_const (fun γ => by rfl)
  · intro γ L wx h1 h2 hx K hK
    have HXB := HB9.out.next hx.below
    obtain ⟨k0, k1, k2, k3, k4, k5, k6, k7⟩ := boxRow HXB.r2
    have m0 := cell_of_row wx _ 0 _ _ (0, 0) HXB.r0
    have m1 := cell_of_row wx _ 1 _ _ (0, 0) HXB.r0
    have m2 := cell_of_row wx _ 2 _ _ (0, 0) HXB.r0
    have n0 := cell_of_row wx _ 0 _ _ (0, 0) HXB.r1
    have n1 := cell_of_row wx _ 1 _ _ (0, 0) HXB.r1
    have n2 := cell_of_row wx _ 2 _ _ (0, 0) HXB.r1
    have n3 := cell_of_row wx _ 3 _ _ (0, 0) HXB.r1
    have o0 := cell_of_row wx _ 0 _ _ (0, 0) HXB.r3
    have o1 := cell_of_row wx _ 1 _ _ (0, 0) HXB.r3
    have o2 := cell_of_row wx _ 2 _ _ (0, 0) HXB.r3
    have o3 := cell_of_row wx _ 3 _ _ (0, 0) HXB.r3
    simp only [List.getElem?_toArray, List.getElem?_cons_zero, List.getElem?_cons_succ] at m0 m1 m2 n0 n1 n2 n3 o0 o1 o2 o3
    have q0 := (hx.below.cell (p := ⟨gb, 0, none⟩) HGB.out).trans (HEC.out 0 _ (by decide) rfl)
    have q1 := (hx.below.cell (p := ⟨gb, 1, none⟩) HGB.out).trans (HEC.out 1 _ (by decide) rfl)
    have q2 := (hx.below.cell (p := ⟨gb, 2, none⟩) HGB.out).trans (HEC.out 2 _ (by decide) rfl)
    have q3 := (hx.below.cell (p := ⟨gb, 3, none⟩) HGB.out).trans (HEC.out 3 _ (by decide) rfl)
    have q4 := (hx.below.cell (p := ⟨gb, 4, none⟩) HGB.out).trans (HEC.out 4 _ (by decide) rfl)
    have HCW := Lib.hid (HCX3.out _ HXB.below)
    have HVO := Lib.hid (HIO.out.view.below hx.below)
    have HVM := Lib.hid (HIM.out.view.below hx.below)
    have HK2 := Lib.hid hK
    have HX := Lib.hid hx
    have H2 := Lib.hid h2
    clear hK h1 h2 hx
    go_simp
    first
      | (go_at_call 39; (with_reducible refine (FE.out _ _ _ _ _ _ _ _ _ HVO.out HVM.out).mono ?_); rintro e w' ⟨rfl, hb⟩; exact HK2.out _ (HX.out.next _ (by rfl) hb))
      | (go_at_call 39; obtain ⟨pv, fv, lv, ev, e, hI⟩ := HX.out.row (40, pdIm i2) (by simp) (H2.out 40 (by kernel_rfl)); simp only at e; rw [e] at HK2 ⊢; refine (FE.out _ _ _ _ _ _ _ _ _ hI.view HVM.out).mono ?_; rintro e w' ⟨rfl, hb⟩; exact HK2.out _ (HX.out.next _ (by rfl) hb))
      | exact HK2.out _ (HX.out.next _ (by rfl) (Below.refl _ _))
  try simp only [Act.put, List.setIfInBounds_toArray, List.set_cons_succ, List.set_cons_zero]
  apply GhostV.walk_const (fun γ => by rfl)
  · intro γ L wx h1 h2 hx K hK
    have HXB := HB9.out.next hx.below
    obtain ⟨k0, k1, k2, k3, k4, k5, k6, k7⟩ := boxRow HXB.r2
    have m0 := cell_of_row wx _ 0 _ _ (0, 0) HXB.r0
    have m1 := cell_of_row wx _ 1 _ _ (0, 0) HXB.r0
    have m2 := cell_of_row wx _ 2 _ _ (0, 0) HXB.r0
    have n0 := cell_of_row wx _ 0 _ _ (0, 0) HXB.r1
    have n1 := cell_of_row wx _ 1 _ _ (0, 0) HXB.r1
    have n2 := cell_of_row wx _ 2 _ _ (0, 0) HXB.r1
    have n3 := cell_of_row wx _ 3 _ _ (0, 0) HXB.r1
    have o0 := cell_of_row wx _ 0 _ _ (0, 0) HXB.r3
    have o1 := cell_of_row wx _ 1 _ _ (0, 0) HXB.r3
    have o2 := cell_of_row wx _ 2 _ _ (0, 0) HXB.r3
    have o3 := cell_of_row wx _ 3 _ _ (0, 0) HXB.r3
    simp only [List.getElem?_toArray, List.getElem?_cons_zero, List.getElem?_cons_succ] at m0 m1 m2 n0 n1 n2 n3 o0 o1 o2 o3
    have q0 := (hx.below.cell (p := ⟨gb, 0, none⟩) HGB.out).trans (HEC.out 0 _ (by decide) rfl)
    have q1 := (hx.below.cell (p := ⟨gb, 1, none⟩) HGB.out).trans (HEC.out 1 _ (by decide) rfl)
    have q2 := (hx.below.cell (p := ⟨gb, 2, none⟩) HGB.out).trans (HEC.out 2 _ (by decide) rfl)
    have q3 := (hx.below.cell (p := ⟨gb, 3, none⟩) HGB.out).trans (HEC.out 3 _ (by decide) rfl)
    have q4 := (hx.below.cell (p := ⟨gb, 4, none⟩) HGB.out).trans (HEC.out 4 _ (by decide) rfl)
    have HCW := Lib.hid (HCX3.out _ HXB.below)
    have HVO := Lib.hid (HIO.out.view.below hx.below)
    have HVM := Lib.hid (HIM.out.view.below hx.below)
    have HK2 := Lib.hid hK
    have HX := Lib.hid hx
    have H2 := Lib.hid h2
    clear hK h1 h2 hx
    go_simp
    first
      | (go_at_call 39; (with_reducible refine (FE.out _ _ _ _ _ _ _ _ _ HVO.out HVM.out).mono ?_); rintro e w' ⟨rfl, hb⟩; exact HK2.out _ (HX.out.next _ (by rfl) hb))
      | (go_at_call 39; obtain ⟨pv, fv, lv, ev, e, hI⟩ := HX.out.row (40, pdIm i2) (by simp) (H2.out 40 (by kernel_rfl)); simp only at e; rw [e] at HK2 ⊢; refine (FE.out _ _ _ _ _ _ _ _ _ hI.view HVM.out).mono ?_; rintro e w' ⟨rfl, hb⟩; exact HK2.out _ (HX.out.next _ (by rfl) hb))
      | exact HK2.out _ (HX.out.next _ (by rfl) (Below.refl _ _))
  try simp only [Act.put, List.setIfInBounds_toArray, List.set_cons_succ, List.set_cons_zero]
  apply GhostV.walk_const (fun γ => by rfl)
  · intro γ L wx h1 h2 hx K hK
    have HXB := HB9.out.next hx.below
    obtain ⟨k0, k1, k2, k3, k4, k5, k6, k7⟩ := boxRow HXB.r2
    have m0 := cell_of_row wx _ 0 _ _ (0, 0) HXB.r0
    have m1 := cell_of_row wx _ 1 _ _ (0, 0) HXB.r0
    have m2 := cell_of_row wx _ 2 _ _ (0, 0) HXB.r0
    have n0 := cell_of_row wx _ 0 _ _ (0, 0) HXB.r1
    have n1 := cell_of_row wx _ 1 _ _ (0, 0) HXB.r1
    have n2 := cell_of_row wx _ 2 _ _ (0, 0) HXB.r1
    have n3 := cell_of_row wx _ 3 _ _ (0, 0) HXB.r1
    have o0 := cell_of_row wx _ 0 _ _ (0, 0) HXB.r3
    have o1 := cell_of_row wx _ 1 _ _ (0, 0) HXB.r3
    have o2 := cell_of_row wx _ 2 _ _ (0, 0) HXB.r3
    have o3 := cell_of_row wx _ 3 _ _ (0, 0) HXB.r3
    simp only [List.getElem?_toArray, List.getElem?_cons_zero, List.getElem?_cons_succ] at m0 m1 m2 n0 n1 n2 n3 o0 o1 o2 o3
    have q0 := (hx.below.cell (p := ⟨gb, 0, none⟩) HGB.out).trans (HEC.out 0 _ (by decide) rfl)
    have q1 := (hx.below.cell (p := ⟨gb, 1, none⟩) HGB.out).trans (HEC.out 1 _ (by decide) rfl)
    have q2 := (hx.below.cell (p := ⟨gb, 2, none⟩) HGB.out).trans (HEC.out 2 _ (by decide) rfl)
    have q3 := (hx.below.cell (p := ⟨gb, 3, none⟩) HGB.out).trans (HEC.out 3 _ (by decide) rfl)
    have q4 := (hx.below.cell (p := ⟨gb, 4, none⟩) HGB.out).trans (HEC.out 4 _ (by decide) rfl)
    have HCW := Lib.hid (HCX3.out _ HXB.below)
    have HVO := Lib.hid (HIO.out.view.below hx.below)
    have HVM := Lib.hid (HIM.out.view.below hx.below)
    have HK2 := Lib.hid hK
    have HX := Lib.hid hx
    have H2 := Lib.hid h2
    clear hK h1 h2 hx
    go_simp
    first
      | (go_at_call 39; (with_reducible refine (FE.out _ _ _ _ _ _ _ _ _ HVO.out HVM.out).mono ?_); rintro e w' ⟨rfl, hb⟩; exact HK2.out _ (HX.out.next _ (by rfl) hb))
      | (go_at_call 39; obtain ⟨pv, fv, lv, ev, e, hI⟩ := HX.out.row (40, pdIm i2) (by simp) (H2.out 40 (by kernel_rfl)); simp only at e; rw [e] at HK2 ⊢; refine (FE.out _ _ _ _ _ _ _ _ _ hI.view HVM.out).mono ?_; rintro e w' ⟨rfl, hb⟩; exact HK2.out _ (HX.out.next _ (by rfl) hb))
      | exact HK2.out _ (HX.out.next _ (by rfl) (Below.refl _ _))
  try simp only [Act.put, List.setIfInBounds_toArray, List.set_cons_succ, List.set_cons_zero]
  apply GhostV.walk_const (fun γ => by rfl)
  · intro γ L wx h1 h2 hx K hK
    have HXB := HB9.out.next hx.below
    obtain ⟨k0, k1, k2, k3, k4, k5, k6, k7⟩ := boxRow HXB.r2
    have m0 := cell_of_row wx _ 0 _ _ (0, 0) HXB.r0
    have m1 := cell_of_row wx _ 1 _ _ (0, 0) HXB.r0
    have m2 := cell_of_row wx _ 2 _ _ (0, 0) HXB.r0
    have n0 := cell_of_row wx _ 0 _ _ (0, 0) HXB.r1
    have n1 := cell_of_row wx _ 1 _ _ (0, 0) HXB.r1
    have n2 := cell_of_row wx _ 2 _ _ (0, 0) HXB.r1
    have n3 := cell_of_row wx _ 3 _ _ (0, 0) HXB.r1
    have o0 := cell_of_row wx _ 0 _ _ (0, 0) HXB.r3
    have o1 := cell_of_row wx _ 1 _ _ (0, 0) HXB.r3
    have o2 := cell_of_row wx _ 2 _ _ (0, 0) HXB.r3
    have o3 := cell_of_row wx _ 3 _ _ (0, 0) HXB.r3
    simp only [List.getElem?_toArray, List.getElem?_cons_zero, List.getElem?_cons_succ] at m0 m1 m2 n0 n1 n2 n3 o0 o1 o2 o3
    have q0 := (hx.below.cell (p := ⟨gb, 0, none⟩) HGB.out).trans (HEC.out 0 _ (by decide) rfl)
    have q1 := (hx.below.cell (p := ⟨gb, 1, none⟩) HGB.out).trans (HEC.out 1 _ (by decide) rfl)
    have q2 := (hx.below.cell (p := ⟨gb, 2, none⟩) HGB.out).trans (HEC.out 2 _ (by decide) rfl)
    have q3 := (hx.below.cell (p := ⟨gb, 3, none⟩) HGB.out).trans (HEC.out 3 _ (by decide) rfl)
    have q4 := (hx.below.cell (p := ⟨gb, 4, none⟩) HGB.out).trans (HEC.out 4 _ (by decide) rfl)
    have HCW := Lib.hid (HCX3.out _ HXB.below)
    have HVO := Lib.hid (HIO.out.view.below hx.below)
    have HVM := Lib.hid (HIM.out.view.below hx.below)
    have HK2 := Lib.hid hK
    have HX := Lib.hid hx
    have H2 := Lib.hid h2
    clear hK h1 h2 hx
    go_simp
    first
      | (go_at_call 39; (with_reducible refine (FE.out _ _ _ _ _ _ _ _ _ HVO.out HVM.out).mono ?_); rintro e w' ⟨rfl, hb⟩; exact HK2.out _ (HX.out.next _ (by rfl) hb))
      | (go_at_call 39; obtain ⟨pv, fv, lv, ev, e, hI⟩ := HX.out.row (40, pdIm i2) (by simp) (H2.out 40 (by kernel_rfl)); simp only at e; rw [e] at HK2 ⊢; refine (FE.out _ _ _ _ _ _ _ _ _ hI.view HVM.out).mono ?_; rintro e w' ⟨rfl, hb⟩; exact HK2.out _ (HX.out.next _ (by rfl) hb))
      | exact HK2.out _ (HX.out.next _ (by rfl) (Below.refl _ _))
  try simp only [Act.put, List.setIfInBounds_toArray, List.set_cons_succ, List.set_cons_zero]
  apply GhostV.walk_const (fun γ => by rfl)
  · intro γ L wx h1 h2 hx K hK
    have HXB := HB9.out.next hx.below
    obtain ⟨k0, k1, k2, k3, k4, k5, k6, k7⟩ := boxRow HXB.r2
    have m0 := cell_of_row wx _ 0 _ _ (0, 0) HXB.r0
    have m1 := cell_of_row wx _ 1 _ _ (0, 0) HXB.r0
    have m2 := cell_of_row wx _ 2 _ _ (0, 0) HXB.r0
    have n0 := cell_of_row wx _ 0 _ _ (0, 0) HXB.r1
    have n1 := cell_of_row wx _ 1 _ _ (0, 0) HXB.r1
    have n2 := cell_of_row wx _ 2 _ _ (0, 0) HXB.r1
    have n3 := cell_of_row wx _ 3 _ _ (0, 0) HXB.r1
    have o0 := cell_of_row wx _ 0 _ _ (0, 0) HXB.r3
    have o1 := cell_of_row wx _ 1 _ _ (0, 0) HXB.r3
    have o2 := cell_of_row wx _ 2 _ _ (0, 0) HXB.r3
    have o3 := cell_of_row wx _ 3 _ _ (0, 0) HXB.r3
    simp only [List.getElem?_toArray, List.getElem?_cons_zero, List.getElem?_cons_succ] at m0 m1 m2 n0 n1 n2 n3 o0 o1 o2 o3
    have q0 := (hx.below.cell (p := ⟨gb, 0, none⟩) HGB.out).trans (HEC.out 0 _ (by decide) rfl)
    have q1 := (hx.below.cell (p := ⟨gb, 1, none⟩) HGB.out).trans (HEC.out 1 _ (by decide) rfl)
    have q2 := (hx.below.cell (p := ⟨gb, 2, none⟩) HGB.out).trans (HEC.out 2 _ (by decide) rfl)
    have q3 := (hx.below.cell (p := ⟨gb, 3, none⟩) HGB.out).trans (HEC.out 3 _ (by decide) rfl)
    have q4 := (hx.below.cell (p := ⟨gb, 4, none⟩) HGB.out).trans (HEC.out 4 _ (by decide) rfl)
    have HCW := Lib.hid (HCX3.out _ HXB.below)
    have HVO := Lib.hid (HIO.out.view.below hx.below)
    have HVM := Lib.hid (HIM.out.view.below hx.below)
    have HK2 := Lib.hid hK
    have HX := Lib.hid hx
    have H2 := Lib.hid h2
    clear hK h1 h2 hx
    go_simp
    first
      | (go_at_call 39; (with_reducible refine (FE.out _ _ _ _ _ _ _ _ _ HVO.out HVM.out).mono ?_); rintro e w' ⟨rfl, hb⟩; exact HK2.out _ (HX.out.next _ (by rfl) hb))
      | (go_at_call 39; obtain ⟨pv, fv, lv, ev, e, hI⟩ := HX.out.row (40, pdIm i2) (by simp) (H2.out 40 (by kernel_rfl)); simp only at e; rw [e] at HK2 ⊢; refine (FE.out _ _ _ _ _ _ _ _ _ hI.view HVM.out).mono ?_; rintro e w' ⟨rfl, hb⟩; exact HK2.out _ (HX.out.next _ (by rfl) hb))
      | exact HK2.out _ (HX.out.next _ (by rfl) (Below.refl _ _))
  try simp only [Act.put, List.setIfInBounds_toArray, List.set_cons_succ, List.set_cons_zero]
  apply GhostV.walk_const (fun γ => by rfl)
  · intro γ L wx h1 h2 hx K hK
    have HXB := HB9.out.next hx.below
    obtain ⟨k0, k1, k2, k3, k4, k5, k6, k7⟩ := boxRow HXB.r2
    have m0 := cell_of_row wx _ 0 _ _ (0, 0) HXB.r0
    have m1 := cell_of_row wx _ 1 _ _ (0, 0) HXB.r0
    have m2 := cell_of_row wx _ 2 _ _ (0, 0) HXB.r0
    have n0 := cell_of_row wx _ 0 _ _ (0, 0) HXB.r1
    have n1 := cell_of_row wx _ 1 _ _ (0, 0) HXB.r1
    have n2 := cell_of_row wx _ 2 _ _ (0, 0) HXB.r1
    have n3 := cell_of_row wx _ 3 _ _ (0, 0) HXB.r1
    have o0 := cell_of_row wx _ 0 _ _ (0, 0) HXB.r3
    have o1 := cell_of_row wx _ 1 _ _ (0, 0) HXB.r3
    have o2 := cell_of_row wx _ 2 _ _ (0, 0) HXB.r3
    have o3 := cell_of_row wx _ 3 _ _ (0, 0) HXB.r3
    simp only [List.getElem?_toArray, List.getElem?_cons_zero, List.getElem?_cons_succ] at m0 m1 m2 n0 n1 n2 n3 o0 o1 o2 o3
    have q0 := (hx.below.cell (p := ⟨gb, 0, none⟩) HGB.out).trans (HEC.out 0 _ (by decide) rfl)
    have q1 := (hx.below.cell (p := ⟨gb, 1, none⟩) HGB.out).trans (HEC.out 1 _ (by decide) rfl)
    have q2 := (hx.below.cell (p := ⟨gb, 2, none⟩) HGB.out).trans (HEC.out 2 _ (by decide) rfl)
    have q3 := (hx.below.cell (p := ⟨gb, 3, none⟩) HGB.out).trans (HEC.out 3 _ (by decide) rfl)
    have q4 := (hx.below.cell (p := ⟨gb, 4, none⟩) HGB.out).trans (HEC.out 4 _ (by decide) rfl)
    have HCW := Lib.hid (HCX3.out _ HXB.below)
    have HVO := Lib.hid (HIO.out.view.below hx.below)
    have HVM := Lib.hid (HIM.out.view.below hx.below)
    have HK2 := Lib.hid hK
    have HX := Lib.hid hx
    have H2 := Lib.hid h2
    clear hK h1 h2 hx
    go_simp
    first
      | (go_at_call 39; (with_reducible refine (FE.out _ _ _ _ _ _ _ _ _ HVO.out HVM.out).mono ?_); rintro e w' ⟨rfl, hb⟩; exact HK2.out _ (HX.out.next _ (by rfl) hb))
      | (go_at_call 39; obtain ⟨pv, fv, lv, ev, e, hI⟩ := HX.out.row (40, pdIm i2) (by simp) (H2.out 40 (by kernel_rfl)); simp only at e; rw [e] at HK2 ⊢; refine (FE.out _ _ _ _ _ _ _ _ _ hI.view HVM.out).mono ?_; rintro e w' ⟨rfl, hb⟩; exact HK2.out _ (HX.out.next _ (by rfl) hb))
      | exact HK2.out _ (HX.out.next _ (by rfl) (Below.refl _ _))
  try simp only [Act.put, List.setIfInBounds_toArray, List.set_cons_succ, List.set_cons_zero]
  apply GhostV.walk_const (fun γ => by rfl)
  · intro γ L wx h1 h2 hx K hK
    have HXB := HB9.out.next hx.below
    obtain ⟨k0, k1, k2, k3, k4, k5, k6, k7⟩ := boxRow HXB.r2
    have m0 := cell_of_row wx _ 0 _ _ (0, 0) HXB.r0
    have m1 := cell_of_row wx _ 1 _ _ (0, 0) HXB.r0
    have m2 := cell_of_row wx _ 2 _ _ (0, 0) HXB.r0
    have n0 := cell_of_row wx _ 0 _ _ (0, 0) HXB.r1
    have n1 := cell_of_row wx _ 1 _ _ (0, 0) HXB.r1
    have n2 := cell_of_row wx _ 2 _ _ (0, 0) HXB.r1
    have n3 := cell_of_row wx _ 3 _ _ (0, 0) HXB.r1
    have o0 := cell_of_row wx _ 0 _ _ (0, 0) HXB.r3
    have o1 := cell_of_row wx _ 1 _ _ (0, 0) HXB.r3
    have o2 := cell_of_row wx _ 2 _ _ (0, 0) HXB.r3
    have o3 := cell_of_row wx _ 3 _ _ (0, 0) HXB.r3
    simp only [List.getElem?_toArray, List.getElem?_cons_zero, List.getElem?_cons_succ] at m0 m1 m2 n0 n1 n2 n3 o0 o1 o2 o3
    have q0 := (hx.below.cell (p := ⟨gb, 0, none⟩) HGB.out).trans (HEC.out 0 _ (by decide) rfl)
    have q1 := (hx.below.cell (p := ⟨gb, 1, none⟩) HGB.out).trans (HEC.out 1 _ (by decide) rfl)
    have q2 := (hx.below.cell (p := ⟨gb, 2, none⟩) HGB.out).trans (HEC.out 2 _ (by decide) rfl)
    have q3 := (hx.below.cell (p := ⟨gb, 3, none⟩) HGB.out).trans (HEC.out 3 _ (by decide) rfl)
    have q4 := (hx.below.cell (p := ⟨gb, 4, none⟩) HGB.out).trans (HEC.out 4 _ (by decide) rfl)
    have HCW := Lib.hid (HCX3.out _ HXB.below)
    have HVO := Lib.hid (HIO.out.view.below hx.below)
    have HVM := Lib.hid (HIM.out.view.below hx.below)
    have HK2 := Lib.hid hK
    have HX := Lib.hid hx
    have H2 := Lib.hid h2
    clear hK h1 h2 hx
    go_simp
    first
      | (go_at_call 39; (with_reducible refine (FE.out _ _ _ _ _ _ _ _ _ HVO.out HVM.out).mono ?_); rintro e w' ⟨rfl, hb⟩; exact HK2.out _ (HX.out.next _ (by rfl) hb))
      | (go_at_call 39; obtain ⟨pv, fv, lv, ev, e, hI⟩ := HX.out.row (40, pdIm i2) (by simp) (H2.out 40 (by kernel_rfl)); simp only at e; rw [e] at HK2 ⊢; refine (FE.out _ _ _ _ _ _ _ _ _ hI.view HVM.out).mono ?_; rintro e w' ⟨rfl, hb⟩; exact HK2.out _ (HX.out.next _ (by rfl) hb))
      | exact HK2.out _ (HX.out.next _ (by rfl) (Below.refl _ _))
  try simp only [Act.put, List.setIfInBounds_toArray, List.set_cons_succ, List.set_cons_zero]
  apply GhostV.walk_const (fun γ => by rfl)
  · intro γ L wx h1 h2 hx K hK
    have HXB := HB9.out.next hx.below
    obtain ⟨k0, k1, k2, k3, k4, k5, k6, k7⟩ := boxRow HXB.r2
    have m0 := cell_of_row wx _ 0 _ _ (0, 0) HXB.r0
    have m1 := cell_of_row wx _ 1 _ _ (0, 0) HXB.r0
    have m2 := cell_of_row wx _ 2 _ _ (0, 0) HXB.r0
    have n0 := cell_of_row wx _ 0 _ _ (0, 0) HXB.r1
    have n1 := cell_of_row wx _ 1 _ _ (0, 0) HXB.r1
    have n2 := cell_of_row wx _ 2 _ _ (0, 0) HXB.r1
    have n3 := cell_of_row wx _ 3 _ _ (0, 0) HXB.r1
    have o0 := cell_of_row wx _ 0 _ _ (0, 0) HXB.r3
    have o1 := cell_of_row wx _ 1 _ _ (0, 0) HXB.r3
    have o2 := cell_of_row wx _ 2 _ _ (0, 0) HXB.r3
    have o3 := cell_of_row wx _ 3 _ _ (0, 0) HXB.r3
    simp only [List.getElem?_toArray, List.getElem?_cons_zero, List.getElem?_cons_succ] at m0 m1 m2 n0 n1 n2 n3 o0 o1 o2 o3
    have q0 := (hx.below.cell (p := ⟨gb, 0, none⟩) HGB.out).trans (HEC.out 0 _ (by decide) rfl)
    have q1 := (hx.below.cell (p := ⟨gb, 1, none⟩) HGB.out).trans (HEC.out 1 _ (by decide) rfl)
    have q2 := (hx.below.cell (p := ⟨gb, 2, none⟩) HGB.out).trans (HEC.out 2 _ (by decide) rfl)
    have q3 := (hx.below.cell (p := ⟨gb, 3, none⟩) HGB.out).trans (HEC.out 3 _ (by decide) rfl)
    have q4 := (hx.below.cell (p := ⟨gb, 4, none⟩) HGB.out).trans (HEC.out 4 _ (by decide) rfl)
    have HCW := Lib.hid (HCX3.out _ HXB.below)
    have HVO := Lib.hid (HIO.out.view.below hx.below)
    have HVM := Lib.hid (HIM.out.view.below hx.below)
    have HK2 := Lib.hid hK
    have HX := Lib.hid hx
    have H2 := Lib.hid h2
    clear hK h1 h2 hx
    go_simp
    first
      | (go_at_call 39; (with_reducible refine (FE.out _ _ _ _ _ _ _ _ _ HVO.out HVM.out).mono ?_); rintro e w' ⟨rfl, hb⟩; exact HK2.out _ (HX.out.next _ (by rfl) hb))
      | (go_at_call 39; obtain ⟨pv, fv, lv, ev, e, hI⟩ := HX.out.row (40, pdIm i2) (by simp) (H2.out 40 (by kernel_rfl)); simp only at e; rw [e] at HK2 ⊢; refine (FE.out _ _ _ _ _ _ _ _ _ hI.view HVM.out).mono ?_; rintro e w' ⟨rfl, hb⟩; exact HK2.out _ (HX.out.next _ (by rfl) hb))
      | exact HK2.out _ (HX.out.next _ (by rfl) (Below.refl _ _))
  try simp only [Act.put, List.setIfInBounds_toArray, List.set_cons_succ, List.set_cons_zero]
  apply GhostV.walk_const (fun γ => by rfl)
  · intro γ L wx h1 h2 hx K hK
    have HXB := HB9.out.next hx.below
    obtain ⟨k0, k1, k2, k3, k4, k5, k6, k7⟩ := boxRow HXB.r2
    have m0 := cell_of_row wx _ 0 _ _ (0, 0) HXB.r0
    have m1 := cell_of_row wx _ 1 _ _ (0, 0) HXB.r0
    have m2 := cell_of_row wx _ 2 _ _ (0, 0) HXB.r0
    have n0 := cell_of_row wx _ 0 _ _ (0, 0) HXB.r1
    have n1 := cell_of_row wx _ 1 _ _ (0, 0) HXB.r1
    have n2 := cell_of_row wx _ 2 _ _ (0, 0) HXB.r1
    have n3 := cell_of_row wx _ 3 _ _ (0, 0) HXB.r1
    have o0 := cell_of_row wx _ 0 _ _ (0, 0) HXB.r3
    have o1 := cell_of_row wx _ 1 _ _ (0, 0) HXB.r3
    have o2 := cell_of_row wx _ 2 _ _ (0, 0) HXB.r3
    have o3 := cell_of_row wx _ 3 _ _ (0, 0) HXB.r3
    simp only [List.getElem?_toArray, List.getElem?_cons_zero, List.getElem?_cons_succ] at m0 m1 m2 n0 n1 n2 n3 o0 o1 o2 o3
    have q0 := (hx.below.cell (p := ⟨gb, 0, none⟩) HGB.out).trans (HEC.out 0 _ (by decide) rfl)
    have q1 := (hx.below.cell (p := ⟨gb, 1, none⟩) HGB.out).trans (HEC.out 1 _ (by decide) rfl)
    have q2 := (hx.below.cell (p := ⟨gb, 2, none⟩) HGB.out).trans (HEC.out 2 _ (by decide) rfl)
    have q3 := (hx.below.cell (p := ⟨gb, 3, none⟩) HGB.out).trans (HEC.out 3 _ (by decide) rfl)
    have q4 := (hx.below.cell (p := ⟨gb, 4, none⟩) HGB.out).trans (HEC.out 4 _ (by decide) rfl)
    have HCW := Lib.hid (HCX3.out _ HXB.below)
    have HVO := Lib.hid (HIO.out.view.below hx.below)
    have HVM := Lib.hid (HIM.out.view.below hx.below)
    have HK2 := Lib.hid hK
    have HX := Lib.hid hx
    have H2 := Lib.hid h2
    clear hK h1 h2 hx
    go_simp
    first
      | (go_at_call 39; (with_reducible refine (FE.out _ _ _ _ _ _ _ _ _ HVO.out HVM.out).mono ?_); rintro e w' ⟨rfl, hb⟩; exact HK2.out _ (HX.out.next _ (by rfl) hb))
      | (go_at_call 39; obtain ⟨pv, fv, lv, ev, e, hI⟩ := HX.out.row (40, pdIm i2) (by simp) (H2.out 40 (by kernel_rfl)); simp only at e; rw [e] at HK2 ⊢; refine (FE.out _ _ _ _ _ _ _ _ _ hI.view HVM.out).mono ?_; rintro e w' ⟨rfl, hb⟩; exact HK2.out _ (HX.out.next _ (by rfl) hb))
      | exact HK2.out _ (HX.out.next _ (by rfl) (Below.refl _ _))
  try simp only [Act.put, List.setIfInBounds_toArray, List.set_cons_succ, List.set_cons_zero]
  apply GhostV.walk_const (fun γ => by rfl)
  · intro γ L wx h1 h2 hx K hK
    have HXB := HB9.out.next hx.below
    obtain ⟨k0, k1, k2, k3, k4, k5, k6, k7⟩ := boxRow HXB.r2
    have m0 := cell_of_row wx _ 0 _ _ (0, 0) HXB.r0
    have m1 := cell_of_row wx _ 1 _ _ (0, 0) HXB.r0
    have m2 := cell_of_row wx _ 2 _ _ (0, 0) HXB.r0
    have n0 := cell_of_row wx _ 0 _ _ (0, 0) HXB.r1
    have n1 := cell_of_row wx _ 1 _ _ (0, 0) HXB.r1
    have n2 := cell_of_row wx _ 2 _ _ (0, 0) HXB.r1
    have n3 := cell_of_row wx _ 3 _ _ (0, 0) HXB.r1
    have o0 := cell_of_row wx _ 0 _ _ (0, 0) HXB.r3
    have o1 := cell_of_row wx _ 1 _ _ (0, 0) HXB.r3
    have o2 := cell_of_row wx _ 2 _ _ (0, 0) HXB.r3
    have o3 := cell_of_row wx _ 3 _ _ (0, 0) HXB.r3
    simp only [List.getElem?_toArray, List.getElem?_cons_zero, List.getElem?_cons_succ] at m0 m1 m2 n0 n1 n2 n3 o0 o1 o2 o3
    have q0 := (hx.below.cell (p := ⟨gb, 0, none⟩) HGB.out).trans (HEC.out 0 _ (by decide) rfl)
    have q1 := (hx.below.cell (p := ⟨gb, 1, none⟩) HGB.out).trans (HEC.out 1 _ (by decide) rfl)
    have q2 := (hx.below.cell (p := ⟨gb, 2, none⟩) HGB.out).trans (HEC.out 2 _ (by decide) rfl)
    have q3 := (hx.below.cell (p := ⟨gb, 3, none⟩) HGB.out).trans (HEC.out 3 _ (by decide) rfl)
    have q4 := (hx.below.cell (p := ⟨gb, 4, none⟩) HGB.out).trans (HEC.out 4 _ (by decide) rfl)
    have HCW := Lib.hid (HCX3.out _ HXB.below)
    have HVO := Lib.hid (HIO.out.view.below hx.below)
    have HVM := Lib.hid (HIM.out.view.below hx.below)
    have HK2 := Lib.hid hK
    have HX := Lib.hid hx
    have H2 := Lib.hid h2
    clear hK h1 h2 hx
    go_simp
    first
      | (go_at_call 39; (with_reducible refine (FE.out _ _ _ _ _ _ _ _ _ HVO.out HVM.out).mono ?_); rintro e w' ⟨rfl, hb⟩; exact HK2.out _ (HX.out.next _ (by rfl) hb))
      | (go_at_call 39; obtain ⟨pv, fv, lv, ev, e, hI⟩ := HX.out.row (40, pdIm i2) (by simp) (H2.out 40 (by kernel_rfl)); simp only at e; rw [e] at HK2 ⊢; refine (FE.out _ _ _ _ _ _ _ _ _ hI.view HVM.out).mono ?_; rintro e w' ⟨rfl, hb⟩; exact HK2.out _ (HX.out.next _ (by rfl) hb))
      | exact HK2.out _ (HX.out.next _ (by rfl) (Below.refl _ _))
  try simp only [Act.put, List.setIfInBounds_toArray, List.set_cons_succ, List.set_cons_zero]
  apply GhostV.walk_const (fun γ => by rfl)
  · intro γ L wx h1 h2 hx K hK
    have HXB := HB9.out.next hx.below
    obtain ⟨k0, k1, k2, k3, k4, k5, k6, k7⟩ := boxRow HXB.r2
    have m0 := cell_of_row wx _ 0 _ _ (0, 0) HXB.r0
    have m1 := cell_of_row wx _ 1 _ _ (0, 0) HXB.r0
    have m2 := cell_of_row wx _ 2 _ _ (0, 0) HXB.r0
    have n0 := cell_of_row wx _ 0 _ _ (0, 0) HXB.r1
    have n1 := cell_of_row wx _ 1 _ _ (0, 0) HXB.r1
    have n2 := cell_of_row wx _ 2 _ _ (0, 0) HXB.r1
    have n3 := cell_of_row wx _ 3 _ _ (0, 0) HXB.r1
    have o0 := cell_of_row wx _ 0 _ _ (0, 0) HXB.r3
    have o1 := cell_of_row wx _ 1 _ _ (0, 0) HXB.r3
    have o2 := cell_of_row wx _ 2 _ _ (0, 0) HXB.r3
    have o3 := cell_of_row wx _ 3 _ _ (0, 0) HXB.r3
    simp only [List.getElem?_toArray, List.getElem?_cons_zero, List.getElem?_cons_succ] at m0 m1 m2 n0 n1 n2 n3 o0 o1 o2 o3
    have q0 := (hx.below.cell (p := ⟨gb, 0, none⟩) HGB.out).trans (HEC.out 0 _ (by decide) rfl)
    have q1 := (hx.below.cell (p := ⟨gb, 1, none⟩) HGB.out).trans (HEC.out 1 _ (by decide) rfl)
    have q2 := (hx.below.cell (p := ⟨gb, 2, none⟩) HGB.out).trans (HEC.out 2 _ (by decide) rfl)
    have q3 := (hx.below.cell (p := ⟨gb, 3, none⟩) HGB.out).trans (HEC.out 3 _ (by decide) rfl)
    have q4 := (hx.below.cell (p := ⟨gb, 4, none⟩) HGB.out).trans (HEC.out 4 _ (by decide) rfl)
    have HCW := Lib.hid (HCX3.out _ HXB.below)
    have HVO := Lib.hid (HIO.out.view.below hx.below)
    have HVM := Lib.hid (HIM.out.view.below hx.below)
    have HK2 := Lib.hid hK
    have HX := Lib.hid hx
    have H2 := Lib.hid h2
    clear hK h1 h2 hx
    go_simp
    first
      | (go_at_call 39; (with_reducible refine (FE.out _ _ _ _ _ _ _ _ _ HVO.out HVM.out).mono ?_); rintro e w' ⟨rfl, hb⟩; exact HK2.out _ (HX.out.next _ (by rfl) hb))
      | (go_at_call 39; obtain ⟨pv, fv, lv, ev, e, hI⟩ := HX.out.row (40, pdIm i2) (by simp) (H2.out 40 (by kernel_rfl)); simp only at e; rw [e] at HK2 ⊢; refine (FE.out _ _ _ _ _ _ _ _ _ hI.view HVM.out).mono ?_; rintro e w' ⟨rfl, hb⟩; exact HK2.out _ (HX.out.next _ (by rfl) hb))
      | exact HK2.out _ (HX.out.next _ (by rfl) (Below.refl _ _))
  try simp only [Act.put, List.setIfInBounds_toArray, List.set_cons_succ, List.set_cons_zero]
  apply GhostV.walk_const (fun γ => by rfl)
  · intro γ L wx h1 h2 hx K hK
    have HXB := HB9.out.next hx.below
    obtain ⟨k0, k1, k2, k3, k4, k5, k6, k7⟩ := boxRow HXB.r2
    have m0 := cell_of_row wx _ 0 _ _ (0, 0) HXB.r0
    have m1 := cell_of_row wx _ 1 _ _ (0, 0) HXB.r0
    have m2 := cell_of_row wx _ 2 _ _ (0, 0) HXB.r0
    have n0 := cell_of_row wx _ 0 _ _ (0, 0) HXB.r1
    have n1 := cell_of_row wx _ 1 _ _ (0, 0) HXB.r1
    have n2 := cell_of_row wx _ 2 _ _ (0, 0) HXB.r1
    have n3 := cell_of_row wx _ 3 _ _ (0, 0) HXB.r1
    have o0 := cell_of_row wx _ 0 _ _ (0, 0) HXB.r3
    have o1 := cell_of_row wx _ 1 _ _ (0, 0) HXB.r3
    have o2 := cell_of_row wx _ 2 _ _ (0, 0) HXB.r3
    have o3 := cell_of_row wx _ 3 _ _ (0, 0) HXB.r3
    simp only [List.getElem?_toArray, List.getElem?_cons_zero, List.getElem?_cons_succ] at m0 m1 m2 n0 n1 n2 n3 o0 o1 o2 o3
    have q0 := (hx.below.cell (p := ⟨gb, 0, none⟩) HGB.out).trans (HEC.out 0 _ (by decide) rfl)
    have q1 := (hx.below.cell (p := ⟨gb, 1, none⟩) HGB.out).trans (HEC.out 1 _ (by decide) rfl)
    have q2 := (hx.below.cell (p := ⟨gb, 2, none⟩) HGB.out).trans (HEC.out 2 _ (by decide) rfl)
    have q3 := (hx.below.cell (p := ⟨gb, 3, none⟩) HGB.out).trans (HEC.out 3 _ (by decide) rfl)
    have q4 := (hx.below.cell (p := ⟨gb, 4, none⟩) HGB.out).trans (HEC.out 4 _ (by decide) rfl)
    have HCW := Lib.hid (HCX3.out _ HXB.below)
    have HVO := Lib.hid (HIO.out.view.below hx.below)
    have HVM := Lib.hid (HIM.out.view.below hx.below)
    have HK2 := Lib.hid hK
    have HX := Lib.hid hx
    have H2 := Lib.hid h2
    clear hK h1 h2 hx
    go_simp
    first
      | (go_at_call 39; (with_reducible refine (FE.out _ _ _ _ _ _ _ _ _ HVO.out HVM.out).mono ?_); rintro e w' ⟨rfl, hb⟩; exact HK2.out _ (HX.out.next _ (by rfl) hb))
      | (go_at_call 39; obtain ⟨pv, fv, lv, ev, e, hI⟩ := HX.out.row (40, pdIm i2) (by simp) (H2.out 40 (by kernel_rfl)); simp only at e; rw [e] at HK2 ⊢; refine (FE.out _ _ _ _ _ _ _ _ _ hI.view HVM.out).mono ?_; rintro e w' ⟨rfl, hb⟩; exact HK2.out _ (HX.out.next _ (by rfl) hb))
      | exact HK2.out _ (HX.out.next _ (by rfl) (Below.refl _ _))
  try simp only [Act.put, List.setIfInBounds_toArray, List.set_cons_succ, List.set_cons_zero]
  apply GhostV.walk_const (fun γ => by rfl)
  · intro γ L wx h1 h2 hx K hK
    have HXB := HB9.out.next hx.below
    obtain ⟨k0, k1, k2, k3, k4, k5, k6, k7⟩ := boxRow HXB.r2
    have m0 := cell_of_row wx _ 0 _ _ (0, 0) HXB.r0
    have m1 := cell_of_row wx _ 1 _ _ (0, 0) HXB.r0
    have m2 := cell_of_row wx _ 2 _ _ (0, 0) HXB.r0
    have n0 := cell_of_row wx _ 0 _ _ (0, 0) HXB.r1
    have n1 := cell_of_row wx _ 1 _ _ (0, 0) HXB.r1
    have n2 := cell_of_row wx _ 2 _ _ (0, 0) HXB.r1
    have n3 := cell_of_row wx _ 3 _ _ (0, 0) HXB.r1
    have o0 := cell_of_row wx _ 0 _ _ (0, 0) HXB.r3
    have o1 := cell_of_row wx _ 1 _ _ (0, 0) HXB.r3
    have o2 := cell_of_row wx _ 2 _ _ (0, 0) HXB.r3
    have o3 := cell_of_row wx _ 3 _ _ (0, 0) HXB.r3
    simp only [List.getElem?_toArray, List.getElem?_cons_zero, List.getElem?_cons_succ] at m0 m1 m2 n0 n1 n2 n3 o0 o1 o2 o3
    have q0 := (hx.below.cell (p := ⟨gb, 0, none⟩) HGB.out).trans (HEC.out 0 _ (by decide) rfl)
    have q1 := (hx.below.cell (p := ⟨gb, 1, none⟩) HGB.out).trans (HEC.out 1 _ (by decide) rfl)
    have q2 := (hx.below.cell (p := ⟨gb, 2, none⟩) HGB.out).trans (HEC.out 2 _ (by decide) rfl)
    have q3 := (hx.below.cell (p := ⟨gb, 3, none⟩) HGB.out).trans (HEC.out 3 _ (by decide) rfl)
    have q4 := (hx.below.cell (p := ⟨gb, 4, none⟩) HGB.out).trans (HEC.out 4 _ (by decide) rfl)
    have HCW := Lib.hid (HCX3.out _ HXB.below)
    have HVO := Lib.hid (HIO.out.view.below hx.below)
    have HVM := Lib.hid (HIM.out.view.below hx.below)
    have HK2 := Lib.hid hK
    have HX := Lib.hid hx
    have H2 := Lib.hid h2
    clear hK h1 h2 hx
    go_simp
    first
      | (go_at_call 39; (with_reducible refine (FE.out _ _ _ _ _ _ _ _ _ HVO.out HVM.out).mono ?_); rintro e w' ⟨rfl, hb⟩; exact HK2.out _ (HX.out.next _ (by rfl) hb))
      | (go_at_call 39; obtain ⟨pv, fv, lv, ev, e, hI⟩ := HX.out.row (40, pdIm i2) (by simp) (H2.out 40 (by kernel_rfl)); simp only at e; rw [e] at HK2 ⊢; refine (FE.out _ _ _ _ _ _ _ _ _ hI.view HVM.out).mono ?_; rintro e w' ⟨rfl, hb⟩; exact HK2.out _ (HX.out.next _ (by rfl) hb))
      | exact HK2.out _ (HX.out.next _ (by rfl) (Below.refl _ _))
  try simp only [Act.put, List.setIfInBounds_toArray, List.set_cons_succ, List.set_cons_zero]
  apply GhostV.walk_const (fun γ => by rfl)
  · intro γ L wx h1 h2 hx K hK
    have HXB := HB9.out.next hx.below
    obtain ⟨k0, k1, k2, k3, k4, k5, k6, k7⟩ := boxRow HXB.r2
    have m0 := cell_of_row wx _ 0 _ _ (0, 0) HXB.r0
    have m1 := cell_of_row wx _ 1 _ _ (0, 0) HXB.r0
    have m2 := cell_of_row wx _ 2 _ _ (0, 0) HXB.r0
    have n0 := cell_of_row wx _ 0 _ _ (0, 0) HXB.r1
    have n1 := cell_of_row wx _ 1 _ _ (0, 0) HXB.r1
    have n2 := cell_of_row wx _ 2 _ _ (0, 0) HXB.r1
    have n3 := cell_of_row wx _ 3 _ _ (0, 0) HXB.r1
    have o0 := cell_of_row wx _ 0 _ _ (0, 0) HXB.r3
    have o1 := cell_of_row wx _ 1 _ _ (0, 0) HXB.r3
    have o2 := cell_of_row wx _ 2 _ _ (0, 0) HXB.r3
    have o3 := cell_of_row wx _ 3 _ _ (0, 0) HXB.r3
    simp only [List.getElem?_toArray, List.getElem?_cons_zero, List.getElem?_cons_succ] at m0 m1 m2 n0 n1 n2 n3 o0 o1 o2 o3
    have q0 := (hx.below.cell (p := ⟨gb, 0, none⟩) HGB.out).trans (HEC.out 0 _ (by decide) rfl)
    have q1 := (hx.below.cell (p := ⟨gb, 1, none⟩) HGB.out).trans (HEC.out 1 _ (by decide) rfl)
    have q2 := (hx.below.cell (p := ⟨gb, 2, none⟩) HGB.out).trans (HEC.out 2 _ (by decide) rfl)
    have q3 := (hx.below.cell (p := ⟨gb, 3, none⟩) HGB.out).trans (HEC.out 3 _ (by decide) rfl)
    have q4 := (hx.below.cell (p := ⟨gb, 4, none⟩) HGB.out).trans (HEC.out 4 _ (by decide) rfl)
    have HCW := Lib.hid (HCX3.out _ HXB.below)
    have HVO := Lib.hid (HIO.out.view.below hx.below)
    have HVM := Lib.hid (HIM.out.view.below hx.below)
    have HK2 := Lib.hid hK
    have HX := Lib.hid hx
    have H2 := Lib.hid h2
    clear hK h1 h2 hx
    go_simp
    first
      | (go_at_call 39; (with_reducible refine (FE.out _ _ _ _ _ _ _ _ _ HVO.out HVM.out).mono ?_); rintro e w' ⟨rfl, hb⟩; exact HK2.out _ (HX.out.next _ (by rfl) hb))
      | (go_at_call 39; obtain ⟨pv, fv, lv, ev, e, hI⟩ := HX.out.row (40, pdIm i2) (by simp) (H2.out 40 (by kernel_rfl)); simp only at e; rw [e] at HK2 ⊢; refine (FE.out _ _ _ _ _ _ _ _ _ hI.view HVM.out).mono ?_; rintro e w' ⟨rfl, hb⟩; exact HK2.out _ (HX.out.next _ (by rfl) hb))
      | exact HK2.out _ (HX.out.next _ (by rfl) (Below.refl _ _))
  try simp only [Act.put, List.setIfInBounds_toArray, List.set_cons_succ, List.set_cons_zero]
  apply GhostV.walk_const (fun γ => by rfl)
  · intro γ L wx h1 h2 hx K hK
    have HXB := HB9.out.next hx.below
    obtain ⟨k0, k1, k2, k3, k4, k5, k6, k7⟩ := boxRow HXB.r2
    have m0 := cell_of_row wx _ 0 _ _ (0, 0) HXB.r0
    have m1 := cell_of_row wx _ 1 _ _ (0, 0) HXB.r0
    have m2 := cell_of_row wx _ 2 _ _ (0, 0) HXB.r0
    have n0 := cell_of_row wx _ 0 _ _ (0, 0) HXB.r1
    have n1 := cell_of_row wx _ 1 _ _ (0, 0) HXB.r1
    have n2 := cell_of_row wx _ 2 _ _ (0, 0) HXB.r1
    have n3 := cell_of_row wx _ 3 _ _ (0, 0) HXB.r1
    have o0 := cell_of_row wx _ 0 _ _ (0, 0) HXB.r3
    have o1 := cell_of_row wx _ 1 _ _ (0, 0) HXB.r3
    have o2 := cell_of_row wx _ 2 _ _ (0, 0) HXB.r3
    have o3 := cell_of_row wx _ 3 _ _ (0, 0) HXB.r3
    simp only [List.getElem?_toArray, List.getElem?_cons_zero, List.getElem?_cons_succ] at m0 m1 m2 n0 n1 n2 n3 o0 o1 o2 o3
    have q0 := (hx.below.cell (p := ⟨gb, 0, none⟩) HGB.out).trans (HEC.out 0 _ (by decide) rfl)
    have q1 := (hx.below.cell (p := ⟨gb, 1, none⟩) HGB.out).trans (HEC.out 1 _ (by decide) rfl)
    have q2 := (hx.below.cell (p := ⟨gb, 2, none⟩) HGB.out).trans (HEC.out 2 _ (by decide) rfl)
    have q3 := (hx.below.cell (p := ⟨gb, 3, none⟩) HGB.out).trans (HEC.out 3 _ (by decide) rfl)
    have q4 := (hx.below.cell (p := ⟨gb, 4, none⟩) HGB.out).trans (HEC.out 4 _ (by decide) rfl)
    have HCW := Lib.hid (HCX3.out _ HXB.below)
    have HVO := Lib.hid (HIO.out.view.below hx.below)
    have HVM := Lib.hid (HIM.out.view.below hx.below)
    have HK2 := Lib.hid hK
    have HX := Lib.hid hx
    have H2 := Lib.hid h2
    clear hK h1 h2 hx
    go_simp
    first
      | (go_at_call 39; (with_reducible refine (FE.out _ _ _ _ _ _ _ _ _ HVO.out HVM.out).mono ?_); rintro e w' ⟨rfl, hb⟩; exact HK2.out _ (HX.out.next _ (by rfl) hb))
      | (go_at_call 39; obtain ⟨pv, fv, lv, ev, e, hI⟩ := HX.out.row (40, pdIm i2) (by simp) (H2.out 40 (by kernel_rfl)); simp only at e; rw [e] at HK2 ⊢; refine (FE.out _ _ _ _ _ _ _ _ _ hI.view HVM.out).mono ?_; rintro e w' ⟨rfl, hb⟩; exact HK2.out _ (HX.out.next _ (by rfl) hb))
      | exact HK2.out _ (HX.out.next _ (by rfl) (Below.refl _ _))
  try simp only [Act.put, List.setIfInBounds_toArray, List.set_cons_succ, List.set_cons_zero]
  apply GhostV.walk_const (fun γ => by rfl)
  · intro γ L wx h1 h2 hx K hK
    have HXB := HB9.out.next hx.below
    obtain ⟨k0, k1, k2, k3, k4, k5, k6, k7⟩ := boxRow HXB.r2
    have m0 := cell_of_row wx _ 0 _ _ (0, 0) HXB.r0
    have m1 := cell_of_row wx _ 1 _ _ (0, 0) HXB.r0
    have m2 := cell_of_row wx _ 2 _ _ (0, 0) HXB.r0
    have n0 := cell_of_row wx _ 0 _ _ (0, 0) HXB.r1
    have n1 := cell_of_row wx _ 1 _ _ (0, 0) HXB.r1
    have n2 := cell_of_row wx _ 2 _ _ (0, 0) HXB.r1
    have n3 := cell_of_row wx _ 3 _ _ (0, 0) HXB.r1
    have o0 := cell_of_row wx _ 0 _ _ (0, 0) HXB.r3
    have o1 := cell_of_row wx _ 1 _ _ (0, 0) HXB.r3
    have o2 := cell_of_row wx _ 2 _ _ (0, 0) HXB.r3
    have o3 := cell_of_row wx _ 3 _ _ (0, 0) HXB.r3
    simp only [List.getElem?_toArray, List.getElem?_cons_zero, List.getElem?_cons_succ] at m0 m1 m2 n0 n1 n2 n3 o0 o1 o2 o3
    have q0 := (hx.below.cell (p := ⟨gb, 0, none⟩) HGB.out).trans (HEC.out 0 _ (by decide) rfl)
    have q1 := (hx.below.cell (p := ⟨gb, 1, none⟩) HGB.out).trans (HEC.out 1 _ (by decide) rfl)
    have q2 := (hx.below.cell (p := ⟨gb, 2, none⟩) HGB.out).trans (HEC.out 2 _ (by decide) rfl)
    have q3 := (hx.below.cell (p := ⟨gb, 3, none⟩) HGB.out).trans (HEC.out 3 _ (by decide) rfl)
    have q4 := (hx.below.cell (p := ⟨gb, 4, none⟩) HGB.out).trans (HEC.out 4 _ (by decide) rfl)
    have HCW := Lib.hid (HCX3.out _ HXB.below)
    have HVO := Lib.hid (HIO.out.view.below hx.below)
    have HVM := Lib.hid (HIM.out.view.below hx.below)
    have HK2 := Lib.hid hK
    have HX := Lib.hid hx
    have H2 := Lib.hid h2
    clear hK h1 h2 hx
    go_simp
    first
      | (go_at_call 39; (with_reducible refine (FE.out _ _ _ _ _ _ _ _ _ HVO.out HVM.out).mono ?_); rintro e w' ⟨rfl, hb⟩; exact HK2.out _ (HX.out.next _ (by rfl) hb))
      | (go_at_call 39; obtain ⟨pv, fv, lv, ev, e, hI⟩ := HX.out.row (40, pdIm i2) (by simp) (H2.out 40 (by kernel_rfl)); simp only at e; rw [e] at HK2 ⊢; refine (FE.out _ _ _ _ _ _ _ _ _ hI.view HVM.out).mono ?_; rintro e w' ⟨rfl, hb⟩; exact HK2.out _ (HX.out.next _ (by rfl) hb))
      | exact HK2.out _ (HX.out.next _ (by rfl) (Below.refl _ _))
  try simp only [Act.put, List.setIfInBounds_toArray, List.set_cons_succ, List.set_cons_zero]
  apply GhostV.walk_const (fun γ => by rfl)
  · intro γ L wx h1 h2 hx K hK
    have HXB := HB9.out.next hx.below
    obtain ⟨k0, k1, k2, k3, k4, k5, k6, k7⟩ := boxRow HXB.r2
    have m0 := cell_of_row wx _ 0 _ _ (0, 0) HXB.r0
    have m1 := cell_of_row wx _ 1 _ _ (0, 0) HXB.r0
    have m2 := cell_of_row wx _ 2 _ _ (0, 0) HXB.r0
    have n0 := cell_of_row wx _ 0 _ _ (0, 0) HXB.r1
    have n1 := cell_of_row wx _ 1 _ _ (0, 0) HXB.r1
    have n2 := cell_of_row wx _ 2 _ _ (0, 0) HXB.r1
    have n3 := cell_of_row wx _ 3 _ _ (0, 0) HXB.r1
    have o0 := cell_of_row wx _ 0 _ _ (0, 0) HXB.r3
    have o1 := cell_of_row wx _ 1 _ _ (0, 0) HXB.r3
    have o2 := cell_of_row wx _ 2 _ _ (0, 0) HXB.r3
    have o3 := cell_of_row wx _ 3 _ _ (0, 0) HXB.r3
    simp only [List.getElem?_toArray, List.getElem?_cons_zero, List.getElem?_cons_succ] at m0 m1 m2 n0 n1 n2 n3 o0 o1 o2 o3
    have q0 := (hx.below.cell (p := ⟨gb, 0, none⟩) HGB.out).trans (HEC.out 0 _ (by decide) rfl)
    have q1 := (hx.below.cell (p := ⟨gb, 1, none⟩) HGB.out).trans (HEC.out 1 _ (by decide) rfl)
    have q2 := (hx.below.cell (p := ⟨gb, 2, none⟩) HGB.out).trans (HEC.out 2 _ (by decide) rfl)
    have q3 := (hx.below.cell (p := ⟨gb, 3, none⟩) HGB.out).trans (HEC.out 3 _ (by decide) rfl)
    have q4 := (hx.below.cell (p := ⟨gb, 4, none⟩) HGB.out).trans (HEC.out 4 _ (by decide) rfl)
    have HCW := Lib.hid (HCX3.out _ HXB.below)
    have HVO := Lib.hid (HIO.out.view.below hx.below)
    have HVM := Lib.hid (HIM.out.view.below hx.below)
    have HK2 := Lib.hid hK
    have HX := Lib.hid hx
    have H2 := Lib.hid h2
    clear hK h1 h2 hx
    go_simp
    first
      | (go_at_call 39; (with_reducible refine (FE.out _ _ _ _ _ _ _ _ _ HVO.out HVM.out).mono ?_); rintro e w' ⟨rfl, hb⟩; exact HK2.out _ (HX.out.next _ (by rfl) hb))
      | (go_at_call 39; obtain ⟨pv, fv, lv, ev, e, hI⟩ := HX.out.row (40, pdIm i2) (by simp) (H2.out 40 (by kernel_rfl)); simp only at e; rw [e] at HK2 ⊢; refine (FE.out _ _ _ _ _ _ _ _ _ hI.view HVM.out).mono ?_; rintro e w' ⟨rfl, hb⟩; exact HK2.out _ (HX.out.next _ (by rfl) hb))
      | exact HK2.out _ (HX.out.next _ (by rfl) (Below.refl _ _))
  try simp only [Act.put, List.setIfInBounds_toArray, List.set_cons_succ, List.set_cons_zero]
  refine GhostV.walk_yes (fun b => b) (fun γ => by rfl) ?_ ?_
  · intro γ L wx h1 h2 hx K hK
    have HXB := HB9.out.next hx.below
    obtain ⟨k0, k1, k2, k3, k4, k5, k6, k7⟩ := boxRow HXB.r2
    have m0 := cell_of_row wx _ 0 _ _ (0, 0) HXB.r0
    have m1 := cell_of_row wx _ 1 _ _ (0, 0) HXB.r0
    have m2 := cell_of_row wx _ 2 _ _ (0, 0) HXB.r0
    have n0 := cell_of_row wx _ 0 _ _ (0, 0) HXB.r1
    have n1 := cell_of_row wx _ 1 _ _ (0, 0) HXB.r1
    have n2 := cell_of_row wx _ 2 _ _ (0, 0) HXB.r1
    have n3 := cell_of_row wx _ 3 _ _ (0, 0) HXB.r1
    have o0 := cell_of_row wx _ 0 _ _ (0, 0) HXB.r3
    have o1 := cell_of_row wx _ 1 _ _ (0, 0) HXB.r3
    have o2 := cell_of_row wx _ 2 _ _ (0, 0) HXB.r3
    have o3 := cell_of_row wx _ 3 _ _ (0, 0) HXB.r3
    simp only [List.getElem?_toArray, List.getElem?_cons_zero, List.getElem?_cons_succ] at m0 m1 m2 n0 n1 n2 n3 o0 o1 o2 o3
    have q0 := (hx.below.cell (p := ⟨gb, 0, none⟩) HGB.out).trans (HEC.out 0 _ (by decide) rfl)
    have q1 := (hx.below.cell (p := ⟨gb, 1, none⟩) HGB.out).trans (HEC.out 1 _ (by decide) rfl)
    have q2 := (hx.below.cell (p := ⟨gb, 2, none⟩) HGB.out).trans (HEC.out 2 _ (by decide) rfl)
    have q3 := (hx.below.cell (p := ⟨gb, 3, none⟩) HGB.out).trans (HEC.out 3 _ (by decide) rfl)
    have q4 := (hx.below.cell (p := ⟨gb, 4, none⟩) HGB.out).trans (HEC.out 4 _ (by decide) rfl)
    have HCW := Lib.hid (HCX3.out _ HXB.below)
    have HVO := Lib.hid (HIO.out.view.below hx.below)
    have HVM := Lib.hid (HIM.out.view.below hx.below)
    have HK2 := Lib.hid hK
    have HX := Lib.hid hx
    have H2 := Lib.hid h2
    clear hK h1 h2 hx
    go_simp
    (go_at_call 19; refine (FR.out A cap _ HCW.out).mono ?_; rintro e w' ⟨m, pv, fv, lv, ev, rfl, hr, hI, hb⟩; obtain rfl := HRP.out m hr; exact HK2.out _ _ (HX.out.make (by simp only [List.mem_cons, List.not_mem_nil, or_false]; rintro d rfl h; exact ⟨_, _, _, _, rfl, hI.mono (Nat.zero_le _)⟩) hb))
  try simp only [Act.put, List.setIfInBounds_toArray, List.set_cons_succ, List.set_cons_zero]
  apply GhostV.walk_const (fun γ => by rfl)
  · intro γ L wx h1 h2 hx K hK
    have HXB := HB9.out.next hx.below
    obtain ⟨k0, k1, k2, k3, k4, k5, k6, k7⟩ := boxRow HXB.r2
    have m0 := cell_of_row wx _ 0 _ _ (0, 0) HXB.r0
    have m1 := cell_of_row wx _ 1 _ _ (0, 0) HXB.r0
    have m2 := cell_of_row wx _ 2 _ _ (0, 0) HXB.r0
    have n0 := cell_of_row wx _ 0 _ _ (0, 0) HXB.r1
    have n1 := cell_of_row wx _ 1 _ _ (0, 0) HXB.r1
    have n2 := cell_of_row wx _ 2 _ _ (0, 0) HXB.r1
    have n3 := cell_of_row wx _ 3 _ _ (0, 0) HXB.r1
    have o0 := cell_of_row wx _ 0 _ _ (0, 0) HXB.r3
    have o1 := cell_of_row wx _ 1 _ _ (0, 0) HXB.r3
    have o2 := cell_of_row wx _ 2 _ _ (0, 0) HXB.r3
    have o3 := cell_of_row wx _ 3 _ _ (0, 0) HXB.r3
    simp only [List.getElem?_toArray, List.getElem?_cons_zero, List.getElem?_cons_succ] at m0 m1 m2 n0 n1 n2 n3 o0 o1 o2 o3
    have q0 := (hx.below.cell (p := ⟨gb, 0, none⟩) HGB.out).trans (HEC.out 0 _ (by decide) rfl)
    have q1 := (hx.below.cell (p := ⟨gb, 1, none⟩) HGB.out).trans (HEC.out 1 _ (by decide) rfl)
    have q2 := (hx.below.cell (p := ⟨gb, 2, none⟩) HGB.out).trans (HEC.out 2 _ (by decide) rfl)
    have q3 := (hx.below.cell (p := ⟨gb, 3, none⟩) HGB.out).trans (HEC.out 3 _ (by decide) rfl)
    have q4 := (hx.below.cell (p := ⟨gb, 4, none⟩) HGB.out).trans (HEC.out 4 _ (by decide) rfl)
    have HCW := Lib.hid (HCX3.out _ HXB.below)
    have HVO := Lib.hid (HIO.out.view.below hx.below)
    have HVM := Lib.hid (HIM.out.view.below hx.below)
    have HK2 := Lib.hid hK
    have HX := Lib.hid hx
    have H2 := Lib.hid h2
    clear hK h1 h2 hx
    go_simp
    first
      | (go_at_call 39; (with_reducible refine (FE.out _ _ _ _ _ _ _ _ _ HVO.out HVM.out).mono ?_); rintro e w' ⟨rfl, hb⟩; exact HK2.out _ (HX.out.next _ (by rfl) hb))
      | (go_at_call 39; obtain ⟨pv, fv, lv, ev, e, hI⟩ := HX.out.row (40, pdIm i2) (by simp) (H2.out 40 (by kernel_rfl)); simp only at e; rw [e] at HK2 ⊢; refine (FE.out _ _ _ _ _ _ _ _ _ hI.view HVM.out).mono ?_; rintro e w' ⟨rfl, hb⟩; exact HK2.out _ (HX.out.next _ (by rfl) hb))
      | exact HK2.out _ (HX.out.next _ (by rfl) (Below.refl _ _))
  try simp only [Act.put, List.setIfInBounds_toArray, List.set_cons_succ, List.set_cons_zero]
  apply GhostV.walk_const (fun γ => by rfl)
  · intro γ L wx h1 h2 hx K hK
    have HXB := HB9.out.next hx.below
    obtain ⟨k0, k1, k2, k3, k4, k5, k6, k7⟩ := boxRow HXB.r2
    have m0 := cell_of_row wx _ 0 _ _ (0, 0) HXB.r0
    have m1 := cell_of_row wx _ 1 _ _ (0, 0) HXB.r0
    have m2 := cell_of_row wx _ 2 _ _ (0, 0) HXB.r0
    have n0 := cell_of_row wx _ 0 _ _ (0, 0) HXB.r1
    have n1 := cell_of_row wx _ 1 _ _ (0, 0) HXB.r1
    have n2 := cell_of_row wx _ 2 _ _ (0, 0) HXB.r1
    have n3 := cell_of_row wx _ 3 _ _ (0, 0) HXB.r1
    have o0 := cell_of_row wx _ 0 _ _ (0, 0) HXB.r3
    have o1 := cell_of_row wx _ 1 _ _ (0, 0) HXB.r3
    have o2 := cell_of_row wx _ 2 _ _ (0, 0) HXB.r3
    have o3 := cell_of_row wx _ 3 _ _ (0, 0) HXB.r3
    simp only [List.getElem?_toArray, List.getElem?_cons_zero, List.getElem?_cons_succ] at m0 m1 m2 n0 n1 n2 n3 o0 o1 o2 o3
    have q0 := (hx.below.cell (p := ⟨gb, 0, none⟩) HGB.out).trans (HEC.out 0 _ (by decide) rfl)
    have q1 := (hx.below.cell (p := ⟨gb, 1, none⟩) HGB.out).trans (HEC.out 1 _ (by decide) rfl)
    have q2 := (hx.below.cell (p := ⟨gb, 2, none⟩) HGB.out).trans (HEC.out 2 _ (by decide) rfl)
    have q3 := (hx.below.cell (p := ⟨gb, 3, none⟩) HGB.out).trans (HEC.out 3 _ (by decide) rfl)
    have q4 := (hx.below.cell (p := ⟨gb, 4, none⟩) HGB.out).trans (HEC.out 4 _ (by decide) rfl)
    have HCW := Lib.hid (HCX3.out _ HXB.below)
    have HVO := Lib.hid (HIO.out.view.below hx.below)
    have HVM := Lib.hid (HIM.out.view.below hx.below)
    have HK2 := Lib.hid hK
    have HX := Lib.hid hx
    have H2 := Lib.hid h2
    clear hK h1 h2 hx
    go_simp
    first
      | (go_at_call 39; (with_reducible refine (FE.out _ _ _ _ _ _ _ _ _ HVO.out HVM.out).mono ?_); rintro e w' ⟨rfl, hb⟩; exact HK2.out _ (HX.out.next _ (by rfl) hb))
      | (go_at_call 39; obtain ⟨pv, fv, lv, ev, e, hI⟩ := HX.out.row (40, pdIm i2) (by simp) (H2.out 40 (by kernel_rfl)); simp only at e; rw [e] at HK2 ⊢; refine (FE.out _ _ _ _ _ _ _ _ _ hI.view HVM.out).mono ?_; rintro e w' ⟨rfl, hb⟩; exact HK2.out _ (HX.out.next _ (by rfl) hb))
      | exact HK2.out _ (HX.out.next _ (by rfl) (Below.refl _ _))
  try simp only [Act.put, List.setIfInBounds_toArray, List.set_cons_succ, List.set_cons_zero]
  apply GhostV.walk_const (fun γ => by rfl)
  · intro γ L wx h1 h2 hx K hK
    have HXB := HB9.out.next hx.below
    obtain ⟨k0, k1, k2, k3, k4, k5, k6, k7⟩ := boxRow HXB.r2
    have m0 := cell_of_row wx _ 0 _ _ (0, 0) HXB.r0
    have m1 := cell_of_row wx _ 1 _ _ (0, 0) HXB.r0
    have m2 := cell_of_row wx _ 2 _ _ (0, 0) HXB.r0
    have n0 := cell_of_row wx _ 0 _ _ (0, 0) HXB.r1
    have n1 := cell_of_row wx _ 1 _ _ (0, 0) HXB.r1
    have n2 := cell_of_row wx _ 2 _ _ (0, 0) HXB.r1
    have n3 := cell_of_row wx _ 3 _ _ (0, 0) HXB.r1
    have o0 := cell_of_row wx _ 0 _ _ (0, 0) HXB.r3
    have o1 := cell_of_row wx _ 1 _ _ (0, 0) HXB.r3
    have o2 := cell_of_row wx _ 2 _ _ (0, 0) HXB.r3
    have o3 := cell_of_row wx _ 3 _ _ (0, 0) HXB.r3
    simp only [List.getElem?_toArray, List.getElem?_cons_zero, List.getElem?_cons_succ] at m0 m1 m2 n0 n1 n2 n3 o0 o1 o2 o3
    have q0 := (hx.below.cell (p := ⟨gb, 0, none⟩) HGB.out).trans (HEC.out 0 _ (by decide) rfl)
    have q1 := (hx.below.cell (p := ⟨gb, 1, none⟩) HGB.out).trans (HEC.out 1 _ (by decide) rfl)
    have q2 := (hx.below.cell (p := ⟨gb, 2, none⟩) HGB.out).trans (HEC.out 2 _ (by decide) rfl)
    have q3 := (hx.below.cell (p := ⟨gb, 3, none⟩) HGB.out).trans (HEC.out 3 _ (by decide) rfl)
    have q4 := (hx.below.cell (p := ⟨gb, 4, none⟩) HGB.out).trans (HEC.out 4 _ (by decide) rfl)
    have HCW := Lib.hid (HCX3.out _ HXB.below)
    have HVO := Lib.hid (HIO.out.view.below hx.below)
    have HVM := Lib.hid (HIM.out.view.below hx.below)
    have HK2 := Lib.hid hK
    have HX := Lib.hid hx
    have H2 := Lib.hid h2
    clear hK h1 h2 hx
    go_simp
    first
      | (go_at_call 39; (with_reducible refine (FE.out _ _ _ _ _ _ _ _ _ HVO.out HVM.out).mono ?_); rintro e w' ⟨rfl, hb⟩; exact HK2.out _ (HX.out.next _ (by rfl) hb))
      | (go_at_call 39; obtain ⟨pv, fv, lv, ev, e, hI⟩ := HX.out.row (40, pdIm i2) (by simp) (H2.out 40 (by kernel_rfl)); simp only at e; rw [e] at HK2 ⊢; refine (FE.out _ _ _ _ _ _ _ _ _ hI.view HVM.out).mono ?_; rintro e w' ⟨rfl, hb⟩; exact HK2.out _ (HX.out.next _ (by rfl) hb))
      | exact HK2.out _ (HX.out.next _ (by rfl) (Below.refl _ _))
  try simp only [Act.put, List.setIfInBounds_toArray, List.set_cons_succ, List.set_cons_zero]
  apply GhostV.walk_const (fun γ => by rfl)
  · intro γ L wx h1 h2 hx K hK
    have HXB := HB9.out.next hx.below
    obtain ⟨k0, k1, k2, k3, k4, k5, k6, k7⟩ := boxRow HXB.r2
    have m0 := cell_of_row wx _ 0 _ _ (0, 0) HXB.r0
    have m1 := cell_of_row wx _ 1 _ _ (0, 0) HXB.r0
    have m2 := cell_of_row wx _ 2 _ _ (0, 0) HXB.r0
    have n0 := cell_of_row wx _ 0 _ _ (0, 0) HXB.r1
    have n1 := cell_of_row wx _ 1 _ _ (0, 0) HXB.r1
    have n2 := cell_of_row wx _ 2 _ _ (0, 0) HXB.r1
    have n3 := cell_of_row wx _ 3 _ _ (0, 0) HXB.r1
    have o0 := cell_of_row wx _ 0 _ _ (0, 0) HXB.r3
    have o1 := cell_of_row wx _ 1 _ _ (0, 0) HXB.r3
    have o2 := cell_of_row wx _ 2 _ _ (0, 0) HXB.r3
    have o3 := cell_of_row wx _ 3 _ _ (0, 0) HXB.r3
    simp only [List.getElem?_toArray, List.getElem?_cons_zero, List.getElem?_cons_succ] at m0 m1 m2 n0 n1 n2 n3 o0 o1 o2 o3
    have q0 := (hx.below.cell (p := ⟨gb, 0, none⟩) HGB.out).trans (HEC.out 0 _ (by decide) rfl)
    have q1 := (hx.below.cell (p := ⟨gb, 1, none⟩) HGB.out).trans (HEC.out 1 _ (by decide) rfl)
    have q2 := (hx.below.cell (p := ⟨gb, 2, none⟩) HGB.out).trans (HEC.out 2 _ (by decide) rfl)
    have q3 := (hx.below.cell (p := ⟨gb, 3, none⟩) HGB.out).trans (HEC.out 3 _ (by decide) rfl)
    have q4 := (hx.below.cell (p := ⟨gb, 4, none⟩) HGB.out).trans (HEC.out 4 _ (by decide) rfl)
    have HCW := Lib.hid (HCX3.out _ HXB.below)
    have HVO := Lib.hid (HIO.out.view.below hx.below)
    have HVM := Lib.hid (HIM.out.view.below hx.below)
    have HK2 := Lib.hid hK
    have HX := Lib.hid hx
    have H2 := Lib.hid h2
    clear hK h1 h2 hx
    go_simp
    first
      | (go_at_call 39; (with_reducible refine (FE.out _ _ _ _ _ _ _ _ _ HVO.out HVM.out).mono ?_); rintro e w' ⟨rfl, hb⟩; exact HK2.out _ (HX.out.next _ (by rfl) hb))
      | (go_at_call 39; obtain ⟨pv, fv, lv, ev, e, hI⟩ := HX.out.row (40, pdIm i2) (by simp) (H2.out 40 (by kernel_rfl)); simp only at e; rw [e] at HK2 ⊢; refine (FE.out _ _ _ _ _ _ _ _ _ hI.view HVM.out).mono ?_; rintro e w' ⟨rfl, hb⟩; exact HK2.out _ (HX.out.next _ (by rfl) hb))
      | exact HK2.out _ (HX.out.next _ (by rfl) (Below.refl _ _))
  try simp only [Act.put, List.setIfInBounds_toArray, List.set_cons_zero]
  refine GhostV.walk_nil (fun γ L w10 hall hG => ?_)
  have hfin := HB1.out.trans ((HB9.out.below.trans (hG.below.mono HB9.out.below.size)).mono HB1.out.size)
  go_wp2_with fail
  go_ret
  exact ⟨rfl, hfin⟩
end
end Go.Proofs.Ytifbkoaggjikpaa
