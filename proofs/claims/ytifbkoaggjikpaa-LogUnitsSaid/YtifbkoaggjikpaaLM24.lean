/- What the texts behind this one rest on: one text. No statement of the seat is proved here. -/
import Derived.Test.YtifbkoaggjikpaaLM23
namespace Go.Proofs.Ytifbkoaggjikpaa
section
open Go.RowKit Lg Img

theorem grown_drew {a b : World} {row : Option Nat} (h : a.grownBy b row) : a.grownBy b.drew row := ⟨h.os, h.tape, h.output, h.size, h.block⟩
theorem insert_any (base : Nat) (l : List En) (x : En) (v : Value) (i h : Nat) (w : World) (hl : l.length ≤ 1000000) (hi : i ≤ l.length) (ho : w.ownsRow base 71 5 v l.length (flatE l)) (hh : w.heap[h]? = some (.cells x.row 71 (0, 0))) (hne : v.ownBlock ≠ some h) (hbase : base ≤ w.heap.size) :
    Calls Try.prog 93 #[v, .int .i64 i, .slice (some ⟨h, 0, none⟩) 1 1] w fun e w' => ∃ v', e = .returned v' ∧ w'.ownsRow base 71 5 v' (l.take i ++ x :: l.drop i).length (flatE (l.take i ++ x :: l.drop i)) ∧ w.grownBy w' v.ownBlock := by
  have hlen : (l.take i ++ x :: l.drop i).length = l.length + 1 := by simp; omega
  have hFl := flatE_length l
  rw [hlen, flatE_ins]
  rcases Nat.lt_or_ge i l.length with hlt | hge
  · rcases ho.2 with ⟨-, h0⟩ | ⟨g, c, cur, rfl, hb, hg, hnc, hm, hcs, hF⟩
    · omega
    · rcases Nat.lt_or_ge c (l.length + 1) with hr | hr
      · refine (insGrow_any (flatE l) x g l.length i c h cur w hl hlt hnc hr hg hF hFl (flatE_one l) hh).mono ?_
        rintro e w' ⟨v', rfl, h1, h2⟩
        exact ⟨v', rfl, own_base h1 hbase, h2⟩
      · exact insShift_any base (flatE l) x g l.length i c h cur w hl hlt hr hm hb hg hcs hF hFl (flatE_one l) hh (fun e => hne (by rw [e]; rfl))
  · obtain rfl : i = l.length := by omega
    rw [List.take_of_length_le (by omega), List.drop_eq_nil_of_le (by omega), List.append_nil]
    exact insEnd_any base (flatE l) x v l.length h w hl ho hh hbase
/-- What a record does to entries in order, by the place of its call. -/
theorem applyE_pos {l : List En} (hs : Srt l) (r : Rc) : applyE l r = if fndB l r.floor r.dir = true then (if r.kind = 2 then l.take (pos l r.floor r.dir) ++ l.drop (pos l r.floor r.dir + 1) else if r.kind = 3 then l.modify (pos l r.floor r.dir) (fun e => { e with car := r.car }) else if r.kind = 7 then l.modify (pos l r.floor r.dir) (fun e => { e with mv := r.value, md := decide (r.car = 1) }) else l)
    else if r.kind = 1 then l.take (pos l r.floor r.dir) ++ ⟨r.floor, r.dir, -1, 0, false⟩ :: l.drop (pos l r.floor r.dir) else l := by
  unfold applyE
  cases hf : fndB l r.floor r.dir
  · have ha := at_of_not hs hf
    rw [ha]
    simp only [Bool.false_eq_true, if_false]
    split
    · exact ins_pos (e := ⟨r.floor, r.dir, -1, 0, false⟩) (Img.at_none ha)
    · rfl
  · rw [at_of_fnd hs hf]
    simp only [if_true]
    rw [List.eraseIdx_eq_take_drop_succ]
theorem fnd_lt {l : List En} {f d : Int} (h : fndB l f d = true) : pos l f d < l.length := (fnd_iff.1 h).1

set_option maxRecDepth 100000 in
set_option maxHeartbeats 8000000 in
theorem changed_any (base : Nat) (l : List En) (r : Rc) (v : Value) (w : World) (hs : Srt l) (hl : l.length ≤ 1000000) (ho : w.ownsRow base 71 5 v l.length (flatE l)) (hbase : base ≤ w.heap.size) :
    Calls Try.prog 66 #[v, r.agg] w fun e w' => ∃ v', e = .returned v' ∧ w'.ownsRow base 71 5 v' (applyE l r).length (flatE (applyE l r)) ∧ w.grownBy w' v.ownBlock := by
  have hAE := applyE_pos hs r
  have FB := Lib.hid (fun wx (h : Below w.heap.size w wx) => bsf_any l v ⟨r.floor, r.dir, -1, 0, false⟩ wx hs hl ((EV.of_own ho).2.below h))
  simp only at FB
  have HPL := Lib.hid (fun h => fnd_lt (l := l) (f := r.floor) (d := r.dir) h)
  have hPle := pos_le l r.floor r.dir
  have hvlt := ho.lt
  have FI := Lib.hid (fun wx (h : Below w.heap.size w wx) hh (e : wx.heap[hh]? = some (.cells (En.row ⟨r.floor, r.dir, -1, 0, false⟩) 71 (0, 0))) (hne : w.heap.size ≤ hh) => insert_any base l ⟨r.floor, r.dir, -1, 0, false⟩ v (pos l r.floor r.dir) hh wx hl hPle (own_of_blocks ho fun j _ hj => h.block j hj) e (fun e => by have := (hvlt hh e).2; omega) (Nat.le_trans hbase h.size))
  have FD := Lib.hid (fun wx (h : Below w.heap.size w wx) (hp : pos l r.floor r.dir < l.length) => delete_any base (flatE l) v l.length (pos l r.floor r.dir) wx hl hp (own_of_blocks ho fun j _ hj => h.block j hj) (flatE_one l))
  have HOW := Lib.hid (fun wx (h : Below w.heap.size w wx) => own_of_blocks ho fun j _ hj => h.block j hj)
  have hgd := fun (h : pos l r.floor r.dir < l.length) => (show ∃ g c, v = .slice (some ⟨g, 0, none⟩) l.length c ∧ g < w.heap.size from by
    obtain ⟨g, c, h1, h2, h3⟩ := ho.form (by omega)
    exact ⟨g, c, h1, h3⟩)
  have HGD := Lib.hid hgd
  obtain ⟨vA, vc, hv⟩ := own_slice ho
  clear hgd ho hs hvlt
  generalize fndB l r.floor r.dir = fd at *
  generalize hP : pos l r.floor r.dir = P at *
  obtain ⟨k, f, d, ca, va⟩ := r
  simp only [Rc.agg] at *
  clear hP
  cases fd
  case false =>
    simp only [Bool.false_eq_true, if_false] at hAE
    by_cases hk1 : k = 1
    case pos =>
      obtain rfl := hk1
      have hX : applyE l ⟨1, f, d, ca, va⟩ = l.take P ++ ⟨f, d, -1, 0, false⟩ :: l.drop P := by rw [hAE]; simp
      rw [hX]
      clear hX hAE
      rw [hv] at FB FI FD HOW ⊢
      go_enter Try.func66, Try.ntmps66
      go_wp2_with fail
      refine (FB.out _ (by go_grown)).mono ?_
      rintro e w1 ⟨rfl, hb⟩
      obtain ⟨hr1, hr2⟩ := boxes2 hb
      obtain ⟨z0, z1, z2, z3, z4⟩ := recRow hr1
      obtain ⟨y0, y1, y2, y3, y4⟩ := enRowCells hr2
      have HB := Lib.hid (below2 (hb.mono (by simp)))
      clear hb hr1 hr2
      have hz := HB.out.size
      go_wp2_with fail
      refine (FI.out _ (HB.out.alloc hz _) w1.heap.size (heap_alloc_new w1 _) hz).mono ?_
      rintro e w2 ⟨v', rfl, h1, h2⟩
      have HF := Lib.hid (And.intro h1 (grown_trans (grown_below (HB.out.alloc hz _) _) h2))
      clear h1 h2
      go_wp2_with fail
      go_ret
      exact ⟨_, rfl, HF.out.1, HF.out.2⟩
    by_cases hk2 : k = 2
    case pos =>
      obtain rfl := hk2
      have hX : applyE l ⟨2, f, d, ca, va⟩ = l := by rw [hAE]; simp
      rw [hX]
      clear hX hAE
      rw [hv] at FB FI FD HOW ⊢
      go_enter Try.func66, Try.ntmps66
      go_wp2_with fail
      refine (FB.out _ (by go_grown)).mono ?_
      rintro e w1 ⟨rfl, hb⟩
      obtain ⟨hr1, hr2⟩ := boxes2 hb
      obtain ⟨z0, z1, z2, z3, z4⟩ := recRow hr1
      obtain ⟨y0, y1, y2, y3, y4⟩ := enRowCells hr2
      have HB := Lib.hid (below2 (hb.mono (by simp)))
      clear hb hr1 hr2
      have HW := Lib.hid (HOW.out w1 HB.out)
      go_wp2_with fail
      go_ret
      exact ⟨_, rfl, HW.out, grown_below HB.out _⟩
    by_cases hk3 : k = 3
    case pos =>
      obtain rfl := hk3
      have hX : applyE l ⟨3, f, d, ca, va⟩ = l := by rw [hAE]; simp
      rw [hX]
      clear hX hAE
      rw [hv] at FB FI FD HOW ⊢
      go_enter Try.func66, Try.ntmps66
      go_wp2_with fail
      refine (FB.out _ (by go_grown)).mono ?_
      rintro e w1 ⟨rfl, hb⟩
      obtain ⟨hr1, hr2⟩ := boxes2 hb
      obtain ⟨z0, z1, z2, z3, z4⟩ := recRow hr1
      obtain ⟨y0, y1, y2, y3, y4⟩ := enRowCells hr2
      have HB := Lib.hid (below2 (hb.mono (by simp)))
      clear hb hr1 hr2
      have HW := Lib.hid (HOW.out w1 HB.out)
      go_wp2_with fail
      go_ret
      exact ⟨_, rfl, HW.out, grown_below HB.out _⟩
    by_cases hk7 : k = 7
    case pos =>
      obtain rfl := hk7
      have hX : applyE l ⟨7, f, d, ca, va⟩ = l := by rw [hAE]; simp
      rw [hX]
      clear hX hAE
      rw [hv] at FB FI FD HOW ⊢
      go_enter Try.func66, Try.ntmps66
      go_wp2_with fail
      refine (FB.out _ (by go_grown)).mono ?_
      rintro e w1 ⟨rfl, hb⟩
      obtain ⟨hr1, hr2⟩ := boxes2 hb
      obtain ⟨z0, z1, z2, z3, z4⟩ := recRow hr1
      obtain ⟨y0, y1, y2, y3, y4⟩ := enRowCells hr2
      have HB := Lib.hid (below2 (hb.mono (by simp)))
      clear hb hr1 hr2
      have HW := Lib.hid (HOW.out w1 HB.out)
      go_wp2_with fail
      go_ret
      exact ⟨_, rfl, HW.out, grown_below HB.out _⟩
    have hX : applyE l ⟨k, f, d, ca, va⟩ = l := by rw [hAE]; simp [*]
    rw [hX]
    clear hX hAE
    rw [hv] at FB FI FD HOW ⊢
    have b1 : (k == 1) = false := by simp [hk1]
    have b2 : (k == 2) = false := by simp [hk2]
    have b3 : (k == 3) = false := by simp [hk3]
    have b7 : (k == 7) = false := by simp [hk7]
    clear hk1 hk2 hk3 hk7
    go_enter Try.func66, Try.ntmps66
    go_wp2_with fail
    refine (FB.out _ (by go_grown)).mono ?_
    rintro e w1 ⟨rfl, hb⟩
    obtain ⟨hr1, hr2⟩ := boxes2 hb
    obtain ⟨z0, z1, z2, z3, z4⟩ := recRow hr1
    obtain ⟨y0, y1, y2, y3, y4⟩ := enRowCells hr2
    have HB := Lib.hid (below2 (hb.mono (by simp)))
    clear hb hr1 hr2
    have HW := Lib.hid (HOW.out w1 HB.out)
    go_wp2_with fail
    go_ret
    exact ⟨_, rfl, HW.out, grown_below HB.out _⟩
  case true =>
    simp only [if_true] at hAE
    by_cases hk1 : k = 1
    case pos =>
      obtain rfl := hk1
      have hX : applyE l ⟨1, f, d, ca, va⟩ = l := by rw [hAE]; simp
      rw [hX]
      clear hX hAE
      rw [hv] at FB FI FD HOW ⊢
      go_enter Try.func66, Try.ntmps66
      go_wp2_with fail
      refine (FB.out _ (by go_grown)).mono ?_
      rintro e w1 ⟨rfl, hb⟩
      obtain ⟨hr1, hr2⟩ := boxes2 hb
      obtain ⟨z0, z1, z2, z3, z4⟩ := recRow hr1
      obtain ⟨y0, y1, y2, y3, y4⟩ := enRowCells hr2
      have HB := Lib.hid (below2 (hb.mono (by simp)))
      clear hb hr1 hr2
      have HW := Lib.hid (HOW.out w1 HB.out)
      go_wp2_with fail
      go_ret
      exact ⟨_, rfl, HW.out, grown_below HB.out _⟩
    by_cases hk2 : k = 2
    case pos =>
      obtain rfl := hk2
      have hX : applyE l ⟨2, f, d, ca, va⟩ = l.take P ++ l.drop (P + 1) := by rw [hAE]; simp
      rw [hX]
      clear hX hAE
      rw [hv] at FB FI FD HOW ⊢
      go_enter Try.func66, Try.ntmps66
      go_wp2_with fail
      refine (FB.out _ (by go_grown)).mono ?_
      rintro e w1 ⟨rfl, hb⟩
      obtain ⟨hr1, hr2⟩ := boxes2 hb
      obtain ⟨z0, z1, z2, z3, z4⟩ := recRow hr1
      obtain ⟨y0, y1, y2, y3, y4⟩ := enRowCells hr2
      have HB := Lib.hid (below2 (hb.mono (by simp)))
      clear hb hr1 hr2
      have hPl := HPL.out (by simp)
      have hw1 : IntKind.i64.wrap ((P : Int) + 1) = (P : Int) + 1 := IntWalk.i64_in _ (by omega)
      go_wp2_with fail
      refine (FD.out _ HB.out hPl).mono ?_
      rintro e w2 ⟨v', rfl, h1, h2⟩
      rw [show (flatE l).take (P * 5) ++ (flatE l).drop ((P + 1) * 5) = flatE (l.take P ++ l.drop (P + 1)) by rw [flatE_append, flatE_take, flatE_drop], show l.length - 1 = (l.take P ++ l.drop (P + 1)).length by rw [List.length_append, List.length_take, List.length_drop]; omega] at h1
      have HF := Lib.hid (And.intro h1 (grown_trans (grown_below HB.out _) h2))
      clear h1 h2
      go_wp2_with fail
      go_ret
      exact ⟨_, rfl, HF.out.1, HF.out.2⟩
    by_cases hk3 : k = 3
    case pos =>
      obtain rfl := hk3
      have hX : applyE l ⟨3, f, d, ca, va⟩ = l.modify P (fun e => { e with car := ca }) := by rw [hAE]; simp
      rw [hX]
      rw [List.length_modify]
      clear hX hAE
      have hPl := HPL.out (by simp)
      obtain ⟨g, c, hv2, hgl⟩ := HGD.out hPl
      clear hv
      rw [hv2] at FB FI FD HOW ⊢
      go_enter Try.func66, Try.ntmps66
      go_wp2_with fail
      refine (FB.out _ (by go_grown)).mono ?_
      rintro e w1 ⟨rfl, hb⟩
      obtain ⟨hr1, hr2⟩ := boxes2 hb
      obtain ⟨z0, z1, z2, z3, z4⟩ := recRow hr1
      obtain ⟨y0, y1, y2, y3, y4⟩ := enRowCells hr2
      have HB := Lib.hid (below2 (hb.mono (by simp)))
      clear hb hr1 hr2
      have ho1 := HOW.out w1 HB.out
      have hc := ho1.cellAt (P * 5 + 2) (by omega)
      rw [flatE_get l P hPl 2 (by omega)] at hc
      have hc2 : w1.cell? ⟨g, P * 5 + 2, none⟩ = some (.int .i64 (l[P]).car) := hc
      have hf2 := ho1.frozenAt (P * 5 + 2)
      have hst := ho1.stored (P * 5 + 2) (.int .i64 ca)
      rw [flatE_set l P 2 hPl (by omega) (.int .i64 ca) (fun e => { e with car := ca }) rfl] at hst
      have HST := Lib.hid hst
      clear hc ho1 hst
      go_wp2_with fail
      go_ret
      exact ⟨_, rfl, HST.out.1, grown_trans (grown_below HB.out _) HST.out.2⟩
    by_cases hk7 : k = 7
    case pos =>
      obtain rfl := hk7
      have hX : applyE l ⟨7, f, d, ca, va⟩ = l.modify P (fun e => { e with mv := va, md := decide (ca = 1) }) := by rw [hAE]; simp
      rw [hX]
      rw [List.length_modify]
      clear hX hAE
      have hPl := HPL.out (by simp)
      obtain ⟨g, c, hv2, hgl⟩ := HGD.out hPl
      clear hv
      rw [hv2] at FB FI FD HOW ⊢
      go_enter Try.func66, Try.ntmps66
      go_wp2_with fail
      refine (FB.out _ (by go_grown)).mono ?_
      rintro e w1 ⟨rfl, hb⟩
      obtain ⟨hr1, hr2⟩ := boxes2 hb
      obtain ⟨z0, z1, z2, z3, z4⟩ := recRow hr1
      obtain ⟨y0, y1, y2, y3, y4⟩ := enRowCells hr2
      have HB := Lib.hid (below2 (hb.mono (by simp)))
      clear hb hr1 hr2
      have ho1 := HOW.out w1 HB.out
      have hc := ho1.cellAt (P * 5 + 3) (by omega)
      rw [flatE_get l P hPl 3 (by omega)] at hc
      have hc3 : w1.cell? ⟨g, P * 5 + 3, none⟩ = some (.int .i64 (l[P]).mv) := hc
      have hd := ho1.cellAt (P * 5 + 4) (by omega)
      rw [flatE_get l P hPl 4 (by omega)] at hd
      have hc4 : w1.cell? ⟨g, P * 5 + 4, none⟩ = some (.bool (l[P]).md) := hd
      have hf3 := ho1.frozenAt (P * 5 + 3)
      have hf4 := ho1.frozenAt (P * 5 + 4)
      have hst := ho1.stored (P * 5 + 3) (.int .i64 va)
      have hst2 := hst.1.stored (P * 5 + 4) (.bool (ca == 1))
      have hst' := ho1.stored (P * 5 + 4) (.bool (ca == 1))
      have hst2' := hst'.1.stored (P * 5 + 3) (.int .i64 va)
      have e1 : ((flatE l).set (P * 5 + 3) (.int .i64 va)).set (P * 5 + 4) (.bool (ca == 1)) = flatE (l.modify P (fun e => { e with mv := va, md := decide (ca = 1) })) := by
        rw [flatE_set l P 3 hPl (by omega) (.int .i64 va) (fun e => { e with mv := va }) rfl, flatE_set _ P 4 (by rw [List.length_modify]; exact hPl) (by omega) (.bool (ca == 1)) (fun e => { e with md := decide (ca = 1) }) (by rw [List.getElem_modify_eq]; rfl), List.modify_modify_eq]
        rfl
      have e2 : ((flatE l).set (P * 5 + 4) (.bool (ca == 1))).set (P * 5 + 3) (.int .i64 va) = flatE (l.modify P (fun e => { e with mv := va, md := decide (ca = 1) })) := by
        rw [List.set_comm _ _ (by omega)]; exact e1
      rw [e1] at hst2
      rw [e2] at hst2'
      have HST := Lib.hid (And.intro hst2.1 (grown_trans (grown_below HB.out (some g)) (grown_trans hst.2 hst2.2)))
      have HST' := Lib.hid (And.intro hst2'.1 (grown_trans (grown_below HB.out (some g)) (grown_trans hst'.2 hst2'.2)))
      clear hc hd ho1 hst hst2 hst' hst2' e1 e2
      go_wp2_with fail
      go_region
      go_wp2_with fail
      go_ret
      exact ⟨_, rfl, HST.out.1, grown_drew HST.out.2⟩
    have hX : applyE l ⟨k, f, d, ca, va⟩ = l := by rw [hAE]; simp [*]
    rw [hX]
    clear hX hAE
    rw [hv] at FB FI FD HOW ⊢
    have b1 : (k == 1) = false := by simp [hk1]
    have b2 : (k == 2) = false := by simp [hk2]
    have b3 : (k == 3) = false := by simp [hk3]
    have b7 : (k == 7) = false := by simp [hk7]
    clear hk1 hk2 hk3 hk7
    go_enter Try.func66, Try.ntmps66
    go_wp2_with fail
    refine (FB.out _ (by go_grown)).mono ?_
    rintro e w1 ⟨rfl, hb⟩
    obtain ⟨hr1, hr2⟩ := boxes2 hb
    obtain ⟨z0, z1, z2, z3, z4⟩ := recRow hr1
    obtain ⟨y0, y1, y2, y3, y4⟩ := enRowCells hr2
    have HB := Lib.hid (below2 (hb.mono (by simp)))
    clear hb hr1 hr2
    have HW := Lib.hid (HOW.out w1 HB.out)
    go_wp2_with fail
    go_ret
    exact ⟨_, rfl, HW.out, grown_below HB.out _⟩
end
end Go.Proofs.Ytifbkoaggjikpaa
