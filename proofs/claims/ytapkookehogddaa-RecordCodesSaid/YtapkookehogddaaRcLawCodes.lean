/- The law RecordCodes: which records are valid, their bytes, and what bytes stand for. No condition. -/
import Derived.Test.YtapkookehogddaaRcOpen
namespace Go.Proofs.Ytapkookehogddaa
open Go.RowKit Ghost Go.ChangeShapes Go.WideShapes Go.ChangeAt Go.Deep

theorem lst3 {a b c : ByteArray} {m : Nat} (ha : a.size ≤ m) (hb : b.size ≤ m) (hc : c.size ≤ m) : ∀ i (h : i < 3), ([a, b, c][i]'(by simpa using h)).size ≤ m
  | 0, _ => ha
  | 1, _ => hb
  | 2, _ => hc

set_option maxRecDepth 100000 in
set_option maxHeartbeats 8000000 in
theorem lawCodes_nat (n : Nat) (x : Rc) (raw : ByteArray) (w : World) (hn : n < 256) (ht : raw.size ≤ maxLen) :
    Calls Try.prog 3 #[.int .u8 n, x.agg, .string raw] w fun e w' => e = .returned (.bool true) ∧ Below w.heap.size w w' := by
  unfold maxLen at ht
  obtain ⟨y0, y1, y2, y3, y4⟩ := x
  simp only [Rc.agg]
  by_cases hl : 100 < raw.size
  · have hd : decide ((100 : Int) < (raw.size : Int)) = true := by simp; omega
    have hd' : decide ((raw.size : Int) > 100) = true := hd
    go_enter Try.func3, Try.ntmps3
    go_wp2_with fail
    refine (sane9_any _).mono ?_
    rintro e w1 ⟨rfl, hb⟩
    have HB := Lib.hid (below_of_new (hb.mono (by simp)))
    clear hb
    go_wp2_with fail
    go_ret
    exact ⟨rfl, HB.out⟩
  have hd : decide ((100 : Int) < (raw.size : Int)) = false := by simp; omega
  have hd' : decide ((raw.size : Int) > 100) = false := hd
  have hlen : (bldN n).cars.length ≤ 8 := by rw [bldN_len]; omega
  have HBD := Lib.hid (fun wx => bldN_any n wx hn)
  generalize bldN n = b at *
  have FE := Lib.hid (fun A cap q wx (hc : CarsAt wx wx.heap.size A b.cars) => encode_any b A cap q wx (by omega) hc)
  have GE := Lib.hid (fun A cap q wx (hc : CarsAt wx wx.heap.size A b.cars) => refEncode_any b A cap q wx (by omega) hc)
  have FV := Lib.hid (fun A cap q wx (hc : CarsAt wx wx.heap.size A b.cars) => valid9_any b A cap q wx (by omega) hc)
  have GV := Lib.hid (fun A cap q wx (hc : CarsAt wx wx.heap.size A b.cars) => refValid9_any b A cap q wx (by omega) hc)
  have FD := Lib.hid (fun A cap s wx (hs : s.size ≤ 1000) (hc : CarsAt wx wx.heap.size A b.cars) => decode_any b A cap s wx (by omega) hc (by unfold maxLen; omega))
  have GD := Lib.hid (fun A cap s wx (hs : s.size ≤ 1000) (hc : CarsAt wx wx.heap.size A b.cars) => refDecode_any b A cap s wx (by omega) hc (by unfold maxLen; omega))
  clear hlen
  obtain ⟨f, d, r, p, e1, e2, e3, cs⟩ := b
  simp only [BldD.agg, Rc.agg] at *
  generalize (BldD.mk f d r p e1 e2 e3 cs) = b at *
  go_enter Try.func3, Try.ntmps3
  go_wp2_with fail
  refine (HBD.out _).mono ?_
  rintro e w1 ⟨hb1, A, cap, rfl, hcars⟩
  have HC := Lib.hid hcars
  have HB0 := Lib.hid (hb1.mono (by simp) : Below (w.heap.size + 1) (w.alloc (.cells #[.int .i64 y0, .int .i64 y1, .int .i64 y2, .int .i64 y3, .int .i64 y4] 23)) w1)
  have hsz1 := box_size HB0.out
  clear hcars hb1
  have HBOX := Lib.hid (fun wx (h : Below (w1.heap.size + 1) (w1.alloc (.cells #[.int .i64 f, .int .i64 d, .int .i64 r, .int .i64 p, .float .f64 e1, .float .f64 e2, .float .f64 e3, .slice A cs.length cap] 28)) wx) => boxRow ((h.block w1.heap.size (by simp)).trans (heap_alloc_new w1 _)))
  have HRBX := Lib.hid (fun wx (h : Below (w1.heap.size + 1) (w1.alloc (.cells #[.int .i64 f, .int .i64 d, .int .i64 r, .int .i64 p, .float .f64 e1, .float .f64 e2, .float .f64 e3, .slice A cs.length cap] 28)) wx) => recRow (((below_of_new h).block w.heap.size (by omega)).trans ((HB0.out.block w.heap.size (by omega)).trans (heap_alloc_new w _))))
  have HCX := Lib.hid (fun wx (h : Below (w1.heap.size + 1) (w1.alloc (.cells #[.int .i64 f, .int .i64 d, .int .i64 r, .int .i64 p, .float .f64 e1, .float .f64 e2, .float .f64 e3, .slice A cs.length cap] 28)) wx) => show CarsAt wx wx.heap.size A cs from (HC.out.below (below_of_new h)).more (by have := h.size; simp at this; omega))
  have hst : Below (w1.heap.size + 1) (w1.alloc (.cells #[.int .i64 f, .int .i64 d, .int .i64 r, .int .i64 p, .float .f64 e1, .float .f64 e2, .float .f64 e3, .slice A cs.length cap] 28)) (w1.alloc (.cells #[.int .i64 f, .int .i64 d, .int .i64 r, .int .i64 p, .float .f64 e1, .float .f64 e2, .float .f64 e3, .slice A cs.length cap] 28)) := Below.refl _ _
  have HST := Lib.hid hst
  have HEND := Lib.hid (fun wx (h : Below (w1.heap.size + 1) (w1.alloc (.cells #[.int .i64 f, .int .i64 d, .int .i64 r, .int .i64 p, .float .f64 e1, .float .f64 e2, .float .f64 e3, .slice A cs.length cap] 28)) wx) => below_of_new (HB0.out.trans ((below_of_new h).mono hsz1)))
  clear hst
  go_wp2_with fail
  go_loopw [8] (fun v wr => ∃ k : Nat, k ≤ 9 ∧ v = .int .i64 k ∧ Below (w1.heap.size + 1) (w1.alloc (.cells #[.int .i64 f, .int .i64 d, .int .i64 r, .int .i64 p, .float .f64 e1, .float .f64 e2, .float .f64 e3, .slice A cs.length cap] 28)) wr) (fun v _ => 9 - (intOf v).toNat)
  case atStart => exact ⟨0, by omega, rfl, HST.out⟩
  case round =>
    obtain ⟨k, hk, rfl, hbw⟩ := hrel
    have HX3 := Lib.hid hbw
    have hsz3 := box_size hbw
    clear hbw
    by_cases hlt : k < 9
    · obtain rfl | hk0 := Nat.eq_zero_or_pos k
      · have FE1 := Lib.hid (fun wx (h : Below (w1.heap.size + 1) (w1.alloc (.cells #[.int .i64 f, .int .i64 d, .int .i64 r, .int .i64 p, .float .f64 e1, .float .f64 e2, .float .f64 e3, .slice A cs.length cap] 28)) wx) => FE.out A cap ⟨y0, y1, y2, y3, y4⟩ wx (HCX.out wx h))
        have GE1 := Lib.hid (fun wx (h : Below (w1.heap.size + 1) (w1.alloc (.cells #[.int .i64 f, .int .i64 d, .int .i64 r, .int .i64 p, .float .f64 e1, .float .f64 e2, .float .f64 e3, .slice A cs.length cap] 28)) wx) => GE.out A cap ⟨y0, y1, y2, y3, y4⟩ wx (HCX.out wx h))
        have FV1 := Lib.hid (fun wx (h : Below (w1.heap.size + 1) (w1.alloc (.cells #[.int .i64 f, .int .i64 d, .int .i64 r, .int .i64 p, .float .f64 e1, .float .f64 e2, .float .f64 e3, .slice A cs.length cap] 28)) wx) => FV.out A cap ⟨y0, y1, y2, y3, y4⟩ wx (HCX.out wx h))
        have GV1 := Lib.hid (fun wx (h : Below (w1.heap.size + 1) (w1.alloc (.cells #[.int .i64 f, .int .i64 d, .int .i64 r, .int .i64 p, .float .f64 e1, .float .f64 e2, .float .f64 e3, .slice A cs.length cap] 28)) wx) => GV.out A cap ⟨y0, y1, y2, y3, y4⟩ wx (HCX.out wx h))
        generalize Rc.encS b ⟨y0, y1, y2, y3, y4⟩ = S at *
        generalize Rc.encE b ⟨y0, y1, y2, y3, y4⟩ = E at *
        generalize Rc.okB b ⟨y0, y1, y2, y3, y4⟩ = OKB at *
        have hss : (S.toList == S.toList) = true := beq_self_eq_true _
        have hee : (E != E) = false := by simp
        have hee2 : (E == E) = true := by simp
        have hoo : (OKB != OKB) = false := by simp
        obtain ⟨k0, k1, k2, k3, k4⟩ := HRBX.out _ HX3.out
        have hg1 : w1.heap.size < wr.heap.size := by omega
        have hne1 : ¬ w1.heap.size = wr.heap.size := by omega
        have hg0 : w.heap.size < wr.heap.size := by omega
        obtain ⟨c0, c1, c2, c3, c4, c5, c6, c7⟩ := HBOX.out _ HX3.out
        go_wp2_with fail
        have hL : Lit wr.heap.size wr wr.heap.size (.cells #[.int .i64 y0, .int .i64 y1, .int .i64 y2, .int .i64 y3, .int .i64 y4] 23 (0, 0)) (wr.alloc (.cells #[.int .i64 y0, .int .i64 y1, .int .i64 y2, .int .i64 y3, .int .i64 y4] 23)) := ⟨(Below.refl _ _).alloc (Nat.le_refl _) _, by simp, heap_alloc_new wr _⟩
        generalize wr.alloc (.cells #[.int .i64 y0, .int .i64 y1, .int .i64 y2, .int .i64 y3, .int .i64 y4] 23) = w3 at *
        have HL := Lib.hid hL
        have HX4 := Lib.hid (HX3.out.trans (hL.below.mono hsz3))
        clear hL k0 k1 k2 k3 k4 c0 c1 c2 c3 c4 c5 c6 c7
        refine (FE1.out _ HX4.out).mono ?_
        rintro e w4 ⟨rfl, hb4⟩
        have hL4 := HL.out.next hb4
        have hx4 := HX4.out.trans (hb4.mono (box_size HX4.out))
        obtain ⟨c0, c1, c2, c3, c4, c5, c6, c7⟩ := HBOX.out _ hx4
        obtain ⟨k0, k1, k2, k3, k4⟩ := recRow hL4.row
        have HL4 := Lib.hid hL4
        have HX5 := Lib.hid hx4
        clear hL4 hx4 hb4
        go_wp2_with fail
        refine (GE1.out _ HX5.out).mono ?_
        rintro e w5 ⟨rfl, hb5⟩
        clear c0 c1 c2 c3 c4 c5 c6 c7 k0 k1 k2 k3 k4
        have HL5 := Lib.hid (HL4.out.next hb5)
        have HX6 := Lib.hid (HX5.out.trans (hb5.mono (box_size HX5.out)))
        clear hb5
        go_wp2_with fail
        refine Bag.region (fun wx => Below w5.heap.size w5 wx) (by kernel_rfl) (by kernel_rfl) (Below.refl _ _).drew ?_
        iterate 17 (first
            | (apply Bag.walk_yes (by rfl)
               (intro wx hx K hK
                have hxx := HX6.out.trans (hx.mono (box_size HX6.out))
                have hll := HL5.out.next hx
                obtain ⟨c0, c1, c2, c3, c4, c5, c6, c7⟩ := HBOX.out _ hxx
                obtain ⟨k0, k1, k2, k3, k4⟩ := recRow hll.row
                first
                  | (go_simp
                     first
                      | (go_at_call 11; refine (FV1.out _ hxx).mono ?_; rintro e x1 ⟨rfl, hb⟩; exact hK _ (hx.trans (hb.mono hx.size)))
                      | (go_at_call 12; refine (GV1.out _ hxx).mono ?_; rintro e x1 ⟨rfl, hb⟩; exact hK _ (hx.trans (hb.mono hx.size)))
                      | (go_at_K; exact hK _ hx)))
               rfl)
            | (refine Bag.walk_no (by rfl) ?_; simp only [Act.put, List.setIfInBounds_toArray, List.set_cons_succ, List.set_cons_zero]))
        refine Bag.walk_nil (fun w6 hb6 => ?_)
        have HX7 := Lib.hid (HX6.out.trans (hb6.mono (box_size HX6.out)))
        clear hb6
        go_wp2_with fail
        go_roundw
        case rel => exact ⟨1, by omega, by go_num, HX7.out⟩
        case measure => (simp [intOf] <;> omega)
      · have hgt : decide ((k : Int) > 0) = true := decide_eq_true (by omega)
        have hgt' : decide ((0 : Int) < (k : Int)) = true := decide_eq_true (by omega)
        have FE1 := Lib.hid (fun wx (h : Below (w1.heap.size + 1) (w1.alloc (.cells #[.int .i64 f, .int .i64 d, .int .i64 r, .int .i64 p, .float .f64 e1, .float .f64 e2, .float .f64 e3, .slice A cs.length cap] 28)) wx) => FE.out A cap ⟨((k : Int) - 1), y1, y2, y3, y4⟩ wx (HCX.out wx h))
        have GE1 := Lib.hid (fun wx (h : Below (w1.heap.size + 1) (w1.alloc (.cells #[.int .i64 f, .int .i64 d, .int .i64 r, .int .i64 p, .float .f64 e1, .float .f64 e2, .float .f64 e3, .slice A cs.length cap] 28)) wx) => GE.out A cap ⟨((k : Int) - 1), y1, y2, y3, y4⟩ wx (HCX.out wx h))
        have FV1 := Lib.hid (fun wx (h : Below (w1.heap.size + 1) (w1.alloc (.cells #[.int .i64 f, .int .i64 d, .int .i64 r, .int .i64 p, .float .f64 e1, .float .f64 e2, .float .f64 e3, .slice A cs.length cap] 28)) wx) => FV.out A cap ⟨((k : Int) - 1), y1, y2, y3, y4⟩ wx (HCX.out wx h))
        have GV1 := Lib.hid (fun wx (h : Below (w1.heap.size + 1) (w1.alloc (.cells #[.int .i64 f, .int .i64 d, .int .i64 r, .int .i64 p, .float .f64 e1, .float .f64 e2, .float .f64 e3, .slice A cs.length cap] 28)) wx) => GV.out A cap ⟨((k : Int) - 1), y1, y2, y3, y4⟩ wx (HCX.out wx h))
        generalize Rc.encS b ⟨((k : Int) - 1), y1, y2, y3, y4⟩ = S at *
        generalize Rc.encE b ⟨((k : Int) - 1), y1, y2, y3, y4⟩ = E at *
        generalize Rc.okB b ⟨((k : Int) - 1), y1, y2, y3, y4⟩ = OKB at *
        have hss : (S.toList == S.toList) = true := beq_self_eq_true _
        have hee : (E != E) = false := by simp
        have hee2 : (E == E) = true := by simp
        have hoo : (OKB != OKB) = false := by simp
        obtain ⟨k0, k1, k2, k3, k4⟩ := HRBX.out _ HX3.out
        have hg1 : w1.heap.size < wr.heap.size := by omega
        have hne1 : ¬ w1.heap.size = wr.heap.size := by omega
        have hg0 : w.heap.size < wr.heap.size := by omega
        obtain ⟨c0, c1, c2, c3, c4, c5, c6, c7⟩ := HBOX.out _ HX3.out
        go_wp2_with fail
        have hL : Lit wr.heap.size wr wr.heap.size (.cells #[.int .i64 ((k : Int) - 1), .int .i64 y1, .int .i64 y2, .int .i64 y3, .int .i64 y4] 23 (0, 0)) (wr.alloc (.cells #[.int .i64 ((k : Int) - 1), .int .i64 y1, .int .i64 y2, .int .i64 y3, .int .i64 y4] 23)) := ⟨(Below.refl _ _).alloc (Nat.le_refl _) _, by simp, heap_alloc_new wr _⟩
        generalize wr.alloc (.cells #[.int .i64 ((k : Int) - 1), .int .i64 y1, .int .i64 y2, .int .i64 y3, .int .i64 y4] 23) = w3 at *
        have HL := Lib.hid hL
        have HX4 := Lib.hid (HX3.out.trans (hL.below.mono hsz3))
        clear hL k0 k1 k2 k3 k4 c0 c1 c2 c3 c4 c5 c6 c7
        refine (FE1.out _ HX4.out).mono ?_
        rintro e w4 ⟨rfl, hb4⟩
        have hL4 := HL.out.next hb4
        have hx4 := HX4.out.trans (hb4.mono (box_size HX4.out))
        obtain ⟨c0, c1, c2, c3, c4, c5, c6, c7⟩ := HBOX.out _ hx4
        obtain ⟨k0, k1, k2, k3, k4⟩ := recRow hL4.row
        have HL4 := Lib.hid hL4
        have HX5 := Lib.hid hx4
        clear hL4 hx4 hb4
        go_wp2_with fail
        refine (GE1.out _ HX5.out).mono ?_
        rintro e w5 ⟨rfl, hb5⟩
        clear c0 c1 c2 c3 c4 c5 c6 c7 k0 k1 k2 k3 k4
        have HL5 := Lib.hid (HL4.out.next hb5)
        have HX6 := Lib.hid (HX5.out.trans (hb5.mono (box_size HX5.out)))
        clear hb5
        go_wp2_with fail
        refine Bag.region (fun wx => Below w5.heap.size w5 wx) (by kernel_rfl) (by kernel_rfl) (Below.refl _ _).drew ?_
        iterate 17 (first
            | (apply Bag.walk_yes (by rfl)
               (intro wx hx K hK
                have hxx := HX6.out.trans (hx.mono (box_size HX6.out))
                have hll := HL5.out.next hx
                obtain ⟨c0, c1, c2, c3, c4, c5, c6, c7⟩ := HBOX.out _ hxx
                obtain ⟨k0, k1, k2, k3, k4⟩ := recRow hll.row
                first
                  | (go_simp
                     first
                      | (go_at_call 11; refine (FV1.out _ hxx).mono ?_; rintro e x1 ⟨rfl, hb⟩; exact hK _ (hx.trans (hb.mono hx.size)))
                      | (go_at_call 12; refine (GV1.out _ hxx).mono ?_; rintro e x1 ⟨rfl, hb⟩; exact hK _ (hx.trans (hb.mono hx.size)))
                      | (go_at_K; exact hK _ hx)))
               rfl)
            | (refine Bag.walk_no (by rfl) ?_; simp only [Act.put, List.setIfInBounds_toArray, List.set_cons_succ, List.set_cons_zero]))
        refine Bag.walk_nil (fun w6 hb6 => ?_)
        have HX7 := Lib.hid (HX6.out.trans (hb6.mono (box_size HX6.out)))
        clear hb6
        go_wp2_with fail
        go_roundw
        case rel => exact ⟨k + 1, by omega, by go_num, HX7.out⟩
        case measure => (simp [intOf] <;> omega)
    · obtain rfl : k = 9 := by omega
      have hcs : raw.size ≤ 5 ∨ raw.size = 6 ∨ 6 < raw.size := by omega
      rcases hcs with hcs | hcs | hcs
      · have v0 := hcs
        have v1 : ¬ (5 : Int) < (raw.size : Int) := by omega
        have v2 : (raw.size : Int) ≤ 5 := by omega
        have v3 : ¬ (6 : Int) < (raw.size : Int) := by omega
        have v4 : (raw.size : Int) ≤ 6 := by omega
        have z5 : raw.size ≤ 5 := hcs
        have z6 : raw.size ≤ 100 := by omega
        have hall : raw.extract 0 raw.size = raw := ba_all raw
        clear v0 hcs
        go_wp2_with fail
        have FS := Lib.hid (fun w => refSum8_any raw w (by unfold maxLen; omega))
        obtain ⟨sm, hsm⟩ : ∃ z : Nat, z = sum8 (bl raw) := ⟨_, rfl⟩
        have hs256 : sm < 256 := by rw [hsm]; exact sum8_lt _
        rw [← hsm] at FS
        clear hsm
        have hsu : (UInt8.ofNat sm).toNat = sm := UInt8.toNat_ofNat_of_lt' (by simpa using hs256)
        obtain ⟨T, hT⟩ : ∃ z, z = raw ++ (⟨#[UInt8.ofNat sm]⟩ : ByteArray) := ⟨_, rfl⟩
        have hTs : T.size ≤ 6 := by rw [hT, ba_size]; show _ + 1 ≤ 6; omega
        have hT' := hT.symm
        have HT := Lib.hid hT
        have HSU := Lib.hid hsu
        have hjz : ¬ 9223372036854775807 < raw.size + 1 := by omega
        have hjz2 : ¬ 9223372036854775807 < raw.size + (⟨#[UInt8.ofNat sm]⟩ : ByteArray).size := by show ¬ _ < _ + 1; omega
        have hb1 : (⟨#[UInt8.ofNat sm]⟩ : ByteArray).size = 1 := rfl
        clear hT hsu
        refine Ghost.ghost (fun γ L wx => Ghost.Made wr 9 (.cells #[.int .u8 (sm : Int)] 5 (0, 0)) γ L wx ∧ Ghost.Made wr 12 (.cells #[.string raw, .string raw, .string T] 9 (0, 0)) γ L wx) (by kernel_rfl) (by kernel_rfl) (fun γ => ⟨⟨(Below.refl _ _).drew, fun h => absurd h Bool.false_ne_true⟩, ⟨(Below.refl _ _).drew, fun h => absurd h Bool.false_ne_true⟩⟩) ?_
        apply Ghost.walk_const (fun γ => by rfl)
        · intro γ L wx h1 h2 hx K hK
          have HK2 := Lib.hid hK
          have HX := Lib.hid hx
          clear hK h1 h2 hx
          go_simp
          exact HK2.out _ ⟨HX.out.1.next (by decide) (Below.refl _ _), HX.out.2.next (by decide) (Below.refl _ _)⟩
        try simp only [Act.put, List.setIfInBounds_toArray, List.set_cons_succ, List.set_cons_zero]
        apply Ghost.walk_const (fun γ => by rfl)
        · intro γ L wx h1 h2 hx K hK
          have HK2 := Lib.hid hK
          have HX := Lib.hid hx
          clear hK h1 h2 hx
          go_simp
          exact HK2.out _ ⟨HX.out.1.next (by decide) (Below.refl _ _), HX.out.2.next (by decide) (Below.refl _ _)⟩
        try simp only [Act.put, List.setIfInBounds_toArray, List.set_cons_succ, List.set_cons_zero]
        apply Ghost.walk_const (fun γ => by rfl)
        · intro γ L wx h1 h2 hx K hK
          have HK2 := Lib.hid hK
          have HX := Lib.hid hx
          clear hK h1 h2 hx
          go_simp
          exact HK2.out _ ⟨HX.out.1.next (by decide) (Below.refl _ _), HX.out.2.next (by decide) (Below.refl _ _)⟩
        try simp only [Act.put, List.setIfInBounds_toArray, List.set_cons_succ, List.set_cons_zero]
        apply Ghost.walk_const (fun γ => by rfl)
        · intro γ L wx h1 h2 hx K hK
          have HK2 := Lib.hid hK
          have HX := Lib.hid hx
          clear hK h1 h2 hx
          go_simp
          exact HK2.out _ ⟨HX.out.1.next (by decide) (Below.refl _ _), HX.out.2.next (by decide) (Below.refl _ _)⟩
        try simp only [Act.put, List.setIfInBounds_toArray, List.set_cons_succ, List.set_cons_zero]
        apply Ghost.walk_const (fun γ => by rfl)
        · intro γ L wx h1 h2 hx K hK
          have HK2 := Lib.hid hK
          have HX := Lib.hid hx
          clear hK h1 h2 hx
          go_simp
          rw [if_neg (show ¬ (6 : Int) < (raw.size : Int) by omega)]; exact HK2.out _ ⟨HX.out.1.next (by decide) (Below.refl _ _), HX.out.2.next (by decide) (Below.refl _ _)⟩
        try simp only [Act.put, List.setIfInBounds_toArray, List.set_cons_succ, List.set_cons_zero]
        apply Ghost.walk_const (fun γ => by rfl)
        · intro γ L wx h1 h2 hx K hK
          have HK2 := Lib.hid hK
          have HX := Lib.hid hx
          clear hK h1 h2 hx
          go_simp
          exact HK2.out _ ⟨HX.out.1.next (by decide) (Below.refl _ _), HX.out.2.next (by decide) (Below.refl _ _)⟩
        try simp only [Act.put, List.setIfInBounds_toArray, List.set_cons_succ, List.set_cons_zero]
        apply Ghost.walk_const (fun γ => by rfl)
        · intro γ L wx h1 h2 hx K hK
          have HK2 := Lib.hid hK
          have HX := Lib.hid hx
          clear hK h1 h2 hx
          go_simp
          exact HK2.out _ ⟨HX.out.1.next (by decide) (Below.refl _ _), HX.out.2.next (by decide) (Below.refl _ _)⟩
        try simp only [Act.put, List.setIfInBounds_toArray, List.set_cons_succ, List.set_cons_zero]
        apply Ghost.walk_const (fun γ => by rfl)
        · intro γ L wx h1 h2 hx K hK
          have HK2 := Lib.hid hK
          have HX := Lib.hid hx
          clear hK h1 h2 hx
          go_simp
          exact HK2.out _ ⟨HX.out.1.next (by decide) (Below.refl _ _), HX.out.2.next (by decide) (Below.refl _ _)⟩
        try simp only [Act.put, List.setIfInBounds_toArray, List.set_cons_succ, List.set_cons_zero]
        apply Ghost.walk_const (fun γ => by rfl)
        · intro γ L wx h1 h2 hx K hK
          have HK2 := Lib.hid hK
          have HX := Lib.hid hx
          clear hK h1 h2 hx
          go_simp
          go_at_call 13; refine (FS.out _).mono ?_; rintro e w5 ⟨rfl, rfl⟩; exact HK2.out _ ⟨HX.out.1.next (by decide) (Below.refl _ _), HX.out.2.next (by decide) (Below.refl _ _)⟩
        try simp only [Act.put, List.setIfInBounds_toArray, List.set_cons_succ, List.set_cons_zero]
        apply Ghost.walk_yes (fun b => .slice (some ⟨b, 0, none⟩) 1 1) (fun γ => by rfl)
        · intro γ L wx h1 h2 hx K hK
          have HK2 := Lib.hid hK
          have HX := Lib.hid hx
          clear hK h1 h2 hx
          go_simp
          exact HK2.out wx.heap.size _ ⟨HX.out.1.make, HX.out.2.next (by decide) ((Below.refl _ _).alloc (Nat.le_refl _) _)⟩
        try simp only [Act.put, List.setIfInBounds_toArray, List.set_cons_succ, List.set_cons_zero]
        apply Ghost.walk_const (fun γ => by rfl)
        · intro γ L wx h1 h2 hx K hK
          have HR := (hx.1.row (h2 9 (by kernel_rfl))).2
          have hcv := bytes_back (P := Try.prog) (W := wx) (g := γ 9) (l := [UInt8.ofNat sm]) (fun j hj => by
            obtain rfl : j = 0 := by simpa using hj
            exact ⟨by rw [cell_of_row _ _ _ _ _ (0, 0) HR]; simp [HSU.out], frozen_of_row _ _ _ _ _ HR⟩) 35 9 5 1 1 rfl (by kernel_rfl) (by kernel_rfl) (by kernel_rfl)
          have HK2 := Lib.hid hK
          have HX := Lib.hid hx
          clear hK h1 h2 hx
          go_simp
          exact HK2.out _ ⟨HX.out.1.next (by decide) (Below.refl _ _), HX.out.2.next (by decide) (Below.refl _ _)⟩
        try simp only [Act.put, List.setIfInBounds_toArray, List.set_cons_succ, List.set_cons_zero]
        apply Ghost.walk_const (fun γ => by rfl)
        · intro γ L wx h1 h2 hx K hK
          have HK2 := Lib.hid hK
          have HX := Lib.hid hx
          clear hK h1 h2 hx
          go_simp
          exact HK2.out _ ⟨HX.out.1.next (by decide) (Below.refl _ _), HX.out.2.next (by decide) (Below.refl _ _)⟩
        try simp only [Act.put, List.setIfInBounds_toArray, List.set_cons_succ, List.set_cons_zero]
        apply Ghost.walk_yes (fun b => .slice (some ⟨b, 0, none⟩) 3 3) (fun γ => by rfl)
        · intro γ L wx h1 h2 hx K hK
          have HK2 := Lib.hid hK
          have HX := Lib.hid hx
          clear hK h1 h2 hx
          go_simp
          (try rw [← HT.out]); exact HK2.out wx.heap.size _ ⟨HX.out.1.next (by decide) ((Below.refl _ _).alloc (Nat.le_refl _) _), HX.out.2.make⟩
        try simp only [Act.put, List.setIfInBounds_toArray, List.set_cons_succ, List.set_cons_zero]
        apply Ghost.walk_const (fun γ => by rfl)
        · intro γ L wx h1 h2 hx K hK
          have HK2 := Lib.hid hK
          have HX := Lib.hid hx
          clear hK h1 h2 hx
          go_simp
          exact HK2.out _ ⟨HX.out.1.next (by decide) (Below.refl _ _), HX.out.2.next (by decide) (Below.refl _ _)⟩
        try simp only [Act.put, List.setIfInBounds_toArray, List.set_cons_succ, List.set_cons_zero]
        apply Ghost.walk_const (fun γ => by rfl)
        · intro γ L wx h1 h2 hx K hK
          have HK2 := Lib.hid hK
          have HX := Lib.hid hx
          clear hK h1 h2 hx
          go_simp
          exact HK2.out _ ⟨HX.out.1.next (by decide) (Below.refl _ _), HX.out.2.next (by decide) (Below.refl _ _)⟩
        try simp only [Act.put, List.setIfInBounds_toArray, List.set_cons_succ, List.set_cons_zero]
        refine Ghost.walk_nil (fun γ L w4 hall hI => ?_)
        have hrow := (hI.2.row (hall 12 (by decide))).2
        have HX4 := Lib.hid (HX3.out.trans (hI.2.below.mono hsz3))
        have hgl : γ 12 < w4.heap.size := (Array.getElem?_eq_some_iff.1 hrow).1
        clear hI hall
        try simp only [Nat.zero_add, Nat.reduceAdd]
        generalize γ 12 = g at *
        generalize γ 9 = g9
        have HROW := Lib.hid hrow
        clear hrow
        have HLST := Lib.hid (lst3 (a := raw) (b := raw) (c := T) (m := 1000) (by omega) (by omega) (by omega))
        go_wp2_with fail
        go_loopw [85] (fun v wr2 => ∃ q : Nat, q ≤ 3 ∧ v = .int .i64 q ∧ Below w4.heap.size w4 wr2) (fun v _ => 3 - (intOf v).toNat)
        case atStart => exact ⟨0, by omega, rfl, Below.refl _ _⟩
        case round =>
          obtain ⟨q, hq, rfl, hbq⟩ := hrel
          have HQ4 := Lib.hid hbq
          have HXq := Lib.hid (HX4.out.trans (hbq.mono (box_size HX4.out)))
          clear hbq
          by_cases hq3 : q < 3
          · have hsl := HLST.out q hq3
            have hr9 := (HQ4.out.block g hgl).trans HROW.out
            have s0 : wr.cell? ⟨g, q, none⟩ = some (.string ([raw, raw, T][q]'(by simpa using hq3))) := by
              rw [cell_of_row _ _ _ _ _ (0, 0) hr9]
              match q, hq3 with
              | 0, _ => rfl
              | 1, _ => rfl
              | 2, _ => rfl
            have FD1 := Lib.hid (fun wx (h : Below (w1.heap.size + 1) (w1.alloc (.cells #[.int .i64 f, .int .i64 d, .int .i64 r, .int .i64 p, .float .f64 e1, .float .f64 e2, .float .f64 e3, .slice A cs.length cap] 28)) wx) => FD.out A cap ([raw, raw, T][q]'(by simpa using hq3)) wx hsl (HCX.out wx h))
            have GD1 := Lib.hid (fun wx (h : Below (w1.heap.size + 1) (w1.alloc (.cells #[.int .i64 f, .int .i64 d, .int .i64 r, .int .i64 p, .float .f64 e1, .float .f64 e2, .float .f64 e3, .slice A cs.length cap] 28)) wx) => GD.out A cap ([raw, raw, T][q]'(by simpa using hq3)) wx hsl (HCX.out wx h))
            generalize ([raw, raw, T][q]'(by simpa using hq3)) = s at *
            generalize Rc.decR b (bl s) = D at *
            generalize Rc.decE b (bl s) = E at *
            have hnx := fun wx => neqRc D D wx
            rw [show Rc.eqB D D = true from decide_eq_true rfl] at hnx
            obtain ⟨x0, x1, x2, x3, x4⟩ := D
            simp only at FD1 GD1
            simp only [Rc.agg] at hnx
            have hee : (E != E) = false := by simp
            have hdq : decide ((q : Int) < 3) = true := decide_eq_true (by omega)
            clear hr9 hsl
            obtain ⟨c0, c1, c2, c3, c4, c5, c6, c7⟩ := HBOX.out _ HXq.out
            go_wp2_with fail
            refine (FD1.out _ HXq.out).mono ?_
            rintro e w5 ⟨rfl, hb5⟩
            clear c0 c1 c2 c3 c4 c5 c6 c7 s0
            have HX5 := Lib.hid (HXq.out.trans (hb5.mono (box_size HXq.out)))
            have HQ5 := Lib.hid (HQ4.out.trans (hb5.mono HQ4.out.size))
            have hsz5 := box_size HX5.out
            clear hb5
            obtain ⟨c0, c1, c2, c3, c4, c5, c6, c7⟩ := HBOX.out _ HX5.out
            have hg1 : w1.heap.size < w5.heap.size := by omega
            have hne1 : ¬ w1.heap.size = w5.heap.size := by omega
            go_wp2_with fail
            have hL : Lit w5.heap.size w5 w5.heap.size (.cells #[.int .i64 x0, .int .i64 x1, .int .i64 x2, .int .i64 x3, .int .i64 x4] 23 (0, 0)) (w5.alloc (.cells #[.int .i64 x0, .int .i64 x1, .int .i64 x2, .int .i64 x3, .int .i64 x4] 23)) := ⟨(Below.refl _ _).alloc (Nat.le_refl _) _, by simp, heap_alloc_new w5 _⟩
            generalize w5.alloc (.cells #[.int .i64 x0, .int .i64 x1, .int .i64 x2, .int .i64 x3, .int .i64 x4] 23) = w6 at *
            have HL := Lib.hid hL
            have HX6 := Lib.hid (HX5.out.trans (hL.below.mono hsz5))
            clear hL c0 c1 c2 c3 c4 c5 c6 c7
            refine (GD1.out _ HX6.out).mono ?_
            rintro e w7 ⟨rfl, hb7⟩
            have hL7 := HL.out.next hb7
            obtain ⟨k0, k1, k2, k3, k4⟩ := recRow hL7.row
            have HB7 := Lib.hid (HQ5.out.trans (hL7.below.mono HQ5.out.size))
            have hg5 : w5.heap.size < w7.heap.size := hL7.lt
            have hne5 : ¬ w5.heap.size = w7.heap.size := by omega
            clear hL7 hb7
            go_wp2_with fail
            go_roundw
            case rel => exact ⟨q + 1, by omega, by go_num, HB7.out.alloc HB7.out.size _⟩
            case measure => simp [intOf]; omega
          · obtain rfl : q = 3 := by omega
            go_wp2_with fail
            refine (sane9_any _).mono ?_
            rintro e w6 ⟨rfl, hb6⟩
            have HB6 := Lib.hid (HXq.out.trans (hb6.mono (box_size HXq.out)))
            clear hb6
            go_wp2_with fail
            go_ret
            exact ⟨rfl, HEND.out _ HB6.out⟩
      · have v0 := hcs
        have v1 : (5 : Int) < (raw.size : Int) := by omega
        have v2 : ¬ (raw.size : Int) ≤ 5 := by omega
        have v3 : ¬ (6 : Int) < (raw.size : Int) := by omega
        have v4 : (raw.size : Int) ≤ 6 := by omega
        have v5 : (5 : Int) ≤ (raw.size : Int) := by omega
        have v6 : 5 ≤ raw.size := by omega
        have z5 : (raw.extract 0 5).size ≤ 5 := by rw [ba_csize]; omega
        have z6 : raw.size ≤ 100 := by omega
        have hall : raw.extract 0 raw.size = raw := ba_all raw
        clear v0 hcs
        go_wp2_with fail
        have FS := Lib.hid (fun w => refSum8_any (raw.extract 0 5) w (by unfold maxLen; omega))
        obtain ⟨sm, hsm⟩ : ∃ z : Nat, z = sum8 (bl (raw.extract 0 5)) := ⟨_, rfl⟩
        have hs256 : sm < 256 := by rw [hsm]; exact sum8_lt _
        rw [← hsm] at FS
        clear hsm
        have hsu : (UInt8.ofNat sm).toNat = sm := UInt8.toNat_ofNat_of_lt' (by simpa using hs256)
        obtain ⟨T, hT⟩ : ∃ z, z = (raw.extract 0 5) ++ (⟨#[UInt8.ofNat sm]⟩ : ByteArray) := ⟨_, rfl⟩
        have hTs : T.size ≤ 6 := by rw [hT, ba_size]; show _ + 1 ≤ 6; omega
        have hT' := hT.symm
        have HT := Lib.hid hT
        have HSU := Lib.hid hsu
        have hjz : ¬ 9223372036854775807 < (raw.extract 0 5).size + 1 := by omega
        have hjz2 : ¬ 9223372036854775807 < (raw.extract 0 5).size + (⟨#[UInt8.ofNat sm]⟩ : ByteArray).size := by show ¬ _ < _ + 1; omega
        have hb1 : (⟨#[UInt8.ofNat sm]⟩ : ByteArray).size = 1 := rfl
        clear hT hsu
        refine Ghost.ghost (fun γ L wx => Ghost.Made wr 9 (.cells #[.int .u8 (sm : Int)] 5 (0, 0)) γ L wx ∧ Ghost.Made wr 12 (.cells #[.string raw, .string raw, .string T] 9 (0, 0)) γ L wx) (by kernel_rfl) (by kernel_rfl) (fun γ => ⟨⟨(Below.refl _ _).drew, fun h => absurd h Bool.false_ne_true⟩, ⟨(Below.refl _ _).drew, fun h => absurd h Bool.false_ne_true⟩⟩) ?_
        apply Ghost.walk_const (fun γ => by rfl)
        · intro γ L wx h1 h2 hx K hK
          have HK2 := Lib.hid hK
          have HX := Lib.hid hx
          clear hK h1 h2 hx
          go_simp
          exact HK2.out _ ⟨HX.out.1.next (by decide) (Below.refl _ _), HX.out.2.next (by decide) (Below.refl _ _)⟩
        try simp only [Act.put, List.setIfInBounds_toArray, List.set_cons_succ, List.set_cons_zero]
        apply Ghost.walk_const (fun γ => by rfl)
        · intro γ L wx h1 h2 hx K hK
          have HK2 := Lib.hid hK
          have HX := Lib.hid hx
          clear hK h1 h2 hx
          go_simp
          exact HK2.out _ ⟨HX.out.1.next (by decide) (Below.refl _ _), HX.out.2.next (by decide) (Below.refl _ _)⟩
        try simp only [Act.put, List.setIfInBounds_toArray, List.set_cons_succ, List.set_cons_zero]
        apply Ghost.walk_const (fun γ => by rfl)
        · intro γ L wx h1 h2 hx K hK
          have HK2 := Lib.hid hK
          have HX := Lib.hid hx
          clear hK h1 h2 hx
          go_simp
          exact HK2.out _ ⟨HX.out.1.next (by decide) (Below.refl _ _), HX.out.2.next (by decide) (Below.refl _ _)⟩
        try simp only [Act.put, List.setIfInBounds_toArray, List.set_cons_succ, List.set_cons_zero]
        apply Ghost.walk_const (fun γ => by rfl)
        · intro γ L wx h1 h2 hx K hK
          have HK2 := Lib.hid hK
          have HX := Lib.hid hx
          clear hK h1 h2 hx
          go_simp
          exact HK2.out _ ⟨HX.out.1.next (by decide) (Below.refl _ _), HX.out.2.next (by decide) (Below.refl _ _)⟩
        try simp only [Act.put, List.setIfInBounds_toArray, List.set_cons_succ, List.set_cons_zero]
        apply Ghost.walk_const (fun γ => by rfl)
        · intro γ L wx h1 h2 hx K hK
          have HK2 := Lib.hid hK
          have HX := Lib.hid hx
          clear hK h1 h2 hx
          go_simp
          rw [if_neg (show ¬ (6 : Int) < (raw.size : Int) by omega)]; exact HK2.out _ ⟨HX.out.1.next (by decide) (Below.refl _ _), HX.out.2.next (by decide) (Below.refl _ _)⟩
        try simp only [Act.put, List.setIfInBounds_toArray, List.set_cons_succ, List.set_cons_zero]
        apply Ghost.walk_const (fun γ => by rfl)
        · intro γ L wx h1 h2 hx K hK
          have HK2 := Lib.hid hK
          have HX := Lib.hid hx
          clear hK h1 h2 hx
          go_simp
          exact HK2.out _ ⟨HX.out.1.next (by decide) (Below.refl _ _), HX.out.2.next (by decide) (Below.refl _ _)⟩
        try simp only [Act.put, List.setIfInBounds_toArray, List.set_cons_succ, List.set_cons_zero]
        apply Ghost.walk_const (fun γ => by rfl)
        · intro γ L wx h1 h2 hx K hK
          have HK2 := Lib.hid hK
          have HX := Lib.hid hx
          clear hK h1 h2 hx
          go_simp
          exact HK2.out _ ⟨HX.out.1.next (by decide) (Below.refl _ _), HX.out.2.next (by decide) (Below.refl _ _)⟩
        try simp only [Act.put, List.setIfInBounds_toArray, List.set_cons_succ, List.set_cons_zero]
        apply Ghost.walk_const (fun γ => by rfl)
        · intro γ L wx h1 h2 hx K hK
          have HK2 := Lib.hid hK
          have HX := Lib.hid hx
          clear hK h1 h2 hx
          go_simp
          exact HK2.out _ ⟨HX.out.1.next (by decide) (Below.refl _ _), HX.out.2.next (by decide) (Below.refl _ _)⟩
        try simp only [Act.put, List.setIfInBounds_toArray, List.set_cons_succ, List.set_cons_zero]
        apply Ghost.walk_const (fun γ => by rfl)
        · intro γ L wx h1 h2 hx K hK
          have HK2 := Lib.hid hK
          have HX := Lib.hid hx
          clear hK h1 h2 hx
          go_simp
          go_at_call 13; refine (FS.out _).mono ?_; rintro e w5 ⟨rfl, rfl⟩; exact HK2.out _ ⟨HX.out.1.next (by decide) (Below.refl _ _), HX.out.2.next (by decide) (Below.refl _ _)⟩
        try simp only [Act.put, List.setIfInBounds_toArray, List.set_cons_succ, List.set_cons_zero]
        apply Ghost.walk_yes (fun b => .slice (some ⟨b, 0, none⟩) 1 1) (fun γ => by rfl)
        · intro γ L wx h1 h2 hx K hK
          have HK2 := Lib.hid hK
          have HX := Lib.hid hx
          clear hK h1 h2 hx
          go_simp
          exact HK2.out wx.heap.size _ ⟨HX.out.1.make, HX.out.2.next (by decide) ((Below.refl _ _).alloc (Nat.le_refl _) _)⟩
        try simp only [Act.put, List.setIfInBounds_toArray, List.set_cons_succ, List.set_cons_zero]
        apply Ghost.walk_const (fun γ => by rfl)
        · intro γ L wx h1 h2 hx K hK
          have HR := (hx.1.row (h2 9 (by kernel_rfl))).2
          have hcv := bytes_back (P := Try.prog) (W := wx) (g := γ 9) (l := [UInt8.ofNat sm]) (fun j hj => by
            obtain rfl : j = 0 := by simpa using hj
            exact ⟨by rw [cell_of_row _ _ _ _ _ (0, 0) HR]; simp [HSU.out], frozen_of_row _ _ _ _ _ HR⟩) 35 9 5 1 1 rfl (by kernel_rfl) (by kernel_rfl) (by kernel_rfl)
          have HK2 := Lib.hid hK
          have HX := Lib.hid hx
          clear hK h1 h2 hx
          go_simp
          exact HK2.out _ ⟨HX.out.1.next (by decide) (Below.refl _ _), HX.out.2.next (by decide) (Below.refl _ _)⟩
        try simp only [Act.put, List.setIfInBounds_toArray, List.set_cons_succ, List.set_cons_zero]
        apply Ghost.walk_const (fun γ => by rfl)
        · intro γ L wx h1 h2 hx K hK
          have HK2 := Lib.hid hK
          have HX := Lib.hid hx
          clear hK h1 h2 hx
          go_simp
          exact HK2.out _ ⟨HX.out.1.next (by decide) (Below.refl _ _), HX.out.2.next (by decide) (Below.refl _ _)⟩
        try simp only [Act.put, List.setIfInBounds_toArray, List.set_cons_succ, List.set_cons_zero]
        apply Ghost.walk_yes (fun b => .slice (some ⟨b, 0, none⟩) 3 3) (fun γ => by rfl)
        · intro γ L wx h1 h2 hx K hK
          have HK2 := Lib.hid hK
          have HX := Lib.hid hx
          clear hK h1 h2 hx
          go_simp
          (try rw [← HT.out]); exact HK2.out wx.heap.size _ ⟨HX.out.1.next (by decide) ((Below.refl _ _).alloc (Nat.le_refl _) _), HX.out.2.make⟩
        try simp only [Act.put, List.setIfInBounds_toArray, List.set_cons_succ, List.set_cons_zero]
        apply Ghost.walk_const (fun γ => by rfl)
        · intro γ L wx h1 h2 hx K hK
          have HK2 := Lib.hid hK
          have HX := Lib.hid hx
          clear hK h1 h2 hx
          go_simp
          exact HK2.out _ ⟨HX.out.1.next (by decide) (Below.refl _ _), HX.out.2.next (by decide) (Below.refl _ _)⟩
        try simp only [Act.put, List.setIfInBounds_toArray, List.set_cons_succ, List.set_cons_zero]
        apply Ghost.walk_const (fun γ => by rfl)
        · intro γ L wx h1 h2 hx K hK
          have HK2 := Lib.hid hK
          have HX := Lib.hid hx
          clear hK h1 h2 hx
          go_simp
          exact HK2.out _ ⟨HX.out.1.next (by decide) (Below.refl _ _), HX.out.2.next (by decide) (Below.refl _ _)⟩
        try simp only [Act.put, List.setIfInBounds_toArray, List.set_cons_succ, List.set_cons_zero]
        refine Ghost.walk_nil (fun γ L w4 hall hI => ?_)
        have hrow := (hI.2.row (hall 12 (by decide))).2
        have HX4 := Lib.hid (HX3.out.trans (hI.2.below.mono hsz3))
        have hgl : γ 12 < w4.heap.size := (Array.getElem?_eq_some_iff.1 hrow).1
        clear hI hall
        try simp only [Nat.zero_add, Nat.reduceAdd]
        generalize γ 12 = g at *
        generalize γ 9 = g9
        have HROW := Lib.hid hrow
        clear hrow
        have HLST := Lib.hid (lst3 (a := raw) (b := raw) (c := T) (m := 1000) (by omega) (by omega) (by omega))
        go_wp2_with fail
        go_loopw [85] (fun v wr2 => ∃ q : Nat, q ≤ 3 ∧ v = .int .i64 q ∧ Below w4.heap.size w4 wr2) (fun v _ => 3 - (intOf v).toNat)
        case atStart => exact ⟨0, by omega, rfl, Below.refl _ _⟩
        case round =>
          obtain ⟨q, hq, rfl, hbq⟩ := hrel
          have HQ4 := Lib.hid hbq
          have HXq := Lib.hid (HX4.out.trans (hbq.mono (box_size HX4.out)))
          clear hbq
          by_cases hq3 : q < 3
          · have hsl := HLST.out q hq3
            have hr9 := (HQ4.out.block g hgl).trans HROW.out
            have s0 : wr.cell? ⟨g, q, none⟩ = some (.string ([raw, raw, T][q]'(by simpa using hq3))) := by
              rw [cell_of_row _ _ _ _ _ (0, 0) hr9]
              match q, hq3 with
              | 0, _ => rfl
              | 1, _ => rfl
              | 2, _ => rfl
            have FD1 := Lib.hid (fun wx (h : Below (w1.heap.size + 1) (w1.alloc (.cells #[.int .i64 f, .int .i64 d, .int .i64 r, .int .i64 p, .float .f64 e1, .float .f64 e2, .float .f64 e3, .slice A cs.length cap] 28)) wx) => FD.out A cap ([raw, raw, T][q]'(by simpa using hq3)) wx hsl (HCX.out wx h))
            have GD1 := Lib.hid (fun wx (h : Below (w1.heap.size + 1) (w1.alloc (.cells #[.int .i64 f, .int .i64 d, .int .i64 r, .int .i64 p, .float .f64 e1, .float .f64 e2, .float .f64 e3, .slice A cs.length cap] 28)) wx) => GD.out A cap ([raw, raw, T][q]'(by simpa using hq3)) wx hsl (HCX.out wx h))
            generalize ([raw, raw, T][q]'(by simpa using hq3)) = s at *
            generalize Rc.decR b (bl s) = D at *
            generalize Rc.decE b (bl s) = E at *
            have hnx := fun wx => neqRc D D wx
            rw [show Rc.eqB D D = true from decide_eq_true rfl] at hnx
            obtain ⟨x0, x1, x2, x3, x4⟩ := D
            simp only at FD1 GD1
            simp only [Rc.agg] at hnx
            have hee : (E != E) = false := by simp
            have hdq : decide ((q : Int) < 3) = true := decide_eq_true (by omega)
            clear hr9 hsl
            obtain ⟨c0, c1, c2, c3, c4, c5, c6, c7⟩ := HBOX.out _ HXq.out
            go_wp2_with fail
            refine (FD1.out _ HXq.out).mono ?_
            rintro e w5 ⟨rfl, hb5⟩
            clear c0 c1 c2 c3 c4 c5 c6 c7 s0
            have HX5 := Lib.hid (HXq.out.trans (hb5.mono (box_size HXq.out)))
            have HQ5 := Lib.hid (HQ4.out.trans (hb5.mono HQ4.out.size))
            have hsz5 := box_size HX5.out
            clear hb5
            obtain ⟨c0, c1, c2, c3, c4, c5, c6, c7⟩ := HBOX.out _ HX5.out
            have hg1 : w1.heap.size < w5.heap.size := by omega
            have hne1 : ¬ w1.heap.size = w5.heap.size := by omega
            go_wp2_with fail
            have hL : Lit w5.heap.size w5 w5.heap.size (.cells #[.int .i64 x0, .int .i64 x1, .int .i64 x2, .int .i64 x3, .int .i64 x4] 23 (0, 0)) (w5.alloc (.cells #[.int .i64 x0, .int .i64 x1, .int .i64 x2, .int .i64 x3, .int .i64 x4] 23)) := ⟨(Below.refl _ _).alloc (Nat.le_refl _) _, by simp, heap_alloc_new w5 _⟩
            generalize w5.alloc (.cells #[.int .i64 x0, .int .i64 x1, .int .i64 x2, .int .i64 x3, .int .i64 x4] 23) = w6 at *
            have HL := Lib.hid hL
            have HX6 := Lib.hid (HX5.out.trans (hL.below.mono hsz5))
            clear hL c0 c1 c2 c3 c4 c5 c6 c7
            refine (GD1.out _ HX6.out).mono ?_
            rintro e w7 ⟨rfl, hb7⟩
            have hL7 := HL.out.next hb7
            obtain ⟨k0, k1, k2, k3, k4⟩ := recRow hL7.row
            have HB7 := Lib.hid (HQ5.out.trans (hL7.below.mono HQ5.out.size))
            have hg5 : w5.heap.size < w7.heap.size := hL7.lt
            have hne5 : ¬ w5.heap.size = w7.heap.size := by omega
            clear hL7 hb7
            go_wp2_with fail
            go_roundw
            case rel => exact ⟨q + 1, by omega, by go_num, HB7.out.alloc HB7.out.size _⟩
            case measure => simp [intOf]; omega
          · obtain rfl : q = 3 := by omega
            go_wp2_with fail
            refine (sane9_any _).mono ?_
            rintro e w6 ⟨rfl, hb6⟩
            have HB6 := Lib.hid (HXq.out.trans (hb6.mono (box_size HXq.out)))
            clear hb6
            go_wp2_with fail
            go_ret
            exact ⟨rfl, HEND.out _ HB6.out⟩
      · have v0 := hcs
        have v1 : (5 : Int) < (raw.size : Int) := by omega
        have v2 : ¬ (raw.size : Int) ≤ 5 := by omega
        have v3 : (6 : Int) < (raw.size : Int) := by omega
        have v4 : ¬ (raw.size : Int) ≤ 6 := by omega
        have v5 : (5 : Int) ≤ (raw.size : Int) := by omega
        have v6 : 5 ≤ raw.size := by omega
        have v7 : (6 : Int) ≤ (raw.size : Int) := by omega
        have v8 : 6 ≤ raw.size := by omega
        have z5 : (raw.extract 0 5).size ≤ 5 := by rw [ba_csize]; omega
        have z6 : (raw.extract 0 6).size ≤ 100 := by rw [ba_csize]; omega
        clear v0 hcs
        go_wp2_with fail
        have FS := Lib.hid (fun w => refSum8_any (raw.extract 0 5) w (by unfold maxLen; omega))
        obtain ⟨sm, hsm⟩ : ∃ z : Nat, z = sum8 (bl (raw.extract 0 5)) := ⟨_, rfl⟩
        have hs256 : sm < 256 := by rw [hsm]; exact sum8_lt _
        rw [← hsm] at FS
        clear hsm
        have hsu : (UInt8.ofNat sm).toNat = sm := UInt8.toNat_ofNat_of_lt' (by simpa using hs256)
        obtain ⟨T, hT⟩ : ∃ z, z = (raw.extract 0 5) ++ (⟨#[UInt8.ofNat sm]⟩ : ByteArray) := ⟨_, rfl⟩
        have hTs : T.size ≤ 6 := by rw [hT, ba_size]; show _ + 1 ≤ 6; omega
        have hT' := hT.symm
        have HT := Lib.hid hT
        have HSU := Lib.hid hsu
        have hjz : ¬ 9223372036854775807 < (raw.extract 0 5).size + 1 := by omega
        have hjz2 : ¬ 9223372036854775807 < (raw.extract 0 5).size + (⟨#[UInt8.ofNat sm]⟩ : ByteArray).size := by show ¬ _ < _ + 1; omega
        have hb1 : (⟨#[UInt8.ofNat sm]⟩ : ByteArray).size = 1 := rfl
        clear hT hsu
        refine Ghost.ghost (fun γ L wx => Ghost.Made wr 9 (.cells #[.int .u8 (sm : Int)] 5 (0, 0)) γ L wx ∧ Ghost.Made wr 12 (.cells #[.string raw, .string (raw.extract 0 6), .string T] 9 (0, 0)) γ L wx) (by kernel_rfl) (by kernel_rfl) (fun γ => ⟨⟨(Below.refl _ _).drew, fun h => absurd h Bool.false_ne_true⟩, ⟨(Below.refl _ _).drew, fun h => absurd h Bool.false_ne_true⟩⟩) ?_
        apply Ghost.walk_const (fun γ => by rfl)
        · intro γ L wx h1 h2 hx K hK
          have HK2 := Lib.hid hK
          have HX := Lib.hid hx
          clear hK h1 h2 hx
          go_simp
          exact HK2.out _ ⟨HX.out.1.next (by decide) (Below.refl _ _), HX.out.2.next (by decide) (Below.refl _ _)⟩
        try simp only [Act.put, List.setIfInBounds_toArray, List.set_cons_succ, List.set_cons_zero]
        apply Ghost.walk_const (fun γ => by rfl)
        · intro γ L wx h1 h2 hx K hK
          have HK2 := Lib.hid hK
          have HX := Lib.hid hx
          clear hK h1 h2 hx
          go_simp
          exact HK2.out _ ⟨HX.out.1.next (by decide) (Below.refl _ _), HX.out.2.next (by decide) (Below.refl _ _)⟩
        try simp only [Act.put, List.setIfInBounds_toArray, List.set_cons_succ, List.set_cons_zero]
        apply Ghost.walk_const (fun γ => by rfl)
        · intro γ L wx h1 h2 hx K hK
          have HK2 := Lib.hid hK
          have HX := Lib.hid hx
          clear hK h1 h2 hx
          go_simp
          exact HK2.out _ ⟨HX.out.1.next (by decide) (Below.refl _ _), HX.out.2.next (by decide) (Below.refl _ _)⟩
        try simp only [Act.put, List.setIfInBounds_toArray, List.set_cons_succ, List.set_cons_zero]
        apply Ghost.walk_const (fun γ => by rfl)
        · intro γ L wx h1 h2 hx K hK
          have HK2 := Lib.hid hK
          have HX := Lib.hid hx
          clear hK h1 h2 hx
          go_simp
          exact HK2.out _ ⟨HX.out.1.next (by decide) (Below.refl _ _), HX.out.2.next (by decide) (Below.refl _ _)⟩
        try simp only [Act.put, List.setIfInBounds_toArray, List.set_cons_succ, List.set_cons_zero]
        apply Ghost.walk_const (fun γ => by rfl)
        · intro γ L wx h1 h2 hx K hK
          have HK2 := Lib.hid hK
          have HX := Lib.hid hx
          clear hK h1 h2 hx
          go_simp
          exact HK2.out _ ⟨HX.out.1.next (by decide) (Below.refl _ _), HX.out.2.next (by decide) (Below.refl _ _)⟩
        try simp only [Act.put, List.setIfInBounds_toArray, List.set_cons_succ, List.set_cons_zero]
        apply Ghost.walk_const (fun γ => by rfl)
        · intro γ L wx h1 h2 hx K hK
          have HK2 := Lib.hid hK
          have HX := Lib.hid hx
          clear hK h1 h2 hx
          go_simp
          exact HK2.out _ ⟨HX.out.1.next (by decide) (Below.refl _ _), HX.out.2.next (by decide) (Below.refl _ _)⟩
        try simp only [Act.put, List.setIfInBounds_toArray, List.set_cons_succ, List.set_cons_zero]
        apply Ghost.walk_const (fun γ => by rfl)
        · intro γ L wx h1 h2 hx K hK
          have HK2 := Lib.hid hK
          have HX := Lib.hid hx
          clear hK h1 h2 hx
          go_simp
          exact HK2.out _ ⟨HX.out.1.next (by decide) (Below.refl _ _), HX.out.2.next (by decide) (Below.refl _ _)⟩
        try simp only [Act.put, List.setIfInBounds_toArray, List.set_cons_succ, List.set_cons_zero]
        apply Ghost.walk_const (fun γ => by rfl)
        · intro γ L wx h1 h2 hx K hK
          have HK2 := Lib.hid hK
          have HX := Lib.hid hx
          clear hK h1 h2 hx
          go_simp
          exact HK2.out _ ⟨HX.out.1.next (by decide) (Below.refl _ _), HX.out.2.next (by decide) (Below.refl _ _)⟩
        try simp only [Act.put, List.setIfInBounds_toArray, List.set_cons_succ, List.set_cons_zero]
        apply Ghost.walk_const (fun γ => by rfl)
        · intro γ L wx h1 h2 hx K hK
          have HK2 := Lib.hid hK
          have HX := Lib.hid hx
          clear hK h1 h2 hx
          go_simp
          go_at_call 13; refine (FS.out _).mono ?_; rintro e w5 ⟨rfl, rfl⟩; exact HK2.out _ ⟨HX.out.1.next (by decide) (Below.refl _ _), HX.out.2.next (by decide) (Below.refl _ _)⟩
        try simp only [Act.put, List.setIfInBounds_toArray, List.set_cons_succ, List.set_cons_zero]
        apply Ghost.walk_yes (fun b => .slice (some ⟨b, 0, none⟩) 1 1) (fun γ => by rfl)
        · intro γ L wx h1 h2 hx K hK
          have HK2 := Lib.hid hK
          have HX := Lib.hid hx
          clear hK h1 h2 hx
          go_simp
          exact HK2.out wx.heap.size _ ⟨HX.out.1.make, HX.out.2.next (by decide) ((Below.refl _ _).alloc (Nat.le_refl _) _)⟩
        try simp only [Act.put, List.setIfInBounds_toArray, List.set_cons_succ, List.set_cons_zero]
        apply Ghost.walk_const (fun γ => by rfl)
        · intro γ L wx h1 h2 hx K hK
          have HR := (hx.1.row (h2 9 (by kernel_rfl))).2
          have hcv := bytes_back (P := Try.prog) (W := wx) (g := γ 9) (l := [UInt8.ofNat sm]) (fun j hj => by
            obtain rfl : j = 0 := by simpa using hj
            exact ⟨by rw [cell_of_row _ _ _ _ _ (0, 0) HR]; simp [HSU.out], frozen_of_row _ _ _ _ _ HR⟩) 35 9 5 1 1 rfl (by kernel_rfl) (by kernel_rfl) (by kernel_rfl)
          have HK2 := Lib.hid hK
          have HX := Lib.hid hx
          clear hK h1 h2 hx
          go_simp
          exact HK2.out _ ⟨HX.out.1.next (by decide) (Below.refl _ _), HX.out.2.next (by decide) (Below.refl _ _)⟩
        try simp only [Act.put, List.setIfInBounds_toArray, List.set_cons_succ, List.set_cons_zero]
        apply Ghost.walk_const (fun γ => by rfl)
        · intro γ L wx h1 h2 hx K hK
          have HK2 := Lib.hid hK
          have HX := Lib.hid hx
          clear hK h1 h2 hx
          go_simp
          exact HK2.out _ ⟨HX.out.1.next (by decide) (Below.refl _ _), HX.out.2.next (by decide) (Below.refl _ _)⟩
        try simp only [Act.put, List.setIfInBounds_toArray, List.set_cons_succ, List.set_cons_zero]
        apply Ghost.walk_yes (fun b => .slice (some ⟨b, 0, none⟩) 3 3) (fun γ => by rfl)
        · intro γ L wx h1 h2 hx K hK
          have HK2 := Lib.hid hK
          have HX := Lib.hid hx
          clear hK h1 h2 hx
          go_simp
          (try rw [← HT.out]); exact HK2.out wx.heap.size _ ⟨HX.out.1.next (by decide) ((Below.refl _ _).alloc (Nat.le_refl _) _), HX.out.2.make⟩
        try simp only [Act.put, List.setIfInBounds_toArray, List.set_cons_succ, List.set_cons_zero]
        apply Ghost.walk_const (fun γ => by rfl)
        · intro γ L wx h1 h2 hx K hK
          have HK2 := Lib.hid hK
          have HX := Lib.hid hx
          clear hK h1 h2 hx
          go_simp
          exact HK2.out _ ⟨HX.out.1.next (by decide) (Below.refl _ _), HX.out.2.next (by decide) (Below.refl _ _)⟩
        try simp only [Act.put, List.setIfInBounds_toArray, List.set_cons_succ, List.set_cons_zero]
        apply Ghost.walk_const (fun γ => by rfl)
        · intro γ L wx h1 h2 hx K hK
          have HK2 := Lib.hid hK
          have HX := Lib.hid hx
          clear hK h1 h2 hx
          go_simp
          exact HK2.out _ ⟨HX.out.1.next (by decide) (Below.refl _ _), HX.out.2.next (by decide) (Below.refl _ _)⟩
        try simp only [Act.put, List.setIfInBounds_toArray, List.set_cons_succ, List.set_cons_zero]
        refine Ghost.walk_nil (fun γ L w4 hall hI => ?_)
        have hrow := (hI.2.row (hall 12 (by decide))).2
        have HX4 := Lib.hid (HX3.out.trans (hI.2.below.mono hsz3))
        have hgl : γ 12 < w4.heap.size := (Array.getElem?_eq_some_iff.1 hrow).1
        clear hI hall
        try simp only [Nat.zero_add, Nat.reduceAdd]
        generalize γ 12 = g at *
        generalize γ 9 = g9
        have HROW := Lib.hid hrow
        clear hrow
        have HLST := Lib.hid (lst3 (a := raw) (b := (raw.extract 0 6)) (c := T) (m := 1000) (by omega) (by omega) (by omega))
        go_wp2_with fail
        go_loopw [85] (fun v wr2 => ∃ q : Nat, q ≤ 3 ∧ v = .int .i64 q ∧ Below w4.heap.size w4 wr2) (fun v _ => 3 - (intOf v).toNat)
        case atStart => exact ⟨0, by omega, rfl, Below.refl _ _⟩
        case round =>
          obtain ⟨q, hq, rfl, hbq⟩ := hrel
          have HQ4 := Lib.hid hbq
          have HXq := Lib.hid (HX4.out.trans (hbq.mono (box_size HX4.out)))
          clear hbq
          by_cases hq3 : q < 3
          · have hsl := HLST.out q hq3
            have hr9 := (HQ4.out.block g hgl).trans HROW.out
            have s0 : wr.cell? ⟨g, q, none⟩ = some (.string ([raw, (raw.extract 0 6), T][q]'(by simpa using hq3))) := by
              rw [cell_of_row _ _ _ _ _ (0, 0) hr9]
              match q, hq3 with
              | 0, _ => rfl
              | 1, _ => rfl
              | 2, _ => rfl
            have FD1 := Lib.hid (fun wx (h : Below (w1.heap.size + 1) (w1.alloc (.cells #[.int .i64 f, .int .i64 d, .int .i64 r, .int .i64 p, .float .f64 e1, .float .f64 e2, .float .f64 e3, .slice A cs.length cap] 28)) wx) => FD.out A cap ([raw, (raw.extract 0 6), T][q]'(by simpa using hq3)) wx hsl (HCX.out wx h))
            have GD1 := Lib.hid (fun wx (h : Below (w1.heap.size + 1) (w1.alloc (.cells #[.int .i64 f, .int .i64 d, .int .i64 r, .int .i64 p, .float .f64 e1, .float .f64 e2, .float .f64 e3, .slice A cs.length cap] 28)) wx) => GD.out A cap ([raw, (raw.extract 0 6), T][q]'(by simpa using hq3)) wx hsl (HCX.out wx h))
            generalize ([raw, (raw.extract 0 6), T][q]'(by simpa using hq3)) = s at *
            generalize Rc.decR b (bl s) = D at *
            generalize Rc.decE b (bl s) = E at *
            have hnx := fun wx => neqRc D D wx
            rw [show Rc.eqB D D = true from decide_eq_true rfl] at hnx
            obtain ⟨x0, x1, x2, x3, x4⟩ := D
            simp only at FD1 GD1
            simp only [Rc.agg] at hnx
            have hee : (E != E) = false := by simp
            have hdq : decide ((q : Int) < 3) = true := decide_eq_true (by omega)
            clear hr9 hsl
            obtain ⟨c0, c1, c2, c3, c4, c5, c6, c7⟩ := HBOX.out _ HXq.out
            go_wp2_with fail
            refine (FD1.out _ HXq.out).mono ?_
            rintro e w5 ⟨rfl, hb5⟩
            clear c0 c1 c2 c3 c4 c5 c6 c7 s0
            have HX5 := Lib.hid (HXq.out.trans (hb5.mono (box_size HXq.out)))
            have HQ5 := Lib.hid (HQ4.out.trans (hb5.mono HQ4.out.size))
            have hsz5 := box_size HX5.out
            clear hb5
            obtain ⟨c0, c1, c2, c3, c4, c5, c6, c7⟩ := HBOX.out _ HX5.out
            have hg1 : w1.heap.size < w5.heap.size := by omega
            have hne1 : ¬ w1.heap.size = w5.heap.size := by omega
            go_wp2_with fail
            have hL : Lit w5.heap.size w5 w5.heap.size (.cells #[.int .i64 x0, .int .i64 x1, .int .i64 x2, .int .i64 x3, .int .i64 x4] 23 (0, 0)) (w5.alloc (.cells #[.int .i64 x0, .int .i64 x1, .int .i64 x2, .int .i64 x3, .int .i64 x4] 23)) := ⟨(Below.refl _ _).alloc (Nat.le_refl _) _, by simp, heap_alloc_new w5 _⟩
            generalize w5.alloc (.cells #[.int .i64 x0, .int .i64 x1, .int .i64 x2, .int .i64 x3, .int .i64 x4] 23) = w6 at *
            have HL := Lib.hid hL
            have HX6 := Lib.hid (HX5.out.trans (hL.below.mono hsz5))
            clear hL c0 c1 c2 c3 c4 c5 c6 c7
            refine (GD1.out _ HX6.out).mono ?_
            rintro e w7 ⟨rfl, hb7⟩
            have hL7 := HL.out.next hb7
            obtain ⟨k0, k1, k2, k3, k4⟩ := recRow hL7.row
            have HB7 := Lib.hid (HQ5.out.trans (hL7.below.mono HQ5.out.size))
            have hg5 : w5.heap.size < w7.heap.size := hL7.lt
            have hne5 : ¬ w5.heap.size = w7.heap.size := by omega
            clear hL7 hb7
            go_wp2_with fail
            go_roundw
            case rel => exact ⟨q + 1, by omega, by go_num, HB7.out.alloc HB7.out.size _⟩
            case measure => simp [intOf]; omega
          · obtain rfl : q = 3 := by omega
            go_wp2_with fail
            refine (sane9_any _).mono ?_
            rintro e w6 ⟨rfl, hb6⟩
            have HB6 := Lib.hid (HXq.out.trans (hb6.mono (box_size HXq.out)))
            clear hb6
            go_wp2_with fail
            go_ret
            exact ⟨rfl, HEND.out _ HB6.out⟩
theorem lawRecordCodes_walk (n : Int) (x : Rc) (raw : ByteArray) (w : World) (hx : (Lit.int .u8 n).wf = true) (ht : raw.size ≤ maxLen) :
    Calls Try.prog 3 #[.int .u8 n, x.agg, .string raw] w fun e w' => e = .returned (.bool true) ∧ Below w.heap.size w w' := by
  obtain ⟨n, rfl, hn⟩ := u8_nat hx
  exact lawCodes_nat n x raw w hn ht

set_option maxRecDepth 100000 in
theorem lawRecordCodes_lifted (os : Os) (started : os.Started) (H : Type) (enc : TypeId × Value → H) :
    ReturnsInHanded {} Try.checked os 3 .any (Rows.recordCodesSpec.pre6 enc Try.prog Try.f3 Rows.recordCodesRow.domain false) (Rows.recordCodesSpec.post enc Try.prog Try.f3 false true false false) := by
  refine returnsInHanded_of_change (C := Try.checked) own started (by kernel_rfl) Try.func3
    (ChangeSpec.witness6 (enc := enc) (C := Try.checked) false ⟨#[], #[.int .u8 0, .agg #[.int .i64 0, .int .i64 0, .int .i64 0, .int .i64 0, .int .i64 0], .string ⟨#[]⟩], []⟩ 8 (by kernel_rfl) (by kernel_rfl) (by kernel_rfl) (by kernel_rfl)) ?_
  intro W base args ds gs before hval0 hW hcnd _
  have hval : ∀ (j : Nat) t v, Try.f3.params[j]? = some t → args[j]? = some v → Value.okWide Try.prog W .any base t v := hval0
  have hW' := hW
  obtain ⟨p, q, hA0, hV, rfl, hfz, hnd⟩ := hW
  have hA : DataW.TrodAll enc Try.prog W 0 (fun _ => true) true Try.f3.params.toList args.toList ds p := hA0
  rw [Try.params3] at hA hval
  obtain ⟨v0, vs0, d0, ds0, p0, q0, hargs, rfl, rfl, h0, r0⟩ := trodAll_cons hA
  obtain ⟨v1, vs1, d1, ds1, p1, q1, rfl, rfl, rfl, h1, r1⟩ := trodAll_cons r0
  obtain ⟨v2, vs2, d2, ds2, p2, q2, rfl, rfl, rfl, h2, r2⟩ := trodAll_cons r1
  obtain ⟨rfl, rfl, rfl⟩ := trodAll_nil r2
  obtain rfl : args = #[v0, v1, v2] := by cases args; simp_all
  obtain ⟨rfl, rfl⟩ := trodVars_none hV
  obtain ⟨x0, rfl, rfl, rfl, g0⟩ := open_int Try.underlying5 (hval 0 5 v0 rfl rfl) h0
  have k1 := h1
  have lt1 : ∀ x ∈ p1, x.block < W.heap.size := by obtain ⟨m, hm⟩ := k1; exact DataW.trod_lt m _ _ _ hm
  obtain ⟨x1, rfl⟩ := open_rc (hval 1 23 v1 rfl rfl) h1
  obtain ⟨x2, rfl, rfl, rfl, g2⟩ := ChangeMaps.open_string Try.underlying9 (hval 2 9 v2 rfl rfl) h2
  clear hA0 hval0
  refine (lawRecordCodes_walk x0 x1 x2 W g0 g2).mono fun e W' ⟨he, bel⟩ => ?_
  subst he
  exact ⟨_, rfl, _, _, _, [], _, [], hW', trodAll_mk1 (shut_bool Try.underlying4 _), (trodAll_cons_mk (shut_int Try.underlying5 g0) (trodAll_cons_mk (Below.trod laidOut (by kernel_rfl) (of_decide_eq_true (by kernel_rfl)) k1 bel lt1) (trodAll_cons_mk (ChangeMaps.shut_string Try.underlying9 g2) trodAll_mk0))), rfl, bel.frame _, fun h => by cases h⟩

theorem lawRecordCodes_over : Rows.recordCodesRow.holds Try.pinned (OpenSpec.ofChange Rows.recordCodesSpec) :=
  OpenClaim.holds_of_wide 3 Try.f3 rfl rfl rfl rfl rfl rfl rfl ⟨rfl, rfl, rfl, rfl, rfl⟩ rfl rfl rfl rfl rfl (by kernel_rfl) Try.func3 (by kernel_rfl)
    (of_decide_eq_true (by kernel_rfl)) (by unfold Func.isWrapper; first | (rw [if_pos (by decide +kernel)]; kernel_rfl) | (rw [if_neg (by decide +kernel)]; exact ⟨rfl, rfl⟩))
    (fun os started H enc _ => lawRecordCodes_lifted os started H enc)

theorem recordCodes_holds : Rows.RecordCodesSaid := lawRecordCodes_over
#print axioms recordCodes_holds
end Go.Proofs.Ytapkookehogddaa
