/- overlaylaw02.sane: the sanity check of the layer's laws. No statement of the seat is proved here. -/
import Derived.Test.YtapkjknpoafhjaaCrcFlip
import Derived.ChangeSame
import Derived.ChangeOld
import Derived.ChangeMaps5
namespace Go.Proofs.Ytapkjknpoafhjaa
open Go.RowKit

theorem laidOut : laidOutB Try.prog = true := by kernel_rfl
theorem own : ownKnob Try.prog.godebug = none := by kernel_rfl
theorem u16_nat {x : Int} (h : (Lit.int .u16 x).wf = true) : ∃ n : Nat, x = (n : Int) ∧ n < 65536 := by
  simp [Lit.wf, IntKind.min, IntKind.max, IntKind.bits, IntKind.signed] at h
  exact ⟨x.toNat, by omega, by omega⟩

theorem openOk_seal (l : List UInt8) : openOk (sealL l) = true := by
  rw [openOk_at (by rw [sealL_length]; omega), sealL_length]
  simp [sealL]
theorem openS_seal (l : List UInt8) : openS (sealL l) = l := by
  unfold openS; rw [openOk_seal, if_pos rfl, sealL_length]; simp [sealL]
theorem openE_seal (l : List UInt8) : openE (sealL l) = 0 := by
  unfold openE; rw [openOk_seal, if_neg (by rw [sealL_length]; omega), if_pos rfl]
theorem sum16_seal (l : List UInt8) : sum16 (sealL l) = 0 := by
  unfold sum16 sealL
  rw [Crc.reg_append]
  exact Crc.reg_end (sum16_lt l)
/-- What is opened has the sum 0. -/
theorem sum16_open {l : List UInt8} (h : openOk l = true) : sum16 l = 0 := by
  unfold openOk at h
  have h' := of_decide_eq_true h
  have : l = sealL (l.take (l.length - 2)) := by
    unfold sealL; rw [← h'.2, List.take_append_drop]
  rw [this]; exact sum16_seal _
theorem openE_bad {l : List UInt8} (h2 : 2 ≤ l.length) (h : sum16 l ≠ 0) : openE l = 5 := by
  unfold openE
  rw [if_neg (by omega), if_neg (fun hk => h (sum16_open hk))]

theorem openSeal_any (l : List UInt8) (w : World) (hl : l.length ≤ 900000) :
    Calls Try.prog 63 #[.string ⟨(sealL l).toArray⟩] w fun e w' => e = .returned (.tuple #[.string ⟨l.toArray⟩, .int .i64 0]) ∧ Below w.heap.size w w' := by
  refine (open_any ⟨(sealL l).toArray⟩ w ?_).mono ?_
  · show (sealL l).toArray.size ≤ 1000000
    rw [List.size_toArray, sealL_length]; omega
  · rintro e w' ⟨rfl, hb⟩
    refine ⟨ret_open ?_ ?_, hb⟩
    · rw [bytes_u, openS_seal]
    · rw [bytes_u, openE_seal]

theorem sealLift_any (w : World) : Calls Try.prog 54 #[.string ⟨#[108, 105, 102, 116]⟩] w fun e w' => e = .returned (.string ⟨(sealL [108, 105, 102, 116]).toArray⟩) ∧ Below w.heap.size w w' :=
  seal_any ⟨#[108, 105, 102, 116]⟩ w (by decide)
theorem openX_any (w : World) : Calls Try.prog 63 #[.string ⟨#[120]⟩] w fun e w' => e = .returned (.tuple #[.string ⟨#[]⟩, .int .i64 4]) ∧ Below w.heap.size w w' :=
  (open_any ⟨#[120]⟩ w (by decide)).mono fun e w' ⟨he, hb⟩ => ⟨he.trans (ret_open (by decide +kernel) (by decide +kernel)), hb⟩
theorem sum16Nine_any (w : World) : Calls Try.prog 83 #[.string ⟨#[49, 50, 51, 52, 53, 54, 55, 56, 57]⟩] w fun e w' => e = .returned (.int .u16 10673) ∧ w = w' :=
  (sum16_any ⟨#[49, 50, 51, 52, 53, 54, 55, 56, 57]⟩ w (by decide)).mono fun e w' ⟨he, hb⟩ => ⟨he.trans (ret_u16 (by decide +kernel)), hb⟩
end Go.Proofs.Ytapkjknpoafhjaa
