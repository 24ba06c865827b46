/- Edges: twenty-seven numbers. No statement of the seat is proved here. -/
import Derived.Test.YtaiciopfinlpiaaLdRow
import Derived.Test.YtaiciopfinlpiaaLdOut
import Derived.Test.YtaiciopfinlpiaaLdStep2
namespace Go.Proofs.Ytaiciopfinlpiaa
open Go.RowKit

set_option maxHeartbeats 2000000 in
theorem edges_any (b : BldD) (A : Option Addr) (cap : Nat) (w : World) (hv : validE b = 0) :
    Calls Try.prog 10 #[b.agg A cap] w fun e w' => ∃ v zs, e = .returned v ∧ zs.length = 27 ∧ w'.ownsRow w.heap.size 22 1 v 27 (flts zs) ∧ Below w.heap.size w w' := by
  obtain ⟨i0, hi0, hz0, hz1, hz2⟩ := info_parts fltInfo
  obtain ⟨n0, n1, n2⟩ := loads_num hv
  clear hv
  obtain ⟨f, d, r, p, e1, e2, e3, cs⟩ := b
  simp only at n0 n1 n2
  have HN := Lib.hid (And.intro n0 (And.intro n1 n2))
  clear n0 n1 n2
  simp only [BldD.agg]
  go_enter Try.func10, Try.ntmps10
  go_wp2_with (first
    | (go_at_call 20; refine (copysign_any _ _ _).mono ?_; rintro e w' ⟨⟨r0, rfl⟩, rfl⟩)
    | (go_at_call 18; refine (nan_any _).mono ?_; rintro e w' ⟨rfl, rfl⟩)
    | (go_at_call 19; refine (inf_any 1 (by omega) _).mono ?_; rintro e w' ⟨rfl, rfl⟩)
    | (go_at_call 19; refine (infm_any _).mono ?_; rintro e w' ⟨rfl, rfl⟩))
  obtain ⟨W, hW⟩ : ∃ W, W = ((w.alloc (.cells #[.int .i64 f, .int .i64 d, .int .i64 r, .int .i64 p, .float .f64 e1, .float .f64 e2, .float .f64 e3, .slice A cs.length cap] 25)).alloc (.cells (flts [0, r0, 9221120237041090561, 9218868437227405312, 18442240474082181120, 9341994084744098649, 1, 9218868437227405311, 4607182418800017408]).toArray 22)).alloc (.cells #[.float .f64 e1, .float .f64 e2, .float .f64 e3] 22) := ⟨_, rfl⟩
  have hown0 : W.ownsRow w.heap.size 22 1 (.slice (some ⟨w.heap.size + 1, 0, none⟩) 9 9) 9 (flts [0, r0, 9221120237041090561, 9218868437227405312, 18442240474082181120, 9341994084744098649, 1, 9218868437227405311, 4607182418800017408]) := by
    rw [hW]
    have h := ownRow_new (w := w.alloc (.cells #[.int .i64 f, .int .i64 d, .int .i64 r, .int .i64 p, .float .f64 e1, .float .f64 e2, .float .f64 e3, .slice A cs.length cap] 25)) (base := w.heap.size) (n := 9) (cs := (flts [0, r0, 9221120237041090561, 9218868437227405312, 18442240474082181120, 9341994084744098649, 1, 9218868437227405311, 4607182418800017408]).toArray) (e := 22) (by simp) (by simp [flts]) (by omega)
    simp only [World.size_alloc] at h
    exact h.alloc _
  have hrow0 : W.heap[w.heap.size + 2]? = some (.cells #[.float .f64 e1, .float .f64 e2, .float .f64 e3] 22 (0, 0)) := by
    rw [hW]
    have := heap_alloc_new ((w.alloc (.cells #[.int .i64 f, .int .i64 d, .int .i64 r, .int .i64 p, .float .f64 e1, .float .f64 e2, .float .f64 e3, .slice A cs.length cap] 25)).alloc (.cells (flts [0, r0, 9221120237041090561, 9218868437227405312, 18442240474082181120, 9341994084744098649, 1, 9218868437227405311, 4607182418800017408]).toArray 22)) (.cells #[.float .f64 e1, .float .f64 e2, .float .f64 e3] 22)
    simpa using this
  have hbel0 : Below w.heap.size w W := by rw [hW]; go_grown
  have H0 := Lib.hid (And.intro hown0 (And.intro hrow0 hbel0))
  clear hown0 hrow0 hbel0
  go_loopw [3, 19] (fun v i wr => ∃ (k : Nat) (zs : List Nat), k ≤ 3 ∧ i = .int .i64 k ∧ zs.length = 9 + 6 * k ∧ wr.ownsRow w.heap.size 22 1 v (9 + 6 * k) (flts zs) ∧ v.ownBlock ≠ some (w.heap.size + 2) ∧ wr.heap[w.heap.size + 2]? = some (.cells #[.float .f64 e1, .float .f64 e2, .float .f64 e3] 22 (0, 0)) ∧ Below w.heap.size w wr) (fun _ i _ => 3 - (intOf i).toNat)
  case atStart => exact ⟨0, _, by omega, rfl, rfl, hW ▸ H0.out.1, by simp [Value.ownBlock], hW ▸ H0.out.2.1, hW ▸ H0.out.2.2⟩
  case round =>
    obtain ⟨k, zs, hk, rfl, hlen, hown, hne, hrow, hbel⟩ := hrel
    by_cases hlt : k < 3
    · obtain ⟨t, ht, hnt⟩ : ∃ t, wr.cell? ⟨w.heap.size + 2, k, none⟩ = some (.float .f64 t) ∧ nanB t = false := by
        match k, hlt with
        | 0, _ => exact ⟨e1, cell_of_row _ _ _ _ _ (0, 0) hrow, HN.out.1⟩
        | 1, _ => exact ⟨e2, cell_of_row _ _ _ _ _ (0, 0) hrow, HN.out.2.1⟩
        | 2, _ => exact ⟨e3, cell_of_row _ _ _ _ _ (0, 0) hrow, HN.out.2.2⟩
      have hsub := fun ty w => sub_run (P := Try.prog) hnt ty w
      have HR := Lib.hid (And.intro hown (And.intro hne (And.intro hrow hbel)))
      clear hnt hown hne hrow hbel
      have hm63 : 9 + 6 * k + 6 ≤ maxLen := by unfold maxLen; omega
      go_wp2_with (first
        | (go_at_call 23; refine (nextafter_any _ _ _).mono ?_; rintro e w' ⟨⟨r1, rfl⟩, rfl⟩)
        | (at_builtin; refine wpList_append_lies _ rfl (.tmp 23) (.tmp 37) 29 rfl w.heap.size 22 i0 _ 1 8 Try.underlying29 hi0 hz0 hz1 hz2 rfl (by decide) u3 (9 + 6 * k) (flts zs) rfl (HR.out.1.alloc _) ⟨wr.heap.size, 0, none⟩ 6 6 _ rfl ?hl (World.news_of_block (heap_alloc_new _ _)) ?h1 (by decide) hm63 ?hby ?hbase _ rfl ?hK))
      case h1 => exact ⟨rfl, rfl, rfl, rfl, rfl, rfl⟩
      case hby => omega
      case hbase => have := HR.out.2.2.2.size; simp; omega
      rename_i ra rb rc
      intro g cap' w' hown' hgrow hg hglt
      have hwz := HR.out.2.2.2.size
      have hrz : w.heap.size + 2 < wr.heap.size := by
        rcases Nat.lt_or_ge (w.heap.size + 2) wr.heap.size with h | h
        · exact h
        · have := HR.out.2.2.1; rw [Array.getElem?_eq_none h] at this; cases this
      have hrow' : w'.heap[w.heap.size + 2]? = some (.cells #[.float .f64 e1, .float .f64 e2, .float .f64 e3] 22 (0, 0)) :=
        (hgrow.block _ (by simp; omega) (fun e => HR.out.2.1 e.symm)).trans ((Below.heap_alloc _ _ _ (by omega)).trans HR.out.2.2.1)
      have hbel' := (HR.out.2.2.2.alloc hwz _).grown hgrow (by simp; omega) (fun k hk => (HR.out.1.lt k hk).1)
      have hne' : (Value.slice (some ⟨g, 0, none⟩) (9 + 6 * k + 6) cap').ownBlock ≠ some (w.heap.size + 2) := by
        simp only [Value.ownBlock, ne_eq, Option.some.injEq]
        rintro rfl
        rcases hg with h | h
        · exact HR.out.2.1 h
        · simp at h; omega
      have HF := Lib.hid (And.intro hown' (And.intro hne' (And.intro hrow' hbel')))
      clear hown' hne' hrow' hbel' hgrow hg
      go_wp2_with fail
      go_roundw
      case rel =>
        refine ⟨k + 1, zs ++ [t, ra, rb, lessB t, rc, r1], by omega, by go_num, by rw [List.length_append, hlen]; simp; omega, ?_, HF.out.2⟩
        rw [flts_app]
        exact HF.out.1
      case measure => simp [intOf]; omega
    · obtain rfl : k = 3 := by omega
      have HR := Lib.hid (And.intro hown hbel)
      clear hown hne hrow hbel
      go_wp2_with fail
      go_ret
      exact ⟨_, zs, rfl, hlen, HR.out.1, HR.out.2⟩
end Go.Proofs.Ytaiciopfinlpiaa
