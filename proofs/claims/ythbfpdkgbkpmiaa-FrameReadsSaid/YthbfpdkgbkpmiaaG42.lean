/- What the texts behind this one rest on: several texts in one. No statement of the seat is proved here. -/
import Derived.Test.YthbfpdkgbkpmiaaG24
import Derived.Test.YthbfpdkgbkpmiaaRdOutTop
import Derived.Test.YthbfpdkgbkpmiaaG7
import Derived.Great.BuildSlice
import Derived.ChangeKeysEq
namespace Go.Proofs.Ythbfpdkgbkpmiaa
section
open Go.RowKit Frm

def Kind.cosR (k : Kind) : List UInt8 → List CarOut → List CarOut
  | _, [] => []
  | l, c :: cs => k.coR l c :: k.cosR (k.coN l c) cs
theorem Kind.cosR_map (k : Kind) : ∀ (cs : List CarOut) (l : List UInt8), (List.range cs.length).map (fun i => k.coAt l cs i) = k.cosR l cs
  | [], l => rfl
  | c :: cs, l => by
    rw [List.length_cons, List.range_succ_eq_map, List.map_cons, List.map_map, Kind.cosR, ← Kind.cosR_map k cs (k.coN l c)]
    congr 1
theorem Kind.cosR_length (k : Kind) : ∀ (cs : List CarOut) (l : List UInt8), (k.cosR l cs).length = cs.length
  | [], _ => rfl
  | c :: cs, l => by rw [Kind.cosR, List.length_cons, List.length_cons, Kind.cosR_length k cs]
def coB (c : CarOut) : List UInt8 := numL c.iu 4 ++ (numL c.id 4 ++ (numL c.lu 4 ++ (numL c.ld 4 ++ (numL (flg c.flags) 1 ++ (numL (m64 c.cmd) 1 ++ numL (m64 c.ph) 1)))))
theorem coB_length (c : CarOut) : (coB c).length = 19 := by simp [coB, numL_length]
theorem coN_wr (t : List UInt8) (c : CarOut) : Kind.coN .wr t c = t ++ coB c := by
  simp [Kind.coN, Kind.coL4, Kind.coL3, Kind.coL2, Kind.coL1, Kind.next, coB]
def fitCo (c : CarOut) : Prop := (c.iu < 4294967296 ∧ c.id < 4294967296) ∧ (c.lu < 4294967296 ∧ c.ld < 4294967296) ∧ (0 ≤ c.cmd ∧ c.cmd < 256) ∧ (0 ≤ c.ph ∧ c.ph < 256)
def okCo (c : CarOut) (u d : Nat) : Prop := (setB c.iu u = true ∧ setB c.id d = true) ∧ (setB c.lu u = true ∧ setB c.ld d = true) ∧ inB 0 5 c.cmd = true ∧ inB 0 4 c.ph = true
theorem co_read (c c0 : CarOut) (r : List UInt8) (h : fitCo c) : Kind.coR .rd (coB c ++ r) c0 = c ∧ Kind.coN .rd (coB c ++ r) c0 = r ∧ ∀ u d, okCo c u d → Kind.coOk .rd (coB c ++ r) c0 u d := by
  obtain ⟨⟨h1, h2⟩, ⟨h3, h4⟩, ⟨h5, h5'⟩, h6, h6'⟩ := h
  have hq : flg c.flags < 8 := flg_lt c.flags
  have e0 : coB c ++ r = numL c.iu 4 ++ (numL c.id 4 ++ (numL c.lu 4 ++ (numL c.ld 4 ++ (numL (flg c.flags) 1 ++ (numL (m64 c.cmd) 1 ++ (numL (m64 c.ph) 1 ++ r)))))) := by simp [coB]
  have n0 : Kind.next .rd (coB c ++ r) c0.iu 4 = numL c.id 4 ++ (numL c.lu 4 ++ (numL c.ld 4 ++ (numL (flg c.flags) 1 ++ (numL (m64 c.cmd) 1 ++ (numL (m64 c.ph) 1 ++ r))))) := by rw [e0, rd_next_app]
  have n1 : Kind.coL1 .rd (coB c ++ r) c0 = numL c.lu 4 ++ (numL c.ld 4 ++ (numL (flg c.flags) 1 ++ (numL (m64 c.cmd) 1 ++ (numL (m64 c.ph) 1 ++ r)))) := by unfold Kind.coL1; rw [n0, rd_next_app]
  have n1' : Kind.next .rd (Kind.coL1 .rd (coB c ++ r) c0) c0.lu 4 = numL c.ld 4 ++ (numL (flg c.flags) 1 ++ (numL (m64 c.cmd) 1 ++ (numL (m64 c.ph) 1 ++ r))) := by rw [n1, rd_next_app]
  have n2 : Kind.coL2 .rd (coB c ++ r) c0 = numL (flg c.flags) 1 ++ (numL (m64 c.cmd) 1 ++ (numL (m64 c.ph) 1 ++ r)) := by unfold Kind.coL2; rw [n1', rd_next_app]
  have n3 : Kind.coL3 .rd (coB c ++ r) c0 = numL (m64 c.cmd) 1 ++ (numL (m64 c.ph) 1 ++ r) := by unfold Kind.coL3; rw [n2, rd_next_app]
  have n4 : Kind.coL4 .rd (coB c ++ r) c0 = numL (m64 c.ph) 1 ++ r := by unfold Kind.coL4; rw [n3, rd_next_app]
  have n5 : Kind.coN .rd (coB c ++ r) c0 = r := by unfold Kind.coN; rw [n4, rd_next_app]
  have v0 : Kind.num .rd (coB c ++ r) c0.iu 4 = c.iu := by rw [e0, rd_num_app _ _ _ _ h1]
  have v1 : Kind.num .rd (Kind.next .rd (coB c ++ r) c0.iu 4) c0.id 4 = c.id := by rw [n0, rd_num_app _ _ _ _ h2]
  have v2 : Kind.num .rd (Kind.coL1 .rd (coB c ++ r) c0) c0.lu 4 = c.lu := by rw [n1, rd_num_app _ _ _ _ h3]
  have v3 : Kind.num .rd (Kind.next .rd (Kind.coL1 .rd (coB c ++ r) c0) c0.lu 4) c0.ld 4 = c.ld := by rw [n1', rd_num_app _ _ _ _ h4]
  have vq : Kind.coQ .rd (coB c ++ r) c0 = flg c.flags := by unfold Kind.coQ; rw [n2, rd_num_app _ _ _ _ (by omega)]
  have v5 : Kind.numI .rd (Kind.coL3 .rd (coB c ++ r) c0) c0.cmd 1 = c.cmd := by rw [n3, rd_numI_app _ _ _ _ h5 (by omega) (by omega)]
  have v6 : Kind.numI .rd (Kind.coL4 .rd (coB c ++ r) c0) c0.ph 1 = c.ph := by rw [n4, rd_numI_app _ _ _ _ h6 (by omega) (by omega)]
  refine ⟨?_, n5, fun u d k => ⟨⟨by rw [v0]; exact k.1.1, by rw [v1]; exact k.1.2⟩, ⟨by rw [v2]; exact k.2.1.1, by rw [v3]; exact k.2.1.2⟩, by rw [vq]; exact hq, by rw [v5]; exact k.2.2.1, by rw [v6]; exact k.2.2.2⟩⟩
  obtain ⟨iu, id, cut, lu, ld, gong, cmd, ph, flag⟩ := c
  simp only [Kind.coR, Kind.co4, Kind.co3, Kind.co2, Kind.co1]
  rw [vq, v0, v1, v2, v3, v5, v6]
  simp only [flg_testBit, CarOut.flags]
  rfl
theorem cosN_wr : ∀ (cs : List CarOut) (t : List UInt8), Kind.cosN .wr t cs = t ++ cs.flatMap coB
  | [], t => by simp [Kind.cosN]
  | c :: cs, t => by rw [Kind.cosN, cosN_wr cs, coN_wr, List.flatMap_cons, List.append_assoc]
theorem cos_read (u d : Nat) : ∀ (cs : List CarOut) (r : List UInt8), (∀ c ∈ cs, fitCo c) → (∀ c ∈ cs, okCo c u d) →
    Kind.cosR .rd (cs.flatMap coB ++ r) (List.replicate cs.length default) = cs ∧ Kind.cosN .rd (cs.flatMap coB ++ r) (List.replicate cs.length default) = r ∧
      ∀ i (h : i < (List.replicate cs.length (default : CarOut)).length), Kind.coOk .rd (Kind.cosN .rd (cs.flatMap coB ++ r) ((List.replicate cs.length default).take i)) (List.replicate cs.length default)[i] u d
  | [], r, _, _ => ⟨rfl, rfl, fun i h => absurd h (by simp)⟩
  | c :: cs, r, hf, hk => by
    obtain ⟨m1, m2, m3⟩ := co_read c default (cs.flatMap coB ++ r) (hf c (by simp))
    obtain ⟨p1, p2, p3⟩ := cos_read u d cs r (fun c hc => hf c (by simp [hc])) (fun c hc => hk c (by simp [hc]))
    have e : (c :: cs).flatMap coB ++ r = coB c ++ (cs.flatMap coB ++ r) := by rw [List.flatMap_cons, List.append_assoc]
    have er : List.replicate (c :: cs).length (default : CarOut) = default :: List.replicate cs.length default := by rw [List.length_cons, List.replicate_succ]
    rw [e]
    simp only [er]
    refine ⟨?_, ?_, fun i h => ?_⟩
    · rw [Kind.cosR, m1, m2, p1]
    · rw [Kind.cosN, m2, p2]
    · cases i with
      | zero => exact m3 u d (hk c (by simp))
      | succ i =>
        have := p3 i (by simpa using h)
        rw [List.take_succ_cons, Kind.cosN, m2]
        exact this
/-- The bytes of what stands ahead of the cars. -/
def ohB (h : OutH) : List UInt8 := numL h.au 4 ++ (numL h.ad 4 ++ (numL h.su 4 ++ (numL h.sd 4 ++ (numL (flg h.flags) 1 ++ numL (m64 h.st) 2))))
theorem ohN_wr (t : List UInt8) (h : OutH) : Kind.ohN .wr t h = t ++ ohB h := by
  simp [Kind.ohN, Kind.ohL3, Kind.ohL2, Kind.ohL1, Kind.next, ohB]
def fitOh (h : OutH) : Prop := (h.au < 4294967296 ∧ h.ad < 4294967296) ∧ (h.su < 4294967296 ∧ h.sd < 4294967296) ∧ (0 ≤ h.st ∧ h.st < 65536)
def okOh (h : OutH) (u d : Nat) : Prop := (setB h.au u = true ∧ setB h.ad d = true) ∧ (setB h.su u = true ∧ setB h.sd d = true) ∧ inB 0 65535 h.st = true
theorem oh_read (c c0 : OutH) (r : List UInt8) (h : fitOh c) : Kind.ohR .rd (ohB c ++ r) c0 = c ∧ Kind.ohN .rd (ohB c ++ r) c0 = r ∧ ∀ u d, okOh c u d → Kind.ohOk .rd (ohB c ++ r) c0 u d := by
  obtain ⟨⟨h1, h2⟩, ⟨h3, h4⟩, h5, h5'⟩ := h
  have hq : flg c.flags < 4 := flg_lt c.flags
  have e0 : ohB c ++ r = numL c.au 4 ++ (numL c.ad 4 ++ (numL c.su 4 ++ (numL c.sd 4 ++ (numL (flg c.flags) 1 ++ (numL (m64 c.st) 2 ++ r))))) := by simp [ohB]
  have n0 : Kind.next .rd (ohB c ++ r) c0.au 4 = numL c.ad 4 ++ (numL c.su 4 ++ (numL c.sd 4 ++ (numL (flg c.flags) 1 ++ (numL (m64 c.st) 2 ++ r)))) := by rw [e0, rd_next_app]
  have n1 : Kind.ohL1 .rd (ohB c ++ r) c0 = numL c.su 4 ++ (numL c.sd 4 ++ (numL (flg c.flags) 1 ++ (numL (m64 c.st) 2 ++ r))) := by unfold Kind.ohL1; rw [n0, rd_next_app]
  have n1' : Kind.next .rd (Kind.ohL1 .rd (ohB c ++ r) c0) c0.su 4 = numL c.sd 4 ++ (numL (flg c.flags) 1 ++ (numL (m64 c.st) 2 ++ r)) := by rw [n1, rd_next_app]
  have n2 : Kind.ohL2 .rd (ohB c ++ r) c0 = numL (flg c.flags) 1 ++ (numL (m64 c.st) 2 ++ r) := by unfold Kind.ohL2; rw [n1', rd_next_app]
  have n3 : Kind.ohL3 .rd (ohB c ++ r) c0 = numL (m64 c.st) 2 ++ r := by unfold Kind.ohL3; rw [n2, rd_next_app]
  have n5 : Kind.ohN .rd (ohB c ++ r) c0 = r := by unfold Kind.ohN; rw [n3, rd_next_app]
  have v0 : Kind.num .rd (ohB c ++ r) c0.au 4 = c.au := by rw [e0, rd_num_app _ _ _ _ h1]
  have v1 : Kind.num .rd (Kind.next .rd (ohB c ++ r) c0.au 4) c0.ad 4 = c.ad := by rw [n0, rd_num_app _ _ _ _ h2]
  have v2 : Kind.num .rd (Kind.ohL1 .rd (ohB c ++ r) c0) c0.su 4 = c.su := by rw [n1, rd_num_app _ _ _ _ h3]
  have v3 : Kind.num .rd (Kind.next .rd (Kind.ohL1 .rd (ohB c ++ r) c0) c0.su 4) c0.sd 4 = c.sd := by rw [n1', rd_num_app _ _ _ _ h4]
  have vq : Kind.ohQ .rd (ohB c ++ r) c0 = flg c.flags := by unfold Kind.ohQ; rw [n2, rd_num_app _ _ _ _ (by omega)]
  have v5 : Kind.numI .rd (Kind.ohL3 .rd (ohB c ++ r) c0) c0.st 2 = c.st := by rw [n3, rd_numI_app _ _ _ _ h5 (by omega) (by omega)]
  refine ⟨?_, n5, fun u d k => ⟨⟨by rw [v0]; exact k.1.1, by rw [v1]; exact k.1.2⟩, ⟨by rw [v2]; exact k.2.1.1, by rw [v3]; exact k.2.1.2⟩, by rw [vq]; exact hq, by rw [v5]; exact k.2.2⟩⟩
  obtain ⟨au, ad, su, sd, bad, full, st⟩ := c
  simp only [Kind.ohR, Kind.oh3, Kind.oh2, Kind.oh1]
  rw [vq, v0, v1, v2, v3, v5]
  simp only [flg_testBit, OutH.flags]
  rfl
def ouB (y : Ou) : List UInt8 := ohB y.h ++ y.cars.flatMap coB
theorem ouN_wr (t : List UInt8) (y : Ou) : Kind.ouN .wr t y = t ++ ouB y := by
  rw [Kind.ouN, cosN_wr, ohN_wr, ouB, List.append_assoc]
/-- What Out accepts, plainly. -/
theorem ouOk_wr {t : List UInt8} {y : Ou} {u d C : Nat} (ok : Kind.ouOk .wr t y u d C) : y.cars.length = C ∧ okOh y.h u d ∧ ∀ c ∈ y.cars, okCo c u d := by
  obtain ⟨h1, ⟨k1, k2, k3, k4⟩, h3⟩ := ok
  refine ⟨h1, ⟨k1, k2, k4⟩, fun c hc => ?_⟩
  obtain ⟨i, hi, rfl⟩ := List.mem_iff_getElem.1 hc
  obtain ⟨m1, m2, _, m4, m5⟩ := h3 i hi
  exact ⟨m1, m2, m4, m5⟩
theorem ou_read (t : List UInt8) (y : Ou) (u d C : Nat) (hy : saneOu y) (ok : Kind.ouOk .wr t y u d C) :
    Kind.ouOk .rd (ouB y) (noOu C) u d C ∧ Kind.ouR .rd (ouB y) (noOu C) = y := by
  obtain ⟨h1, h2, h3⟩ := ouOk_wr ok
  obtain ⟨hd0, cs⟩ := y
  obtain ⟨hsh, hcs⟩ := hy
  simp only at h1 h2 h3 hsh hcs
  subst h1
  have f1 : fitOh hd0 := ⟨hsh.1, hsh.2.1, by have := inB_iff.1 h2.2.2; omega, by have := inB_iff.1 h2.2.2; omega⟩
  obtain ⟨p1, p2, p3⟩ := oh_read hd0 noOh (cs.flatMap coB) f1
  obtain ⟨q1, q2, q3⟩ := cos_read u d cs [] (fun c h => ⟨(hcs c h).1, (hcs c h).2.1, by have := inB_iff.1 (h3 c h).2.2.1; omega, by have := inB_iff.1 (h3 c h).2.2.2; omega⟩) h3
  rw [List.append_nil] at q1 q2 q3
  refine ⟨⟨by simp [noOu], p3 u d h2, ?_⟩, ?_⟩
  · show ∀ i (h : i < (noOu cs.length).cars.length), Kind.coOk .rd (Kind.cosN .rd (Kind.ohN .rd (ohB hd0 ++ cs.flatMap coB) noOh) ((noOu cs.length).cars.take i)) (noOu cs.length).cars[i] u d
    rw [p2]; exact q3
  · have hm : (Kind.ouR .rd (ouB ⟨hd0, cs⟩) (noOu cs.length)).cars = cs := by
      have h := Kind.cosR_map .rd (noOu cs.length).cars (Kind.ohN .rd (ohB hd0 ++ cs.flatMap coB) noOh)
      refine Eq.trans h ?_
      rw [p2]; exact q1
    have hh : (Kind.ouR .rd (ouB ⟨hd0, cs⟩) (noOu cs.length)).h = hd0 := p1
    generalize Kind.ouR .rd (ouB ⟨hd0, cs⟩) (noOu cs.length) = Z at *
    obtain ⟨z1, z2⟩ := Z
    simp only at hm hh
    rw [hm, hh]
/-- The frame of valid outputs is read, and gives them. -/
theorem frame_readO {x : BldD} {y : Ou} (hy : saneOu y) (ok : ouOk x y) : openOkOut x ⟨(ouText x y).toArray⟩ ∧ readOkOut x ⟨(ouText x y).toArray⟩ ∧ ouOf x ⟨(ouText x y).toArray⟩ = y := by
  obtain ⟨hv, ok⟩ := ok
  have hF := fine_of hv
  have hb : bl ⟨(ouText x y).toArray⟩ = sealL (headL 90 x.cars.length ++ ouB y) := by
    show ouText x y = _
    unfold ouText; rw [ouN_wr]
  have hl : (ouB y).length = 19 + 19 * x.cars.length := by
    have h := ouN_length (headL 90 x.cars.length) y
    rw [ouN_wr, List.length_append] at h
    have h2 : (headL 90 x.cars.length).length = 2 := rfl
    rw [h2, ok.1] at h
    omega
  have hbody : bodyL ⟨(ouText x y).toArray⟩ = ouB y := by
    unfold bodyL
    rw [hb, openS_seal, List.drop_left' (show (headL 90 x.cars.length).length = 2 from rfl)]
  obtain ⟨k1, k2⟩ := ou_read (headL 90 x.cars.length) y (hallUp x) (hallDown x) x.cars.length hy ok
  refine ⟨⟨hv, ?_, ?_, ?_⟩, ?_, ?_⟩
  · have : (⟨(ouText x y).toArray⟩ : ByteArray).size = (bl ⟨(ouText x y).toArray⟩).length := (bl_len _).symm
    rw [this, hb, sealL_length, List.length_append, hl]
    have h2 : (headL 90 x.cars.length).length = 2 := rfl
    rw [h2]
    omega
  · rw [hb]
    unfold sealL
    rw [List.append_assoc, List.take_left' (show (headL 90 x.cars.length).length = 2 from rfl)]
  · rw [hb, openOk_seal]
  · unfold readOkOut; rw [hbody]; exact k1
  · unfold ouOf; rw [hbody]; exact k2
end

section
open Go Go.RowKit Frm

theorem bytes_backB {P : Program} {W W' : World} {g : Nat} {l : List UInt8} (h : BytesAt W g l) (hb : Below W.heap.size W W') (hg : g < W.heap.size) (src dst e : TypeId) (n cap : Nat) (hn : n = l.length)
    (hs : P.underlying src = some (.slice e)) (he : P.underlying e = some (.int .u8)) (hd : P.underlying dst = some .string) :
    (convert src dst (.slice (some ⟨g, 0, none⟩) n cap)).run P W' = .ok (.string ⟨l.toArray⟩) W' := by
  subst hn
  refine run_convert_bytes_back _ _ _ e _ cap l hs he hd fun j hj => ?_
  rw [addr_add, hb.cell (p := ⟨g, j, none⟩) hg, (h j hj).1]
  simp [List.getD, hj]
theorem strInfoB : (Try.prog.info? 9).map (fun i => (i.zero, i.size, i.bytes)) = some (some (.string ⟨#[]⟩), 1, 16) := by kernel_rfl
theorem wpList_two {ops : Array Oper} {rest : List Oper} {o : Oper} {a : Act} {w : World} {Q : Exit → Act → World → Prop} (hg : o.guard = none) (x y : Operand) (ho : o.op = .buildSlice 56 2 #[(0, x), (1, y)]) (s t : ByteArray) (hx : a.eval x = .string s) (hy : a.eval y = .string t)
    (h : wpList Try.prog ops Q rest (a.put o.dst (.slice (some ⟨w.heap.size, 0, none⟩) 2 2)) (w.alloc (.cells #[.string s, .string t] 9))) : wpList Try.prog ops Q (o :: rest) a w := by
  obtain ⟨i, hi, hz, hsz, _⟩ := info_parts strInfoB
  refine wpList_buildSlice hg 56 9 2 _ ho #[.string s, .string t] i _ Try.underlying56 hi hz (by rw [hsz]; decide) (by rw [hsz]; decide) ?_ h
  rw [hsz]
  have e : ((#[(0, x), (1, y)] : Array (Nat × Operand)).map fun (i, x) => (i, a.eval x)).toList = [(0, .string s), (1, .string t)] := by
    simp [hx, hy]
  have er : Array.range (2 * 1) = #[0, 1] := by decide
  rw [e, er]
  simp [Instr.fill, Value.cells]
end

section
open Go.RowKit Frm

theorem part_row {t : TypeId} {d : TypeDesc} {n off : Nat} {cs : Array Value} (w : World) (hu : Try.prog.underlying t = some d) (hd : d.isRow = true) (hi : (Try.prog.info? t).map (·.size) = some n) : (part t cs off).run Try.prog w = .ok (.agg (cs.extract off (off + n))) w := by
  cases hq : Try.prog.info? t with
  | none => simp [hq] at hi
  | some i =>
    have hs : i.size = n := by simpa [hq] using hi
    have hagg : (isAgg t).run Try.prog w = .ok true w := by
      unfold isAgg
      rw [Sem.run_bind, run_underlying hu w]
      cases d <;> simp_all
    simp [part, Sem.run_bind, hagg, sizeOf, typeInfo, hq, hs]
theorem fieldsCalls : Try.prog.underlying 28 = some (.struct (Try.prog.fieldsOf 28)) := by kernel_rfl
theorem stoodCalls : Try.prog.stoodInHeld 28 = false := by kernel_rfl
theorem listCalls : (Try.prog.fieldsOf 28).toList = [{ name := "Up", type := 26, offset := 0, embedded := false, tag := "", pkgPath := "", byteOffset := 0 }, { name := "Down", type := 26, offset := 1, embedded := false, tag := "", pkgPath := "", byteOffset := 4 }] := by kernel_rfl
theorem infoCalls : (Try.prog.info? 28).map (·.size) = some 2 := by kernel_rfl
theorem infoCoils : (Try.prog.info? 91).map (·.size) = some 3 := by kernel_rfl
theorem equalCalls (d : Nat) (a b : Nat) (w : World) : (Op.equalIn (d + 2) 28 (.agg #[.int .u32 a, .int .u32 b]) (.agg #[.int .u32 a, .int .u32 b])).run Try.prog w = .ok true w := by
  rw [run_equalIn_struct w (d + 1) 28 _ _ fieldsCalls stoodCalls, listCalls]
  have h0 := fun (xs : Array Value) off v => run_part_plain (P := Try.prog) w (e := 26) (off := off) (xs := xs) (v := v) (by kernel_rfl)
  have p0 := fun a b => h0 #[a, b] 0 a rfl
  have p1 := fun a b => h0 #[a, b] 1 b rfl
  simp [Op.eqFields, p0, p1, run_equalIn_int w d 26 .u32 .u32 _ _ Try.underlying26]
theorem fieldsCoils : Try.prog.underlying 91 = some (.struct (Try.prog.fieldsOf 91)) := by kernel_rfl
theorem stoodCoils : Try.prog.stoodInHeld 91 = false := by kernel_rfl
theorem listCoils : (Try.prog.fieldsOf 91).toList = [{ name := "Inject", type := 28, offset := 0, embedded := false, tag := "", pkgPath := "", byteOffset := 0 }, { name := "CutOut", type := 4, offset := 2, embedded := false, tag := "", pkgPath := "", byteOffset := 8 }] := by kernel_rfl
theorem equalCoils (d : Nat) (a b : Nat) (c : Bool) (w : World) : (Op.equalIn (d + 3) 91 (.agg #[.int .u32 a, .int .u32 b, .bool c]) (.agg #[.int .u32 a, .int .u32 b, .bool c])).run Try.prog w = .ok true w := by
  rw [run_equalIn_struct w (d + 2) 91 _ _ fieldsCoils stoodCoils, listCoils]
  have q0 : (part 28 #[.int .u32 a, .int .u32 b, .bool c] 0).run Try.prog w = .ok (.agg #[.int .u32 a, .int .u32 b]) w := part_row (cs := #[.int .u32 a, .int .u32 b, .bool c]) (off := 0) (n := 2) w Try.underlying28 rfl infoCalls
  have q1 : (part 4 #[.int .u32 a, .int .u32 b, .bool c] 2).run Try.prog w = .ok (.bool c) w := run_part_plain w (by kernel_rfl) rfl
  simp [Op.eqFields, q0, q1, equalCalls d a b w, run_equalIn_bool w (d + 1) 4 _ _ Try.underlying4]
theorem fieldsCo : Try.prog.underlying 93 = some (.struct (Try.prog.fieldsOf 93)) := by kernel_rfl
theorem stoodCo : Try.prog.stoodInHeld 93 = false := by kernel_rfl
theorem listCo : (Try.prog.fieldsOf 93).toList = [{ name := "Coils", type := 91, offset := 0, embedded := false, tag := "", pkgPath := "", byteOffset := 0 }, { name := "Lantern", type := 28, offset := 3, embedded := false, tag := "", pkgPath := "", byteOffset := 12 }, { name := "Gong", type := 4, offset := 5, embedded := false, tag := "", pkgPath := "", byteOffset := 20 }, { name := "Command", type := 3, offset := 6, embedded := false, tag := "", pkgPath := "", byteOffset := 24 }, { name := "Phase", type := 3, offset := 7, embedded := false, tag := "", pkgPath := "", byteOffset := 32 }, { name := "Flag", type := 4, offset := 8, embedded := false, tag := "", pkgPath := "", byteOffset := 40 }] := by kernel_rfl
theorem equalCo (d : Nat) (c : CarOut) (w : World) : (Op.equalIn (d + 4) 93 (.agg (coV c).toArray) (.agg (coV c).toArray)).run Try.prog w = .ok true w := by
  rw [run_equalIn_struct w (d + 3) 93 _ _ fieldsCo stoodCo, listCo]
  obtain ⟨iu, id, cut, lu, ld, gong, cmd, ph, flag⟩ := c
  have q0 : (part 91 (coV ⟨iu, id, cut, lu, ld, gong, cmd, ph, flag⟩).toArray 0).run Try.prog w = .ok (.agg #[.int .u32 iu, .int .u32 id, .bool cut]) w := part_row (cs := (coV ⟨iu, id, cut, lu, ld, gong, cmd, ph, flag⟩).toArray) (off := 0) (n := 3) w Try.underlying91 rfl infoCoils
  have q1 : (part 28 (coV ⟨iu, id, cut, lu, ld, gong, cmd, ph, flag⟩).toArray 3).run Try.prog w = .ok (.agg #[.int .u32 lu, .int .u32 ld]) w := part_row (cs := (coV ⟨iu, id, cut, lu, ld, gong, cmd, ph, flag⟩).toArray) (off := 3) (n := 2) w Try.underlying28 rfl infoCalls
  have q2 : (part 4 (coV ⟨iu, id, cut, lu, ld, gong, cmd, ph, flag⟩).toArray 5).run Try.prog w = .ok (.bool gong) w := run_part_plain w (by kernel_rfl) rfl
  have q3 : (part 3 (coV ⟨iu, id, cut, lu, ld, gong, cmd, ph, flag⟩).toArray 6).run Try.prog w = .ok (.int .i64 cmd) w := run_part_plain w (by kernel_rfl) rfl
  have q4 : (part 3 (coV ⟨iu, id, cut, lu, ld, gong, cmd, ph, flag⟩).toArray 7).run Try.prog w = .ok (.int .i64 ph) w := run_part_plain w (by kernel_rfl) rfl
  have q5 : (part 4 (coV ⟨iu, id, cut, lu, ld, gong, cmd, ph, flag⟩).toArray 8).run Try.prog w = .ok (.bool flag) w := run_part_plain w (by kernel_rfl) rfl
  generalize (coV ⟨iu, id, cut, lu, ld, gong, cmd, ph, flag⟩).toArray = xs at *
  simp [Op.eqFields, q0, q1, q2, q3, q4, q5, equalCoils d iu id cut w, equalCalls (d + 1) lu ld w, run_equalIn_bool w (d + 2) 4 _ _ Try.underlying4, run_equalIn_int w (d + 2) 3 .i64 .i64 _ _ Try.underlying3]
theorem neqCo (c : CarOut) (w : World) : (binOp .neq 93 (.agg (coV c).toArray) (.agg (coV c).toArray)).run Try.prog w = .ok (.bool false) w := by
  rw [run_neq_struct, equalCo 9996]; rfl

set_option maxRecDepth 100000 in
set_option maxHeartbeats 4000000 in
theorem sameOut_any (y : Ou) (A A' : Option Addr) (cp cp' : Nat) (w : World) (hn : y.cars.length ≤ 1000) (hA : CosV w A y.cars) (hA' : CosV w A' y.cars) :
    Calls Try.prog 21 #[ouAgg y A cp, ouAgg y A' cp'] w fun e w' => e = .returned (.bool true) ∧ Below w.heap.size w w' := by
  obtain ⟨⟨au, ad, su, sd, bad, full, st⟩, cs⟩ := y
  simp only [ouAgg] at *
  have HA := Lib.hid hA
  have HA' := Lib.hid hA'
  clear hA hA'
  go_enter Try.func21, Try.ntmps21
  go_wp2_with fail
  obtain ⟨W2, hW2⟩ : ∃ W2, W2 = (w.alloc (.cells #[.int .u32 au, .int .u32 ad, .int .u32 su, .int .u32 sd, .bool bad, .bool full, .int .i64 st, .slice A cs.length cp] 46)).alloc (.cells #[.int .u32 au, .int .u32 ad, .int .u32 su, .int .u32 sd, .bool bad, .bool full, .int .i64 st, .slice A' cs.length cp'] 46) := ⟨_, rfl⟩
  rw [← hW2]
  have hs2 : W2.heap.size = w.heap.size + 2 := by rw [hW2]; simp
  have hbw2 : Below w.heap.size w W2 := by rw [hW2]; exact ((Below.refl _ _).alloc (Nat.le_refl _) _).alloc (by simp) _
  have hq0 : W2.cell? ⟨w.heap.size, 7, none⟩ = some (.slice A cs.length cp) := by
    rw [hW2, World.cell?_of_block (w := w.alloc _) (Below.heap_alloc _ _ w.heap.size (by simp)), cell_of_row _ _ _ _ _ (0, 0) (heap_alloc_new w _)]
    rfl
  have hq1 : W2.cell? ⟨w.heap.size + 1, 7, none⟩ = some (.slice A' cs.length cp') := by
    rw [hW2, World.cell?_alloc_at _ _ _ _ (by simp)]
    rfl
  have HQ0 := Lib.hid hq0
  have HQ1 := Lib.hid hq1
  have HBW := Lib.hid hbw2
  clear hW2 hq0 hq1 hbw2
  go_loopw [5] (fun v wr => ∃ m : Nat, m ≤ cs.length ∧ v = .int .i64 m ∧ Below W2.heap.size W2 wr) (fun v _ => cs.length - (intOf v).toNat)
  case atStart => exact ⟨0, Nat.zero_le _, rfl, Below.refl _ _⟩
  case round =>
    obtain ⟨m, hm, rfl, hbr⟩ := hrel
    have q0 : wr.cell? ⟨w.heap.size, 7, none⟩ = some (.slice A cs.length cp) := (hbr.cell (p := ⟨w.heap.size, 7, none⟩) (by show w.heap.size < _; omega)).trans HQ0.out
    have q1 : wr.cell? ⟨w.heap.size + 1, 7, none⟩ = some (.slice A' cs.length cp') := (hbr.cell (p := ⟨w.heap.size + 1, 7, none⟩) (by show w.heap.size + 1 < _; omega)).trans HQ1.out
    by_cases hlt : m < cs.length
    · have hbwr := HBW.out.trans (hbr.mono (by omega))
      rcases HA.out.below hbwr with h0 | ⟨b, off, rfl, hv⟩
      · subst h0; simp at hlt
      rcases HA'.out.below hbwr with h0 | ⟨b', off', rfl, hv'⟩
      · subst h0; simp at hlt
      have g := hv m hlt
      have g' := hv' m hlt
      have hnq := neqCo cs[m]
      generalize cs[m] = c at g g' hnq
      simp only [coV] at hnq
      have g0 : wr.cell? ⟨b, off + m * 9, none⟩ = some (.int .u32 c.iu) := g 0 _ rfl
      have g1 : wr.cell? ⟨b, off + m * 9 + 1, none⟩ = some (.int .u32 c.id) := g 1 _ rfl
      have g2 : wr.cell? ⟨b, off + m * 9 + 2, none⟩ = some (.bool c.cut) := g 2 _ rfl
      have g3 : wr.cell? ⟨b, off + m * 9 + 3, none⟩ = some (.int .u32 c.lu) := g 3 _ rfl
      have g4 : wr.cell? ⟨b, off + m * 9 + 4, none⟩ = some (.int .u32 c.ld) := g 4 _ rfl
      have g5 : wr.cell? ⟨b, off + m * 9 + 5, none⟩ = some (.bool c.gong) := g 5 _ rfl
      have g6 : wr.cell? ⟨b, off + m * 9 + 6, none⟩ = some (.int .i64 c.cmd) := g 6 _ rfl
      have g7 : wr.cell? ⟨b, off + m * 9 + 7, none⟩ = some (.int .i64 c.ph) := g 7 _ rfl
      have g8 : wr.cell? ⟨b, off + m * 9 + 8, none⟩ = some (.bool c.flag) := g 8 _ rfl
      have k0 : wr.cell? ⟨b', off' + m * 9, none⟩ = some (.int .u32 c.iu) := g' 0 _ rfl
      have k1 : wr.cell? ⟨b', off' + m * 9 + 1, none⟩ = some (.int .u32 c.id) := g' 1 _ rfl
      have k2 : wr.cell? ⟨b', off' + m * 9 + 2, none⟩ = some (.bool c.cut) := g' 2 _ rfl
      have k3 : wr.cell? ⟨b', off' + m * 9 + 3, none⟩ = some (.int .u32 c.lu) := g' 3 _ rfl
      have k4 : wr.cell? ⟨b', off' + m * 9 + 4, none⟩ = some (.int .u32 c.ld) := g' 4 _ rfl
      have k5 : wr.cell? ⟨b', off' + m * 9 + 5, none⟩ = some (.bool c.gong) := g' 5 _ rfl
      have k6 : wr.cell? ⟨b', off' + m * 9 + 6, none⟩ = some (.int .i64 c.cmd) := g' 6 _ rfl
      have k7 : wr.cell? ⟨b', off' + m * 9 + 7, none⟩ = some (.int .i64 c.ph) := g' 7 _ rfl
      have k8 : wr.cell? ⟨b', off' + m * 9 + 8, none⟩ = some (.bool c.flag) := g' 8 _ rfl
      have HBR := Lib.hid hbr
      clear hbr hbwr hv hv' g g'
      go_wp2_with fail
      go_region
      all_goals
        go_wp2_with fail
        go_roundw
        case rel => exact ⟨m + 1, by omega, by go_num, HBR.out.drew⟩
        case measure => simp [intOf]; omega
    · obtain rfl : m = cs.length := by omega
      have HBR := Lib.hid hbr
      clear hbr
      go_wp2_with fail
      go_ret
      exact ⟨rfl, HBW.out.trans (HBR.out.mono (by omega))⟩
end
end Go.Proofs.Ythbfpdkgbkpmiaa
