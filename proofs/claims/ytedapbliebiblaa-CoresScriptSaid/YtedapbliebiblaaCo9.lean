/- package cores: DropPage. -/
import Derived.Test.YtedapbliebiblaaCo8
namespace Go.Proofs.Ytedapbliebiblaa
set_option linter.unusedVariables false
set_option linter.unusedSimpArgs false
open Go.ChangeShapes Go.WideShapes Go.ChangeAt Go.RowKit Go.Shelf
attribute [local go_sem] Oper.semAt_some
theorem calls_round {l n : Nat} {P : Program} {f : Nat} {args : Array Value} {w : World} {R : Ending → World → Prop} (h : Calls P f args w R) : CallsIn (Fence.wide.inRound l) n P f args w R := callsIn_wide.2 h
/-- The caches may be other, and one box. -/
structure ButT (n : Nat) (T : Nat → Nat) (B : Nat) (a d : World) : Prop where
  os : d.os = a.os
  tape : d.tape = a.tape
  output : d.output = a.output
  size : a.heap.size ≤ d.heap.size
  block : ∀ k, k < a.heap.size → k ≠ B → (∀ i, i < n → k ≠ T i) → d.heap[k]? = a.heap[k]?
theorem ButT.refl (n : Nat) (T : Nat → Nat) (B : Nat) (a : World) : ButT n T B a a := ⟨rfl, rfl, rfl, Nat.le_refl _, fun _ _ _ _ => rfl⟩
theorem ButT.one {n : Nat} {T : Nat → Nat} {B i : Nat} {a d e : World} (h : ButT n T B a d) (hi : i < n) (k : TlbOnly (T i) d e) : ButT n T B a e :=
  ⟨k.os.trans h.os, k.tape.trans h.tape, k.output.trans h.output, Nat.le_trans h.size k.size, fun j hj h1 h2 => (k.block j (Nat.lt_of_lt_of_le hj h.size) (h2 i hi)).trans (h.block j hj h1 h2)⟩
theorem ButT.set {n : Nat} {T : Nat → Nat} {B j : Nat} {a d : World} (h : ButT n T B a d) (v : Value) : ButT n T B a (d.setCell ⟨B, j, none⟩ v) :=
  ⟨h.os, h.tape, h.output, by simpa using h.size, fun k hk h1 h2 => (Go.heap_setCell_other _ _ _ _ h1).trans (h.block k hk h1 h2)⟩
theorem ButT.drew {n : Nat} {T : Nat → Nat} {B : Nat} {a d : World} (h : ButT n T B a d) : ButT n T B a d.drew := ⟨h.os, h.tape, h.output, h.size, h.block⟩
theorem ButT.grown {n : Nat} {T : Nat → Nat} {B : Nat} {a d e : World} {row : Option Nat} (h : ButT n T B a d) (hg : d.grownBy e row) (hr : ∀ r, row = some r → a.heap.size ≤ r) : ButT n T B a e :=
  ⟨hg.os.trans h.os, hg.tape.trans h.tape, hg.output.trans h.output, Nat.le_trans h.size hg.size, fun k hk h1 h2 => (hg.block k (Nat.lt_of_lt_of_le hk h.size) (fun e => by have := hr k e.symm; omega)).trans (h.block k hk h1 h2)⟩
theorem ButT.below {n : Nat} {T : Nat → Nat} {B D : Nat} {a d : World} (h : ButT n T B a d) (hB : D ≤ B) (hs : D ≤ a.heap.size) (hT : ∀ i, i < n → D ≤ T i) : Below D a d := ⟨h.os, h.tape, h.output, h.size, fun k hk => h.block k (by omega) (by omega) fun i hi => by have := hT i hi; omega⟩
/-- The caches alone may be other. -/
structure OnlyT (n : Nat) (T : Nat → Nat) (a d : World) : Prop where
  os : d.os = a.os
  tape : d.tape = a.tape
  output : d.output = a.output
  size : a.heap.size ≤ d.heap.size
  block : ∀ k, k < a.heap.size → (∀ i, i < n → k ≠ T i) → d.heap[k]? = a.heap[k]?
theorem OnlyT.below {n : Nat} {T : Nat → Nat} {D : Nat} {a d : World} (h : OnlyT n T a d) (hs : D ≤ a.heap.size) (hT : ∀ i, i < n → D ≤ T i) : Below D a d := ⟨h.os, h.tape, h.output, h.size, fun k hk => h.block k (by omega) fun i hi => by have := hT i hi; omega⟩
theorem TlbOnly.of_dr {b : Nat} {w d : World} (h : TlbOnly b w.drew d) : TlbOnly b w d := ⟨h.os, h.tape, h.output, h.size, h.block⟩
theorem KeepsOthers.of_tlb {b : Nat} {w d : World} {S : TS} (h : TlbOnly b w d) (ht : TlbAt w b S) : KeepsOthers w d := by
  refine ⟨h.size, fun k o hk ho => ?_⟩
  have hlt := (Array.getElem?_eq_some_iff.1 hk).1
  by_cases e : k = b
  · subst e
    obtain ⟨⟨c0, -⟩, -⟩ := ht.at_ 0 (by decide)
    exfalso
    unfold World.cell? at c0
    simp only [hk] at c0
    cases o <;> simp_all [Obj.isCells]
  · exact (h.block k hlt e).trans hk
structure DrpI {n : Nat} (wA : World) (b g c : Nat) (R Q : Nat → Int) (T : Nat → Nat) (S : Nat → TS) (out : TransX → Bool) (B : Nat) (pre : List (Fin n)) (W : World) : Prop where
  cores : CoresAt W b g n c R Q T (dropL S out pre).1
  cnt : W.cell? ⟨B, 0, none⟩ = some (.int .i64 ((dropL S out pre).2 : Nat))
  free : W.frozen? ⟨B, 0, none⟩ = false
  le : (dropL S out pre).2 ≤ 8 * pre.length
  but : ButT n T B wA W
theorem DrpI.from {n : Nat} {wA : World} {b g c : Nat} {R Q : Nat → Int} {T : Nat → Nat} {S : Nat → TS} {out : TransX → Bool} {B : Nat} (hB : B < wA.heap.size) (hI : CoresAt wA b g n c R Q T S) : OwnFrom wA.heap.size (DrpI (n := n) wA b g c R Q T S out B) := by
  intro s X C row h hg hr
  have e : ∀ k, k < wA.heap.size → C.heap[k]? = X.heap[k]? := fun k hk => hg.block k (Nat.lt_of_lt_of_le hk h.but.size) (fun e => by have := (hr k e.symm).1; omega)
  exact ⟨h.cores.of_blocks hg.size (e _ hI.lb) (e _ hI.lg) fun i hi => e _ (hI.tlb i hi).lt, (cell_of_block (e _ hB)).trans h.cnt, (frozen_of_block (e _ hB)).trans h.free, h.le, h.but.grown hg (fun r e => (hr r e).1)⟩
set_option maxRecDepth 100000 in
set_option maxHeartbeats 2000000 in
theorem cdropP_in (w : World) (b g n c : Nat) (R Q : Nat → Int) (T : Nat → Nat) (S : Nat → TS) (a pc : Int) (h : CoresAt w b g n c R Q T S) :
    CallsIn Fence.wide 3 Try.prog 21 #[.pointer (some ⟨b, 0, none⟩), .int .i64 a, .int .i64 pc] w fun e w' => e = .returned (.int .i64 ((dropL S (pageOut a pc) (frs n n)).2 : Nat)) ∧ CoresAt w' b g n c R Q T (dropL S (pageOut a pc) (frs n n)).1 ∧ OnlyT n T w w' := by
  have H := Lib.hid h
  clear h
  refine callsIn_of_wp_marks Try.func21 rfl trivial ?_ rfl
  simp only [Try.ntmps21, List.size_toArray, List.length_cons, List.length_nil, Nat.reduceAdd, Nat.reduceSub, Array.replicate_succ, Array.replicate_zero, List.push_toArray, List.append_toArray, List.nil_append, List.cons_append]
  gi_wp2_with (refine ⟨trivial, ?_⟩; gi_at_call 43; refine (caches_in _ _ _).mono ?_; rintro e w' ⟨rfl, rfl⟩)
  obtain ⟨wA, hwA⟩ : ∃ x, x = ((((w.alloc (.cells #[.int .i64 a] 3)).alloc (.cells #[.int .i64 pc] 3)).alloc (.cells #[.int .i64 0] 3)).alloc (.cells #[.pointer (some ⟨b, 0, none⟩)] 25)) := ⟨_, rfl⟩
  rw [← hwA]
  have hsz : wA.heap.size = w.heap.size + 4 := by rw [hwA]; simp
  have hBw : Below w.heap.size w wA := hwA ▸ bal (bal (bal (bal (Below.refl _ _) _) _) _) _
  have e0 : wA.cell? ⟨w.heap.size, 0, none⟩ = some (.int .i64 a) := by rw [hwA]; go_simp
  have e1 : wA.cell? ⟨w.heap.size + 1, 0, none⟩ = some (.int .i64 pc) := by rw [hwA]; go_simp
  have e2 : wA.cell? ⟨w.heap.size + 2, 0, none⟩ = some (.int .i64 0) ∧ wA.frozen? ⟨w.heap.size + 2, 0, none⟩ = false := by constructor <;> (rw [hwA]; go_simp; try rfl)
  have e3 : wA.cell? ⟨w.heap.size + 3, 0, none⟩ = some (.pointer (some ⟨b, 0, none⟩)) := by rw [hwA]; go_simp
  have HA := Lib.hid (H.out.call hBw)
  have hlT := fun i hi => (H.out.tlb i hi).lt
  have hlb := H.out.lb
  have hlg := H.out.lg
  clear hwA
  refine wpIn_rangeFunc_ownF (α := Fin n) rfl (by decide) (gf := 55) (lb := #[.pointer (some ⟨w.heap.size + 1 + 1 + 1, 0, none⟩)]) rfl trivial (enters_of Try.func55 (by kernel_rfl) rfl)
    (encs := fun x : Fin n => #[.pointer (some ⟨T x.1, 0, none⟩)]) (Kp := KpC (w.heap.size + 3) b g) (S := fun xs => xs = frs n n) (Sp := fun pre => True) (N := 3) (w0 := wA) (caches1_seq 1 (w.heap.size + 3) b g n c R Q T S wA e3 (by omega) HA.out)
    (fun h k => h.trans k) ?hKb (Below.refl _ _) (fun _ => rfl) (DrpI wA b g c R Q T S (pageOut a pc) (w.heap.size + 2)) (fun _ _ _ => False) (DrpI.from (by omega) HA.out) (fun _ _ _ _ _ h _ _ => h) ⟨HA.out, e2.1, e2.2, Nat.le_refl _, ButT.refl _ _ _ _⟩
    (fun x => { tmps := #[.pointer (some ⟨b, 0, none⟩), .int .i64 a, .int .i64 pc, undef, .pointer (some ⟨w.heap.size, 0, none⟩), .pointer (some ⟨w.heap.size + 1, 0, none⟩), .int .i64 0, .pointer (some ⟨w.heap.size + 1 + 1, 0, none⟩), .pointer (some ⟨T x.1, 0, none⟩), .pointer (some ⟨b, 0, none⟩), .func (.func 55) #[] #[.pointer (some ⟨w.heap.size + 1 + 1 + 1, 0, none⟩)], .pointer (some ⟨T x.1, 0, none⟩), undef, undef, undef, undef, undef, undef, undef], defers := [] }) ?hassign ?hbody ?hdone ?hstop
  case hKb =>
    intro W l o o' hl ho _ _
    exact ⟨heap_putObj_ne (by omega), heap_putObj_ne (by omega), heap_putObj_ne (by omega), by simp⟩
  case hassign =>
    intro l x W K hK
    gi_wp2
    exact hK
  case hbody =>
    rintro l pre x W ⟨hC, hn, hf, hle, hB⟩ hlen
    have hx := x.2
    have hTx := hlT x.1 hx
    have hs := hB.size
    have n2 : ∀ i, i < n → w.heap.size + 2 ≠ T i := fun i hi => by have := hlT i hi; omega
    have k0 : W.cell? ⟨w.heap.size, 0, none⟩ = some (.int .i64 a) := (cell_of_block (hB.block _ (by omega) (by omega) (fun i hi => by have := hlT i hi; omega))).trans e0
    have k1 : W.cell? ⟨w.heap.size + 1, 0, none⟩ = some (.int .i64 pc) := (cell_of_block (hB.block _ (by omega) (by omega) (fun i hi => by have := hlT i hi; omega))).trans e1
    have HCW := Lib.hid hC
    have HBW := Lib.hid hB
    obtain ⟨cn, hcn⟩ : ∃ cn, (dropL S (pageOut a pc) pre).2 = cn := ⟨_, rfl⟩
    obtain ⟨S1, hS1⟩ : ∃ S1, (dropL S (pageOut a pc) pre).1 = S1 := ⟨_, rfl⟩
    rw [hcn] at hn hle
    rw [hS1] at HCW
    have hd8 : (dropF (S1 x.1) (pageOut a pc) (fullP (S1 x.1) 8)).2 ≤ 8 := by
      have h1 := dropF_le (pageOut a pc) (fullP (S1 x.1) 8) (S1 x.1, 0)
      have h2 := fullP_len (S1 x.1) 8
      unfold dropF
      simp only [Nat.zero_add] at h1
      omega
    obtain ⟨⟨s', d⟩, hd⟩ : ∃ z, dropF (S1 x.1) (pageOut a pc) (fullP (S1 x.1) 8) = z := ⟨_, rfl⟩
    rw [hd] at hd8
    simp only at hd8
    have hsn : dropL S (pageOut a pc) (pre ++ [x]) = (setT S1 x.1 s', cn + d) := by rw [dropL_snoc, hcn, hS1, hd]
    have HSN := Lib.hid hsn
    have HD := Lib.hid hd
    have hlen2 : pre.length < 3 := hlen
    have hsum : IntKind.i64.wrap ((cn : Int) + (d : Int)) = (cn : Int) + (d : Int) := IntWalk.i64_in _ (by omega)
    have HLE := Lib.hid hle
    have HD8 := Lib.hid hd8
    have hlx2 : w.heap.size + 2 < W.heap.size := by omega
    have HN2 := Lib.hid (n2 x.1 hx)
    clear hC hB hcn hS1 hd hsn e0 e1 e2 e3 n2 hle hd8
    gi_wp2
    gi_region_with (first
      | (refine ⟨trivial, ?_⟩; gi_at_call 44; refine (calls_round (dropPage_any _ (T x.1) (S1 x.1) a pc ((HCW.out.tlb x.1 hx).call (Below.refl _ _).drew) (Good.ok (HCW.out.good x.1 hx)).way)).mono ?_; rw [HD.out]; rintro e w3 ⟨rfl, ht3, ho3⟩; have HT3 := Lib.hid ht3; have HO3 := Lib.hid ho3; have q2 := (ho3.cell hlx2 HN2.out hn); have qf := ((frozen_of_block (ho3.block _ hlx2 HN2.out)).trans hf); clear ht3 ho3)
      | (gi_at_call 44; refine (calls_round (dropPage_any _ (T x.1) (S1 x.1) a pc ((HCW.out.tlb x.1 hx).call (Below.refl _ _).drew) (Good.ok (HCW.out.good x.1 hx)).way)).mono ?_; rw [HD.out]; rintro e w3 ⟨rfl, ht3, ho3⟩; have HT3 := Lib.hid ht3; have HO3 := Lib.hid ho3; have q2 := (ho3.cell hlx2 HN2.out hn); have qf := ((frozen_of_block (ho3.block _ hlx2 HN2.out)).trans hf); clear ht3 ho3))
    all_goals gi_wp2
    all_goals
      have ho := TlbOnly.of_dr HO3.out
      have hg : Good s' := by have := good_dropF (HCW.out.good x.1 hx) (pageOut a pc); rw [HD.out] at this; exact this
      have hoff := HCW.out.off x.1 hx
      have hsz3 := ho.size
      have hcs := (HCW.out.put hx HT3.out hg ho)
      have hlb' : b < W.heap.size := by omega
      have hlg' : g < W.heap.size := by omega
      refine ⟨KeepsOthers.step_set (KeepsOthers.of_tlb ho (HCW.out.tlb x.1 hx)) _ _, ⟨?_, ?_, ?_, ?_⟩, ?_, ?_, ?_, ?_, ?_⟩
      · exact (Go.heap_setCell_other _ _ _ _ (by simp)).trans (ho.block _ (by omega) (by omega))
      · exact (Go.heap_setCell_other _ _ _ _ (by simp; omega)).trans (ho.block _ hlb' (Ne.symm hoff.1))
      · exact (Go.heap_setCell_other _ _ _ _ (by simp; omega)).trans (ho.block _ hlg' (Ne.symm hoff.2))
      · simpa using hsz3
      · rw [HSN.out]
        exact hcs.far (by omega) (by omega) (fun i hi => by have := hlT i hi; omega) _
      · rw [HSN.out]; simp [go_sem, q2]
      · simp [go_sem, qf]
      · rw [HSN.out, List.length_append]
        have h1 := HLE.out
        have h2 := HD8.out
        simp only [List.length_cons, List.length_nil]
        omega
      · exact (HBW.out.one hx ho).set _
  case hdone =>
    rintro D xs W hD rfl ⟨hC, hn, hf, hle, hB⟩ hK
    obtain ⟨cn, hcn⟩ : ∃ cn, (dropL S (pageOut a pc) (frs n n)).2 = cn := ⟨_, rfl⟩
    rw [hcn] at hn
    have HCN := Lib.hid hcn
    have HCW := Lib.hid hC
    have HBW := Lib.hid hB
    have HH := Lib.hid hBw
    clear hC hB hcn hle e0 e1 e2 e3 hBw
    gi_wp2
    refine ⟨by simp, .inl ⟨_, _, rfl, run_takeDeferred hK, ?_⟩⟩
    refine ⟨_, results_tmp rfl _ _ _, (by rw [HCN.out]; rfl), HCW.out.of_blocks (by simp) (heap_putObj_ne (by omega)) (heap_putObj_ne (by omega)) (fun i hi => heap_putObj_ne (by have := hlT i hi; omega)), ⟨HBW.out.os.trans HH.out.os, HBW.out.tape.trans HH.out.tape, HBW.out.output.trans HH.out.output, by have h1 := HBW.out.size; have h2 := HH.out.size; simp; omega, fun k hk hT => ?_⟩⟩
    exact (heap_putObj_ne (by omega)).trans ((HBW.out.block k (by omega) (by omega) hT).trans (HH.out.block k hk))
  case hstop =>
    rintro D c pre W hD _ hf hK
    exact hf.elim
end Go.Proofs.Ytedapbliebiblaa
