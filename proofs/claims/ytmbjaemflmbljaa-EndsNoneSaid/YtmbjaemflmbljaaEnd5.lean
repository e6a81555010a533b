/- The endpoints: the iterator over one endpoint. -/
import Derived.Test.YtmbjaemflmbljaaEnd4
import Derived.Test.YtmbjaemflmbljaaPass
namespace Go.Proofs.Ytmbjaemflmbljaa
set_option linter.unusedVariables false
set_option linter.unusedSimpArgs false
open Go.ChangeShapes Go.WideShapes Go.ChangeAt Go.RowKit Go.Shelf
attribute [local go_sem] Oper.semAt_some

theorem each1T_passed (q pb b g c B : Nat) (w0 : World) (hp : w0.cell? ⟨pb, 0, none⟩ = some (.pointer (some ⟨b, 0, none⟩))) (hb : w0.cell? ⟨b, 0, none⟩ = some (.slice (some ⟨g, 0, none⟩) 1 c)) (hg : w0.cell? ⟨g, 0, none⟩ = some (.int .i64 6)) (lp : pb < w0.heap.size) (lb : b < w0.heap.size) (lg : g < w0.heap.size) (I : List (Fin 1) → World → Prop) (hI : ∀ pre W, I pre W → KpT b pb g w0 W) :
    SeqPassed Fence.wide (q + 1) Try.prog 47 #[.pointer (some ⟨pb, 0, none⟩)] (encT g) (fun _ => True) I (fun xs => xs = [0]) 1 B := by
  intro l J W hBW hAb hJI hY h0
  have hK := hI _ _ (hJI _ _ h0)
  refine (each1T_seq q pb b g c W ((cell_of_block hK.2.1).trans hp) ((cell_of_block hK.1).trans hb) ((cell_of_block hK.2.2.1).trans hg) (Nat.lt_of_lt_of_le lp hK.2.2.2) (Nat.lt_of_lt_of_le lb hK.2.2.2) (Nat.lt_of_lt_of_le lg hK.2.2.2) l J (fun _ _ => False) W (Below.refl _ _) (fun s A B row h hg hr => hAb s A B row h hg (fun r e => by obtain ⟨h1, o, h2, h3⟩ := hr r e; exact ⟨h1, o, h2, Obj.not_cells_of_walk h3⟩)) (fun _ _ _ _ h _ _ => h) ?_ h0).mono ?_
  · rintro pre x W1 hJ hlen
    obtain ⟨fn, tmps, assign, body, hy, hR⟩ := hY pre x W1 trivial hJ hlen
    refine ⟨fn, tmps, assign, body, hy, hR.mono ?_⟩
    rintro e W' ⟨he, hJ', hH⟩
    have k1 := hI _ _ (hJI _ _ hJ)
    have k2 := hI _ _ (hJI _ _ hJ')
    exact .inl ⟨he, hJ', k2.1.trans k1.1.symm, k2.2.1.trans k1.2.1.symm, k2.2.2.1.trans k1.2.2.1.symm, hH.1⟩
  · rintro e W' ⟨hv, ⟨xs, hS, hJ⟩ | ⟨pre, -, h⟩⟩
    · exact ⟨hv, xs, hS, hJ⟩
    · exact h.elim
theorem round_any {l' m m' : Nat} {P : Program} {l : Nat} {f : FuncId} {tmps : Array Value} {assign body : Code} {w : World} {R : Ending → World → Prop} (h : RoundIn Fence.wide m P l f tmps assign body w R) : RoundIn (Fence.wide.inRound l') m' P l f tmps assign body w R := ⟨h.1, fun c cs _ => h.2 c cs (fun d h => by cases h)⟩
set_option maxRecDepth 100000 in
set_option maxHeartbeats 1000000 in
theorem each1_passed (q eb b g c B : Nat) (w0 : World) (hp : w0.cell? ⟨eb, 0, none⟩ = some (.pointer (some ⟨b, 0, none⟩))) (hb : w0.cell? ⟨b, 0, none⟩ = some (.slice (some ⟨g, 0, none⟩) 1 c)) (hg : w0.cell? ⟨g, 0, none⟩ = some (.int .i64 6)) (lp : eb < w0.heap.size) (lb : b < w0.heap.size) (lg : g < w0.heap.size) (I : List (Fin 1) → World → Prop) (hI : ∀ pre W, I pre W → KpT b eb g w0 W) :
    SeqPassed Fence.wide (q + 2) Try.prog 43 #[.pointer (some ⟨eb, 0, none⟩)] (fun _ : Fin 1 => #[.pointer (some ⟨g, 1, none⟩)]) (fun _ => True) I (fun xs => xs = [0]) 1 B := by
  intro l J W hBW hAb hJI hY h0
  have hK := hI _ _ (hJI _ _ h0)
  have x0 : W.cell? ⟨eb, 0, none⟩ = some (.pointer (some ⟨b, 0, none⟩)) := (cell_of_block hK.2.1).trans hp
  have x1 : W.cell? ⟨b, 0, none⟩ = some (.slice (some ⟨g, 0, none⟩) 1 c) := (cell_of_block hK.1).trans hb
  have x2 : W.cell? ⟨g, 0, none⟩ = some (.int .i64 6) := (cell_of_block hK.2.2.1).trans hg
  have e1 : eb < W.heap.size := Nat.lt_of_lt_of_le lp hK.2.2.2
  have e2 : b < W.heap.size := Nat.lt_of_lt_of_le lb hK.2.2.2
  have e3 : g < W.heap.size := Nat.lt_of_lt_of_le lg hK.2.2.2
  have HY := Lib.hid hY
  have HAB := Lib.hid hAb
  have HJI := Lib.hid hJI
  have HII := Lib.hid hI
  have H0 := Lib.hid h0
  clear hY hAb hJI hI h0 hp hb hg hK
  refine callsIn_of_wp_marks Try.func43 rfl trivial ?_ rfl
  simp only [Try.ntmps43, List.size_toArray, List.length_cons, List.length_nil, Nat.reduceAdd, Nat.reduceSub, Array.replicate_succ, Array.replicate_zero, List.push_toArray, List.append_toArray, List.nil_append, List.cons_append]
  gi_wp2_with (refine ⟨trivial, ?_⟩; gi_at_call 44; refine (eachT_in _ b _).mono ?_; rintro e w' ⟨rfl, rfl⟩)
  obtain ⟨W2, hW2⟩ : ∃ x, x = (W.alloc (.cells #[.func (.yield l) #[] #[]] 90)).alloc (.cells #[.pointer (some ⟨b, 0, none⟩)] 75) := ⟨_, rfl⟩
  rw [← hW2]
  have y2 : W2.cell? ⟨W.heap.size, 0, none⟩ = some (.func (.yield l) #[] #[]) := by rw [hW2]; go_simp
  have p2 : W2.cell? ⟨W.heap.size + 1, 0, none⟩ = some (.pointer (some ⟨b, 0, none⟩)) := by rw [hW2]; go_simp
  have hsz : W2.heap.size = W.heap.size + 2 := by rw [hW2]; simp
  have B2 : Below W.heap.size W W2 := hW2 ▸ bal (bal (Below.refl _ _) _) _
  have J2 : J [] W2 := hW2 ▸ HAB.out.alloc _ (HAB.out.alloc _ H0.out)
  clear hW2
  have z1 := (B2.cell (p := ⟨b, 0, none⟩) e2).trans x1
  have z2 := (B2.cell (p := ⟨g, 0, none⟩) e3).trans x2
  refine wpIn_range_passed (α := Fin 1) rfl (by simp) (gf := 47) (lb := #[.pointer (some ⟨W.heap.size + 1, 0, none⟩)]) rfl trivial (enters_of Try.func47 (by kernel_rfl) rfl)
    (encs := encT g) (V := fun _ => True) (S := fun xs => xs = [0]) (N := 1) (fun pre W1 => J pre W1 ∧ W1.heap[W.heap.size]? = W2.heap[W.heap.size]? ∧ KpT b (W.heap.size + 1) g W2 W1)
    (each1T_passed q (W.heap.size + 1) b g c _ W2 p2 z1 z2 (by omega) (by omega) (by omega) _ (fun _ _ h => h.2.2)) (fun _ => rfl) ?hI ⟨J2, rfl, rfl, rfl, rfl, Nat.le_refl _⟩
    (fun x => { tmps := #[.func (.yield l) #[] #[], .pointer (some ⟨eb, 0, none⟩), .pointer (some ⟨W.heap.size, 0, none⟩), undef, .pointer (some ⟨g, 1, none⟩), .pointer (some ⟨b, 0, none⟩), .bool false, .pointer (some ⟨b, 0, none⟩), .pointer (some ⟨b, 0, none⟩), .pointer (some ⟨b, 0, none⟩), .func (.func 47) #[] #[.pointer (some ⟨W.heap.size + 1, 0, none⟩)], .int .i64 6, .pointer (some ⟨g, 1, none⟩), undef, undef, undef, undef], defers := [] }) ?hassign ?hbody ?hdone
  case hI =>
    intro s A C row h hgr hr
    have hlA : W2.heap.size ≤ A.heap.size := h.2.2.2.2.2
    have e : ∀ k, k < W2.heap.size → C.heap[k]? = A.heap[k]? := fun k hk => hgr.block k (by omega) (fun e => by have := (hr k e.symm).1; omega)
    exact ⟨HAB.out s A C row h.1 hgr (fun r e => ⟨by have := (hr r e).1; omega, (hr r e).2⟩), (e _ (by omega)).trans h.2.1, (e _ (by omega)).trans h.2.2.1, (e _ (by omega)).trans h.2.2.2.1, (e _ (by omega)).trans h.2.2.2.2.1, Nat.le_trans hlA hgr.size⟩
  case hassign =>
    intro l x W K hK
    gi_wp2
    exact hK
  case hbody =>
    rintro l' pre x U - ⟨hJ, hyb, hKU⟩ hlen
    have yU : U.cell? ⟨W.heap.size, 0, none⟩ = some (.func (.yield l) #[] #[]) := (cell_of_block hyb).trans y2
    obtain ⟨fn, tmps, assign, body, hy, hR⟩ := HY.out pre x U trivial hJ hlen
    (try dsimp only at hy)
    have HR := Lib.hid hR
    clear hR
    gi_wp2
    refine ⟨fun h => (by cases h), ?_⟩
    refine (round_any HR.out).mono ?_
    rintro e W' ⟨rfl, hJ', hH⟩
    gi_wp2
    have k1 := HII.out _ _ (HJI.out _ _ hJ)
    have k2 := HII.out _ _ (HJI.out _ _ hJ')
    have hUs : W2.heap.size ≤ U.heap.size := hKU.2.2.2
    have q1 : W'.heap[W.heap.size]? = W2.heap[W.heap.size]? := (hH.2 _ (Nat.le_refl _) (by omega)).trans hyb
    have q2 : KpT b (W.heap.size + 1) g W2 W' := ⟨(k2.1.trans k1.1.symm).trans hKU.1, (hH.2 _ (by omega) (by omega)).trans hKU.2.1, (k2.2.2.1.trans k1.2.2.1.symm).trans hKU.2.2.1, Nat.le_trans hUs hH.1⟩
    exact ⟨hH.mono (by omega), hJ', by first | exact q1 | (rw [q1]; simp), q2⟩
  case hdone =>
    rintro D xs U hD hS ⟨hJ, -, -⟩ hK
    gi_wp2
    refine ⟨by simp, .inl ⟨_, _, rfl, run_takeDeferred hK, ?_⟩⟩
    exact ⟨.tuple #[], by simp [results, Try.results43, go_sem], ⟨_, rfl⟩, xs, hS, HAB.out.putObj _ hJ (by omega) hK rfl⟩
end Go.Proofs.Ytmbjaemflmbljaa
