/- package queue: First and All. -/
import Derived.Test.YthbjjamjpbfehaaQueA
import Derived.Laws.OwnMore
import Derived.LoopNIn
import Derived.Deep.Onto
namespace Go.Proofs.Ythbjjamjpbfehaa
set_option linter.unusedVariables false
set_option linter.unusedSimpArgs false
open Go.ChangeShapes Go.WideShapes Go.ChangeAt Go.RowKit Go.Shelf
attribute [local go_sem] Oper.semAt_some

theorem wpIn_scope_wide {n : Nat} {P : Program} {c : Code} {Q : Exit → Act → World → Prop} {a : Act} {w : World} (h : c.wpIn Fence.wide n P (Exit.noGoto Q) a w) : (Code.scope c).wpIn Fence.wide n P Q a w :=
  wpIn_wide.2 (wp_scope_straight (wpIn_wide.1 h))
theorem heap_putObj_ne {W : World} {l k : Nat} {o : Obj} (h : k ≠ l) : (W.putObj l o).heap[k]? = W.heap[k]? := by
  simp [World.putObj, Array.getElem?_setIfInBounds, h.symm]
theorem wpListIn_append_src {F : Fence} {nF : Nat} {P : Program} (w : World) {ops : Array Oper} {rest : List Oper} {o : Oper} {a : Act} {Q : Exit → Act → World → Prop} (hgd : o.guard = none) (s x : Operand) (t : TypeId)
    (hop : o.op = Op.call { callee := Callee.builtin Builtin.append, args := #[s, x], argTypes := #[t, t] })
    (base : Nat) (e : TypeId) (i : TypeInfo) (z : Value) (size bytes : Nat) (h1 : P.underlying t = some (.slice e)) (h2 : P.info? e = some i) (h3 : i.zero = some z) (h4 : i.size = size) (h5 : i.bytes = bytes) (h6 : z.cells.size = size) (h7 : 0 < size)
    (v : Value) (k : Nat) (xs : List Value) (hs : a.eval s = v) (hown : w.ownsRow base e size v k xs) (B2 : Nat) (src : Value) (m : Nat) (news : List Value) (hx : a.eval x = src) (hsrc : w.ownsRow B2 e size src m news)
    (h1c : ∀ u ∈ news, u.oneCell' = true) (b1 : k + m ≤ maxLen) (b2 : (k + m) * bytes ≤ 140737488355328) (b3 : base ≤ w.heap.size)
    (hK : ∀ v' w', w'.ownsRow base e size v' (k + m) (xs ++ news) → w.grownBy w' v.ownBlock → wpListIn F nF P ops Q rest (a.put o.dst v') w') :
    wpListIn F nF P ops Q (o :: rest) a w := by
  rcases hsrc.2 with ⟨rfl, rfl⟩ | ⟨g, cap, cur, rfl, _⟩
  · have hnews : news = [] := List.eq_nil_of_length_eq_zero (by simpa using hsrc.1)
    subst hnews
    refine wpListIn_plain hgd fun K hK' => ?_
    have hrun := run_append_owned_none (P := P) (w := w) base t o.type e i size h1 h2 v k xs hown
    unfold Oper.wpIn
    refine ⟨by simp [Oper.about, hop, resolve, Target.leads, Sem.run_pure], ?_⟩
    rw [Oper.semAt_plain F _ _ (by rw [hop]; intro c hc'; cases hc')]
    simp [execOp, hop, resolve, invoke, builtin, hs, hx, hrun, Result.andThen]
    exact hK' _ _ (hK v w (by simpa using hown) (World.grownBy.refl _ _))
  · exact wpListIn_append_own w hgd s x t hop base e i z size bytes h1 h2 h3 h4 h5 h6 h7 v k xs hs hown ⟨g, 0, none⟩ m cap news hx hsrc.1 (hsrc.cells rfl) h1c b1 b2 b3 (fun v' w' q1 q2 _ => hK v' w' q1 q2)
theorem row_slice {w : World} {base : Nat} {e : TypeId} {s : Nat} {v : Value} {n : Nat} {xs : List Value} (h : w.ownsRow base e s v n xs) : ∃ a m c, v = .slice a m c := by
  rcases h.2 with ⟨rfl, _⟩ | ⟨g, cap, cur, rfl, _⟩
  · exact ⟨_, _, _, rfl⟩
  · exact ⟨_, _, _, rfl⟩
theorem row_len {w : World} {base : Nat} {e : TypeId} {s : Nat} {v : Value} {n : Nat} {xs : List Value} (h : w.ownsRow base e s v n xs) : ∃ a c, v = .slice a n c := by
  rcases h.2 with ⟨rfl, rfl⟩ | ⟨g, cap, cur, rfl, _⟩
  · exact ⟨_, _, rfl⟩
  · exact ⟨_, _, rfl⟩
theorem row_cells {w : World} {base : Nat} {e : TypeId} {s : Nat} {v : Value} {n : Nat} {xs : List Value} (h : w.ownsRow base e s v n xs) : ∀ (j : Nat) (o : Obj), v.ownBlock = some j → w.heap[j]? = some o → o.isCells = true := by
  intro j o hj ho
  rcases h.2 with ⟨rfl, _⟩ | ⟨g, cap, cur, rfl, _, q, _⟩
  · cases hj
  · cases hj
    rw [q] at ho
    cases ho
    rfl
/-- A round of All: the gathered slice is stored again. -/
theorem all_step {w W w1 : World} {b Bw : Nat} {v v' : Value} {n n' : Nat} {xs xs' : List Value} (hB : Below Bw w W) (hv : Boxed W Bw 39 v) (hr : W.ownsRow (Bw + 2) 3 1 v n xs) (hg : W.grownBy w1 v.ownBlock)
    (hr' : w1.ownsRow (Bw + 2) 3 1 v' n' xs') (hb : b < Bw) (hs : Bw + 2 ≤ W.heap.size) :
    KeepsOthers W (w1.setCell ⟨Bw, 0, none⟩ v') ∧ KpQ b (Bw + 1) W (w1.setCell ⟨Bw, 0, none⟩ v') ∧ Boxed (w1.setCell ⟨Bw, 0, none⟩ v') Bw 39 v' ∧ (w1.setCell ⟨Bw, 0, none⟩ v').ownsRow (Bw + 2) 3 1 v' n' xs' ∧
      Below Bw w (w1.setCell ⟨Bw, 0, none⟩ v') ∧ Bw + 2 ≤ (w1.setCell ⟨Bw, 0, none⟩ v').heap.size := by
  have hlow : ∀ k, k < Bw + 2 → some k ≠ v.ownBlock := fun k hk e => by have := (hr.lt k e.symm).1; omega
  have hlow' : ∀ k, k < Bw + 2 → some k ≠ v'.ownBlock := fun k hk e => by have := (hr'.lt k e.symm).1; omega
  have sz := hg.size
  have hblk : ∀ k, k < Bw + 2 → k ≠ Bw → (w1.setCell ⟨Bw, 0, none⟩ v').heap[k]? = W.heap[k]? := fun k hk hne => (Go.heap_setCell_other _ _ _ _ hne).trans (hg.block k (by omega) (hlow k hk))
  refine ⟨(KeepsOthers.of_grownBy hg (row_cells hr)).trans (KeepsOthers.setCell _ _ _), ⟨hblk b (by omega) (by omega), hblk (Bw + 1) (by omega) (by omega), by simp; omega⟩, (hv.kept hg (hlow Bw (by omega))).set v', hr'.kept (grownBy_setCell' w1 Bw v') (.inr (hlow' Bw (by omega)).symm), ?_, by simp; omega⟩
  exact ⟨hg.os.trans hB.os, hg.tape.trans hB.tape, hg.output.trans hB.output, by have := hB.size; simp; omega, fun k hk => (hblk k (by omega) (by omega)).trans (hB.block k hk)⟩
def cat (L : Nat → List Int) (pre : List (Fin 8)) : List Int := pre.flatMap (fun x => L x.1)
theorem cat_len (L : Nat → List Int) (n : Nat) (h : ∀ k, k < 8 → (L k).length ≤ n) : ∀ pre : List (Fin 8), (cat L pre).length ≤ pre.length * n
  | [] => by simp [cat]
  | x :: pre => by
    have ih := cat_len L n h pre
    have := h x.1 x.2
    unfold cat at ih ⊢
    simp only [List.flatMap_cons, List.length_append, List.length_cons, Nat.succ_mul]
    omega
theorem cat_snoc (L : Nat → List Int) (pre : List (Fin 8)) (x : Fin 8) : cat L (pre ++ [x]) = cat L pre ++ L x.1 := by simp [cat]
structure GatherAt (w : World) (L : Nat → List Int) (pre : List (Fin 8)) (W : World) : Prop where
  box : ∃ v, Boxed W w.heap.size 39 v ∧ W.ownsRow (w.heap.size + 2) 3 1 v (cat L pre).length ((cat L pre).map (Value.int .i64))
  below : Below w.heap.size w W
  size : w.heap.size + 2 ≤ W.heap.size
theorem GatherAt.from {w : World} {L : Nat → List Int} : OwnFrom (w.heap.size + 2) (GatherAt w L) := by
  intro s A B row h hg hr
  obtain ⟨v, hv, hrow⟩ := h.box
  have h1 : OwnFrom (w.heap.size + 2) _ := Own.from (holdsRow_own (w.heap.size + 2) w.heap.size 39 3 1 (fun pre : List (Fin 8) => (cat L pre).length) (fun pre : List (Fin 8) => (cat L pre).map (Value.int .i64)) (fun _ _ => True)) _
  obtain ⟨v2, q1, q2, _⟩ := h1 s A B row ⟨v, hv, hrow, trivial⟩ hg hr
  have e : ∀ k, k < w.heap.size + 2 → B.heap[k]? = A.heap[k]? := fun k hk => hg.block k (Nat.lt_of_lt_of_le hk h.size) (fun e => by have := (hr k e.symm).1; omega)
  have sz := hg.size
  have hsz := h.size
  exact ⟨⟨v2, q1, q2⟩, ⟨hg.os.trans h.below.os, hg.tape.trans h.below.tape, hg.output.trans h.below.output, Nat.le_trans h.below.size sz, fun k hk => (e k (by omega)).trans (h.below.block k hk)⟩, by omega⟩
set_option maxRecDepth 100000 in
set_option maxHeartbeats 1000000 in
theorem all_in (w : World) (B b mb n : Nat) (vs : Nat → Value) (L : Nat → List Int) (f : Int → Option Int) (hn : n < 1000000) (hQ : QueAt w B b mb n vs L f) :
    CallsIn Fence.wide 3 Try.prog 18 #[.pointer (some ⟨b, 0, none⟩)] w fun e W' => ∃ v, e = .returned v ∧ W'.ownsRow w.heap.size 3 1 v (cat L (fallTo 8)).length ((cat L (fallTo 8)).map (Value.int .i64)) ∧ Below w.heap.size w W' := by
  obtain ⟨i0, hi, hz0, hz1, hz2⟩ := info_parts infoI
  have HI0 := Lib.hid hi
  clear hi
  have HQ := Lib.hid hQ
  have hb := hQ.lt.2
  clear hQ
  refine callsIn_of_wp_marks Try.func18 rfl trivial ?_ rfl
  simp only [Try.ntmps18, List.size_toArray, List.length_cons, List.length_nil, Nat.reduceAdd, Nat.reduceSub, Array.replicate_succ, Array.replicate_zero, List.push_toArray, List.append_toArray, List.nil_append, List.cons_append]
  gi_wp2_with (refine ⟨trivial, ?_⟩; gi_at_call 27; refine (falling_in _ _ _).mono ?_; rintro e w' ⟨rfl, rfl⟩)
  obtain ⟨w1, hw1⟩ : ∃ x, x = (w.alloc (.cells #[.slice none 0 0] 39)).alloc (.cells #[.pointer (some ⟨b, 0, none⟩)] 24) := ⟨_, rfl⟩
  rw [← hw1]
  have hsz : w1.heap.size = w.heap.size + 2 := by rw [hw1]; simp
  have hb1 : Below w.heap.size w w1 := hw1 ▸ bal (bal (Below.refl _ _) _) _
  have hbx : w1.cell? ⟨w.heap.size + 1, 0, none⟩ = some (.pointer (some ⟨b, 0, none⟩)) := by rw [hw1]; go_simp
  have inv : GatherAt w L [] w1 := by
    refine ⟨⟨.slice none 0 0, ?_, World.ownsRow_nil _ _ _ _⟩, hb1, by omega⟩
    rw [hw1]
    exact (Boxed.new w _ _).alloc _
  have hLA : ListsAt w1 b vs := ⟨by omega, fun k hk => (cell_of_block (hb1.block b hb)).trans (HQ.out.cell k hk)⟩
  clear hw1
  refine wpIn_rangeFunc_ownF (α := Fin 8) rfl (by decide) (gf := 28) (lb := #[.pointer (some ⟨w.heap.size + 1, 0, none⟩)]) rfl trivial (enters_of Try.func28 (by kernel_rfl) rfl)
    (encs := encQ vs) (Kp := KpQ b (w.heap.size + 1)) (S := fun xs => xs = fallTo 8) (Sp := fun pre => ∃ k, k < 8 ∧ pre = fallTo (k + 1)) (N := 8) (w0 := w1) (falling1_seq 1 b (w.heap.size + 1) vs w1 hLA hbx (by omega))
    (fun h k => h.trans k) ?hKb (Below.refl _ _) (fun _ => rfl) (GatherAt w L) (fun _ _ _ => False) (hsz ▸ GatherAt.from) (fun _ _ _ _ _ hs _ _ => hs) inv
    (fun x => { tmps := #[.pointer (some ⟨b, 0, none⟩), undef, .slice none 0 0, .pointer (some ⟨w.heap.size, 0, none⟩), vs x.1, .pointer (some ⟨b, 0, none⟩), .func (.func 28) #[] #[.pointer (some ⟨w.heap.size + 1, 0, none⟩)], vs x.1, undef, undef, undef, undef], defers := [] }) ?hassign ?hbody ?hdone ?hstop
  case hKb =>
    intro W l o o' hl ho _ _
    exact ⟨heap_putObj_ne (by omega), heap_putObj_ne (by omega), by simp⟩
  case hassign =>
    intro l x W K hK
    gi_wp2
    exact hK
  case hbody =>
    rintro l pre x W ⟨⟨v, hv, hrow⟩, hBw, hZ⟩ hlen
    have hc := hv.cell
    have hfr := hv.frozen
    have hsrc : W.ownsRow B 3 1 (vs x.1) (L x.1).length ((L x.1).map (Value.int .i64)) := row_of_block (HQ.out.row x.1 x.2) (fun g hg => hBw.block g (((HQ.out.row x.1 x.2).lt g hg).2))
    have h1 := cat_len L n HQ.out.len pre
    have h2 := HQ.out.len x.1 x.2
    have h3 : pre.length * n ≤ 8 * 1000000 := Nat.mul_le_mul (by omega) (by omega)
    have HS := Lib.hid hsrc
    have HR := Lib.hid hrow
    have HV := Lib.hid hv
    have h2' := cat_snoc L pre x
    have HC := Lib.hid h2'
    clear hsrc hrow hv h2'
    gi_wp2_with (gi_at_builtin; refine wpListIn_append_src _ rfl _ _ 39 rfl (w.heap.size + 2) 3 i0 (.int .i64 0) 1 8 Try.underlying39 HI0.out hz0 hz1 hz2 rfl (by decide) v (cat L pre).length _ rfl HR.out B (vs x.1) (L x.1).length _ rfl HS.out (by simp [Value.oneCell']) (by unfold maxLen; omega) (by omega) (by omega) ?_; intro v' w2 ho2 hg2; obtain ⟨a, m, c, rfl⟩ := row_slice ho2; have hst := all_step (b := b) hBw HV.out HR.out hg2 ho2 hb hZ; have hq1 := HV.out.kept hg2 (fun e => by have := (HR.out.lt _ e.symm).1; omega); have hc1 := hq1.cell; have hf1 := hq1.frozen; have HST := Lib.hid hst; clear hst hq1 ho2 hg2 hc hfr)
    obtain ⟨s1, s2, s3, s4, s5, s6⟩ := HST.out
    refine ⟨s1, s2, ⟨⟨_, s3, ?_⟩, s5, s6⟩⟩
    rw [HC.out, List.length_append, List.map_append]
    exact s4
  case hdone =>
    rintro D xs W hD rfl ⟨⟨v, hv, hrow⟩, hBw, hZ⟩ hK
    have hc := hv.cell
    have HR := Lib.hid hrow
    clear hrow hv
    gi_wp2
    refine ⟨by simp, .inl ⟨_, _, rfl, run_takeDeferred hK, ?_⟩⟩
    exact ⟨v, by simp [results, Try.results18, go_sem], v, rfl, ownsRow_putObj (World.ownsRow.mono HR.out (Nat.le_add_right _ 2)) _ hK rfl, hBw.trans (belowK_b (w := w) (Nat.le_refl _) W D _ _ (by omega) hK rfl rfl)⟩
  case hstop =>
    rintro D c pre W hD _ h _
    exact h.elim
set_option maxRecDepth 100000 in
set_option maxHeartbeats 1000000 in
theorem all_nil (w : World) :
    CallsIn Fence.wide 3 Try.prog 18 #[.pointer none] w fun e W' => e = .returned (.slice none 0 0) ∧ Below w.heap.size w W' := by
  refine callsIn_of_wp_marks Try.func18 rfl trivial ?_ rfl
  simp only [Try.ntmps18, List.size_toArray, List.length_cons, List.length_nil, Nat.reduceAdd, Nat.reduceSub, Array.replicate_succ, Array.replicate_zero, List.push_toArray, List.append_toArray, List.nil_append, List.cons_append]
  gi_wp2_with (refine ⟨trivial, ?_⟩; gi_at_call 27; refine (falling_in _ _ _).mono ?_; rintro e w' ⟨rfl, rfl⟩)
  refine wpIn_range_none rfl (by decide) (gf := 28) (lb := #[.pointer (some ⟨w.heap.size + 1, 0, none⟩)]) rfl trivial (enters_of Try.func28 (by kernel_rfl) rfl) ?hcall ?hdone
  case hcall =>
    intro l W hW
    refine falling1_nil _ l _ W ?_
    rw [hW.cell (p := ⟨w.heap.size + 1, 0, none⟩) (by first | (simp; done) | (simp; omega))]
    go_simp
  case hdone =>
    rintro D W hD hB hK
    simp only [World.size_alloc] at hD
    have d0 : W.cell? ⟨w.heap.size, 0, none⟩ = some (.slice none 0 0) := (hB.cell (p := ⟨w.heap.size, 0, none⟩) (by first | (simp; done) | (simp; omega))).trans (by go_simp)
    have BI : Below w.heap.size w W := (bal (bal (Below.refl _ _) _) _).trans (hB.mono (by simp; omega))
    have hsw := hB.size
    simp only [World.size_alloc] at hsw
    clear hB
    gi_wp2
    refine ⟨by simp, .inl ⟨_, _, rfl, run_takeDeferred hK, ?_⟩⟩
    exact ⟨.slice none 0 0, by simp [results, Try.results18, go_sem], rfl, BI.trans (belowK_b (w := w) (Nat.le_refl _) W D _ _ (by omega) hK rfl rfl)⟩
theorem first_nil (w : World) :
    CallsIn Fence.wide 3 Try.prog 16 #[.pointer none] w fun e W' => e = .returned (.tuple #[.int .i64 0, .bool false]) ∧ Below w.heap.size w W' := by
  refine callsIn_of_wp_marks Try.func16 rfl trivial ?_ rfl
  simp only [Try.ntmps16, List.size_toArray, List.length_cons, List.length_nil, Nat.reduceAdd, Nat.reduceSub, Array.replicate_succ, Array.replicate_zero, List.push_toArray, List.append_toArray, List.nil_append, List.cons_append]
  gi_wp2
  refine wpIn_scope_wide ?_
  gi_wp2
  refine wpIn_label ?_
  gi_wp2_with (refine ⟨trivial, ?_⟩; gi_at_call 27; refine (falling_in _ _ _).mono ?_; rintro e w' ⟨rfl, rfl⟩)
  refine wpIn_range_none rfl (by decide) (gf := 28) (lb := #[.pointer (some ⟨w.heap.size + 1 + 1, 0, none⟩)]) rfl trivial (enters_of Try.func28 (by kernel_rfl) rfl) ?hcall ?hdone
  case hcall =>
    intro l W hW
    refine falling1_nil _ l _ W ?_
    rw [hW.cell (p := ⟨w.heap.size + 1 + 1, 0, none⟩) (by first | (simp; done) | (simp; omega))]
    go_simp
  case hdone =>
    rintro D W hD hB hK
    simp only [World.size_alloc] at hD
    have d0 : W.cell? ⟨w.heap.size, 0, none⟩ = some (.int .i64 0) := (hB.cell (p := ⟨w.heap.size, 0, none⟩) (by first | (simp; done) | (simp; omega))).trans (by go_simp)
    have d1 : W.cell? ⟨w.heap.size + 1, 0, none⟩ = some (.bool false) := (hB.cell (p := ⟨w.heap.size + 1, 0, none⟩) (by first | (simp; done) | (simp; omega))).trans (by go_simp)
    have BI : Below w.heap.size w W := (bal (bal (bal (Below.refl _ _) _) _) _).trans (hB.mono (by simp; omega))
    clear hB
    gi_wp2
    gi_region
    all_goals
      gi_wp2
      rw [Exit.noGoto_ret]
      refine ⟨by simp, .inl ⟨_, _, rfl, run_takeDeferred hK, ?_⟩⟩
      exact ⟨.tuple #[.int .i64 0, .bool false], by simp [results, Try.results16, go_sem], rfl, BI.drew.trans (belowK_b (w := w) (Nat.le_refl _) W.drew D _ _ (by omega) hK rfl rfl)⟩
/-- Where First's own boxes lie, behind some empty lists. -/
structure FiAt (w : World) (L : Nat → List Int) (pre : List (Fin 8)) (W : World) : Prop where
  r0 : W.cell? ⟨w.heap.size, 0, none⟩ = some (.int .i64 0) ∧ W.frozen? ⟨w.heap.size, 0, none⟩ = false
  r1 : W.cell? ⟨w.heap.size + 1, 0, none⟩ = some (.bool false) ∧ W.frozen? ⟨w.heap.size + 1, 0, none⟩ = false
  lt : w.heap.size + 3 ≤ W.heap.size
  below : Below w.heap.size w W
  no : ∀ y ∈ pre, L y.1 = []
structure FiIx (w : World) (L : Nat → List Int) (k : Nat) (c : Code) (pre : List (Fin 8)) (W : World) : Prop where
  c : c = .exit k
  at_ : ∃ p x a rest, pre = p ++ [x] ∧ (∀ y ∈ p, L y.1 = []) ∧ L x.1 = a :: rest ∧ W.cell? ⟨w.heap.size, 0, none⟩ = some (.int .i64 a) ∧ W.cell? ⟨w.heap.size + 1, 0, none⟩ = some (.bool true)
  lt : w.heap.size + 3 ≤ W.heap.size
  below : Below w.heap.size w W
theorem FiAt.from {w : World} {L : Nat → List Int} : OwnFrom (w.heap.size + 3) (FiAt w L) := by
  intro s A B row h hg hr
  have e : ∀ k, k < w.heap.size + 3 → B.heap[k]? = A.heap[k]? := fun k hk => hg.block k (Nat.lt_of_lt_of_le hk h.lt) (fun e => by have := (hr k e.symm).1; omega)
  have sz := hg.size
  exact ⟨⟨(cell_of_block (e _ (by omega))).trans h.r0.1, (frozen_of_block (e _ (by omega))).trans h.r0.2⟩, ⟨(cell_of_block (e _ (by omega))).trans h.r1.1, (frozen_of_block (e _ (by omega))).trans h.r1.2⟩, Nat.le_trans h.lt sz,
    ⟨hg.os.trans h.below.os, hg.tape.trans h.below.tape, hg.output.trans h.below.output, Nat.le_trans h.below.size sz, fun k hk => (e k (by omega)).trans (h.below.block k hk)⟩, h.no⟩
theorem FiIx.from {w : World} {L : Nat → List Int} {k : Nat} (c : Code) : OwnFrom (w.heap.size + 3) (FiIx w L k c) := by
  intro s A B row h hg hr
  have e : ∀ k, k < w.heap.size + 3 → B.heap[k]? = A.heap[k]? := fun k hk => hg.block k (Nat.lt_of_lt_of_le hk h.lt) (fun e => by have := (hr k e.symm).1; omega)
  have sz := hg.size
  obtain ⟨p, x, a, rest, h1, h2, h3, h4, h5⟩ := h.at_
  exact ⟨h.c, ⟨p, x, a, rest, h1, h2, h3, (cell_of_block (e _ (by omega))).trans h4, (cell_of_block (e _ (by omega))).trans h5⟩, Nat.le_trans h.lt sz,
    ⟨hg.os.trans h.below.os, hg.tape.trans h.below.tape, hg.output.trans h.below.output, Nat.le_trans h.below.size sz, fun k hk => (e k (by omega)).trans (h.below.block k hk)⟩⟩
theorem fall_more : ∀ m k, ∃ t, fallTo (k + m) = fallTo k ++ t
  | 0, k => ⟨[], by simp⟩
  | m + 1, k => by
    obtain ⟨t, h⟩ := fall_more m k
    have hlt : 7 - (k + m) < 8 := by omega
    refine ⟨t ++ [⟨7 - (k + m), hlt⟩], ?_⟩
    rw [← List.append_assoc, ← h]
    rfl
def firstF (l : List Int) : Int × Bool := match l with
  | [] => (0, false)
  | a :: _ => (a, true)
set_option maxRecDepth 100000 in
set_option maxHeartbeats 1000000 in
theorem first_in (w : World) (B b mb n : Nat) (vs : Nat → Value) (L : Nat → List Int) (f : Int → Option Int) (hn : n < 1000000) (hQ : QueAt w B b mb n vs L f) :
    CallsIn Fence.wide 3 Try.prog 16 #[.pointer (some ⟨b, 0, none⟩)] w fun e W' => e = .returned (.tuple #[.int .i64 (firstF (cat L (fallTo 8))).1, .bool (firstF (cat L (fallTo 8))).2]) ∧ Below w.heap.size w W' := by
  have HQ := Lib.hid hQ
  have hb := hQ.lt.2
  clear hQ
  refine callsIn_of_wp_marks Try.func16 rfl trivial ?_ rfl
  simp only [Try.ntmps16, List.size_toArray, List.length_cons, List.length_nil, Nat.reduceAdd, Nat.reduceSub, Array.replicate_succ, Array.replicate_zero, List.push_toArray, List.append_toArray, List.nil_append, List.cons_append]
  gi_wp2
  refine wpIn_scope_wide ?_
  gi_wp2
  refine wpIn_label ?_
  gi_wp2_with (refine ⟨trivial, ?_⟩; gi_at_call 27; refine (falling_in _ _ _).mono ?_; rintro e w' ⟨rfl, rfl⟩)
  obtain ⟨w1, hw1⟩ : ∃ x, x = ((w.alloc (.cells #[.int .i64 0] 3)).alloc (.cells #[.bool false] 4)).alloc (.cells #[.pointer (some ⟨b, 0, none⟩)] 24) := ⟨_, rfl⟩
  rw [← hw1]
  have hsz : w1.heap.size = w.heap.size + 3 := by rw [hw1]; simp
  have hb1 : Below w.heap.size w w1 := hw1 ▸ bal (bal (bal (Below.refl _ _) _) _) _
  have hbx : w1.cell? ⟨w.heap.size + 2, 0, none⟩ = some (.pointer (some ⟨b, 0, none⟩)) := by rw [hw1]; go_simp
  have inv : FiAt w L [] w1 := by
    refine ⟨⟨?_, ?_⟩, ⟨?_, ?_⟩, by omega, hb1, fun _ h => by cases h⟩
    all_goals (rw [hw1]; go_simp; try rfl)
  have hLA : ListsAt w1 b vs := ⟨by omega, fun k hk => (cell_of_block (hb1.block b hb)).trans (HQ.out.cell k hk)⟩
  clear hw1
  refine wpIn_rangeFunc_ownF (α := Fin 8) rfl (by decide) (gf := 28) (lb := #[.pointer (some ⟨w.heap.size + 1 + 1, 0, none⟩)]) rfl trivial (enters_of Try.func28 (by kernel_rfl) rfl)
    (encs := encQ vs) (Kp := KpQ b (w.heap.size + 2)) (S := fun xs => xs = fallTo 8) (Sp := fun pre => ∃ k, k < 8 ∧ pre = fallTo (k + 1)) (N := 8) (w0 := w1) (falling1_seq 1 b (w.heap.size + 2) vs w1 hLA hbx (by omega))
    (fun h k => h.trans k) ?hKb (Below.refl _ _) (fun _ => rfl) (FiAt w L) (FiIx w L 0) (hsz ▸ FiAt.from) (fun c => hsz ▸ FiIx.from c) inv
    (fun x => { tmps := #[.pointer (some ⟨b, 0, none⟩), undef, .int .i64 0, .bool false, .pointer (some ⟨w.heap.size, 0, none⟩), .pointer (some ⟨w.heap.size + 1, 0, none⟩), vs x.1, undef, undef, .pointer (some ⟨b, 0, none⟩), .func (.func 28) #[] #[.pointer (some ⟨w.heap.size + 1 + 1, 0, none⟩)], vs x.1, undef, undef, undef, undef, undef, undef, undef, undef, undef, undef], defers := [] }) ?hassign ?hbody ?hdone ?hstop
  case hKb =>
    intro W l o o' hl ho _ _
    exact ⟨heap_putObj_ne (by omega), heap_putObj_ne (by omega), by simp⟩
  case hassign =>
    intro l x W K hK
    gi_wp2
    exact hK
  case hbody =>
    rintro l pre x W hI hlen
    have hBw := hI.below
    have hr := HQ.out.row x.1 x.2
    have hsrc : W.ownsRow B 3 1 (vs x.1) (L x.1).length ((L x.1).map (Value.int .i64)) := row_of_block hr (fun g hg => hBw.block g (hr.lt g hg).2)
    obtain ⟨d0, f0⟩ := hI.r0
    obtain ⟨d1, f1⟩ := hI.r1
    have HI := Lib.hid hI
    have hlt := hI.lt
    have hb2 := HQ.out.lt.2
    clear hI hr
    cases hL : L x.1 with
    | nil =>
      rw [hL] at hsrc
      obtain ⟨a, c, hv⟩ := row_len hsrc
      dsimp only [List.length_nil] at hv
      have HL := Lib.hid hL
      clear hL hsrc
      rw [hv]
      gi_wp2
      refine wpIn_loop_rounds 1 ?_
      rw [roundsIn_succ]
      gi_wp2
      exact ⟨KeepsOthers.refl _, ⟨rfl, rfl, Nat.le_refl _⟩, HI.out.r0, HI.out.r1, HI.out.lt, HI.out.below, fun y hy => by
        rcases List.mem_append.1 hy with hy | hy
        · exact HI.out.no y hy
        · rw [List.mem_singleton] at hy
          rw [hy]; exact HL.out⟩
    | cons y rest =>
      rw [hL] at hsrc
      obtain ⟨g, c, hv⟩ := row_form hsrc
      have hcy : W.cell? ⟨g, 0, none⟩ = some (.int .i64 y) := by
        rw [hv] at hsrc
        have := hsrc.cellAt 0 (by simp)
        simpa using this
      have hne : 0 < rest.length + 1 := by omega
      have hgH : g < w.heap.size := by
        have := (HQ.out.row x.1 x.2).lt g (by rw [hv]; rfl)
        exact this.2
      have HL := Lib.hid hL
      clear hL hsrc
      rw [hv]
      generalize rest.length + 1 = m at hne ⊢
      have hm : (0 : Int) < m := by omega
      gi_wp2
      refine wpIn_loop_rounds 1 ?_
      rw [roundsIn_succ]
      gi_wp2
      refine ⟨(KeepsOthers.setCell _ _ _).trans (KeepsOthers.setCell _ _ _), rfl, ⟨pre, x, y, rest, rfl, HI.out.no, HL.out, ?_, ?_⟩, by simpa using hlt, (hBw.setCell (Nat.le_refl _) _).setCell (by simp) _⟩
      · go_simp
      · go_simp
  case hdone =>
    rintro D xs W hD rfl hI hK
    obtain ⟨d0, f0⟩ := hI.r0
    obtain ⟨d1, f1⟩ := hI.r1
    have hnil : cat L (fallTo 8) = [] := by
      unfold cat
      rw [List.flatMap_eq_nil_iff]
      exact hI.no
    have HN := Lib.hid hnil
    have HI := Lib.hid hI
    clear hI hnil
    gi_wp2
    gi_region
    all_goals
      gi_wp2
      rw [Exit.noGoto_ret]
      refine ⟨by simp, .inl ⟨_, _, rfl, run_takeDeferred hK, ?_⟩⟩
      exact ⟨.tuple #[.int .i64 0, .bool false], by simp [results, Try.results16, go_sem], by rw [HN.out]; rfl, HI.out.below.drew.trans (belowK_b (w := w) (Nat.le_refl _) W.drew D _ _ (by have := HI.out.below.size; omega) hK rfl rfl)⟩
  case hstop =>
    rintro D c pre W hD ⟨k, hk, hpre⟩ ⟨rfl, ⟨p, x, a, rest, h1, h2, h3, h4, h5⟩, hlt, hBw⟩ hK
    have hF : firstF (cat L (fallTo 8)) = (a, true) := by
      obtain ⟨t, ht⟩ := fall_more (7 - k) (k + 1)
      rw [show k + 1 + (7 - k) = 8 by omega] at ht
      have hp : cat L p = [] := by
        unfold cat
        rw [List.flatMap_eq_nil_iff]
        exact h2
      rw [ht, ← hpre, h1]
      unfold cat at hp ⊢
      rw [List.flatMap_append, List.flatMap_append, hp]
      simp [h3, firstF]
    have HF := Lib.hid hF
    clear hF h2 h3
    gi_wp2
    gi_region
    all_goals
      gi_wp2
      rw [Exit.noGoto_ret]
      refine ⟨by simp, .inl ⟨_, _, rfl, run_takeDeferred hK, ?_⟩⟩
      exact ⟨.tuple #[.int .i64 a, .bool true], by simp [results, Try.results16, go_sem], by rw [HF.out], hBw.drew.trans (belowK_b (w := w) (Nat.le_refl _) W.drew D _ _ (by have := hBw.size; omega) hK rfl rfl)⟩
theorem all_any (w : World) (B b mb n : Nat) (vs : Nat → Value) (L : Nat → List Int) (f : Int → Option Int) (hn : n < 1000000) (hQ : QueAt w B b mb n vs L f) :
    Calls Try.prog 18 #[.pointer (some ⟨b, 0, none⟩)] w fun e W' => ∃ v, e = .returned v ∧ W'.ownsRow w.heap.size 3 1 v (cat L (fallTo 8)).length ((cat L (fallTo 8)).map (Value.int .i64)) ∧ Below w.heap.size w W' := callsIn_wide.1 (all_in w B b mb n vs L f hn hQ)
theorem first_any (w : World) (B b mb n : Nat) (vs : Nat → Value) (L : Nat → List Int) (f : Int → Option Int) (hn : n < 1000000) (hQ : QueAt w B b mb n vs L f) :
    Calls Try.prog 16 #[.pointer (some ⟨b, 0, none⟩)] w fun e W' => e = .returned (.tuple #[.int .i64 (firstF (cat L (fallTo 8))).1, .bool (firstF (cat L (fallTo 8))).2]) ∧ Below w.heap.size w W' := callsIn_wide.1 (first_in w B b mb n vs L f hn hQ)
theorem anil_any (w : World) : Calls Try.prog 18 #[.pointer none] w fun e W' => e = .returned (.slice none 0 0) ∧ Below w.heap.size w W' := callsIn_wide.1 (all_nil w)
theorem fnil_any (w : World) : Calls Try.prog 16 #[.pointer none] w fun e W' => e = .returned (.tuple #[.int .i64 0, .bool false]) ∧ Below w.heap.size w W' := callsIn_wide.1 (first_nil w)
end Go.Proofs.Ythbjjamjpbfehaa
