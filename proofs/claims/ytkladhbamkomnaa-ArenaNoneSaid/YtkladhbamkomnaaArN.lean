/- package arena: of none. -/
import Derived.Test.YtkladhbamkomnaaAr5
import Derived.Test.YtkladhbamkomnaaCells
namespace Go.Proofs.Ytkladhbamkomnaa
set_option linter.unusedVariables false
set_option linter.unusedSimpArgs false
open Go.ChangeShapes Go.WideShapes Go.ChangeAt Go.RowKit Go.Shelf
open TabA

theorem addN (w : World) (kd sz fi : Int) : Calls Try.prog 24 #[.pointer none, .int .i64 kd, .int .i64 sz, .int .i64 fi] w fun e w' => e = .returned (.tuple #[.int .i64 0, .int .i64 1]) ∧ Below w.heap.size w w' := by
  go_enter Try.func24, Try.ntmps24
  go_wp2
  exact bodyPost_ret (v := .tuple #[.int .i64 0, .int .i64 1]) (by simp [results, Try.results24, go_sem]) rfl ⟨rfl, by repeat (first | with_reducible exact Below.refl _ _ | refine Below.setCell ?_ (by simp) _ | refine bal ?_ _)⟩
abbrev obZ : Value := .agg #[.int .i64 0, .int .i64 0, .int .i64 0, .int .i64 0, .int .i64 0, .int .i64 0, .int .i64 0, .int .i64 0, .int .i64 0]
theorem findN (w : World) (id : Int) : Calls Try.prog 32 #[.pointer none, .int .i64 id] w fun e w' => e = .returned (.tuple #[.pointer none, .bool false]) ∧ w = w' := by
  go_enter Try.func32, Try.ntmps32
  go_wp2
  go_ret2
  exact ⟨rfl, rfl⟩
theorem getN (w : World) (id : Int) : Calls Try.prog 15 #[.pointer none, .int .i64 id] w fun e w' => e = .returned (.tuple #[obZ, .bool false]) ∧ Below w.heap.size w w' := by
  go_enter Try.func15, Try.ntmps15
  go_wp2_with (go_at_call 32; refine (findN _ _).mono ?_; rintro e w1 ⟨rfl, rfl⟩)
  exact bodyPost_ret (v := .tuple #[obZ, .bool false]) (by simp [results, Try.results15, go_sem]) rfl ⟨rfl, by repeat (first | with_reducible exact Below.refl _ _ | refine Below.setCell ?_ (by simp) _ | refine bal ?_ _)⟩
theorem dropN (w : World) (id : Int) : Calls Try.prog 23 #[.pointer none, .int .i64 id] w fun e w' => e = .returned (.int .i64 1) ∧ w = w' := by
  go_enter Try.func23, Try.ntmps23
  go_wp2
  go_ret
  exact ⟨rfl, rfl⟩
theorem onlyN (w : World) (id k : Int) : Calls Try.prog 40 #[.pointer none, .int .i64 id, .int .i64 k] w fun e w' => e = .returned (.tuple #[.pointer none, .int .i64 1]) ∧ w = w' := by
  go_enter Try.func40, Try.ntmps40
  go_wp2
  go_ret2
  exact ⟨rfl, rfl⟩
theorem markN (w : World) (id k : Int) : Calls Try.prog 26 #[.pointer none, .int .i64 id, .int .i64 k] w fun e w' => e = .returned (.int .i64 1) ∧ w = w' := by
  go_enter Try.func26, Try.ntmps26
  go_wp2_with (go_at_call 40; refine (onlyN _ _ _).mono ?_; rintro e w1 ⟨rfl, rfl⟩)
  go_ret
  exact ⟨rfl, rfl⟩
theorem placeN (w : World) (id a b c : Int) : Calls Try.prog 27 #[.pointer none, .int .i64 id, .int .i64 a, .int .i64 b, .int .i64 c] w fun e w' => e = .returned (.int .i64 1) ∧ w = w' := by
  go_enter Try.func27, Try.ntmps27
  go_wp2_with (go_at_call 40; refine (onlyN _ _ _).mono ?_; rintro e w1 ⟨rfl, rfl⟩)
  go_ret
  exact ⟨rfl, rfl⟩
theorem nextN (w : World) (id : Int) : Calls Try.prog 13 #[.pointer none, .int .i64 id] w fun e w' => e = .returned (.int .i64 0) ∧ w = w' := by
  go_enter Try.func13, Try.ntmps13
  go_wp2
  go_ret
  exact ⟨rfl, rfl⟩
attribute [local go_sem] Oper.semAt_some
section
variable {P : Program} {F : Fence} {n : Nat}
/-- As wpIn_range_none, where the iterator lays one block. -/
theorem wpIn_range_none1 {g : Operand} {ps : Array Tmp} {assign body : Code} {Q : Exit → Act → World → Prop} {a : Act} {w : World}
    (hro : F.round = none) (h1 : 1 ≤ n) {gf : Nat} {lb : Array Value} (hg : a.eval g = .func (.func gf) #[] lb) (hFg : F.fn gf) (eg : ∀ args w, (callFunc gf args).run P w = .ok (.enter gf args) w)
    (hcall : ∀ (l : Nat) (W : World), Below w.heap.size w W → CallsIn F (n - 1) P gf (#[.func (.yield l) #[] #[]] ++ lb) W fun e W' => (∃ v, e = .returned v) ∧ ∃ o, W' = W.alloc o)
    (hdone : ∀ (D : Nat) (W : World), w.heap.size ≤ D → Below w.heap.size w W → W.heap[D]? = some (.deferred (some [])) → Q .normal { a with defers := { target := .collected D, args := #[] } :: a.defers } W) :
    (Code.rangeFunc g ps assign body).wpIn F n P Q a w :=
  wpIn_rangeFunc_ownF (α := Empty) hro h1 hg hFg eg (encs := fun x => x.elim) (Kp := fun _ _ => True) (S := fun _ => True) (Sp := fun _ => False) (N := 0) (w0 := w)
    (fun l J Jx W hW hJ hJx hY h0 => (hcall l W hW).mono fun e W' ⟨hv, o, hw⟩ => ⟨hv, .inl ⟨[], trivial, hw ▸ hJ _ _ _ none h0 (World.grownBy_alloc W o none) (fun r e => by cases e)⟩⟩)
    (fun _ _ => trivial) (fun _ _ _ _ _ _ _ _ => trivial) (Below.refl _ _) (fun x => x.elim)
    (fun _ W => Below w.heap.size w W) (fun _ _ _ => False) (ownFrom_below (Nat.le_refl _) (Nat.le_refl _)) (fun _ => fun _ _ _ _ h _ _ => h) (Below.refl _ _) (fun x => x.elim)
    (fun l x => x.elim) (fun l pre x => x.elim)
    (fun D xs W hD _ hB hK => hdone D W hD hB hK) (fun D c pre W _ h => h.elim)
end
theorem ownN_in (n l eb : Nat) (W : World) (x0 : W.cell? ⟨eb, 0, none⟩ = some (.pointer none)) :
    CallsIn Fence.wide n Try.prog 44 (#[.func (.yield l) #[] #[]] ++ #[.pointer (some ⟨eb, 0, none⟩)]) W fun e W' => (∃ v, e = .returned v) ∧ ∃ o, W' = W.alloc o := by
  have e1 : eb < W.heap.size := World.block_lt_of_cell? W _ x0
  refine callsIn_of_wp_marks Try.func44 rfl trivial ?_ rfl
  simp only [Try.ntmps44, List.size_toArray, List.length_cons, List.length_nil, Nat.reduceAdd, Nat.reduceSub, Array.replicate_succ, Array.replicate_zero, List.push_toArray, List.append_toArray, List.nil_append, List.cons_append]
  gi_wp2
  exact ⟨.tuple #[], by simp [results, Try.results44, go_sem], ⟨_, rfl⟩, ⟨_, rfl⟩⟩
set_option maxRecDepth 100000 in
set_option maxHeartbeats 1000000 in
theorem allN_in (w : World) : CallsIn Fence.wide 3 Try.prog 17 #[.pointer none] w fun e W' => e = .returned (.slice none 0 0) ∧ Below w.heap.size w W' := by
  refine callsIn_of_wp_marks Try.func17 rfl trivial ?_ rfl
  simp only [Try.ntmps17, List.size_toArray, List.length_cons, List.length_nil, Nat.reduceAdd, Nat.reduceSub, Array.replicate_succ, Array.replicate_zero, List.push_toArray, List.append_toArray, List.nil_append, List.cons_append]
  gi_wp2_with (refine ⟨trivial, ?_⟩; gi_at_call 34; refine (own_in _ _ _).mono ?_; rintro e w' ⟨rfl, rfl⟩)
  refine wpIn_range_none1 rfl (by decide) (gf := 44) (lb := #[.pointer (some ⟨w.heap.size + 1, 0, none⟩)]) rfl trivial (enters_of Try.func44 (by kernel_rfl) rfl) ?hcall ?hdone
  case hcall =>
    intro l W hW
    refine ownN_in _ l _ W ?_
    rw [hW.cell (p := ⟨w.heap.size + 1, 0, none⟩) (by first | (simp; done) | (simp; omega))]
    go_simp
  case hdone =>
    rintro D W hD hB hK
    simp only [World.size_alloc] at hD
    have d0 : W.cell? ⟨w.heap.size, 0, none⟩ = some (.slice none 0 0) := (hB.cell (p := ⟨w.heap.size, 0, none⟩) (by simp; omega)).trans (by go_simp)
    have BI : Below w.heap.size w W := (bal (bal (Below.refl _ _) _) _).trans (hB.mono (by simp; omega))
    clear hB
    gi_wp2
    refine ⟨by simp, .inl ⟨_, _, rfl, run_takeDeferred hK, ?_⟩⟩
    exact ⟨.slice none 0 0, by simp [results, Try.results17, go_sem], rfl, BI.trans (belowK_b (w := w) (Nat.le_refl _) W D _ _ (by omega) hK rfl rfl)⟩
theorem allN (w : World) : Calls Try.prog 17 #[.pointer none] w fun e W' => e = .returned (.slice none 0 0) ∧ Below w.heap.size w W' := callsIn_wide.1 (allN_in w)
theorem eqZ : ∀ w, (binOp .eql 37 obZ obZ).run Try.prog w = .ok (.bool true) w := fun _ => by kernel_rfl
structure A5 where
  a : Int
  b : Int
  c : Int
  d : Int
  e : Int
abbrev A5.val (x : A5) : Value := .agg #[.int .i64 x.a, .int .i64 x.b, .int .i64 x.c, .int .i64 x.d, .int .i64 x.e]
abbrev zval_t34 : Value := .agg #[.int .i64 0, .int .i64 0, .int .i64 0, .int .i64 0, .int .i64 0]
theorem open_t34 {W : World} {base : Nat} {v : Value} (h : Value.okWide Try.prog W .any base 34 v) : ∃ a : A5, v = a.val ∧ True := by
  obtain ⟨cs, rfl, hl, hc⟩ := agg_cells (ts := [3, 3, 3, 3, 3]) Try.underlying34 (by kernel_rfl) (by kernel_rfl) h
  obtain ⟨x0, e0, h0⟩ := hc 0 _ rfl
  obtain ⟨x1, e1, h1⟩ := hc 1 _ rfl
  obtain ⟨x2, e2, h2⟩ := hc 2 _ rfl
  obtain ⟨x3, e3, h3⟩ := hc 3 _ rfl
  obtain ⟨x4, e4, h4⟩ := hc 4 _ rfl
  obtain ⟨n0, rfl, _⟩ := cell_i64 Try.underlying3 h0
  obtain ⟨n1, rfl, _⟩ := cell_i64 Try.underlying3 h1
  obtain ⟨n2, rfl, _⟩ := cell_i64 Try.underlying3 h2
  obtain ⟨n3, rfl, _⟩ := cell_i64 Try.underlying3 h3
  obtain ⟨n4, rfl, _⟩ := cell_i64 Try.underlying3 h4
  refine ⟨⟨n0, n1, n2, n3, n4⟩, ?_, trivial⟩
  match cs, hl, e0, e1, e2, e3, e4 with
  | [a, b, c, d, e], _, e0, e1, e2, e3, e4 => simp at e0 e1 e2 e3 e4; subst e0 e1 e2 e3 e4; rfl
set_option maxRecDepth 100000 in
set_option maxHeartbeats 1000000 in
theorem walk_arenaNone {W : World} (a : A5) (hx : True) :
    Calls Try.prog 7 #[a.val] W fun e w' => e = .returned (.bool true) ∧ Below W.heap.size W w' := by
  obtain ⟨a0, a1, a2, a3, a4⟩ := a
  have hq := eqZ
  have hB0 : Below W.heap.size W (W.alloc (.cells #[.int .i64 a0, .int .i64 a1, .int .i64 a2, .int .i64 a3, .int .i64 a4] 34)) := bal (Below.refl _ _) _
  have HB0 := Lib.hid hB0
  clear hB0
  go_enter Try.func7, Try.ntmps7
  go_wp2_with (first
    | (go_at_call 24; refine (addN _ _ _ _).mono ?_; rintro e w1 ⟨rfl, hb1⟩; obtain ⟨hc1, hf1⟩ := bcell hb1; have hz1 : W.heap.size < w1.heap.size := (by have := hb1.size; simp at this; omega))
    | (go_at_call 15; refine (getN _ _).mono ?_; rintro e w2 ⟨rfl, hb2⟩; obtain ⟨hc2, hf2⟩ := bcell hb2; have hz2 : W.heap.size < w2.heap.size := (by have := hb2.size; omega))
    | (go_at_call 23; refine (dropN _ _).mono ?_; rintro e w3 ⟨rfl, rfl⟩)
    | (go_at_call 26; refine (markN _ _ _).mono ?_; rintro e w3 ⟨rfl, rfl⟩)
    | (go_at_call 27; refine (placeN _ _ _ _ _).mono ?_; rintro e w3 ⟨rfl, rfl⟩)
    | (go_at_call 13; refine (nextN _ _).mono ?_; rintro e w3 ⟨rfl, rfl⟩)
    | (go_at_call 17; refine (allN _).mono ?_; rintro e w3 ⟨rfl, hb3⟩)
    | (go_at_call 8; refine (awake12 _).mono ?_; rintro e w4 ⟨rfl, hb4⟩))
  go_ret
  refine ⟨by simp, HB0.out.trans ((hb1.mono (by simp)).trans ((hb2.mono (by omega)).trans (((bal (Below.refl _ _) _).mono (by omega)).trans ((hb3.mono (by simp; omega)).trans (hb4.mono ?_)))))⟩
  have := hb3.size
  simp at this
  omega
end Go.Proofs.Ytkladhbamkomnaa
