import Derived.Test.YtekllgejmgoajaaDoorPkbm
namespace Go.Proofs.YtekllgejmgoajaaDoor
set_option linter.unusedVariables false
set_option linter.unusedSimpArgs false
set_option maxRecDepth 100000
set_option maxHeartbeats 8000000
section
namespace SX
open Go.ChangeShapes Go.WideShapes Go.ChangeAt Go.RowKit Go.Shelf
attribute [local go_sem] Oper.semAt_some
theorem at_nil (w : World) (n i : Int) : Calls Tryd.prog 44 #[.pointer none, .agg #[.int .i64 n, .int .i64 i]] w fun e w' => e = .returned (.tuple #[.pointer none, .int .i64 1]) ∧ Below w.heap.size w w' := by
 go_enter Tryd.func44, Tryd.ntmps44
 go_wp2
 go_ret2
 exact ⟨rfl, bal (Below.refl _ _) _⟩
theorem sadd_nil (w : World) (n k : Int) : Calls Tryd.prog 36 #[.pointer none, .int .i64 n, .int .i64 k] w fun e w' => e = .returned (.int .i64 1) ∧ w = w' := by
 go_enter Tryd.func36, Tryd.ntmps36
 go_wp2
 go_ret
 exact ⟨rfl, rfl⟩
theorem sdrop_nil (w : World) (n : Int) : Calls Tryd.prog 37 #[.pointer none, .int .i64 n] w fun e w' => e = .returned (.int .i64 1) ∧ Below w.heap.size w w' := by
 go_enter Tryd.func37, Tryd.ntmps37
 go_wp2
 exact bodyPost_ret (v := .int .i64 1) (by simp [results, Tryd.results37, go_sem]) rfl ⟨rfl, bal (Below.refl _ _) _⟩
theorem sget_nil (w : World) (n i : Int) : Calls Tryd.prog 21 #[.pointer none, .agg #[.int .i64 n, .int .i64 i]] w fun e w' => e = .returned (.tuple #[capE 0 0 0, .int .i64 1]) ∧ Below w.heap.size w w' := by
 go_enter Tryd.func21, Tryd.ntmps21
 go_wp2_with (first
  | (go_at_call 44; refine (at_nil _ n i).mono ?_; rintro e w1 ⟨rfl, hb1⟩; obtain ⟨hc1, hf1⟩ := bcell hb1; have hz1 := hb1.size; have hz2 : w.heap.size + 1 < w1.heap.size := (by simp at hz1; omega)))
 exact bodyPost_ret (v := .tuple #[capE 0 0 0, .int .i64 1]) (by simp [results, Tryd.results21, go_sem, hc1, hf1, hz2]) rfl ⟨rfl, bs' (bs' (bs' (bs' (bs' (bs' (bs' (bs' (bgo (bal (bal (Below.refl _ _) _) _) hb1) _ _ _) _ _ _) _ _ _) _ _ _) _ _ _) _ _ _) _ _ _) _ _ _⟩
theorem each_in (n : Nat) (p : Option Addr) (w : World) :
  CallsIn Fence.wide n Tryd.prog 60 #[.pointer p] w fun e w' => e = .returned (.func (.func 74) #[] #[.pointer (some ⟨w.heap.size, 0, none⟩)]) ∧ w' = w.alloc (.cells #[.pointer p] 47) := by
 refine callsIn_of_wp Tryd.func60 rfl trivial ?_ rfl
 simp only [Tryd.ntmps60, List.size_toArray, List.length_cons, List.length_nil, Nat.reduceAdd, Nat.reduceSub, Array.replicate_succ, Array.replicate_zero, List.push_toArray, List.append_toArray, List.nil_append, List.cons_append]
 gi_wp2
 go_ret
 exact ⟨rfl, rfl⟩
section
variable {P : Program} {F : Fence} {n : Nat}
theorem wpIn_range_none1 {g : Operand} {ps : Array Tmp} {assign body : Code} {Q : Exit → Act → World → Prop} {a : Act} {w : World}
  (hro : F.round = none) (h1 : 1 ≤ n) {gf : Nat} {lb : Array Value} (hg : a.eval g = .func (.func gf) #[] lb) (hFg : F.fn gf) (eg : ∀ args w, (callFunc gf args).run P w = .ok (.enter gf args) w)
  (hcall : ∀ (l : Nat) (W : World), Below w.heap.size w W → CallsIn F (n - 1) P gf (#[.func (.yield l) #[] #[]] ++ lb) W fun e W' => (∃ v, e = .returned v) ∧ ∃ o, W' = W.alloc o)
  (hdone : ∀ (D : Nat) (W : World), w.heap.size ≤ D → Below w.heap.size w W → W.heap[D]? = some (.deferred (some [])) → Q .normal { a with defers := { target := .collected D, args := #[] } :: a.defers } W) :
  (Code.rangeFunc g ps assign body).wpIn F n P Q a w :=
 wpIn_rangeFunc_ownF (α := Empty) hro h1 hg hFg eg (encs := fun x => x.elim) (Kp := fun _ _ => True) (S := fun _ => True) (Sp := fun _ => False) (N := 0) (w0 := w)
  (fun l J Jx W hW hJ hJx hY h0 => (hcall l W hW).mono fun e W' ⟨hv, o, hw⟩ => ⟨hv, .inl ⟨[], trivial, hw ▸ hJ _ _ _ none h0 (World.grownBy_alloc W o none) (fun r e => by cases e)⟩⟩)
  (fun _ _ => trivial) (fun _ _ _ _ _ _ _ _ => trivial) (Below.refl _ _) (fun x => x.elim)
  (fun _ W => Below w.heap.size w W) (fun _ _ _ => False) (ownFrom_below (Nat.le_refl _) (Nat.le_refl _)) (fun _ => fun _ _ _ _ h _ _ => h) (Below.refl _ _) (fun x => x.elim)
  (fun l x => x.elim) (fun l pre x => x.elim)
  (fun D xs W hD _ hB hK => hdone D W hD hB hK) (fun D c pre W _ h => h.elim)
end
theorem each1_nil (n : Nat) (l Bn : Nat) (w : World) (hc : w.cell? ⟨Bn, 0, none⟩ = some (.pointer none)) :
  CallsIn Fence.wide n Tryd.prog 74 (#[.func (.yield l) #[] #[]] ++ #[.pointer (some ⟨Bn, 0, none⟩)]) w fun e w' => (∃ v, e = .returned v) ∧ ∃ o, w' = w.alloc o := by
 refine callsIn_of_wp_marks Tryd.func74 rfl trivial ?_ rfl
 simp only [Tryd.ntmps74, List.size_toArray, List.length_cons, List.length_nil, Nat.reduceAdd, Nat.reduceSub, Array.replicate_succ, Array.replicate_zero, List.push_toArray, List.append_toArray, List.nil_append, List.cons_append]
 have hlt : Bn < w.heap.size := by
  rcases Nat.lt_or_ge Bn w.heap.size with h | h
  ·exact h
  ·simp [World.cell?, Array.getElem?_eq_none h] at hc
 gi_wp2
 exact ⟨.tuple #[], by simp [results, Tryd.results74, go_sem], ⟨_, rfl⟩, ⟨_, rfl⟩⟩
theorem used_nil (w : World) :
  CallsIn Fence.wide 3 Tryd.prog 40 #[.pointer none] w fun e W' => e = .returned (.slice none 0 0) ∧ Below w.heap.size w W' := by
 refine callsIn_of_wp_marks Tryd.func40 rfl trivial ?_ rfl
 simp only [Tryd.ntmps40, List.size_toArray, List.length_cons, List.length_nil, Nat.reduceAdd, Nat.reduceSub, Array.replicate_succ, Array.replicate_zero, List.push_toArray, List.append_toArray, List.nil_append, List.cons_append]
 gi_wp2_with (refine ⟨trivial, ?_⟩; gi_at_call 60; refine (each_in _ _ _).mono ?_; rintro e w' ⟨rfl, rfl⟩)
 refine wpIn_range_none1 rfl (by decide) (gf := 74) (lb := #[.pointer (some ⟨w.heap.size + 1, 0, none⟩)]) rfl trivial (enters_of Tryd.func74 (by kernel_rfl) rfl) ?hcall ?hdone
 case hcall =>
  intro l W hW
  refine each1_nil _ l _ W ?_
  rw [hW.cell (p := ⟨w.heap.size + 1, 0, none⟩) (by first | (simp; done) | (simp; omega))]
  go_simp
 case hdone =>
  rintro D W hD hB hK
  simp only [World.size_alloc] at hD
  have d0 : W.cell? ⟨w.heap.size, 0, none⟩ = some (.slice none 0 0) := (hB.cell (p := ⟨w.heap.size, 0, none⟩) (by first | (simp; done) | (simp; omega))).trans (by go_simp)
  have BI : Below w.heap.size w W := (bal (bal (Below.refl _ _) _) _).trans (hB.mono (by simp; omega))
  clear hB
  gi_wp2
  refine ⟨by simp, .inl ⟨_, _, rfl, run_takeDeferred hK, ?_⟩⟩
  exact ⟨.slice none 0 0, by simp [results, Tryd.results40, go_sem], rfl, BI.trans (belowK_b (w := w) (Nat.le_refl _) W D _ _ (by omega) hK rfl rfl)⟩
end SX
end
end Go.Proofs.YtekllgejmgoajaaDoor
