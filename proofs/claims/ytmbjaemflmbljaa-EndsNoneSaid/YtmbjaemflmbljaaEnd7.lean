/- The endpoints: find of one who does not wait. -/
import Derived.Test.YtmbjaemflmbljaaEnd6
namespace Go.Proofs.Ytmbjaemflmbljaa
set_option linter.unusedVariables false
set_option linter.unusedSimpArgs false
open Go.ChangeShapes Go.WideShapes Go.ChangeAt Go.RowKit Go.Shelf
attribute [local go_sem] Oper.semAt_some

theorem calls_round {l n : Nat} {P : Program} {f : Nat} {args : Array Value} {w : World} {R : Ending → World → Prop} (h : Calls P f args w R) : CallsIn (Fence.wide.inRound l) n P f args w R := callsIn_wide.2 h
set_option maxRecDepth 100000 in
set_option maxHeartbeats 1000000 in
theorem find_miss (w : World) (b g c : Nat) (p : Option Addr) (n cc : Nat) (sd : Bool) (k : Int) (h : EndAt w b g c p n cc sd) (hx : ∀ W, Below w.heap.size w W → Calls Try.prog 37 #[.slice p n cc, .int .i64 k] W fun e w' => e = .returned (.int .i64 (-1)) ∧ W = w') :
    CallsIn Fence.wide 3 Try.prog 29 #[.pointer (some ⟨b, 0, none⟩), .int .i64 k] w fun e W' => e = .returned (.tuple #[.pointer none, .int .i64 0, .bool false]) ∧ Below w.heap.size w W' := by
  have H := Lib.hid h
  have HX := Lib.hid hx
  have l1 := h.lt
  have l2 := h.row.2.2.2
  clear h hx
  refine callsIn_of_wp_marks Try.func29 rfl trivial ?_ rfl
  simp only [Try.ntmps29, List.size_toArray, List.length_cons, List.length_nil, Nat.reduceAdd, Nat.reduceSub, Array.replicate_succ, Array.replicate_zero, List.push_toArray, List.append_toArray, List.nil_append, List.cons_append]
  gi_wp2
  refine wpIn_scope_wide ?_
  gi_wp2
  refine wpIn_label ?_
  gi_wp2_with (refine ⟨trivial, ?_⟩; gi_at_call 36; refine (each_in _ _ _).mono ?_; rintro e w' ⟨rfl, rfl⟩)
  refine wpIn_range_passed (α := Fin 1) rfl (by decide) (gf := 43) (lb := #[.pointer (some ⟨w.heap.size + 1 + 1 + 1 + 1, 0, none⟩)]) rfl trivial (enters_of Try.func43 (by kernel_rfl) rfl)
    (encs := fun _ : Fin 1 => #[.pointer (some ⟨g, 1, none⟩)]) (V := fun _ => True) (S := fun xs => xs = [0]) (N := 1) (fun _ U => Below (((((w.alloc (.cells #[.int .i64 k] 3)).alloc (.cells #[.pointer none] 65)).alloc (.cells #[.int .i64 0] 3)).alloc (.cells #[.bool false] 4)).alloc (.cells #[.pointer (some ⟨b, 0, none⟩)] 24)).heap.size (((((w.alloc (.cells #[.int .i64 k] 3)).alloc (.cells #[.pointer none] 65)).alloc (.cells #[.int .i64 0] 3)).alloc (.cells #[.bool false] 4)).alloc (.cells #[.pointer (some ⟨b, 0, none⟩)] 24)) U)
    (each1_passed 0 (w.heap.size + 1 + 1 + 1 + 1) b g c _ (((((w.alloc (.cells #[.int .i64 k] 3)).alloc (.cells #[.pointer none] 65)).alloc (.cells #[.int .i64 0] 3)).alloc (.cells #[.bool false] 4)).alloc (.cells #[.pointer (some ⟨b, 0, none⟩)] 24)) ?hp ?hb ?hg ?lp ?lb ?lg _ ?hKp) (fun _ => rfl) (ownFrom_below (Nat.le_refl _) (Nat.le_refl _)) (Below.refl _ _)
    (fun x => { tmps := #[.pointer (some ⟨b, 0, none⟩), .int .i64 k, undef, .pointer (some ⟨w.heap.size, 0, none⟩), .pointer (some ⟨w.heap.size + 1, 0, none⟩), .pointer (some ⟨w.heap.size + 1 + 1, 0, none⟩), .pointer (some ⟨w.heap.size + 1 + 1 + 1, 0, none⟩), .pointer (some ⟨g, 1, none⟩), undef, .pointer (some ⟨b, 0, none⟩), .func (.func 43) #[] #[.pointer (some ⟨w.heap.size + 1 + 1 + 1 + 1, 0, none⟩)], .pointer (some ⟨g, 1, none⟩), undef, undef, undef, undef, undef, undef, undef, undef, undef, undef], defers := [] }) ?hassign ?hbody ?hdone
  case hp => go_simp
  case hb => exact cell_more _ (cell_more _ (cell_more _ (cell_more _ (cell_more _ H.out.tab))))
  case hg => exact cell_more _ (cell_more _ (cell_more _ (cell_more _ (cell_more _ H.out.row.1))))
  case lp => simp
  case lb => simp; omega
  case lg => simp; omega
  case hKp =>
    intro pre U hU
    exact ⟨hU.block _ (by simp; omega), hU.block _ (by simp), hU.block _ (by simp; omega), hU.size⟩
  case hassign =>
    intro l x W K hK
    gi_wp2
    exact hK
  case hbody =>
    rintro l pre x U - hU hlen
    have u0 : U.cell? ⟨w.heap.size, 0, none⟩ = some (.int .i64 k) := (hU.cell (p := ⟨w.heap.size, 0, none⟩) (by simp; omega)).trans (by go_simp)
    have u1 : U.cell? ⟨g, 1, none⟩ = some (.slice p n cc) := (hU.cell (p := ⟨g, 1, none⟩) (by simp; omega)).trans (cell_more _ (cell_more _ (cell_more _ (cell_more _ (cell_more _ H.out.row.2.1)))))
    have BU : Below w.heap.size w U := (bal (bal (bal (bal (bal (Below.refl _ _) _) _) _) _) _).trans (hU.mono (by simp; omega))
    have HIX := Lib.hid (HX.out U.drew BU.drew)
    have HU := Lib.hid hU
    clear hU BU
    gi_wp2
    gi_region_with (first | (refine ⟨trivial, ?_⟩; gi_at_call 37; refine (calls_round HIX.out).mono ?_; rintro e w3 ⟨rfl, rfl⟩) | (gi_at_call 37; refine (calls_round HIX.out).mono ?_; rintro e w3 ⟨rfl, rfl⟩))
    all_goals
      gi_wp2
      exact ⟨⟨Nat.le_refl _, fun _ _ _ => rfl⟩, by first | exact HU.out.drew | simpa using HU.out.drew⟩
  case hdone =>
    rintro D xs W hD hS hB hK
    simp only [World.size_alloc] at hD
    have d0 : W.cell? ⟨w.heap.size + 1, 0, none⟩ = some (.pointer none) := (hB.cell (p := ⟨w.heap.size + 1, 0, none⟩) (by first | (simp; done) | (simp; omega))).trans (by go_simp)
    have d1 : W.cell? ⟨w.heap.size + 2, 0, none⟩ = some (.int .i64 0) := (hB.cell (p := ⟨w.heap.size + 2, 0, none⟩) (by first | (simp; done) | (simp; omega))).trans (by go_simp)
    have d2 : W.cell? ⟨w.heap.size + 3, 0, none⟩ = some (.bool false) := (hB.cell (p := ⟨w.heap.size + 3, 0, none⟩) (by first | (simp; done) | (simp; omega))).trans (by go_simp)
    have f0 : W.frozen? ⟨w.heap.size + 1, 0, none⟩ = false := (hB.frozen (p := ⟨w.heap.size + 1, 0, none⟩) (by first | (simp; done) | (simp; omega))).trans (by go_simp)
    have f1 : W.frozen? ⟨w.heap.size + 2, 0, none⟩ = false := (hB.frozen (p := ⟨w.heap.size + 2, 0, none⟩) (by first | (simp; done) | (simp; omega))).trans (by go_simp)
    have f2 : W.frozen? ⟨w.heap.size + 3, 0, none⟩ = false := (hB.frozen (p := ⟨w.heap.size + 3, 0, none⟩) (by first | (simp; done) | (simp; omega))).trans (by go_simp)
    have BI : Below w.heap.size w W := (bal (bal (bal (bal (bal (Below.refl _ _) _) _) _) _) _).trans (hB.mono (by simp; omega))
    have hsw := hB.size
    simp only [World.size_alloc] at hsw
    clear hB
    gi_wp2
    have q0 : (((W.setCell ⟨w.heap.size + 1, 0, none⟩ (.pointer none)).setCell ⟨w.heap.size + 1 + 1, 0, none⟩ (.int .i64 0)).setCell ⟨w.heap.size + 1 + 1 + 1, 0, none⟩ (.bool false)).cell? ⟨w.heap.size + 1, 0, none⟩ = some (.pointer none) := by go_simp
    have q1 : (((W.setCell ⟨w.heap.size + 1, 0, none⟩ (.pointer none)).setCell ⟨w.heap.size + 1 + 1, 0, none⟩ (.int .i64 0)).setCell ⟨w.heap.size + 1 + 1 + 1, 0, none⟩ (.bool false)).cell? ⟨w.heap.size + 1 + 1, 0, none⟩ = some (.int .i64 0) := by go_simp
    have q2 : (((W.setCell ⟨w.heap.size + 1, 0, none⟩ (.pointer none)).setCell ⟨w.heap.size + 1 + 1, 0, none⟩ (.int .i64 0)).setCell ⟨w.heap.size + 1 + 1 + 1, 0, none⟩ (.bool false)).cell? ⟨w.heap.size + 1 + 1 + 1, 0, none⟩ = some (.bool false) := by go_simp
    have hKU : (((W.setCell ⟨w.heap.size + 1, 0, none⟩ (.pointer none)).setCell ⟨w.heap.size + 1 + 1, 0, none⟩ (.int .i64 0)).setCell ⟨w.heap.size + 1 + 1 + 1, 0, none⟩ (.bool false)).heap[D]? = some (.deferred (some [])) := by
      rw [Go.heap_setCell_other _ _ _ _ (by simp; omega), Go.heap_setCell_other _ _ _ _ (by simp; omega), Go.heap_setCell_other _ _ _ _ (by simp; omega)]
      exact hK
    have BU : Below w.heap.size w (((W.setCell ⟨w.heap.size + 1, 0, none⟩ (.pointer none)).setCell ⟨w.heap.size + 1 + 1, 0, none⟩ (.int .i64 0)).setCell ⟨w.heap.size + 1 + 1 + 1, 0, none⟩ (.bool false)) := by
      (repeat (first | with_reducible exact BI | with_reducible refine Below.setCell ?_ (by simp; try omega) _))
    obtain ⟨U, hU⟩ : ∃ U, U = (((W.setCell ⟨w.heap.size + 1, 0, none⟩ (.pointer none)).setCell ⟨w.heap.size + 1 + 1, 0, none⟩ (.int .i64 0)).setCell ⟨w.heap.size + 1 + 1 + 1, 0, none⟩ (.bool false)) := ⟨_, rfl⟩
    rw [← hU] at q0 q1 q2 hKU BU ⊢
    clear hU d0 d1 d2 f0 f1 f2
    rw [Exit.noGoto_ret]
    refine ⟨by simp, .inl ⟨_, _, rfl, run_takeDeferred hKU, ?_⟩⟩
    have g0 : (U.putObj D (.deferred none)).cell? ⟨w.heap.size + 1, 0, none⟩ = some (.pointer none) := (cell_of_block (heap_putObj_ne (by omega))).trans q0
    have g1 : (U.putObj D (.deferred none)).cell? ⟨w.heap.size + 1 + 1, 0, none⟩ = some (.int .i64 0) := (cell_of_block (heap_putObj_ne (by omega))).trans q1
    have g2 : (U.putObj D (.deferred none)).cell? ⟨w.heap.size + 1 + 1 + 1, 0, none⟩ = some (.bool false) := (cell_of_block (heap_putObj_ne (by omega))).trans q2
    exact ⟨.tuple #[.pointer none, .int .i64 0, .bool false], by simp [results, Try.results29, go_sem, g0, g1, g2], rfl, BU.trans (belowK_b (w := w) (Nat.le_refl _) U D _ _ (by omega) hKU rfl rfl)⟩
end Go.Proofs.Ytmbjaemflmbljaa
