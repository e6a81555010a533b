/- package ends: the state that the laws walk over; two equal lists; awake. -/
import Derived.Test.YtmbjaemflmbljaaEn9
import Derived.Test.YtmbjaemflmbljaaLowL
import Derived.Lib.SliceRun
namespace Go.Proofs.Ytmbjaemflmbljaa
set_option linter.unusedVariables false
set_option linter.unusedSimpArgs false
open Go.ChangeShapes Go.WideShapes Go.ChangeAt Go.RowKit Go.Shelf
open TabE

theorem i64_of {n : Int} (h : (Lit.int .i64 n).wf = true) : -9223372036854775808 ≤ n ∧ n ≤ 9223372036854775807 := by
  simp [Lit.wf, IntKind.min, IntKind.max, IntKind.signed, IntKind.bits] at h
  exact ⟨by omega, by omega⟩
theorem OnceA.tight {A : List EA} {n m : Nat} (h : OnceA A n) (h1 : A.length ≤ m) (h2 : (whoA A).length ≤ m) : OnceA A m := ⟨h.ids, h.once, h1, h2⟩
/-- Endpoints in block b that hold A; all older than W's end is as it was. -/
structure StE (W w : World) (b n : Nat) (A : List EA) : Prop where
  st : ∃ base tv L, EndsAt w b base tv L ∧ AbsE L A n
  lo : W.heap.size ≤ b
  bel : Below W.heap.size W w
theorem StE.tight {W w : World} {b n m : Nat} {A B : List EA} (h : StE W w b n A) (e : A = B) (h1 : B.length ≤ m) (h2 : (whoA B).length ≤ m) : StE W w b m B := by
  subst e
  obtain ⟨base, tv, L, hE, hA⟩ := h.st
  exact ⟨⟨base, tv, L, hE, hA.perm, hA.once.tight h1 h2⟩, h.lo, h.bel⟩
theorem StE.lt {W w : World} {b n : Nat} {A : List EA} (h : StE W w b n A) : b < w.heap.size := by
  obtain ⟨base, tv, L, hE, hA⟩ := h.st
  exact hE.lt
theorem StE.call {W w w' : World} {b n : Nat} {A : List EA} (h : StE W w b n A) (k : Below w.heap.size w w') : StE W w' b n A := by
  obtain ⟨base, tv, L, hE, hA⟩ := h.st
  exact ⟨⟨base, tv, L, hE.call k, hA⟩, h.lo, h.bel.trans (k.mono h.bel.size)⟩
theorem StE.once {W w : World} {b n : Nat} {A : List EA} (h : StE W w b n A) : OnceA A n := by
  obtain ⟨base, tv, L, hE, hA⟩ := h.st
  exact hA.once
theorem new_S (W w : World) (h : Below W.heap.size W w) : Calls Try.prog 8 #[] w fun e w' => e = .returned (.pointer (some ⟨w.heap.size, 0, none⟩)) ∧ StE W w' w.heap.size 0 [] ∧ Below w.heap.size w w' := by
  refine (enew_any w).mono ?_
  rintro e w' ⟨h1, h2, h3⟩
  exact ⟨h1, ⟨⟨_, _, _, h2, .refl _, ⟨by simp, by simp [whoA], by simp, by simp [whoA]⟩⟩, h.size, h.trans (h3.mono h.size)⟩, h3⟩
theorem list_S (W w : World) (b n : Nat) (A : List EA) (id : Int) (h : StE W w b n A) (hn : n < 1000000) :
    Calls Try.prog 22 #[.pointer (some ⟨b, 0, none⟩), .int .i64 id] w fun e w' => ∃ r, e = .returned (.tuple #[r, .bool (listA A id).2]) ∧ w'.ownsRow w.heap.size 3 1 r (listA A id).1.length ((listA A id).1.map (Value.int .i64)) ∧ StE W w' b n A ∧ Below w.heap.size w w' := by
  obtain ⟨base, tv, L, hE, hA⟩ := h.st
  exact (list_A w b base tv L A n id hE hA hn).mono fun e w' ⟨r, h1, h2, h3⟩ => ⟨r, h1, h2, h.call h3, h3⟩
theorem first_S (W w : World) (b n : Nat) (A : List EA) (id : Int) (h : StE W w b n A) (hn : n < 1000000) :
    Calls Try.prog 20 #[.pointer (some ⟨b, 0, none⟩), .int .i64 id] w fun e w' => e = .returned (.tuple #[.int .i64 (firstA A id).1, .bool (firstA A id).2.1, .bool (firstA A id).2.2]) ∧ StE W w' b n A ∧ Below w.heap.size w w' := by
  obtain ⟨base, tv, L, hE, hA⟩ := h.st
  exact (first_A w b base tv L A n id hE hA hn).mono fun e w' ⟨h1, h3⟩ => ⟨h1, h.call h3, h3⟩
theorem wait_S (W w : World) (b n : Nat) (A : List EA) (id t : Int) (s : Bool) (h : StE W w b n A) (hn : n < 1000000) :
    Calls Try.prog 16 #[.pointer (some ⟨b, 0, none⟩), .int .i64 id, .int .i64 t, .bool s] w fun e w' => e = .returned (.int .i64 (waitR A id t s)) ∧ StE W w' b (n + 1) (waitL A id t s) ∧ Below b w w' := by
  obtain ⟨base, tv, L, hE, hA⟩ := h.st
  exact (wait_A w b base tv L A n id t s hE hA hn).mono fun e w' ⟨h1, L', h2, h3, h4⟩ => ⟨h1, ⟨⟨_, _, _, h2, h3⟩, h.lo, h.bel.trans (h4.below hE h.lo)⟩, h4.below hE (Nat.le_refl _)⟩
theorem remove_S (W w : World) (b n : Nat) (A : List EA) (t : Int) (h : StE W w b n A) (hn : n < 1000000) :
    Calls Try.prog 18 #[.pointer (some ⟨b, 0, none⟩), .int .i64 t] w fun e w' => e = .returned (.bool (decide (t ∈ whoA A))) ∧ StE W w' b n (remL A t) ∧ Below b w w' := by
  obtain ⟨base, tv, L, hE, hA⟩ := h.st
  exact (remove_A w b base tv L A n t hE hA hn).mono fun e w' ⟨h1, L', h2, h3, h4⟩ => ⟨h1, ⟨⟨_, _, _, h2, h3⟩, h.lo, h.bel.trans (h4.below hE h.lo)⟩, h4.below hE (Nat.le_refl _)⟩
theorem add_S (W w : World) (b n : Nat) (A : List EA) (id : Int) (h : StE W w b n A) (hn : n < 1000000) :
    Calls Try.prog 10 #[.pointer (some ⟨b, 0, none⟩), .int .i64 id] w fun e w' => e = .returned (.int .i64 (addR A id)) ∧ StE W w' b (n + 1) (addL A id) ∧ Below b w w' := by
  obtain ⟨base, tv, L, hE, hA⟩ := h.st
  exact (add_A w b base tv L A n id hE hA hn).mono fun e w' ⟨h1, tv', L', h2, h3, h4⟩ => ⟨h1, ⟨⟨_, _, _, h2, h3⟩, h.lo, h.bel.trans (h4.below hE h.lo)⟩, h4.below hE (Nat.le_refl _)⟩
theorem same_yes (ga gb n ca cb : Nat) (xs : List Int) (w : World) (hn : n < 1000000000) (hA : ∀ k, k < n → w.cell? ⟨ga, k, none⟩ = some (.int .i64 (xs.getD k 0))) (hB : ∀ k, k < n → w.cell? ⟨gb, k, none⟩ = some (.int .i64 (xs.getD k 0))) :
    Calls Try.prog 14 #[.slice (some ⟨ga, 0, none⟩) n ca, .slice (some ⟨gb, 0, none⟩) n cb] w fun e w' => e = .returned (.bool true) ∧ Below w.heap.size w w' := by
  go_enter Try.func14, Try.ntmps14
  go_wp2
  go_loopw [5] (fun i wr => ∃ k q : Nat, k ≤ n ∧ i = .int .i64 k ∧ wr = w.drewN q) (fun i _ => n - (intOf i).toNat)
  case atStart => exact ⟨0, 0, by omega, rfl, rfl⟩
  case round =>
    obtain ⟨k, q, hk, rfl, rfl⟩ := hrel
    by_cases hlt : k < n
    · have cA := hA k hlt
      have cB := hB k hlt
      clear hA hB
      generalize xs.getD k 0 = x at cA cB
      have hi : (k : Int) < n := by omega
      go_wp2
      go_quiet (fail)
      go_wp2
      go_roundw
      case rel => exact ⟨k + 1, _, by omega, by go_num, rfl⟩
      case measure => simp [intOf]; omega
    · obtain rfl : k = n := by omega
      clear hA hB
      go_wp2
      go_ret
      exact ⟨rfl, below_drewN (Below.refl _ _) _⟩
theorem same0 (w : World) (p q : Option Addr) (c d : Nat) : Calls Try.prog 14 #[.slice p 0 c, .slice q 0 d] w fun e w' => e = .returned (.bool true) ∧ Below w.heap.size w w' := by
  go_enter Try.func14, Try.ntmps14
  go_wp2
  refine wp_loop_rounds 1 ?_
  rw [rounds_succ]
  go_wp2
  go_ret
  exact ⟨rfl, Below.refl _ _⟩
theorem same_own (w : World) (B B' : Nat) (v v' : Value) (l : List Int) (hn : l.length < 1000000) (h : w.ownsRow B 3 1 v l.length (l.map (Value.int .i64))) (h' : w.ownsRow B' 3 1 v' l.length (l.map (Value.int .i64))) :
    Calls Try.prog 14 #[v, v'] w fun e w' => e = .returned (.bool true) ∧ Below w.heap.size w w' := by
  by_cases h0 : l = []
  · subst h0
    obtain ⟨a, c, rfl⟩ := own_len h
    obtain ⟨a', c', rfl⟩ := own_len h'
    exact same0 _ _ _ _ _
  · rcases own_form h with ⟨_, e⟩ | ⟨g1, c1, rfl, _, _, _, k1⟩
    · exact absurd e h0
    rcases own_form h' with ⟨_, e⟩ | ⟨g2, c2, rfl, _, _, _, k2⟩
    · exact absurd e h0
    have hg : ∀ k, k < l.length → l[k]? = some (l.getD k 0) := fun k hk => by
      simp [List.getD, List.getElem?_eq_getElem hk]
    exact same_yes g1 g2 l.length c1 c2 l w (by omega) (fun k hk => k1 k _ (hg k hk)) (fun k hk => k2 k _ (hg k hk))
theorem own_two (w : World) (a c : Int) : (w.alloc (.cells #[.int .i64 a, .int .i64 c] 3)).ownsRow w.heap.size 3 1 (.slice (some ⟨w.heap.size, 0, none⟩) 2 2) ([a, c] : List Int).length (([a, c] : List Int).map (Value.int .i64)) :=
  ⟨rfl, .inr ⟨w.heap.size, 2, #[.int .i64 a, .int .i64 c], rfl, Nat.le_refl _, heap_alloc_new w _, Nat.le_refl _, by unfold maxLen; decide, rfl, rfl⟩⟩
set_option maxRecDepth 100000 in
set_option maxHeartbeats 1000000 in
theorem awake22 (W : World) : Calls Try.prog 7 #[] W fun e w' => e = .returned (.bool true) ∧ Below W.heap.size W w' := by
  go_enter Try.func7, Try.ntmps7
  go_wp2_with (first
    | (go_at_call 8; refine (new_S W _ (Below.refl _ _)).mono ?_; rintro e w1 ⟨rfl, h1, -⟩; have H1 := Lib.hid h1; clear h1)
    | (go_at_call 10; refine (add_S W w1 _ 0 [] 6 H1.out (by decide)).mono ?_; rw [show addR [] 6 = 0 by decide, show addL [] 6 = [(6, [], false)] by decide]; rintro e w2 ⟨rfl, h2, -⟩; have H2 := Lib.hid h2; clear h2)
    | (go_at_call 16; with_reducible refine (wait_S W w2 _ 1 [(6, [], false)] 6 1 true H2.out (by decide)).mono ?_; rw [show waitR [(6, [], false)] 6 1 true = 0 by decide, show waitL [(6, [], false)] 6 1 true = [(6, [1], true)] by decide]; rintro e w3 ⟨rfl, h3, -⟩; have H3 := Lib.hid h3; clear h3)
    | (go_at_call 16; with_reducible refine (wait_S W w3 _ 2 [(6, [1], true)] 6 2 false H3.out (by decide)).mono ?_; rw [show waitR [(6, [1], true)] 6 2 false = 16 by decide, show waitL [(6, [1], true)] 6 2 false = [(6, [1], true)] by decide]; rintro e w4 ⟨rfl, h4, -⟩; have H4 := Lib.hid h4; clear h4)
    | (go_at_call 16; with_reducible refine (wait_S W w4 _ 3 [(6, [1], true)] 6 3 true H4.out (by decide)).mono ?_; rw [show waitR [(6, [1], true)] 6 3 true = 0 by decide, show waitL [(6, [1], true)] 6 3 true = [(6, [1, 3], true)] by decide]; rintro e w5 ⟨rfl, h5, -⟩; have H5 := Lib.hid h5; clear h5)
    | (go_at_call 22; refine (list_S W w5 _ 4 [(6, [1, 3], true)] 6 H5.out (by decide)).mono ?_; rw [show listA [(6, [1, 3], true)] 6 = ([1, 3], true) by decide]; rintro e w6 ⟨r, rfl, hr, h6, -⟩; have H6 := Lib.hid h6; have HR := Lib.hid hr; clear h6 hr)
    | (go_at_call 14; refine (same_own _ w5.heap.size w6.heap.size r _ [1, 3] (by decide) (row_of_block HR.out (fun g hg => (bal (Below.refl _ _) _).block g (HR.out.lt g hg).2)) (own_two w6 1 3)).mono ?_; rintro e w7 ⟨rfl, hb7⟩))
  go_ret
  exact ⟨rfl, H6.out.bel.trans ((bal (Below.refl _ _) _).trans (hb7.mono (by simp)) |>.mono H6.out.bel.size)⟩
end Go.Proofs.Ytmbjaemflmbljaa
