/- The law EndsTurns. -/
import Derived.Test.YtmbjaemflmbljaaEnA
namespace Go.Proofs.Ytmbjaemflmbljaa
set_option linter.unusedVariables false
set_option linter.unusedSimpArgs false
open Go.ChangeShapes Go.WideShapes Go.ChangeAt Go.RowKit Go.Shelf

/-- k numbers from a on. -/
def seqI (a : Int) (k : Nat) : List Int := (List.range k).map fun j : Nat => a + (j : Int)
theorem seqI_succ (a : Int) (k : Nat) : seqI a (k + 1) = seqI a k ++ [a + (k : Int)] := by simp [seqI, List.range_succ]
theorem seqI_cons (a : Int) (k : Nat) : seqI a (k + 1) = a :: seqI (a + 1) k := by
  simp only [seqI, List.range_succ_eq_map, List.map_cons, List.map_map, Int.natCast_zero, Int.add_zero, List.cons.injEq, true_and]
  refine List.map_congr_left fun j _ => ?_
  simp only [Function.comp]
  omega
theorem seqI_len (a : Int) (k : Nat) : (seqI a k).length = k := by simp [seqI]
theorem seqI_mem {a x : Int} {k : Nat} (h : x ∈ seqI a k) : a ≤ x ∧ x < a + k := by
  unfold seqI at h
  obtain ⟨j, hj, rfl⟩ := List.mem_map.1 h
  have := List.mem_range.1 hj
  omega
def T9 (l : List Int) (s : Bool) : List EA := [(9, l, s)]
theorem who9 (l : List Int) (s : Bool) : whoA (T9 l s) = l := by simp [whoA, T9]
theorem get9 (l : List Int) (s : Bool) : getA (T9 l s) 9 = some (9, l, s) := by simp [getA, T9]
theorem wait9R (l : List Int) (s0 s : Bool) (t : Int) (ht : 1 ≤ t) (hn : t ∉ l) (h : l = [] ∨ s0 = s) : waitR (T9 l s0) 9 t s = 0 := by
  unfold waitR
  rw [get9, who9]
  show (if t < 1 then (2 : Int) else if t ∈ l then 16 else if l = [] ∨ s0 = s then 0 else 16) = 0
  rw [if_neg (by omega), if_neg hn, if_pos h]
theorem wait9L (l : List Int) (s0 s : Bool) (t : Int) (ht : 1 ≤ t) (hn : t ∉ l) (h : l = [] ∨ s0 = s) : waitL (T9 l s0) 9 t s = T9 (l ++ [t]) s := by
  unfold waitL
  rw [if_pos (wait9R l s0 s t ht hn h)]
  simp [T9, waitF]
theorem first9 (x : Int) (l : List Int) (s : Bool) : firstA (T9 (x :: l) s) 9 = (x, s, true) := by
  unfold firstA listA
  rw [get9]
  rfl
theorem first9_0 (s : Bool) : firstA (T9 [] s) 9 = (0, false, false) := by
  unfold firstA listA
  rw [get9]
  rfl
theorem rem9 (x : Int) (l : List Int) (s : Bool) : remL (T9 (x :: l) s) x = T9 l s := by
  simp [remL, T9, remF]
theorem rem9_no (x : Int) (l : List Int) (s : Bool) (h : x ∉ l) : remL (T9 l s) x = T9 l s := by
  simp [remL, T9, remF, List.erase_of_not_mem h]
section
variable {W w : World} {b n : Nat}
theorem wait_9 (l : List Int) (s0 s : Bool) (t : Int) (ht : 1 ≤ t) (hx : t ∉ l) (h : l = [] ∨ s0 = s) (hl : l.length < 60) (H : StE W w b 100 (T9 l s0)) :
    Calls Try.prog 16 #[.pointer (some ⟨b, 0, none⟩), .int .i64 9, .int .i64 t, .bool s] w fun e w' => e = .returned (.int .i64 0) ∧ StE W w' b 100 (T9 (l ++ [t]) s) := by
  refine (wait_S W w b 100 _ 9 t s H (by decide)).mono ?_
  rintro e w' ⟨h1, h2, -⟩
  rw [wait9R l s0 s t ht hx h] at h1
  refine ⟨h1, h2.tight (wait9L l s0 s t ht hx h) (by simp [T9]) ?_⟩
  rw [who9, List.length_append]
  simp
  omega
theorem first_9 (x : Int) (l : List Int) (s : Bool) (H : StE W w b 100 (T9 (x :: l) s)) :
    Calls Try.prog 20 #[.pointer (some ⟨b, 0, none⟩), .int .i64 9] w fun e w' => e = .returned (.tuple #[.int .i64 x, .bool s, .bool true]) ∧ StE W w' b 100 (T9 (x :: l) s) := by
  refine (first_S W w b 100 _ 9 H (by decide)).mono ?_
  rintro e w' ⟨h1, h2, -⟩
  rw [first9] at h1
  exact ⟨h1, h2⟩
theorem remove_9 (x : Int) (l : List Int) (s : Bool) (H : StE W w b 100 (T9 (x :: l) s)) :
    Calls Try.prog 18 #[.pointer (some ⟨b, 0, none⟩), .int .i64 x] w fun e w' => e = .returned (.bool true) ∧ StE W w' b 100 (T9 l s) := by
  refine (remove_S W w b 100 _ x H (by decide)).mono ?_
  rintro e w' ⟨h1, h2, -⟩
  rw [who9, decide_eq_true (List.mem_cons_self ..)] at h1
  rw [rem9] at h2
  exact ⟨h1, h2⟩
theorem remove_9_no (x : Int) (l : List Int) (s : Bool) (hx : x ∉ l) (H : StE W w b 100 (T9 l s)) :
    Calls Try.prog 18 #[.pointer (some ⟨b, 0, none⟩), .int .i64 x] w fun e w' => e = .returned (.bool false) ∧ StE W w' b 100 (T9 l s) := by
  refine (remove_S W w b 100 _ x H (by decide)).mono ?_
  rintro e w' ⟨h1, h2, -⟩
  rw [who9, decide_eq_false hx] at h1
  rw [rem9_no x l s hx] at h2
  exact ⟨h1, h2⟩
end
set_option maxRecDepth 100000 in
set_option maxHeartbeats 4000000 in
theorem walk_endsTurns (a0 : Int) (w0 : (Lit.int .i64 a0).wf = true) (a1 : Bool) (W : World) :
    Calls Try.prog 5 #[.int .i64 a0, .bool a1] W fun e w' => e = .returned (.bool true) ∧ Below W.heap.size W w' := by
  have i0 : -9223372036854775808 ≤ a0 ∧ a0 ≤ 9223372036854775807 := i64_of w0
  clear w0
  obtain ⟨m, hm⟩ : ∃ m : Nat, lowI a0 40 = (m : Int) := ⟨(lowI a0 40).toNat, by have := lowI_0 a0 40 (by omega); omega⟩
  have bm : m < 40 := by have := lowI_1 a0 40 (by omega); omega
  have L0 := Lib.hid (low_any a0 40 · i0 (by omega) (by omega))
  rw [hm] at L0
  clear hm i0
  go_enter Try.func5, Try.ntmps5
  go_wp2_with (first
    | (go_at_call 24; refine (L0.out _).mono ?_; rintro e wl ⟨rfl, rfl⟩)
    | (go_at_call 8; refine (new_S W _ (Below.refl _ _)).mono ?_; rintro e w1 ⟨rfl, h1, -⟩; have H1 := Lib.hid h1; clear h1)
    | (go_at_call 10; refine (add_S W w1 _ 0 [] 9 H1.out (by decide)).mono ?_; rw [show addR [] 9 = 0 by decide]; rintro e w2 ⟨rfl, h2, -⟩; have H2 : Hid (StE W w2 W.heap.size 100 (T9 (seqI 1 0) false)) := Lib.hid (h2.tight (by decide) (by simp [T9]) (by simp [who9, seqI])); clear h2))
  go_loopw [7] (fun i wr => ∃ (k : Nat) (s0 : Bool), k ≤ m ∧ i = .int .i64 k ∧ Hid (seqI 1 k = [] ∨ s0 = a1) ∧ Hid (StE W wr W.heap.size 100 (T9 (seqI 1 k) s0))) (fun i _ => m - (intOf i).toNat)
  case atStart => exact ⟨0, false, by omega, rfl, Lib.hid (.inl rfl), H2⟩
  clear H1 H2
  case round =>
    obtain ⟨k, s0, hk, rfl, HS, HQ⟩ := hrel
    by_cases hlt : k < m
    · have hlt' : (k : Int) < (m : Int) := by omega
      have hno : Hid ((1 + (k : Int)) ∉ seqI 1 k) := Lib.hid (fun q => by have := seqI_mem q; omega)
      go_wp2_with (go_at_call 16; refine (wait_9 (seqI 1 k) s0 a1 (1 + (k : Int)) (by omega) hno.out HS.out (by rw [seqI_len]; omega) HQ.out).mono ?_; rw [← seqI_succ]; rintro e w3 ⟨rfl, h3⟩; have H3 := Lib.hid h3; clear h3)
      go_roundw
      case rel => exact ⟨k + 1, a1, by omega, by go_num, Lib.hid (.inr rfl), H3⟩
      case measure => simp [intOf]; omega
    · obtain rfl : k = m := by omega
      have H0 : Hid (∃ s0, (seqI (1 + ((0 : Nat) : Int)) (k - 0) = [] ∨ s0 = a1) ∧ StE W wr W.heap.size 100 (T9 (seqI (1 + ((0 : Nat) : Int)) (k - 0)) s0)) := Lib.hid ⟨s0, by simpa using HS.out, by simpa using HQ.out⟩
      clear HS HQ
      go_wp2
      go_loopw [8, 9, 10, 11] (fun i x s ok wr => ∃ (j : Nat), j ≤ k ∧ i = .int .i64 j ∧ Hid (∃ s0, (seqI (1 + (j : Int)) (k - j) = [] ∨ s0 = a1) ∧ StE W wr W.heap.size 100 (T9 (seqI (1 + (j : Int)) (k - j)) s0))) (fun i _ _ _ _ => k - (intOf i).toNat)
      case atStart => exact ⟨0, by omega, rfl, H0⟩
      clear H0
      case round =>
        obtain ⟨j, hj, rfl, HQ⟩ := hrel
        by_cases hlt : j < k
        · have hlt' : (j : Int) < (k : Int) := by omega
          obtain ⟨q, hq⟩ : ∃ q, k - j = q + 1 := ⟨k - j - 1, by omega⟩
          have hq' : k - (j + 1) = q := by omega
          rw [hq, seqI_cons] at HQ
          have HQ1 : Hid (StE W wr W.heap.size 100 (T9 ((1 + (j : Int)) :: seqI (1 + (j : Int) + 1) q) a1)) := Lib.hid (by
            obtain ⟨s0, h1 | rfl, h2⟩ := HQ.out
            · cases h1
            · exact h2)
          have hno : Hid ((1 + (j : Int)) ∉ seqI (1 + (j : Int) + 1) q) := Lib.hid (fun q => by have := seqI_mem q; omega)
          have HJ := Lib.hid hq'
          clear hq hq' HQ
          go_wp2_with (first
            | (go_at_call 20; refine (first_9 (1 + (j : Int)) (seqI (1 + (j : Int) + 1) q) a1 HQ1.out).mono ?_; rintro e w3 ⟨rfl, h3⟩; have H3 := Lib.hid h3; clear h3)
            | (go_at_call 18; with_reducible refine (remove_9 (1 + (j : Int)) (seqI (1 + (j : Int) + 1) q) a1 H3.out).mono ?_; rintro e w4 ⟨rfl, h4⟩; have H4 := Lib.hid h4; clear h4 H3)
            | (go_at_call 18; with_reducible refine (remove_9_no (1 + (j : Int)) (seqI (1 + (j : Int) + 1) q) a1 hno.out H4.out).mono ?_; rintro e w5 ⟨rfl, h5⟩; have H5 := Lib.hid h5; clear h5))
          go_roundw
          case rel => exact ⟨j + 1, by omega, by go_num, Lib.hid ⟨a1, .inr rfl, by rw [HJ.out, show 1 + ((j + 1 : Nat) : Int) = 1 + (j : Int) + 1 by omega]; exact H5.out⟩⟩
          case measure => simp [intOf]; omega
        · obtain rfl : j = k := by omega
          obtain ⟨s0, HQ1⟩ : ∃ s0, Hid (StE W wr W.heap.size 100 (T9 [] s0)) := by
            obtain ⟨s0, _, h2⟩ := HQ.out
            rw [Nat.sub_self] at h2
            exact ⟨s0, Lib.hid h2⟩
          clear HQ
          go_wp2_with (first
            | (go_at_call 20; refine (first_S W _ _ 100 _ 9 HQ1.out (by decide)).mono ?_; rw [first9_0]; rintro e w3 ⟨rfl, h3, -⟩; have H3 := Lib.hid h3; clear h3)
            | (go_at_call 16; refine (wait_9 [] s0 (!a1) 1 (by omega) (by simp) (.inl rfl) (by decide) H3.out).mono ?_; rintro e w4 ⟨rfl, h4⟩; have H4 := Lib.hid h4; clear h4)
            | (go_at_call 7; refine (awake22 _).mono ?_; rintro e w5 ⟨rfl, hb5⟩))
          go_ret
          exact ⟨rfl, H4.out.bel.trans (hb5.mono H4.out.bel.size)⟩
end Go.Proofs.Ytmbjaemflmbljaa
