/- The law QueueTurns. -/
import Derived.Test.YthbjjamjpbfehaaQueN
import Derived.Test.YthbjjamjpbfehaaLowL
namespace Go.Proofs.Ythbjjamjpbfehaa
set_option linter.unusedVariables false
set_option linter.unusedSimpArgs false
open Go.ChangeShapes Go.WideShapes Go.ChangeAt Go.RowKit Go.Shelf

theorem i64_of {n : Int} (h : (Lit.int .i64 n).wf = true) : -9223372036854775808 ≤ n ∧ n ≤ 9223372036854775807 := by
  simp [Lit.wf, IntKind.min, IntKind.max, IntKind.signed, IntKind.bits] at h
  exact ⟨by omega, by omega⟩
/-- The queue in block b has lists L and places f. -/
def QS (W : World) (B b mb n : Nat) (L : Nat → List Int) (f : Int → Option Int) : Prop := ∃ vs, QueAt W B b mb n vs L f
theorem QS.call {w w' : World} {B b mb n : Nat} {L : Nat → List Int} {f : Int → Option Int} (h : QS w B b mb n L f) (k : Below w.heap.size w w') : QS w' B b mb n L f := by
  obtain ⟨vs, h⟩ := h
  exact ⟨vs, QueAt.call h k⟩
theorem QS.lt {w : World} {B b mb n : Nat} {L : Nat → List Int} {f : Int → Option Int} (h : QS w B b mb n L f) : B ≤ w.heap.size := by
  obtain ⟨vs, h⟩ := h
  have := h.lt
  omega
theorem new_qs (w : World) : Calls Try.prog 8 #[] w fun e w' => e = .returned (.pointer (some ⟨w.heap.size + 1, 0, none⟩)) ∧ QS w' w.heap.size (w.heap.size + 1) w.heap.size 0 noL noF ∧ Below w.heap.size w w' :=
  (new_any w).mono fun e w' ⟨h1, h2, h3⟩ => ⟨h1, ⟨_, h2⟩, h3⟩
theorem has_qs (w : World) {B b mb n : Nat} {L : Nat → List Int} {f : Int → Option Int} (x : Int) (hx : InI x) (h : QS w B b mb n L f) :
    Calls Try.prog 19 #[.pointer (some ⟨b, 0, none⟩), .int .i64 x] w fun e w' => e = .returned (.bool (f x).isSome) ∧ w' = w := by
  obtain ⟨vs, h⟩ := h
  exact has_any w B b mb n vs L f x hx h
theorem add_qs (w : World) {B b mb n : Nat} {L : Nat → List Int} {f : Int → Option Int} (x : Int) (p : Nat) (hx : InI x) (h1 : 1 ≤ x) (hp : p < 8) (hn : n < 1000000) (hf : f x = none) (h : QS w B b mb n L f) :
    Calls Try.prog 10 #[.pointer (some ⟨b, 0, none⟩), .int .i64 x, .int .i64 p] w fun e w' => e = .returned (.int .i64 0) ∧ QS w' B b mb (n + 1) (lput L p (L p ++ [x])) (fput f x p) ∧ Below B w w' := by
  obtain ⟨vs, h⟩ := h
  exact (add_yes w B b mb n vs L f x p hx h1 hp hn hf h).mono fun e w' ⟨e1, vs', h1, h2⟩ => ⟨e1, ⟨vs', h1⟩, h2.below h⟩
theorem drop_qs (w : World) {B b mb n : Nat} {L : Nat → List Int} {f : Int → Option Int} (x : Int) (p : Nat) (l1 l2 : List Int) (hx : InI x) (hp : p < 8) (hn : n < 1000000) (hf : f x = some (p : Int)) (hL : L p = l1 ++ x :: l2) (hx1 : ∀ y ∈ l1, y ≠ x) (h : QS w B b mb n L f) :
    Calls Try.prog 12 #[.pointer (some ⟨b, 0, none⟩), .int .i64 x] w fun e w' => e = .returned (.bool true) ∧ QS w' B b mb n (lput L p (l1 ++ l2)) (fdel f x) ∧ Below B w w' := by
  obtain ⟨vs, h⟩ := h
  exact (drop_yes w B b mb n vs L f x p l1 l2 hx hp hn hf hL hx1 h).mono fun e w' ⟨e1, vs', h1, h2⟩ => ⟨e1, ⟨vs', h1⟩, h2.below h⟩
theorem fdel_put {f : Int → Option Int} {x : Int} {p : Int} (h : f x = some p) : fput (fdel f x) x p = f := by
  funext y
  unfold fput fdel
  by_cases e : y = x
  · subst e; simp [h]
  · simp [e]
theorem back_qs (w : World) {B b mb n : Nat} {L : Nat → List Int} {f : Int → Option Int} (x : Int) (p : Nat) (l1 l2 : List Int) (hx : InI x) (h1 : 1 ≤ x) (hp : p < 8) (hn : n < 1000000) (hf : f x = some (p : Int)) (hL : L p = l1 ++ x :: l2) (hx1 : ∀ y ∈ l1, y ≠ x) (h : QS w B b mb n L f) :
    Calls Try.prog 14 #[.pointer (some ⟨b, 0, none⟩), .int .i64 x] w fun e w' => e = .returned (.bool true) ∧ QS w' B b mb (n + 1) (lput L p (l1 ++ l2 ++ [x])) f ∧ Below B w w' := by
  obtain ⟨vs, h⟩ := h
  refine (back_yes w B b mb n vs L f x p l1 l2 hx h1 hp hn hf hL hx1 h).mono fun e w' ⟨e1, vs', h1, h2⟩ => ⟨e1, ⟨vs', ?_⟩, h2.below h⟩
  rw [fdel_put hf] at h1
  have e : lput (lput L p (l1 ++ l2)) p (lput L p (l1 ++ l2) p ++ [x]) = lput L p (l1 ++ l2 ++ [x]) := by
    funext k
    unfold lput
    by_cases hk : k = p <;> simp [hk]
  rw [e] at h1
  exact h1
theorem first_qs (w : World) {B b mb n : Nat} {L : Nat → List Int} {f : Int → Option Int} (hn : n < 1000000) (x : Int) (l : List Int) (hc : cat L (fallTo 8) = x :: l) (h : QS w B b mb n L f) :
    Calls Try.prog 16 #[.pointer (some ⟨b, 0, none⟩)] w fun e W' => e = .returned (.tuple #[.int .i64 x, .bool true]) ∧ Below w.heap.size w W' := by
  obtain ⟨vs, h⟩ := h
  refine (first_any w B b mb n vs L f hn h).mono fun e W' ⟨h1, h2⟩ => ⟨?_, h2⟩
  rw [h1, hc]
  rfl
theorem all_qs (w : World) {B b mb n m : Nat} {L : Nat → List Int} {f : Int → Option Int} (hn : n < 1000000) (hm : (cat L (fallTo 8)).length = m) (h : QS w B b mb n L f) :
    Calls Try.prog 18 #[.pointer (some ⟨b, 0, none⟩)] w fun e W' => ∃ a c, e = .returned (.slice a m c) ∧ W'.ownsRow w.heap.size 3 1 (.slice a m c) m ((cat L (fallTo 8)).map (Value.int .i64)) ∧ Below w.heap.size w W' := by
  obtain ⟨vs, h⟩ := h
  refine (all_any w B b mb n vs L f hn h).mono fun e W' ⟨v, h1, h2, h3⟩ => ?_
  rw [hm] at h2
  obtain ⟨a, c, rfl⟩ := row_len h2
  exact ⟨a, c, h1, h2, h3⟩
/-- k numbers from a on. -/
def seqI (a : Int) (k : Nat) : List Int := (List.range k).map fun j : Nat => a + (j : Int)
theorem seqI_succ (a : Int) (k : Nat) : seqI a (k + 1) = seqI a k ++ [a + (k : Int)] := by simp [seqI, List.range_succ]
theorem seqI_cons (a : Int) (k : Nat) : seqI a (k + 1) = a :: seqI (a + 1) k := by
  simp only [seqI, List.range_succ_eq_map, List.map_cons, List.map_map, Int.natCast_zero, Int.add_zero, List.cons.injEq, true_and]
  refine List.map_congr_left fun j _ => ?_
  simp only [Function.comp]
  omega
theorem seqI_len (a : Int) (k : Nat) : (seqI a k).length = k := by simp [seqI]
def rotI (n t : Nat) : List Int := (List.range n).map fun j : Nat => 1 + (((t + j) % n : Nat) : Int)
theorem rotI_0 (n : Nat) : rotI n 0 = seqI 1 n := by
  unfold rotI seqI
  refine List.map_congr_left fun j hj => ?_
  have := List.mem_range.1 hj
  rw [Nat.zero_add, Nat.mod_eq_of_lt this]
theorem rotI_step (n t : Nat) (hn : 0 < n) : ∃ l, rotI n t = (1 + ((t % n : Nat) : Int)) :: l ∧ rotI n (t + 1) = l ++ [1 + ((t % n : Nat) : Int)] := by
  obtain ⟨m, rfl⟩ : ∃ m, n = m + 1 := ⟨n - 1, by omega⟩
  refine ⟨(List.range m).map fun j : Nat => 1 + (((t + 1 + j) % (m + 1) : Nat) : Int), ?_, ?_⟩
  · unfold rotI
    simp only [List.range_succ_eq_map, List.map_cons, List.map_map, Nat.add_zero, List.cons.injEq, true_and]
    refine List.map_congr_left fun j _ => ?_
    simp only [Function.comp, Nat.succ_eq_add_one]
    rw [show t + (j + 1) = t + 1 + j by omega]
  · unfold rotI
    rw [List.range_succ, List.map_append]
    simp only [List.map_cons, List.map_nil]
    rw [show t + 1 + m = t + (m + 1) by omega, Nat.add_mod_right]
theorem rotI_len (n t : Nat) : (rotI n t).length = n := by simp [rotI]
def LT (l2 l6 : List Int) : Nat → List Int := fun k => if k = 2 then l2 else if k = 6 then l6 else []
theorem LT_no : noL = LT [] [] := by funext k; unfold noL LT; split <;> (try rfl); split <;> rfl
theorem LT_2 (l2 l6 l : List Int) : lput (LT l2 l6) 2 l = LT l l6 := by
  funext k; unfold lput LT; by_cases h : k = 2 <;> simp [h]
theorem LT_6 (l2 l6 l : List Int) : lput (LT l2 l6) 6 l = LT l2 l := by
  funext k; unfold lput LT
  by_cases h : k = 6
  · subst h; simp
  · simp [h]
theorem LT_cat (l2 l6 : List Int) : cat (LT l2 l6) (fallTo 8) = l6 ++ l2 := by
  show LT l2 l6 7 ++ (LT l2 l6 6 ++ (LT l2 l6 5 ++ (LT l2 l6 4 ++ (LT l2 l6 3 ++ (LT l2 l6 2 ++ (LT l2 l6 1 ++ (LT l2 l6 0 ++ []))))))) = _
  show [] ++ (l6 ++ ([] ++ ([] ++ ([] ++ (l2 ++ ([] ++ ([] ++ []))))))) = _
  simp
def fT (i lo hi : Int) : Int → Option Int := fun x => if 1 ≤ x ∧ x ≤ i then some 2 else if 100 + lo ≤ x ∧ x < 100 + hi then some 6 else none
theorem fT_no : noF = fT 0 0 0 := by
  funext x; unfold noF fT
  rw [if_neg (by omega), if_neg (by omega)]
theorem fT_low (i : Int) (h : 0 ≤ i ∧ i ≤ 50) : fput (fT i 0 0) (1 + i) 2 = fT (i + 1) 0 0 := by
  funext x; unfold fput fT
  by_cases e : x = 1 + i
  · rw [if_pos e, if_pos (by omega)]
  · rw [if_neg e]
    by_cases h1 : 1 ≤ x ∧ x ≤ i
    · rw [if_pos h1, if_pos (by omega)]
    · rw [if_neg h1, if_neg (by omega), if_neg (by omega)]
theorem fT_high (i j : Int) (hi : i ≤ 50) (h : 0 ≤ j) : fput (fT i 0 j) (100 + j) 6 = fT i 0 (j + 1) := by
  funext x; unfold fput fT
  by_cases e : x = 100 + j
  · rw [if_pos e, if_neg (by omega), if_pos (by omega)]
  · rw [if_neg e]
    by_cases h1 : 1 ≤ x ∧ x ≤ i
    · rw [if_pos h1, if_pos (by omega)]
    · rw [if_neg h1, if_neg h1]
      by_cases h2 : 100 + 0 ≤ x ∧ x < 100 + j
      · rw [if_pos h2, if_pos (by omega)]
      · rw [if_neg h2, if_neg (by omega)]
theorem fT_drop (i j k : Int) (hi : i ≤ 50) (h : 0 ≤ j ∧ j < k) : fdel (fT i j k) (100 + j) = fT i (j + 1) k := by
  funext x; unfold fdel fT
  by_cases e : x = 100 + j
  · rw [if_pos e, if_neg (by omega), if_neg (by omega)]
  · rw [if_neg e]
    by_cases h1 : 1 ≤ x ∧ x ≤ i
    · rw [if_pos h1, if_pos (by omega)]
    · rw [if_neg h1, if_neg h1]
      by_cases h2 : 100 + j ≤ x ∧ x < 100 + k
      · rw [if_pos h2, if_pos (by omega)]
      · rw [if_neg h2, if_neg (by omega)]
theorem fT_none1 (i lo hi : Int) (h : i ≤ 50) (hl : 0 ≤ lo) : fT i lo hi (1 + i) = none := by
  unfold fT
  rw [if_neg (by omega), if_neg (by omega)]
theorem fT_none2 (i j : Int) (h : i ≤ 50) (hj : 0 ≤ j) : fT i 0 j (100 + j) = none := by
  unfold fT
  rw [if_neg (by omega), if_neg (by omega)]
theorem fT_six (i j k : Int) (h : i ≤ 50) (hj : 0 ≤ j ∧ j < k) : fT i j k (100 + j) = some ((6 : Nat) : Int) := by
  unfold fT
  rw [if_neg (by omega), if_pos (by omega)]
  rfl
theorem fT_two (i j k x : Int) (hx : 1 ≤ x ∧ x ≤ i) : fT i j k x = some ((2 : Nat) : Int) := by
  unfold fT
  rw [if_pos (by omega)]
  rfl
theorem qs_low {w : World} {B b mb k : Nat} (hk : k ≤ 50) (h : QS w B b mb (k + 1) (lput (LT (seqI 1 k) []) 2 (LT (seqI 1 k) [] 2 ++ [1 + (k : Int)])) (fput (fT k 0 0) (1 + (k : Int)) ((2 : Nat) : Int))) : QS w B b mb (k + 1) (LT (seqI 1 (k + 1)) []) (fT ((k + 1 : Nat) : Int) 0 0) := by
  have e1 : LT (seqI 1 k) [] 2 = seqI 1 k := rfl
  have e2 := fT_low (k : Int) ⟨by omega, by omega⟩
  have e3 : ((2 : Nat) : Int) = 2 := rfl
  rw [e1, LT_2, ← seqI_succ, e3, e2] at h
  exact h
theorem qs_high {w : World} {B b mb n j : Nat} {i : Int} {l : List Int} (hi : i ≤ 50) (h : QS w B b mb n (lput (LT l (seqI 100 j)) 6 (LT l (seqI 100 j) 6 ++ [100 + (j : Int)])) (fput (fT i 0 j) (100 + (j : Int)) ((6 : Nat) : Int))) : QS w B b mb n (LT l (seqI 100 (j + 1))) (fT i 0 ((j + 1 : Nat) : Int)) := by
  have e1 : LT l (seqI 100 j) 6 = seqI 100 j := rfl
  have e2 := fT_high i (j : Int) hi (by omega)
  have e3 : ((6 : Nat) : Int) = 6 := rfl
  rw [e1, LT_6, ← seqI_succ, e3, e2] at h
  exact h
theorem qs_drop {w : World} {B b mb n j q : Nat} {i k : Int} {l l0 : List Int} (hi : i ≤ 50) (hj : (j : Int) < k) (h : QS w B b mb n (lput (LT l l0) 6 ([] ++ seqI (100 + (j : Int) + 1) q)) (fdel (fT i j k) (100 + (j : Int)))) : QS w B b mb n (LT l (seqI (100 + ((j + 1 : Nat) : Int)) q)) (fT i ((j + 1 : Nat) : Int) k) := by
  have e2 := fT_drop i (j : Int) k hi ⟨by omega, hj⟩
  rw [List.nil_append, LT_6, e2] at h
  have e3 : 100 + ((j + 1 : Nat) : Int) = 100 + (j : Int) + 1 := by omega
  rw [e3]
  exact h
theorem qs_back {w : World} {B b mb n : Nat} {l0 l1 l2 : List Int} {f : Int → Option Int} {x : Int} (h1 : l2 = l1 ++ [x]) (h : QS w B b mb n (lput (LT l0 []) 2 ([] ++ l1 ++ [x])) f) : QS w B b mb n (LT l2 []) f := by
  rw [List.nil_append, LT_2] at h
  rw [h1]
  exact h
theorem tmod_nat (a b : Nat) : Int.tmod (a : Int) (b : Int) = ((a % b : Nat) : Int) := rfl
set_option maxRecDepth 100000 in
set_option maxHeartbeats 4000000 in
theorem walk_queueTurns (a0 a1 a2 : Int) (w0 : (Lit.int .i64 a0).wf = true) (w1 : (Lit.int .i64 a1).wf = true) (w2 : (Lit.int .i64 a2).wf = true) (W : World) :
    Calls Try.prog 4 #[.int .i64 a0, .int .i64 a1, .int .i64 a2] W fun e w' => e = .returned (.bool true) ∧ Below W.heap.size W w' := by
  have i0 : -9223372036854775808 ≤ a0 ∧ a0 ≤ 9223372036854775807 := i64_of w0
  have i1 : -9223372036854775808 ≤ a1 ∧ a1 ≤ 9223372036854775807 := i64_of w1
  have i2 : -9223372036854775808 ≤ a2 ∧ a2 ≤ 9223372036854775807 := i64_of w2
  clear w0 w1 w2
  obtain ⟨h, hh⟩ : ∃ h : Nat, lowI a0 7 = (h : Int) := ⟨(lowI a0 7).toNat, by have := lowI_0 a0 7 (by omega); omega⟩
  obtain ⟨m, hm⟩ : ∃ m : Nat, lowI a1 7 = (m : Int) := ⟨(lowI a1 7).toNat, by have := lowI_0 a1 7 (by omega); omega⟩
  obtain ⟨t, ht⟩ : ∃ t : Nat, lowI a2 40 = (t : Int) := ⟨(lowI a2 40).toNat, by have := lowI_0 a2 40 (by omega); omega⟩
  have bh : h < 7 := by have := lowI_1 a0 7 (by omega); omega
  have bm : m < 7 := by have := lowI_1 a1 7 (by omega); omega
  have bt : t < 40 := by have := lowI_1 a2 40 (by omega); omega
  have L0 := Lib.hid (low_any a0 7 · i0 (by omega) (by omega))
  have L1 := Lib.hid (low_any a1 7 · i1 (by omega) (by omega))
  have L2 := Lib.hid (low_any a2 40 · i2 (by omega) (by omega))
  rw [hh] at L0
  rw [hm] at L1
  rw [ht] at L2
  clear hh hm ht i0 i1 i2
  go_enter Try.func4, Try.ntmps4
  go_wp2_with (first
    | (go_at_call 23; (first | refine (L0.out _).mono ?_ | refine (L1.out _).mono ?_); rintro e wl ⟨rfl, rfl⟩)
    | (go_at_call 8; refine (new_qs _).mono ?_; rintro e w1 ⟨rfl, hq1, hb1⟩; rw [LT_no, fT_no] at hq1; have HQ1 := Lib.hid hq1; have HB1 := Lib.hid hb1; clear hq1 hb1))
  go_loopw [10] (fun i wr => ∃ k : Nat, k ≤ m + 1 ∧ i = .int .i64 k ∧ Hid (QS wr W.heap.size (W.heap.size + 1) W.heap.size k (LT (seqI 1 k) []) (fT k 0 0)) ∧ Hid (Below W.heap.size W wr)) (fun i _ => m + 1 - (intOf i).toNat)
  case atStart => exact ⟨0, by omega, rfl, HQ1, HB1⟩
  case round =>
    obtain ⟨k, hk, rfl, HQ, HB⟩ := hrel
    by_cases hlt : k < m + 1
    · have hlt' : (k : Int) < 1 + (m : Int) := by omega
      have hfn := Lib.hid (fT_none1 (k : Int) 0 0 (by omega) (by omega))
      go_wp2_with (go_at_call 10; refine (add_qs _ (1 + (k : Int)) 2 ⟨by omega, by omega⟩ (by omega) (by omega) (by omega) hfn.out HQ.out).mono ?_; rintro e w2 ⟨rfl, hq2, hb2⟩; have HQ2 := Lib.hid (qs_low (by omega) hq2); have HB2 := Lib.hid (HB.out.trans hb2); clear hq2 hb2)
      go_roundw
      case rel => exact ⟨k + 1, by omega, by go_num, HQ2, HB2⟩
      case measure => simp [intOf]; omega
    · obtain rfl : k = m + 1 := by omega
      have hge : ¬ ((m + 1 : Nat) : Int) < 1 + (m : Int) := by omega
      have HQ0 : Hid (QS wr W.heap.size (W.heap.size + 1) W.heap.size (m + 1 + 0) (LT (seqI 1 (m + 1)) (seqI 100 0)) (fT ((m + 1 : Nat) : Int) 0 ((0 : Nat) : Int))) := Lib.hid HQ.out
      clear HQ
      go_wp2
      go_loopw [11] (fun i wr => ∃ j : Nat, j ≤ h ∧ i = .int .i64 j ∧ Hid (QS wr W.heap.size (W.heap.size + 1) W.heap.size (m + 1 + j) (LT (seqI 1 (m + 1)) (seqI 100 j)) (fT ((m + 1 : Nat) : Int) 0 (j : Int))) ∧ Hid (Below W.heap.size W wr)) (fun i _ => h - (intOf i).toNat)
      case atStart => exact ⟨0, by omega, rfl, HQ0, HB⟩
      clear HQ0 HB
      case round =>
        obtain ⟨j, hj, rfl, HQ, HB⟩ := hrel
        by_cases hlt : j < h
        · have hlt' : (j : Int) < (h : Int) := by omega
          have hfn := Lib.hid (fT_none2 ((m + 1 : Nat) : Int) (j : Int) (by omega) (by omega))
          go_wp2_with (go_at_call 10; refine (add_qs _ (100 + (j : Int)) 6 ⟨by omega, by omega⟩ (by omega) (by omega) (by omega) hfn.out HQ.out).mono ?_; rintro e w2 ⟨rfl, hq2, hb2⟩; have HQ2 := Lib.hid (qs_high (by omega) hq2); have HB2 := Lib.hid (HB.out.trans hb2); clear hq2 hb2)
          go_roundw
          case rel => exact ⟨j + 1, by omega, by go_num, HQ2, HB2⟩
          case measure => simp [intOf]; omega
        · obtain rfl : j = h := by omega
          have HQ0 : Hid (QS wr W.heap.size (W.heap.size + 1) W.heap.size (m + 1 + j) (LT (seqI 1 (m + 1)) (seqI (100 + ((0 : Nat) : Int)) (j - 0))) (fT ((m + 1 : Nat) : Int) ((0 : Nat) : Int) (j : Int))) := Lib.hid (by have := HQ.out; exact this)
          clear HQ
          go_wp2
          go_loopw [12, 13, 14] (fun i x ok wr => ∃ k : Nat, k ≤ j ∧ i = .int .i64 k ∧ Hid (QS wr W.heap.size (W.heap.size + 1) W.heap.size (m + 1 + j) (LT (seqI 1 (m + 1)) (seqI (100 + (k : Int)) (j - k))) (fT ((m + 1 : Nat) : Int) (k : Int) (j : Int))) ∧ Hid (Below W.heap.size W wr)) (fun i _ _ _ => j - (intOf i).toNat)
          case atStart => exact ⟨0, by omega, rfl, HQ0, HB⟩
          clear HQ0 HB
          case round =>
            obtain ⟨k, hk, rfl, HQ, HB⟩ := hrel
            by_cases hlt : k < j
            · have hlt' : (k : Int) < (j : Int) := by omega
              obtain ⟨q, hq⟩ : ∃ q, j - k = q + 1 := ⟨j - k - 1, by omega⟩
              have hq' : j - (k + 1) = q := by omega
              rw [hq, seqI_cons (100 + (k : Int)) q] at HQ
              have HC := Lib.hid (LT_cat (seqI 1 (m + 1)) ((100 + (k : Int)) :: seqI (100 + (k : Int) + 1) q))
              have HF := Lib.hid (fT_six ((m + 1 : Nat) : Int) (k : Int) (j : Int) (by omega) ⟨by omega, hlt'⟩)
              have HQ' := Lib.hid hq'
              clear hq hq'
              go_wp2_with (first
                | (go_at_call 16; refine (first_qs _ (by omega) (100 + (k : Int)) _ HC.out HQ.out).mono ?_; rintro e w2 ⟨rfl, hb2⟩; have HQ2 := Lib.hid (HQ.out.call hb2); have HB2 := Lib.hid (HB.out.trans (hb2.mono HQ.out.lt)); clear hb2)
                | (go_at_call 12; refine (drop_qs _ (100 + (k : Int)) 6 [] (seqI (100 + (k : Int) + 1) q) ⟨by omega, by omega⟩ (by omega) (by omega) HF.out rfl (by simp) HQ2.out).mono ?_; rintro e w3 ⟨rfl, hq3, hb3⟩; have HQ3 := Lib.hid (qs_drop (by omega) hlt' hq3); have HB3 := Lib.hid (HB2.out.trans hb3); clear hq3 hb3))
              go_roundw
              case rel => exact ⟨k + 1, by omega, by go_num, by rw [HQ'.out]; exact HQ3, HB3⟩
              case measure => simp [intOf]; omega
            · obtain rfl : k = j := by omega
              have HQ0 : Hid (QS wr W.heap.size (W.heap.size + 1) W.heap.size (m + 1 + k + 0) (LT (rotI (m + 1) 0) []) (fT ((m + 1 : Nat) : Int) (k : Int) (k : Int))) := Lib.hid (by have := HQ.out; rw [Nat.sub_self] at this; rw [rotI_0]; exact this)
              clear HQ
              go_wp2
              go_loopw [15, 16, 17] (fun i x ok wr => ∃ r : Nat, r ≤ t ∧ i = .int .i64 r ∧ Hid (QS wr W.heap.size (W.heap.size + 1) W.heap.size (m + 1 + k + r) (LT (rotI (m + 1) r) []) (fT ((m + 1 : Nat) : Int) (k : Int) (k : Int))) ∧ Hid (Below W.heap.size W wr)) (fun i _ _ _ => t - (intOf i).toNat)
              case atStart => exact ⟨0, by omega, rfl, HQ0, HB⟩
              clear HQ0 HB
              case round =>
                obtain ⟨r, hr, rfl, HQ, HB⟩ := hrel
                by_cases hlt : r < t
                · have hlt' : (r : Int) < (t : Int) := by omega
                  obtain ⟨l, hl1, hl2⟩ := rotI_step (m + 1) r (by omega)
                  have hmod := Nat.mod_lt r (show 0 < m + 1 by omega)
                  have htm : Int.tmod (r : Int) (1 + (m : Int)) = ((r % (m + 1) : Nat) : Int) := by
                    have := tmod_nat r (m + 1)
                    rw [← this]; congr 1; omega
                  have hem : (r : Int) % (1 + (m : Int)) = ((r % (m + 1) : Nat) : Int) := by
                    rw [Int.natCast_emod]; congr 1; omega
                  obtain ⟨y, hy⟩ : ∃ y, r % (m + 1) = y := ⟨_, rfl⟩
                  rw [hy] at hl1 hl2 hmod htm hem
                  rw [hl1] at HQ
                  have HC := Lib.hid (LT_cat ((1 + (y : Int)) :: l) [])
                  have HF := Lib.hid (fT_two ((m + 1 : Nat) : Int) (k : Int) (k : Int) (1 + (y : Int)) ⟨by omega, by omega⟩)
                  have HL2 := Lib.hid hl2
                  clear hl1 hl2 hy
                  go_wp2_with (first
                    | (go_at_call 23; refine (L2.out _).mono ?_; rintro e wl ⟨rfl, rfl⟩)
                    | (go_at_call 16; refine (first_qs _ (by omega) (1 + (y : Int)) l HC.out HQ.out).mono ?_; rintro e w2 ⟨rfl, hb2⟩; have HQ2 := Lib.hid (HQ.out.call hb2); have HB2 := Lib.hid (HB.out.trans (hb2.mono HQ.out.lt)); clear hb2)
                    | (go_at_call 14; refine (back_qs _ (1 + (y : Int)) 2 [] l ⟨by omega, by omega⟩ (by omega) (by omega) (by omega) HF.out rfl (by simp) HQ2.out).mono ?_; rintro e w3 ⟨rfl, hq3, hb3⟩; have HQ3 := Lib.hid (qs_back HL2.out hq3); have HB3 := Lib.hid (HB2.out.trans hb3); clear hq3 hb3))
                  go_roundw
                  case rel => exact ⟨r + 1, by omega, by go_num, HQ3, HB3⟩
                  case measure => simp [intOf]; omega
                · obtain rfl : r = t := by omega
                  have HC := Lib.hid (show (cat (LT (rotI (m + 1) r) []) (fallTo 8)).length = m + 1 by rw [LT_cat]; simp [rotI_len])
                  have hm1 : ((m + 1 : Nat) : Int) = 1 + (m : Int) := by omega
                  go_wp2_with (first
                    | (go_at_call 23; refine (L2.out _).mono ?_; rintro e wl ⟨rfl, rfl⟩)
                    | (go_at_call 18; refine (all_qs _ (by omega) HC.out HQ.out).mono ?_; rintro e w2 ⟨a, c, rfl, ha, hb2⟩; have HB2 := Lib.hid (HB.out.trans (hb2.mono HQ.out.lt)); clear hb2 ha)
                    | (go_at_call 7; refine (awake21 _).mono ?_; rintro e w3 ⟨rfl, hb3⟩; have HB3 := Lib.hid (HB2.out.trans (hb3.mono (by have := HB2.out.size; omega))); clear hb3))
                  go_ret
                  exact ⟨rfl, HB3.out⟩
end Go.Proofs.Ythbjjamjpbfehaa
