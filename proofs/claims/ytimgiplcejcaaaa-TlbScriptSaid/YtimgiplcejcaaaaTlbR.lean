/- What holds of every cache that acts have made; 'played'. -/
import Derived.Test.YtimgiplcejcaaaaTlbQ
import Derived.LoopTactic
namespace Go.Proofs.Ytimgiplcejcaaaa
set_option linter.unusedVariables false
set_option linter.unusedSimpArgs false
open Go.ChangeShapes Go.WideShapes Go.ChangeAt Go.RowKit

/-- A way of set i: it has nothing, or what may be filled in there. -/
def GoodT (i : Nat) (x : TransX) : Prop := x = zT ∨ mayX x = true ∧ setNo x.p = i
structure GoodS (i : Nat) (s : TransX × TransX × Int) : Prop where
  x : GoodT i s.1
  y : GoodT i s.2.1
  ne : 1 ≤ s.1.s → s.1.s = s.2.1.s → s.1.p = s.2.1.p → False
  d : s.2.2 = 0 ∨ s.2.2 = 1
def Good (S : Nat → TransX × TransX × Int) : Prop := ∀ i, i < 4 → GoodS i (S i)
theorem may_pos {t : TransX} (h : mayX t = true) : 1 ≤ t.s ∧ 0 ≤ t.p ∧ t.p < 512 ∧ 0 ≤ t.f ∧ t.f < 64 := by
  unfold mayX at h
  simp only [Bool.and_eq_true, decide_eq_true_eq] at h
  exact h.1
theorem GoodT.ok {i : Nat} {x : TransX} (h : GoodT i x) : OkT x := h.imp id fun h => (may_pos h.1).1
theorem Good.ok {S : Nat → TransX × TransX × Int} (h : Good S) : Oks S := fun i hi => ⟨(h i hi).x.ok, (h i hi).y.ok, (h i hi).d⟩
theorem good_S0 : Good S0 := fun i hi => ⟨.inl rfl, .inl rfl, fun h => by simp at h, .inl rfl⟩
theorem good_set {S : Nat → TransX × TransX × Int} (h : Good S) {k : Nat} {s : TransX × TransX × Int} (hs : GoodS k s) : Good (setS S k s) := by
  intro i hi
  unfold setS
  by_cases hk : i = k
  · subst hk; rw [if_pos rfl]; exact hs
  · rw [if_neg hk]; exact h i hi
theorem good_fillR {k : Nat} {x y t : TransX} {d : Int} (h : GoodS k (x, y, d)) (ht : mayX t = true) (hk : setNo t.p = k) : GoodS k (fillR x y d t) := by
  obtain ⟨gx, gy, ne, gd⟩ := h
  simp only at gx gy ne gd
  have t1 := (may_pos ht).1
  have gt : GoodT k t := .inr ⟨ht, hk⟩
  have f2 : ∀ z : TransX, z.s = t.s ∧ z.p = t.p ∨ ¬ (z.s = t.s ∧ z.p = t.p) := fun z => Classical.em _
  unfold fillR findR emptyR
  rcases f2 x with hx | hx
  · simp only [if_pos hx, if_true]
    exact ⟨gt, gy, fun a b c => ne (by omega) (by simp only at b; omega) (by simp only at c; omega), gd⟩
  · rcases f2 y with hy | hy
    · simp only [if_neg hx, if_pos hy, if_true, show ((1 : Int) = 0) = False by simp, if_false]
      exact ⟨gx, gt, fun a b c => hx ⟨b, c⟩, gd⟩
    · simp only [if_neg hx, if_neg hy, Bool.false_eq_true, if_false]
      by_cases hx0 : x = zT
      · simp only [if_pos hx0, if_true]
        exact ⟨gt, gy, fun a b c => hy ⟨b.symm, c.symm⟩, gd⟩
      · by_cases hy0 : y = zT
        · simp only [if_neg hx0, if_pos hy0, if_true, show ((1 : Int) = 0) = False by simp, if_false]
          exact ⟨gx, gt, fun a b c => hx ⟨b, c⟩, gd⟩
        · simp only [if_neg hx0, if_neg hy0, Bool.false_eq_true, if_false]
          split
          · exact ⟨gt, gy, fun a b c => hy ⟨b.symm, c.symm⟩, .inr rfl⟩
          · exact ⟨gx, gt, fun a b c => hx ⟨b, c⟩, .inl rfl⟩
theorem good_fill {S : Nat → TransX × TransX × Int} (h : Good S) (t : TransX) : Good (fillS S t) := by
  unfold fillS
  split
  · rename_i ht
    have := may_pos ht
    exact good_set h (good_fillR (by simpa using h _ (setNo_lt this.2.1)) ht rfl)
  · exact h
theorem good_wipe {S : Nat → TransX × TransX × Int} (h : Good S) (x : Nat × Nat) (hx : x.1 < 4) : Good (wipeP S x) := by
  obtain ⟨a, c⟩ := x
  have g := h a hx
  unfold wipeP
  simp only
  split
  · exact good_set h ⟨.inl rfl, g.y, fun h => by simp at h, g.d⟩
  · split
    · exact good_set h ⟨g.x, .inl rfl, fun a b c => by simp only at a b; omega, g.d⟩
    · exact h
theorem good_drop (out : TransX → Bool) : ∀ (pre : List (Nat × Nat)) (s : (Nat → TransX × TransX × Int) × Nat), (∀ x ∈ pre, x.1 < 4) → Good s.1 → Good (pre.foldl (dropStep out) s).1
  | [], s, _, h => h
  | x :: pre, s, hp, h => by
    rw [List.foldl_cons]
    refine good_drop out pre _ (fun y hy => hp y (by simp [hy])) ?_
    unfold dropStep
    split
    · exact good_wipe h x (hp x (by simp))
    · exact h
theorem fullP_set {S : Nat → TransX × TransX × Int} {p : Nat × Nat} (h : p ∈ fullP S 8) : p.1 < 4 := by
  have := fullP_mem h
  omega
theorem good_dropF {S : Nat → TransX × TransX × Int} (h : Good S) (out : TransX → Bool) : Good (dropF S out (fullP S 8)).1 :=
  good_drop out _ _ (fun _ hx => fullP_set hx) h
theorem good_evict {S : Nat → TransX × TransX × Int} (h : Good S) (i j : Int) : Good (evictS S i j).1 := by
  unfold evictS
  split
  · exact good_wipe h _ (by simp only; omega)
  · exact h
theorem good_step {S : Nat → TransX × TransX × Int} (h : Good S) (a : ActX) : Good (stepP S a) := by
  unfold stepP
  split
  · exact good_fill h _
  split
  · exact good_evict h _ _
  split
  · exact good_dropF h _
  split
  · exact good_dropF h _
  · exact h
theorem good_play (D : Nat → ActX) : ∀ k, Good (playS D k)
  | 0 => good_S0
  | k + 1 => good_step (good_play D k) _
theorem step_fill (S : Nat → TransX × TransX × Int) (x : TransX) (i j : Int) : stepP S ⟨0, x, i, j⟩ = fillS S x := rfl
theorem step_evict (S : Nat → TransX × TransX × Int) (x : TransX) (i j : Int) : stepP S ⟨2, x, i, j⟩ = (evictS S i j).1 := rfl
theorem step_page (S : Nat → TransX × TransX × Int) (x : TransX) (i j : Int) : stepP S ⟨3, x, i, j⟩ = (dropF S (pageOut x.s x.p) (fullP S 8)).1 := rfl
theorem step_space (S : Nat → TransX × TransX × Int) (x : TransX) (i j : Int) : stepP S ⟨4, x, i, j⟩ = (dropF S (spaceOut x.s) (fullP S 8)).1 := rfl
theorem step_none (S : Nat → TransX × TransX × Int) (d : Int) (x : TransX) (i j : Int) (h0 : d ≠ 0) (h2 : d ≠ 2) (h3 : d ≠ 3) (h4 : d ≠ 4) : stepP S ⟨d, x, i, j⟩ = S := by simp [stepP, h0, h2, h3, h4]
theorem ActCells.below {w w' : World} {b o : Nat} {a : ActX} (h : ActCells w b o a) (hk : Below w.heap.size w w') (hb : b < w.heap.size) : ActCells w' b o a := by
  obtain ⟨c0, c1, c2, c3, c4, c5, c6, c7⟩ := h
  have e : ∀ j, w'.cell? ⟨b, j, none⟩ = w.cell? ⟨b, j, none⟩ := fun j => hk.cell (p := ⟨b, j, none⟩) hb
  exact ⟨(e _).trans c0, (e _).trans c1, (e _).trans c2, (e _).trans c3, (e _).trans c4, (e _).trans c5, (e _).trans c6, (e _).trans c7⟩
set_option maxRecDepth 100000 in
set_option maxHeartbeats 2000000 in
theorem played_any (W : World) (p : Option Addr) (n c : Nat) (D : Nat → ActX) (hD : ActsAt W p n D) (hn : n ≤ 120) :
    Calls Try.prog 26 #[.slice p n c] W fun e w' => e = .returned (.pointer (some ⟨W.heap.size, 0, none⟩)) ∧ TlbAt w' W.heap.size (playS D n) ∧ Below W.heap.size W w' := by
  obtain ⟨pb, off, hp, hD⟩ := hD
  have HD := Lib.hid hD
  have HP := Lib.hid hp
  clear hD hp
  have ht := Lib.hid (tlbAt_new W)
  go_enter Try.func26, Try.ntmps26
  go_wp2_with (first
    | (go_at_call 10; go_in))
  go_loopw [4] (fun i wr => ∃ k : Nat, k ≤ n ∧ i = .int .i64 k ∧ TlbAt wr W.heap.size (playS D k) ∧ Below W.heap.size W wr) (fun i _ => n - (intOf i).toNat)
  case atStart => exact ⟨0, by omega, rfl, ht.out, bal (Below.refl _ _) _⟩
  case round =>
    obtain ⟨k, hk, rfl, hT, hB⟩ := hrel
    by_cases hlt : k < n
    · obtain ⟨rfl, hpb⟩ := HP.out (by omega)
      obtain ⟨hc0, hok⟩ := HD.out k hlt
      have hs : playS D (k + 1) = stepP (playS D k) (D k) := rfl
      have HS := Lib.hid hs
      have HG := Lib.hid (good_play D k)
      have hcc := hc0.below hB hpb
      generalize D k = a at *
      obtain ⟨d, x, i, j⟩ := a
      obtain ⟨c0, c1, c2, c3, c4, c5, c6, c7⟩ := hcc
      simp only at c0 c1 c2 c3 c4 c5 c6 c7
      clear hs hc0 hok
      obtain ⟨S, hS⟩ : ∃ S, S = playS D k := ⟨_, rfl⟩
      rw [← hS] at hT HS HG
      clear hS
      have hb := hT.lt
      have hsz : W.heap.size < wr.heap.size := hb
      by_cases h0 : d = 0
      · subst h0
        go_wp2_with (first
          | (go_at_call 12; refine (tfill_any _ W.heap.size S x (hT.call (by repeat (first | exact Below.refl _ _ | refine Below.drew ?_ | refine bal ?_ _))) HG.out.ok).mono ?_; rintro e w1 ⟨rfl, ht1, ho1⟩))
        all_goals
          go_roundw
          case rel => exact ⟨k + 1, by omega, by go_num, by rw [HS.out, step_fill]; exact ht1, (hB.alloc (by omega) _).trans (ho1.below (Nat.le_refl _) (by simp; omega))⟩
          case measure => simp [intOf]; omega
      by_cases h2 : d = 2
      · subst h2
        go_wp2_with (first
          | (go_at_call 16; refine (tevict_any _ W.heap.size S i j (hT.call (by repeat (first | exact Below.refl _ _ | refine Below.drew ?_ | refine bal ?_ _))) HG.out.ok).mono ?_; rintro e w1 ⟨rfl, ht1, ho1⟩))
        all_goals
          go_roundw
          case rel => exact ⟨k + 1, by omega, by go_num, by rw [HS.out, step_evict]; exact ht1, (hB.alloc (by omega) _).trans (ho1.below (Nat.le_refl _) (by simp; omega))⟩
          case measure => simp [intOf]; omega
      by_cases h3 : d = 3
      · subst h3
        go_wp2_with (first
          | (go_at_call 18; refine (dropPage_any _ W.heap.size S _ _ (hT.call (by repeat (first | exact Below.refl _ _ | refine Below.drew ?_ | refine bal ?_ _))) HG.out.ok.way).mono ?_; rintro e w1 ⟨rfl, ht1, ho1⟩))
        all_goals
          go_roundw
          case rel => exact ⟨k + 1, by omega, by go_num, by rw [HS.out, step_page]; exact ht1, (hB.alloc (by omega) _).trans (ho1.below (Nat.le_refl _) (by simp; omega))⟩
          case measure => simp [intOf]; omega
      by_cases h4 : d = 4
      · subst h4
        go_wp2_with (first
          | (go_at_call 20; refine (dropSpace_any _ W.heap.size S _ (hT.call (by repeat (first | exact Below.refl _ _ | refine Below.drew ?_ | refine bal ?_ _))) HG.out.ok.way).mono ?_; rintro e w1 ⟨rfl, ht1, ho1⟩))
        all_goals
          go_roundw
          case rel => exact ⟨k + 1, by omega, by go_num, by rw [HS.out, step_space]; exact ht1, (hB.alloc (by omega) _).trans (ho1.below (Nat.le_refl _) (by simp; omega))⟩
          case measure => simp [intOf]; omega
      have k0 : (d == 0) = false := beq_eq_false_iff_ne.2 h0
      have k2 : (d == 2) = false := beq_eq_false_iff_ne.2 h2
      have k3 : (d == 3) = false := beq_eq_false_iff_ne.2 h3
      have k4 : (d == 4) = false := beq_eq_false_iff_ne.2 h4
      have HN := Lib.hid (step_none S d x i j h0 h2 h3 h4)
      clear h0 h2 h3 h4
      go_wp2
      go_roundw
      case rel => exact ⟨k + 1, by omega, by go_num, by rw [HS.out, HN.out]; exact hT.call (bal (Below.refl _ _) _), hB.alloc (by omega) _⟩
      case measure => simp [intOf]; omega
    · obtain rfl : k = n := by omega
      go_wp2
      go_ret
      exact ⟨rfl, hT, hB⟩
end Go.Proofs.Ytimgiplcejcaaaa
