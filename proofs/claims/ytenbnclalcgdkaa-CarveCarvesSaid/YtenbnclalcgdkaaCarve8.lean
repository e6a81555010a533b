/- The walk of CarveCarves. -/
import Derived.Test.YtenbnclalcgdkaaCarve7
namespace Go.Proofs.Ytenbnclalcgdkaa
set_option linter.unusedVariables false
open Go.ChangeShapes Go.WideShapes Go.ChangeAt Go.RowKit Go.Shelf

theorem num_c (a : Int) (w : World) (h : 0 ≤ a ∧ a ≤ 100) : Calls Try.prog 13 #[.int .i64 a] w fun e w' => e = .returned (.int .i64 a) ∧ w = w' := by
  obtain ⟨h, h'⟩ := h
  go_enter Try.func13, Try.ntmps13
  go_wp2
  go_ret
  exact ⟨rfl, rfl⟩
/-- A list that was made: its block, whole. -/
def Made (W : World) (lo : Nat) (v : Value) (n : Nat) (xs : List Int) (g cap : Nat) : Prop :=
  v = .slice (some ⟨g, 0, none⟩) n cap ∧ lo ≤ g ∧ g < W.heap.size ∧ HasInts W g n xs ∧ n ≤ cap ∧ cap ≤ maxLen ∧ ∃ cur : Array Value, W.heap[g]? = some (.cells cur 3 (0, 0)) ∧ cur.size = cap
theorem made_of {W : World} {lo : Nat} {v : Value} {n : Nat} {xs : List Int} (h : W.ownsRow lo 3 1 v n (xs.map (Value.int .i64))) (hn : 1 ≤ n) : ∃ g cap, Made W lo v n xs g cap := by
  obtain ⟨g, cap, rfl, h1, h2, h3⟩ := own_ints h hn
  rcases h.2 with ⟨_, h0⟩ | ⟨g', cap', cur, hv, hg, hb, a1, a2, a3, a4⟩
  · omega
  · cases hv
    exact ⟨g, cap, rfl, h1, h2, h3, a1, a2, cur, hb, by omega⟩
theorem hasInts_grown {w w' : World} {g n : Nat} {xs : List Int} {r : Option Nat} (h : HasInts w g n xs) (hg : w.grownBy w' r) (hl : g < w.heap.size) (hne : some g ≠ r) : HasInts w' g n xs := fun j hj =>
  (World.cell?_of_block (w := w) (a := ⟨g, j, none⟩) (hg.block g hl hne)).trans (h j hj)
theorem walk_no (x : Int) (hx : 0 ≤ x ∧ x ≤ 100) (hx0 : x ≠ 0) (t m e c : Int)
    (C : ∀ w : World, Calls Try.prog 18 #[.int .i64 t, .int .i64 m, .int .i64 e, .int .i64 c] w fun e' W' => e' = .returned (.tuple #[.slice none 0 0, .int .i64 0, .int .i64 x]) ∧ w = W')
    (R : ∀ w : World, Calls Try.prog 19 #[.int .i64 t, .int .i64 m, .int .i64 e, .int .i64 c] w fun e' W' => e' = .returned (.tuple #[.slice none 0 0, .int .i64 0, .int .i64 x]) ∧ Below w.heap.size w W') (W : World) :
    Calls Try.prog 6 #[.int .i64 t, .int .i64 m, .int .i64 e, .int .i64 c] W fun e w' => e = .returned (.bool true) ∧ Below W.heap.size W w' := by
  have C1 := Lib.hid C; have R1 := Lib.hid R
  clear C R
  go_enter Try.func6, Try.ntmps6
  go_wp2_with (first
    | (go_at_call 18; refine (C1.out _).mono ?_; rintro e w1 ⟨rfl, rfl⟩)
    | (go_at_call 19; refine (R1.out _).mono ?_; rintro e w2 ⟨rfl, hb2⟩)
    | (go_at_call 20; refine (same_nil _).mono ?_; rintro e w3 ⟨rfl, rfl⟩)
    | (go_at_call 13; refine (num_c _ _ hx).mono ?_; rintro e w4 ⟨rfl, rfl⟩)
    | (go_at_call 21; refine (over_nil _).mono ?_; rintro e w5 ⟨⟨v, rfl⟩, hb5⟩)
    | (go_at_call 22; refine (awake11 _).mono ?_; rintro e w8 ⟨rfl, hb8⟩))
  go_ret
  exact ⟨rfl, (by repeat (first | exact Below.refl _ _ | assumption | refine below_drewN ?_ _ | refine Below.setCell ?_ (by first | exact Nat.le_refl _ | (simp; done) | (simp; omega)) _ | refine bal ?_ _ | refine bgo ?_ (by assumption)))⟩

set_option maxHeartbeats 4000000 in
theorem walk_carveCarves (a0 : Int) (w0 : (Lit.int .i64 a0).wf = true) (a1 : Int) (w1 : (Lit.int .i64 a1).wf = true) (a2 : Int) (w2 : (Lit.int .i64 a2).wf = true) (a3 : Int) (w3 : (Lit.int .i64 a3).wf = true) (W : World) :
    Calls Try.prog 6 #[.int .i64 a0, .int .i64 a1, .int .i64 a2, .int .i64 a3] W fun e w' => e = .returned (.bool true) ∧ Below W.heap.size W w' := by
  clear w0 w1 w2 w3
  by_cases v1 : 0 ≤ a0 ∧ a0 ≤ 64 ∧ 0 ≤ a1 ∧ a1 ≤ a0
  · obtain ⟨h0, h1, h2, h3⟩ := v1
    by_cases v2 : 1 ≤ a2 ∧ a2 ≤ 64 ∧ 1 ≤ a3 ∧ a3 ≤ 4
    · obtain ⟨h4, h5, h6, h7⟩ := v2
      obtain ⟨c, rfl⟩ := Int.eq_ofNat_of_zero_le (show 0 ≤ a3 by omega)
      obtain ⟨p, hp⟩ : ∃ p, (c : Int) * a2 = p := ⟨_, rfl⟩
      have p0 : 0 ≤ p := hp ▸ Int.mul_nonneg (by omega) (by omega)
      have p1 : p ≤ 256 := by
        have := Int.mul_le_mul (a := (c : Int)) (b := a2) (c := 4) (d := 64) (by omega) (by omega) (by omega) (by decide)
        rw [hp] at this; simpa using this
      by_cases hfit : p ≤ a0 - a1
      · have C : ∀ w : World, Calls Try.prog 18 #[.int .i64 a0, .int .i64 a1, .int .i64 a2, .int .i64 c] w fun e' W' => ∃ v g cap, e' = .returned (.tuple #[v, .int .i64 (a1 + p), .int .i64 0]) ∧ Made W' w.heap.size v c (firsts a1 a2 c) g cap ∧ Below w.heap.size w W' := fun w =>
          (callsIn_wide.1 (carve_in a0 a1 a2 c w h0 h1 h2 h3 h4 h5 (by omega) (by omega) (by rw [hp]; exact hfit) (by rw [hp]; exact p0))).mono fun e' W' ⟨v, he, hr, hb⟩ => by
            obtain ⟨g, cap, hm⟩ := made_of hr (by omega)
            exact ⟨v, g, cap, by rw [he, hp], hm, hb⟩
        have R : ∀ w : World, Calls Try.prog 19 #[.int .i64 a0, .int .i64 a1, .int .i64 a2, .int .i64 c] w fun e' W' => ∃ v g cap, e' = .returned (.tuple #[v, .int .i64 (a1 + p), .int .i64 0]) ∧ Made W' w.heap.size v c (firsts a1 a2 c) g cap ∧ Below w.heap.size w W' := fun w =>
          (refCarve_yes a0 a1 a2 p c w hp h0 h1 h2 h3 h4 h5 (by omega) (by omega) hfit).mono fun e' W' ⟨v, he, hr, hb⟩ => by
            obtain ⟨g, cap, hm⟩ := made_of hr (by omega)
            exact ⟨v, g, cap, he, hm, hb⟩
        have c4 : c ≤ 4 := by omega
        have C1 := Lib.hid C; have R1 := Lib.hid R
        clear C R
        go_enter Try.func6, Try.ntmps6
        go_wp2_with (first
          | (go_at_call 18; refine (C1.out _).mono ?_; rintro e w6 ⟨_, gc, cc, rfl, ⟨rfl, lc, sc, hcc, -⟩, hb6⟩; have hbb6 := hasInts_below hbb5 hb6 sb5)
          | (go_at_call 18; refine (C1.out _).mono ?_; rintro e w1 ⟨_, ga, ca, rfl, ⟨rfl, la, sa, ha, ya, za, cura, bka, cza⟩, hb1⟩)
          | (go_at_call 19; refine (R1.out _).mono ?_; rintro e w2 ⟨_, gb, cb, rfl, ⟨rfl, lb, sb, hbb, yb, zb, curb, bkb, czb⟩, hb2⟩; have ha2 := hasInts_below ha hb2 sa)
          | (go_at_call 20; (with_reducible refine (same_ints ga gb c ca cb (firsts a1 a2 c) w2 c4 ha2 hbb).mono ?_); rintro e w3 ⟨rfl, q3, rfl⟩)
          | (go_at_call 20; (with_reducible refine (same_ints gc gb c cc cb (firsts a1 a2 c) w6 c4 hcc hbb6).mono ?_); rintro e w7 ⟨rfl, q7, rfl⟩)
          | (go_at_call 21; refine (over_any ga c ca cura (w2.drewN q3) ((hb2.block ga sa).trans bka) ya (by omega) za cza).mono ?_; rintro e w5 ⟨⟨vv, rfl⟩, hg5⟩; have hbb5 := hasInts_grown (w := w2.drewN q3) (g := gb) hbb hg5 sb (by intro ee; cases ee; omega); have sb5 : gb < w5.heap.size := Nat.lt_of_lt_of_le sb hg5.size; have hB5 : Below W.heap.size W w5 := (below_drewN (bgo hb1 hb2) q3).grown hg5 (Nat.le_trans hb1.size hb2.size) (fun j ej => by cases ej; exact la))
          | (go_at_call 13; refine (num_c _ _ (by decide)).mono ?_; rintro e w4 ⟨rfl, rfl⟩)
          | (go_at_call 22; refine (awake11 _).mono ?_; rintro e w8 ⟨rfl, hb8⟩))
        go_ret
        exact ⟨rfl, (by repeat (first | exact Below.refl _ _ | assumption | refine below_drewN ?_ _ | refine Below.setCell ?_ (by first | exact Nat.le_refl _ | (simp; done) | (simp; omega)) _ | refine bal ?_ _ | refine bgo ?_ (by assumption)))⟩
      · exact walk_no 7 (by decide) (by decide) a0 a1 a2 c (fun w => carve_nomem a0 a1 a2 c p w hp h0 h1 h2 h3 h4 h5 (by omega) (by omega) (by omega) p1) (fun w => refCarve_nomem a0 a1 a2 p c w hp h0 h1 h2 h3 h4 h5 (by omega) (by omega) (by omega)) W
    · exact walk_no 2 (by decide) (by decide) a0 a1 a2 a3 (fun w => carve_arg2 a0 a1 a2 a3 w h0 h1 h2 h3 v2) (fun w => refCarve_arg a0 a1 a2 a3 w (fun h => v2 h.2)) W
  · exact walk_no 2 (by decide) (by decide) a0 a1 a2 a3 (fun w => carve_arg1 a0 a1 a2 a3 w v1) (fun w => refCarve_arg a0 a1 a2 a3 w (fun h => v1 h.1)) W
end Go.Proofs.Ytenbnclalcgdkaa
