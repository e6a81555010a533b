/- The walks of the laws on page table entries. -/
import Derived.Test.YtdmlcbbheabdpaaDoorPteDec
import Derived.Test.YtdmlcbbheabdpaaDoorPteDecM
import Derived.Test.YtdmlcbbheabdpaaDoorFrame
import Derived.Test.YtdmlcbbheabdpaaDoorKept
namespace Go.Proofs.YtdmlcbbheabdpaaDoor
set_option linter.unusedVariables false
open Go.ChangeShapes Go.WideShapes Go.ChangeAt Go.RowKit
attribute [local go_sem] setCell_drewN alloc_drewN

theorem dec_yes (w : Nat) (W : World) (hw : w < 2 ^ 64) (h : OkW w) : Calls Tryd.prog 15 #[.int .u64 w] W fun e W' =>
    e = .returned (.tuple #[entV (w.testBit 0) (w.testBit 1) (w.testBit 2) (w.testBit 3) ((w / 256 % 64 : Nat) : Int), .int .i64 0]) ∧ Below W.heap.size W W' :=
  (dec_any w W hw).mono fun e W' ⟨hp, hb⟩ => ⟨hp.elim (fun k => k.1) (fun k => absurd h k.2), hb⟩
theorem dec_no (w : Nat) (W : World) (hw : w < 2 ^ 64) (h : ¬ OkW w) : Calls Tryd.prog 15 #[.int .u64 w] W fun e W' =>
    e = .returned (.tuple #[entV false false false false 0, .int .i64 5]) ∧ Below W.heap.size W W' :=
  (dec_any w W hw).mono fun e W' ⟨hp, hb⟩ => ⟨hp.elim (fun k => absurd k.2 h) (fun k => k.1), hb⟩
theorem dec_back {v l r x : Bool} {f : Nat} (W : World) (h : mayE v l r x f = true) : Calls Tryd.prog 15 #[.int .u64 (wordE v l r x f)] W fun e W' =>
    e = .returned (.tuple #[entV v l r x (f : Int), .int .i64 0]) ∧ Below W.heap.size W W' := by
  obtain ⟨hk, h0, h1, h2, h3, h4⟩ := okW_word h
  have hf := mayE_f h
  have := dec_yes _ W (wordN_lt (by omega)) hk
  rw [h0, h1, h2, h3, h4, ← wordE_nat] at this
  exact this
theorem not3 : ¬ OkW 3 := fun h => absurd h.2 (by decide)
def TabG (w : World) : Prop := TabAt w ∧ 0 < w.heap.size
theorem TabG.below {B : Nat} {w w' : World} (h : TabG w) (hB : 0 < B) (hb : Below B w w') : TabG w' := ⟨h.1.below hB hb, Nat.lt_of_lt_of_le h.2 hb.size⟩
theorem encG_yes (v l r w : Bool) (f : Int) (W : World) (h : mayE v l r w f = true) (hT : TabG W) : Calls Tryd.prog 9 #[entV v l r w f] W fun e W' => e = .returned (.tuple #[.int .u64 (wordE v l r w f), .int .i64 0]) ∧ Below W.heap.size W W' :=
  enc_yes v l r w f W h hT.1 hT.2

set_option maxHeartbeats 1000000 in
theorem awake3 (W : World) (hT : TabG W) : Calls Tryd.prog 14 #[] W fun e w' => e = .returned (.bool true) ∧ Below W.heap.size W w' := by
  have he : wordE true true true false 5 = 1287 := by decide
  go_enter Tryd.func14, Tryd.ntmps14
  go_wp2_with (first
    | (go_at_call 9; refine (encG_yes true true true false 5 _ (by decide) (by exact hT.below hT.2 (by repeat (first | exact Below.refl _ _ | refine below_drewN ?_ _ | refine Below.setCell ?_ (by first | exact Nat.le_refl _ | (simp; done) | (simp; omega)) _ | refine bal ?_ _)))).mono ?_; rw [he]; rintro e w1 ⟨rfl, hb1⟩)
    | (go_at_call 15; refine (dec_no 3 _ (by decide) not3).mono ?_; rintro e w2 ⟨rfl, hb2⟩))
  go_ret
  exact ⟨rfl, by repeat (first | exact Below.refl _ _ | assumption | refine below_drewN ?_ _ | refine Below.setCell ?_ (by first | exact Nat.le_refl _ | (simp; done) | (simp; omega)) _ | refine bal ?_ _ | refine bgo ?_ (by assumption))⟩

theorem num_b (a : Int) (w : World) (h : 0 ≤ a ∧ a ≤ 100) : Calls Tryd.prog 11 #[.int .i64 a] w fun e w' => e = .returned (.int .i64 a) ∧ w = w' := num_any a w h.1 h.2
theorem enc_both (x : EntryX) : ∃ (n c : Int) (ok : Bool), (0 ≤ c ∧ c ≤ 100) ∧
    (∀ w : World, TabG w → Calls Tryd.prog 9 #[x.val] w fun e w' => e = .returned (.tuple #[.int .u64 n, .int .i64 c]) ∧ Below w.heap.size w w') ∧
    (∀ w : World, Calls Tryd.prog 10 #[x.val] w fun e w' => e = .returned (.tuple #[.int .u64 n, .int .i64 c]) ∧ Below w.heap.size w w') ∧
    (∀ w : World, Calls Tryd.prog 12 #[x.val] w fun e w' => e = .returned (.bool ok) ∧ Below w.heap.size w w') ∧
    (∀ w : World, Calls Tryd.prog 13 #[x.val] w fun e w' => e = .returned (.bool ok) ∧ Below w.heap.size w w') := by
  obtain ⟨v, l, r, x, f⟩ := x
  cases h : mayE v l r x f with
  | true => exact ⟨_, 0, _, by decide, fun w hT => encG_yes v l r x f w h hT, fun w => encR_yes v l r x f w h, fun w => may_any v l r x f w, fun w => mayR_any v l r x f w⟩
  | false => exact ⟨0, 5, _, by decide, fun w hT => enc_no v l r x f w h, fun w => encR_no v l r x f w h, fun w => may_any v l r x f w, fun w => mayR_any v l r x f w⟩

theorem holdE {W a b : World} {k : Nat} {v0 v1 v2 v3 v4 : Value} (hz : k < a.heap.size) (hB : Below k W a) (q0 : a.cell? ⟨k, 0, none⟩ = some v0) (q1 : a.cell? ⟨k, 1, none⟩ = some v1) (q2 : a.cell? ⟨k, 2, none⟩ = some v2) (q3 : a.cell? ⟨k, 3, none⟩ = some v3) (q4 : a.cell? ⟨k, 4, none⟩ = some v4) (h : Kept (k + 1) a b) :
    b.cell? ⟨k, 0, none⟩ = some v0 ∧ b.cell? ⟨k, 1, none⟩ = some v1 ∧ b.cell? ⟨k, 2, none⟩ = some v2 ∧ b.cell? ⟨k, 3, none⟩ = some v3 ∧ b.cell? ⟨k, 4, none⟩ = some v4 ∧ k < b.heap.size ∧ Below k W b :=
  ⟨h.cell (by omega) q0, h.cell (by omega) q1, h.cell (by omega) q2, h.cell (by omega) q3, h.cell (by omega) q4, h.lt (by omega), h.below (by omega) hB⟩

set_option maxHeartbeats 2000000 in
theorem walk_pteLays (a0 : EntryX) (w0 : a0.Ok) (W : World) (hL : LaidV_laid_math_bits_deBruijn64tab W) :
    Calls Tryd.prog 3 #[a0.val] W fun e w' => e = .returned (.bool true) ∧ Below W.heap.size W w' := by
  have hT : TabG W := hL
  obtain ⟨n, c, ok, hc, e1, e2, m1, m2⟩ := enc_both a0
  obtain ⟨v, l, r, x, f⟩ := a0
  have E1 := Lib.hid e1; have E2 := Lib.hid e2; have M1 := Lib.hid m1; have M2 := Lib.hid m2
  clear e1 e2 m1 m2 w0
  go_enter Tryd.func3, Tryd.ntmps3
  go_wp2_with (first
    | (go_at_call 9; refine (E1.out _ (by exact hT.below hT.2 (by repeat (first | exact Below.refl _ _ | assumption | refine below_drewN ?_ _ | refine Below.setCell ?_ (by first | exact Nat.le_refl _ | (simp; done) | (simp; omega)) _ | refine bal ?_ _ | refine bgo ?_ (by assumption))))).mono ?_; rintro e w1 ⟨rfl, hb1⟩; obtain ⟨hc1, hf1⟩ := bcell hb1; have hz1 : W.heap.size < w1.heap.size := (by have := hb1.size; simp at this; omega))
    | (go_at_call 10; refine (E2.out _).mono ?_; rintro e w2 ⟨rfl, hb2⟩; obtain ⟨hc2, hf2⟩ := bcell hb2; have hz2 : W.heap.size < w2.heap.size := (by have := hb2.size; omega)))
  have q0 : w2.cell? ⟨W.heap.size, 0, none⟩ = some (.bool v) := (hc2 _ _ hz1).trans ((hc1 _ _ (by simp)).trans (by simp))
  have q1 : w2.cell? ⟨W.heap.size, 1, none⟩ = some (.bool l) := (hc2 _ _ hz1).trans ((hc1 _ _ (by simp)).trans (by simp))
  have q2 : w2.cell? ⟨W.heap.size, 2, none⟩ = some (.bool r) := (hc2 _ _ hz1).trans ((hc1 _ _ (by simp)).trans (by simp))
  have q3 : w2.cell? ⟨W.heap.size, 3, none⟩ = some (.bool x) := (hc2 _ _ hz1).trans ((hc1 _ _ (by simp)).trans (by simp))
  have q4 : w2.cell? ⟨W.heap.size, 4, none⟩ = some (.int .i64 f) := (hc2 _ _ hz1).trans ((hc1 _ _ (by simp)).trans (by simp))
  have BW : Below W.heap.size W w2 := (by repeat (first | exact Below.refl _ _ | assumption | refine below_drewN ?_ _ | refine Below.setCell ?_ (by first | exact Nat.le_refl _ | (simp; done) | (simp; omega)) _ | refine bal ?_ _ | refine bgo ?_ (by assumption)))
  go_region_held3 (fun w' => w'.cell? ⟨W.heap.size, 0, none⟩ = some (.bool v) ∧ w'.cell? ⟨W.heap.size, 1, none⟩ = some (.bool l) ∧ w'.cell? ⟨W.heap.size, 2, none⟩ = some (.bool r) ∧ w'.cell? ⟨W.heap.size, 3, none⟩ = some (.bool x) ∧ w'.cell? ⟨W.heap.size, 4, none⟩ = some (.int .i64 f) ∧ W.heap.size < w'.heap.size ∧ Below W.heap.size W w')
    (first | (refine holdE hz2 BW q0 q1 q2 q3 q4 ?_; repeat (first | exact Kept.refl hz2 | refine Kept.drew ?_ | refine Kept.drewN ?_ _ | refine Kept.call ?_ (by assumption))))
    (first
      | (go_at_call 12; refine (M1.out _).mono ?_; rintro e w3 ⟨rfl, hb3⟩; obtain ⟨hc3, hf3⟩ := bcell hb3)
      | (go_at_call 13; refine (M2.out _).mono ?_; rintro e w4 ⟨rfl, hb4⟩; obtain ⟨hc4, hf4⟩ := bcell hb4)
      | (go_at_call 11; refine (num_b _ _ hc).mono ?_; rintro e w7 ⟨rfl, rfl⟩)
      | (go_at_call 14; refine (awake3 _ (by exact hT.below hT.2 (Kept.below (n := W.heap.size + 1) (by repeat (first | exact Kept.refl hz2 | refine Kept.drew ?_ | refine Kept.drewN ?_ _ | refine Kept.call ?_ (by assumption))) (Nat.le_succ _) BW))).mono ?_; rintro e w3 ⟨rfl, hb3⟩; obtain ⟨hc3, hf3⟩ := bcell hb3))
  go_wp2
  go_ret
  exact ⟨rfl, (by repeat (first | exact Below.refl _ _ | assumption | refine below_drewN ?_ _ | refine Below.setCell ?_ (by first | exact Nat.le_refl _ | (simp; done) | (simp; omega)) _ | refine bal ?_ _ | refine bgo ?_ (by assumption)))⟩

theorem dec_both (w : Nat) (hw : w < 2 ^ 64) : ∃ (v l r x : Bool) (f c : Int), (0 ≤ c ∧ c ≤ 100) ∧
    (∀ W : World, Calls Tryd.prog 15 #[.int .u64 w] W fun e w' => e = .returned (.tuple #[entV v l r x f, .int .i64 c]) ∧ Below W.heap.size W w') ∧
    (∀ W : World, Calls Tryd.prog 16 #[.int .u64 w] W fun e w' => e = .returned (.tuple #[entV v l r x f, .int .i64 c]) ∧ Below W.heap.size W w') := by
  by_cases h : OkW w
  · exact ⟨_, _, _, _, _, 0, by decide, fun W => dec_yes w W hw h, fun W => decR_both_yes w W hw h⟩
  · exact ⟨_, _, _, _, _, 5, by decide, fun W => dec_no w W hw h, fun W => decR_both_no w W hw h⟩

set_option maxHeartbeats 1000000 in
theorem walk_pteReads (a0 : Int) (w0 : (Lit.int .u64 a0).wf = true) (W : World) (hL : LaidV_laid_math_bits_deBruijn64tab W) :
    Calls Tryd.prog 4 #[.int .u64 a0] W fun e w' => e = .returned (.bool true) ∧ Below W.heap.size W w' := by
  have hT : TabG W := hL
  obtain ⟨b0, b1⟩ := bd_u64 w0
  obtain ⟨k, rfl⟩ := Int.eq_ofNat_of_zero_le b0
  obtain ⟨v, l, r, x, f, c, hc, d1, d2⟩ := dec_both k (by omega)
  have D1 := Lib.hid d1; have D2 := Lib.hid d2
  clear d1 d2 w0
  go_enter Tryd.func4, Tryd.ntmps4
  go_wp2_with (first
    | (go_at_call 15; refine (D1.out _).mono ?_; rintro e w1 ⟨rfl, hb1⟩; obtain ⟨hc1, hf1⟩ := bcell hb1)
    | (go_at_call 16; refine (D2.out _).mono ?_; rintro e w2 ⟨rfl, hb2⟩; obtain ⟨hc2, hf2⟩ := bcell hb2; have hz2 : w1.heap.size < w2.heap.size := (by have := hb2.size; simp at this; omega))
    | (go_at_call 11; refine (num_b _ _ hc).mono ?_; rintro e w7 ⟨rfl, rfl⟩)
    | (go_at_call 14; refine (awake3 _ (by exact hT.below hT.2 (by repeat (first | exact Below.refl _ _ | assumption | refine below_drewN ?_ _ | refine Below.setCell ?_ (by first | exact Nat.le_refl _ | (simp; done) | (simp; omega)) _ | refine bal ?_ _ | refine bgo ?_ (by assumption))))).mono ?_; rintro e w8 ⟨rfl, hb8⟩))
  go_ret
  exact ⟨rfl, (by repeat (first | exact Below.refl _ _ | assumption | refine below_drewN ?_ _ | refine Below.setCell ?_ (by first | exact Nat.le_refl _ | (simp; done) | (simp; omega)) _ | refine bal ?_ _ | refine bgo ?_ (by assumption)))⟩

/-- What a call of one argument comes to, from every world that holds the table. -/
abbrev Gives (F : Nat) (a r : Value) : Prop := ∀ w : World, TabG w → Calls Tryd.prog F #[a] w fun e w' => e = .returned r ∧ Below w.heap.size w w'
theorem back_e (v l r x : Bool) (f : Int) : (∃ n : Int, Gives 9 (entV v l r x f) (.tuple #[.int .u64 n, .int .i64 0]) ∧ Gives 15 (.int .u64 n) (.tuple #[entV v l r x f, .int .i64 0]) ∧ Gives 12 (entV v l r x f) (.bool true)) ∨
    (Gives 9 (entV v l r x f) (.tuple #[.int .u64 0, .int .i64 5]) ∧ Gives 15 (.int .u64 0) (.tuple #[entV false false false false 0, .int .i64 0]) ∧ Gives 12 (entV v l r x f) (.bool false)) := by
  cases h : mayE v l r x f with
  | true =>
    have hf := mayE_f h
    obtain ⟨k, rfl⟩ := Int.eq_ofNat_of_zero_le hf.1
    exact .inl ⟨_, fun w hT => encG_yes v l r x k w h hT, fun w _ => dec_back w h, fun w _ => h ▸ may_any v l r x k w⟩
  | false => exact .inr ⟨fun w hT => enc_no v l r x f w h, fun w _ => dec_yes 0 w (by decide) okW_zero, fun w _ => h ▸ may_any v l r x f w⟩
theorem back_w (w : Nat) (hw : w < 2 ^ 64) : (∃ (v l r x : Bool) (f : Int), Gives 15 (.int .u64 w) (.tuple #[entV v l r x f, .int .i64 0]) ∧ Gives 9 (entV v l r x f) (.tuple #[.int .u64 w, .int .i64 0]) ∧ Gives 12 (entV v l r x f) (.bool true)) ∨
    (Gives 15 (.int .u64 w) (.tuple #[entV false false false false 0, .int .i64 5]) ∧ Gives 9 (entV false false false false 0) (.tuple #[.int .u64 0, .int .i64 0])) := by
  by_cases h : OkW w
  · refine .inl ⟨_, _, _, _, _, fun W _ => dec_yes w W hw h, fun W hT => ?_, fun W _ => h.2 ▸ may_any _ _ _ _ _ W⟩
    have := encG_yes _ _ _ _ _ W h.2 hT
    rw [wordE_nat, okW_back hw h] at this
    exact this
  · exact .inr ⟨fun W _ => dec_no w W hw h, fun W hT => encG_yes false false false false 0 W (by decide) hT⟩

set_option maxHeartbeats 4000000 in
theorem walk_pteBack (a0 : EntryX) (w0 : a0.Ok) (a1 : Int) (w1 : (Lit.int .u64 a1).wf = true) (W : World) (hL : LaidV_laid_math_bits_deBruijn64tab W) :
    Calls Tryd.prog 5 #[a0.val, .int .u64 a1] W fun e w' => e = .returned (.bool true) ∧ Below W.heap.size W w' := by
  have hT : TabG W := hL
  obtain ⟨b0, b1⟩ := bd_u64 w1
  obtain ⟨k, rfl⟩ := Int.eq_ofNat_of_zero_le b0
  obtain ⟨v, l, r, x, f⟩ := a0
  clear w0 w1
  obtain ⟨n, e1, d1, m1⟩ | ⟨e1, d1, m1⟩ := back_e v l r x f
  · obtain ⟨t0, t1, t2, t3, fr, d2, e2, m2⟩ | ⟨d2, e2⟩ := back_w k (by omega)
    · have E1 := Lib.hid e1; have D1 := Lib.hid d1; have M1 := Lib.hid m1; have E2 := Lib.hid e2; have D2 := Lib.hid d2; have M2 := Lib.hid m2
      clear e1 d1 m1 e2 d2 m2
      go_enter Tryd.func5, Tryd.ntmps5
      go_wp2_with (first
        | (go_at_call 9; (with_reducible refine (E1.out _ ?_).mono ?_); rotate_right; rintro e w1 ⟨rfl, hb1⟩; obtain ⟨hc1, hf1⟩ := bcell hb1; have hz1 : W.heap.size < w1.heap.size := (by have := hb1.size; first | omega | (simp at this; omega)))
        | (go_at_call 15; (with_reducible refine (D1.out _ ?_).mono ?_); rotate_right; rintro e w2 ⟨rfl, hb2⟩; obtain ⟨hc2, hf2⟩ := bcell hb2; have hz2 : W.heap.size < w2.heap.size := (by have := hb2.size; first | omega | (simp at this; omega)))
        | (go_at_call 12; (with_reducible refine (M1.out _ ?_).mono ?_); rotate_right; rintro e w3 ⟨rfl, hb3⟩; obtain ⟨hc3, hf3⟩ := bcell hb3; have hz3 : W.heap.size < w3.heap.size := (by have := hb3.size; first | omega | (simp at this; omega)))
        | (go_at_call 15; (with_reducible refine (D2.out _ ?_).mono ?_); rotate_right; rintro e w4 ⟨rfl, hb4⟩; obtain ⟨hc4, hf4⟩ := bcell hb4; have hz4 : W.heap.size < w4.heap.size := (by have := hb4.size; first | omega | (simp at this; omega)))
        | (go_at_call 9; (with_reducible refine (E2.out _ ?_).mono ?_); rotate_right; rintro e w5 ⟨rfl, hb5⟩; obtain ⟨hc5, hf5⟩ := bcell hb5; have hz5 : W.heap.size < w5.heap.size := (by have := hb5.size; first | omega | (simp at this; omega)))
        | (go_at_call 12; (with_reducible refine (M2.out _ ?_).mono ?_); rotate_right; rintro e w6 ⟨rfl, hb6⟩; obtain ⟨hc6, hf6⟩ := bcell hb6; have hz6 : W.heap.size < w6.heap.size := (by have := hb6.size; first | omega | (simp at this; omega)))
        | (go_at_call 14; refine (awake3 _ ?_).mono ?_; rotate_right; rintro e w7 ⟨rfl, hb7⟩))
      all_goals first | exact hT.below hT.2 (by repeat (first | exact Below.refl _ _ | assumption | refine below_drewN ?_ _ | refine Below.setCell ?_ (by first | exact Nat.le_refl _ | (simp; done) | (simp; omega)) _ | refine bal ?_ _ | refine bgo ?_ (by assumption))) | (go_ret; exact ⟨rfl, (by repeat (first | exact Below.refl _ _ | assumption | refine below_drewN ?_ _ | refine Below.setCell ?_ (by first | exact Nat.le_refl _ | (simp; done) | (simp; omega)) _ | refine bal ?_ _ | refine bgo ?_ (by assumption)))⟩)
    · have E1 := Lib.hid e1; have D1 := Lib.hid d1; have M1 := Lib.hid m1; have E2 := Lib.hid e2; have D2 := Lib.hid d2
      clear e1 d1 m1 e2 d2
      go_enter Tryd.func5, Tryd.ntmps5
      go_wp2_with (first
        | (go_at_call 9; (with_reducible refine (E1.out _ ?_).mono ?_); rotate_right; rintro e w1 ⟨rfl, hb1⟩; obtain ⟨hc1, hf1⟩ := bcell hb1; have hz1 : W.heap.size < w1.heap.size := (by have := hb1.size; first | omega | (simp at this; omega)))
        | (go_at_call 15; (with_reducible refine (D1.out _ ?_).mono ?_); rotate_right; rintro e w2 ⟨rfl, hb2⟩; obtain ⟨hc2, hf2⟩ := bcell hb2; have hz2 : W.heap.size < w2.heap.size := (by have := hb2.size; first | omega | (simp at this; omega)))
        | (go_at_call 12; (with_reducible refine (M1.out _ ?_).mono ?_); rotate_right; rintro e w3 ⟨rfl, hb3⟩; obtain ⟨hc3, hf3⟩ := bcell hb3; have hz3 : W.heap.size < w3.heap.size := (by have := hb3.size; first | omega | (simp at this; omega)))
        | (go_at_call 15; (with_reducible refine (D2.out _ ?_).mono ?_); rotate_right; rintro e w4 ⟨rfl, hb4⟩; obtain ⟨hc4, hf4⟩ := bcell hb4; have hz4 : W.heap.size < w4.heap.size := (by have := hb4.size; first | omega | (simp at this; omega)))
        | (go_at_call 9; (with_reducible refine (E2.out _ ?_).mono ?_); rotate_right; rintro e w5 ⟨rfl, hb5⟩; obtain ⟨hc5, hf5⟩ := bcell hb5; have hz5 : W.heap.size < w5.heap.size := (by have := hb5.size; first | omega | (simp at this; omega)))
        | (go_at_call 14; refine (awake3 _ ?_).mono ?_; rotate_right; rintro e w7 ⟨rfl, hb7⟩))
      all_goals first | exact hT.below hT.2 (by repeat (first | exact Below.refl _ _ | assumption | refine below_drewN ?_ _ | refine Below.setCell ?_ (by first | exact Nat.le_refl _ | (simp; done) | (simp; omega)) _ | refine bal ?_ _ | refine bgo ?_ (by assumption))) | (go_ret; exact ⟨rfl, (by repeat (first | exact Below.refl _ _ | assumption | refine below_drewN ?_ _ | refine Below.setCell ?_ (by first | exact Nat.le_refl _ | (simp; done) | (simp; omega)) _ | refine bal ?_ _ | refine bgo ?_ (by assumption)))⟩)
  · obtain ⟨t0, t1, t2, t3, fr, d2, e2, m2⟩ | ⟨d2, e2⟩ := back_w k (by omega)
    · have E1 := Lib.hid e1; have D1 := Lib.hid d1; have M1 := Lib.hid m1; have E2 := Lib.hid e2; have D2 := Lib.hid d2; have M2 := Lib.hid m2
      clear e1 d1 m1 e2 d2 m2
      go_enter Tryd.func5, Tryd.ntmps5
      go_wp2_with (first
        | (go_at_call 9; (with_reducible refine (E1.out _ ?_).mono ?_); rotate_right; rintro e w1 ⟨rfl, hb1⟩; obtain ⟨hc1, hf1⟩ := bcell hb1; have hz1 : W.heap.size < w1.heap.size := (by have := hb1.size; first | omega | (simp at this; omega)))
        | (go_at_call 15; (with_reducible refine (D1.out _ ?_).mono ?_); rotate_right; rintro e w2 ⟨rfl, hb2⟩; obtain ⟨hc2, hf2⟩ := bcell hb2; have hz2 : W.heap.size < w2.heap.size := (by have := hb2.size; first | omega | (simp at this; omega)))
        | (go_at_call 12; (with_reducible refine (M1.out _ ?_).mono ?_); rotate_right; rintro e w3 ⟨rfl, hb3⟩; obtain ⟨hc3, hf3⟩ := bcell hb3; have hz3 : W.heap.size < w3.heap.size := (by have := hb3.size; first | omega | (simp at this; omega)))
        | (go_at_call 15; (with_reducible refine (D2.out _ ?_).mono ?_); rotate_right; rintro e w4 ⟨rfl, hb4⟩; obtain ⟨hc4, hf4⟩ := bcell hb4; have hz4 : W.heap.size < w4.heap.size := (by have := hb4.size; first | omega | (simp at this; omega)))
        | (go_at_call 9; (with_reducible refine (E2.out _ ?_).mono ?_); rotate_right; rintro e w5 ⟨rfl, hb5⟩; obtain ⟨hc5, hf5⟩ := bcell hb5; have hz5 : W.heap.size < w5.heap.size := (by have := hb5.size; first | omega | (simp at this; omega)))
        | (go_at_call 12; (with_reducible refine (M2.out _ ?_).mono ?_); rotate_right; rintro e w6 ⟨rfl, hb6⟩; obtain ⟨hc6, hf6⟩ := bcell hb6; have hz6 : W.heap.size < w6.heap.size := (by have := hb6.size; first | omega | (simp at this; omega)))
        | (go_at_call 14; refine (awake3 _ ?_).mono ?_; rotate_right; rintro e w7 ⟨rfl, hb7⟩))
      all_goals first | exact hT.below hT.2 (by repeat (first | exact Below.refl _ _ | assumption | refine below_drewN ?_ _ | refine Below.setCell ?_ (by first | exact Nat.le_refl _ | (simp; done) | (simp; omega)) _ | refine bal ?_ _ | refine bgo ?_ (by assumption))) | (go_ret; exact ⟨rfl, (by repeat (first | exact Below.refl _ _ | assumption | refine below_drewN ?_ _ | refine Below.setCell ?_ (by first | exact Nat.le_refl _ | (simp; done) | (simp; omega)) _ | refine bal ?_ _ | refine bgo ?_ (by assumption)))⟩)
    · have E1 := Lib.hid e1; have D1 := Lib.hid d1; have M1 := Lib.hid m1; have E2 := Lib.hid e2; have D2 := Lib.hid d2
      clear e1 d1 m1 e2 d2
      go_enter Tryd.func5, Tryd.ntmps5
      go_wp2_with (first
        | (go_at_call 9; (with_reducible refine (E1.out _ ?_).mono ?_); rotate_right; rintro e w1 ⟨rfl, hb1⟩; obtain ⟨hc1, hf1⟩ := bcell hb1; have hz1 : W.heap.size < w1.heap.size := (by have := hb1.size; first | omega | (simp at this; omega)))
        | (go_at_call 15; (with_reducible refine (D1.out _ ?_).mono ?_); rotate_right; rintro e w2 ⟨rfl, hb2⟩; obtain ⟨hc2, hf2⟩ := bcell hb2; have hz2 : W.heap.size < w2.heap.size := (by have := hb2.size; first | omega | (simp at this; omega)))
        | (go_at_call 12; (with_reducible refine (M1.out _ ?_).mono ?_); rotate_right; rintro e w3 ⟨rfl, hb3⟩; obtain ⟨hc3, hf3⟩ := bcell hb3; have hz3 : W.heap.size < w3.heap.size := (by have := hb3.size; first | omega | (simp at this; omega)))
        | (go_at_call 15; (with_reducible refine (D2.out _ ?_).mono ?_); rotate_right; rintro e w4 ⟨rfl, hb4⟩; obtain ⟨hc4, hf4⟩ := bcell hb4; have hz4 : W.heap.size < w4.heap.size := (by have := hb4.size; first | omega | (simp at this; omega)))
        | (go_at_call 9; (with_reducible refine (E2.out _ ?_).mono ?_); rotate_right; rintro e w5 ⟨rfl, hb5⟩; obtain ⟨hc5, hf5⟩ := bcell hb5; have hz5 : W.heap.size < w5.heap.size := (by have := hb5.size; first | omega | (simp at this; omega)))
        | (go_at_call 14; refine (awake3 _ ?_).mono ?_; rotate_right; rintro e w7 ⟨rfl, hb7⟩))
      all_goals first | exact hT.below hT.2 (by repeat (first | exact Below.refl _ _ | assumption | refine below_drewN ?_ _ | refine Below.setCell ?_ (by first | exact Nat.le_refl _ | (simp; done) | (simp; omega)) _ | refine bal ?_ _ | refine bgo ?_ (by assumption))) | (go_ret; exact ⟨rfl, (by repeat (first | exact Below.refl _ _ | assumption | refine below_drewN ?_ _ | refine Below.setCell ?_ (by first | exact Nat.le_refl _ | (simp; done) | (simp; omega)) _ | refine bal ?_ _ | refine bgo ?_ (by assumption)))⟩)

theorem turn_no {v l r x : Bool} {f : Nat} (h : mayE v l r x f = true) (b : Nat) (hb : (4 ≤ b ∧ b < 8) ∨ (14 ≤ b ∧ b < 64)) : ¬ OkW (wordN v l r x f ^^^ 2 ^ b) := fun ⟨hA, _⟩ => by
  obtain ⟨⟨hA0, -⟩, -⟩ := okW_word h
  have h0 : (wordN v l r x f).testBit b = false := by
    cases ht : (wordN v l r x f).testBit b
    · rfl
    · have := hA0 b (by omega) ht; omega
  have := hA b (by omega) (by rw [Nat.testBit_xor, h0, Nat.testBit_two_pow_self]; rfl)
  omega
theorem turn_bits {v l r x : Bool} {f : Nat} (h : mayE v l r x f = true) (b : Nat) (hb : b < 64) : bits BinOp.xor IntKind.u64 (wordE v l r x f) (2 ^ b : Int) = ((wordN v l r x f ^^^ 2 ^ b : Nat) : Int) := by
  have hf := mayE_f h
  have h1 := wordN_lt (v := v) (l := l) (r := r) (x := x) (f := f) (by omega)
  have h2 : (2 : Nat) ^ b < 2 ^ 64 := Nat.pow_lt_pow_right (by decide) hb
  rw [wordE_nat]
  have := u64_xor_nat (wordN v l r x f) (2 ^ b) (by omega) (by omega)
  rw [← this]
  simp

set_option maxHeartbeats 4000000 in
theorem walk_pteTurned (a0 : EntryX) (w0 : a0.Ok) (a1 : Int) (w1 : (Lit.int .i64 a1).wf = true) (W : World) (hL : LaidV_laid_math_bits_deBruijn64tab W) :
    Calls Tryd.prog 6 #[a0.val, .int .i64 a1] W fun e w' => e = .returned (.bool true) ∧ Below W.heap.size W w' := by
  have hT : TabG W := hL
  obtain ⟨v, l, r, x, f⟩ := a0
  obtain ⟨p, hp⟩ : ∃ p, lowN a1 54 = p := ⟨_, rfl⟩
  have hlow : ∀ w : World, Calls Tryd.prog 17 #[.int .i64 a1, .int .i64 54] w fun e w' => e = .returned (.int .i64 p) ∧ w = w' := fun w => hp ▸ low_any a1 54 w (by decide) (by decide)
  obtain ⟨p0, p1⟩ := lowN_bd a1 54 (by decide)
  rw [hp] at p0 p1
  have HL := Lib.hid hlow
  clear hp hlow w0 w1
  cases h : mayE v l r x f with
  | true =>
    have hf := mayE_f h
    obtain ⟨k, rfl⟩ := Int.eq_ofNat_of_zero_le hf.1
    obtain ⟨q, rfl⟩ := Int.eq_ofNat_of_zero_le p0
    have e1 : Gives 9 (entV v l r x k) (.tuple #[.int .u64 (wordE v l r x k), .int .i64 0]) := fun w hT => encG_yes v l r x k w h hT
    have d1 : ∀ b : Nat, ((4 ≤ b ∧ b < 8) ∨ (14 ≤ b ∧ b < 64)) → Gives 15 (.int .u64 (bits BinOp.xor IntKind.u64 (wordE v l r x k) (IntKind.u64.wrap (2 ^ b)))) (.tuple #[entV false false false false 0, .int .i64 5]) := fun b hb W _ => by
      have h2 : (2 : Nat) ^ b < 2 ^ 64 := Nat.pow_lt_pow_right (by decide) (by omega)
      have hw : IntKind.u64.wrap (2 ^ b) = 2 ^ b := by
        rw [IntKind.wrap_u64]
        have e : ((2 : Int) ^ b) = ((2 ^ b : Nat) : Int) := by simp
        rw [e]; clear e; generalize (2 : Nat) ^ b = m at h2; omega
      rw [hw, turn_bits h b (by omega)]
      refine dec_no _ W ?_ (turn_no h b hb)
      exact Nat.xor_lt_two_pow (wordN_lt (by omega)) h2
    obtain ⟨n, hn⟩ : ∃ n, wordE v l r x k = n := ⟨_, rfl⟩
    rw [hn] at e1 d1
    have E1 := Lib.hid e1
    have D1 := Lib.hid d1
    clear e1 d1 hn
    by_cases h4 : q < 4
    all_goals
      go_enter Tryd.func6, Tryd.ntmps6
      go_wp2_with (first
        | (go_at_call 9; (with_reducible refine (E1.out _ ?_).mono ?_); rotate_right; rintro e w1 ⟨rfl, hb1⟩; obtain ⟨hc1, hf1⟩ := bcell hb1; have hz1 : W.heap.size < w1.heap.size := (by have := hb1.size; first | omega | (simp at this; omega)))
        | (go_at_call 17; refine (HL.out _).mono ?_; rintro e w2 ⟨rfl, rfl⟩)
        | (go_at_call 15; (with_reducible refine (D1.out (q + 4) ?_ _ ?_).mono ?_); rotate_right; rintro e w3 ⟨rfl, hb3⟩; obtain ⟨hc3, hf3⟩ := bcell hb3; have hz3 : W.heap.size < w3.heap.size := (by have := hb3.size; first | omega | (simp at this; omega)))
        | (go_at_call 15; (with_reducible refine (D1.out (q + 10) ?_ _ ?_).mono ?_); rotate_right; rintro e w3 ⟨rfl, hb3⟩; obtain ⟨hc3, hf3⟩ := bcell hb3; have hz3 : W.heap.size < w3.heap.size := (by have := hb3.size; first | omega | (simp at this; omega)))
        | (go_at_call 14; refine (awake3 _ ?_).mono ?_; rotate_right; rintro e w7 ⟨rfl, hb7⟩))
      all_goals first | omega | exact hT.below hT.2 (by repeat (first | exact Below.refl _ _ | assumption | refine below_drewN ?_ _ | refine Below.setCell ?_ (by first | exact Nat.le_refl _ | (simp; done) | (simp; omega)) _ | refine bal ?_ _ | refine bgo ?_ (by assumption))) | (go_ret; exact ⟨rfl, (by repeat (first | exact Below.refl _ _ | assumption | refine below_drewN ?_ _ | refine Below.setCell ?_ (by first | exact Nat.le_refl _ | (simp; done) | (simp; omega)) _ | refine bal ?_ _ | refine bgo ?_ (by assumption)))⟩)
  | false =>
    have e1 : Gives 9 (entV v l r x f) (.tuple #[.int .u64 0, .int .i64 5]) := fun w hT => enc_no v l r x f w h
    have E1 := Lib.hid e1
    clear e1
    go_enter Tryd.func6, Tryd.ntmps6
    go_wp2_with (first
      | (go_at_call 9; (with_reducible refine (E1.out _ ?_).mono ?_); rotate_right; rintro e w1 ⟨rfl, hb1⟩; obtain ⟨hc1, hf1⟩ := bcell hb1; have hz1 : W.heap.size < w1.heap.size := (by have := hb1.size; first | omega | (simp at this; omega)))
      | (go_at_call 14; refine (awake3 _ ?_).mono ?_; rotate_right; rintro e w7 ⟨rfl, hb7⟩))
    all_goals first | exact hT.below hT.2 (by repeat (first | exact Below.refl _ _ | assumption | refine below_drewN ?_ _ | refine Below.setCell ?_ (by first | exact Nat.le_refl _ | (simp; done) | (simp; omega)) _ | refine bal ?_ _ | refine bgo ?_ (by assumption))) | (go_ret; exact ⟨rfl, (by repeat (first | exact Below.refl _ _ | assumption | refine below_drewN ?_ _ | refine Below.setCell ?_ (by first | exact Nat.le_refl _ | (simp; done) | (simp; omega)) _ | refine bal ?_ _ | refine bgo ?_ (by assumption)))⟩)
end Go.Proofs.YtdmlcbbheabdpaaDoor
