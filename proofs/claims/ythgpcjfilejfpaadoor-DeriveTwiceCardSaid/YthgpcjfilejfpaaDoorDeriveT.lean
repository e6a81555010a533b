/- The walks of the laws DeriveFalls and DeriveTwice. -/
import Derived.Test.YthgpcjfilejfpaaDoorDeriveW
namespace Go.Proofs.YthgpcjfilejfpaaDoor
set_option linter.unusedVariables false
set_option linter.unusedSimpArgs false
open Go.ChangeShapes Go.WideShapes Go.ChangeAt Go.RowKit

theorem walk_deriveFalls (a0 : CapX) (w0 : a0.Ok) (a1 : Int) (w1 : (Lit.int .i64 a1).wf = true) (a2 : Int) (w2 : (Lit.int .u64 a2).wf = true) (a3 : Bool) (W : World) (hL : LaidV_laid_math_bits_deBruijn64tab W) :
    Calls Tryd.prog 9 #[a0.val, .int .i64 a1, .int .u64 a2, .bool a3] W fun e w' => e = .returned (.bool true) ∧ Below W.heap.size W w' := by
  have hT : TabG W := hL
  have he : a0.e ≤ 9223372036854775807 := w0.2.2.2.2.1.2
  obtain ⟨n0, n1⟩ := bd_u64 w2
  obtain ⟨n, rfl⟩ := Int.eq_ofNat_of_zero_le n0
  obtain ⟨x, j, hj⟩ : ∃ y k, copyX a0 a1 = (y, k) := ⟨_, _, rfl⟩
  obtain ⟨y, k, hk⟩ : ∃ y k, mintX a0 a1 n = (y, k) := ⟨_, _, rfl⟩
  have e1 := copyW a0 a1 hj he
  have e2 := mintW a0 a1 n (by omega) hk he
  have z1 := copy_end hj
  have z2 := (mint_zero hk).2
  have g1 : j = 0 → Good a0 x := fun h => good_copy (h ▸ hj) he
  have g2 : k = 0 → Good a0 y := fun h => good_mint (h ▸ hk) he
  clear hj hk
  obtain ⟨a, b, c, d, e, f, g, h⟩ := a0
  obtain ⟨x1, x2, x3, x4, x5, x6, x7, x8⟩ := x
  obtain ⟨y1, y2, y3, y4, y5, y6, y7, y8⟩ := y
  cases a3 with
  | false =>
    by_cases h0 : j = 0
    · subst h0
      exact falls_cy a b c d e f g h x1 x2 x3 x4 x5 x6 x7 x8 a1 n 0 0 0 0 0 0 0 0 0 0 W hT he e1 (g1 rfl)
    · have hz := z1 h0
      rw [hz] at e1
      exact falls_cn a b c d e f g h x1 x2 x3 x4 x5 x6 x7 x8 a1 n 0 j 0 0 0 0 0 0 0 0 W hT he e1 h0
  | true =>
    by_cases h0 : k = 0
    · subst h0
      exact falls_my a b c d e f g h y1 y2 y3 y4 y5 y6 y7 y8 a1 n j 0 x1 x2 x3 x4 x5 x6 x7 x8 W hT he e1 e2 (g2 rfl)
    · have hz := z2 h0
      rw [hz] at e2
      exact falls_mn a b c d e f g h y1 y2 y3 y4 y5 y6 y7 y8 a1 n j k x1 x2 x3 x4 x5 x6 x7 x8 W hT he e1 e2 h0

theorem low3 (a : Int) : ∃ x : Nat, x ≤ 7 ∧ bits BinOp.and IntKind.i64 a 7 = (x : Int) := by
  have h7 : (BitVec.ofInt 64 7).toNat = 7 := by decide
  have hle : (BitVec.ofInt 64 a).toNat &&& 7 ≤ 7 := Nat.and_le_right
  refine ⟨(BitVec.ofInt 64 a).toNat &&& 7, hle, ?_⟩
  show IntKind.i64.wrap ((BitVec.ofInt 64 a &&& BitVec.ofInt 64 7).toNat : Int) = _
  rw [BitVec.toNat_and, h7]
  exact IntWalk.i64_in _ (by omega)
theorem and_key : ∀ x : Nat, x ≤ 7 → ∀ y : Nat, y ≤ 7 → (maskN x y).toNat ≤ 7 ∧ maskN x y = ((maskN x y).toNat : Nat) := by decide +kernel
theorem and_both {x y : Nat} (hx : x ≤ 7) (hy : y ≤ 7) : ∃ p : Nat, p ≤ 7 ∧ maskN x y = (p : Int) := ⟨_, and_key x hx y hy⟩
theorem key3 : ∀ c : Nat, c ≤ 7 → ∀ m : Nat, m ≤ 7 → ∀ n : Nat, n ≤ 7 → maskN (maskN c m) n = maskN c (maskN m n) := by decide +kernel
theorem mask3 {c m n : Int} (c0 : 0 ≤ c) (c1 : c ≤ 7) (m0 : 0 ≤ m) (m1 : m ≤ 7) (n0 : 0 ≤ n) (n1 : n ≤ 7) : maskN (maskN c m) n = maskN c (maskN m n) := by
  obtain ⟨a, rfl⟩ := Int.eq_ofNat_of_zero_le c0
  obtain ⟨b, rfl⟩ := Int.eq_ofNat_of_zero_le m0
  obtain ⟨d, rfl⟩ := Int.eq_ofNat_of_zero_le n0
  exact key3 a (by omega) b (by omega) d (by omega)
theorem zero_key : ∀ n : Nat, n ≤ 7 → maskN 0 n = 0 := by decide +kernel
theorem mask_zero {n : Int} (n0 : 0 ≤ n) (n1 : n ≤ 7) : maskN 0 n = 0 := by
  obtain ⟨d, rfl⟩ := Int.eq_ofNat_of_zero_le n0
  exact zero_key d (by omega)
/-- A copy of a copy is the copy by both masks. -/
theorem twice (x : CapX) {m n p : Int} (hp : maskN m n = p) (m0 : 0 ≤ m) (m1 : m ≤ 7) (n0 : 0 ≤ n) (n1 : n ≤ 7) (p0 : 0 ≤ p) (p1 : p ≤ 7) (he : x.e ≤ 9223372036854775807) :
    ((copyX x m).2 ≠ 0 → (copyX x p).2 ≠ 0) ∧ ((copyX x m).2 = 0 → ((copyX (copyX x m).1 n).2 = 0 ↔ (copyX x p).2 = 0) ∧ (copyX (copyX x m).1 n).1 = (copyX x p).1) := by
  have hm := mayB_mk m0 m1
  have hn := mayB_mk n0 n1
  have hp' := mayB_mk p0 p1
  cases hB : x.B with
  | false => simp [copyX, hB]
  | true =>
    obtain ⟨a, b, c, d, e, f, g, i⟩ := x
    rcases capB_kind hB with ha | ha | ha | ha | ha | ha
    · simp only at ha; subst ha; simp [copyX, hB, hm, hp']
    · simp only at ha; subst ha; simp [copyX, hB, hm, hp']
    · simp only at ha; subst ha; simp [copyX, hB, hm, hp']
    · simp only at ha; subst ha
      have hcc := cap_c (show capB 3 b c d e f g i = true from hB) (.inl rfl)
      have h3 := mask3 hcc.1 hcc.2 m0 m1 n0 n1
      rw [hp] at h3
      by_cases hq : maskN c m = 0
      · have hz := mask_zero n0 n1
        rw [hq, hz] at h3
        simp [copyX, hB, hm, hp', hq, ← h3]
      · have h1 : copyX ⟨3, b, c, d, e, f, g, i⟩ m = (⟨3, b, maskN c m, d, e, f, 0, 0⟩, 0) := by simp [copyX, hB, hm, hq]
        have hB1 := (good_copy h1 he).2.1
        rw [h1]
        refine ⟨fun hh => absurd rfl hh, fun _ => ?_⟩
        simp only [copyX, hB, hB1, hm, hn, hp', h3]
        by_cases hr : maskN c p = 0 <;> simp [hr]
    · simp only at ha; subst ha
      have hcc := cap_c (show capB 8 b c d e f g i = true from hB) (.inr rfl)
      have h3 := mask3 hcc.1 hcc.2 m0 m1 n0 n1
      rw [hp] at h3
      have h1 : copyX ⟨8, b, c, d, e, f, g, i⟩ m = (⟨8, b, maskN c m, d, e, f, g, i⟩, 0) := by simp [copyX, hB, hm]
      have hB1 := (good_copy h1 he).2.1
      rw [h1]
      refine ⟨fun hh => absurd rfl hh, fun _ => ?_⟩
      simp [copyX, hB, hB1, hm, hn, hp', h3]
    · simp only at ha
      have k0 : ¬ a = 0 := by omega
      have k1 : ¬ (a = 1 ∨ a = 7) := by omega
      have k3 : ¬ a = 3 := by omega
      have k8 : ¬ a = 8 := by omega
      have h1 : ∀ q, mayB q = true → copyX ⟨a, b, c, d, e, f, g, i⟩ q = (⟨a, b, c, d, e, f, g, i⟩, 0) := by
        intro q hq
        simp only [copyX, hB, hq, Bool.true_eq_false, or_self, if_neg k0, if_neg k1, if_neg k3, if_neg k8, if_false]
      rw [h1 m hm, h1 p hp']
      simp [h1 n hn]
set_option maxRecDepth 100000 in
set_option maxHeartbeats 2000000 in
theorem twice_n (a b c d e f g h x1 x2 x3 x4 x5 x6 x7 x8 y1 y2 y3 y4 y5 y6 y7 y8 z1 z2 z3 z4 z5 z6 z7 z8 a1 a2 i j k : Int) (m n p : Nat) (W : World) (hT : TabG W) (em : bits BinOp.and IntKind.i64 a1 7 = (m : Int)) (en : bits BinOp.and IntKind.i64 a2 7 = (n : Int)) (ep : bits BinOp.and IntKind.i64 (m : Int) (n : Int) = (p : Int))
    (h1 : Gives 25 #[capV a b c d e f g h, .int .i64 m] (.tuple #[capV x1 x2 x3 x4 x5 x6 x7 x8, .int .i64 i]))
    (h2 : Gives 25 #[capV x1 x2 x3 x4 x5 x6 x7 x8, .int .i64 n] (.tuple #[capV y1 y2 y3 y4 y5 y6 y7 y8, .int .i64 j]))
    (h3 : Gives 25 #[capV a b c d e f g h, .int .i64 p] (.tuple #[capV z1 z2 z3 z4 z5 z6 z7 z8, .int .i64 k])) (hi : (i != 0) = true) (hk : (k != 0) = true) :
    Calls Tryd.prog 10 #[capV a b c d e f g h, .int .i64 a1, .int .i64 a2] W fun r W' => r = .returned (.bool true) ∧ Below W.heap.size W W' := by
  have H1 := Lib.hid h1
  have H2 := Lib.hid h2
  have H3 := Lib.hid h3
  clear h1 h2 h3
  go_enter Tryd.func10, Tryd.ntmps10
  go_wp2_with (first
    | (have _t := hb2; go_at_call 25; refine (H3.out _ (by exact hT.call (by repeat (first | with_reducible exact Below.refl _ _ | with_reducible assumption | with_reducible refine below_drewN ?_ _ | with_reducible refine Below.drew ?_ | with_reducible refine bal ?_ _ | with_reducible refine bgo ?_ (by with_reducible assumption) | refine Below.setCell ?_ (by first | exact Nat.le_refl _ | (simp; done) | (simp; omega)) _)))).mono ?_; rintro r w3 ⟨rfl, hb3⟩; obtain ⟨hc3, hf3⟩ := bcell hb3; have hy := hb3.size; (try simp at hy); have hz31 : w1.heap.size < w3.heap.size := (by omega); have hz30 : W.heap.size < w3.heap.size := (by omega); have hz32 : w2.heap.size < w3.heap.size := (by omega); clear hy)
    | (have _t := hb1; go_at_call 25; refine (H2.out _ (by exact hT.call (by repeat (first | with_reducible exact Below.refl _ _ | with_reducible assumption | with_reducible refine below_drewN ?_ _ | with_reducible refine Below.drew ?_ | with_reducible refine bal ?_ _ | with_reducible refine bgo ?_ (by with_reducible assumption) | refine Below.setCell ?_ (by first | exact Nat.le_refl _ | (simp; done) | (simp; omega)) _)))).mono ?_; rintro r w2 ⟨rfl, hb2⟩; obtain ⟨hc2, hf2⟩ := bcell hb2; have hy := hb2.size; (try simp at hy); have hz21 : w1.heap.size < w2.heap.size := (by omega); have hz20 : W.heap.size < w2.heap.size := (by omega); clear hy)
    | (go_at_call 25; refine (H1.out _ (by exact hT.call (by repeat (first | with_reducible exact Below.refl _ _ | with_reducible assumption | with_reducible refine below_drewN ?_ _ | with_reducible refine Below.drew ?_ | with_reducible refine bal ?_ _ | with_reducible refine bgo ?_ (by with_reducible assumption) | refine Below.setCell ?_ (by first | exact Nat.le_refl _ | (simp; done) | (simp; omega)) _)))).mono ?_; rintro r w1 ⟨rfl, hb1⟩; obtain ⟨hc1, hf1⟩ := bcell hb1; have hz1 : W.heap.size < w1.heap.size := (by have := hb1.size; simp at this; omega))
    | (go_at_call 27; refine (awake14 _ (by exact hT.call (by repeat (first | with_reducible exact Below.refl _ _ | with_reducible assumption | with_reducible refine below_drewN ?_ _ | with_reducible refine Below.drew ?_ | with_reducible refine bal ?_ _ | with_reducible refine bgo ?_ (by with_reducible assumption) | refine Below.setCell ?_ (by first | exact Nat.le_refl _ | (simp; done) | (simp; omega)) _)))).mono ?_; rintro r w6 ⟨rfl, hb6⟩))
  go_ret
  exact ⟨rfl, (by repeat (first | with_reducible exact Below.refl _ _ | with_reducible assumption | with_reducible refine below_drewN ?_ _ | with_reducible refine Below.drew ?_ | with_reducible refine bal ?_ _ | with_reducible refine bgo ?_ (by with_reducible assumption) | refine Below.setCell ?_ (by first | exact Nat.le_refl _ | (simp; done) | (simp; omega)) _))⟩
set_option maxRecDepth 100000 in
set_option maxHeartbeats 2000000 in
theorem twice_y (a b c d e f g h x1 x2 x3 x4 x5 x6 x7 x8 y1 y2 y3 y4 y5 y6 y7 y8 z1 z2 z3 z4 z5 z6 z7 z8 a1 a2 i j k : Int) (m n p : Nat) (W : World) (hT : TabG W) (em : bits BinOp.and IntKind.i64 a1 7 = (m : Int)) (en : bits BinOp.and IntKind.i64 a2 7 = (n : Int)) (ep : bits BinOp.and IntKind.i64 (m : Int) (n : Int) = (p : Int))
    (h1 : Gives 25 #[capV a b c d e f g h, .int .i64 m] (.tuple #[capV x1 x2 x3 x4 x5 x6 x7 x8, .int .i64 i]))
    (h2 : Gives 25 #[capV x1 x2 x3 x4 x5 x6 x7 x8, .int .i64 n] (.tuple #[capV y1 y2 y3 y4 y5 y6 y7 y8, .int .i64 j]))
    (h3 : Gives 25 #[capV a b c d e f g h, .int .i64 p] (.tuple #[capV y1 y2 y3 y4 y5 y6 y7 y8, .int .i64 k])) (hi : i = 0) (t : Bool) (hj : (j == 0) = t) (hk : (k == 0) = t) :
    Calls Tryd.prog 10 #[capV a b c d e f g h, .int .i64 a1, .int .i64 a2] W fun r W' => r = .returned (.bool true) ∧ Below W.heap.size W W' := by
  subst hi
  have H1 := Lib.hid h1
  have H2 := Lib.hid h2
  have H3 := Lib.hid h3
  clear h1 h2 h3
  cases t
  all_goals
   go_enter Tryd.func10, Tryd.ntmps10
   go_wp2_with (first
     | (have _t := hb2; go_at_call 25; refine (H3.out _ (by exact hT.call (by repeat (first | with_reducible exact Below.refl _ _ | with_reducible assumption | with_reducible refine below_drewN ?_ _ | with_reducible refine Below.drew ?_ | with_reducible refine bal ?_ _ | with_reducible refine bgo ?_ (by with_reducible assumption) | refine Below.setCell ?_ (by first | exact Nat.le_refl _ | (simp; done) | (simp; omega)) _)))).mono ?_; rintro r w3 ⟨rfl, hb3⟩; obtain ⟨hc3, hf3⟩ := bcell hb3; have hy := hb3.size; (try simp at hy); have hz31 : w1.heap.size < w3.heap.size := (by omega); have hz30 : W.heap.size < w3.heap.size := (by omega); have hz32 : w2.heap.size < w3.heap.size := (by omega); clear hy)
     | (have _t := hb1; go_at_call 25; refine (H2.out _ (by exact hT.call (by repeat (first | with_reducible exact Below.refl _ _ | with_reducible assumption | with_reducible refine below_drewN ?_ _ | with_reducible refine Below.drew ?_ | with_reducible refine bal ?_ _ | with_reducible refine bgo ?_ (by with_reducible assumption) | refine Below.setCell ?_ (by first | exact Nat.le_refl _ | (simp; done) | (simp; omega)) _)))).mono ?_; rintro r w2 ⟨rfl, hb2⟩; obtain ⟨hc2, hf2⟩ := bcell hb2; have hy := hb2.size; (try simp at hy); have hz21 : w1.heap.size < w2.heap.size := (by omega); have hz20 : W.heap.size < w2.heap.size := (by omega); clear hy)
     | (go_at_call 25; refine (H1.out _ (by exact hT.call (by repeat (first | with_reducible exact Below.refl _ _ | with_reducible assumption | with_reducible refine below_drewN ?_ _ | with_reducible refine Below.drew ?_ | with_reducible refine bal ?_ _ | with_reducible refine bgo ?_ (by with_reducible assumption) | refine Below.setCell ?_ (by first | exact Nat.le_refl _ | (simp; done) | (simp; omega)) _)))).mono ?_; rintro r w1 ⟨rfl, hb1⟩; obtain ⟨hc1, hf1⟩ := bcell hb1; have hz1 : W.heap.size < w1.heap.size := (by have := hb1.size; simp at this; omega))
     | (go_at_call 27; refine (awake14 _ (by exact hT.call (by repeat (first | with_reducible exact Below.refl _ _ | with_reducible assumption | with_reducible refine below_drewN ?_ _ | with_reducible refine Below.drew ?_ | with_reducible refine bal ?_ _ | with_reducible refine bgo ?_ (by with_reducible assumption) | refine Below.setCell ?_ (by first | exact Nat.le_refl _ | (simp; done) | (simp; omega)) _)))).mono ?_; rintro r w6 ⟨rfl, hb6⟩))
   go_ret
   exact ⟨rfl, (by repeat (first | with_reducible exact Below.refl _ _ | with_reducible assumption | with_reducible refine below_drewN ?_ _ | with_reducible refine Below.drew ?_ | with_reducible refine bal ?_ _ | with_reducible refine bgo ?_ (by with_reducible assumption) | refine Below.setCell ?_ (by first | exact Nat.le_refl _ | (simp; done) | (simp; omega)) _))⟩

theorem walk_deriveTwice (a0 : CapX) (w0 : a0.Ok) (a1 : Int) (w1 : (Lit.int .i64 a1).wf = true) (a2 : Int) (w2 : (Lit.int .i64 a2).wf = true) (W : World) (hL : LaidV_laid_math_bits_deBruijn64tab W) :
    Calls Tryd.prog 10 #[a0.val, .int .i64 a1, .int .i64 a2] W fun e w' => e = .returned (.bool true) ∧ Below W.heap.size W w' := by
  have hT : TabG W := hL
  have he : a0.e ≤ 9223372036854775807 := w0.2.2.2.2.1.2
  obtain ⟨m, hm, em⟩ := low3 a1
  obtain ⟨n, hn, en⟩ := low3 a2
  obtain ⟨p, hp, ep⟩ := and_both hm hn
  have ht := twice a0 ep (by omega) (by omega) (by omega) (by omega) (by omega) (by omega) he
  obtain ⟨x, i, hi⟩ : ∃ y k, copyX a0 m = (y, k) := ⟨_, _, rfl⟩
  obtain ⟨y, j, hj⟩ : ∃ y k, copyX x n = (y, k) := ⟨_, _, rfl⟩
  obtain ⟨z, k, hk⟩ : ∃ y k, copyX a0 p = (y, k) := ⟨_, _, rfl⟩
  have hxe : x.e ≤ 9223372036854775807 := by
    by_cases h0 : i = 0
    · subst h0; exact (good_copy hi he).2.2.2.2.2.2.2.2.2.2.2
    · rw [copy_end hi h0]; decide
  have h1 := copyW a0 m hi he
  have h2 := copyW x n hj hxe
  have h3 := copyW a0 p hk he
  rw [hi, hk] at ht
  simp only at ht
  rw [hj] at ht
  simp only at ht
  obtain ⟨a, b, c, d, e, f, g, h⟩ := a0
  obtain ⟨x1, x2, x3, x4, x5, x6, x7, x8⟩ := x
  obtain ⟨y1, y2, y3, y4, y5, y6, y7, y8⟩ := y
  obtain ⟨z1, z2, z3, z4, z5, z6, z7, z8⟩ := z
  by_cases h0 : i = 0
  · obtain ⟨t1, t2⟩ := ht.2 h0
    rw [← t2] at h3
    exact twice_y a b c d e f g h x1 x2 x3 x4 x5 x6 x7 x8 y1 y2 y3 y4 y5 y6 y7 y8 0 0 0 0 0 0 0 0 a1 a2 i j k m n p W hT em en ep h1 h2 h3 h0 (k == 0) (by rw [Bool.eq_iff_iff, beq_iff_eq, beq_iff_eq]; exact t1) rfl
  · exact twice_n a b c d e f g h x1 x2 x3 x4 x5 x6 x7 x8 y1 y2 y3 y4 y5 y6 y7 y8 z1 z2 z3 z4 z5 z6 z7 z8 a1 a2 i j k m n p W hT em en ep h1 h2 h3 (bne_iff_ne.2 h0) (bne_iff_ne.2 (ht.1 h0))
end Go.Proofs.YthgpcjfilejfpaaDoor
